/- The document's rows. -/
import Derived.Test.YtnchaidmbdalbaaDoorWalkG
namespace Go.Proofs.YtnchaidmbdalbaaDoor
open Go.RowKit

theorem intsIn_new (w : World) (p : List Int) (C : Array Value) (hC : C = (p.map (Value.int .i64)).toArray) (n : Nat) (hn : n = p.length) : IntsIn (w.alloc (.cells C 3)) (.slice (some ⟨w.heap.size, 0, none⟩) n n) p := by
  subst hn hC
  refine .inr ⟨_, _, _, rfl, fun j hj => ?_⟩
  have h := World.cell?_alloc_mark w (p.map (Value.int .i64)).toArray 3 (0, 0) (0 + j)
  rw [h]
  simp [List.getElem?_eq_getElem hj]
theorem bytesIn_new (w : World) (l : List UInt8) (C : Array Value) (hC : C = (Lib.byteCells l).toArray) (n : Nat) (hn : n = l.length) (fr : Nat × Nat) : BytesIn (w.alloc (.cells C 5 fr)) (.slice (some ⟨w.heap.size, 0, none⟩) n n) l := by
  subst hn hC
  refine .inr ⟨_, _, _, rfl, fun j hj => ?_⟩
  have h := World.cell?_alloc_mark w (Lib.byteCells l).toArray 5 fr (0 + j)
  rw [h]
  simp [Lib.byteCells, List.getElem?_eq_getElem hj]

theorem row1 : dec [97, 195, 164] = [97, 195, 164] := by decide
theorem row2 : dec [195, 97] = [239, 191, 189, 97] := by decide
theorem row3 : dec [237, 160, 128] = [239, 191, 189, 239, 191, 189, 239, 191, 189] := by decide
theorem row4 : pts [97, 195, 164] = [97, 228] := by decide
theorem row5 : textV [65533, 97] = .tuple #[.string ⟨#[239, 191, 189, 97]⟩, .int .i64 0] := by rfl
theorem row6 : textV [55296] = .tuple #[.string ⟨#[]⟩, .int .i64 1] := by rfl

set_option maxRecDepth 100000 in
set_option maxHeartbeats 2000000 in
theorem decodes_any (w : World) (hT : Lib.Utf8Tabs 0 1 w) :
    Calls Tryd.prog 11 #[] w fun e w' => e = .returned (.bool true) ∧ Below w.heap.size w w' := by
  have kc := fun (w : World) (C : Array Value) (n c : Nat) => Lib.run_convert_bytes_const (P := Tryd.prog) w 22 5 C n c Tryd.underlying22 Tryd.underlying5
  go_enter Tryd.func11, Tryd.ntmps11
  go_wp2_with fail
  refine (text_any [65533, 97] _ _ (by simp) (intsIn_new w [65533, 97] _ rfl 2 rfl)).mono ?_
  rintro e w1 ⟨rfl, hb1⟩
  rw [row5]
  have B1 : Below w.heap.size w w1 := ((Below.refl _ _).alloc (Nat.le_refl _) _).trans (hb1.mono (by simp))
  clear hb1
  go_wp2_with fail
  refine (text_any [55296] _ _ (by simp) (intsIn_new w1 [55296] _ rfl 1 rfl)).mono ?_
  rintro e w2 ⟨rfl, hb2⟩
  rw [row6]
  have B2 : Below w.heap.size w w2 := B1.trans (((Below.refl _ _).alloc (Nat.le_refl _) _).trans (hb2.mono (by simp)) |>.mono B1.size)
  clear hb2 B1
  go_wp2_with fail
  refine (decode_any [97, 195, 164] _ _ (by simp) (bytesIn_new w2 [97, 195, 164] _ rfl 3 rfl _) (tabs_below hT (B2.alloc B2.size _))).mono ?_
  rintro e w3 ⟨rfl, hb3⟩
  rw [row1]
  have B3 : Below w.heap.size w w3 := B2.trans (((Below.refl _ _).alloc (Nat.le_refl _) _).trans (hb3.mono (by simp)) |>.mono B2.size)
  clear hb3 B2
  go_wp2_with fail
  refine (decode_any [195, 97] _ _ (by simp) (bytesIn_new w3 [195, 97] _ rfl 2 rfl _) (tabs_below hT (B3.alloc B3.size _))).mono ?_
  rintro e w4 ⟨rfl, hb4⟩
  rw [row2]
  have B4 : Below w.heap.size w w4 := B3.trans (((Below.refl _ _).alloc (Nat.le_refl _) _).trans (hb4.mono (by simp)) |>.mono B3.size)
  clear hb4 B3
  go_wp2_with fail
  refine (decode_any [237, 160, 128] _ _ (by simp) (bytesIn_new w4 [237, 160, 128] _ rfl 3 rfl _) (tabs_below hT (B4.alloc B4.size _))).mono ?_
  rintro e w5 ⟨rfl, hb5⟩
  rw [row3]
  have B5 : Below w.heap.size w w5 := B4.trans (((Below.refl _ _).alloc (Nat.le_refl _) _).trans (hb5.mono (by simp)) |>.mono B4.size)
  clear hb5 B4
  go_wp2_with fail
  have hp6 := points_any ⟨#[97, 195, 164]⟩ w5 (by show 3 ≤ _; omega)
  simp only [row4] at hp6
  refine hp6.mono ?_
  rintro e w6 ⟨v6, rfl, hown6, hb6⟩
  have B6 : Below w.heap.size w w6 := B5.trans (hb6.mono B5.size)
  have hin6 := IntsIn.of_row hown6
  clear hb6 B5 hp6
  go_wp2_with fail
  have hnew := intsIn_new w6 [97, 228] _ rfl 2 rfl
  refine (ints_any [97, 228] [97, 228] _ _ _ (hin6.below ((Below.refl _ _).alloc (Nat.le_refl _) _)) hnew (by simp) (by simp)).mono ?_
  rintro e w7 ⟨rfl, n7, rfl⟩
  rw [show eqL [97, 228] [97, 228] = true from rfl]
  go_wp2
  go_ret
  exact ⟨rfl, below_drewN (B6.alloc B6.size _) _⟩

end Go.Proofs.YtnchaidmbdalbaaDoor
