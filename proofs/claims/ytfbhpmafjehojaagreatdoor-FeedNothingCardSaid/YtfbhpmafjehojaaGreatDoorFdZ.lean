/- The Feeder: what it took; New, Count; a document's add. A document's add, its end. A document's end. The Feeder's New, Feed, Count; a whole's text. -/
import Derived.Test.YtfbhpmafjehojaaGreatDoorEntY
import Derived.Test.YtfbhpmafjehojaaGreatDoorTokG
import Derived.Test.YtfbhpmafjehojaaGreatDoorUFE
namespace Go.Proofs.YtfbhpmafjehojaaGreatDoor.U1
open Go.RowKit

/-- A world in which the variables read as they begin, the two tables of unicode/utf8 among them. -/
def Lw (w : World) : Prop := Low w ∧ Lib.Utf8Tabs 0 1 w
theorem Lw.below {w w' : World} (h : Lw w) (b : Below w.heap.size w w') : Lw w' := ⟨h.1.below b, tabs_below h.2 b⟩
/-- What is behind the bytes' reader in a Feeder that took m. -/
def fdX (m : List UInt8) : List Value := [.string ⟨(told m).toArray⟩, .int .i64 (m.length : Int)]
/-- A Feeder at block R that took m. -/
def FdAt (w : World) (R : Nat) (m : List UInt8) : Prop := ∃ ks, RdAt w R ks (rest m).length 57 (fdX m) ∧ ks.take (rest m).length = rest m
/-- R's own block alone turns. -/
def isR (R : Nat) : Nat → TypeId → Prop := fun k _ => k = R
theorem FdAt.lt {w : World} {R : Nat} {m : List UInt8} (h : FdAt w R m) : R < w.heap.size := by
  obtain ⟨ks, h1, _⟩ := h
  exact lt_of_block h1.2.2
theorem FdAt.same {w w' : World} {R : Nat} {m : List UInt8} (h : FdAt w R m) (hk : w'.heap[R]? = w.heap[R]?) : FdAt w' R m := by
  obtain ⟨ks, h1, h2⟩ := h
  exact ⟨ks, ⟨h1.1, h1.2.1, by rw [hk]; exact h1.2.2⟩, h2⟩
theorem FdAt.below {w w' : World} {R : Nat} {m : List UInt8} (h : FdAt w R m) (b : Below w.heap.size w w') : FdAt w' R m := h.same (b.block R h.lt)
theorem rd4 {ks : List UInt8} (h : ks.length = 3) (n : Nat) (x y : Value) : (rdCells ks n [x, y])[4]? = some x ∧ (rdCells ks n [x, y])[5]? = some y := by
  match ks, h with
  | [a, b, c], _ => exact ⟨rfl, rfl⟩
theorem FdAt.count {w : World} {R : Nat} {m : List UInt8} (h : FdAt w R m) : w.cell? ⟨R, 5, none⟩ = some (.int .i64 (m.length : Int)) := by
  obtain ⟨ks, h1, _⟩ := h
  rw [cell_of h1.2.2]
  exact (rd4 h1.1 _ _ _).2
theorem FdAt.new (w : World) : FdAt (w.alloc (.cells #[.int .u8 0, .int .u8 0, .int .u8 0, .int .i64 0, .string ⟨#[]⟩, .int .i64 0] 57)) w.heap.size [] := ⟨[0, 0, 0], ⟨rfl, Nat.zero_le _, new_block w _⟩, rfl⟩
/-- What a call leaves that turns R's own block alone. -/
theorem kp_of {w w' : World} {R : Nat} {m : List UInt8} (h : FdAt w R m) (hb : Below R w w') (hs : ∀ b, b < w.heap.size → b ≠ R → w'.heap[b]? = w.heap[b]?) : Kp (isR R) w w' :=
  ⟨hb.os, hb.tape, hb.output, hb.size, fun k o hk hn => (hs k (lt_of_block hk) fun e => by
    obtain ⟨ks, h1, _⟩ := h
    have h2 := h1.2.2
    rw [e] at hk
    rw [hk] at h2
    exact hn _ _ _ (Option.some.inj h2) e).trans hk⟩
theorem kpR_below {w0 w w' : World} {R B : Nat} (h : Kp (isR R) w w') (hB : B ≤ R) (hw : R < w.heap.size) (h0 : Below B w0 w) : Below B w0 w' := h0.trans (h.below (fun k t e => by rw [show k = R from e]; exact hB) (by omega))
/-- A row that is behind R's block stays. -/
theorem kpR_toks {w w' : World} {R B m : Nat} {tv : Value} {T : List Tk} (h : OwnT w B m tv T) (k : Kp (isR R) w w') (hR : R < B) : OwnT w' B m tv T := h.kp k (fun j hj _ e => by have : j = R := e; omega) (fun j _ hj e => by have : j = R := e; omega)
theorem kpR_row {w w' : World} {R base size n : Nat} {e : TypeId} {v : Value} {xs : List Value} (h : w.ownsRow base e size v n xs) (k : Kp (isR R) w w') (hR : R < base) : w'.ownsRow base e size v n xs := k.row h fun j _ hj e => by have : j = R := e; omega

end Go.Proofs.YtfbhpmafjehojaaGreatDoor.U1

namespace Go.Proofs.YtfbhpmafjehojaaGreatDoor.U1
open Go.RowKit

theorem set45 {ks : List UInt8} (h : ks.length = 3) (n : Nat) (x y x' y' : Value) : ((rdCells ks n [x, y]).setIfInBounds 4 x').setIfInBounds 5 y' = rdCells ks n [x', y'] := by
  match ks, h with
  | [a, b, c], _ => simp [rdCells, Lib.byteCells]
set_option maxRecDepth 100000 in
set_option maxHeartbeats 4000000 in
theorem add_any (R : Nat) (m b : List UInt8) (v : Value) (w : World) (h : FdAt w R m) (hb : BytesIn w v b) (hl : m.length + b.length ≤ 20000) (hT : Lib.Utf8Tabs 0 1 w) :
    Calls Tryz.prog 23 #[.pointer (some ⟨R, 0, none⟩), v] w fun e w' => e = .returned (.tuple #[]) ∧ Kp (isR R) w w' ∧ FdAt w' R (m ++ b) := by
  obtain ⟨a, c, rfl⟩ := hb.form
  have h0 := h
  obtain ⟨ks, h1, h2⟩ := h
  have hf := feed_any R _ 57 (fdX m) ks b (.slice a b.length c) w w R (Below.refl _ _) (Nat.le_refl _) h1 hb (by omega) hT
  rw [h2] at hf
  have e1 := told_app m b
  have e2 := (tell_app m b).2
  have hsum : ((⟨(told m).toArray⟩ : ByteArray) ++ ⟨(told (rest m ++ b)).toArray⟩) = ⟨(told (m ++ b)).toArray⟩ := by
    apply ByteArray.ext
    apply Array.toList_inj.1
    simp [e1]
  have hadd := fun (W : World) => run_string_add_sum (P := Tryz.prog) W ⟨(told m).toArray⟩ ⟨(told (rest m ++ b)).toArray⟩ (by
    rw [bsize, bsize, ← List.length_append, ← e1]
    have := told_len (m ++ b)
    rw [List.length_append] at this
    omega)
  simp only [hsum] at hadd
  rw [← e2] at hf
  have hlen : ((m.length : Int) + (b.length : Int)) = ((m ++ b).length : Int) := by rw [List.length_append]; omega
  have HF := Lib.hid hf
  have H0 := Lib.hid h0
  have HL := Lib.hid hl
  clear hf h0 h1 h2 e1 e2 hsum hb hT
  unfold fdX at HF
  generalize told (rest m ++ b) = T2 at *
  go_enter Tryz.func23, Tryz.ntmps23
  go_wp2_with fail
  refine HF.out.mono ?_
  rintro e w2 ⟨rfl, B2, hs2, hz2, ks2, r2, k2⟩
  have K2 := Lib.hid (kp_of H0.out B2 hs2)
  have hg := r2.2.2
  obtain ⟨c4, c5⟩ := rd4 r2.1 (rest (m ++ b)).length (.string ⟨(told m).toArray⟩) (.int .i64 (m.length : Int))
  rw [← cell_of hg] at c4 c5
  have f4 := frozen_of_row w2 R 4 _ _ hg
  have hg3 := heap_setCell_same w2 R 4 _ _ (0, 0) (.string ⟨(told (m ++ b)).toArray⟩) hg
  have d5 : (w2.setCell ⟨R, 4, none⟩ (.string ⟨(told (m ++ b)).toArray⟩)).cell? ⟨R, 5, none⟩ = some (.int .i64 (m.length : Int)) := by
    rw [cell_of hg3, Array.getElem?_setIfInBounds_ne (by decide), ← cell_of hg]
    exact c5
  have f5 := frozen_of_row _ R 5 _ _ hg3
  have hg4 := heap_setCell_same _ R 5 _ _ (0, 0) (.int .i64 ((m.length : Int) + (b.length : Int))) hg3
  rw [set45 r2.1, hlen] at hg4
  have HX := Lib.hid (And.intro r2.1 (And.intro r2.2.1 (And.intro k2 (And.intro hg (And.intro hg3 hg4)))))
  have HN := Lib.hid hlen
  clear B2 hs2 hz2 r2 k2 hg hg3 hg4 HF H0 hlen
  go_wp2
  go_end0
  rw [HN.out]
  refine ⟨rfl, ?_, ?_⟩
  · exact (K2.out.trans (Kp.of_set HX.out.2.2.2.1 _ rfl)).trans (Kp.of_set HX.out.2.2.2.2.1 _ rfl)
  · exact ⟨ks2, ⟨HX.out.1, HX.out.2.1, HX.out.2.2.2.2.2⟩, HX.out.2.2.1⟩

end Go.Proofs.YtfbhpmafjehojaaGreatDoor.U1

namespace Go.Proofs.YtfbhpmafjehojaaGreatDoor.U1
open Go.RowKit

set_option maxRecDepth 100000 in
set_option maxHeartbeats 4000000 in
theorem endD_any (R : Nat) (m : List UInt8) (w : World) (h : FdAt w R m) (hl : m.length ≤ 20000) (hT : Lib.Utf8Tabs 0 1 w) :
    Calls Tryz.prog 24 #[.pointer (some ⟨R, 0, none⟩)] w fun e w' => e = .returned (.string ⟨(dec m).toArray⟩) ∧ Kp (isR R) w w' ∧ FdAt w' R [] := by
  have h0 := h
  obtain ⟨ks, h1, h2⟩ := h
  have hf := end_any R _ 57 (fdX m) ks w w R (Below.refl _ _) (Nat.le_refl _) h1 hT
  rw [h2] at hf
  have e1 := told_end m
  have hsum : ((⟨(told m).toArray⟩ : ByteArray) ++ ⟨(dec (rest m)).toArray⟩) = ⟨(dec m).toArray⟩ := by
    apply ByteArray.ext
    apply Array.toList_inj.1
    simp [e1]
  have hadd := fun (W : World) => run_string_add_sum (P := Tryz.prog) W ⟨(told m).toArray⟩ ⟨(dec (rest m)).toArray⟩ (by
    rw [bsize, bsize, ← List.length_append, e1]
    have h2 := (encs_len_le (pts m)).2
    have h3 := (pts_len m).1
    have h5 : (dec m).length = (encs (pts m)).length := rfl
    omega)
  simp only [hsum] at hadd
  have HF := Lib.hid hf
  have H0 := Lib.hid h0
  clear hf h0 h1 h2 e1 hsum hT
  unfold fdX at HF
  generalize dec (rest m) = T2 at *
  generalize dec m = T3 at *
  go_enter Tryz.func24, Tryz.ntmps24
  go_wp2_with fail
  refine HF.out.mono ?_
  rintro e w2 ⟨rfl, B2, hs2, hz2, ks2, r2⟩
  have K2 := Lib.hid (kp_of H0.out B2 hs2)
  have hg := r2.2.2
  have c4 := (rd4 r2.1 0 (.string ⟨(told m).toArray⟩) (.int .i64 (m.length : Int))).1
  rw [← cell_of hg] at c4
  obtain ⟨x0, x1, x2, hx⟩ : ∃ x0 x1 x2, ks2 = [x0, x1, x2] := by
    match ks2, r2.1 with
    | [x0, x1, x2], _ => exact ⟨_, _, _, rfl⟩
  subst hx
  have hgg : w2.heap[R]? = some (.cells #[.int .u8 (x0.toNat : Int), .int .u8 (x1.toNat : Int), .int .u8 (x2.toNat : Int), .int .i64 0, .string ⟨(told m).toArray⟩, .int .i64 (m.length : Int)] 57 (0, 0)) := hg
  have HX := Lib.hid hgg
  have f0 := frozen_of_row w2 R 0 _ _ hgg
  have f1 := frozen_of_row w2 R 1 _ _ hgg
  have f2 := frozen_of_row w2 R 2 _ _ hgg
  have f3 := frozen_of_row w2 R 3 _ _ hgg
  have f4 := frozen_of_row w2 R 4 _ _ hgg
  have f5 := frozen_of_row w2 R 5 _ _ hgg
  have e0 := cell_of hgg 0
  have e1 := cell_of hgg 1
  have e2 := cell_of hgg 2
  have e3 := cell_of hgg 3
  have e4 := cell_of hgg 4
  have e5 := cell_of hgg 5
  clear B2 hs2 hz2 r2 hg hgg HF H0
  go_wp2
  go_ret
  have h0 := HX.out
  have h1 := heap_setCell_same _ R 0 _ _ (0, 0) (.int .u8 0) h0
  have h2 := heap_setCell_same _ R 1 _ _ (0, 0) (.int .u8 0) h1
  have h3 := heap_setCell_same _ R 2 _ _ (0, 0) (.int .u8 0) h2
  have h4 := heap_setCell_same _ R 3 _ _ (0, 0) (.int .i64 0) h3
  have h5 := heap_setCell_same _ R 4 _ _ (0, 0) (.string ⟨#[]⟩) h4
  have h6 := heap_setCell_same _ R 5 _ _ (0, 0) (.int .i64 0) h5
  refine ⟨rfl, ?_, ?_⟩
  · exact (((((K2.out.trans (Kp.of_set h0 _ rfl)).trans (Kp.of_set h1 _ rfl)).trans (Kp.of_set h2 _ rfl)).trans (Kp.of_set h3 _ rfl)).trans (Kp.of_set h4 _ rfl)).trans (Kp.of_set h5 _ rfl)
  · exact ⟨[0, 0, 0], ⟨rfl, Nat.zero_le _, h6⟩, rfl⟩

end Go.Proofs.YtfbhpmafjehojaaGreatDoor.U1

namespace Go.Proofs.YtfbhpmafjehojaaGreatDoor.U1
open Go.RowKit

set_option maxRecDepth 100000 in
theorem newF_hid : Hid (∀ W, Calls Tryz.prog 14 #[] W fun e w' => e = .returned (.pointer (some ⟨W.heap.size, 0, none⟩)) ∧ FdAt w' W.heap.size [] ∧ Below W.heap.size W w') := Lib.hid fun w => by
  have h1 := FdAt.new w
  have H1 := Lib.hid (And.intro h1 ((Below.refl w.heap.size w).alloc (Nat.le_refl _) (.cells #[.int .u8 0, .int .u8 0, .int .u8 0, .int .i64 0, .string ⟨#[]⟩, .int .i64 0] 57)))
  clear h1
  go_enter Tryz.func14, Tryz.ntmps14
  go_wp2
  go_ret
  exact ⟨rfl, H1.out⟩
set_option maxRecDepth 100000 in
theorem count_hid : Hid (∀ W R m, FdAt W R m → Calls Tryz.prog 16 #[.pointer (some ⟨R, 0, none⟩)] W fun e w' => e = .returned (.int .i64 (m.length : Int)) ∧ w' = W) := Lib.hid fun w R m h => by
  have h5 := h.count
  clear h
  go_enter Tryz.func16, Tryz.ntmps16
  go_wp2
  go_ret
  exact ⟨rfl, rfl⟩
set_option maxRecDepth 100000 in
theorem feedF_hid : Hid (∀ W R m b v, FdAt W R m → BytesIn W v b → m.length + b.length ≤ 20000 → Lib.Utf8Tabs 0 1 W → Calls Tryz.prog 15 #[.pointer (some ⟨R, 0, none⟩), v] W fun e w' => e = .returned (.int .i64 0) ∧ Kp (isR R) W w' ∧ FdAt w' R (m ++ b)) := Lib.hid fun w R m b v h hb hl hT => by
  obtain ⟨a, c, rfl⟩ := hb.form
  have HA := Lib.hid (add_any R m b _ w h hb hl hT)
  have h5 := h.count
  have z1 : ¬ (20000 : Int) - (m.length : Int) < (b.length : Int) := by omega
  clear h hb hT
  go_enter Tryz.func15, Tryz.ntmps15
  go_wp2_with fail
  refine HA.out.mono ?_
  rintro e w2 ⟨rfl, H2⟩
  have HH := Lib.hid H2
  clear H2
  go_wp2
  go_ret
  exact ⟨rfl, HH.out⟩
set_option maxRecDepth 100000 in
theorem feedX_hid : Hid (∀ W R m b v, FdAt W R m → BytesIn W v b → 20000 < m.length + b.length → m.length ≤ 20000 → Calls Tryz.prog 15 #[.pointer (some ⟨R, 0, none⟩), v] W fun e w' => e = .returned (.int .i64 2) ∧ w' = W) := Lib.hid fun w R m b v h hb hl hm => by
  obtain ⟨a, c, rfl⟩ := hb.form
  have h5 := h.count
  have z1 : (20000 : Int) - (m.length : Int) < (b.length : Int) := by omega
  clear h hb
  go_enter Tryz.func15, Tryz.ntmps15
  go_wp2
  go_ret
  exact ⟨rfl, rfl⟩
/-! ### no feeder -/
set_option maxRecDepth 100000 in
theorem feedN_hid : Hid (∀ W v, Calls Tryz.prog 15 #[.pointer none, v] W fun e w' => e = .returned (.int .i64 3) ∧ w' = W) := Lib.hid fun w v => by
  go_enter Tryz.func15, Tryz.ntmps15
  go_wp2
  go_ret
  exact ⟨rfl, rfl⟩
set_option maxRecDepth 100000 in
theorem countN_hid : Hid (∀ W, Calls Tryz.prog 16 #[.pointer none] W fun e w' => e = .returned (.int .i64 0) ∧ w' = W) := Lib.hid fun w => by
  go_enter Tryz.func16, Tryz.ntmps16
  go_wp2
  go_ret
  exact ⟨rfl, rfl⟩
set_option maxRecDepth 100000 in
theorem endN_hid : Hid (∀ W, Calls Tryz.prog 17 #[.pointer none] W fun e w' => e = .returned (.tuple #[.slice none 0 0, .slice none 0 0, .int .i64 3]) ∧ w' = W) := Lib.hid fun w => by
  go_enter Tryz.func17, Tryz.ntmps17
  go_wp2
  go_ret3
  exact ⟨rfl, rfl⟩

end Go.Proofs.YtfbhpmafjehojaaGreatDoor.U1
