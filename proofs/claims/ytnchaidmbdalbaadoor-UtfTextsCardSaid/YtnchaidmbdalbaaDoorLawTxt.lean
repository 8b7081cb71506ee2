/- The walk: code points have just the document's bytes, or are refused; for every slice of ints. -/
import Derived.Test.YtnchaidmbdalbaaDoorApp
namespace Go.Proofs.YtnchaidmbdalbaaDoor
open Go.ChangeShapes Go.WideShapes Go.ChangeAt Go.RowKit

theorem textV_form (p : List Int) : ∃ S E, textV p = .tuple #[.string S, .int .i64 E] := by
  unfold textV
  split
  · exact ⟨_, _, rfl⟩
  · exact ⟨_, _, rfl⟩

set_option maxRecDepth 100000 in
set_option maxHeartbeats 4000000 in
theorem txt_law (p : List Int) (v : Value) (w : World) (hv : IntsIn w v p) (hT : Lib.Utf8Tabs 0 1 w) :
    Calls Tryd.prog 4 #[v] w fun e w' => e = .returned (.bool true) ∧ Below w.heap.size w w' := by
  obtain ⟨a, c, rfl⟩ := hv.form
  by_cases hl : 5000 < p.length
  · have hz : (5000 : Int) < (p.length : Int) := by omega
    clear hl hv hT
    go_enter Tryd.func4, Tryd.ntmps4
    go_wp2
    go_ret
    exact ⟨rfl, Below.refl _ _⟩
  · have hz : ¬ (5000 : Int) < (p.length : Int) := by omega
    have hl2 : p.length ≤ 1099511627776 := by omega
    have hl3 : p.length ≤ 9223372036854775807 := by omega
    have ht := fun (v : Value) (W : World) (h : IntsIn W v p) => text_any p v W hl2 h
    have hu := fun (v : Value) (W : World) (h : IntsIn W v p) => refText_any p v W hl2 h
    obtain ⟨S, E, hSE⟩ := textV_form p
    rw [hSE] at ht hu
    have HT := Lib.hid ht
    have HU := Lib.hid hu
    have hee : (E == E) = true := by simp
    clear ht hu hSE hl
    go_enter Tryd.func4, Tryd.ntmps4
    go_wp2_with (first
      | (at_builtin; refine wpList_append_in27 rfl _ _ rfl w.heap.size _ 0 [] rfl (World.ownsRow_nil w w.heap.size 3 1) _ p rfl hv (by omega) (Nat.le_refl _) ?_; intro v1 w1 hown1 hgrow1
         rw [Nat.zero_add, List.nil_append] at hown1
         have B1 : Below w.heap.size w w1 := Below.grown (Below.refl _ _) hgrow1 (Nat.le_refl _) (fun j hj => by cases hj)
         have V1 := hv.below B1
         have O1 := intsIn_row hown1
         clear hgrow1 hown1)
      | (go_at_call 16; refine (HT.out _ _ V1).mono ?_; rintro e w2 ⟨rfl, hb2⟩
         have B2 : Below w.heap.size w w2 := B1.trans (hb2.mono B1.size)
         have V2 := hv.below B2
         have O2 := O1.below hb2
         clear hb2)
      | (go_at_call 17; refine (HU.out _ _ O2).mono ?_; rintro e w3 ⟨rfl, hb3⟩
         have B3 : Below w.heap.size w w3 := B2.trans (hb3.mono B2.size)
         have V3 := hv.below B3
         have O3 := O2.below hb3
         have T3 := tabs_below hT B3
         clear hb3)
      | (go_at_call 11; refine (decodes_any _ T3).mono ?_; rintro e w4 ⟨rfl, hb4⟩
         have B4 : Below w.heap.size w w4 := B3.trans (hb4.mono B3.size)
         have V4 := hv.below B4
         have O4 := O3.below hb4
         clear hb4)
      | (go_at_call 13; refine (ints_same p _ _ _ V4 O4 hl3).mono ?_; rintro e w5 ⟨rfl, hb5⟩))
    go_ret
    exact ⟨rfl, B4.trans (hb5.mono B4.size)⟩

end Go.Proofs.YtnchaidmbdalbaaDoor
