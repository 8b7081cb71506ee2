/- The walk: texts that are the same as a third one are the same; for every three texts. -/
import Derived.Test.YthicppcidmenbaaDoorWalkG
namespace Go.Proofs.YthicppcidmenbaaDoor
open Go.RowKit

theorem same_b (s t : ByteArray) (b : Bool) (hb : decide (low s.data.toList = low t.data.toList) = b) (hs : s.size ≤ 5000) (ht : t.size ≤ 5000) : Hid (∀ W, Calls Tryd.prog 12 #[.string s, .string t] W fun e w' => e = .returned (.bool b) ∧ Below W.heap.size W w') :=
  Lib.hid fun W => bool_c b (same_any s t W (by omega) (by omega)) hb
theorem low_size {s t : ByteArray} (h : low s.data.toList = low t.data.toList) : s.size = t.size := by
  have := congrArg List.length h
  rw [low_length, low_length, lsize, lsize] at this
  exact this

set_option maxRecDepth 100000 in
set_option maxHeartbeats 4000000 in
theorem alike_law (a b c : ByteArray) (w : World) (hm : MaxIn w) :
    Calls Tryd.prog 7 #[.string a, .string b, .string c] w fun e w' => e = .returned (.bool true) ∧ Below w.heap.size w w' := by
  by_cases ha : 5000 < a.size
  · have hz : (5000 : Int) < (a.size : Int) := by omega
    clear ha hm
    go_enter Tryd.func7, Tryd.ntmps7
    go_wp2
    go_ret
    exact ⟨rfl, Below.refl _ _⟩
  by_cases hb : 5000 < b.size
  · have hz : ¬ (5000 : Int) < (a.size : Int) := by omega
    have hz2 : (5000 : Int) < (b.size : Int) := by omega
    clear ha hb hm
    go_enter Tryd.func7, Tryd.ntmps7
    go_wp2
    go_ret
    exact ⟨rfl, Below.refl _ _⟩
  by_cases hc : 5000 < c.size
  · have hz : ¬ (5000 : Int) < (a.size : Int) := by omega
    have hz2 : ¬ (5000 : Int) < (b.size : Int) := by omega
    have hz3 : (5000 : Int) < (c.size : Int) := by omega
    clear ha hb hc hm
    go_enter Tryd.func7, Tryd.ntmps7
    go_wp2
    go_ret
    exact ⟨rfl, Below.refl _ _⟩
  have hz : ¬ (5000 : Int) < (a.size : Int) := by omega
  have hz2 : ¬ (5000 : Int) < (b.size : Int) := by omega
  have hz3 : ¬ (5000 : Int) < (c.size : Int) := by omega
  have ha' : a.size ≤ 5000 := by omega
  have hb' : b.size ≤ 5000 := by omega
  have hc' : c.size ≤ 5000 := by omega
  have CAA := same_b a a true (decide_eq_true rfl) ha' ha'
  by_cases hx : low a.data.toList = low b.data.toList
  · have CAB := same_b a b true (decide_eq_true hx) ha' hb'
    have CBA := same_b b a true (decide_eq_true hx.symm) hb' ha'
    have hsz : ((a.size : Int) == (b.size : Int)) = true := by rw [low_size hx]; simp
    by_cases hy : low b.data.toList = low c.data.toList
    · have CBC := same_b b c true (decide_eq_true hy) hb' hc'
      have CAC := same_b a c true (decide_eq_true (hx.trans hy)) ha' hc'
      clear hx hy ha hb hc
      go_enter Tryd.func7, Tryd.ntmps7
      go_wp2_with fail
      refine (CAB.out _).mono ?_
      rintro e w1 ⟨rfl, B1⟩
      go_wp2_with fail
      refine (CBC.out _).mono ?_
      rintro e w2 ⟨rfl, b2⟩
      have B2 := B1.trans (b2.mono B1.size)
      clear b2
      go_wp2_with fail
      refine (folds_any _ (hm.below B2)).mono ?_
      rintro e w3 ⟨rfl, b3⟩
      have B3 := B2.trans (b3.mono B2.size)
      clear b3
      go_wp2_with fail
      refine (CBA.out _).mono ?_
      rintro e w4 ⟨rfl, b4⟩
      have B4 := B3.trans (b4.mono B3.size)
      clear b4
      go_wp2_with fail
      refine (CAC.out _).mono ?_
      rintro e w5 ⟨rfl, b5⟩
      have B5 := B4.trans (b5.mono B4.size)
      clear b5
      go_wp2_with fail
      refine (CAA.out _).mono ?_
      rintro e w6 ⟨rfl, b6⟩
      have B6 := B5.trans (b6.mono B5.size)
      go_wp2
      go_ret
      exact ⟨rfl, B6⟩
    · have CBC := same_b b c false (decide_eq_false hy) hb' hc'
      clear hx hy ha hb hc
      go_enter Tryd.func7, Tryd.ntmps7
      go_wp2_with fail
      refine (CAB.out _).mono ?_
      rintro e w1 ⟨rfl, B1⟩
      go_wp2_with fail
      refine (CBC.out _).mono ?_
      rintro e w2 ⟨rfl, b2⟩
      have B2 := B1.trans (b2.mono B1.size)
      clear b2
      go_wp2_with fail
      refine (folds_any _ (hm.below B2)).mono ?_
      rintro e w3 ⟨rfl, b3⟩
      have B3 := B2.trans (b3.mono B2.size)
      clear b3
      go_wp2_with fail
      refine (CBA.out _).mono ?_
      rintro e w4 ⟨rfl, b4⟩
      have B4 := B3.trans (b4.mono B3.size)
      clear b4
      go_wp2_with fail
      refine (CAA.out _).mono ?_
      rintro e w6 ⟨rfl, b6⟩
      have B6 := B4.trans (b6.mono B4.size)
      go_wp2
      go_ret
      exact ⟨rfl, B6⟩
  · have CAB := same_b a b false (decide_eq_false hx) ha' hb'
    have CBA := same_b b a false (decide_eq_false (fun h => hx h.symm)) hb' ha'
    obtain ⟨y, hy⟩ : ∃ y, decide (low b.data.toList = low c.data.toList) = y := ⟨_, rfl⟩
    have CBC := same_b b c y hy hb' hc'
    clear hx hy ha hb hc
    go_enter Tryd.func7, Tryd.ntmps7
    go_wp2_with fail
    refine (CAB.out _).mono ?_
    rintro e w1 ⟨rfl, B1⟩
    go_wp2_with fail
    refine (CBC.out _).mono ?_
    rintro e w2 ⟨rfl, b2⟩
    have B2 := B1.trans (b2.mono B1.size)
    clear b2
    go_wp2_with fail
    refine (folds_any _ (hm.below B2)).mono ?_
    rintro e w3 ⟨rfl, b3⟩
    have B3 := B2.trans (b3.mono B2.size)
    clear b3
    go_wp2_with fail
    refine (CBA.out _).mono ?_
    rintro e w4 ⟨rfl, b4⟩
    have B4 := B3.trans (b4.mono B3.size)
    clear b4
    go_wp2_with fail
    refine (CAA.out _).mono ?_
    rintro e w6 ⟨rfl, b6⟩
    have B6 := B4.trans (b6.mono B4.size)
    go_wp2
    go_ret
    exact ⟨rfl, B6⟩

end Go.Proofs.YthicppcidmenbaaDoor
