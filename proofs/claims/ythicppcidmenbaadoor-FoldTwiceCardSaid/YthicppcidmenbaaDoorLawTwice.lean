/- The walk: small letters and trimmed texts stay so; for every text. -/
import Derived.Test.YthicppcidmenbaaDoorLawAlike
namespace Go.Proofs.YthicppcidmenbaaDoor
open Go.RowKit

theorem lower_to (s t : ByteArray) (h : t.data.toList = low s.data.toList) (hs : s.size ≤ 5000) : Hid (∀ W, Calls Tryd.prog 8 #[.string s] W fun e w' => e = .returned (.string t) ∧ Below W.heap.size W w') :=
  Lib.hid fun W => (lower_any s W (by omega)).mono fun e w' ⟨he, hb⟩ => ⟨by rw [he, ← h], hb⟩
theorem refLower_to (s t : ByteArray) (h : t.data.toList = low s.data.toList) (hs : s.size ≤ 5000) : Hid (∀ W, Calls Tryd.prog 9 #[.string s] W fun e w' => e = .returned (.string t) ∧ Below W.heap.size W w') :=
  Lib.hid fun W => (refLower_any s W (by omega)).mono fun e w' ⟨he, hb⟩ => ⟨by rw [he, ← h], hb⟩
theorem trim_to (s t : ByteArray) (h : t.data.toList = trim s.data.toList) (hs : s.size ≤ 5000) : Hid (∀ W, Calls Tryd.prog 10 #[.string s] W fun e w' => e = .returned (.string t) ∧ Below W.heap.size W w') :=
  Lib.hid fun W => (trim_any s W (by omega)).mono fun e w' ⟨he, hb⟩ => ⟨by rw [he, ← h], hb⟩
theorem refTrim_to (s t : ByteArray) (h : t.data.toList = trim s.data.toList) (hs : s.size ≤ 5000) : Hid (∀ W, Calls Tryd.prog 11 #[.string s] W fun e w' => e = .returned (.string t) ∧ W = w') :=
  Lib.hid fun W => (refTrim_any s W (by omega)).mono fun e w' ⟨he, hb⟩ => ⟨by rw [he, ← h], hb⟩
theorem blank_to (c : UInt8) (b : Bool) (h : blk c = b) : Hid (∀ W, Calls Tryd.prog 19 #[.int .u8 (c.toNat : Int)] W fun e w' => e = .returned (.bool b) ∧ W = w') :=
  Lib.hid fun W => (blank_any c W).mono fun e w' ⟨he, hb⟩ => ⟨by rw [he, h], hb⟩
theorem self_eq (s : ByteArray) : (s.toList == s.toList) = true := by simp

set_option maxRecDepth 100000 in
set_option maxHeartbeats 4000000 in
theorem twice_law (s : ByteArray) (w : World) (hm : MaxIn w) :
    Calls Tryd.prog 4 #[.string s] w fun e w' => e = .returned (.bool true) ∧ Below w.heap.size w w' := by
  by_cases hs : 5000 < s.size
  · have hz : (5000 : Int) < (s.size : Int) := by omega
    clear hs hm
    go_enter Tryd.func4, Tryd.ntmps4
    go_wp2
    go_ret
    exact ⟨rfl, Below.refl _ _⟩
  have hz : ¬ (5000 : Int) < (s.size : Int) := by omega
  have hs' : s.size ≤ 5000 := by omega
  obtain ⟨L, hL⟩ : ∃ L : ByteArray, L.data.toList = low s.data.toList := ⟨⟨(low s.data.toList).toArray⟩, rfl⟩
  obtain ⟨T, hT⟩ : ∃ T : ByteArray, T.data.toList = trim s.data.toList := ⟨⟨(trim s.data.toList).toArray⟩, rfl⟩
  have hLs : L.size = s.size := by rw [← lsize, ← lsize, hL, low_length]
  have hTs : T.size ≤ 5000 := by have := trim_length s.data.toList; rw [← hT, lsize, lsize] at this; omega
  have C1 := lower_to s L hL hs'
  have C2 := trim_to s T hT hs'
  have C3 := lower_to L L (by rw [hL, low_low]) (by omega)
  have C4 := trim_to T T (by rw [hT, trim_trim]) hTs
  have C5 := same_b s L true (decide_eq_true (by rw [hL, low_low])) hs' (by omega)
  have q1 := self_eq L
  have q2 := self_eq T
  have q3 : ((L.size : Int) == (s.size : Int)) = true := by rw [hLs]; simp
  have hends := trim_ends s.data.toList
  rw [← hT] at hends
  clear hL hT hLs hs
  by_cases h0 : T.size = 0
  · have hTe : T = ⟨#[]⟩ := by
      apply ByteArray.ext
      exact Array.eq_empty_of_size_eq_zero h0
    subst hTe
    clear h0 hends hTs q2
    have q2 : ((⟨#[]⟩ : ByteArray).toList == (⟨#[]⟩ : ByteArray).toList) = true := by simp
    go_enter Tryd.func4, Tryd.ntmps4
    go_wp2_with fail
    refine (C1.out _).mono ?_
    rintro e w1 ⟨rfl, B1⟩
    go_wp2_with fail
    refine (C2.out _).mono ?_
    rintro e w2 ⟨rfl, b2⟩
    have B2 := B1.trans (b2.mono B1.size)
    clear b2
    go_wp2_with fail
    refine (folds_any _ (hm.below B2)).mono ?_
    rintro e w3 ⟨rfl, b3⟩
    have B3 := B2.trans (b3.mono B2.size)
    clear b3
    go_wp2_with fail
    refine (C3.out _).mono ?_
    rintro e w4 ⟨rfl, b4⟩
    have B4 := B3.trans (b4.mono B3.size)
    clear b4
    go_wp2_with fail
    refine (C4.out _).mono ?_
    rintro e w5 ⟨rfl, b5⟩
    have B5 := B4.trans (b5.mono B4.size)
    clear b5
    go_wp2_with fail
    refine (C5.out _).mono ?_
    rintro e w6 ⟨rfl, b6⟩
    have B6 := B5.trans (b6.mono B5.size)
    go_wp2
    go_ret
    exact ⟨rfl, B6⟩
  · have hpos : 0 < T.size := by omega
    have hlast : T.size - 1 < T.size := by omega
    have e1 : blk T[0] = false := by
      obtain ⟨b, h1, _, rfl⟩ := at_some hpos
      exact hends.1 T[0] _ (by have := drop_cons h1; simpa using this)
    have e2 : blk T[T.size - 1] = false := by
      obtain ⟨b, h1, _, rfl⟩ := at_some hlast
      refine hends.2 T[T.size - 1] (T.data.toList.take (T.size - 1)) ?_
      have h2 := List.take_append_drop (T.size - 1) T.data.toList
      rw [drop_cons h1, List.drop_of_length_le (by rw [lsize]; omega)] at h2
      exact h2.symm
    have C6 := blank_to T[0] false e1
    have C7 := blank_to T[T.size - 1] false e2
    have q4 : T.toList.isEmpty = false := by
      rw [ByteArray.toList_eq]
      cases hh : T.data.toList with
      | nil => have := lsize T; rw [hh] at this; simp at this; omega
      | cons a t => rfl
    have q5 : (T.toList == []) = false := by
      revert q4; cases T.toList <;> simp
    clear h0 hends e1 e2
    go_enter Tryd.func4, Tryd.ntmps4
    go_wp2_with fail
    refine (C1.out _).mono ?_
    rintro e w1 ⟨rfl, B1⟩
    go_wp2_with fail
    refine (C2.out _).mono ?_
    rintro e w2 ⟨rfl, b2⟩
    have B2 := B1.trans (b2.mono B1.size)
    clear b2
    go_wp2_with fail
    refine (folds_any _ (hm.below B2)).mono ?_
    rintro e w3 ⟨rfl, b3⟩
    have B3 := B2.trans (b3.mono B2.size)
    clear b3
    go_wp2_with fail
    refine (C3.out _).mono ?_
    rintro e w4 ⟨rfl, b4⟩
    have B4 := B3.trans (b4.mono B3.size)
    clear b4
    go_wp2_with fail
    refine (C4.out _).mono ?_
    rintro e w5 ⟨rfl, b5⟩
    have B5 := B4.trans (b5.mono B4.size)
    clear b5
    go_wp2_with fail
    refine (C5.out _).mono ?_
    rintro e w6 ⟨rfl, b6⟩
    have B6 := B5.trans (b6.mono B5.size)
    clear b6
    go_wp2_with fail
    refine (C6.out _).mono ?_
    rintro e w7 ⟨rfl, rfl⟩
    go_wp2_with fail
    refine (C7.out _).mono ?_
    rintro e w8 ⟨rfl, rfl⟩
    go_wp2
    go_ret
    exact ⟨rfl, B6⟩

end Go.Proofs.YthicppcidmenbaaDoor
