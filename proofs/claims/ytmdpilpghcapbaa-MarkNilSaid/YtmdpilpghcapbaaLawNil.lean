/- The walks: no maker; texts of unlike lengths; what is added behind; for every text. -/
import Derived.Test.YtmdpilpghcapbaaWalkE
namespace Go.Proofs.Ytmdpilpghcapbaa
open Go.RowKit

set_option maxRecDepth 100000 in
theorem nil_law (s : ByteArray) (w : World) :
    Calls Try.prog 7 #[.string s] w fun e w' => e = .returned (.bool true) ∧ Below w.heap.size w w' := by
  by_cases hs : 3000 < s.size
  · have hz : (3000 : Int) < (s.size : Int) := by omega
    clear hs
    go_enter Try.func7, Try.ntmps7
    go_wp2
    go_ret
    exact ⟨rfl, Below.refl _ _⟩
  · have hz : ¬ (3000 : Int) < (s.size : Int) := by omega
    clear hs
    go_enter Try.func7, Try.ntmps7
    go_wp2_with fail
    refine (marks_any _).mono ?_
    rintro e w1 ⟨rfl, B1⟩
    go_wp2_with fail
    refine (add_nil s _).mono ?_
    rintro e w' ⟨rfl, rfl⟩
    go_wp2_with fail
    refine (mark_nil _).mono ?_
    rintro e w' ⟨rfl, rfl⟩
    go_wp2_with fail
    refine (count_nil _).mono ?_
    rintro e w' ⟨rfl, rfl⟩
    go_wp2
    go_ret
    exact ⟨rfl, B1⟩

theorem str_of (s : ByteArray) : Value.string s = strV s.data.toList := rfl
theorem of_one (s M : ByteArray) (hM : M.data.toList = markL s.data.toList) (hs : s.size ≤ 1000000) : Hid (∀ v W, TextsIn W v [s.data.toList] → Calls Try.prog 12 #[v] W fun e w' => e = .returned (.string M) ∧ Below W.heap.size W w') :=
  of_to [s.data.toList] M (by rw [hM]; simp) (by simp) (by simp; exact hs)

set_option maxRecDepth 100000 in
set_option maxHeartbeats 1000000 in
theorem lengths_law (s t : ByteArray) (w : World) :
    Calls Try.prog 6 #[.string s, .string t] w fun e w' => e = .returned (.bool true) ∧ Below w.heap.size w w' := by
  by_cases hout : 3000 < s.size ∨ 3000 < t.size ∨ s.size = t.size
  · by_cases h1 : 3000 < s.size
    · have hz : (3000 : Int) < (s.size : Int) := by omega
      clear hout h1
      go_enter Try.func6, Try.ntmps6
      go_wp2_with fail
      refine (marks_any _).mono ?_
      rintro e w1 ⟨rfl, B1⟩
      go_wp2
      go_ret
      exact ⟨rfl, B1⟩
    by_cases h2 : 3000 < t.size
    · have hz : ¬ (3000 : Int) < (s.size : Int) := by omega
      have hz2 : (3000 : Int) < (t.size : Int) := by omega
      clear hout h1 h2
      go_enter Try.func6, Try.ntmps6
      go_wp2_with fail
      refine (marks_any _).mono ?_
      rintro e w1 ⟨rfl, B1⟩
      go_wp2
      go_ret
      exact ⟨rfl, B1⟩
    · have hz : ¬ (3000 : Int) < (s.size : Int) := by omega
      have hz2 : ¬ (3000 : Int) < (t.size : Int) := by omega
      have hz3 : ((s.size : Int) == (t.size : Int)) = true := by simp; omega
      clear hout h1 h2
      go_enter Try.func6, Try.ntmps6
      go_wp2_with fail
      refine (marks_any _).mono ?_
      rintro e w1 ⟨rfl, B1⟩
      go_wp2
      go_ret
      exact ⟨rfl, B1⟩
  · have hz : ¬ (3000 : Int) < (s.size : Int) := by omega
    have hz2 : ¬ (3000 : Int) < (t.size : Int) := by omega
    have hz3 : ((s.size : Int) == (t.size : Int)) = false := by simp; omega
    obtain ⟨M1, hM1⟩ := text_of (markL s.data.toList)
    obtain ⟨M2, hM2⟩ := text_of (markL t.data.toList)
    have hne : (M1.toList == M2.toList) = false := by
      rw [text_eq, hM1, hM2, decide_eq_false]
      exact mark_ne (by rw [lsize]; omega) (by rw [lsize]; omega) (by rw [lsize, lsize]; omega)
    have C1 := of_one s M1 hM1 (by omega)
    have C2 := of_one t M2 hM2 (by omega)
    clear hM1 hM2 hout
    go_enter Try.func6, Try.ntmps6
    go_wp2_with fail
    refine (marks_any _).mono ?_
    rintro e w1 ⟨rfl, B1⟩
    go_wp2_with fail
    refine (C1.out _ _ (textsIn_new _ [s.data.toList] _ rfl 1 rfl _)).mono ?_
    rintro e w2 ⟨rfl, b2⟩
    have b' := ((Below.refl _ _).alloc (Nat.le_refl _) _).trans (b2.mono (by simp))
    have B2 := B1.trans (b'.mono B1.size)
    clear b2 b' B1
    go_wp2_with fail
    refine (C2.out _ _ (textsIn_new _ [t.data.toList] _ rfl 1 rfl _)).mono ?_
    rintro e w3 ⟨rfl, b3⟩
    have b' := ((Below.refl _ _).alloc (Nat.le_refl _) _).trans (b3.mono (by simp))
    have B3 := B2.trans (b'.mono B2.size)
    go_wp2
    go_ret
    exact ⟨rfl, B3⟩

set_option maxRecDepth 100000 in
set_option maxHeartbeats 2000000 in
theorem adds_law (s t : ByteArray) (w : World) :
    Calls Try.prog 8 #[.string s, .string t] w fun e w' => e = .returned (.bool true) ∧ Below w.heap.size w w' := by
  by_cases h1 : 3000 < s.size
  · have hz : (3000 : Int) < (s.size : Int) := by omega
    clear h1
    go_enter Try.func8, Try.ntmps8
    go_wp2
    go_ret
    exact ⟨rfl, Below.refl _ _⟩
  by_cases h2 : 3000 < t.size
  · have hz : ¬ (3000 : Int) < (s.size : Int) := by omega
    have hz2 : (3000 : Int) < (t.size : Int) := by omega
    clear h1 h2
    go_enter Try.func8, Try.ntmps8
    go_wp2
    go_ret
    exact ⟨rfl, Below.refl _ _⟩
  have hz : ¬ (3000 : Int) < (s.size : Int) := by omega
  have hz2 : ¬ (3000 : Int) < (t.size : Int) := by omega
  obtain ⟨R, hR⟩ := text_of (s.data.toList ++ t.data.toList)
  have hRs : R.size ≤ 6000 := by rw [← lsize, hR, List.length_append, lsize, lsize]; omega
  obtain ⟨M, hM⟩ := text_of (markL (s.data.toList ++ t.data.toList))
  have hl1 : ([] : List UInt8).length + s.size ≤ 1099511627776 := by simp; omega
  have CA := add_to_k w.heap.size w.heap.size [] s s.data.toList rfl (Nat.le_refl _) hl1 w
  have CB := add_to_k w.heap.size w.heap.size s.data.toList t (s.data.toList ++ t.data.toList) rfl (Nat.le_refl _) (by rw [lsize]; omega) w
  have C2 := of_to [s.data.toList, t.data.toList] M (by rw [hM]; simp) (by simp) (by simp; omega)
  have C1 := of_one R M (by rw [hM, hR]) (by omega)
  have CM := mark_hid w.heap.size (s.data.toList ++ t.data.toList) (by rw [List.length_append, lsize, lsize]; omega) M hM
  have CN := count_to w.heap.size (s.data.toList ++ t.data.toList) ((s.size : Int) + (t.size : Int)) (by rw [List.length_append, lsize, lsize]; omega)
  have hadd := add_to s t R hR (by omega)
  clear hM hR hl1
  go_enter Try.func8, Try.ntmps8
  go_wp2_with fail
  refine (new_any _).mono ?_
  rintro e w1 ⟨rfl, hk1, B1⟩
  have H1 := Lib.hid hk1
  clear hk1
  go_wp2_with fail
  refine (CA.out _ B1 H1.out).mono ?_
  rintro e w2 ⟨rfl, B2, hk2, g2⟩
  have H2 := Lib.hid hk2
  clear hk2 H1 B1 g2
  go_wp2_with fail
  refine (CB.out _ B2 H2.out).mono ?_
  rintro e w3 ⟨rfl, B3, hk3, g3⟩
  have H3 := Lib.hid hk3
  clear hk3 H2 B2 g3
  go_wp2_with fail
  refine (marks_any _).mono ?_
  rintro e w4 ⟨rfl, b4⟩
  have B4 := B3.trans (b4.mono B3.size)
  have H4 := Lib.hid (H3.out.below b4)
  clear H3 b4 B3
  go_wp2_with fail
  refine (CM.out _ H4.out).mono ?_
  rintro e w5 ⟨rfl, b5⟩
  have B5 := B4.trans (b5.mono B4.size)
  have H5 := Lib.hid (H4.out.below b5)
  clear H4 b5 B4
  go_wp2_with fail
  refine (C2.out _ _ (textsIn_new _ [s.data.toList, t.data.toList] _ rfl 2 rfl _)).mono ?_
  rintro e w6 ⟨rfl, b6⟩
  have b' := ((Below.refl _ _).alloc (Nat.le_refl _) _).trans (b6.mono (by simp))
  have B6 := B5.trans (b'.mono B5.size)
  have H6 := Lib.hid (H5.out.below b')
  clear H5 b6 b' B5
  go_wp2_with fail
  refine (CM.out _ H6.out).mono ?_
  rintro e w7 ⟨rfl, b7⟩
  have B7 := B6.trans (b7.mono B6.size)
  have H7 := Lib.hid (H6.out.below b7)
  clear H6 b7 B6
  go_wp2_with fail
  refine (C1.out _ _ (textsIn_new _ [R.data.toList] _ rfl 1 rfl _)).mono ?_
  rintro e w8 ⟨rfl, b8⟩
  have b' := ((Below.refl _ _).alloc (Nat.le_refl _) _).trans (b8.mono (by simp))
  have B8 := B7.trans (b'.mono B7.size)
  have H8 := Lib.hid (H7.out.below b')
  clear H7 b8 b' B7
  go_wp2_with fail
  refine (CN.out _ H8.out).mono ?_
  rintro e w9 ⟨rfl, rfl⟩
  go_wp2
  go_ret
  exact ⟨rfl, B8⟩

end Go.Proofs.Ytmdpilpghcapbaa
