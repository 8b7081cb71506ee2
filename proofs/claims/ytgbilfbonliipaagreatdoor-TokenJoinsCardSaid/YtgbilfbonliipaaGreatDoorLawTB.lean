/- The laws TokenPrints, TokenBack. -/
import Derived.Test.YtgbilfbonliipaaGreatDoorLawTA
namespace Go.Proofs.YtgbilfbonliipaaGreatDoor
open Go.RowKit

/-- What an argument's row bears. -/
def ArgTok (W : World) (v : Value) (L : List Tk) : Prop := TokIn W v L ∧ L.length ≤ 9223372036854775807 ∧ (∀ t ∈ L, t.a.length ≤ 9223372036854775807)
theorem FitL.few {L : List Tk} (h : FitL L) : L.length ≤ 100000000 ∧ (∀ t ∈ L, t.a.length ≤ 100000000) ∧ wL L ≤ 20000000 ∧ (∀ t ∈ L, wT t ≤ 1000000) ∧ (∀ t ∈ L, wT t ≤ 100000) := by
  have h1 := h.1
  have h2 := h.weight
  refine ⟨by omega, fun t ht => ?_, by omega, fun t ht => ?_, fun t ht => ?_⟩
  · have := (h.2 t ht).2.2.1; omega
  · have := (h.2 t ht).weight; omega
  · have := (h.2 t ht).weight; omega

set_option maxRecDepth 100000 in
set_option maxHeartbeats 8000000 in
theorem prints_law (L : List Tk) (v : Value) (w : World) (hw : Low w) (hv : ArgTok w v L) : Calls Tryz.prog 4 #[v] w fun e w' => e = .returned (.bool true) ∧ Below w.heap.size w w' := by
  have CB := Lib.hid (bigT_any L v w hv.1 hv.2.1 hv.2.2)
  obtain ⟨a, c, rfl⟩ := hv.1.form
  have HV := Lib.hid hv.1
  have HW := Lib.hid hw
  clear hv hw
  go_enter Tryz.func4, Tryz.ntmps4
  go_wp2_with fail
  refine CB.out.mono ?_
  rintro e w1 ⟨b, rfl, hw1, hb⟩
  subst hw1
  cases b with
  | true =>
    clear CB
    go_wp2
    go_ret
    exact ⟨rfl, Below.refl _ _⟩
  | false =>
    have hfit := hb rfl
    have CO := own_hid L hfit
    obtain ⟨f1, f2, f3, f4, f5⟩ := hfit.few
    obtain ⟨P, hP⟩ := text_of (printM L)
    have CP := print_hid L P hP f3 f4
    have CQ := refPrint_hid L P hP f3 f5
    have CS := sameG_hid L f1 f2
    have CL := tokensL_hid
    have g := self_eq P
    clear CB hb hfit hP f1 f2 f3 f4 f5
    go_wp2_with fail
    (with_reducible refine (CO.out _ _ HV.out).mono ?_)
    rintro e w2 ⟨ov, rfl, h2, b2⟩
    obtain ⟨oa, oc, rfl⟩ := h2.form
    have H2 := Lib.hid (And.intro (TokIn.of h2) (And.intro (HV.out.below b2) b2))
    clear h2 b2 CO HV
    go_wp2_with fail
    (with_reducible refine (CL.out _ (HW.out.below H2.out.2.2)).mono ?_)
    rintro e w3 ⟨rfl, b3⟩
    have H3 := Lib.hid (And.intro (H2.out.1.below b3) (And.intro (H2.out.2.1.below b3) (H2.out.2.2.trans (b3.mono H2.out.2.2.size))))
    clear b3 H2 CL
    go_wp2_with fail
    (with_reducible refine (CP.out _ _ (HW.out.below H3.out.2.2) H3.out.2.1).mono ?_)
    rintro e w4 ⟨rfl, b4⟩
    have H4 := Lib.hid (And.intro (H3.out.1.below b4) (And.intro (H3.out.2.1.below b4) (H3.out.2.2.trans (b4.mono H3.out.2.2.size))))
    clear b4 H3 CP
    go_wp2_with fail
    (with_reducible refine (CQ.out _ _ H4.out.1).mono ?_)
    rintro e w5 ⟨rfl, b5⟩
    have H5 := Lib.hid (And.intro (H4.out.1.below b5) (And.intro (H4.out.2.1.below b5) (H4.out.2.2.trans (b5.mono H4.out.2.2.size))))
    clear b5 H4 CQ
    go_wp2_with fail
    (with_reducible refine (CS.out _ _ _ H5.out.2.1 H5.out.1).mono ?_)
    rintro e w6 ⟨rfl, b6⟩
    have H6 := Lib.hid (H5.out.2.2.trans (b6.mono H5.out.2.2.size))
    clear b6 H5 CS
    go_wp2
    go_ret
    exact ⟨rfl, H6.out⟩

theorem read_few {s : List UInt8} (hs : s.length ≤ 2500) : (readM s).1.length ≤ 100000000 ∧ (∀ t ∈ (readM s).1, t.a.length ≤ 100000000) ∧ wL (readM s).1 ≤ 20000000 ∧ (∀ t ∈ (readM s).1, wT t ≤ 1000000) ∧ (readM s).2.length ≤ 100000000 := by
  obtain ⟨a1, a2, a3⟩ := attrs_few s (by omega)
  have hb := read_bound s
  exact ⟨a1, a2, by omega, fun t ht => by have := wL_mem ht; omega, a3⟩

set_option maxRecDepth 100000 in
set_option maxHeartbeats 8000000 in
theorem back_law (s : ByteArray) (w : World) (hw : Low w) : Calls Tryz.prog 5 #[.string s] w fun e w' => e = .returned (.bool true) ∧ Below w.heap.size w w' := by
  by_cases hs : s.size ≤ 2500
  case neg =>
    have z1 : (2500 : Int) < (s.size : Int) := by omega
    clear hs hw
    go_enter Tryz.func5, Tryz.ntmps5
    go_wp2
    go_ret
    exact ⟨rfl, Below.refl _ _⟩
  case pos =>
    have z1 : ¬ (2500 : Int) < (s.size : Int) := by omega
    have CT := Lib.hid (tokens_any s (by omega) w hw)
    obtain ⟨f1, f2, f3, f4, f5⟩ := read_few (s := s.data.toList) (by rw [lsize]; exact hs)
    have CL := tokensL_hid
    have HW := Lib.hid hw
    obtain ⟨L, F, hread⟩ : ∃ L F, readM s.data.toList = (L, F) := ⟨_, _, rfl⟩
    unfold TokP at CT
    rw [hread] at CT f1 f2 f3 f4 f5
    dsimp only at CT f1 f2 f3 f4 f5
    have CS := sameG_hid L f1 f2
    have HRD := Lib.hid hread
    have HF4 := Lib.hid f4
    clear hw hs f2 f4 hread
    go_enter Tryz.func5, Tryz.ntmps5
    go_wp2_with fail
    refine CT.out.mono ?_
    rintro e w1 ⟨tv, fv, m, rfl, h1, h2, b1⟩
    have H1 := Lib.hid (And.intro (TokIn.of h1) b1)
    obtain ⟨ta, tc, rfl⟩ := h1.form
    obtain ⟨fa, fc, rfl⟩ := (FailIn.of h2).form
    clear h1 h2 b1 CT
    by_cases hF : F = []
    · subst hF
      obtain ⟨P, hP⟩ := text_of (printM L)
      have CP := print_hid L P hP f3 HF4.out
      have hrd2 : readM P.data.toList = (L, []) := by rw [hP]; exact back _ _ HRD.out
      have HR2 := Lib.hid hrd2
      clear hP hrd2
      go_wp2_with fail
      (with_reducible refine (CP.out _ _ (HW.out.below H1.out.2) H1.out.1).mono ?_)
      rintro e w2 ⟨rfl, b2⟩
      have H2 := Lib.hid (And.intro (H1.out.1.below b2) (H1.out.2.trans (b2.mono H1.out.2.size)))
      clear b2 H1 CP
      by_cases hlong : P.size ≤ 20000
      · have z2 : ¬ (20000 : Int) < (P.size : Int) := by omega
        have CT2 := Lib.hid (tokens_any P hlong w2 (HW.out.below H2.out.2))
        unfold TokP at CT2
        rw [HR2.out] at CT2
        dsimp only at CT2
        go_wp2_with fail
        refine CT2.out.mono ?_
        rintro e w3 ⟨tv, fv, m3, rfl, h1, h2, b3⟩
        have H3 := Lib.hid (And.intro (H2.out.1.below b3) (And.intro (TokIn.of h1) (H2.out.2.trans (b3.mono H2.out.2.size))))
        obtain ⟨ua, uc, rfl⟩ := h1.form
        obtain ⟨va, vc, rfl⟩ := (FailIn.of (F := []) h2).form
        clear h1 h2 b3 H2 CT2
        go_wp2_with fail
        (with_reducible refine (CL.out _ (HW.out.below H3.out.2.2)).mono ?_)
        rintro e w4 ⟨rfl, b4⟩
        have H4 := Lib.hid (And.intro (H3.out.1.below b4) (And.intro (H3.out.2.1.below b4) (H3.out.2.2.trans (b4.mono H3.out.2.2.size))))
        clear b4 H3 CL
        go_wp2_with fail
        (with_reducible refine (CS.out _ _ _ H4.out.1 H4.out.2.1).mono ?_)
        rintro e w5 ⟨rfl, b5⟩
        have H5 := Lib.hid (H4.out.2.2.trans (b5.mono H4.out.2.2.size))
        clear b5 H4 CS
        go_wp2
        go_ret
        exact ⟨rfl, H5.out⟩
      · have z2 : (20000 : Int) < (P.size : Int) := by omega
        have CT2 : Hid (∀ W, Calls Tryz.prog 9 #[.string P] W fun e w' => e = .returned (.tuple #[.slice none 0 0, .slice none 0 0, .int .i64 2]) ∧ w' = W) := Lib.hid fun W => tokens_long P (by omega) W
        clear hlong
        go_wp2_with fail
        (with_reducible refine (CT2.out _).mono ?_)
        rintro e w3 ⟨rfl, rfl⟩
        go_wp2_with fail
        (with_reducible refine (CL.out _ (HW.out.below H2.out.2)).mono ?_)
        rintro e w4 ⟨rfl, b4⟩
        have H4 := Lib.hid (H2.out.2.trans (b4.mono H2.out.2.size))
        clear b4 H2 CL
        go_wp2
        go_ret
        exact ⟨rfl, H4.out⟩
    · have z2 : (0 : Int) < (F.length : Int) := by
        have : F.length ≠ 0 := fun e => hF (List.length_eq_zero_iff.1 e)
        omega
      clear hF
      go_wp2_with fail
      (with_reducible refine (CL.out _ (HW.out.below H1.out.2)).mono ?_)
      rintro e w4 ⟨rfl, b4⟩
      have H4 := Lib.hid (H1.out.2.trans (b4.mono H1.out.2.size))
      clear b4 H1 CL
      go_wp2
      go_ret
      exact ⟨rfl, H4.out⟩

end Go.Proofs.YtgbilfbonliipaaGreatDoor
