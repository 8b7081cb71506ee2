/- The law TokenTells. -/
import Derived.Test.YtgbilfbonliipaaGreatDoorTokCA
namespace Go.Proofs.YtgbilfbonliipaaGreatDoor
open Go.RowKit

theorem attrs_few (s : List UInt8) (hs : s.length ≤ 20000) : (readM s).1.length ≤ 100000000 ∧ (∀ t ∈ (readM s).1, t.a.length ≤ 100000000) ∧ (readM s).2.length ≤ 100000000 := by
  have hb := read_bound s
  have hl := wL_len (readM s).1
  refine ⟨by omega, fun t ht => ?_, by omega⟩
  have h1 := wL_mem ht
  have h2 := wA_len t.a
  unfold wT at h1
  omega

set_option maxRecDepth 100000 in
set_option maxHeartbeats 8000000 in
theorem tells_main (s name : ByteArray) (hs : s.size ≤ 2500) (hn : name.size ≤ 300) (w : World) (hw : Low w) : Calls Tryz.prog 3 #[.string s, .string name] w fun e w' => e = .returned (.bool true) ∧ Below w.heap.size w w' := by
  have z1 : ¬ (2500 : Int) < (s.size : Int) := by omega
  have z2 : ¬ (30000 : Int) < (s.size : Int) := by omega
  have z3 : ¬ (300 : Int) < (name.size : Int) := by omega
  obtain ⟨a1, a2, a3⟩ := attrs_few s.data.toList (by rw [lsize]; omega)
  have CS := sameG_hid _ a1 a2
  have CF := failsG_hid _ a3
  have CT := Lib.hid (tokens_any s (by omega) w hw)
  have CQ : Hid (∀ W, Calls Tryz.prog 10 #[.string s] W (TokP s.data.toList W)) := Lib.hid fun W => tokensQ_any s (by omega) W
  have CL := tokensL_hid
  obtain ⟨rb, hrb⟩ : ∃ rb, rawM name.data.toList = rb := ⟨_, rfl⟩
  have CR := rawP_hid name rb hrb
  have CR2 := rawR_hid name rb hrb
  have g : (rb == rb) = true := by simp
  have HW := Lib.hid hw
  clear hw hs hn a1 a2 a3 hrb
  go_enter Tryz.func3, Tryz.ntmps3
  go_wp2_with fail
  refine CT.out.mono ?_
  rintro e w1 ⟨tv, fv, m, rfl, h1, h2, b1⟩
  have H1 := Lib.hid (And.intro (TokIn.of h1) (And.intro (FailIn.of h2) b1))
  obtain ⟨ta, tc, rfl⟩ := h1.form
  obtain ⟨fa, fc, rfl⟩ := (FailIn.of h2).form
  clear h1 h2 b1 CT
  go_wp2_with fail
  refine (CQ.out w1).mono ?_
  rintro e w2 ⟨tv, fv, m2, rfl, h1, h2, b2⟩
  have H2 := Lib.hid (And.intro (H1.out.1.below b2) (And.intro (H1.out.2.1.below b2) (And.intro (TokIn.of h1) (And.intro (FailIn.of h2) (H1.out.2.2.trans (b2.mono H1.out.2.2.size))))))
  obtain ⟨ua, uc, rfl⟩ := h1.form
  obtain ⟨va, vc, rfl⟩ := (FailIn.of h2).form
  clear h1 h2 b2 H1 CQ
  go_wp2_with fail
  (with_reducible refine (CL.out _ (HW.out.below H2.out.2.2.2.2)).mono ?_)
  rintro e w3 ⟨rfl, b3⟩
  have H3 := Lib.hid (And.intro (H2.out.1.below b3) (And.intro (H2.out.2.1.below b3) (And.intro (H2.out.2.2.1.below b3) (And.intro (H2.out.2.2.2.1.below b3) (H2.out.2.2.2.2.trans (b3.mono H2.out.2.2.2.2.size))))))
  clear b3 H2 CL
  go_wp2_with fail
  (with_reducible refine (CS.out _ _ _ H3.out.1 H3.out.2.2.1).mono ?_)
  rintro e w4 ⟨rfl, b4⟩
  have H4 := Lib.hid (And.intro (H3.out.2.1.below b4) (And.intro (H3.out.2.2.2.1.below b4) (H3.out.2.2.2.2.trans (b4.mono H3.out.2.2.2.2.size))))
  clear b4 H3 CS
  go_wp2_with fail
  (with_reducible refine (CF.out _ _ _ H4.out.1 H4.out.2.1).mono ?_)
  rintro e w5 ⟨rfl, b5⟩
  have H5 := Lib.hid (H4.out.2.2.trans (b5.mono H4.out.2.2.size))
  clear b5 H4 CF
  go_wp2_with fail
  (with_reducible refine (CR.out _).mono ?_)
  rintro e w6 ⟨rfl, rfl⟩
  go_wp2_with fail
  (with_reducible refine (CR2.out _).mono ?_)
  rintro e w7 ⟨rfl, rfl⟩
  go_wp2
  go_ret
  exact ⟨rfl, H5.out⟩
set_option maxRecDepth 100000 in
set_option maxHeartbeats 8000000 in
theorem tells_long (s name : ByteArray) (hs : 20000 < s.size) (hs2 : s.size ≤ 30000) (hn : name.size ≤ 300) (w : World) (hw : Low w) : Calls Tryz.prog 3 #[.string s, .string name] w fun e w' => e = .returned (.bool true) ∧ Below w.heap.size w w' := by
  have z1 : (2500 : Int) < (s.size : Int) := by omega
  have z4 : ¬ (s.size : Int) ≤ 20000 := by omega
  have z2 : ¬ (30000 : Int) < (s.size : Int) := by omega
  have z3 : ¬ (300 : Int) < (name.size : Int) := by omega
  have CS := sameG_hid [] (Nat.zero_le _) (fun t h => by cases h)
  have CF := failsG_hid [] (Nat.zero_le _)
  have CT : Hid (∀ W, Calls Tryz.prog 9 #[.string s] W fun e w' => e = .returned (.tuple #[.slice none 0 0, .slice none 0 0, .int .i64 2]) ∧ w' = W) := Lib.hid fun W => tokens_long s hs W
  have CQ : Hid (∀ W, Calls Tryz.prog 10 #[.string s] W fun e w' => e = .returned (.tuple #[.slice none 0 0, .slice none 0 0, .int .i64 2]) ∧ w' = W) := Lib.hid fun W => tokensQ_long s hs W
  have CL := tokensL_hid
  obtain ⟨rb, hrb⟩ : ∃ rb, rawM name.data.toList = rb := ⟨_, rfl⟩
  have CR := rawP_hid name rb hrb
  have CR2 := rawR_hid name rb hrb
  have g : (rb == rb) = true := by simp
  have HW := Lib.hid hw
  clear hw hs hs2 hn hrb
  go_enter Tryz.func3, Tryz.ntmps3
  go_wp2_with fail
  (with_reducible refine (CT.out _).mono ?_)
  rintro e w1 ⟨rfl, rfl⟩
  go_wp2_with fail
  (with_reducible refine (CQ.out _).mono ?_)
  rintro e w2 ⟨rfl, rfl⟩
  go_wp2_with fail
  (with_reducible refine (CL.out _ HW.out).mono ?_)
  rintro e w3 ⟨rfl, b3⟩
  go_wp2_with fail
  (with_reducible refine (CS.out _ _ _ (TokIn.nil _ _ _) (TokIn.nil _ _ _)).mono ?_)
  rintro e w4 ⟨rfl, b4⟩
  have b4 := b3.trans (b4.mono b3.size)
  go_wp2_with fail
  (with_reducible refine (CF.out _ _ _ (FailIn.nil _ _ _) (FailIn.nil _ _ _)).mono ?_)
  rintro e w5 ⟨rfl, b5⟩
  have H5 := Lib.hid (b4.trans (b5.mono b4.size))
  clear b3 b4 b5
  go_wp2_with fail
  (with_reducible refine (CR.out _).mono ?_)
  rintro e w6 ⟨rfl, rfl⟩
  go_wp2_with fail
  (with_reducible refine (CR2.out _).mono ?_)
  rintro e w7 ⟨rfl, rfl⟩
  go_wp2
  go_ret
  exact ⟨rfl, H5.out⟩
set_option maxRecDepth 100000 in
set_option maxHeartbeats 4000000 in
theorem tells_law (s name : ByteArray) (w : World) (hw : Low w) : Calls Tryz.prog 3 #[.string s, .string name] w fun e w' => e = .returned (.bool true) ∧ Below w.heap.size w w' := by
  by_cases h1 : s.size ≤ 2500
  · by_cases h2 : name.size ≤ 300
    · exact tells_main s name h1 h2 w hw
    · have z1 : ¬ (2500 : Int) < (s.size : Int) := by omega
      have z2 : ¬ (30000 : Int) < (s.size : Int) := by omega
      have z3 : (300 : Int) < (name.size : Int) := by omega
      clear hw h1 h2
      go_enter Tryz.func3, Tryz.ntmps3
      go_wp2
      go_ret
      exact ⟨rfl, Below.refl _ _⟩
  · have z1 : (2500 : Int) < (s.size : Int) := by omega
    by_cases h2 : s.size ≤ 20000
    · have z2 : (s.size : Int) ≤ 20000 := by omega
      clear hw h1 h2
      go_enter Tryz.func3, Tryz.ntmps3
      go_wp2
      go_ret
      exact ⟨rfl, Below.refl _ _⟩
    · by_cases h3 : s.size ≤ 30000
      · by_cases h4 : name.size ≤ 300
        · exact tells_long s name (by omega) h3 h4 w hw
        · have z2 : ¬ (s.size : Int) ≤ 20000 := by omega
          have z3 : ¬ (30000 : Int) < (s.size : Int) := by omega
          have z4 : (300 : Int) < (name.size : Int) := by omega
          clear hw h1 h2 h3 h4
          go_enter Tryz.func3, Tryz.ntmps3
          go_wp2
          go_ret
          exact ⟨rfl, Below.refl _ _⟩
      · have z2 : ¬ (s.size : Int) ≤ 20000 := by omega
        have z3 : (30000 : Int) < (s.size : Int) := by omega
        clear hw h1 h2 h3
        go_enter Tryz.func3, Tryz.ntmps3
        go_wp2
        go_ret
        exact ⟨rfl, Below.refl _ _⟩

end Go.Proofs.YtgbilfbonliipaaGreatDoor
