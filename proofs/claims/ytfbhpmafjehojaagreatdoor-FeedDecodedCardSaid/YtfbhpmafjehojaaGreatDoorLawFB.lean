/- The laws FeedWhole, FeedDecoded, FeedNil. -/
import Derived.Test.YtfbhpmafjehojaaGreatDoorLawFA
namespace Go.Proofs.YtfbhpmafjehojaaGreatDoor.U1
open Go.RowKit

set_option maxRecDepth 100000 in
set_option maxHeartbeats 8000000 in
theorem whole_main (l : List UInt8) (v : Value) (w : World) (hu : BytesIn w v l) (hw : Lw w) (hl : l.length ≤ 2000) :
    Calls Tryz.prog 3 #[v] w fun e w' => e = .returned (.bool true) ∧ Below w.heap.size w w' := by
  obtain ⟨a, c, rfl⟩ := hu.form
  have z1 : ¬ (2000 : Int) < (l.length : Int) := by omega
  have z3 : ¬ (30000 : Int) < (l.length : Int) := by omega
  obtain ⟨a1, a2, a3⟩ := attrs_fewU (dec l) (by have := dec_len l; omega)
  have CS := sameG_hid _ a1 a2
  have CF := failsG_hid _ a3
  have CL := feeds_hid w hw
  have CW := whole_hid l (by omega)
  have CQ := wholeQ_hid l (by omega)
  have HW := Lib.hid hw
  have HU := Lib.hid hu
  have hcv := conv_in hu
  have g : (l == l) = true := by simp
  clear hu hw hl a1 a2 a3
  go_enter Tryz.func3, Tryz.ntmps3
  go_wp2_with fail
  (refine (CW.out _ _ HU.out HW.out).mono ?_)
  rintro e w1 ⟨tv, fv, rfl, r1, b1⟩
  obtain ⟨⟨ta, tc, rfl⟩, ⟨fa, fc, rfl⟩⟩ := r1.form
  have H1 := Lib.hid (And.intro r1.tok b1)
  clear r1 b1 CW hcv
  go_wp2_with fail
  (refine (CQ.out _).mono ?_)
  rintro e w2 ⟨tv, fv, rfl, r2, b2⟩
  obtain ⟨⟨ua, uc, rfl⟩, ⟨ga, gc, rfl⟩⟩ := r2.form
  have H2 := Lib.hid (And.intro (H1.out.1.1.below b2) (And.intro (H1.out.1.2.below b2) (And.intro r2.tok (H1.out.2.trans (b2.mono H1.out.2.size)))))
  clear r2 b2 CQ H1
  go_wp2_with fail
  (refine (CL.out _ H2.out.2.2.2).mono ?_)
  rintro e w3 ⟨rfl, b3⟩
  have H3 := Lib.hid (And.intro (H2.out.1.below b3) (And.intro (H2.out.2.1.below b3) (And.intro (H2.out.2.2.1.1.below b3) (And.intro (H2.out.2.2.1.2.below b3) (H2.out.2.2.2.trans (b3.mono H2.out.2.2.2.size))))))
  clear b3 CL H2
  go_wp2_with fail
  (refine (CS.out _ _ _ H3.out.1 H3.out.2.2.1).mono ?_)
  rintro e w4 ⟨rfl, b4⟩
  have H4 := Lib.hid (And.intro (H3.out.2.1.below b4) (And.intro (H3.out.2.2.2.1.below b4) (H3.out.2.2.2.2.trans (b4.mono H3.out.2.2.2.2.size))))
  clear b4 CS H3
  go_wp2_with fail
  (refine (CF.out _ _ _ H4.out.1 H4.out.2.1).mono ?_)
  rintro e w5 ⟨rfl, b5⟩
  have H5 := Lib.hid (H4.out.2.2.trans (b5.mono H4.out.2.2.size))
  have hcv := conv_in (HU.out.below H5.out)
  clear b5 CF H4
  go_wp2
  go_ret
  exact ⟨rfl, H5.out⟩
set_option maxRecDepth 100000 in
set_option maxHeartbeats 8000000 in
theorem whole_long (l : List UInt8) (v : Value) (w : World) (hu : BytesIn w v l) (hw : Lw w) (hl : 20000 < l.length) (hl2 : l.length ≤ 30000) :
    Calls Tryz.prog 3 #[v] w fun e w' => e = .returned (.bool true) ∧ Below w.heap.size w w' := by
  obtain ⟨a, c, rfl⟩ := hu.form
  have z1 : (2000 : Int) < (l.length : Int) := by omega
  have z2 : ¬ (l.length : Int) ≤ 20000 := by omega
  have z3 : ¬ (30000 : Int) < (l.length : Int) := by omega
  have CS := sameG_hid [] (Nat.zero_le _) (fun t h => by cases h)
  have CF := failsG_hid [] (Nat.zero_le _)
  have CL := feeds_hid w hw
  have CW := wholeL_hid l hl
  have CQ := wholeQL_hid l hl
  have HU := Lib.hid hu
  have hcv := conv_in hu
  have g : (l == l) = true := by simp
  clear hu hw hl hl2
  go_enter Tryz.func3, Tryz.ntmps3
  go_wp2_with fail
  (refine (CW.out _ _ HU.out).mono ?_)
  rintro e w1 ⟨rfl, rfl⟩
  go_wp2_with fail
  (refine (CQ.out _).mono ?_)
  rintro e w2 ⟨rfl, rfl⟩
  go_wp2_with fail
  (refine (CL.out _ (Below.refl _ _)).mono ?_)
  rintro e w3 ⟨rfl, b3⟩
  go_wp2_with fail
  (refine (CS.out _ _ _ (TokIn.nil _ _ _) (TokIn.nil _ _ _)).mono ?_)
  rintro e w4 ⟨rfl, b4⟩
  have b4 := b3.trans (b4.mono b3.size)
  go_wp2_with fail
  (refine (CF.out _ _ _ (FailIn.nil _ _ _) (FailIn.nil _ _ _)).mono ?_)
  rintro e w5 ⟨rfl, b5⟩
  have H5 := Lib.hid (b4.trans (b5.mono b4.size))
  clear hcv
  have hcv := conv_in (HU.out.below H5.out)
  clear b3 b4 b5
  go_wp2
  go_ret
  exact ⟨rfl, H5.out⟩
set_option maxRecDepth 100000 in
set_option maxHeartbeats 4000000 in
theorem whole_law (l : List UInt8) (v : Value) (w : World) (hu : BytesIn w v l) (hw : Lw w) :
    Calls Tryz.prog 3 #[v] w fun e w' => e = .returned (.bool true) ∧ Below w.heap.size w w' := by
  by_cases h1 : l.length ≤ 2000
  · exact whole_main l v w hu hw h1
  · by_cases h2 : l.length ≤ 20000
    · obtain ⟨a, c, rfl⟩ := hu.form
      have z1 : (2000 : Int) < (l.length : Int) := by omega
      have z2 : (l.length : Int) ≤ 20000 := by omega
      clear hu hw h1 h2
      go_enter Tryz.func3, Tryz.ntmps3
      go_wp2
      go_ret
      exact ⟨rfl, Below.refl _ _⟩
    · by_cases h3 : l.length ≤ 30000
      · exact whole_long l v w hu hw (by omega) h3
      · obtain ⟨a, c, rfl⟩ := hu.form
        have z1 : (2000 : Int) < (l.length : Int) := by omega
        have z2 : ¬ (l.length : Int) ≤ 20000 := by omega
        have z3 : (30000 : Int) < (l.length : Int) := by omega
        clear hu hw h1 h2 h3
        go_enter Tryz.func3, Tryz.ntmps3
        go_wp2
        go_ret
        exact ⟨rfl, Below.refl _ _⟩

set_option maxRecDepth 100000 in
set_option maxHeartbeats 8000000 in
theorem decoded_law (l : List UInt8) (v : Value) (w : World) (hu : BytesIn w v l) (hw : Lw w) :
    Calls Tryz.prog 6 #[v] w fun e w' => e = .returned (.bool true) ∧ Below w.heap.size w w' := by
  obtain ⟨a, c, rfl⟩ := hu.form
  by_cases hl : l.length ≤ 2000
  · have z1 : ¬ (2000 : Int) < (l.length : Int) := by omega
    obtain ⟨a1, a2, a3⟩ := attrs_fewU (dec l) (by have := dec_len l; omega)
    have CS := sameG_hid _ a1 a2
    have CF := failsG_hid _ a3
    have CL := feeds_hid w hw
    have CW := whole_hid l (by omega)
    have CD : Hid (∀ W, Below w.heap.size w W → _) := Lib.hid fun W b => decode_any l _ W (by omega) (hu.below b) (hw.below b).2
    have CT := Lib.hid (fun W h => tokens_any ⟨(dec l).toArray⟩ (by rw [bsize]; have := dec_len l; omega) W h)
    have HW : Hid (∀ w', Below w.heap.size w w' → Lw w') := Lib.hid fun w' b => hw.below b
    have HU := Lib.hid (And.intro hu hw)
    clear hu hw hl a1 a2 a3
    simp only at CT
    go_enter Tryz.func6, Tryz.ntmps6
    go_wp2_with fail
    (refine (CW.out _ _ HU.out.1 HU.out.2).mono ?_)
    rintro e w1 ⟨tv, fv, rfl, r1, b1⟩
    obtain ⟨⟨ta, tc, rfl⟩, ⟨fa, fc, rfl⟩⟩ := r1.form
    have H1 := Lib.hid (And.intro r1.tok b1)
    clear r1 b1 CW
    go_wp2_with fail
    (refine (CD.out _ H1.out.2).mono ?_)
    rintro e w2 ⟨rfl, b2⟩
    have H2 := Lib.hid (And.intro (H1.out.1.1.below b2) (And.intro (H1.out.1.2.below b2) (H1.out.2.trans (b2.mono H1.out.2.size))))
    clear b2 CD H1
    go_wp2_with fail
    (refine (CT.out _ (HW.out _ H2.out.2.2).1).mono ?_)
    rintro e w3 hP
    obtain ⟨tv, fv, rfl, r3, b3⟩ := TokX.of hP (Below.refl _ _)
    obtain ⟨⟨ua, uc, rfl⟩, ⟨ga, gc, rfl⟩⟩ := r3.form
    have H3 := Lib.hid (And.intro (H2.out.1.below b3) (And.intro (H2.out.2.1.below b3) (And.intro r3.tok (H2.out.2.2.trans (b3.mono H2.out.2.2.size)))))
    clear r3 b3 CT H2 hP
    go_wp2_with fail
    (refine (CL.out _ H3.out.2.2.2).mono ?_)
    rintro e w4 ⟨rfl, b4⟩
    have H4 := Lib.hid (And.intro (H3.out.1.below b4) (And.intro (H3.out.2.1.below b4) (And.intro (H3.out.2.2.1.1.below b4) (And.intro (H3.out.2.2.1.2.below b4) (H3.out.2.2.2.trans (b4.mono H3.out.2.2.2.size))))))
    clear b4 CL H3
    go_wp2_with fail
    (refine (CS.out _ _ _ H4.out.1 H4.out.2.2.1).mono ?_)
    rintro e w5 ⟨rfl, b5⟩
    have H5 := Lib.hid (And.intro (H4.out.2.1.below b5) (And.intro (H4.out.2.2.2.1.below b5) (H4.out.2.2.2.2.trans (b5.mono H4.out.2.2.2.2.size))))
    clear b5 CS H4
    go_wp2_with fail
    (refine (CF.out _ _ _ H5.out.1 H5.out.2.1).mono ?_)
    rintro e w6 ⟨rfl, b6⟩
    have H6 := Lib.hid (H5.out.2.2.trans (b6.mono H5.out.2.2.size))
    clear b6 CF H5
    go_wp2
    go_ret
    exact ⟨rfl, H6.out⟩
  · have z1 : (2000 : Int) < (l.length : Int) := by omega
    clear hu hw hl
    go_enter Tryz.func6, Tryz.ntmps6
    go_wp2
    go_ret
    exact ⟨rfl, Below.refl _ _⟩

set_option maxRecDepth 100000 in
set_option maxHeartbeats 8000000 in
theorem nil_law (l : List UInt8) (v : Value) (w : World) (hu : BytesIn w v l) (hw : Lw w) :
    Calls Tryz.prog 7 #[v] w fun e w' => e = .returned (.bool true) ∧ Below w.heap.size w w' := by
  obtain ⟨a, c, rfl⟩ := hu.form
  by_cases hl : l.length ≤ 2000
  · have z1 : ¬ (2000 : Int) < (l.length : Int) := by omega
    have CL := feeds_hid w hw
    have CF := feedN_hid
    have CE := endN_hid
    have CC := countN_hid
    clear hu hw hl
    go_enter Tryz.func7, Tryz.ntmps7
    go_wp2_with fail
    (refine (CF.out _ _).mono ?_)
    rintro e w1 ⟨rfl, rfl⟩
    go_wp2_with fail
    (refine (CE.out _).mono ?_)
    rintro e w2 ⟨rfl, rfl⟩
    go_wp2_with fail
    (refine (CL.out _ (Below.refl _ _)).mono ?_)
    rintro e w3 ⟨rfl, b3⟩
    go_wp2_with fail
    (refine (CC.out _).mono ?_)
    rintro e w4 ⟨rfl, rfl⟩
    have H4 := Lib.hid b3
    clear b3
    go_wp2
    go_ret
    exact ⟨rfl, H4.out⟩
  · have z1 : (2000 : Int) < (l.length : Int) := by omega
    clear hu hw hl
    go_enter Tryz.func7, Tryz.ntmps7
    go_wp2
    go_ret
    exact ⟨rfl, Below.refl _ _⟩

end Go.Proofs.YtfbhpmafjehojaaGreatDoor.U1
