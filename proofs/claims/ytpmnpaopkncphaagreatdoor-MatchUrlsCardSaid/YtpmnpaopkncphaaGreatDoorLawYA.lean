/- A source lets an address be by just this; what is let be without being moved is let be moved. -/
import Derived.Test.YtpmnpaopkncphaaGreatDoorRowsY
namespace Go.Proofs.YtpmnpaopkncphaaGreatDoor
open Go.RowKit

set_option maxRecDepth 100000 in
set_option maxHeartbeats 8000000 in
theorem matchUrls_law (k : Int) (t s h : ByteArray) (wd : Bool) (sp : Int) (pa : ByteArray) (o : Bool) (s2 h2 : ByteArray) (p : Int) (pa2 q2 : ByteArray) (o3 : Bool) (s3 h3 : ByteArray) (p3 : Int) (pa3 q3 : ByteArray) (m : Bool) (w : World) (hw : Low w) : Calls Tryz.prog 4 #[srcV k t s h wd sp pa, uV o s2 h2 p pa2 q2, uV o3 s3 h3 p3 pa3 q3, .bool m] w fun e w' => e = .returned (.bool true) ∧ Below w.heap.size w w' := by
  have MR := matches_hid
  have LG := large_hid k t s h wd sp pa o s2 h2 p pa2 q2 o3 s3 h3 p3 pa3 q3
  obtain ⟨r, hr⟩ : ∃ r, urlL (srcM k t s h wd sp pa) (uM o s2 h2 p pa2 q2) (uM o3 s3 h3 p3 pa3 q3) m = r := ⟨_, rfl⟩
  have HQ := Lib.hid hr
  clear hr
  have gr : (r == r) = true := by rw [beq_iff_eq]
  unfold srcV uV at *
  go_enter Tryz.func4, Tryz.ntmps4
  go_wp2_with fail
  obtain ⟨x1, x2, x3, BB⟩ := urlBlocks w k t s h wd sp pa o s2 h2 p pa2 q2 o3 s3 h3 p3 pa3 q3
  have gB := ((hw.made (.cells #[.int .i64 k, .string t, .string s, .string h, .bool wd, .int .i64 sp, .string pa] 24)).made (.cells #[.bool o, .string s2, .string h2, .int .i64 p, .string pa2, .string q2] 26)).made (.cells #[.bool o3, .string s3, .string h3, .int .i64 p3, .string pa3, .string q3] 26)
  clear hw
  generalize hR : w.heap.size = Ra at x1 x2 x3 BB ⊢
  have HR := Lib.hid hR
  clear hR
  obtain ⟨Rb, hRb⟩ : ∃ Rb, Ra + 1 = Rb := ⟨_, rfl⟩
  rw [hRb] at x2 x3
  try rw [hRb]
  clear hRb
  obtain ⟨Rc, hRb⟩ : ∃ Rc, Rb + 1 = Rc := ⟨_, rfl⟩
  rw [hRb] at x3
  try rw [hRb]
  clear hRb
  generalize ((w.alloc (.cells #[.int .i64 k, .string t, .string s, .string h, .bool wd, .int .i64 sp, .string pa] 24)).alloc (.cells #[.bool o, .string s2, .string h2, .int .i64 p, .string pa2, .string q2] 26)).alloc (.cells #[.bool o3, .string s3, .string h3, .int .i64 p3, .string pa3, .string q3] 26) = w1 at x1 x2 x3 gB BB ⊢
  have xRa_w1 := x1
  have xRb_w1 := x2
  have xRc_w1 := x3
  clear x1 x2 x3
  refine (LG.out _ ).mono ?_
  rintro e w2 ⟨b0, rfl, b_, hz⟩
  have gw2 := gB.below b_
  have Bw2 := BB.trans (b_.mono (Nat.le_of_lt xRa_w1.lt))
  have xRa_w2 := xRa_w1.below b_
  have xRb_w2 := xRb_w1.below b_
  have xRc_w2 := xRc_w1.below b_
  clear b_ gB BB xRa_w1 xRb_w1 xRc_w1
  have HZ := Lib.hid hz
  clear hz
  cases b0
  case true =>
    go_wp2
    go_ret
    exact ⟨rfl, by rw [HR.out]; exact Bw2⟩
  obtain ⟨⟨a1, a2, a3, a4⟩, ⟨c1, c2, c3, c4⟩, ⟨e1, e2, e3, e4⟩⟩ := HZ.out rfl
  clear HZ
  have CM := matUrl_hid k t s h wd sp pa o s2 h2 p pa2 q2 o3 s3 h3 p3 pa3 q3 m (by omega) (by omega) (by omega) (by omega) (by omega) (by omega) (by omega) (by omega) (by omega) (by omega) r HQ.out
  have CR := refUrl_hid k t s h wd sp pa o s2 h2 p pa2 q2 o3 s3 h3 p3 pa3 q3 m (by omega) (by omega) (by omega) (by omega) (by omega) (by omega) (by omega) (by omega) (by omega) (by omega) r HQ.out
  unfold srcV uV at CM CR
  clear HQ a1 a2 a3 a4 c1 c2 c3 c4 e1 e2 e3 e4 LG
  have dRa0 := xRa_w2.c0
  have dRa1 := xRa_w2.c1
  have dRa2 := xRa_w2.c2
  have dRa3 := xRa_w2.c3
  have dRa4 := xRa_w2.c4
  have dRa5 := xRa_w2.c5
  have dRa6 := xRa_w2.c6
  have dRb0 := xRb_w2.c0
  have dRb1 := xRb_w2.c1
  have dRb2 := xRb_w2.c2
  have dRb3 := xRb_w2.c3
  have dRb4 := xRb_w2.c4
  have dRb5 := xRb_w2.c5
  have dRc0 := xRc_w2.c0
  have dRc1 := xRc_w2.c1
  have dRc2 := xRc_w2.c2
  have dRc3 := xRc_w2.c3
  have dRc4 := xRc_w2.c4
  have dRc5 := xRc_w2.c5
  go_wp2
  clear dRa0 dRa1 dRa2 dRa3 dRa4 dRa5 dRa6 dRb0 dRb1 dRb2 dRb3 dRb4 dRb5 dRc0 dRc1 dRc2 dRc3 dRc4 dRc5
  obtain ⟨C, hC⟩ : ∃ C : World → Prop, ∀ w', C w' ↔ (SX w' Ra k t s h wd sp pa ∧ BX w' Rb o s2 h2 p pa2 q2 ∧ BX w' Rc o3 s3 h3 p3 pa3 q3 ∧ Below Ra w w' ∧ Low w') := ⟨_, fun _ => Iff.rfl⟩
  have HC := Lib.hid hC
  clear hC
  have hC0 : C w2.drew := (HC.out _).2 ⟨xRa_w2, xRb_w2, xRc_w2, Bw2.drew, gw2.drew⟩
  have HK : Hid (∀ w', C w' → ∀ w7, Below w'.heap.size w' w7 → C w7) := Lib.hid fun w' hc w7 b => by
    obtain ⟨xRa, xRb, xRc, K4, g7⟩ := (HC.out w').1 hc
    exact (HC.out _).2 ⟨xRa.below b, xRb.below b, xRc.below b, K4.trans (b.mono (Nat.le_of_lt xRa.lt)), g7.below b⟩
  clear xRa_w2 xRb_w2 xRc_w2 Bw2 gw2
  refine region_class C (by kernel_rfl) (by kernel_rfl) hC0 ?_
  clear hC0
  repeat
    first
      | go_big_quiet_skip
      | (go_big_quiet_want; go_big_quiet_op; go_big_quiet_on)
      | (refine BigFrame.wpQuiet_want rfl (fun K hK => ?_)
         apply Exists.intro
         refine ⟨fun w' hc => ?_, hK _ ?_⟩
         · obtain ⟨xRa, xRb, xRc, K4, g7⟩ := (HC.out w').1 hc
           have dRa0 := xRa.c0
           have dRa1 := xRa.c1
           have dRa2 := xRa.c2
           have dRa3 := xRa.c3
           have dRa4 := xRa.c4
           have dRa5 := xRa.c5
           have dRa6 := xRa.c6
           have dRb0 := xRb.c0
           have dRb1 := xRb.c1
           have dRb2 := xRb.c2
           have dRb3 := xRb.c3
           have dRb4 := xRb.c4
           have dRb5 := xRb.c5
           have dRc0 := xRc.c0
           have dRc1 := xRc.c1
           have dRc2 := xRc.c2
           have dRc3 := xRc.c3
           have dRc4 := xRc.c4
           have dRc5 := xRc.c5
           unfold Oper.quietAt
           go_simp
           first
             | done
             | rfl
             | ((with_reducible refine (MR.out _ g7).mono ?_); rintro e w7 ⟨rfl, b7⟩; exact ⟨rfl, HK.out w' hc w7 b7⟩)
             | ((with_reducible refine (CM.out _ g7).mono ?_); rintro e w7 ⟨rfl, b7⟩; exact ⟨rfl, HK.out w' hc w7 b7⟩)
             | ((with_reducible refine (CR.out _ g7).mono ?_); rintro e w7 ⟨rfl, b7⟩; exact ⟨rfl, HK.out w' hc w7 b7⟩)
         clear hK K
         simp only [Act.put, List.setIfInBounds_toArray, List.set_cons_zero, List.set_cons_succ])
  refine wpQuiet_nil ?_
  intro w3 hc
  obtain ⟨xRa_w3, xRb_w3, xRc_w3, Bw3, gw3⟩ := (HC.out w3).1 hc
  clear hc HC HK
  go_wp2
  go_ret
  exact ⟨rfl, by rw [HR.out]; exact Bw3⟩

set_option maxRecDepth 100000 in
set_option maxHeartbeats 8000000 in
theorem matchMoved_law (k : Int) (t s h : ByteArray) (wd : Bool) (sp : Int) (pa : ByteArray) (o : Bool) (s2 h2 : ByteArray) (p : Int) (pa2 q2 : ByteArray) (o3 : Bool) (s3 h3 : ByteArray) (p3 : Int) (pa3 q3 : ByteArray) (w : World) (hw : Low w) : Calls Tryz.prog 5 #[srcV k t s h wd sp pa, uV o s2 h2 p pa2 q2, uV o3 s3 h3 p3 pa3 q3] w fun e w' => e = .returned (.bool true) ∧ Below w.heap.size w w' := by
  have MR := matches_hid
  have LG := large_hid k t s h wd sp pa o s2 h2 p pa2 q2 o3 s3 h3 p3 pa3 q3
  obtain ⟨r1, hr1⟩ : ∃ r, urlL (srcM k t s h wd sp pa) (uM o s2 h2 p pa2 q2) (uM o3 s3 h3 p3 pa3 q3) false = r := ⟨_, rfl⟩
  obtain ⟨r2, hr2⟩ : ∃ r, urlL (srcM k t s h wd sp pa) (uM o s2 h2 p pa2 q2) (uM o3 s3 h3 p3 pa3 q3) true = r := ⟨_, rfl⟩
  obtain ⟨bp, gp⟩ : ∃ b, pa.toList.isEmpty = b := ⟨_, rfl⟩
  have H1 := Lib.hid hr1
  have H2 := Lib.hid hr2
  have HI : Hid (r1 = true → r2 = true) := Lib.hid fun h => by rw [← hr2]; exact url_moved _ _ _ (hr1.trans h)
  have HE : Hid (bp = true → r1 = r2) := Lib.hid fun h => by
    rw [← hr1, ← hr2]
    refine url_nopath _ _ _ ?_
    rw [← gp, text_none] at h
    exact List.isEmpty_iff.1 h
  clear hr1 hr2
  unfold srcV uV at *
  go_enter Tryz.func5, Tryz.ntmps5
  go_wp2_with fail
  obtain ⟨x1, x2, x3, BB⟩ := urlBlocks w k t s h wd sp pa o s2 h2 p pa2 q2 o3 s3 h3 p3 pa3 q3
  have gB := ((hw.made (.cells #[.int .i64 k, .string t, .string s, .string h, .bool wd, .int .i64 sp, .string pa] 24)).made (.cells #[.bool o, .string s2, .string h2, .int .i64 p, .string pa2, .string q2] 26)).made (.cells #[.bool o3, .string s3, .string h3, .int .i64 p3, .string pa3, .string q3] 26)
  clear hw
  generalize hR : w.heap.size = Ra at x1 x2 x3 BB ⊢
  have HR := Lib.hid hR
  clear hR
  obtain ⟨Rb, hRb⟩ : ∃ Rb, Ra + 1 = Rb := ⟨_, rfl⟩
  rw [hRb] at x2 x3
  try rw [hRb]
  clear hRb
  obtain ⟨Rc, hRb⟩ : ∃ Rc, Rb + 1 = Rc := ⟨_, rfl⟩
  rw [hRb] at x3
  try rw [hRb]
  clear hRb
  generalize ((w.alloc (.cells #[.int .i64 k, .string t, .string s, .string h, .bool wd, .int .i64 sp, .string pa] 24)).alloc (.cells #[.bool o, .string s2, .string h2, .int .i64 p, .string pa2, .string q2] 26)).alloc (.cells #[.bool o3, .string s3, .string h3, .int .i64 p3, .string pa3, .string q3] 26) = w1 at x1 x2 x3 gB BB ⊢
  have xRa_w1 := x1
  have xRb_w1 := x2
  have xRc_w1 := x3
  clear x1 x2 x3
  refine (LG.out _ ).mono ?_
  rintro e w2 ⟨b0, rfl, b_, hz⟩
  have gw2 := gB.below b_
  have Bw2 := BB.trans (b_.mono (Nat.le_of_lt xRa_w1.lt))
  have xRa_w2 := xRa_w1.below b_
  have xRb_w2 := xRb_w1.below b_
  have xRc_w2 := xRc_w1.below b_
  clear b_ gB BB xRa_w1 xRb_w1 xRc_w1
  have HZ := Lib.hid hz
  clear hz
  cases b0
  case true =>
    go_wp2
    go_ret
    exact ⟨rfl, by rw [HR.out]; exact Bw2⟩
  obtain ⟨⟨a1, a2, a3, a4⟩, ⟨c1, c2, c3, c4⟩, ⟨e1, e2, e3, e4⟩⟩ := HZ.out rfl
  clear HZ
  have CM := matUrl_hid k t s h wd sp pa o s2 h2 p pa2 q2 o3 s3 h3 p3 pa3 q3 false (by omega) (by omega) (by omega) (by omega) (by omega) (by omega) (by omega) (by omega) (by omega) (by omega) r1 H1.out
  have CN := matUrl_hid k t s h wd sp pa o s2 h2 p pa2 q2 o3 s3 h3 p3 pa3 q3 true (by omega) (by omega) (by omega) (by omega) (by omega) (by omega) (by omega) (by omega) (by omega) (by omega) r2 H2.out
  unfold srcV uV at CM CN
  clear H1 H2 a1 a2 a3 a4 c1 c2 c3 c4 e1 e2 e3 e4 LG
  have dRa0 := xRa_w2.c0
  have dRa1 := xRa_w2.c1
  have dRa2 := xRa_w2.c2
  have dRa3 := xRa_w2.c3
  have dRa4 := xRa_w2.c4
  have dRa5 := xRa_w2.c5
  have dRa6 := xRa_w2.c6
  have dRb0 := xRb_w2.c0
  have dRb1 := xRb_w2.c1
  have dRb2 := xRb_w2.c2
  have dRb3 := xRb_w2.c3
  have dRb4 := xRb_w2.c4
  have dRb5 := xRb_w2.c5
  have dRc0 := xRc_w2.c0
  have dRc1 := xRc_w2.c1
  have dRc2 := xRc_w2.c2
  have dRc3 := xRc_w2.c3
  have dRc4 := xRc_w2.c4
  have dRc5 := xRc_w2.c5
  go_wp2_with fail
  clear dRa0 dRa1 dRa2 dRa3 dRa4 dRa5 dRa6 dRb0 dRb1 dRb2 dRb3 dRb4 dRb5 dRc0 dRc1 dRc2 dRc3 dRc4 dRc5
  refine (CM.out _ gw2).mono ?_
  rintro e w3 ⟨rfl, b_⟩
  have gw3 := gw2.below b_
  have Bw3 := Bw2.trans (b_.mono (Nat.le_of_lt xRa_w2.lt))
  have xRa_w3 := xRa_w2.below b_
  have xRb_w3 := xRb_w2.below b_
  have xRc_w3 := xRc_w2.below b_
  clear b_ gw2 Bw2 xRa_w2 xRb_w2 xRc_w2
  have dRa0 := xRa_w3.c0
  have dRa1 := xRa_w3.c1
  have dRa2 := xRa_w3.c2
  have dRa3 := xRa_w3.c3
  have dRa4 := xRa_w3.c4
  have dRa5 := xRa_w3.c5
  have dRa6 := xRa_w3.c6
  have dRb0 := xRb_w3.c0
  have dRb1 := xRb_w3.c1
  have dRb2 := xRb_w3.c2
  have dRb3 := xRb_w3.c3
  have dRb4 := xRb_w3.c4
  have dRb5 := xRb_w3.c5
  have dRc0 := xRc_w3.c0
  have dRc1 := xRc_w3.c1
  have dRc2 := xRc_w3.c2
  have dRc3 := xRc_w3.c3
  have dRc4 := xRc_w3.c4
  have dRc5 := xRc_w3.c5
  go_wp2_with fail
  clear dRa0 dRa1 dRa2 dRa3 dRa4 dRa5 dRa6 dRb0 dRb1 dRb2 dRb3 dRb4 dRb5 dRc0 dRc1 dRc2 dRc3 dRc4 dRc5
  refine (CN.out _ gw3).mono ?_
  rintro e w4 ⟨rfl, b_⟩
  have gw4 := gw3.below b_
  have Bw4 := Bw3.trans (b_.mono (Nat.le_of_lt xRa_w3.lt))
  have xRa_w4 := xRa_w3.below b_
  have xRb_w4 := xRb_w3.below b_
  have xRc_w4 := xRc_w3.below b_
  clear b_ gw3 Bw3 xRa_w3 xRb_w3 xRc_w3
  cases r1 <;> cases r2 <;> cases bp
  all_goals
    first
    | exact absurd (HI.out rfl) (by decide)
    | exact absurd (HE.out rfl) (by decide)
    | skip
  all_goals
    clear HI HE
    go_wp2_with fail
    refine (MR.out _ gw4).mono ?_
    rintro e w5 ⟨rfl, b_⟩
    have gw5 := gw4.below b_
    have Bw5 := Bw4.trans (b_.mono (Nat.le_of_lt xRa_w4.lt))
    have xRa_w5 := xRa_w4.below b_
    have xRb_w5 := xRb_w4.below b_
    have xRc_w5 := xRc_w4.below b_
    clear b_ gw4 Bw4 xRa_w4 xRb_w4 xRc_w4
    have dRa0 := xRa_w5.c0
    have dRa1 := xRa_w5.c1
    have dRa2 := xRa_w5.c2
    have dRa3 := xRa_w5.c3
    have dRa4 := xRa_w5.c4
    have dRa5 := xRa_w5.c5
    have dRa6 := xRa_w5.c6
    go_wp2
    go_ret
    exact ⟨rfl, by rw [HR.out]; exact Bw5⟩

end Go.Proofs.YtpmnpaopkncphaaGreatDoor
