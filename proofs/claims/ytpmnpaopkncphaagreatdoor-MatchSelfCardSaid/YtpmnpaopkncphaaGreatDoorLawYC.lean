/- What is of the page's own origin is let be by it; what is of another host never. -/
import Derived.Test.YtpmnpaopkncphaaGreatDoorLawYB
namespace Go.Proofs.YtpmnpaopkncphaaGreatDoor
open Go.RowKit

set_option maxRecDepth 100000 in
set_option maxHeartbeats 8000000 in
theorem self_long (o : Bool) (s2 h2 : ByteArray) (p : Int) (pa2 q2 : ByteArray) (o3 : Bool) (s3 h3 : ByteArray) (p3 : Int) (pa3 q3 : ByteArray) (m : Bool) (hn : ¬ Fits ⟨#[]⟩ ⟨#[]⟩ ⟨#[]⟩ ⟨#[]⟩ s2 h2 pa2 q2 s3 h3 pa3 q3) (w : World) (hw : Low w) : Calls Tryz.prog 7 #[uV o s2 h2 p pa2 q2, uV o3 s3 h3 p3 pa3 q3, .bool m] w fun e w' => e = .returned (.bool true) ∧ Below w.heap.size w w' := by
  have MR := matches_hid
  have LG := large_hid 0 ⟨#[]⟩ ⟨#[]⟩ ⟨#[]⟩ false 0 ⟨#[]⟩ o s2 h2 p pa2 q2 o3 s3 h3 p3 pa3 q3
  have HN := Lib.hid hn
  clear hn
  unfold srcV uV at *
  go_enter Tryz.func7, Tryz.ntmps7
  go_wp2_with fail
  have xn := BX.made w o s2 h2 p pa2 q2
  have xz := BX.made (w.alloc (.cells #[.bool o, .string s2, .string h2, .int .i64 p, .string pa2, .string q2] 26)) o3 s3 h3 p3 pa3 q3
  have xy := xn.below ((Below.refl _ _).alloc (Nat.le_refl _) (.cells #[.bool o3, .string s3, .string h3, .int .i64 p3, .string pa3, .string q3] 26))
  have gB := (hw.made (.cells #[.bool o, .string s2, .string h2, .int .i64 p, .string pa2, .string q2] 26)).made (.cells #[.bool o3, .string s3, .string h3, .int .i64 p3, .string pa3, .string q3] 26)
  have BB := ((Below.refl w.heap.size w).alloc (Nat.le_refl _) (.cells #[.bool o, .string s2, .string h2, .int .i64 p, .string pa2, .string q2] 26)).alloc (Below.size ((Below.refl w.heap.size w).alloc (Nat.le_refl _) (.cells #[.bool o, .string s2, .string h2, .int .i64 p, .string pa2, .string q2] 26))) (.cells #[.bool o3, .string s3, .string h3, .int .i64 p3, .string pa3, .string q3] 26)
  rw [size_alloc] at xz
  clear xn hw
  generalize hR : w.heap.size = Ra at xy xz BB ⊢
  have HR := Lib.hid hR
  clear hR
  obtain ⟨Rb, hRb⟩ : ∃ Rb, Ra + 1 = Rb := ⟨_, rfl⟩
  rw [hRb] at xz
  try rw [hRb]
  clear hRb
  generalize (w.alloc (.cells #[.bool o, .string s2, .string h2, .int .i64 p, .string pa2, .string q2] 26)).alloc (.cells #[.bool o3, .string s3, .string h3, .int .i64 p3, .string pa3, .string q3] 26) = w1 at xy xz gB BB ⊢
  have xRa_w1 := xy
  have xRb_w1 := xz
  clear xy xz
  refine (LG.out _ ).mono ?_
  rintro e w2 ⟨b0, rfl, b_, hz⟩
  have gw2 := gB.below b_
  have Bw2 := BB.trans (b_.mono (Nat.le_of_lt xRa_w1.lt))
  have xRa_w2 := xRa_w1.below b_
  have xRb_w2 := xRb_w1.below b_
  clear b_ gB BB xRa_w1 xRb_w1
  have HZ := Lib.hid hz
  clear hz
  cases b0
  case false => exact absurd (HZ.out rfl) HN.out
  go_wp2
  go_ret
  exact ⟨rfl, by rw [HR.out]; exact Bw2⟩

set_option maxRecDepth 100000 in
set_option maxHeartbeats 8000000 in
theorem self_ff (o : Bool) (s2 h2 : ByteArray) (p : Int) (pa2 q2 : ByteArray) (o3 : Bool) (s3 h3 : ByteArray) (p3 : Int) (pa3 q3 : ByteArray) (m : Bool) (oa : Bool) (sx hx : ByteArray) (px : Int) (ob : Bool) (sy hy : ByteArray) (py : Int) (CO1 : Hid (∀ W, Low W → Calls Tryz.prog 24 #[uV o s2 h2 p pa2 q2] W fun e w' => e = .returned (oV oa sx hx px) ∧ Below W.heap.size W w')) (CO2 : Hid (∀ W, Low W → Calls Tryz.prog 24 #[uV o3 s3 h3 p3 pa3 q3] W fun e w' => e = .returned (oV ob sy hy py) ∧ Below W.heap.size W w')) (CS : Hid (∀ W, Calls Tryz.prog 23 #[oV oa sx hx px, oV ob sy hy py] W fun e w' => e = .returned (.bool false) ∧ Below W.heap.size W w')) (CU : Hid (∀ W, Low W → Calls Tryz.prog 20 #[srcV 2 ⟨#[]⟩ ⟨#[]⟩ ⟨#[]⟩ false 0 ⟨#[]⟩, uV o s2 h2 p pa2 q2, uV o3 s3 h3 p3 pa3 q3, .bool m] W fun e w' => e = .returned (.bool false) ∧ Below W.heap.size W w'))  (w : World) (hw : Low w) : Calls Tryz.prog 7 #[uV o s2 h2 p pa2 q2, uV o3 s3 h3 p3 pa3 q3, .bool m] w fun e w' => e = .returned (.bool true) ∧ Below w.heap.size w w' := by
  have MR := matches_hid
  have LG := large_hid 0 ⟨#[]⟩ ⟨#[]⟩ ⟨#[]⟩ false 0 ⟨#[]⟩ o s2 h2 p pa2 q2 o3 s3 h3 p3 pa3 q3
  unfold srcV uV oV at *
  go_enter Tryz.func7, Tryz.ntmps7
  go_wp2_with fail
  have xn := BX.made w o s2 h2 p pa2 q2
  have xz := BX.made (w.alloc (.cells #[.bool o, .string s2, .string h2, .int .i64 p, .string pa2, .string q2] 26)) o3 s3 h3 p3 pa3 q3
  have xy := xn.below ((Below.refl _ _).alloc (Nat.le_refl _) (.cells #[.bool o3, .string s3, .string h3, .int .i64 p3, .string pa3, .string q3] 26))
  have gB := (hw.made (.cells #[.bool o, .string s2, .string h2, .int .i64 p, .string pa2, .string q2] 26)).made (.cells #[.bool o3, .string s3, .string h3, .int .i64 p3, .string pa3, .string q3] 26)
  have BB := ((Below.refl w.heap.size w).alloc (Nat.le_refl _) (.cells #[.bool o, .string s2, .string h2, .int .i64 p, .string pa2, .string q2] 26)).alloc (Below.size ((Below.refl w.heap.size w).alloc (Nat.le_refl _) (.cells #[.bool o, .string s2, .string h2, .int .i64 p, .string pa2, .string q2] 26))) (.cells #[.bool o3, .string s3, .string h3, .int .i64 p3, .string pa3, .string q3] 26)
  rw [size_alloc] at xz
  clear xn hw
  generalize hR : w.heap.size = Ra at xy xz BB ⊢
  have HR := Lib.hid hR
  clear hR
  obtain ⟨Rb, hRb⟩ : ∃ Rb, Ra + 1 = Rb := ⟨_, rfl⟩
  rw [hRb] at xz
  try rw [hRb]
  clear hRb
  generalize (w.alloc (.cells #[.bool o, .string s2, .string h2, .int .i64 p, .string pa2, .string q2] 26)).alloc (.cells #[.bool o3, .string s3, .string h3, .int .i64 p3, .string pa3, .string q3] 26) = w1 at xy xz gB BB ⊢
  have xRa_w1 := xy
  have xRb_w1 := xz
  clear xy xz
  refine (LG.out _ ).mono ?_
  rintro e w2 ⟨b0, rfl, b_, hz⟩
  have gw2 := gB.below b_
  have Bw2 := BB.trans (b_.mono (Nat.le_of_lt xRa_w1.lt))
  have xRa_w2 := xRa_w1.below b_
  have xRb_w2 := xRb_w1.below b_
  clear b_ gB BB xRa_w1 xRb_w1
  have HZ := Lib.hid hz
  clear hz
  cases b0
  case true =>
    go_wp2
    go_ret
    exact ⟨rfl, by rw [HR.out]; exact Bw2⟩
  clear HZ LG
  have dRa0 := xRa_w2.c0
  have dRa1 := xRa_w2.c1
  have dRa2 := xRa_w2.c2
  have dRa3 := xRa_w2.c3
  have dRa4 := xRa_w2.c4
  have dRa5 := xRa_w2.c5
  have dRb0 := xRb_w2.c0
  have dRb1 := xRb_w2.c1
  have dRb2 := xRb_w2.c2
  have dRb3 := xRb_w2.c3
  have dRb4 := xRb_w2.c4
  have dRb5 := xRb_w2.c5
  go_wp2_with fail
  clear dRa0 dRa1 dRa2 dRa3 dRa4 dRa5 dRb0 dRb1 dRb2 dRb3 dRb4 dRb5
  refine (CU.out _ gw2).mono ?_
  rintro e w3 ⟨rfl, b_⟩
  have gw3 := gw2.below b_
  have Bw3 := Bw2.trans (b_.mono (Nat.le_of_lt xRa_w2.lt))
  have xRa_w3 := xRa_w2.below b_
  have xRb_w3 := xRb_w2.below b_
  clear b_ gw2 Bw2 xRa_w2 xRb_w2
  have dRa0 := xRa_w3.c0
  have dRa1 := xRa_w3.c1
  have dRa2 := xRa_w3.c2
  have dRa3 := xRa_w3.c3
  have dRa4 := xRa_w3.c4
  have dRa5 := xRa_w3.c5
  have dRb0 := xRb_w3.c0
  have dRb1 := xRb_w3.c1
  have dRb2 := xRb_w3.c2
  have dRb3 := xRb_w3.c3
  have dRb4 := xRb_w3.c4
  have dRb5 := xRb_w3.c5
  go_wp2
  clear dRa0 dRa1 dRa2 dRa3 dRa4 dRa5 dRb0 dRb1 dRb2 dRb3 dRb4 dRb5
  obtain ⟨C, hC⟩ : ∃ C : World → Prop, ∀ w', C w' ↔ (BX w' Ra o s2 h2 p pa2 q2 ∧ BX w' Rb o3 s3 h3 p3 pa3 q3 ∧ Below Ra w w' ∧ Low w') := ⟨_, fun _ => Iff.rfl⟩
  have HC := Lib.hid hC
  clear hC
  have hC0 : C w3.drew := (HC.out _).2 ⟨xRa_w3, xRb_w3, Bw3.drew, gw3.drew⟩
  have HK : Hid (∀ w', C w' → ∀ w7, Below w'.heap.size w' w7 → C w7) := Lib.hid fun w' hc w7 b => by
    obtain ⟨xRa, xRb, K4, g7⟩ := (HC.out w').1 hc
    exact (HC.out _).2 ⟨xRa.below b, xRb.below b, K4.trans (b.mono (Nat.le_of_lt xRa.lt)), g7.below b⟩
  clear xRa_w3 xRb_w3 Bw3 gw3
  refine region_class C (by kernel_rfl) (by kernel_rfl) hC0 ?_
  clear hC0
  repeat
    first
      | go_big_quiet_skip
      | (go_big_quiet_want; go_big_quiet_op; go_big_quiet_on)
      | (refine BigFrame.wpQuiet_want rfl (fun K hK => ?_)
         apply Exists.intro
         refine ⟨fun w' hc => ?_, hK _ ?_⟩
         · obtain ⟨xRa, xRb, K4, g7⟩ := (HC.out w').1 hc
           have dRa0 := xRa.c0
           have dRa1 := xRa.c1
           have dRa2 := xRa.c2
           have dRa3 := xRa.c3
           have dRa4 := xRa.c4
           have dRa5 := xRa.c5
           have dRb0 := xRb.c0
           have dRb1 := xRb.c1
           have dRb2 := xRb.c2
           have dRb3 := xRb.c3
           have dRb4 := xRb.c4
           have dRb5 := xRb.c5
           unfold Oper.quietAt
           go_simp
           first
             | done
             | rfl
             | ((with_reducible refine (CO1.out _ g7).mono ?_); rintro e w7 ⟨rfl, b7⟩; exact ⟨rfl, HK.out w' hc w7 b7⟩)
             | ((with_reducible refine (CO2.out _ g7).mono ?_); rintro e w7 ⟨rfl, b7⟩; exact ⟨rfl, HK.out w' hc w7 b7⟩)
             | ((with_reducible refine (CS.out _).mono ?_); rintro e w7 ⟨rfl, b7⟩; exact ⟨rfl, HK.out w' hc w7 b7⟩)
         clear hK K
         simp only [Act.put, List.setIfInBounds_toArray, List.set_cons_zero, List.set_cons_succ])
  refine wpQuiet_nil ?_
  intro w4 hc
  obtain ⟨xRa_w4, xRb_w4, Bw4, gw4⟩ := (HC.out w4).1 hc
  clear hc HC HK
  have dRa0 := xRa_w4.c0
  have dRa1 := xRa_w4.c1
  have dRa2 := xRa_w4.c2
  have dRa3 := xRa_w4.c3
  have dRa4 := xRa_w4.c4
  have dRa5 := xRa_w4.c5
  have dRb0 := xRb_w4.c0
  have dRb1 := xRb_w4.c1
  have dRb2 := xRb_w4.c2
  have dRb3 := xRb_w4.c3
  have dRb4 := xRb_w4.c4
  have dRb5 := xRb_w4.c5
  go_wp2_with fail
  clear dRa0 dRa1 dRa2 dRa3 dRa4 dRa5 dRb0 dRb1 dRb2 dRb3 dRb4 dRb5
  refine (MR.out _ gw4).mono ?_
  rintro e w5 ⟨rfl, b_⟩
  have gw5 := gw4.below b_
  have Bw5 := Bw4.trans (b_.mono (Nat.le_of_lt xRa_w4.lt))
  have xRa_w5 := xRa_w4.below b_
  have xRb_w5 := xRb_w4.below b_
  clear b_ gw4 Bw4 xRa_w4 xRb_w4
  have dRa0 := xRa_w5.c0
  have dRa1 := xRa_w5.c1
  have dRa2 := xRa_w5.c2
  have dRa3 := xRa_w5.c3
  have dRa4 := xRa_w5.c4
  have dRa5 := xRa_w5.c5
  have dRb0 := xRb_w5.c0
  have dRb1 := xRb_w5.c1
  have dRb2 := xRb_w5.c2
  have dRb3 := xRb_w5.c3
  have dRb4 := xRb_w5.c4
  have dRb5 := xRb_w5.c5
  go_wp2
  go_ret
  exact ⟨rfl, by rw [HR.out]; exact Bw5⟩

set_option maxRecDepth 100000 in
set_option maxHeartbeats 8000000 in
theorem self_ft (s2 h2 : ByteArray) (p : Int) (pa2 q2 : ByteArray) (o3 : Bool) (s3 h3 : ByteArray) (p3 : Int) (pa3 q3 : ByteArray) (m : Bool) (oa : Bool) (sx hx : ByteArray) (px : Int) (ob : Bool) (sy hy : ByteArray) (py : Int) (CO1 : Hid (∀ W, Low W → Calls Tryz.prog 24 #[uV false s2 h2 p pa2 q2] W fun e w' => e = .returned (oV oa sx hx px) ∧ Below W.heap.size W w')) (CO2 : Hid (∀ W, Low W → Calls Tryz.prog 24 #[uV o3 s3 h3 p3 pa3 q3] W fun e w' => e = .returned (oV ob sy hy py) ∧ Below W.heap.size W w')) (CS : Hid (∀ W, Calls Tryz.prog 23 #[oV oa sx hx px, oV ob sy hy py] W fun e w' => e = .returned (.bool false) ∧ Below W.heap.size W w')) (CU : Hid (∀ W, Low W → Calls Tryz.prog 20 #[srcV 2 ⟨#[]⟩ ⟨#[]⟩ ⟨#[]⟩ false 0 ⟨#[]⟩, uV false s2 h2 p pa2 q2, uV o3 s3 h3 p3 pa3 q3, .bool m] W fun e w' => e = .returned (.bool true) ∧ Below W.heap.size W w')) (CC : Hid (∀ W, Low W → Calls Tryz.prog 22 #[uV false s2 h2 p pa2 q2] W fun e w' => e = .returned (.int .i64 0) ∧ Below W.heap.size W w')) (g : (h2.toList == h3.toList) = true) (w : World) (hw : Low w) : Calls Tryz.prog 7 #[uV false s2 h2 p pa2 q2, uV o3 s3 h3 p3 pa3 q3, .bool m] w fun e w' => e = .returned (.bool true) ∧ Below w.heap.size w w' := by
  have MR := matches_hid
  have LG := large_hid 0 ⟨#[]⟩ ⟨#[]⟩ ⟨#[]⟩ false 0 ⟨#[]⟩ false s2 h2 p pa2 q2 o3 s3 h3 p3 pa3 q3
  unfold srcV uV oV at *
  go_enter Tryz.func7, Tryz.ntmps7
  go_wp2_with fail
  have xn := BX.made w false s2 h2 p pa2 q2
  have xz := BX.made (w.alloc (.cells #[.bool false, .string s2, .string h2, .int .i64 p, .string pa2, .string q2] 26)) o3 s3 h3 p3 pa3 q3
  have xy := xn.below ((Below.refl _ _).alloc (Nat.le_refl _) (.cells #[.bool o3, .string s3, .string h3, .int .i64 p3, .string pa3, .string q3] 26))
  have gB := (hw.made (.cells #[.bool false, .string s2, .string h2, .int .i64 p, .string pa2, .string q2] 26)).made (.cells #[.bool o3, .string s3, .string h3, .int .i64 p3, .string pa3, .string q3] 26)
  have BB := ((Below.refl w.heap.size w).alloc (Nat.le_refl _) (.cells #[.bool false, .string s2, .string h2, .int .i64 p, .string pa2, .string q2] 26)).alloc (Below.size ((Below.refl w.heap.size w).alloc (Nat.le_refl _) (.cells #[.bool false, .string s2, .string h2, .int .i64 p, .string pa2, .string q2] 26))) (.cells #[.bool o3, .string s3, .string h3, .int .i64 p3, .string pa3, .string q3] 26)
  rw [size_alloc] at xz
  clear xn hw
  generalize hR : w.heap.size = Ra at xy xz BB ⊢
  have HR := Lib.hid hR
  clear hR
  obtain ⟨Rb, hRb⟩ : ∃ Rb, Ra + 1 = Rb := ⟨_, rfl⟩
  rw [hRb] at xz
  try rw [hRb]
  clear hRb
  generalize (w.alloc (.cells #[.bool false, .string s2, .string h2, .int .i64 p, .string pa2, .string q2] 26)).alloc (.cells #[.bool o3, .string s3, .string h3, .int .i64 p3, .string pa3, .string q3] 26) = w1 at xy xz gB BB ⊢
  have xRa_w1 := xy
  have xRb_w1 := xz
  clear xy xz
  refine (LG.out _ ).mono ?_
  rintro e w2 ⟨b0, rfl, b_, hz⟩
  have gw2 := gB.below b_
  have Bw2 := BB.trans (b_.mono (Nat.le_of_lt xRa_w1.lt))
  have xRa_w2 := xRa_w1.below b_
  have xRb_w2 := xRb_w1.below b_
  clear b_ gB BB xRa_w1 xRb_w1
  have HZ := Lib.hid hz
  clear hz
  cases b0
  case true =>
    go_wp2
    go_ret
    exact ⟨rfl, by rw [HR.out]; exact Bw2⟩
  clear HZ LG
  have dRa0 := xRa_w2.c0
  have dRa1 := xRa_w2.c1
  have dRa2 := xRa_w2.c2
  have dRa3 := xRa_w2.c3
  have dRa4 := xRa_w2.c4
  have dRa5 := xRa_w2.c5
  have dRb0 := xRb_w2.c0
  have dRb1 := xRb_w2.c1
  have dRb2 := xRb_w2.c2
  have dRb3 := xRb_w2.c3
  have dRb4 := xRb_w2.c4
  have dRb5 := xRb_w2.c5
  go_wp2_with fail
  clear dRa0 dRa1 dRa2 dRa3 dRa4 dRa5 dRb0 dRb1 dRb2 dRb3 dRb4 dRb5
  refine (CU.out _ gw2).mono ?_
  rintro e w3 ⟨rfl, b_⟩
  have gw3 := gw2.below b_
  have Bw3 := Bw2.trans (b_.mono (Nat.le_of_lt xRa_w2.lt))
  have xRa_w3 := xRa_w2.below b_
  have xRb_w3 := xRb_w2.below b_
  clear b_ gw2 Bw2 xRa_w2 xRb_w2
  have dRa0 := xRa_w3.c0
  have dRa1 := xRa_w3.c1
  have dRa2 := xRa_w3.c2
  have dRa3 := xRa_w3.c3
  have dRa4 := xRa_w3.c4
  have dRa5 := xRa_w3.c5
  have dRb0 := xRb_w3.c0
  have dRb1 := xRb_w3.c1
  have dRb2 := xRb_w3.c2
  have dRb3 := xRb_w3.c3
  have dRb4 := xRb_w3.c4
  have dRb5 := xRb_w3.c5
  go_wp2
  clear dRa0 dRa1 dRa2 dRa3 dRa4 dRa5 dRb0 dRb1 dRb2 dRb3 dRb4 dRb5
  obtain ⟨C, hC⟩ : ∃ C : World → Prop, ∀ w', C w' ↔ (BX w' Ra false s2 h2 p pa2 q2 ∧ BX w' Rb o3 s3 h3 p3 pa3 q3 ∧ Below Ra w w' ∧ Low w') := ⟨_, fun _ => Iff.rfl⟩
  have HC := Lib.hid hC
  clear hC
  have hC0 : C w3.drew := (HC.out _).2 ⟨xRa_w3, xRb_w3, Bw3.drew, gw3.drew⟩
  have HK : Hid (∀ w', C w' → ∀ w7, Below w'.heap.size w' w7 → C w7) := Lib.hid fun w' hc w7 b => by
    obtain ⟨xRa, xRb, K4, g7⟩ := (HC.out w').1 hc
    exact (HC.out _).2 ⟨xRa.below b, xRb.below b, K4.trans (b.mono (Nat.le_of_lt xRa.lt)), g7.below b⟩
  clear xRa_w3 xRb_w3 Bw3 gw3
  refine region_class C (by kernel_rfl) (by kernel_rfl) hC0 ?_
  clear hC0
  repeat
    first
      | go_big_quiet_skip
      | (go_big_quiet_want; go_big_quiet_op; go_big_quiet_on)
      | (refine BigFrame.wpQuiet_want rfl (fun K hK => ?_)
         apply Exists.intro
         refine ⟨fun w' hc => ?_, hK _ ?_⟩
         · obtain ⟨xRa, xRb, K4, g7⟩ := (HC.out w').1 hc
           have dRa0 := xRa.c0
           have dRa1 := xRa.c1
           have dRa2 := xRa.c2
           have dRa3 := xRa.c3
           have dRa4 := xRa.c4
           have dRa5 := xRa.c5
           have dRb0 := xRb.c0
           have dRb1 := xRb.c1
           have dRb2 := xRb.c2
           have dRb3 := xRb.c3
           have dRb4 := xRb.c4
           have dRb5 := xRb.c5
           unfold Oper.quietAt
           go_simp
           first
             | done
             | rfl
             | ((with_reducible refine (CO1.out _ g7).mono ?_); rintro e w7 ⟨rfl, b7⟩; exact ⟨rfl, HK.out w' hc w7 b7⟩)
             | ((with_reducible refine (CO2.out _ g7).mono ?_); rintro e w7 ⟨rfl, b7⟩; exact ⟨rfl, HK.out w' hc w7 b7⟩)
             | ((with_reducible refine (CS.out _).mono ?_); rintro e w7 ⟨rfl, b7⟩; exact ⟨rfl, HK.out w' hc w7 b7⟩)
         clear hK K
         simp only [Act.put, List.setIfInBounds_toArray, List.set_cons_zero, List.set_cons_succ])
  refine wpQuiet_nil ?_
  intro w4 hc
  obtain ⟨xRa_w4, xRb_w4, Bw4, gw4⟩ := (HC.out w4).1 hc
  clear hc HC HK
  have dRa0 := xRa_w4.c0
  have dRa1 := xRa_w4.c1
  have dRa2 := xRa_w4.c2
  have dRa3 := xRa_w4.c3
  have dRa4 := xRa_w4.c4
  have dRa5 := xRa_w4.c5
  have dRb0 := xRb_w4.c0
  have dRb1 := xRb_w4.c1
  have dRb2 := xRb_w4.c2
  have dRb3 := xRb_w4.c3
  have dRb4 := xRb_w4.c4
  have dRb5 := xRb_w4.c5
  go_wp2_with fail
  clear dRa0 dRa1 dRa2 dRa3 dRa4 dRa5 dRb0 dRb1 dRb2 dRb3 dRb4 dRb5
  refine (MR.out _ gw4).mono ?_
  rintro e w5 ⟨rfl, b_⟩
  have gw5 := gw4.below b_
  have Bw5 := Bw4.trans (b_.mono (Nat.le_of_lt xRa_w4.lt))
  have xRa_w5 := xRa_w4.below b_
  have xRb_w5 := xRb_w4.below b_
  clear b_ gw4 Bw4 xRa_w4 xRb_w4
  have dRa0 := xRa_w5.c0
  have dRa1 := xRa_w5.c1
  have dRa2 := xRa_w5.c2
  have dRa3 := xRa_w5.c3
  have dRa4 := xRa_w5.c4
  have dRa5 := xRa_w5.c5
  have dRb0 := xRb_w5.c0
  have dRb1 := xRb_w5.c1
  have dRb2 := xRb_w5.c2
  have dRb3 := xRb_w5.c3
  have dRb4 := xRb_w5.c4
  have dRb5 := xRb_w5.c5
  go_wp2_with fail
  clear dRa0 dRa1 dRa2 dRa3 dRa4 dRa5 dRb0 dRb1 dRb2 dRb3 dRb4 dRb5
  refine (CC.out _ gw5).mono ?_
  rintro e w6 ⟨rfl, b_⟩
  have gw6 := gw5.below b_
  have Bw6 := Bw5.trans (b_.mono (Nat.le_of_lt xRa_w5.lt))
  have xRa_w6 := xRa_w5.below b_
  have xRb_w6 := xRb_w5.below b_
  clear b_ gw5 Bw5 xRa_w5 xRb_w5
  go_wp2
  go_ret
  exact ⟨rfl, by rw [HR.out]; exact Bw6⟩

set_option maxRecDepth 100000 in
set_option maxHeartbeats 8000000 in
theorem self_tt (s2 h2 : ByteArray) (p : Int) (pa2 q2 : ByteArray) (o3 : Bool) (s3 h3 : ByteArray) (p3 : Int) (pa3 q3 : ByteArray) (m : Bool) (oa : Bool) (sx hx : ByteArray) (px : Int) (ob : Bool) (sy hy : ByteArray) (py : Int) (CO1 : Hid (∀ W, Low W → Calls Tryz.prog 24 #[uV false s2 h2 p pa2 q2] W fun e w' => e = .returned (oV oa sx hx px) ∧ Below W.heap.size W w')) (CO2 : Hid (∀ W, Low W → Calls Tryz.prog 24 #[uV o3 s3 h3 p3 pa3 q3] W fun e w' => e = .returned (oV ob sy hy py) ∧ Below W.heap.size W w')) (CS : Hid (∀ W, Calls Tryz.prog 23 #[oV oa sx hx px, oV ob sy hy py] W fun e w' => e = .returned (.bool true) ∧ Below W.heap.size W w')) (CU : Hid (∀ W, Low W → Calls Tryz.prog 20 #[srcV 2 ⟨#[]⟩ ⟨#[]⟩ ⟨#[]⟩ false 0 ⟨#[]⟩, uV false s2 h2 p pa2 q2, uV o3 s3 h3 p3 pa3 q3, .bool m] W fun e w' => e = .returned (.bool true) ∧ Below W.heap.size W w')) (CC : Hid (∀ W, Low W → Calls Tryz.prog 22 #[uV false s2 h2 p pa2 q2] W fun e w' => e = .returned (.int .i64 0) ∧ Below W.heap.size W w')) (g : (h2.toList == h3.toList) = true) (w : World) (hw : Low w) : Calls Tryz.prog 7 #[uV false s2 h2 p pa2 q2, uV o3 s3 h3 p3 pa3 q3, .bool m] w fun e w' => e = .returned (.bool true) ∧ Below w.heap.size w w' := by
  have MR := matches_hid
  have LG := large_hid 0 ⟨#[]⟩ ⟨#[]⟩ ⟨#[]⟩ false 0 ⟨#[]⟩ false s2 h2 p pa2 q2 o3 s3 h3 p3 pa3 q3
  unfold srcV uV oV at *
  go_enter Tryz.func7, Tryz.ntmps7
  go_wp2_with fail
  have xn := BX.made w false s2 h2 p pa2 q2
  have xz := BX.made (w.alloc (.cells #[.bool false, .string s2, .string h2, .int .i64 p, .string pa2, .string q2] 26)) o3 s3 h3 p3 pa3 q3
  have xy := xn.below ((Below.refl _ _).alloc (Nat.le_refl _) (.cells #[.bool o3, .string s3, .string h3, .int .i64 p3, .string pa3, .string q3] 26))
  have gB := (hw.made (.cells #[.bool false, .string s2, .string h2, .int .i64 p, .string pa2, .string q2] 26)).made (.cells #[.bool o3, .string s3, .string h3, .int .i64 p3, .string pa3, .string q3] 26)
  have BB := ((Below.refl w.heap.size w).alloc (Nat.le_refl _) (.cells #[.bool false, .string s2, .string h2, .int .i64 p, .string pa2, .string q2] 26)).alloc (Below.size ((Below.refl w.heap.size w).alloc (Nat.le_refl _) (.cells #[.bool false, .string s2, .string h2, .int .i64 p, .string pa2, .string q2] 26))) (.cells #[.bool o3, .string s3, .string h3, .int .i64 p3, .string pa3, .string q3] 26)
  rw [size_alloc] at xz
  clear xn hw
  generalize hR : w.heap.size = Ra at xy xz BB ⊢
  have HR := Lib.hid hR
  clear hR
  obtain ⟨Rb, hRb⟩ : ∃ Rb, Ra + 1 = Rb := ⟨_, rfl⟩
  rw [hRb] at xz
  try rw [hRb]
  clear hRb
  generalize (w.alloc (.cells #[.bool false, .string s2, .string h2, .int .i64 p, .string pa2, .string q2] 26)).alloc (.cells #[.bool o3, .string s3, .string h3, .int .i64 p3, .string pa3, .string q3] 26) = w1 at xy xz gB BB ⊢
  have xRa_w1 := xy
  have xRb_w1 := xz
  clear xy xz
  refine (LG.out _ ).mono ?_
  rintro e w2 ⟨b0, rfl, b_, hz⟩
  have gw2 := gB.below b_
  have Bw2 := BB.trans (b_.mono (Nat.le_of_lt xRa_w1.lt))
  have xRa_w2 := xRa_w1.below b_
  have xRb_w2 := xRb_w1.below b_
  clear b_ gB BB xRa_w1 xRb_w1
  have HZ := Lib.hid hz
  clear hz
  cases b0
  case true =>
    go_wp2
    go_ret
    exact ⟨rfl, by rw [HR.out]; exact Bw2⟩
  clear HZ LG
  have dRa0 := xRa_w2.c0
  have dRa1 := xRa_w2.c1
  have dRa2 := xRa_w2.c2
  have dRa3 := xRa_w2.c3
  have dRa4 := xRa_w2.c4
  have dRa5 := xRa_w2.c5
  have dRb0 := xRb_w2.c0
  have dRb1 := xRb_w2.c1
  have dRb2 := xRb_w2.c2
  have dRb3 := xRb_w2.c3
  have dRb4 := xRb_w2.c4
  have dRb5 := xRb_w2.c5
  go_wp2_with fail
  clear dRa0 dRa1 dRa2 dRa3 dRa4 dRa5 dRb0 dRb1 dRb2 dRb3 dRb4 dRb5
  refine (CU.out _ gw2).mono ?_
  rintro e w3 ⟨rfl, b_⟩
  have gw3 := gw2.below b_
  have Bw3 := Bw2.trans (b_.mono (Nat.le_of_lt xRa_w2.lt))
  have xRa_w3 := xRa_w2.below b_
  have xRb_w3 := xRb_w2.below b_
  clear b_ gw2 Bw2 xRa_w2 xRb_w2
  have dRa0 := xRa_w3.c0
  have dRa1 := xRa_w3.c1
  have dRa2 := xRa_w3.c2
  have dRa3 := xRa_w3.c3
  have dRa4 := xRa_w3.c4
  have dRa5 := xRa_w3.c5
  have dRb0 := xRb_w3.c0
  have dRb1 := xRb_w3.c1
  have dRb2 := xRb_w3.c2
  have dRb3 := xRb_w3.c3
  have dRb4 := xRb_w3.c4
  have dRb5 := xRb_w3.c5
  go_wp2
  clear dRa0 dRa1 dRa2 dRa3 dRa4 dRa5 dRb0 dRb1 dRb2 dRb3 dRb4 dRb5
  obtain ⟨C, hC⟩ : ∃ C : World → Prop, ∀ w', C w' ↔ (BX w' Ra false s2 h2 p pa2 q2 ∧ BX w' Rb o3 s3 h3 p3 pa3 q3 ∧ Below Ra w w' ∧ Low w') := ⟨_, fun _ => Iff.rfl⟩
  have HC := Lib.hid hC
  clear hC
  have hC0 : C w3.drew := (HC.out _).2 ⟨xRa_w3, xRb_w3, Bw3.drew, gw3.drew⟩
  have HK : Hid (∀ w', C w' → ∀ w7, Below w'.heap.size w' w7 → C w7) := Lib.hid fun w' hc w7 b => by
    obtain ⟨xRa, xRb, K4, g7⟩ := (HC.out w').1 hc
    exact (HC.out _).2 ⟨xRa.below b, xRb.below b, K4.trans (b.mono (Nat.le_of_lt xRa.lt)), g7.below b⟩
  clear xRa_w3 xRb_w3 Bw3 gw3
  refine region_class C (by kernel_rfl) (by kernel_rfl) hC0 ?_
  clear hC0
  repeat
    first
      | go_big_quiet_skip
      | (go_big_quiet_want; go_big_quiet_op; go_big_quiet_on)
      | (refine BigFrame.wpQuiet_want rfl (fun K hK => ?_)
         apply Exists.intro
         refine ⟨fun w' hc => ?_, hK _ ?_⟩
         · obtain ⟨xRa, xRb, K4, g7⟩ := (HC.out w').1 hc
           have dRa0 := xRa.c0
           have dRa1 := xRa.c1
           have dRa2 := xRa.c2
           have dRa3 := xRa.c3
           have dRa4 := xRa.c4
           have dRa5 := xRa.c5
           have dRb0 := xRb.c0
           have dRb1 := xRb.c1
           have dRb2 := xRb.c2
           have dRb3 := xRb.c3
           have dRb4 := xRb.c4
           have dRb5 := xRb.c5
           unfold Oper.quietAt
           go_simp
           first
             | done
             | rfl
             | ((with_reducible refine (CO1.out _ g7).mono ?_); rintro e w7 ⟨rfl, b7⟩; exact ⟨rfl, HK.out w' hc w7 b7⟩)
             | ((with_reducible refine (CO2.out _ g7).mono ?_); rintro e w7 ⟨rfl, b7⟩; exact ⟨rfl, HK.out w' hc w7 b7⟩)
             | ((with_reducible refine (CS.out _).mono ?_); rintro e w7 ⟨rfl, b7⟩; exact ⟨rfl, HK.out w' hc w7 b7⟩)
         clear hK K
         simp only [Act.put, List.setIfInBounds_toArray, List.set_cons_zero, List.set_cons_succ])
  refine wpQuiet_nil ?_
  intro w4 hc
  obtain ⟨xRa_w4, xRb_w4, Bw4, gw4⟩ := (HC.out w4).1 hc
  clear hc HC HK
  have dRa0 := xRa_w4.c0
  have dRa1 := xRa_w4.c1
  have dRa2 := xRa_w4.c2
  have dRa3 := xRa_w4.c3
  have dRa4 := xRa_w4.c4
  have dRa5 := xRa_w4.c5
  have dRb0 := xRb_w4.c0
  have dRb1 := xRb_w4.c1
  have dRb2 := xRb_w4.c2
  have dRb3 := xRb_w4.c3
  have dRb4 := xRb_w4.c4
  have dRb5 := xRb_w4.c5
  go_wp2_with fail
  clear dRa0 dRa1 dRa2 dRa3 dRa4 dRa5 dRb0 dRb1 dRb2 dRb3 dRb4 dRb5
  refine (MR.out _ gw4).mono ?_
  rintro e w5 ⟨rfl, b_⟩
  have gw5 := gw4.below b_
  have Bw5 := Bw4.trans (b_.mono (Nat.le_of_lt xRa_w4.lt))
  have xRa_w5 := xRa_w4.below b_
  have xRb_w5 := xRb_w4.below b_
  clear b_ gw4 Bw4 xRa_w4 xRb_w4
  have dRa0 := xRa_w5.c0
  have dRa1 := xRa_w5.c1
  have dRa2 := xRa_w5.c2
  have dRa3 := xRa_w5.c3
  have dRa4 := xRa_w5.c4
  have dRa5 := xRa_w5.c5
  have dRb0 := xRb_w5.c0
  have dRb1 := xRb_w5.c1
  have dRb2 := xRb_w5.c2
  have dRb3 := xRb_w5.c3
  have dRb4 := xRb_w5.c4
  have dRb5 := xRb_w5.c5
  go_wp2_with fail
  clear dRa0 dRa1 dRa2 dRa3 dRa4 dRa5 dRb0 dRb1 dRb2 dRb3 dRb4 dRb5
  refine (CC.out _ gw5).mono ?_
  rintro e w6 ⟨rfl, b_⟩
  have gw6 := gw5.below b_
  have Bw6 := Bw5.trans (b_.mono (Nat.le_of_lt xRa_w5.lt))
  have xRa_w6 := xRa_w5.below b_
  have xRb_w6 := xRb_w5.below b_
  clear b_ gw5 Bw5 xRa_w5 xRb_w5
  go_wp2
  go_ret
  exact ⟨rfl, by rw [HR.out]; exact Bw6⟩
theorem of_low (o : Bool) (s h : ByteArray) (p : Int) (pa q : ByteArray) (hs : s.size ≤ 100000) (hh : h.size ≤ 100000) (hpa : pa.size ≤ 100000) (hq : q.size ≤ 100000) (o2 : Bool) (s2 h2 : ByteArray) (p2 : Int) (he : originM (uM o s h p pa q) = oM o2 s2 h2 p2) : Hid (∀ W, Low W → Calls Tryz.prog 24 #[uV o s h p pa q] W fun e w' => e = .returned (oV o2 s2 h2 p2) ∧ Below W.heap.size W w') :=
  Lib.hid fun W hw => (of_hid o s h p pa q hs hh hpa hq o2 s2 h2 p2 he).out W hw.m hw.t
theorem matchSelf_law (o : Bool) (s2 h2 : ByteArray) (p : Int) (pa2 q2 : ByteArray) (o3 : Bool) (s3 h3 : ByteArray) (p3 : Int) (pa3 q3 : ByteArray) (m : Bool) (w : World) (hw : Low w) : Calls Tryz.prog 7 #[uV o s2 h2 p pa2 q2, uV o3 s3 h3 p3 pa3 q3, .bool m] w fun e w' => e = .returned (.bool true) ∧ Below w.heap.size w w' := by
  by_cases hF : Fits ⟨#[]⟩ ⟨#[]⟩ ⟨#[]⟩ ⟨#[]⟩ s2 h2 pa2 q2 s3 h3 pa3 q3
  case neg => exact self_long o s2 h2 p pa2 q2 o3 s3 h3 p3 pa3 q3 m hF w hw
  obtain ⟨_, ⟨c1, c2, c3, c4⟩, ⟨e1, e2, e3, e4⟩⟩ := hF
  obtain ⟨oa, sx, hx, px, ea⟩ := om_any (originM (uM o s2 h2 p pa2 q2))
  obtain ⟨ob, sy, hy, py, eb⟩ := om_any (originM (uM o3 s3 h3 p3 pa3 q3))
  have CO1 := of_low o s2 h2 p pa2 q2 (by omega) (by omega) (by omega) (by omega) oa sx hx px ea
  have CO2 := of_low o3 s3 h3 p3 pa3 q3 (by omega) (by omega) (by omega) (by omega) ob sy hy py eb
  obtain ⟨r, hr⟩ : ∃ r, urlL (srcM 2 ⟨#[]⟩ ⟨#[]⟩ ⟨#[]⟩ false 0 ⟨#[]⟩) (uM o s2 h2 p pa2 q2) (uM o3 s3 h3 p3 pa3 q3) m = r := ⟨_, rfl⟩
  have CU := matUrl_hid 2 ⟨#[]⟩ ⟨#[]⟩ ⟨#[]⟩ false 0 ⟨#[]⟩ o s2 h2 p pa2 q2 o3 s3 h3 p3 pa3 q3 m (by decide) (by decide) (by omega) (by omega) (by omega) (by omega) (by omega) (by omega) (by omega) (by omega) r hr
  cases hq : sameM (oM oa sx hx px) (oM ob sy hy py)
  case false =>
    have CS := same_hid oa sx hx px ob sy hy py false hq
    cases r
    case false => exact self_ff o s2 h2 p pa2 q2 o3 s3 h3 p3 pa3 q3 m oa sx hx px ob sy hy py CO1 CO2 CS CU w hw
    obtain ⟨k1, k2, k3⟩ := self_host _ rfl _ _ _ hr
    have CC := check_low o s2 h2 p pa2 q2 0 (chk_right k3) (by omega) (by omega) (by omega) (by omega) 
    have g : (h2.toList == h3.toList) = true := by rw [text_two, decide_eq_true_eq]; exact k1
    obtain rfl : o = false := k2
    exact self_ft s2 h2 p pa2 q2 o3 s3 h3 p3 pa3 q3 m oa sx hx px ob sy hy py CO1 CO2 CS CU CC g w hw
  have CS := same_hid oa sx hx px ob sy hy py true hq
  have k0 := self_same (srcM 2 ⟨#[]⟩ ⟨#[]⟩ ⟨#[]⟩ false 0 ⟨#[]⟩) rfl (uM o s2 h2 p pa2 q2) (uM o3 s3 h3 p3 pa3 q3) m (by rw [ea, eb]; exact hq)
  obtain rfl : r = true := hr.symm.trans k0
  obtain ⟨k1, k2, k3⟩ := self_host _ rfl _ _ _ hr
  have CC := check_low o s2 h2 p pa2 q2 0 (chk_right k3) (by omega) (by omega) (by omega) (by omega) 
  have g : (h2.toList == h3.toList) = true := by rw [text_two, decide_eq_true_eq]; exact k1
  obtain rfl : o = false := k2
  exact self_tt s2 h2 p pa2 q2 o3 s3 h3 p3 pa3 q3 m oa sx hx px ob sy hy py CO1 CO2 CS CU CC g w hw

end Go.Proofs.YtpmnpaopkncphaaGreatDoor
