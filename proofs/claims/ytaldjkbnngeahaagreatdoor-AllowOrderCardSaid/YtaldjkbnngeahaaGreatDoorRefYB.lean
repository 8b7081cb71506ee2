/- Whether a source lets an address be: the document's. -/
import Derived.Test.YtaldjkbnngeahaaGreatDoorRefYA
import Derived.Test.YtaldjkbnngeahaaGreatDoorMtF
namespace Go.Proofs.YtaldjkbnngeahaaGreatDoor
open Go.RowKit


set_option maxRecDepth 100000 in
set_option maxHeartbeats 8000000 in
theorem refSelf_same (o : Bool) (s2 h2 : ByteArray) (p : Int) (pa2 q2 : ByteArray) (o3 : Bool) (s3 h3 : ByteArray) (p3 : Int) (pa3 q3 : ByteArray) (oa : Bool) (sx hx : ByteArray) (px : Int) (ob : Bool) (sy hy : ByteArray) (py : Int) (CO1 : Hid (∀ W, MaxIn W → TabIn W → Calls Tryz.prog 93 #[uV o s2 h2 p pa2 q2] W fun e w' => e = .returned (oV ob sy hy py) ∧ Below W.heap.size W w')) (CO2 : Hid (∀ W, MaxIn W → TabIn W → Calls Tryz.prog 93 #[uV o3 s3 h3 p3 pa3 q3] W fun e w' => e = .returned (oV oa sx hx px) ∧ Below W.heap.size W w')) (CS : Hid (∀ W, Calls Tryz.prog 92 #[oV ob sy hy py, oV oa sx hx px] W fun e w' => e = .returned (.bool true) ∧ Below W.heap.size W w'))  (w : World) (hm : MaxIn w) (ht : TabIn w) : Calls Tryz.prog 55 #[uV o s2 h2 p pa2 q2, uV o3 s3 h3 p3 pa3 q3] w fun e w' => e = .returned (.bool true) ∧ Below w.heap.size w w' := by
  unfold uV oV at *
  go_enter Tryz.func55, Tryz.ntmps55
  go_wp2_with fail
  have xn := BX.made w o s2 h2 p pa2 q2
  have xz := BX.made (w.alloc (.cells #[.bool o, .string s2, .string h2, .int .i64 p, .string pa2, .string q2] 25)) o3 s3 h3 p3 pa3 q3
  have xy := xn.below ((Below.refl _ _).alloc (Nat.le_refl _) (.cells #[.bool o3, .string s3, .string h3, .int .i64 p3, .string pa3, .string q3] 25))
  have mB := (hm.made (.cells #[.bool o, .string s2, .string h2, .int .i64 p, .string pa2, .string q2] 25)).made (.cells #[.bool o3, .string s3, .string h3, .int .i64 p3, .string pa3, .string q3] 25)
  have tB := (ht.made (.cells #[.bool o, .string s2, .string h2, .int .i64 p, .string pa2, .string q2] 25)).made (.cells #[.bool o3, .string s3, .string h3, .int .i64 p3, .string pa3, .string q3] 25)
  have BB := ((Below.refl w.heap.size w).alloc (Nat.le_refl _) (.cells #[.bool o, .string s2, .string h2, .int .i64 p, .string pa2, .string q2] 25)).alloc (Below.size ((Below.refl w.heap.size w).alloc (Nat.le_refl _) (.cells #[.bool o, .string s2, .string h2, .int .i64 p, .string pa2, .string q2] 25))) (.cells #[.bool o3, .string s3, .string h3, .int .i64 p3, .string pa3, .string q3] 25)
  rw [size_alloc] at xz
  clear xn hm ht
  generalize hR : w.heap.size = Ra at xy xz BB ⊢
  have HR := Lib.hid hR
  clear hR
  obtain ⟨Rb, hRb⟩ : ∃ Rb, Ra + 1 = Rb := ⟨_, rfl⟩
  rw [hRb] at xz
  try rw [hRb]
  clear hRb
  generalize (w.alloc (.cells #[.bool o, .string s2, .string h2, .int .i64 p, .string pa2, .string q2] 25)).alloc (.cells #[.bool o3, .string s3, .string h3, .int .i64 p3, .string pa3, .string q3] 25) = w1 at xy xz mB tB BB ⊢
  have xRa_w1 := xy
  have xRb_w1 := xz
  clear xy xz
  obtain ⟨C, hC⟩ : ∃ C : World → Prop, ∀ w', C w' ↔ (BX w' Ra o s2 h2 p pa2 q2 ∧ BX w' Rb o3 s3 h3 p3 pa3 q3 ∧ Below Ra w w' ∧ MaxIn w' ∧ TabIn w') := ⟨_, fun _ => Iff.rfl⟩
  have HC := Lib.hid hC
  clear hC
  have hC0 : C w1.drew := (HC.out _).2 ⟨xRa_w1, xRb_w1, BB.drew, mB, tB⟩
  have HK : Hid (∀ w', C w' → ∀ w7, Below w'.heap.size w' w7 → C w7) := Lib.hid fun w' hc w7 b => by
    obtain ⟨xRa, xRb, K4, m7, t7⟩ := (HC.out w').1 hc
    exact (HC.out _).2 ⟨xRa.below b, xRb.below b, K4.trans (b.mono (Nat.le_of_lt xRa.lt)), m7.below b, t7.below b⟩
  clear xRa_w1 xRb_w1 BB mB tB
  refine region_class C (by kernel_rfl) (by kernel_rfl) hC0 ?_
  clear hC0
  repeat
    first
      | go_big_quiet_skip
      | (go_big_quiet_want; go_big_quiet_op; go_big_quiet_on)
      | (refine BigFrame.wpQuiet_want rfl (fun K hK => ?_)
         apply Exists.intro
         refine ⟨fun w' hc => ?_, hK _ ?_⟩
         · obtain ⟨xRa, xRb, K4, m7, t7⟩ := (HC.out w').1 hc
           have dRa0 := xRa.c0
           have dRa1 := xRa.c1
           have dRa2 := xRa.c2
           have dRa3 := xRa.c3
           have dRa4 := xRa.c4
           have dRa5 := xRa.c5
           have dRb0 := xRb.c0
           have dRb1 := xRb.c1
           have dRb2 := xRb.c2
           have dRb3 := xRb.c3
           have dRb4 := xRb.c4
           have dRb5 := xRb.c5
           unfold Oper.quietAt
           go_simp
           first
             | done
             | rfl
             | ((with_reducible refine (CO1.out _ m7 t7).mono ?_); rintro e w7 ⟨rfl, b7⟩; exact ⟨rfl, HK.out w' hc w7 b7⟩)
             | ((with_reducible refine (CO2.out _ m7 t7).mono ?_); rintro e w7 ⟨rfl, b7⟩; exact ⟨rfl, HK.out w' hc w7 b7⟩)
             | ((with_reducible refine (CS.out _).mono ?_); rintro e w7 ⟨rfl, b7⟩; exact ⟨rfl, HK.out w' hc w7 b7⟩)
         clear hK K
         simp only [Act.put, List.setIfInBounds_toArray, List.set_cons_zero, List.set_cons_succ])
  refine wpQuiet_nil ?_
  intro w2 hc
  obtain ⟨xRa_w2, xRb_w2, Bw2, mw2, tw2⟩ := (HC.out w2).1 hc
  clear hc HC HK
  go_wp2
  go_ret
  exact ⟨rfl, by rw [HR.out]; exact Bw2⟩


set_option maxRecDepth 100000 in
set_option maxHeartbeats 8000000 in
theorem refSelf_r (o : Bool) (s2 h2 : ByteArray) (p : Int) (pa2 q2 : ByteArray) (o3 : Bool) (s3 h3 : ByteArray) (p3 : Int) (pa3 q3 : ByteArray) (oa : Bool) (sx hx : ByteArray) (px : Int) (ob : Bool) (sy hy : ByteArray) (py : Int) (CO1 : Hid (∀ W, MaxIn W → TabIn W → Calls Tryz.prog 93 #[uV o s2 h2 p pa2 q2] W fun e w' => e = .returned (oV ob sy hy py) ∧ Below W.heap.size W w')) (CO2 : Hid (∀ W, MaxIn W → TabIn W → Calls Tryz.prog 93 #[uV o3 s3 h3 p3 pa3 q3] W fun e w' => e = .returned (oV oa sx hx px) ∧ Below W.heap.size W w')) (CS : Hid (∀ W, Calls Tryz.prog 92 #[oV ob sy hy py, oV oa sx hx px] W fun e w' => e = .returned (.bool false) ∧ Below W.heap.size W w')) (CR : Hid (∀ W, Calls Tryz.prog 53 #[uV o3 s3 h3 p3 pa3 q3] W fun e w' => e = .returned (.bool false) ∧ Below W.heap.size W w')) (w : World) (hm : MaxIn w) (ht : TabIn w) : Calls Tryz.prog 55 #[uV o s2 h2 p pa2 q2, uV o3 s3 h3 p3 pa3 q3] w fun e w' => e = .returned (.bool false) ∧ Below w.heap.size w w' := by
  unfold uV oV at *
  go_enter Tryz.func55, Tryz.ntmps55
  go_wp2_with fail
  have xn := BX.made w o s2 h2 p pa2 q2
  have xz := BX.made (w.alloc (.cells #[.bool o, .string s2, .string h2, .int .i64 p, .string pa2, .string q2] 25)) o3 s3 h3 p3 pa3 q3
  have xy := xn.below ((Below.refl _ _).alloc (Nat.le_refl _) (.cells #[.bool o3, .string s3, .string h3, .int .i64 p3, .string pa3, .string q3] 25))
  have mB := (hm.made (.cells #[.bool o, .string s2, .string h2, .int .i64 p, .string pa2, .string q2] 25)).made (.cells #[.bool o3, .string s3, .string h3, .int .i64 p3, .string pa3, .string q3] 25)
  have tB := (ht.made (.cells #[.bool o, .string s2, .string h2, .int .i64 p, .string pa2, .string q2] 25)).made (.cells #[.bool o3, .string s3, .string h3, .int .i64 p3, .string pa3, .string q3] 25)
  have BB := ((Below.refl w.heap.size w).alloc (Nat.le_refl _) (.cells #[.bool o, .string s2, .string h2, .int .i64 p, .string pa2, .string q2] 25)).alloc (Below.size ((Below.refl w.heap.size w).alloc (Nat.le_refl _) (.cells #[.bool o, .string s2, .string h2, .int .i64 p, .string pa2, .string q2] 25))) (.cells #[.bool o3, .string s3, .string h3, .int .i64 p3, .string pa3, .string q3] 25)
  rw [size_alloc] at xz
  clear xn hm ht
  generalize hR : w.heap.size = Ra at xy xz BB ⊢
  have HR := Lib.hid hR
  clear hR
  obtain ⟨Rb, hRb⟩ : ∃ Rb, Ra + 1 = Rb := ⟨_, rfl⟩
  rw [hRb] at xz
  try rw [hRb]
  clear hRb
  generalize (w.alloc (.cells #[.bool o, .string s2, .string h2, .int .i64 p, .string pa2, .string q2] 25)).alloc (.cells #[.bool o3, .string s3, .string h3, .int .i64 p3, .string pa3, .string q3] 25) = w1 at xy xz mB tB BB ⊢
  have xRa_w1 := xy
  have xRb_w1 := xz
  clear xy xz
  obtain ⟨C, hC⟩ : ∃ C : World → Prop, ∀ w', C w' ↔ (BX w' Ra o s2 h2 p pa2 q2 ∧ BX w' Rb o3 s3 h3 p3 pa3 q3 ∧ Below Ra w w' ∧ MaxIn w' ∧ TabIn w') := ⟨_, fun _ => Iff.rfl⟩
  have HC := Lib.hid hC
  clear hC
  have hC0 : C w1.drew := (HC.out _).2 ⟨xRa_w1, xRb_w1, BB.drew, mB, tB⟩
  have HK : Hid (∀ w', C w' → ∀ w7, Below w'.heap.size w' w7 → C w7) := Lib.hid fun w' hc w7 b => by
    obtain ⟨xRa, xRb, K4, m7, t7⟩ := (HC.out w').1 hc
    exact (HC.out _).2 ⟨xRa.below b, xRb.below b, K4.trans (b.mono (Nat.le_of_lt xRa.lt)), m7.below b, t7.below b⟩
  clear xRa_w1 xRb_w1 BB mB tB
  refine region_class C (by kernel_rfl) (by kernel_rfl) hC0 ?_
  clear hC0
  repeat
    first
      | go_big_quiet_skip
      | (go_big_quiet_want; go_big_quiet_op; go_big_quiet_on)
      | (refine BigFrame.wpQuiet_want rfl (fun K hK => ?_)
         apply Exists.intro
         refine ⟨fun w' hc => ?_, hK _ ?_⟩
         · obtain ⟨xRa, xRb, K4, m7, t7⟩ := (HC.out w').1 hc
           have dRa0 := xRa.c0
           have dRa1 := xRa.c1
           have dRa2 := xRa.c2
           have dRa3 := xRa.c3
           have dRa4 := xRa.c4
           have dRa5 := xRa.c5
           have dRb0 := xRb.c0
           have dRb1 := xRb.c1
           have dRb2 := xRb.c2
           have dRb3 := xRb.c3
           have dRb4 := xRb.c4
           have dRb5 := xRb.c5
           unfold Oper.quietAt
           go_simp
           first
             | done
             | rfl
             | ((with_reducible refine (CO1.out _ m7 t7).mono ?_); rintro e w7 ⟨rfl, b7⟩; exact ⟨rfl, HK.out w' hc w7 b7⟩)
             | ((with_reducible refine (CO2.out _ m7 t7).mono ?_); rintro e w7 ⟨rfl, b7⟩; exact ⟨rfl, HK.out w' hc w7 b7⟩)
             | ((with_reducible refine (CS.out _).mono ?_); rintro e w7 ⟨rfl, b7⟩; exact ⟨rfl, HK.out w' hc w7 b7⟩)
         clear hK K
         simp only [Act.put, List.setIfInBounds_toArray, List.set_cons_zero, List.set_cons_succ])
  refine wpQuiet_nil ?_
  intro w2 hc
  obtain ⟨xRa_w2, xRb_w2, Bw2, mw2, tw2⟩ := (HC.out w2).1 hc
  clear hc HC HK
  have dRa0 := xRa_w2.c0
  have dRa1 := xRa_w2.c1
  have dRa2 := xRa_w2.c2
  have dRa3 := xRa_w2.c3
  have dRa4 := xRa_w2.c4
  have dRa5 := xRa_w2.c5
  have dRb0 := xRb_w2.c0
  have dRb1 := xRb_w2.c1
  have dRb2 := xRb_w2.c2
  have dRb3 := xRb_w2.c3
  have dRb4 := xRb_w2.c4
  have dRb5 := xRb_w2.c5
  go_wp2_with fail
  clear dRa0 dRa1 dRa2 dRa3 dRa4 dRa5 dRb0 dRb1 dRb2 dRb3 dRb4 dRb5
  refine (CR.out _ ).mono ?_
  rintro e w3 ⟨rfl, b_⟩
  have mw3 := mw2.below b_
  have tw3 := tw2.below b_
  have Bw3 := Bw2.trans (b_.mono (Nat.le_of_lt xRa_w2.lt))
  have xRa_w3 := xRa_w2.below b_
  have xRb_w3 := xRb_w2.below b_
  clear b_ mw2 tw2 Bw2 xRa_w2 xRb_w2
  go_wp2
  go_ret
  exact ⟨rfl, by rw [HR.out]; exact Bw3⟩


set_option maxRecDepth 100000 in
set_option maxHeartbeats 8000000 in
theorem refSelf_o (s2 h2 : ByteArray) (p : Int) (pa2 q2 : ByteArray) (o3 : Bool) (s3 h3 : ByteArray) (p3 : Int) (pa3 q3 : ByteArray) (oa : Bool) (sx hx : ByteArray) (px : Int) (ob : Bool) (sy hy : ByteArray) (py : Int) (CO1 : Hid (∀ W, MaxIn W → TabIn W → Calls Tryz.prog 93 #[uV true s2 h2 p pa2 q2] W fun e w' => e = .returned (oV ob sy hy py) ∧ Below W.heap.size W w')) (CO2 : Hid (∀ W, MaxIn W → TabIn W → Calls Tryz.prog 93 #[uV o3 s3 h3 p3 pa3 q3] W fun e w' => e = .returned (oV oa sx hx px) ∧ Below W.heap.size W w')) (CS : Hid (∀ W, Calls Tryz.prog 92 #[oV ob sy hy py, oV oa sx hx px] W fun e w' => e = .returned (.bool false) ∧ Below W.heap.size W w')) (CR : Hid (∀ W, Calls Tryz.prog 53 #[uV o3 s3 h3 p3 pa3 q3] W fun e w' => e = .returned (.bool true) ∧ Below W.heap.size W w')) (w : World) (hm : MaxIn w) (ht : TabIn w) : Calls Tryz.prog 55 #[uV true s2 h2 p pa2 q2, uV o3 s3 h3 p3 pa3 q3] w fun e w' => e = .returned (.bool false) ∧ Below w.heap.size w w' := by
  unfold uV oV at *
  go_enter Tryz.func55, Tryz.ntmps55
  go_wp2_with fail
  have xn := BX.made w true s2 h2 p pa2 q2
  have xz := BX.made (w.alloc (.cells #[.bool true, .string s2, .string h2, .int .i64 p, .string pa2, .string q2] 25)) o3 s3 h3 p3 pa3 q3
  have xy := xn.below ((Below.refl _ _).alloc (Nat.le_refl _) (.cells #[.bool o3, .string s3, .string h3, .int .i64 p3, .string pa3, .string q3] 25))
  have mB := (hm.made (.cells #[.bool true, .string s2, .string h2, .int .i64 p, .string pa2, .string q2] 25)).made (.cells #[.bool o3, .string s3, .string h3, .int .i64 p3, .string pa3, .string q3] 25)
  have tB := (ht.made (.cells #[.bool true, .string s2, .string h2, .int .i64 p, .string pa2, .string q2] 25)).made (.cells #[.bool o3, .string s3, .string h3, .int .i64 p3, .string pa3, .string q3] 25)
  have BB := ((Below.refl w.heap.size w).alloc (Nat.le_refl _) (.cells #[.bool true, .string s2, .string h2, .int .i64 p, .string pa2, .string q2] 25)).alloc (Below.size ((Below.refl w.heap.size w).alloc (Nat.le_refl _) (.cells #[.bool true, .string s2, .string h2, .int .i64 p, .string pa2, .string q2] 25))) (.cells #[.bool o3, .string s3, .string h3, .int .i64 p3, .string pa3, .string q3] 25)
  rw [size_alloc] at xz
  clear xn hm ht
  generalize hR : w.heap.size = Ra at xy xz BB ⊢
  have HR := Lib.hid hR
  clear hR
  obtain ⟨Rb, hRb⟩ : ∃ Rb, Ra + 1 = Rb := ⟨_, rfl⟩
  rw [hRb] at xz
  try rw [hRb]
  clear hRb
  generalize (w.alloc (.cells #[.bool true, .string s2, .string h2, .int .i64 p, .string pa2, .string q2] 25)).alloc (.cells #[.bool o3, .string s3, .string h3, .int .i64 p3, .string pa3, .string q3] 25) = w1 at xy xz mB tB BB ⊢
  have xRa_w1 := xy
  have xRb_w1 := xz
  clear xy xz
  obtain ⟨C, hC⟩ : ∃ C : World → Prop, ∀ w', C w' ↔ (BX w' Ra true s2 h2 p pa2 q2 ∧ BX w' Rb o3 s3 h3 p3 pa3 q3 ∧ Below Ra w w' ∧ MaxIn w' ∧ TabIn w') := ⟨_, fun _ => Iff.rfl⟩
  have HC := Lib.hid hC
  clear hC
  have hC0 : C w1.drew := (HC.out _).2 ⟨xRa_w1, xRb_w1, BB.drew, mB, tB⟩
  have HK : Hid (∀ w', C w' → ∀ w7, Below w'.heap.size w' w7 → C w7) := Lib.hid fun w' hc w7 b => by
    obtain ⟨xRa, xRb, K4, m7, t7⟩ := (HC.out w').1 hc
    exact (HC.out _).2 ⟨xRa.below b, xRb.below b, K4.trans (b.mono (Nat.le_of_lt xRa.lt)), m7.below b, t7.below b⟩
  clear xRa_w1 xRb_w1 BB mB tB
  refine region_class C (by kernel_rfl) (by kernel_rfl) hC0 ?_
  clear hC0
  repeat
    first
      | go_big_quiet_skip
      | (go_big_quiet_want; go_big_quiet_op; go_big_quiet_on)
      | (refine BigFrame.wpQuiet_want rfl (fun K hK => ?_)
         apply Exists.intro
         refine ⟨fun w' hc => ?_, hK _ ?_⟩
         · obtain ⟨xRa, xRb, K4, m7, t7⟩ := (HC.out w').1 hc
           have dRa0 := xRa.c0
           have dRa1 := xRa.c1
           have dRa2 := xRa.c2
           have dRa3 := xRa.c3
           have dRa4 := xRa.c4
           have dRa5 := xRa.c5
           have dRb0 := xRb.c0
           have dRb1 := xRb.c1
           have dRb2 := xRb.c2
           have dRb3 := xRb.c3
           have dRb4 := xRb.c4
           have dRb5 := xRb.c5
           unfold Oper.quietAt
           go_simp
           first
             | done
             | rfl
             | ((with_reducible refine (CO1.out _ m7 t7).mono ?_); rintro e w7 ⟨rfl, b7⟩; exact ⟨rfl, HK.out w' hc w7 b7⟩)
             | ((with_reducible refine (CO2.out _ m7 t7).mono ?_); rintro e w7 ⟨rfl, b7⟩; exact ⟨rfl, HK.out w' hc w7 b7⟩)
             | ((with_reducible refine (CS.out _).mono ?_); rintro e w7 ⟨rfl, b7⟩; exact ⟨rfl, HK.out w' hc w7 b7⟩)
         clear hK K
         simp only [Act.put, List.setIfInBounds_toArray, List.set_cons_zero, List.set_cons_succ])
  refine wpQuiet_nil ?_
  intro w2 hc
  obtain ⟨xRa_w2, xRb_w2, Bw2, mw2, tw2⟩ := (HC.out w2).1 hc
  clear hc HC HK
  have dRa0 := xRa_w2.c0
  have dRa1 := xRa_w2.c1
  have dRa2 := xRa_w2.c2
  have dRa3 := xRa_w2.c3
  have dRa4 := xRa_w2.c4
  have dRa5 := xRa_w2.c5
  have dRb0 := xRb_w2.c0
  have dRb1 := xRb_w2.c1
  have dRb2 := xRb_w2.c2
  have dRb3 := xRb_w2.c3
  have dRb4 := xRb_w2.c4
  have dRb5 := xRb_w2.c5
  go_wp2_with fail
  clear dRa0 dRa1 dRa2 dRa3 dRa4 dRa5 dRb0 dRb1 dRb2 dRb3 dRb4 dRb5
  refine (CR.out _ ).mono ?_
  rintro e w3 ⟨rfl, b_⟩
  have mw3 := mw2.below b_
  have tw3 := tw2.below b_
  have Bw3 := Bw2.trans (b_.mono (Nat.le_of_lt xRa_w2.lt))
  have xRa_w3 := xRa_w2.below b_
  have xRb_w3 := xRb_w2.below b_
  clear b_ mw2 tw2 Bw2 xRa_w2 xRb_w2
  have dRa0 := xRa_w3.c0
  have dRa1 := xRa_w3.c1
  have dRa2 := xRa_w3.c2
  have dRa3 := xRa_w3.c3
  have dRa4 := xRa_w3.c4
  have dRa5 := xRa_w3.c5
  have dRb0 := xRb_w3.c0
  have dRb1 := xRb_w3.c1
  have dRb2 := xRb_w3.c2
  have dRb3 := xRb_w3.c3
  have dRb4 := xRb_w3.c4
  have dRb5 := xRb_w3.c5
  go_wp2
  go_ret
  exact ⟨rfl, by rw [HR.out]; exact Bw3⟩


set_option maxRecDepth 100000 in
set_option maxHeartbeats 8000000 in
theorem refSelf_o3 (s2 h2 : ByteArray) (p : Int) (pa2 q2 : ByteArray) (s3 h3 : ByteArray) (p3 : Int) (pa3 q3 : ByteArray) (oa : Bool) (sx hx : ByteArray) (px : Int) (ob : Bool) (sy hy : ByteArray) (py : Int) (CO1 : Hid (∀ W, MaxIn W → TabIn W → Calls Tryz.prog 93 #[uV false s2 h2 p pa2 q2] W fun e w' => e = .returned (oV ob sy hy py) ∧ Below W.heap.size W w')) (CO2 : Hid (∀ W, MaxIn W → TabIn W → Calls Tryz.prog 93 #[uV true s3 h3 p3 pa3 q3] W fun e w' => e = .returned (oV oa sx hx px) ∧ Below W.heap.size W w')) (CS : Hid (∀ W, Calls Tryz.prog 92 #[oV ob sy hy py, oV oa sx hx px] W fun e w' => e = .returned (.bool false) ∧ Below W.heap.size W w')) (CR : Hid (∀ W, Calls Tryz.prog 53 #[uV true s3 h3 p3 pa3 q3] W fun e w' => e = .returned (.bool true) ∧ Below W.heap.size W w')) (w : World) (hm : MaxIn w) (ht : TabIn w) : Calls Tryz.prog 55 #[uV false s2 h2 p pa2 q2, uV true s3 h3 p3 pa3 q3] w fun e w' => e = .returned (.bool false) ∧ Below w.heap.size w w' := by
  unfold uV oV at *
  go_enter Tryz.func55, Tryz.ntmps55
  go_wp2_with fail
  have xn := BX.made w false s2 h2 p pa2 q2
  have xz := BX.made (w.alloc (.cells #[.bool false, .string s2, .string h2, .int .i64 p, .string pa2, .string q2] 25)) true s3 h3 p3 pa3 q3
  have xy := xn.below ((Below.refl _ _).alloc (Nat.le_refl _) (.cells #[.bool true, .string s3, .string h3, .int .i64 p3, .string pa3, .string q3] 25))
  have mB := (hm.made (.cells #[.bool false, .string s2, .string h2, .int .i64 p, .string pa2, .string q2] 25)).made (.cells #[.bool true, .string s3, .string h3, .int .i64 p3, .string pa3, .string q3] 25)
  have tB := (ht.made (.cells #[.bool false, .string s2, .string h2, .int .i64 p, .string pa2, .string q2] 25)).made (.cells #[.bool true, .string s3, .string h3, .int .i64 p3, .string pa3, .string q3] 25)
  have BB := ((Below.refl w.heap.size w).alloc (Nat.le_refl _) (.cells #[.bool false, .string s2, .string h2, .int .i64 p, .string pa2, .string q2] 25)).alloc (Below.size ((Below.refl w.heap.size w).alloc (Nat.le_refl _) (.cells #[.bool false, .string s2, .string h2, .int .i64 p, .string pa2, .string q2] 25))) (.cells #[.bool true, .string s3, .string h3, .int .i64 p3, .string pa3, .string q3] 25)
  rw [size_alloc] at xz
  clear xn hm ht
  generalize hR : w.heap.size = Ra at xy xz BB ⊢
  have HR := Lib.hid hR
  clear hR
  obtain ⟨Rb, hRb⟩ : ∃ Rb, Ra + 1 = Rb := ⟨_, rfl⟩
  rw [hRb] at xz
  try rw [hRb]
  clear hRb
  generalize (w.alloc (.cells #[.bool false, .string s2, .string h2, .int .i64 p, .string pa2, .string q2] 25)).alloc (.cells #[.bool true, .string s3, .string h3, .int .i64 p3, .string pa3, .string q3] 25) = w1 at xy xz mB tB BB ⊢
  have xRa_w1 := xy
  have xRb_w1 := xz
  clear xy xz
  obtain ⟨C, hC⟩ : ∃ C : World → Prop, ∀ w', C w' ↔ (BX w' Ra false s2 h2 p pa2 q2 ∧ BX w' Rb true s3 h3 p3 pa3 q3 ∧ Below Ra w w' ∧ MaxIn w' ∧ TabIn w') := ⟨_, fun _ => Iff.rfl⟩
  have HC := Lib.hid hC
  clear hC
  have hC0 : C w1.drew := (HC.out _).2 ⟨xRa_w1, xRb_w1, BB.drew, mB, tB⟩
  have HK : Hid (∀ w', C w' → ∀ w7, Below w'.heap.size w' w7 → C w7) := Lib.hid fun w' hc w7 b => by
    obtain ⟨xRa, xRb, K4, m7, t7⟩ := (HC.out w').1 hc
    exact (HC.out _).2 ⟨xRa.below b, xRb.below b, K4.trans (b.mono (Nat.le_of_lt xRa.lt)), m7.below b, t7.below b⟩
  clear xRa_w1 xRb_w1 BB mB tB
  refine region_class C (by kernel_rfl) (by kernel_rfl) hC0 ?_
  clear hC0
  repeat
    first
      | go_big_quiet_skip
      | (go_big_quiet_want; go_big_quiet_op; go_big_quiet_on)
      | (refine BigFrame.wpQuiet_want rfl (fun K hK => ?_)
         apply Exists.intro
         refine ⟨fun w' hc => ?_, hK _ ?_⟩
         · obtain ⟨xRa, xRb, K4, m7, t7⟩ := (HC.out w').1 hc
           have dRa0 := xRa.c0
           have dRa1 := xRa.c1
           have dRa2 := xRa.c2
           have dRa3 := xRa.c3
           have dRa4 := xRa.c4
           have dRa5 := xRa.c5
           have dRb0 := xRb.c0
           have dRb1 := xRb.c1
           have dRb2 := xRb.c2
           have dRb3 := xRb.c3
           have dRb4 := xRb.c4
           have dRb5 := xRb.c5
           unfold Oper.quietAt
           go_simp
           first
             | done
             | rfl
             | ((with_reducible refine (CO1.out _ m7 t7).mono ?_); rintro e w7 ⟨rfl, b7⟩; exact ⟨rfl, HK.out w' hc w7 b7⟩)
             | ((with_reducible refine (CO2.out _ m7 t7).mono ?_); rintro e w7 ⟨rfl, b7⟩; exact ⟨rfl, HK.out w' hc w7 b7⟩)
             | ((with_reducible refine (CS.out _).mono ?_); rintro e w7 ⟨rfl, b7⟩; exact ⟨rfl, HK.out w' hc w7 b7⟩)
         clear hK K
         simp only [Act.put, List.setIfInBounds_toArray, List.set_cons_zero, List.set_cons_succ])
  refine wpQuiet_nil ?_
  intro w2 hc
  obtain ⟨xRa_w2, xRb_w2, Bw2, mw2, tw2⟩ := (HC.out w2).1 hc
  clear hc HC HK
  have dRa0 := xRa_w2.c0
  have dRa1 := xRa_w2.c1
  have dRa2 := xRa_w2.c2
  have dRa3 := xRa_w2.c3
  have dRa4 := xRa_w2.c4
  have dRa5 := xRa_w2.c5
  have dRb0 := xRb_w2.c0
  have dRb1 := xRb_w2.c1
  have dRb2 := xRb_w2.c2
  have dRb3 := xRb_w2.c3
  have dRb4 := xRb_w2.c4
  have dRb5 := xRb_w2.c5
  go_wp2_with fail
  clear dRa0 dRa1 dRa2 dRa3 dRa4 dRa5 dRb0 dRb1 dRb2 dRb3 dRb4 dRb5
  refine (CR.out _ ).mono ?_
  rintro e w3 ⟨rfl, b_⟩
  have mw3 := mw2.below b_
  have tw3 := tw2.below b_
  have Bw3 := Bw2.trans (b_.mono (Nat.le_of_lt xRa_w2.lt))
  have xRa_w3 := xRa_w2.below b_
  have xRb_w3 := xRb_w2.below b_
  clear b_ mw2 tw2 Bw2 xRa_w2 xRb_w2
  have dRa0 := xRa_w3.c0
  have dRa1 := xRa_w3.c1
  have dRa2 := xRa_w3.c2
  have dRa3 := xRa_w3.c3
  have dRa4 := xRa_w3.c4
  have dRa5 := xRa_w3.c5
  have dRb0 := xRb_w3.c0
  have dRb1 := xRb_w3.c1
  have dRb2 := xRb_w3.c2
  have dRb3 := xRb_w3.c3
  have dRb4 := xRb_w3.c4
  have dRb5 := xRb_w3.c5
  go_wp2
  go_ret
  exact ⟨rfl, by rw [HR.out]; exact Bw3⟩


set_option maxRecDepth 100000 in
set_option maxHeartbeats 8000000 in
theorem refSelf_h (s2 h2 : ByteArray) (p : Int) (pa2 q2 : ByteArray) (s3 h3 : ByteArray) (p3 : Int) (pa3 q3 : ByteArray) (oa : Bool) (sx hx : ByteArray) (px : Int) (ob : Bool) (sy hy : ByteArray) (py : Int) (CO1 : Hid (∀ W, MaxIn W → TabIn W → Calls Tryz.prog 93 #[uV false s2 h2 p pa2 q2] W fun e w' => e = .returned (oV ob sy hy py) ∧ Below W.heap.size W w')) (CO2 : Hid (∀ W, MaxIn W → TabIn W → Calls Tryz.prog 93 #[uV false s3 h3 p3 pa3 q3] W fun e w' => e = .returned (oV oa sx hx px) ∧ Below W.heap.size W w')) (CS : Hid (∀ W, Calls Tryz.prog 92 #[oV ob sy hy py, oV oa sx hx px] W fun e w' => e = .returned (.bool false) ∧ Below W.heap.size W w')) (CR : Hid (∀ W, Calls Tryz.prog 53 #[uV false s3 h3 p3 pa3 q3] W fun e w' => e = .returned (.bool true) ∧ Below W.heap.size W w')) (g1 : (h2.toList == h3.toList) = false) (w : World) (hm : MaxIn w) (ht : TabIn w) : Calls Tryz.prog 55 #[uV false s2 h2 p pa2 q2, uV false s3 h3 p3 pa3 q3] w fun e w' => e = .returned (.bool false) ∧ Below w.heap.size w w' := by
  unfold uV oV at *
  go_enter Tryz.func55, Tryz.ntmps55
  go_wp2_with fail
  have xn := BX.made w false s2 h2 p pa2 q2
  have xz := BX.made (w.alloc (.cells #[.bool false, .string s2, .string h2, .int .i64 p, .string pa2, .string q2] 25)) false s3 h3 p3 pa3 q3
  have xy := xn.below ((Below.refl _ _).alloc (Nat.le_refl _) (.cells #[.bool false, .string s3, .string h3, .int .i64 p3, .string pa3, .string q3] 25))
  have mB := (hm.made (.cells #[.bool false, .string s2, .string h2, .int .i64 p, .string pa2, .string q2] 25)).made (.cells #[.bool false, .string s3, .string h3, .int .i64 p3, .string pa3, .string q3] 25)
  have tB := (ht.made (.cells #[.bool false, .string s2, .string h2, .int .i64 p, .string pa2, .string q2] 25)).made (.cells #[.bool false, .string s3, .string h3, .int .i64 p3, .string pa3, .string q3] 25)
  have BB := ((Below.refl w.heap.size w).alloc (Nat.le_refl _) (.cells #[.bool false, .string s2, .string h2, .int .i64 p, .string pa2, .string q2] 25)).alloc (Below.size ((Below.refl w.heap.size w).alloc (Nat.le_refl _) (.cells #[.bool false, .string s2, .string h2, .int .i64 p, .string pa2, .string q2] 25))) (.cells #[.bool false, .string s3, .string h3, .int .i64 p3, .string pa3, .string q3] 25)
  rw [size_alloc] at xz
  clear xn hm ht
  generalize hR : w.heap.size = Ra at xy xz BB ⊢
  have HR := Lib.hid hR
  clear hR
  obtain ⟨Rb, hRb⟩ : ∃ Rb, Ra + 1 = Rb := ⟨_, rfl⟩
  rw [hRb] at xz
  try rw [hRb]
  clear hRb
  generalize (w.alloc (.cells #[.bool false, .string s2, .string h2, .int .i64 p, .string pa2, .string q2] 25)).alloc (.cells #[.bool false, .string s3, .string h3, .int .i64 p3, .string pa3, .string q3] 25) = w1 at xy xz mB tB BB ⊢
  have xRa_w1 := xy
  have xRb_w1 := xz
  clear xy xz
  obtain ⟨C, hC⟩ : ∃ C : World → Prop, ∀ w', C w' ↔ (BX w' Ra false s2 h2 p pa2 q2 ∧ BX w' Rb false s3 h3 p3 pa3 q3 ∧ Below Ra w w' ∧ MaxIn w' ∧ TabIn w') := ⟨_, fun _ => Iff.rfl⟩
  have HC := Lib.hid hC
  clear hC
  have hC0 : C w1.drew := (HC.out _).2 ⟨xRa_w1, xRb_w1, BB.drew, mB, tB⟩
  have HK : Hid (∀ w', C w' → ∀ w7, Below w'.heap.size w' w7 → C w7) := Lib.hid fun w' hc w7 b => by
    obtain ⟨xRa, xRb, K4, m7, t7⟩ := (HC.out w').1 hc
    exact (HC.out _).2 ⟨xRa.below b, xRb.below b, K4.trans (b.mono (Nat.le_of_lt xRa.lt)), m7.below b, t7.below b⟩
  clear xRa_w1 xRb_w1 BB mB tB
  refine region_class C (by kernel_rfl) (by kernel_rfl) hC0 ?_
  clear hC0
  repeat
    first
      | go_big_quiet_skip
      | (go_big_quiet_want; go_big_quiet_op; go_big_quiet_on)
      | (refine BigFrame.wpQuiet_want rfl (fun K hK => ?_)
         apply Exists.intro
         refine ⟨fun w' hc => ?_, hK _ ?_⟩
         · obtain ⟨xRa, xRb, K4, m7, t7⟩ := (HC.out w').1 hc
           have dRa0 := xRa.c0
           have dRa1 := xRa.c1
           have dRa2 := xRa.c2
           have dRa3 := xRa.c3
           have dRa4 := xRa.c4
           have dRa5 := xRa.c5
           have dRb0 := xRb.c0
           have dRb1 := xRb.c1
           have dRb2 := xRb.c2
           have dRb3 := xRb.c3
           have dRb4 := xRb.c4
           have dRb5 := xRb.c5
           unfold Oper.quietAt
           go_simp
           first
             | done
             | rfl
             | ((with_reducible refine (CO1.out _ m7 t7).mono ?_); rintro e w7 ⟨rfl, b7⟩; exact ⟨rfl, HK.out w' hc w7 b7⟩)
             | ((with_reducible refine (CO2.out _ m7 t7).mono ?_); rintro e w7 ⟨rfl, b7⟩; exact ⟨rfl, HK.out w' hc w7 b7⟩)
             | ((with_reducible refine (CS.out _).mono ?_); rintro e w7 ⟨rfl, b7⟩; exact ⟨rfl, HK.out w' hc w7 b7⟩)
         clear hK K
         simp only [Act.put, List.setIfInBounds_toArray, List.set_cons_zero, List.set_cons_succ])
  refine wpQuiet_nil ?_
  intro w2 hc
  obtain ⟨xRa_w2, xRb_w2, Bw2, mw2, tw2⟩ := (HC.out w2).1 hc
  clear hc HC HK
  have dRa0 := xRa_w2.c0
  have dRa1 := xRa_w2.c1
  have dRa2 := xRa_w2.c2
  have dRa3 := xRa_w2.c3
  have dRa4 := xRa_w2.c4
  have dRa5 := xRa_w2.c5
  have dRb0 := xRb_w2.c0
  have dRb1 := xRb_w2.c1
  have dRb2 := xRb_w2.c2
  have dRb3 := xRb_w2.c3
  have dRb4 := xRb_w2.c4
  have dRb5 := xRb_w2.c5
  go_wp2_with fail
  clear dRa0 dRa1 dRa2 dRa3 dRa4 dRa5 dRb0 dRb1 dRb2 dRb3 dRb4 dRb5
  refine (CR.out _ ).mono ?_
  rintro e w3 ⟨rfl, b_⟩
  have mw3 := mw2.below b_
  have tw3 := tw2.below b_
  have Bw3 := Bw2.trans (b_.mono (Nat.le_of_lt xRa_w2.lt))
  have xRa_w3 := xRa_w2.below b_
  have xRb_w3 := xRb_w2.below b_
  clear b_ mw2 tw2 Bw2 xRa_w2 xRb_w2
  have dRa0 := xRa_w3.c0
  have dRa1 := xRa_w3.c1
  have dRa2 := xRa_w3.c2
  have dRa3 := xRa_w3.c3
  have dRa4 := xRa_w3.c4
  have dRa5 := xRa_w3.c5
  have dRb0 := xRb_w3.c0
  have dRb1 := xRb_w3.c1
  have dRb2 := xRb_w3.c2
  have dRb3 := xRb_w3.c3
  have dRb4 := xRb_w3.c4
  have dRb5 := xRb_w3.c5
  go_wp2
  go_ret
  exact ⟨rfl, by rw [HR.out]; exact Bw3⟩


set_option maxRecDepth 100000 in
set_option maxHeartbeats 8000000 in
theorem refSelf_p (s2 h2 : ByteArray) (p : Int) (pa2 q2 : ByteArray) (s3 h3 : ByteArray) (p3 : Int) (pa3 q3 : ByteArray) (oa : Bool) (sx hx : ByteArray) (px : Int) (ob : Bool) (sy hy : ByteArray) (py : Int) (CO1 : Hid (∀ W, MaxIn W → TabIn W → Calls Tryz.prog 93 #[uV false s2 h2 p pa2 q2] W fun e w' => e = .returned (oV ob sy hy py) ∧ Below W.heap.size W w')) (CO2 : Hid (∀ W, MaxIn W → TabIn W → Calls Tryz.prog 93 #[uV false s3 h3 p3 pa3 q3] W fun e w' => e = .returned (oV oa sx hx px) ∧ Below W.heap.size W w')) (CS : Hid (∀ W, Calls Tryz.prog 92 #[oV ob sy hy py, oV oa sx hx px] W fun e w' => e = .returned (.bool false) ∧ Below W.heap.size W w')) (CR : Hid (∀ W, Calls Tryz.prog 53 #[uV false s3 h3 p3 pa3 q3] W fun e w' => e = .returned (.bool true) ∧ Below W.heap.size W w')) (g1 : (h2.toList == h3.toList) = true) (g2 : (p == 0) = false) (w : World) (hm : MaxIn w) (ht : TabIn w) : Calls Tryz.prog 55 #[uV false s2 h2 p pa2 q2, uV false s3 h3 p3 pa3 q3] w fun e w' => e = .returned (.bool false) ∧ Below w.heap.size w w' := by
  unfold uV oV at *
  go_enter Tryz.func55, Tryz.ntmps55
  go_wp2_with fail
  have xn := BX.made w false s2 h2 p pa2 q2
  have xz := BX.made (w.alloc (.cells #[.bool false, .string s2, .string h2, .int .i64 p, .string pa2, .string q2] 25)) false s3 h3 p3 pa3 q3
  have xy := xn.below ((Below.refl _ _).alloc (Nat.le_refl _) (.cells #[.bool false, .string s3, .string h3, .int .i64 p3, .string pa3, .string q3] 25))
  have mB := (hm.made (.cells #[.bool false, .string s2, .string h2, .int .i64 p, .string pa2, .string q2] 25)).made (.cells #[.bool false, .string s3, .string h3, .int .i64 p3, .string pa3, .string q3] 25)
  have tB := (ht.made (.cells #[.bool false, .string s2, .string h2, .int .i64 p, .string pa2, .string q2] 25)).made (.cells #[.bool false, .string s3, .string h3, .int .i64 p3, .string pa3, .string q3] 25)
  have BB := ((Below.refl w.heap.size w).alloc (Nat.le_refl _) (.cells #[.bool false, .string s2, .string h2, .int .i64 p, .string pa2, .string q2] 25)).alloc (Below.size ((Below.refl w.heap.size w).alloc (Nat.le_refl _) (.cells #[.bool false, .string s2, .string h2, .int .i64 p, .string pa2, .string q2] 25))) (.cells #[.bool false, .string s3, .string h3, .int .i64 p3, .string pa3, .string q3] 25)
  rw [size_alloc] at xz
  clear xn hm ht
  generalize hR : w.heap.size = Ra at xy xz BB ⊢
  have HR := Lib.hid hR
  clear hR
  obtain ⟨Rb, hRb⟩ : ∃ Rb, Ra + 1 = Rb := ⟨_, rfl⟩
  rw [hRb] at xz
  try rw [hRb]
  clear hRb
  generalize (w.alloc (.cells #[.bool false, .string s2, .string h2, .int .i64 p, .string pa2, .string q2] 25)).alloc (.cells #[.bool false, .string s3, .string h3, .int .i64 p3, .string pa3, .string q3] 25) = w1 at xy xz mB tB BB ⊢
  have xRa_w1 := xy
  have xRb_w1 := xz
  clear xy xz
  obtain ⟨C, hC⟩ : ∃ C : World → Prop, ∀ w', C w' ↔ (BX w' Ra false s2 h2 p pa2 q2 ∧ BX w' Rb false s3 h3 p3 pa3 q3 ∧ Below Ra w w' ∧ MaxIn w' ∧ TabIn w') := ⟨_, fun _ => Iff.rfl⟩
  have HC := Lib.hid hC
  clear hC
  have hC0 : C w1.drew := (HC.out _).2 ⟨xRa_w1, xRb_w1, BB.drew, mB, tB⟩
  have HK : Hid (∀ w', C w' → ∀ w7, Below w'.heap.size w' w7 → C w7) := Lib.hid fun w' hc w7 b => by
    obtain ⟨xRa, xRb, K4, m7, t7⟩ := (HC.out w').1 hc
    exact (HC.out _).2 ⟨xRa.below b, xRb.below b, K4.trans (b.mono (Nat.le_of_lt xRa.lt)), m7.below b, t7.below b⟩
  clear xRa_w1 xRb_w1 BB mB tB
  refine region_class C (by kernel_rfl) (by kernel_rfl) hC0 ?_
  clear hC0
  repeat
    first
      | go_big_quiet_skip
      | (go_big_quiet_want; go_big_quiet_op; go_big_quiet_on)
      | (refine BigFrame.wpQuiet_want rfl (fun K hK => ?_)
         apply Exists.intro
         refine ⟨fun w' hc => ?_, hK _ ?_⟩
         · obtain ⟨xRa, xRb, K4, m7, t7⟩ := (HC.out w').1 hc
           have dRa0 := xRa.c0
           have dRa1 := xRa.c1
           have dRa2 := xRa.c2
           have dRa3 := xRa.c3
           have dRa4 := xRa.c4
           have dRa5 := xRa.c5
           have dRb0 := xRb.c0
           have dRb1 := xRb.c1
           have dRb2 := xRb.c2
           have dRb3 := xRb.c3
           have dRb4 := xRb.c4
           have dRb5 := xRb.c5
           unfold Oper.quietAt
           go_simp
           first
             | done
             | rfl
             | ((with_reducible refine (CO1.out _ m7 t7).mono ?_); rintro e w7 ⟨rfl, b7⟩; exact ⟨rfl, HK.out w' hc w7 b7⟩)
             | ((with_reducible refine (CO2.out _ m7 t7).mono ?_); rintro e w7 ⟨rfl, b7⟩; exact ⟨rfl, HK.out w' hc w7 b7⟩)
             | ((with_reducible refine (CS.out _).mono ?_); rintro e w7 ⟨rfl, b7⟩; exact ⟨rfl, HK.out w' hc w7 b7⟩)
         clear hK K
         simp only [Act.put, List.setIfInBounds_toArray, List.set_cons_zero, List.set_cons_succ])
  refine wpQuiet_nil ?_
  intro w2 hc
  obtain ⟨xRa_w2, xRb_w2, Bw2, mw2, tw2⟩ := (HC.out w2).1 hc
  clear hc HC HK
  have dRa0 := xRa_w2.c0
  have dRa1 := xRa_w2.c1
  have dRa2 := xRa_w2.c2
  have dRa3 := xRa_w2.c3
  have dRa4 := xRa_w2.c4
  have dRa5 := xRa_w2.c5
  have dRb0 := xRb_w2.c0
  have dRb1 := xRb_w2.c1
  have dRb2 := xRb_w2.c2
  have dRb3 := xRb_w2.c3
  have dRb4 := xRb_w2.c4
  have dRb5 := xRb_w2.c5
  go_wp2_with fail
  clear dRa0 dRa1 dRa2 dRa3 dRa4 dRa5 dRb0 dRb1 dRb2 dRb3 dRb4 dRb5
  refine (CR.out _ ).mono ?_
  rintro e w3 ⟨rfl, b_⟩
  have mw3 := mw2.below b_
  have tw3 := tw2.below b_
  have Bw3 := Bw2.trans (b_.mono (Nat.le_of_lt xRa_w2.lt))
  have xRa_w3 := xRa_w2.below b_
  have xRb_w3 := xRb_w2.below b_
  clear b_ mw2 tw2 Bw2 xRa_w2 xRb_w2
  have dRa0 := xRa_w3.c0
  have dRa1 := xRa_w3.c1
  have dRa2 := xRa_w3.c2
  have dRa3 := xRa_w3.c3
  have dRa4 := xRa_w3.c4
  have dRa5 := xRa_w3.c5
  have dRb0 := xRb_w3.c0
  have dRb1 := xRb_w3.c1
  have dRb2 := xRb_w3.c2
  have dRb3 := xRb_w3.c3
  have dRb4 := xRb_w3.c4
  have dRb5 := xRb_w3.c5
  go_wp2
  go_ret
  exact ⟨rfl, by rw [HR.out]; exact Bw3⟩


set_option maxRecDepth 100000 in
set_option maxHeartbeats 8000000 in
theorem refSelf_p3 (s2 h2 : ByteArray) (p : Int) (pa2 q2 : ByteArray) (s3 h3 : ByteArray) (p3 : Int) (pa3 q3 : ByteArray) (oa : Bool) (sx hx : ByteArray) (px : Int) (ob : Bool) (sy hy : ByteArray) (py : Int) (CO1 : Hid (∀ W, MaxIn W → TabIn W → Calls Tryz.prog 93 #[uV false s2 h2 p pa2 q2] W fun e w' => e = .returned (oV ob sy hy py) ∧ Below W.heap.size W w')) (CO2 : Hid (∀ W, MaxIn W → TabIn W → Calls Tryz.prog 93 #[uV false s3 h3 p3 pa3 q3] W fun e w' => e = .returned (oV oa sx hx px) ∧ Below W.heap.size W w')) (CS : Hid (∀ W, Calls Tryz.prog 92 #[oV ob sy hy py, oV oa sx hx px] W fun e w' => e = .returned (.bool false) ∧ Below W.heap.size W w')) (CR : Hid (∀ W, Calls Tryz.prog 53 #[uV false s3 h3 p3 pa3 q3] W fun e w' => e = .returned (.bool true) ∧ Below W.heap.size W w')) (g1 : (h2.toList == h3.toList) = true) (g2 : (p == 0) = true) (g3 : (p3 == 0) = false) (w : World) (hm : MaxIn w) (ht : TabIn w) : Calls Tryz.prog 55 #[uV false s2 h2 p pa2 q2, uV false s3 h3 p3 pa3 q3] w fun e w' => e = .returned (.bool false) ∧ Below w.heap.size w w' := by
  unfold uV oV at *
  go_enter Tryz.func55, Tryz.ntmps55
  go_wp2_with fail
  have xn := BX.made w false s2 h2 p pa2 q2
  have xz := BX.made (w.alloc (.cells #[.bool false, .string s2, .string h2, .int .i64 p, .string pa2, .string q2] 25)) false s3 h3 p3 pa3 q3
  have xy := xn.below ((Below.refl _ _).alloc (Nat.le_refl _) (.cells #[.bool false, .string s3, .string h3, .int .i64 p3, .string pa3, .string q3] 25))
  have mB := (hm.made (.cells #[.bool false, .string s2, .string h2, .int .i64 p, .string pa2, .string q2] 25)).made (.cells #[.bool false, .string s3, .string h3, .int .i64 p3, .string pa3, .string q3] 25)
  have tB := (ht.made (.cells #[.bool false, .string s2, .string h2, .int .i64 p, .string pa2, .string q2] 25)).made (.cells #[.bool false, .string s3, .string h3, .int .i64 p3, .string pa3, .string q3] 25)
  have BB := ((Below.refl w.heap.size w).alloc (Nat.le_refl _) (.cells #[.bool false, .string s2, .string h2, .int .i64 p, .string pa2, .string q2] 25)).alloc (Below.size ((Below.refl w.heap.size w).alloc (Nat.le_refl _) (.cells #[.bool false, .string s2, .string h2, .int .i64 p, .string pa2, .string q2] 25))) (.cells #[.bool false, .string s3, .string h3, .int .i64 p3, .string pa3, .string q3] 25)
  rw [size_alloc] at xz
  clear xn hm ht
  generalize hR : w.heap.size = Ra at xy xz BB ⊢
  have HR := Lib.hid hR
  clear hR
  obtain ⟨Rb, hRb⟩ : ∃ Rb, Ra + 1 = Rb := ⟨_, rfl⟩
  rw [hRb] at xz
  try rw [hRb]
  clear hRb
  generalize (w.alloc (.cells #[.bool false, .string s2, .string h2, .int .i64 p, .string pa2, .string q2] 25)).alloc (.cells #[.bool false, .string s3, .string h3, .int .i64 p3, .string pa3, .string q3] 25) = w1 at xy xz mB tB BB ⊢
  have xRa_w1 := xy
  have xRb_w1 := xz
  clear xy xz
  obtain ⟨C, hC⟩ : ∃ C : World → Prop, ∀ w', C w' ↔ (BX w' Ra false s2 h2 p pa2 q2 ∧ BX w' Rb false s3 h3 p3 pa3 q3 ∧ Below Ra w w' ∧ MaxIn w' ∧ TabIn w') := ⟨_, fun _ => Iff.rfl⟩
  have HC := Lib.hid hC
  clear hC
  have hC0 : C w1.drew := (HC.out _).2 ⟨xRa_w1, xRb_w1, BB.drew, mB, tB⟩
  have HK : Hid (∀ w', C w' → ∀ w7, Below w'.heap.size w' w7 → C w7) := Lib.hid fun w' hc w7 b => by
    obtain ⟨xRa, xRb, K4, m7, t7⟩ := (HC.out w').1 hc
    exact (HC.out _).2 ⟨xRa.below b, xRb.below b, K4.trans (b.mono (Nat.le_of_lt xRa.lt)), m7.below b, t7.below b⟩
  clear xRa_w1 xRb_w1 BB mB tB
  refine region_class C (by kernel_rfl) (by kernel_rfl) hC0 ?_
  clear hC0
  repeat
    first
      | go_big_quiet_skip
      | (go_big_quiet_want; go_big_quiet_op; go_big_quiet_on)
      | (refine BigFrame.wpQuiet_want rfl (fun K hK => ?_)
         apply Exists.intro
         refine ⟨fun w' hc => ?_, hK _ ?_⟩
         · obtain ⟨xRa, xRb, K4, m7, t7⟩ := (HC.out w').1 hc
           have dRa0 := xRa.c0
           have dRa1 := xRa.c1
           have dRa2 := xRa.c2
           have dRa3 := xRa.c3
           have dRa4 := xRa.c4
           have dRa5 := xRa.c5
           have dRb0 := xRb.c0
           have dRb1 := xRb.c1
           have dRb2 := xRb.c2
           have dRb3 := xRb.c3
           have dRb4 := xRb.c4
           have dRb5 := xRb.c5
           unfold Oper.quietAt
           go_simp
           first
             | done
             | rfl
             | ((with_reducible refine (CO1.out _ m7 t7).mono ?_); rintro e w7 ⟨rfl, b7⟩; exact ⟨rfl, HK.out w' hc w7 b7⟩)
             | ((with_reducible refine (CO2.out _ m7 t7).mono ?_); rintro e w7 ⟨rfl, b7⟩; exact ⟨rfl, HK.out w' hc w7 b7⟩)
             | ((with_reducible refine (CS.out _).mono ?_); rintro e w7 ⟨rfl, b7⟩; exact ⟨rfl, HK.out w' hc w7 b7⟩)
         clear hK K
         simp only [Act.put, List.setIfInBounds_toArray, List.set_cons_zero, List.set_cons_succ])
  refine wpQuiet_nil ?_
  intro w2 hc
  obtain ⟨xRa_w2, xRb_w2, Bw2, mw2, tw2⟩ := (HC.out w2).1 hc
  clear hc HC HK
  have dRa0 := xRa_w2.c0
  have dRa1 := xRa_w2.c1
  have dRa2 := xRa_w2.c2
  have dRa3 := xRa_w2.c3
  have dRa4 := xRa_w2.c4
  have dRa5 := xRa_w2.c5
  have dRb0 := xRb_w2.c0
  have dRb1 := xRb_w2.c1
  have dRb2 := xRb_w2.c2
  have dRb3 := xRb_w2.c3
  have dRb4 := xRb_w2.c4
  have dRb5 := xRb_w2.c5
  go_wp2_with fail
  clear dRa0 dRa1 dRa2 dRa3 dRa4 dRa5 dRb0 dRb1 dRb2 dRb3 dRb4 dRb5
  refine (CR.out _ ).mono ?_
  rintro e w3 ⟨rfl, b_⟩
  have mw3 := mw2.below b_
  have tw3 := tw2.below b_
  have Bw3 := Bw2.trans (b_.mono (Nat.le_of_lt xRa_w2.lt))
  have xRa_w3 := xRa_w2.below b_
  have xRb_w3 := xRb_w2.below b_
  clear b_ mw2 tw2 Bw2 xRa_w2 xRb_w2
  have dRa0 := xRa_w3.c0
  have dRa1 := xRa_w3.c1
  have dRa2 := xRa_w3.c2
  have dRa3 := xRa_w3.c3
  have dRa4 := xRa_w3.c4
  have dRa5 := xRa_w3.c5
  have dRb0 := xRb_w3.c0
  have dRb1 := xRb_w3.c1
  have dRb2 := xRb_w3.c2
  have dRb3 := xRb_w3.c3
  have dRb4 := xRb_w3.c4
  have dRb5 := xRb_w3.c5
  go_wp2
  go_ret
  exact ⟨rfl, by rw [HR.out]; exact Bw3⟩


set_option maxRecDepth 100000 in
set_option maxHeartbeats 8000000 in
theorem refSelf_s (s2 h2 : ByteArray) (p : Int) (pa2 q2 : ByteArray) (s3 h3 : ByteArray) (p3 : Int) (pa3 q3 : ByteArray) (oa : Bool) (sx hx : ByteArray) (px : Int) (ob : Bool) (sy hy : ByteArray) (py : Int) (CO1 : Hid (∀ W, MaxIn W → TabIn W → Calls Tryz.prog 93 #[uV false s2 h2 p pa2 q2] W fun e w' => e = .returned (oV ob sy hy py) ∧ Below W.heap.size W w')) (CO2 : Hid (∀ W, MaxIn W → TabIn W → Calls Tryz.prog 93 #[uV false s3 h3 p3 pa3 q3] W fun e w' => e = .returned (oV oa sx hx px) ∧ Below W.heap.size W w')) (CS : Hid (∀ W, Calls Tryz.prog 92 #[oV ob sy hy py, oV oa sx hx px] W fun e w' => e = .returned (.bool false) ∧ Below W.heap.size W w')) (CR : Hid (∀ W, Calls Tryz.prog 53 #[uV false s3 h3 p3 pa3 q3] W fun e w' => e = .returned (.bool true) ∧ Below W.heap.size W w')) (g1 : (h2.toList == h3.toList) = true) (g2 : (p == 0) = true) (g3 : (p3 == 0) = true) (r : Bool) (CM : Hid (∀ W, Calls Tryz.prog 54 #[.string s3, .string s2] W fun e w' => e = .returned (.bool r) ∧ Below W.heap.size W w')) (w : World) (hm : MaxIn w) (ht : TabIn w) : Calls Tryz.prog 55 #[uV false s2 h2 p pa2 q2, uV false s3 h3 p3 pa3 q3] w fun e w' => e = .returned (.bool r) ∧ Below w.heap.size w w' := by
  unfold uV oV at *
  go_enter Tryz.func55, Tryz.ntmps55
  go_wp2_with fail
  have xn := BX.made w false s2 h2 p pa2 q2
  have xz := BX.made (w.alloc (.cells #[.bool false, .string s2, .string h2, .int .i64 p, .string pa2, .string q2] 25)) false s3 h3 p3 pa3 q3
  have xy := xn.below ((Below.refl _ _).alloc (Nat.le_refl _) (.cells #[.bool false, .string s3, .string h3, .int .i64 p3, .string pa3, .string q3] 25))
  have mB := (hm.made (.cells #[.bool false, .string s2, .string h2, .int .i64 p, .string pa2, .string q2] 25)).made (.cells #[.bool false, .string s3, .string h3, .int .i64 p3, .string pa3, .string q3] 25)
  have tB := (ht.made (.cells #[.bool false, .string s2, .string h2, .int .i64 p, .string pa2, .string q2] 25)).made (.cells #[.bool false, .string s3, .string h3, .int .i64 p3, .string pa3, .string q3] 25)
  have BB := ((Below.refl w.heap.size w).alloc (Nat.le_refl _) (.cells #[.bool false, .string s2, .string h2, .int .i64 p, .string pa2, .string q2] 25)).alloc (Below.size ((Below.refl w.heap.size w).alloc (Nat.le_refl _) (.cells #[.bool false, .string s2, .string h2, .int .i64 p, .string pa2, .string q2] 25))) (.cells #[.bool false, .string s3, .string h3, .int .i64 p3, .string pa3, .string q3] 25)
  rw [size_alloc] at xz
  clear xn hm ht
  generalize hR : w.heap.size = Ra at xy xz BB ⊢
  have HR := Lib.hid hR
  clear hR
  obtain ⟨Rb, hRb⟩ : ∃ Rb, Ra + 1 = Rb := ⟨_, rfl⟩
  rw [hRb] at xz
  try rw [hRb]
  clear hRb
  generalize (w.alloc (.cells #[.bool false, .string s2, .string h2, .int .i64 p, .string pa2, .string q2] 25)).alloc (.cells #[.bool false, .string s3, .string h3, .int .i64 p3, .string pa3, .string q3] 25) = w1 at xy xz mB tB BB ⊢
  have xRa_w1 := xy
  have xRb_w1 := xz
  clear xy xz
  obtain ⟨C, hC⟩ : ∃ C : World → Prop, ∀ w', C w' ↔ (BX w' Ra false s2 h2 p pa2 q2 ∧ BX w' Rb false s3 h3 p3 pa3 q3 ∧ Below Ra w w' ∧ MaxIn w' ∧ TabIn w') := ⟨_, fun _ => Iff.rfl⟩
  have HC := Lib.hid hC
  clear hC
  have hC0 : C w1.drew := (HC.out _).2 ⟨xRa_w1, xRb_w1, BB.drew, mB, tB⟩
  have HK : Hid (∀ w', C w' → ∀ w7, Below w'.heap.size w' w7 → C w7) := Lib.hid fun w' hc w7 b => by
    obtain ⟨xRa, xRb, K4, m7, t7⟩ := (HC.out w').1 hc
    exact (HC.out _).2 ⟨xRa.below b, xRb.below b, K4.trans (b.mono (Nat.le_of_lt xRa.lt)), m7.below b, t7.below b⟩
  clear xRa_w1 xRb_w1 BB mB tB
  refine region_class C (by kernel_rfl) (by kernel_rfl) hC0 ?_
  clear hC0
  repeat
    first
      | go_big_quiet_skip
      | (go_big_quiet_want; go_big_quiet_op; go_big_quiet_on)
      | (refine BigFrame.wpQuiet_want rfl (fun K hK => ?_)
         apply Exists.intro
         refine ⟨fun w' hc => ?_, hK _ ?_⟩
         · obtain ⟨xRa, xRb, K4, m7, t7⟩ := (HC.out w').1 hc
           have dRa0 := xRa.c0
           have dRa1 := xRa.c1
           have dRa2 := xRa.c2
           have dRa3 := xRa.c3
           have dRa4 := xRa.c4
           have dRa5 := xRa.c5
           have dRb0 := xRb.c0
           have dRb1 := xRb.c1
           have dRb2 := xRb.c2
           have dRb3 := xRb.c3
           have dRb4 := xRb.c4
           have dRb5 := xRb.c5
           unfold Oper.quietAt
           go_simp
           first
             | done
             | rfl
             | ((with_reducible refine (CO1.out _ m7 t7).mono ?_); rintro e w7 ⟨rfl, b7⟩; exact ⟨rfl, HK.out w' hc w7 b7⟩)
             | ((with_reducible refine (CO2.out _ m7 t7).mono ?_); rintro e w7 ⟨rfl, b7⟩; exact ⟨rfl, HK.out w' hc w7 b7⟩)
             | ((with_reducible refine (CS.out _).mono ?_); rintro e w7 ⟨rfl, b7⟩; exact ⟨rfl, HK.out w' hc w7 b7⟩)
         clear hK K
         simp only [Act.put, List.setIfInBounds_toArray, List.set_cons_zero, List.set_cons_succ])
  refine wpQuiet_nil ?_
  intro w2 hc
  obtain ⟨xRa_w2, xRb_w2, Bw2, mw2, tw2⟩ := (HC.out w2).1 hc
  clear hc HC HK
  have dRa0 := xRa_w2.c0
  have dRa1 := xRa_w2.c1
  have dRa2 := xRa_w2.c2
  have dRa3 := xRa_w2.c3
  have dRa4 := xRa_w2.c4
  have dRa5 := xRa_w2.c5
  have dRb0 := xRb_w2.c0
  have dRb1 := xRb_w2.c1
  have dRb2 := xRb_w2.c2
  have dRb3 := xRb_w2.c3
  have dRb4 := xRb_w2.c4
  have dRb5 := xRb_w2.c5
  go_wp2_with fail
  clear dRa0 dRa1 dRa2 dRa3 dRa4 dRa5 dRb0 dRb1 dRb2 dRb3 dRb4 dRb5
  refine (CR.out _ ).mono ?_
  rintro e w3 ⟨rfl, b_⟩
  have mw3 := mw2.below b_
  have tw3 := tw2.below b_
  have Bw3 := Bw2.trans (b_.mono (Nat.le_of_lt xRa_w2.lt))
  have xRa_w3 := xRa_w2.below b_
  have xRb_w3 := xRb_w2.below b_
  clear b_ mw2 tw2 Bw2 xRa_w2 xRb_w2
  have dRa0 := xRa_w3.c0
  have dRa1 := xRa_w3.c1
  have dRa2 := xRa_w3.c2
  have dRa3 := xRa_w3.c3
  have dRa4 := xRa_w3.c4
  have dRa5 := xRa_w3.c5
  have dRb0 := xRb_w3.c0
  have dRb1 := xRb_w3.c1
  have dRb2 := xRb_w3.c2
  have dRb3 := xRb_w3.c3
  have dRb4 := xRb_w3.c4
  have dRb5 := xRb_w3.c5
  go_wp2_with fail
  clear dRa0 dRa1 dRa2 dRa3 dRa4 dRa5 dRb0 dRb1 dRb2 dRb3 dRb4 dRb5
  refine (CM.out _ ).mono ?_
  rintro e w4 ⟨rfl, b_⟩
  have mw4 := mw3.below b_
  have tw4 := tw3.below b_
  have Bw4 := Bw3.trans (b_.mono (Nat.le_of_lt xRa_w3.lt))
  have xRa_w4 := xRa_w3.below b_
  have xRb_w4 := xRb_w3.below b_
  clear b_ mw3 tw3 Bw3 xRa_w3 xRb_w3
  go_wp2
  go_ret
  exact ⟨rfl, by rw [HR.out]; exact Bw4⟩

theorem refSelf_any (o : Bool) (s2 h2 : ByteArray) (p : Int) (pa2 q2 : ByteArray) (o3 : Bool) (s3 h3 : ByteArray) (p3 : Int) (pa3 q3 : ByteArray) (u1 : s2.size ≤ 100000) (u2 : h2.size ≤ 100000) (u3 : pa2.size ≤ 100000) (u4 : q2.size ≤ 100000) (v1 : s3.size ≤ 100000) (v2 : h3.size ≤ 100000) (v3 : pa3.size ≤ 100000) (v4 : q3.size ≤ 100000) (w : World) (hm : MaxIn w) (ht : TabIn w) : Calls Tryz.prog 55 #[uV o s2 h2 p pa2 q2, uV o3 s3 h3 p3 pa3 q3] w fun e w' => e = .returned (.bool (selfL (uM o s2 h2 p pa2 q2) (uM o3 s3 h3 p3 pa3 q3))) ∧ Below w.heap.size w w' := by
  obtain ⟨oa, sx, hx, px, ea⟩ := om_any (originM (uM o3 s3 h3 p3 pa3 q3))
  obtain ⟨ob, sy, hy, py, eb⟩ := om_any (originM (uM o s2 h2 p pa2 q2))
  have CO1 := refOf_hid o s2 h2 p pa2 q2 u1 u2 u3 u4 ob sy hy py eb
  have CO2 := refOf_hid o3 s3 h3 p3 pa3 q3 v1 v2 v3 v4 oa sx hx px ea
  unfold selfL
  rw [← same_comm, ea, eb]
  cases hs : sameM (oM ob sy hy py) (oM oa sx hx px)
  case true =>
    have CS := refSame_hid ob sy hy py oa sx hx px true hs
    exact refSelf_same o s2 h2 p pa2 q2 o3 s3 h3 p3 pa3 q3 oa sx hx px ob sy hy py CO1 CO2 CS w hm ht
  have CS := refSame_hid ob sy hy py oa sx hx px false hs
  rw [Bool.false_or]
  clear ea eb hs
  cases hr : rightM (uM o3 s3 h3 p3 pa3 q3)
  case false =>
    rw [show nearL (uM o s2 h2 p pa2 q2) (uM o3 s3 h3 p3 pa3 q3) = false by unfold nearL; rw [hr]; rfl]
    exact refSelf_r o s2 h2 p pa2 q2 o3 s3 h3 p3 pa3 q3 oa sx hx px ob sy hy py CO1 CO2 CS (refRight_hid o3 s3 h3 p3 pa3 q3 false hr v1 v2 v3 v4) w hm ht
  have CR := refRight_hid o3 s3 h3 p3 pa3 q3 true hr v1 v2 v3 v4
  have HN : nearL (uM o s2 h2 p pa2 q2) (uM o3 s3 h3 p3 pa3 q3) = (!o3 && (!o && (decide (h3.data.toList = h2.data.toList) && (decide (p3 = 0) && (decide (p = 0) && schL s3.data.toList s2.data.toList))))) := by
    unfold nearL
    rw [hr]
    simp only [Bool.and_assoc, Bool.true_and]
    rfl
  rw [HN]
  clear HN
  cases o
  case true =>
    rw [Bool.not_true, Bool.false_and, Bool.and_false]
    exact refSelf_o s2 h2 p pa2 q2 o3 s3 h3 p3 pa3 q3 oa sx hx px ob sy hy py CO1 CO2 CS CR w hm ht
  cases o3
  case true =>
    rw [Bool.not_true, Bool.false_and]
    exact refSelf_o3 s2 h2 p pa2 q2 s3 h3 p3 pa3 q3 oa sx hx px ob sy hy py CO1 CO2 CS CR w hm ht
  rw [Bool.not_false, Bool.true_and, Bool.true_and]
  have eh : (h2.toList == h3.toList) = decide (h3.data.toList = h2.data.toList) := by rw [text_two, Bool.eq_iff_iff]; simp [eq_comm]
  have ep : (p == 0) = decide (p = 0) := rfl
  have ep3 : (p3 == 0) = decide (p3 = 0) := rfl
  cases g1 : decide (h3.data.toList = h2.data.toList)
  case false =>
    rw [Bool.false_and]
    exact refSelf_h s2 h2 p pa2 q2 s3 h3 p3 pa3 q3 oa sx hx px ob sy hy py CO1 CO2 CS CR (eh.trans g1) w hm ht
  cases g2 : decide (p = 0)
  case false =>
    rw [Bool.false_and, Bool.and_false, Bool.and_false]
    exact refSelf_p s2 h2 p pa2 q2 s3 h3 p3 pa3 q3 oa sx hx px ob sy hy py CO1 CO2 CS CR (eh.trans g1) (ep.trans g2) w hm ht
  cases g3 : decide (p3 = 0)
  case false =>
    rw [Bool.false_and, Bool.and_false]
    exact refSelf_p3 s2 h2 p pa2 q2 s3 h3 p3 pa3 q3 oa sx hx px ob sy hy py CO1 CO2 CS CR (eh.trans g1) (ep.trans g2) (ep3.trans g3) w hm ht
  rw [Bool.true_and, Bool.true_and, Bool.true_and]
  exact refSelf_s s2 h2 p pa2 q2 s3 h3 p3 pa3 q3 oa sx hx px ob sy hy py CO1 CO2 CS CR (eh.trans g1) (ep.trans g2) (ep3.trans g3) _ (same_low _ _ _ (refScheme10_hid s3 s2 _ rfl)) w hm ht


set_option maxRecDepth 100000 in
set_option maxHeartbeats 8000000 in
theorem refUrl_wrong (k : Int) (t s h : ByteArray) (wd : Bool) (sp : Int) (pa : ByteArray) (o : Bool) (s2 h2 : ByteArray) (p : Int) (pa2 q2 : ByteArray) (o3 : Bool) (s3 h3 : ByteArray) (p3 : Int) (pa3 q3 : ByteArray) (m : Bool) (CC : Hid (∀ W, Calls Tryz.prog 53 #[uV o s2 h2 p pa2 q2] W fun e w' => e = .returned (.bool false) ∧ Below W.heap.size W w')) (w : World) (hm : MaxIn w) (ht : TabIn w) : Calls Tryz.prog 35 #[srcV k t s h wd sp pa, uV o s2 h2 p pa2 q2, uV o3 s3 h3 p3 pa3 q3, .bool m] w fun e w' => e = .returned (.bool false) ∧ Below w.heap.size w w' := by
  unfold srcV uV at *
  go_enter Tryz.func35, Tryz.ntmps35
  go_wp2_with fail
  obtain ⟨x1, x2, x3, BB⟩ := urlBlocks w k t s h wd sp pa o s2 h2 p pa2 q2 o3 s3 h3 p3 pa3 q3
  have mB := ((hm.made (.cells #[.int .i64 k, .string t, .string s, .string h, .bool wd, .int .i64 sp, .string pa] 40)).made (.cells #[.bool o, .string s2, .string h2, .int .i64 p, .string pa2, .string q2] 25)).made (.cells #[.bool o3, .string s3, .string h3, .int .i64 p3, .string pa3, .string q3] 25)
  have tB := ((ht.made (.cells #[.int .i64 k, .string t, .string s, .string h, .bool wd, .int .i64 sp, .string pa] 40)).made (.cells #[.bool o, .string s2, .string h2, .int .i64 p, .string pa2, .string q2] 25)).made (.cells #[.bool o3, .string s3, .string h3, .int .i64 p3, .string pa3, .string q3] 25)
  clear hm ht
  generalize hR : w.heap.size = Ra at x1 x2 x3 BB ⊢
  have HR := Lib.hid hR
  clear hR
  obtain ⟨Rb, hRb⟩ : ∃ Rb, Ra + 1 = Rb := ⟨_, rfl⟩
  rw [hRb] at x2 x3
  try rw [hRb]
  clear hRb
  obtain ⟨Rc, hRb⟩ : ∃ Rc, Rb + 1 = Rc := ⟨_, rfl⟩
  rw [hRb] at x3
  try rw [hRb]
  clear hRb
  generalize ((w.alloc (.cells #[.int .i64 k, .string t, .string s, .string h, .bool wd, .int .i64 sp, .string pa] 40)).alloc (.cells #[.bool o, .string s2, .string h2, .int .i64 p, .string pa2, .string q2] 25)).alloc (.cells #[.bool o3, .string s3, .string h3, .int .i64 p3, .string pa3, .string q3] 25) = w1 at x1 x2 x3 mB tB BB ⊢
  have xRa_w1 := x1
  have xRb_w1 := x2
  have xRc_w1 := x3
  clear x1 x2 x3
  refine (CC.out _ ).mono ?_
  rintro e w2 ⟨rfl, b_⟩
  have mw2 := mB.below b_
  have tw2 := tB.below b_
  have Bw2 := BB.trans (b_.mono (Nat.le_of_lt xRa_w1.lt))
  have xRa_w2 := xRa_w1.below b_
  have xRb_w2 := xRb_w1.below b_
  have xRc_w2 := xRc_w1.below b_
  clear b_ mB tB BB xRa_w1 xRb_w1 xRc_w1
  have dRa0 := xRa_w2.c0
  have dRa1 := xRa_w2.c1
  have dRa2 := xRa_w2.c2
  have dRa3 := xRa_w2.c3
  have dRa4 := xRa_w2.c4
  have dRa5 := xRa_w2.c5
  have dRa6 := xRa_w2.c6
  have dRb0 := xRb_w2.c0
  have dRb1 := xRb_w2.c1
  have dRb2 := xRb_w2.c2
  have dRb3 := xRb_w2.c3
  have dRb4 := xRb_w2.c4
  have dRb5 := xRb_w2.c5
  have dRc0 := xRc_w2.c0
  have dRc1 := xRc_w2.c1
  have dRc2 := xRc_w2.c2
  have dRc3 := xRc_w2.c3
  have dRc4 := xRc_w2.c4
  have dRc5 := xRc_w2.c5
  go_wp2
  go_ret
  exact ⟨rfl, by rw [HR.out]; exact Bw2⟩


set_option maxRecDepth 100000 in
set_option maxHeartbeats 8000000 in
theorem refUrl_k11 (t s h : ByteArray) (wd : Bool) (sp : Int) (pa : ByteArray) (o : Bool) (s2 h2 : ByteArray) (p : Int) (pa2 q2 : ByteArray) (o3 : Bool) (s3 h3 : ByteArray) (p3 : Int) (pa3 q3 : ByteArray) (m r : Bool) (CC : Hid (∀ W, Calls Tryz.prog 53 #[uV o s2 h2 p pa2 q2] W fun e w' => e = .returned (.bool true) ∧ Below W.heap.size W w')) (CS : Hid (∀ W, Calls Tryz.prog 54 #[.string s, .string s2] W fun e w' => e = .returned (.bool r) ∧ Below W.heap.size W w')) (w : World) (hm : MaxIn w) (ht : TabIn w) : Calls Tryz.prog 35 #[srcV 11 t s h wd sp pa, uV o s2 h2 p pa2 q2, uV o3 s3 h3 p3 pa3 q3, .bool m] w fun e w' => e = .returned (.bool r) ∧ Below w.heap.size w w' := by
  unfold srcV uV at *
  go_enter Tryz.func35, Tryz.ntmps35
  go_wp2_with fail
  obtain ⟨x1, x2, x3, BB⟩ := urlBlocks w 11 t s h wd sp pa o s2 h2 p pa2 q2 o3 s3 h3 p3 pa3 q3
  have mB := ((hm.made (.cells #[.int .i64 11, .string t, .string s, .string h, .bool wd, .int .i64 sp, .string pa] 40)).made (.cells #[.bool o, .string s2, .string h2, .int .i64 p, .string pa2, .string q2] 25)).made (.cells #[.bool o3, .string s3, .string h3, .int .i64 p3, .string pa3, .string q3] 25)
  have tB := ((ht.made (.cells #[.int .i64 11, .string t, .string s, .string h, .bool wd, .int .i64 sp, .string pa] 40)).made (.cells #[.bool o, .string s2, .string h2, .int .i64 p, .string pa2, .string q2] 25)).made (.cells #[.bool o3, .string s3, .string h3, .int .i64 p3, .string pa3, .string q3] 25)
  clear hm ht
  generalize hR : w.heap.size = Ra at x1 x2 x3 BB ⊢
  have HR := Lib.hid hR
  clear hR
  obtain ⟨Rb, hRb⟩ : ∃ Rb, Ra + 1 = Rb := ⟨_, rfl⟩
  rw [hRb] at x2 x3
  try rw [hRb]
  clear hRb
  obtain ⟨Rc, hRb⟩ : ∃ Rc, Rb + 1 = Rc := ⟨_, rfl⟩
  rw [hRb] at x3
  try rw [hRb]
  clear hRb
  generalize ((w.alloc (.cells #[.int .i64 11, .string t, .string s, .string h, .bool wd, .int .i64 sp, .string pa] 40)).alloc (.cells #[.bool o, .string s2, .string h2, .int .i64 p, .string pa2, .string q2] 25)).alloc (.cells #[.bool o3, .string s3, .string h3, .int .i64 p3, .string pa3, .string q3] 25) = w1 at x1 x2 x3 mB tB BB ⊢
  have xRa_w1 := x1
  have xRb_w1 := x2
  have xRc_w1 := x3
  clear x1 x2 x3
  refine (CC.out _ ).mono ?_
  rintro e w2 ⟨rfl, b_⟩
  have mw2 := mB.below b_
  have tw2 := tB.below b_
  have Bw2 := BB.trans (b_.mono (Nat.le_of_lt xRa_w1.lt))
  have xRa_w2 := xRa_w1.below b_
  have xRb_w2 := xRb_w1.below b_
  have xRc_w2 := xRc_w1.below b_
  clear b_ mB tB BB xRa_w1 xRb_w1 xRc_w1
  have dRa0 := xRa_w2.c0
  have dRa1 := xRa_w2.c1
  have dRa2 := xRa_w2.c2
  have dRa3 := xRa_w2.c3
  have dRa4 := xRa_w2.c4
  have dRa5 := xRa_w2.c5
  have dRa6 := xRa_w2.c6
  have dRb0 := xRb_w2.c0
  have dRb1 := xRb_w2.c1
  have dRb2 := xRb_w2.c2
  have dRb3 := xRb_w2.c3
  have dRb4 := xRb_w2.c4
  have dRb5 := xRb_w2.c5
  go_wp2_with fail
  clear dRa0 dRa1 dRa2 dRa3 dRa4 dRa5 dRa6 dRb0 dRb1 dRb2 dRb3 dRb4 dRb5
  refine (CS.out _ ).mono ?_
  rintro e w3 ⟨rfl, b_⟩
  have mw3 := mw2.below b_
  have tw3 := tw2.below b_
  have Bw3 := Bw2.trans (b_.mono (Nat.le_of_lt xRa_w2.lt))
  have xRa_w3 := xRa_w2.below b_
  have xRb_w3 := xRb_w2.below b_
  have xRc_w3 := xRc_w2.below b_
  clear b_ mw2 tw2 Bw2 xRa_w2 xRb_w2 xRc_w2
  go_wp2
  go_ret
  exact ⟨rfl, by rw [HR.out]; exact Bw3⟩


set_option maxRecDepth 100000 in
set_option maxHeartbeats 8000000 in
theorem refUrl_k2 (t s h : ByteArray) (wd : Bool) (sp : Int) (pa : ByteArray) (o : Bool) (s2 h2 : ByteArray) (p : Int) (pa2 q2 : ByteArray) (o3 : Bool) (s3 h3 : ByteArray) (p3 : Int) (pa3 q3 : ByteArray) (m r : Bool) (CC : Hid (∀ W, Calls Tryz.prog 53 #[uV o s2 h2 p pa2 q2] W fun e w' => e = .returned (.bool true) ∧ Below W.heap.size W w')) (CS : Hid (∀ W, MaxIn W → TabIn W → Calls Tryz.prog 55 #[uV o s2 h2 p pa2 q2, uV o3 s3 h3 p3 pa3 q3] W fun e w' => e = .returned (.bool r) ∧ Below W.heap.size W w')) (w : World) (hm : MaxIn w) (ht : TabIn w) : Calls Tryz.prog 35 #[srcV 2 t s h wd sp pa, uV o s2 h2 p pa2 q2, uV o3 s3 h3 p3 pa3 q3, .bool m] w fun e w' => e = .returned (.bool r) ∧ Below w.heap.size w w' := by
  unfold srcV uV at *
  go_enter Tryz.func35, Tryz.ntmps35
  go_wp2_with fail
  obtain ⟨x1, x2, x3, BB⟩ := urlBlocks w 2 t s h wd sp pa o s2 h2 p pa2 q2 o3 s3 h3 p3 pa3 q3
  have mB := ((hm.made (.cells #[.int .i64 2, .string t, .string s, .string h, .bool wd, .int .i64 sp, .string pa] 40)).made (.cells #[.bool o, .string s2, .string h2, .int .i64 p, .string pa2, .string q2] 25)).made (.cells #[.bool o3, .string s3, .string h3, .int .i64 p3, .string pa3, .string q3] 25)
  have tB := ((ht.made (.cells #[.int .i64 2, .string t, .string s, .string h, .bool wd, .int .i64 sp, .string pa] 40)).made (.cells #[.bool o, .string s2, .string h2, .int .i64 p, .string pa2, .string q2] 25)).made (.cells #[.bool o3, .string s3, .string h3, .int .i64 p3, .string pa3, .string q3] 25)
  clear hm ht
  generalize hR : w.heap.size = Ra at x1 x2 x3 BB ⊢
  have HR := Lib.hid hR
  clear hR
  obtain ⟨Rb, hRb⟩ : ∃ Rb, Ra + 1 = Rb := ⟨_, rfl⟩
  rw [hRb] at x2 x3
  try rw [hRb]
  clear hRb
  obtain ⟨Rc, hRb⟩ : ∃ Rc, Rb + 1 = Rc := ⟨_, rfl⟩
  rw [hRb] at x3
  try rw [hRb]
  clear hRb
  generalize ((w.alloc (.cells #[.int .i64 2, .string t, .string s, .string h, .bool wd, .int .i64 sp, .string pa] 40)).alloc (.cells #[.bool o, .string s2, .string h2, .int .i64 p, .string pa2, .string q2] 25)).alloc (.cells #[.bool o3, .string s3, .string h3, .int .i64 p3, .string pa3, .string q3] 25) = w1 at x1 x2 x3 mB tB BB ⊢
  have xRa_w1 := x1
  have xRb_w1 := x2
  have xRc_w1 := x3
  clear x1 x2 x3
  refine (CC.out _ ).mono ?_
  rintro e w2 ⟨rfl, b_⟩
  have mw2 := mB.below b_
  have tw2 := tB.below b_
  have Bw2 := BB.trans (b_.mono (Nat.le_of_lt xRa_w1.lt))
  have xRa_w2 := xRa_w1.below b_
  have xRb_w2 := xRb_w1.below b_
  have xRc_w2 := xRc_w1.below b_
  clear b_ mB tB BB xRa_w1 xRb_w1 xRc_w1
  have dRa0 := xRa_w2.c0
  have dRa1 := xRa_w2.c1
  have dRa2 := xRa_w2.c2
  have dRa3 := xRa_w2.c3
  have dRa4 := xRa_w2.c4
  have dRa5 := xRa_w2.c5
  have dRa6 := xRa_w2.c6
  have dRb0 := xRb_w2.c0
  have dRb1 := xRb_w2.c1
  have dRb2 := xRb_w2.c2
  have dRb3 := xRb_w2.c3
  have dRb4 := xRb_w2.c4
  have dRb5 := xRb_w2.c5
  have dRc0 := xRc_w2.c0
  have dRc1 := xRc_w2.c1
  have dRc2 := xRc_w2.c2
  have dRc3 := xRc_w2.c3
  have dRc4 := xRc_w2.c4
  have dRc5 := xRc_w2.c5
  go_wp2_with fail
  clear dRa0 dRa1 dRa2 dRa3 dRa4 dRa5 dRa6 dRb0 dRb1 dRb2 dRb3 dRb4 dRb5 dRc0 dRc1 dRc2 dRc3 dRc4 dRc5
  refine (CS.out _ mw2 tw2).mono ?_
  rintro e w3 ⟨rfl, b_⟩
  have mw3 := mw2.below b_
  have tw3 := tw2.below b_
  have Bw3 := Bw2.trans (b_.mono (Nat.le_of_lt xRa_w2.lt))
  have xRa_w3 := xRa_w2.below b_
  have xRb_w3 := xRb_w2.below b_
  have xRc_w3 := xRc_w2.below b_
  clear b_ mw2 tw2 Bw2 xRa_w2 xRb_w2 xRc_w2
  go_wp2
  go_ret
  exact ⟨rfl, by rw [HR.out]; exact Bw3⟩


set_option maxRecDepth 100000 in
set_option maxHeartbeats 8000000 in
theorem refUrl_other (k : Int) (t s h : ByteArray) (wd : Bool) (sp : Int) (pa : ByteArray) (o : Bool) (s2 h2 : ByteArray) (p : Int) (pa2 q2 : ByteArray) (o3 : Bool) (s3 h3 : ByteArray) (p3 : Int) (pa3 q3 : ByteArray) (m : Bool) (CC : Hid (∀ W, Calls Tryz.prog 53 #[uV o s2 h2 p pa2 q2] W fun e w' => e = .returned (.bool true) ∧ Below W.heap.size W w')) (n1 : (k == 11) = false) (n2 : (k == 12) = false) (n3 : (k == 2) = false) (w : World) (hm : MaxIn w) (ht : TabIn w) : Calls Tryz.prog 35 #[srcV k t s h wd sp pa, uV o s2 h2 p pa2 q2, uV o3 s3 h3 p3 pa3 q3, .bool m] w fun e w' => e = .returned (.bool false) ∧ Below w.heap.size w w' := by
  unfold srcV uV at *
  go_enter Tryz.func35, Tryz.ntmps35
  go_wp2_with fail
  obtain ⟨x1, x2, x3, BB⟩ := urlBlocks w k t s h wd sp pa o s2 h2 p pa2 q2 o3 s3 h3 p3 pa3 q3
  have mB := ((hm.made (.cells #[.int .i64 k, .string t, .string s, .string h, .bool wd, .int .i64 sp, .string pa] 40)).made (.cells #[.bool o, .string s2, .string h2, .int .i64 p, .string pa2, .string q2] 25)).made (.cells #[.bool o3, .string s3, .string h3, .int .i64 p3, .string pa3, .string q3] 25)
  have tB := ((ht.made (.cells #[.int .i64 k, .string t, .string s, .string h, .bool wd, .int .i64 sp, .string pa] 40)).made (.cells #[.bool o, .string s2, .string h2, .int .i64 p, .string pa2, .string q2] 25)).made (.cells #[.bool o3, .string s3, .string h3, .int .i64 p3, .string pa3, .string q3] 25)
  clear hm ht
  generalize hR : w.heap.size = Ra at x1 x2 x3 BB ⊢
  have HR := Lib.hid hR
  clear hR
  obtain ⟨Rb, hRb⟩ : ∃ Rb, Ra + 1 = Rb := ⟨_, rfl⟩
  rw [hRb] at x2 x3
  try rw [hRb]
  clear hRb
  obtain ⟨Rc, hRb⟩ : ∃ Rc, Rb + 1 = Rc := ⟨_, rfl⟩
  rw [hRb] at x3
  try rw [hRb]
  clear hRb
  generalize ((w.alloc (.cells #[.int .i64 k, .string t, .string s, .string h, .bool wd, .int .i64 sp, .string pa] 40)).alloc (.cells #[.bool o, .string s2, .string h2, .int .i64 p, .string pa2, .string q2] 25)).alloc (.cells #[.bool o3, .string s3, .string h3, .int .i64 p3, .string pa3, .string q3] 25) = w1 at x1 x2 x3 mB tB BB ⊢
  have xRa_w1 := x1
  have xRb_w1 := x2
  have xRc_w1 := x3
  clear x1 x2 x3
  refine (CC.out _ ).mono ?_
  rintro e w2 ⟨rfl, b_⟩
  have mw2 := mB.below b_
  have tw2 := tB.below b_
  have Bw2 := BB.trans (b_.mono (Nat.le_of_lt xRa_w1.lt))
  have xRa_w2 := xRa_w1.below b_
  have xRb_w2 := xRb_w1.below b_
  have xRc_w2 := xRc_w1.below b_
  clear b_ mB tB BB xRa_w1 xRb_w1 xRc_w1
  have dRa0 := xRa_w2.c0
  have dRa1 := xRa_w2.c1
  have dRa2 := xRa_w2.c2
  have dRa3 := xRa_w2.c3
  have dRa4 := xRa_w2.c4
  have dRa5 := xRa_w2.c5
  have dRa6 := xRa_w2.c6
  go_wp2
  clear dRa0 dRa1 dRa2 dRa3 dRa4 dRa5 dRa6
  go_ret
  exact ⟨rfl, by rw [HR.out]; exact Bw2⟩


set_option maxRecDepth 100000 in
set_option maxHeartbeats 8000000 in
theorem refUrl_h0f (t s h : ByteArray) (wd : Bool) (sp : Int) (pa : ByteArray) (s2 h2 : ByteArray) (p : Int) (pa2 q2 : ByteArray) (o3 : Bool) (s3 h3 : ByteArray) (p3 : Int) (pa3 q3 : ByteArray) (m : Bool) (CC : Hid (∀ W, Calls Tryz.prog 53 #[uV true s2 h2 p pa2 q2] W fun e w' => e = .returned (.bool true) ∧ Below W.heap.size W w')) (g : s.toList.isEmpty = false) (w : World) (hm : MaxIn w) (ht : TabIn w) : Calls Tryz.prog 35 #[srcV 12 t s h wd sp pa, uV true s2 h2 p pa2 q2, uV o3 s3 h3 p3 pa3 q3, .bool m] w fun e w' => e = .returned (.bool false) ∧ Below w.heap.size w w' := by
  unfold srcV uV at *
  go_enter Tryz.func35, Tryz.ntmps35
  go_wp2_with fail
  obtain ⟨x1, x2, x3, BB⟩ := urlBlocks w 12 t s h wd sp pa true s2 h2 p pa2 q2 o3 s3 h3 p3 pa3 q3
  have mB := ((hm.made (.cells #[.int .i64 12, .string t, .string s, .string h, .bool wd, .int .i64 sp, .string pa] 40)).made (.cells #[.bool true, .string s2, .string h2, .int .i64 p, .string pa2, .string q2] 25)).made (.cells #[.bool o3, .string s3, .string h3, .int .i64 p3, .string pa3, .string q3] 25)
  have tB := ((ht.made (.cells #[.int .i64 12, .string t, .string s, .string h, .bool wd, .int .i64 sp, .string pa] 40)).made (.cells #[.bool true, .string s2, .string h2, .int .i64 p, .string pa2, .string q2] 25)).made (.cells #[.bool o3, .string s3, .string h3, .int .i64 p3, .string pa3, .string q3] 25)
  clear hm ht
  generalize hR : w.heap.size = Ra at x1 x2 x3 BB ⊢
  have HR := Lib.hid hR
  clear hR
  obtain ⟨Rb, hRb⟩ : ∃ Rb, Ra + 1 = Rb := ⟨_, rfl⟩
  rw [hRb] at x2 x3
  try rw [hRb]
  clear hRb
  obtain ⟨Rc, hRb⟩ : ∃ Rc, Rb + 1 = Rc := ⟨_, rfl⟩
  rw [hRb] at x3
  try rw [hRb]
  clear hRb
  generalize ((w.alloc (.cells #[.int .i64 12, .string t, .string s, .string h, .bool wd, .int .i64 sp, .string pa] 40)).alloc (.cells #[.bool true, .string s2, .string h2, .int .i64 p, .string pa2, .string q2] 25)).alloc (.cells #[.bool o3, .string s3, .string h3, .int .i64 p3, .string pa3, .string q3] 25) = w1 at x1 x2 x3 mB tB BB ⊢
  have xRa_w1 := x1
  have xRb_w1 := x2
  have xRc_w1 := x3
  clear x1 x2 x3
  refine (CC.out _ ).mono ?_
  rintro e w2 ⟨rfl, b_⟩
  have mw2 := mB.below b_
  have tw2 := tB.below b_
  have Bw2 := BB.trans (b_.mono (Nat.le_of_lt xRa_w1.lt))
  have xRa_w2 := xRa_w1.below b_
  have xRb_w2 := xRb_w1.below b_
  have xRc_w2 := xRc_w1.below b_
  clear b_ mB tB BB xRa_w1 xRb_w1 xRc_w1
  have dRa0 := xRa_w2.c0
  have dRa1 := xRa_w2.c1
  have dRa2 := xRa_w2.c2
  have dRa3 := xRa_w2.c3
  have dRa4 := xRa_w2.c4
  have dRa5 := xRa_w2.c5
  have dRa6 := xRa_w2.c6
  have dRb0 := xRb_w2.c0
  have dRb1 := xRb_w2.c1
  have dRb2 := xRb_w2.c2
  have dRb3 := xRb_w2.c3
  have dRb4 := xRb_w2.c4
  have dRb5 := xRb_w2.c5
  have dRc0 := xRc_w2.c0
  have dRc1 := xRc_w2.c1
  have dRc2 := xRc_w2.c2
  have dRc3 := xRc_w2.c3
  have dRc4 := xRc_w2.c4
  have dRc5 := xRc_w2.c5
  go_wp2
  clear dRa0 dRa1 dRa2 dRa3 dRa4 dRa5 dRa6 dRb0 dRb1 dRb2 dRb3 dRb4 dRb5 dRc0 dRc1 dRc2 dRc3 dRc4 dRc5
  go_ret
  exact ⟨rfl, by rw [HR.out]; exact Bw2⟩


set_option maxRecDepth 100000 in
set_option maxHeartbeats 8000000 in
theorem refUrl_h1f (t s h : ByteArray) (wd : Bool) (sp : Int) (pa : ByteArray) (s2 h2 : ByteArray) (p : Int) (pa2 q2 : ByteArray) (o3 : Bool) (s3 h3 : ByteArray) (p3 : Int) (pa3 q3 : ByteArray) (m : Bool) (CC : Hid (∀ W, Calls Tryz.prog 53 #[uV false s2 h2 p pa2 q2] W fun e w' => e = .returned (.bool true) ∧ Below W.heap.size W w')) (g : s.toList.isEmpty = false) (C1 : Hid (∀ W, Calls Tryz.prog 54 #[.string s, .string s2] W fun e w' => e = .returned (.bool false) ∧ Below W.heap.size W w')) (w : World) (hm : MaxIn w) (ht : TabIn w) : Calls Tryz.prog 35 #[srcV 12 t s h wd sp pa, uV false s2 h2 p pa2 q2, uV o3 s3 h3 p3 pa3 q3, .bool m] w fun e w' => e = .returned (.bool false) ∧ Below w.heap.size w w' := by
  unfold srcV uV at *
  go_enter Tryz.func35, Tryz.ntmps35
  go_wp2_with fail
  obtain ⟨x1, x2, x3, BB⟩ := urlBlocks w 12 t s h wd sp pa false s2 h2 p pa2 q2 o3 s3 h3 p3 pa3 q3
  have mB := ((hm.made (.cells #[.int .i64 12, .string t, .string s, .string h, .bool wd, .int .i64 sp, .string pa] 40)).made (.cells #[.bool false, .string s2, .string h2, .int .i64 p, .string pa2, .string q2] 25)).made (.cells #[.bool o3, .string s3, .string h3, .int .i64 p3, .string pa3, .string q3] 25)
  have tB := ((ht.made (.cells #[.int .i64 12, .string t, .string s, .string h, .bool wd, .int .i64 sp, .string pa] 40)).made (.cells #[.bool false, .string s2, .string h2, .int .i64 p, .string pa2, .string q2] 25)).made (.cells #[.bool o3, .string s3, .string h3, .int .i64 p3, .string pa3, .string q3] 25)
  clear hm ht
  generalize hR : w.heap.size = Ra at x1 x2 x3 BB ⊢
  have HR := Lib.hid hR
  clear hR
  obtain ⟨Rb, hRb⟩ : ∃ Rb, Ra + 1 = Rb := ⟨_, rfl⟩
  rw [hRb] at x2 x3
  try rw [hRb]
  clear hRb
  obtain ⟨Rc, hRb⟩ : ∃ Rc, Rb + 1 = Rc := ⟨_, rfl⟩
  rw [hRb] at x3
  try rw [hRb]
  clear hRb
  generalize ((w.alloc (.cells #[.int .i64 12, .string t, .string s, .string h, .bool wd, .int .i64 sp, .string pa] 40)).alloc (.cells #[.bool false, .string s2, .string h2, .int .i64 p, .string pa2, .string q2] 25)).alloc (.cells #[.bool o3, .string s3, .string h3, .int .i64 p3, .string pa3, .string q3] 25) = w1 at x1 x2 x3 mB tB BB ⊢
  have xRa_w1 := x1
  have xRb_w1 := x2
  have xRc_w1 := x3
  clear x1 x2 x3
  refine (CC.out _ ).mono ?_
  rintro e w2 ⟨rfl, b_⟩
  have mw2 := mB.below b_
  have tw2 := tB.below b_
  have Bw2 := BB.trans (b_.mono (Nat.le_of_lt xRa_w1.lt))
  have xRa_w2 := xRa_w1.below b_
  have xRb_w2 := xRb_w1.below b_
  have xRc_w2 := xRc_w1.below b_
  clear b_ mB tB BB xRa_w1 xRb_w1 xRc_w1
  have dRa0 := xRa_w2.c0
  have dRa1 := xRa_w2.c1
  have dRa2 := xRa_w2.c2
  have dRa3 := xRa_w2.c3
  have dRa4 := xRa_w2.c4
  have dRa5 := xRa_w2.c5
  have dRa6 := xRa_w2.c6
  have dRb0 := xRb_w2.c0
  have dRb1 := xRb_w2.c1
  have dRb2 := xRb_w2.c2
  have dRb3 := xRb_w2.c3
  have dRb4 := xRb_w2.c4
  have dRb5 := xRb_w2.c5
  have dRc0 := xRc_w2.c0
  have dRc1 := xRc_w2.c1
  have dRc2 := xRc_w2.c2
  have dRc3 := xRc_w2.c3
  have dRc4 := xRc_w2.c4
  have dRc5 := xRc_w2.c5
  go_wp2_with fail
  clear dRa0 dRa1 dRa2 dRa3 dRa4 dRa5 dRa6 dRb0 dRb1 dRb2 dRb3 dRb4 dRb5 dRc0 dRc1 dRc2 dRc3 dRc4 dRc5
  refine (C1.out _ ).mono ?_
  rintro e w3 ⟨rfl, b_⟩
  have mw3 := mw2.below b_
  have tw3 := tw2.below b_
  have Bw3 := Bw2.trans (b_.mono (Nat.le_of_lt xRa_w2.lt))
  have xRa_w3 := xRa_w2.below b_
  have xRb_w3 := xRb_w2.below b_
  have xRc_w3 := xRc_w2.below b_
  clear b_ mw2 tw2 Bw2 xRa_w2 xRb_w2 xRc_w2
  have dRa0 := xRa_w3.c0
  have dRa1 := xRa_w3.c1
  have dRa2 := xRa_w3.c2
  have dRa3 := xRa_w3.c3
  have dRa4 := xRa_w3.c4
  have dRa5 := xRa_w3.c5
  have dRa6 := xRa_w3.c6
  have dRb0 := xRb_w3.c0
  have dRb1 := xRb_w3.c1
  have dRb2 := xRb_w3.c2
  have dRb3 := xRb_w3.c3
  have dRb4 := xRb_w3.c4
  have dRb5 := xRb_w3.c5
  have dRc0 := xRc_w3.c0
  have dRc1 := xRc_w3.c1
  have dRc2 := xRc_w3.c2
  have dRc3 := xRc_w3.c3
  have dRc4 := xRc_w3.c4
  have dRc5 := xRc_w3.c5
  go_wp2
  clear dRa0 dRa1 dRa2 dRa3 dRa4 dRa5 dRa6 dRb0 dRb1 dRb2 dRb3 dRb4 dRb5 dRc0 dRc1 dRc2 dRc3 dRc4 dRc5
  go_ret
  exact ⟨rfl, by rw [HR.out]; exact Bw3⟩


set_option maxRecDepth 100000 in
set_option maxHeartbeats 8000000 in
theorem refUrl_h2f (t s h : ByteArray) (wd : Bool) (sp : Int) (pa : ByteArray) (s2 h2 : ByteArray) (p : Int) (pa2 q2 : ByteArray) (o3 : Bool) (s3 h3 : ByteArray) (p3 : Int) (pa3 q3 : ByteArray) (m : Bool) (CC : Hid (∀ W, Calls Tryz.prog 53 #[uV false s2 h2 p pa2 q2] W fun e w' => e = .returned (.bool true) ∧ Below W.heap.size W w')) (g : s.toList.isEmpty = false) (C1 : Hid (∀ W, Calls Tryz.prog 54 #[.string s, .string s2] W fun e w' => e = .returned (.bool true) ∧ Below W.heap.size W w')) (C2 : Hid (∀ W, Calls Tryz.prog 56 #[srcV 12 t s h wd sp pa, .string h2] W fun e w' => e = .returned (.bool false) ∧ Below W.heap.size W w')) (w : World) (hm : MaxIn w) (ht : TabIn w) : Calls Tryz.prog 35 #[srcV 12 t s h wd sp pa, uV false s2 h2 p pa2 q2, uV o3 s3 h3 p3 pa3 q3, .bool m] w fun e w' => e = .returned (.bool false) ∧ Below w.heap.size w w' := by
  unfold srcV uV at *
  go_enter Tryz.func35, Tryz.ntmps35
  go_wp2_with fail
  obtain ⟨x1, x2, x3, BB⟩ := urlBlocks w 12 t s h wd sp pa false s2 h2 p pa2 q2 o3 s3 h3 p3 pa3 q3
  have mB := ((hm.made (.cells #[.int .i64 12, .string t, .string s, .string h, .bool wd, .int .i64 sp, .string pa] 40)).made (.cells #[.bool false, .string s2, .string h2, .int .i64 p, .string pa2, .string q2] 25)).made (.cells #[.bool o3, .string s3, .string h3, .int .i64 p3, .string pa3, .string q3] 25)
  have tB := ((ht.made (.cells #[.int .i64 12, .string t, .string s, .string h, .bool wd, .int .i64 sp, .string pa] 40)).made (.cells #[.bool false, .string s2, .string h2, .int .i64 p, .string pa2, .string q2] 25)).made (.cells #[.bool o3, .string s3, .string h3, .int .i64 p3, .string pa3, .string q3] 25)
  clear hm ht
  generalize hR : w.heap.size = Ra at x1 x2 x3 BB ⊢
  have HR := Lib.hid hR
  clear hR
  obtain ⟨Rb, hRb⟩ : ∃ Rb, Ra + 1 = Rb := ⟨_, rfl⟩
  rw [hRb] at x2 x3
  try rw [hRb]
  clear hRb
  obtain ⟨Rc, hRb⟩ : ∃ Rc, Rb + 1 = Rc := ⟨_, rfl⟩
  rw [hRb] at x3
  try rw [hRb]
  clear hRb
  generalize ((w.alloc (.cells #[.int .i64 12, .string t, .string s, .string h, .bool wd, .int .i64 sp, .string pa] 40)).alloc (.cells #[.bool false, .string s2, .string h2, .int .i64 p, .string pa2, .string q2] 25)).alloc (.cells #[.bool o3, .string s3, .string h3, .int .i64 p3, .string pa3, .string q3] 25) = w1 at x1 x2 x3 mB tB BB ⊢
  have xRa_w1 := x1
  have xRb_w1 := x2
  have xRc_w1 := x3
  clear x1 x2 x3
  refine (CC.out _ ).mono ?_
  rintro e w2 ⟨rfl, b_⟩
  have mw2 := mB.below b_
  have tw2 := tB.below b_
  have Bw2 := BB.trans (b_.mono (Nat.le_of_lt xRa_w1.lt))
  have xRa_w2 := xRa_w1.below b_
  have xRb_w2 := xRb_w1.below b_
  have xRc_w2 := xRc_w1.below b_
  clear b_ mB tB BB xRa_w1 xRb_w1 xRc_w1
  have dRa0 := xRa_w2.c0
  have dRa1 := xRa_w2.c1
  have dRa2 := xRa_w2.c2
  have dRa3 := xRa_w2.c3
  have dRa4 := xRa_w2.c4
  have dRa5 := xRa_w2.c5
  have dRa6 := xRa_w2.c6
  have dRb0 := xRb_w2.c0
  have dRb1 := xRb_w2.c1
  have dRb2 := xRb_w2.c2
  have dRb3 := xRb_w2.c3
  have dRb4 := xRb_w2.c4
  have dRb5 := xRb_w2.c5
  have dRc0 := xRc_w2.c0
  have dRc1 := xRc_w2.c1
  have dRc2 := xRc_w2.c2
  have dRc3 := xRc_w2.c3
  have dRc4 := xRc_w2.c4
  have dRc5 := xRc_w2.c5
  go_wp2_with fail
  clear dRa0 dRa1 dRa2 dRa3 dRa4 dRa5 dRa6 dRb0 dRb1 dRb2 dRb3 dRb4 dRb5 dRc0 dRc1 dRc2 dRc3 dRc4 dRc5
  refine (C1.out _ ).mono ?_
  rintro e w3 ⟨rfl, b_⟩
  have mw3 := mw2.below b_
  have tw3 := tw2.below b_
  have Bw3 := Bw2.trans (b_.mono (Nat.le_of_lt xRa_w2.lt))
  have xRa_w3 := xRa_w2.below b_
  have xRb_w3 := xRb_w2.below b_
  have xRc_w3 := xRc_w2.below b_
  clear b_ mw2 tw2 Bw2 xRa_w2 xRb_w2 xRc_w2
  have dRa0 := xRa_w3.c0
  have dRa1 := xRa_w3.c1
  have dRa2 := xRa_w3.c2
  have dRa3 := xRa_w3.c3
  have dRa4 := xRa_w3.c4
  have dRa5 := xRa_w3.c5
  have dRa6 := xRa_w3.c6
  have dRb0 := xRb_w3.c0
  have dRb1 := xRb_w3.c1
  have dRb2 := xRb_w3.c2
  have dRb3 := xRb_w3.c3
  have dRb4 := xRb_w3.c4
  have dRb5 := xRb_w3.c5
  have dRc0 := xRc_w3.c0
  have dRc1 := xRc_w3.c1
  have dRc2 := xRc_w3.c2
  have dRc3 := xRc_w3.c3
  have dRc4 := xRc_w3.c4
  have dRc5 := xRc_w3.c5
  go_wp2_with fail
  clear dRa0 dRa1 dRa2 dRa3 dRa4 dRa5 dRa6 dRb0 dRb1 dRb2 dRb3 dRb4 dRb5 dRc0 dRc1 dRc2 dRc3 dRc4 dRc5
  refine (C2.out _ ).mono ?_
  rintro e w4 ⟨rfl, b_⟩
  have mw4 := mw3.below b_
  have tw4 := tw3.below b_
  have Bw4 := Bw3.trans (b_.mono (Nat.le_of_lt xRa_w3.lt))
  have xRa_w4 := xRa_w3.below b_
  have xRb_w4 := xRb_w3.below b_
  have xRc_w4 := xRc_w3.below b_
  clear b_ mw3 tw3 Bw3 xRa_w3 xRb_w3 xRc_w3
  have dRa0 := xRa_w4.c0
  have dRa1 := xRa_w4.c1
  have dRa2 := xRa_w4.c2
  have dRa3 := xRa_w4.c3
  have dRa4 := xRa_w4.c4
  have dRa5 := xRa_w4.c5
  have dRa6 := xRa_w4.c6
  have dRb0 := xRb_w4.c0
  have dRb1 := xRb_w4.c1
  have dRb2 := xRb_w4.c2
  have dRb3 := xRb_w4.c3
  have dRb4 := xRb_w4.c4
  have dRb5 := xRb_w4.c5
  have dRc0 := xRc_w4.c0
  have dRc1 := xRc_w4.c1
  have dRc2 := xRc_w4.c2
  have dRc3 := xRc_w4.c3
  have dRc4 := xRc_w4.c4
  have dRc5 := xRc_w4.c5
  go_wp2
  clear dRa0 dRa1 dRa2 dRa3 dRa4 dRa5 dRa6 dRb0 dRb1 dRb2 dRb3 dRb4 dRb5 dRc0 dRc1 dRc2 dRc3 dRc4 dRc5
  go_ret
  exact ⟨rfl, by rw [HR.out]; exact Bw4⟩


set_option maxRecDepth 100000 in
set_option maxHeartbeats 8000000 in
theorem refUrl_h3f (t s h : ByteArray) (wd : Bool) (sp : Int) (pa : ByteArray) (s2 h2 : ByteArray) (p : Int) (pa2 q2 : ByteArray) (o3 : Bool) (s3 h3 : ByteArray) (p3 : Int) (pa3 q3 : ByteArray) (m : Bool) (CC : Hid (∀ W, Calls Tryz.prog 53 #[uV false s2 h2 p pa2 q2] W fun e w' => e = .returned (.bool true) ∧ Below W.heap.size W w')) (g : s.toList.isEmpty = false) (C1 : Hid (∀ W, Calls Tryz.prog 54 #[.string s, .string s2] W fun e w' => e = .returned (.bool true) ∧ Below W.heap.size W w')) (C2 : Hid (∀ W, Calls Tryz.prog 56 #[srcV 12 t s h wd sp pa, .string h2] W fun e w' => e = .returned (.bool true) ∧ Below W.heap.size W w')) (C3 : Hid (∀ W, Calls Tryz.prog 57 #[srcV 12 t s h wd sp pa, uV false s2 h2 p pa2 q2] W fun e w' => e = .returned (.bool false) ∧ Below W.heap.size W w')) (w : World) (hm : MaxIn w) (ht : TabIn w) : Calls Tryz.prog 35 #[srcV 12 t s h wd sp pa, uV false s2 h2 p pa2 q2, uV o3 s3 h3 p3 pa3 q3, .bool m] w fun e w' => e = .returned (.bool false) ∧ Below w.heap.size w w' := by
  unfold srcV uV at *
  go_enter Tryz.func35, Tryz.ntmps35
  go_wp2_with fail
  obtain ⟨x1, x2, x3, BB⟩ := urlBlocks w 12 t s h wd sp pa false s2 h2 p pa2 q2 o3 s3 h3 p3 pa3 q3
  have mB := ((hm.made (.cells #[.int .i64 12, .string t, .string s, .string h, .bool wd, .int .i64 sp, .string pa] 40)).made (.cells #[.bool false, .string s2, .string h2, .int .i64 p, .string pa2, .string q2] 25)).made (.cells #[.bool o3, .string s3, .string h3, .int .i64 p3, .string pa3, .string q3] 25)
  have tB := ((ht.made (.cells #[.int .i64 12, .string t, .string s, .string h, .bool wd, .int .i64 sp, .string pa] 40)).made (.cells #[.bool false, .string s2, .string h2, .int .i64 p, .string pa2, .string q2] 25)).made (.cells #[.bool o3, .string s3, .string h3, .int .i64 p3, .string pa3, .string q3] 25)
  clear hm ht
  generalize hR : w.heap.size = Ra at x1 x2 x3 BB ⊢
  have HR := Lib.hid hR
  clear hR
  obtain ⟨Rb, hRb⟩ : ∃ Rb, Ra + 1 = Rb := ⟨_, rfl⟩
  rw [hRb] at x2 x3
  try rw [hRb]
  clear hRb
  obtain ⟨Rc, hRb⟩ : ∃ Rc, Rb + 1 = Rc := ⟨_, rfl⟩
  rw [hRb] at x3
  try rw [hRb]
  clear hRb
  generalize ((w.alloc (.cells #[.int .i64 12, .string t, .string s, .string h, .bool wd, .int .i64 sp, .string pa] 40)).alloc (.cells #[.bool false, .string s2, .string h2, .int .i64 p, .string pa2, .string q2] 25)).alloc (.cells #[.bool o3, .string s3, .string h3, .int .i64 p3, .string pa3, .string q3] 25) = w1 at x1 x2 x3 mB tB BB ⊢
  have xRa_w1 := x1
  have xRb_w1 := x2
  have xRc_w1 := x3
  clear x1 x2 x3
  refine (CC.out _ ).mono ?_
  rintro e w2 ⟨rfl, b_⟩
  have mw2 := mB.below b_
  have tw2 := tB.below b_
  have Bw2 := BB.trans (b_.mono (Nat.le_of_lt xRa_w1.lt))
  have xRa_w2 := xRa_w1.below b_
  have xRb_w2 := xRb_w1.below b_
  have xRc_w2 := xRc_w1.below b_
  clear b_ mB tB BB xRa_w1 xRb_w1 xRc_w1
  have dRa0 := xRa_w2.c0
  have dRa1 := xRa_w2.c1
  have dRa2 := xRa_w2.c2
  have dRa3 := xRa_w2.c3
  have dRa4 := xRa_w2.c4
  have dRa5 := xRa_w2.c5
  have dRa6 := xRa_w2.c6
  have dRb0 := xRb_w2.c0
  have dRb1 := xRb_w2.c1
  have dRb2 := xRb_w2.c2
  have dRb3 := xRb_w2.c3
  have dRb4 := xRb_w2.c4
  have dRb5 := xRb_w2.c5
  have dRc0 := xRc_w2.c0
  have dRc1 := xRc_w2.c1
  have dRc2 := xRc_w2.c2
  have dRc3 := xRc_w2.c3
  have dRc4 := xRc_w2.c4
  have dRc5 := xRc_w2.c5
  go_wp2_with fail
  clear dRa0 dRa1 dRa2 dRa3 dRa4 dRa5 dRa6 dRb0 dRb1 dRb2 dRb3 dRb4 dRb5 dRc0 dRc1 dRc2 dRc3 dRc4 dRc5
  refine (C1.out _ ).mono ?_
  rintro e w3 ⟨rfl, b_⟩
  have mw3 := mw2.below b_
  have tw3 := tw2.below b_
  have Bw3 := Bw2.trans (b_.mono (Nat.le_of_lt xRa_w2.lt))
  have xRa_w3 := xRa_w2.below b_
  have xRb_w3 := xRb_w2.below b_
  have xRc_w3 := xRc_w2.below b_
  clear b_ mw2 tw2 Bw2 xRa_w2 xRb_w2 xRc_w2
  have dRa0 := xRa_w3.c0
  have dRa1 := xRa_w3.c1
  have dRa2 := xRa_w3.c2
  have dRa3 := xRa_w3.c3
  have dRa4 := xRa_w3.c4
  have dRa5 := xRa_w3.c5
  have dRa6 := xRa_w3.c6
  have dRb0 := xRb_w3.c0
  have dRb1 := xRb_w3.c1
  have dRb2 := xRb_w3.c2
  have dRb3 := xRb_w3.c3
  have dRb4 := xRb_w3.c4
  have dRb5 := xRb_w3.c5
  have dRc0 := xRc_w3.c0
  have dRc1 := xRc_w3.c1
  have dRc2 := xRc_w3.c2
  have dRc3 := xRc_w3.c3
  have dRc4 := xRc_w3.c4
  have dRc5 := xRc_w3.c5
  go_wp2_with fail
  clear dRa0 dRa1 dRa2 dRa3 dRa4 dRa5 dRa6 dRb0 dRb1 dRb2 dRb3 dRb4 dRb5 dRc0 dRc1 dRc2 dRc3 dRc4 dRc5
  refine (C2.out _ ).mono ?_
  rintro e w4 ⟨rfl, b_⟩
  have mw4 := mw3.below b_
  have tw4 := tw3.below b_
  have Bw4 := Bw3.trans (b_.mono (Nat.le_of_lt xRa_w3.lt))
  have xRa_w4 := xRa_w3.below b_
  have xRb_w4 := xRb_w3.below b_
  have xRc_w4 := xRc_w3.below b_
  clear b_ mw3 tw3 Bw3 xRa_w3 xRb_w3 xRc_w3
  have dRa0 := xRa_w4.c0
  have dRa1 := xRa_w4.c1
  have dRa2 := xRa_w4.c2
  have dRa3 := xRa_w4.c3
  have dRa4 := xRa_w4.c4
  have dRa5 := xRa_w4.c5
  have dRa6 := xRa_w4.c6
  have dRb0 := xRb_w4.c0
  have dRb1 := xRb_w4.c1
  have dRb2 := xRb_w4.c2
  have dRb3 := xRb_w4.c3
  have dRb4 := xRb_w4.c4
  have dRb5 := xRb_w4.c5
  have dRc0 := xRc_w4.c0
  have dRc1 := xRc_w4.c1
  have dRc2 := xRc_w4.c2
  have dRc3 := xRc_w4.c3
  have dRc4 := xRc_w4.c4
  have dRc5 := xRc_w4.c5
  go_wp2_with fail
  clear dRa0 dRa1 dRa2 dRa3 dRa4 dRa5 dRa6 dRb0 dRb1 dRb2 dRb3 dRb4 dRb5 dRc0 dRc1 dRc2 dRc3 dRc4 dRc5
  refine (C3.out _ ).mono ?_
  rintro e w5 ⟨rfl, b_⟩
  have mw5 := mw4.below b_
  have tw5 := tw4.below b_
  have Bw5 := Bw4.trans (b_.mono (Nat.le_of_lt xRa_w4.lt))
  have xRa_w5 := xRa_w4.below b_
  have xRb_w5 := xRb_w4.below b_
  have xRc_w5 := xRc_w4.below b_
  clear b_ mw4 tw4 Bw4 xRa_w4 xRb_w4 xRc_w4
  have dRa0 := xRa_w5.c0
  have dRa1 := xRa_w5.c1
  have dRa2 := xRa_w5.c2
  have dRa3 := xRa_w5.c3
  have dRa4 := xRa_w5.c4
  have dRa5 := xRa_w5.c5
  have dRa6 := xRa_w5.c6
  have dRb0 := xRb_w5.c0
  have dRb1 := xRb_w5.c1
  have dRb2 := xRb_w5.c2
  have dRb3 := xRb_w5.c3
  have dRb4 := xRb_w5.c4
  have dRb5 := xRb_w5.c5
  have dRc0 := xRc_w5.c0
  have dRc1 := xRc_w5.c1
  have dRc2 := xRc_w5.c2
  have dRc3 := xRc_w5.c3
  have dRc4 := xRc_w5.c4
  have dRc5 := xRc_w5.c5
  go_wp2
  clear dRa0 dRa1 dRa2 dRa3 dRa4 dRa5 dRa6 dRb0 dRb1 dRb2 dRb3 dRb4 dRb5 dRc0 dRc1 dRc2 dRc3 dRc4 dRc5
  go_ret
  exact ⟨rfl, by rw [HR.out]; exact Bw5⟩


set_option maxRecDepth 100000 in
set_option maxHeartbeats 8000000 in
theorem refUrl_h4f (t s h : ByteArray) (wd : Bool) (sp : Int) (pa : ByteArray) (s2 h2 : ByteArray) (p : Int) (pa2 q2 : ByteArray) (o3 : Bool) (s3 h3 : ByteArray) (p3 : Int) (pa3 q3 : ByteArray) (m r : Bool) (CC : Hid (∀ W, Calls Tryz.prog 53 #[uV false s2 h2 p pa2 q2] W fun e w' => e = .returned (.bool true) ∧ Below W.heap.size W w')) (g : s.toList.isEmpty = false) (C1 : Hid (∀ W, Calls Tryz.prog 54 #[.string s, .string s2] W fun e w' => e = .returned (.bool true) ∧ Below W.heap.size W w')) (C2 : Hid (∀ W, Calls Tryz.prog 56 #[srcV 12 t s h wd sp pa, .string h2] W fun e w' => e = .returned (.bool true) ∧ Below W.heap.size W w')) (C3 : Hid (∀ W, Calls Tryz.prog 57 #[srcV 12 t s h wd sp pa, uV false s2 h2 p pa2 q2] W fun e w' => e = .returned (.bool true) ∧ Below W.heap.size W w')) (C4 : Hid (∀ W, Calls Tryz.prog 58 #[.string pa, .string pa2, .bool m] W fun e w' => e = .returned (.bool r) ∧ Below W.heap.size W w')) (w : World) (hm : MaxIn w) (ht : TabIn w) : Calls Tryz.prog 35 #[srcV 12 t s h wd sp pa, uV false s2 h2 p pa2 q2, uV o3 s3 h3 p3 pa3 q3, .bool m] w fun e w' => e = .returned (.bool r) ∧ Below w.heap.size w w' := by
  unfold srcV uV at *
  go_enter Tryz.func35, Tryz.ntmps35
  go_wp2_with fail
  obtain ⟨x1, x2, x3, BB⟩ := urlBlocks w 12 t s h wd sp pa false s2 h2 p pa2 q2 o3 s3 h3 p3 pa3 q3
  have mB := ((hm.made (.cells #[.int .i64 12, .string t, .string s, .string h, .bool wd, .int .i64 sp, .string pa] 40)).made (.cells #[.bool false, .string s2, .string h2, .int .i64 p, .string pa2, .string q2] 25)).made (.cells #[.bool o3, .string s3, .string h3, .int .i64 p3, .string pa3, .string q3] 25)
  have tB := ((ht.made (.cells #[.int .i64 12, .string t, .string s, .string h, .bool wd, .int .i64 sp, .string pa] 40)).made (.cells #[.bool false, .string s2, .string h2, .int .i64 p, .string pa2, .string q2] 25)).made (.cells #[.bool o3, .string s3, .string h3, .int .i64 p3, .string pa3, .string q3] 25)
  clear hm ht
  generalize hR : w.heap.size = Ra at x1 x2 x3 BB ⊢
  have HR := Lib.hid hR
  clear hR
  obtain ⟨Rb, hRb⟩ : ∃ Rb, Ra + 1 = Rb := ⟨_, rfl⟩
  rw [hRb] at x2 x3
  try rw [hRb]
  clear hRb
  obtain ⟨Rc, hRb⟩ : ∃ Rc, Rb + 1 = Rc := ⟨_, rfl⟩
  rw [hRb] at x3
  try rw [hRb]
  clear hRb
  generalize ((w.alloc (.cells #[.int .i64 12, .string t, .string s, .string h, .bool wd, .int .i64 sp, .string pa] 40)).alloc (.cells #[.bool false, .string s2, .string h2, .int .i64 p, .string pa2, .string q2] 25)).alloc (.cells #[.bool o3, .string s3, .string h3, .int .i64 p3, .string pa3, .string q3] 25) = w1 at x1 x2 x3 mB tB BB ⊢
  have xRa_w1 := x1
  have xRb_w1 := x2
  have xRc_w1 := x3
  clear x1 x2 x3
  refine (CC.out _ ).mono ?_
  rintro e w2 ⟨rfl, b_⟩
  have mw2 := mB.below b_
  have tw2 := tB.below b_
  have Bw2 := BB.trans (b_.mono (Nat.le_of_lt xRa_w1.lt))
  have xRa_w2 := xRa_w1.below b_
  have xRb_w2 := xRb_w1.below b_
  have xRc_w2 := xRc_w1.below b_
  clear b_ mB tB BB xRa_w1 xRb_w1 xRc_w1
  have dRa0 := xRa_w2.c0
  have dRa1 := xRa_w2.c1
  have dRa2 := xRa_w2.c2
  have dRa3 := xRa_w2.c3
  have dRa4 := xRa_w2.c4
  have dRa5 := xRa_w2.c5
  have dRa6 := xRa_w2.c6
  have dRb0 := xRb_w2.c0
  have dRb1 := xRb_w2.c1
  have dRb2 := xRb_w2.c2
  have dRb3 := xRb_w2.c3
  have dRb4 := xRb_w2.c4
  have dRb5 := xRb_w2.c5
  have dRc0 := xRc_w2.c0
  have dRc1 := xRc_w2.c1
  have dRc2 := xRc_w2.c2
  have dRc3 := xRc_w2.c3
  have dRc4 := xRc_w2.c4
  have dRc5 := xRc_w2.c5
  go_wp2_with fail
  clear dRa0 dRa1 dRa2 dRa3 dRa4 dRa5 dRa6 dRb0 dRb1 dRb2 dRb3 dRb4 dRb5 dRc0 dRc1 dRc2 dRc3 dRc4 dRc5
  refine (C1.out _ ).mono ?_
  rintro e w3 ⟨rfl, b_⟩
  have mw3 := mw2.below b_
  have tw3 := tw2.below b_
  have Bw3 := Bw2.trans (b_.mono (Nat.le_of_lt xRa_w2.lt))
  have xRa_w3 := xRa_w2.below b_
  have xRb_w3 := xRb_w2.below b_
  have xRc_w3 := xRc_w2.below b_
  clear b_ mw2 tw2 Bw2 xRa_w2 xRb_w2 xRc_w2
  have dRa0 := xRa_w3.c0
  have dRa1 := xRa_w3.c1
  have dRa2 := xRa_w3.c2
  have dRa3 := xRa_w3.c3
  have dRa4 := xRa_w3.c4
  have dRa5 := xRa_w3.c5
  have dRa6 := xRa_w3.c6
  have dRb0 := xRb_w3.c0
  have dRb1 := xRb_w3.c1
  have dRb2 := xRb_w3.c2
  have dRb3 := xRb_w3.c3
  have dRb4 := xRb_w3.c4
  have dRb5 := xRb_w3.c5
  have dRc0 := xRc_w3.c0
  have dRc1 := xRc_w3.c1
  have dRc2 := xRc_w3.c2
  have dRc3 := xRc_w3.c3
  have dRc4 := xRc_w3.c4
  have dRc5 := xRc_w3.c5
  go_wp2_with fail
  clear dRa0 dRa1 dRa2 dRa3 dRa4 dRa5 dRa6 dRb0 dRb1 dRb2 dRb3 dRb4 dRb5 dRc0 dRc1 dRc2 dRc3 dRc4 dRc5
  refine (C2.out _ ).mono ?_
  rintro e w4 ⟨rfl, b_⟩
  have mw4 := mw3.below b_
  have tw4 := tw3.below b_
  have Bw4 := Bw3.trans (b_.mono (Nat.le_of_lt xRa_w3.lt))
  have xRa_w4 := xRa_w3.below b_
  have xRb_w4 := xRb_w3.below b_
  have xRc_w4 := xRc_w3.below b_
  clear b_ mw3 tw3 Bw3 xRa_w3 xRb_w3 xRc_w3
  have dRa0 := xRa_w4.c0
  have dRa1 := xRa_w4.c1
  have dRa2 := xRa_w4.c2
  have dRa3 := xRa_w4.c3
  have dRa4 := xRa_w4.c4
  have dRa5 := xRa_w4.c5
  have dRa6 := xRa_w4.c6
  have dRb0 := xRb_w4.c0
  have dRb1 := xRb_w4.c1
  have dRb2 := xRb_w4.c2
  have dRb3 := xRb_w4.c3
  have dRb4 := xRb_w4.c4
  have dRb5 := xRb_w4.c5
  have dRc0 := xRc_w4.c0
  have dRc1 := xRc_w4.c1
  have dRc2 := xRc_w4.c2
  have dRc3 := xRc_w4.c3
  have dRc4 := xRc_w4.c4
  have dRc5 := xRc_w4.c5
  go_wp2_with fail
  clear dRa0 dRa1 dRa2 dRa3 dRa4 dRa5 dRa6 dRb0 dRb1 dRb2 dRb3 dRb4 dRb5 dRc0 dRc1 dRc2 dRc3 dRc4 dRc5
  refine (C3.out _ ).mono ?_
  rintro e w5 ⟨rfl, b_⟩
  have mw5 := mw4.below b_
  have tw5 := tw4.below b_
  have Bw5 := Bw4.trans (b_.mono (Nat.le_of_lt xRa_w4.lt))
  have xRa_w5 := xRa_w4.below b_
  have xRb_w5 := xRb_w4.below b_
  have xRc_w5 := xRc_w4.below b_
  clear b_ mw4 tw4 Bw4 xRa_w4 xRb_w4 xRc_w4
  have dRa0 := xRa_w5.c0
  have dRa1 := xRa_w5.c1
  have dRa2 := xRa_w5.c2
  have dRa3 := xRa_w5.c3
  have dRa4 := xRa_w5.c4
  have dRa5 := xRa_w5.c5
  have dRa6 := xRa_w5.c6
  have dRb0 := xRb_w5.c0
  have dRb1 := xRb_w5.c1
  have dRb2 := xRb_w5.c2
  have dRb3 := xRb_w5.c3
  have dRb4 := xRb_w5.c4
  have dRb5 := xRb_w5.c5
  have dRc0 := xRc_w5.c0
  have dRc1 := xRc_w5.c1
  have dRc2 := xRc_w5.c2
  have dRc3 := xRc_w5.c3
  have dRc4 := xRc_w5.c4
  have dRc5 := xRc_w5.c5
  go_wp2_with fail
  clear dRa0 dRa1 dRa2 dRa3 dRa4 dRa5 dRa6 dRb0 dRb1 dRb2 dRb3 dRb4 dRb5 dRc0 dRc1 dRc2 dRc3 dRc4 dRc5
  refine (C4.out _ ).mono ?_
  rintro e w6 ⟨rfl, b_⟩
  have mw6 := mw5.below b_
  have tw6 := tw5.below b_
  have Bw6 := Bw5.trans (b_.mono (Nat.le_of_lt xRa_w5.lt))
  have xRa_w6 := xRa_w5.below b_
  have xRb_w6 := xRb_w5.below b_
  have xRc_w6 := xRc_w5.below b_
  clear b_ mw5 tw5 Bw5 xRa_w5 xRb_w5 xRc_w5
  have dRa0 := xRa_w6.c0
  have dRa1 := xRa_w6.c1
  have dRa2 := xRa_w6.c2
  have dRa3 := xRa_w6.c3
  have dRa4 := xRa_w6.c4
  have dRa5 := xRa_w6.c5
  have dRa6 := xRa_w6.c6
  have dRb0 := xRb_w6.c0
  have dRb1 := xRb_w6.c1
  have dRb2 := xRb_w6.c2
  have dRb3 := xRb_w6.c3
  have dRb4 := xRb_w6.c4
  have dRb5 := xRb_w6.c5
  have dRc0 := xRc_w6.c0
  have dRc1 := xRc_w6.c1
  have dRc2 := xRc_w6.c2
  have dRc3 := xRc_w6.c3
  have dRc4 := xRc_w6.c4
  have dRc5 := xRc_w6.c5
  go_wp2
  clear dRa0 dRa1 dRa2 dRa3 dRa4 dRa5 dRa6 dRb0 dRb1 dRb2 dRb3 dRb4 dRb5 dRc0 dRc1 dRc2 dRc3 dRc4 dRc5
  go_ret
  exact ⟨rfl, by rw [HR.out]; exact Bw6⟩


set_option maxRecDepth 100000 in
set_option maxHeartbeats 8000000 in
theorem refUrl_h0t (t s h : ByteArray) (wd : Bool) (sp : Int) (pa : ByteArray) (s2 h2 : ByteArray) (p : Int) (pa2 q2 : ByteArray) (o3 : Bool) (s3 h3 : ByteArray) (p3 : Int) (pa3 q3 : ByteArray) (m : Bool) (CC : Hid (∀ W, Calls Tryz.prog 53 #[uV true s2 h2 p pa2 q2] W fun e w' => e = .returned (.bool true) ∧ Below W.heap.size W w')) (g : s.toList.isEmpty = true) (w : World) (hm : MaxIn w) (ht : TabIn w) : Calls Tryz.prog 35 #[srcV 12 t s h wd sp pa, uV true s2 h2 p pa2 q2, uV o3 s3 h3 p3 pa3 q3, .bool m] w fun e w' => e = .returned (.bool false) ∧ Below w.heap.size w w' := by
  unfold srcV uV at *
  go_enter Tryz.func35, Tryz.ntmps35
  go_wp2_with fail
  obtain ⟨x1, x2, x3, BB⟩ := urlBlocks w 12 t s h wd sp pa true s2 h2 p pa2 q2 o3 s3 h3 p3 pa3 q3
  have mB := ((hm.made (.cells #[.int .i64 12, .string t, .string s, .string h, .bool wd, .int .i64 sp, .string pa] 40)).made (.cells #[.bool true, .string s2, .string h2, .int .i64 p, .string pa2, .string q2] 25)).made (.cells #[.bool o3, .string s3, .string h3, .int .i64 p3, .string pa3, .string q3] 25)
  have tB := ((ht.made (.cells #[.int .i64 12, .string t, .string s, .string h, .bool wd, .int .i64 sp, .string pa] 40)).made (.cells #[.bool true, .string s2, .string h2, .int .i64 p, .string pa2, .string q2] 25)).made (.cells #[.bool o3, .string s3, .string h3, .int .i64 p3, .string pa3, .string q3] 25)
  clear hm ht
  generalize hR : w.heap.size = Ra at x1 x2 x3 BB ⊢
  have HR := Lib.hid hR
  clear hR
  obtain ⟨Rb, hRb⟩ : ∃ Rb, Ra + 1 = Rb := ⟨_, rfl⟩
  rw [hRb] at x2 x3
  try rw [hRb]
  clear hRb
  obtain ⟨Rc, hRb⟩ : ∃ Rc, Rb + 1 = Rc := ⟨_, rfl⟩
  rw [hRb] at x3
  try rw [hRb]
  clear hRb
  generalize ((w.alloc (.cells #[.int .i64 12, .string t, .string s, .string h, .bool wd, .int .i64 sp, .string pa] 40)).alloc (.cells #[.bool true, .string s2, .string h2, .int .i64 p, .string pa2, .string q2] 25)).alloc (.cells #[.bool o3, .string s3, .string h3, .int .i64 p3, .string pa3, .string q3] 25) = w1 at x1 x2 x3 mB tB BB ⊢
  have xRa_w1 := x1
  have xRb_w1 := x2
  have xRc_w1 := x3
  clear x1 x2 x3
  refine (CC.out _ ).mono ?_
  rintro e w2 ⟨rfl, b_⟩
  have mw2 := mB.below b_
  have tw2 := tB.below b_
  have Bw2 := BB.trans (b_.mono (Nat.le_of_lt xRa_w1.lt))
  have xRa_w2 := xRa_w1.below b_
  have xRb_w2 := xRb_w1.below b_
  have xRc_w2 := xRc_w1.below b_
  clear b_ mB tB BB xRa_w1 xRb_w1 xRc_w1
  have dRa0 := xRa_w2.c0
  have dRa1 := xRa_w2.c1
  have dRa2 := xRa_w2.c2
  have dRa3 := xRa_w2.c3
  have dRa4 := xRa_w2.c4
  have dRa5 := xRa_w2.c5
  have dRa6 := xRa_w2.c6
  have dRb0 := xRb_w2.c0
  have dRb1 := xRb_w2.c1
  have dRb2 := xRb_w2.c2
  have dRb3 := xRb_w2.c3
  have dRb4 := xRb_w2.c4
  have dRb5 := xRb_w2.c5
  have dRc0 := xRc_w2.c0
  have dRc1 := xRc_w2.c1
  have dRc2 := xRc_w2.c2
  have dRc3 := xRc_w2.c3
  have dRc4 := xRc_w2.c4
  have dRc5 := xRc_w2.c5
  go_wp2
  clear dRa0 dRa1 dRa2 dRa3 dRa4 dRa5 dRa6 dRb0 dRb1 dRb2 dRb3 dRb4 dRb5 dRc0 dRc1 dRc2 dRc3 dRc4 dRc5
  go_ret
  exact ⟨rfl, by rw [HR.out]; exact Bw2⟩


set_option maxRecDepth 100000 in
set_option maxHeartbeats 8000000 in
theorem refUrl_h1t (t s h : ByteArray) (wd : Bool) (sp : Int) (pa : ByteArray) (s2 h2 : ByteArray) (p : Int) (pa2 q2 : ByteArray) (o3 : Bool) (s3 h3 : ByteArray) (p3 : Int) (pa3 q3 : ByteArray) (m : Bool) (CC : Hid (∀ W, Calls Tryz.prog 53 #[uV false s2 h2 p pa2 q2] W fun e w' => e = .returned (.bool true) ∧ Below W.heap.size W w')) (g : s.toList.isEmpty = true) (C1 : Hid (∀ W, Calls Tryz.prog 54 #[.string s3, .string s2] W fun e w' => e = .returned (.bool false) ∧ Below W.heap.size W w')) (w : World) (hm : MaxIn w) (ht : TabIn w) : Calls Tryz.prog 35 #[srcV 12 t s h wd sp pa, uV false s2 h2 p pa2 q2, uV o3 s3 h3 p3 pa3 q3, .bool m] w fun e w' => e = .returned (.bool false) ∧ Below w.heap.size w w' := by
  unfold srcV uV at *
  go_enter Tryz.func35, Tryz.ntmps35
  go_wp2_with fail
  obtain ⟨x1, x2, x3, BB⟩ := urlBlocks w 12 t s h wd sp pa false s2 h2 p pa2 q2 o3 s3 h3 p3 pa3 q3
  have mB := ((hm.made (.cells #[.int .i64 12, .string t, .string s, .string h, .bool wd, .int .i64 sp, .string pa] 40)).made (.cells #[.bool false, .string s2, .string h2, .int .i64 p, .string pa2, .string q2] 25)).made (.cells #[.bool o3, .string s3, .string h3, .int .i64 p3, .string pa3, .string q3] 25)
  have tB := ((ht.made (.cells #[.int .i64 12, .string t, .string s, .string h, .bool wd, .int .i64 sp, .string pa] 40)).made (.cells #[.bool false, .string s2, .string h2, .int .i64 p, .string pa2, .string q2] 25)).made (.cells #[.bool o3, .string s3, .string h3, .int .i64 p3, .string pa3, .string q3] 25)
  clear hm ht
  generalize hR : w.heap.size = Ra at x1 x2 x3 BB ⊢
  have HR := Lib.hid hR
  clear hR
  obtain ⟨Rb, hRb⟩ : ∃ Rb, Ra + 1 = Rb := ⟨_, rfl⟩
  rw [hRb] at x2 x3
  try rw [hRb]
  clear hRb
  obtain ⟨Rc, hRb⟩ : ∃ Rc, Rb + 1 = Rc := ⟨_, rfl⟩
  rw [hRb] at x3
  try rw [hRb]
  clear hRb
  generalize ((w.alloc (.cells #[.int .i64 12, .string t, .string s, .string h, .bool wd, .int .i64 sp, .string pa] 40)).alloc (.cells #[.bool false, .string s2, .string h2, .int .i64 p, .string pa2, .string q2] 25)).alloc (.cells #[.bool o3, .string s3, .string h3, .int .i64 p3, .string pa3, .string q3] 25) = w1 at x1 x2 x3 mB tB BB ⊢
  have xRa_w1 := x1
  have xRb_w1 := x2
  have xRc_w1 := x3
  clear x1 x2 x3
  refine (CC.out _ ).mono ?_
  rintro e w2 ⟨rfl, b_⟩
  have mw2 := mB.below b_
  have tw2 := tB.below b_
  have Bw2 := BB.trans (b_.mono (Nat.le_of_lt xRa_w1.lt))
  have xRa_w2 := xRa_w1.below b_
  have xRb_w2 := xRb_w1.below b_
  have xRc_w2 := xRc_w1.below b_
  clear b_ mB tB BB xRa_w1 xRb_w1 xRc_w1
  have dRa0 := xRa_w2.c0
  have dRa1 := xRa_w2.c1
  have dRa2 := xRa_w2.c2
  have dRa3 := xRa_w2.c3
  have dRa4 := xRa_w2.c4
  have dRa5 := xRa_w2.c5
  have dRa6 := xRa_w2.c6
  have dRb0 := xRb_w2.c0
  have dRb1 := xRb_w2.c1
  have dRb2 := xRb_w2.c2
  have dRb3 := xRb_w2.c3
  have dRb4 := xRb_w2.c4
  have dRb5 := xRb_w2.c5
  have dRc0 := xRc_w2.c0
  have dRc1 := xRc_w2.c1
  have dRc2 := xRc_w2.c2
  have dRc3 := xRc_w2.c3
  have dRc4 := xRc_w2.c4
  have dRc5 := xRc_w2.c5
  go_wp2_with fail
  clear dRa0 dRa1 dRa2 dRa3 dRa4 dRa5 dRa6 dRb0 dRb1 dRb2 dRb3 dRb4 dRb5 dRc0 dRc1 dRc2 dRc3 dRc4 dRc5
  refine (C1.out _ ).mono ?_
  rintro e w3 ⟨rfl, b_⟩
  have mw3 := mw2.below b_
  have tw3 := tw2.below b_
  have Bw3 := Bw2.trans (b_.mono (Nat.le_of_lt xRa_w2.lt))
  have xRa_w3 := xRa_w2.below b_
  have xRb_w3 := xRb_w2.below b_
  have xRc_w3 := xRc_w2.below b_
  clear b_ mw2 tw2 Bw2 xRa_w2 xRb_w2 xRc_w2
  have dRa0 := xRa_w3.c0
  have dRa1 := xRa_w3.c1
  have dRa2 := xRa_w3.c2
  have dRa3 := xRa_w3.c3
  have dRa4 := xRa_w3.c4
  have dRa5 := xRa_w3.c5
  have dRa6 := xRa_w3.c6
  have dRb0 := xRb_w3.c0
  have dRb1 := xRb_w3.c1
  have dRb2 := xRb_w3.c2
  have dRb3 := xRb_w3.c3
  have dRb4 := xRb_w3.c4
  have dRb5 := xRb_w3.c5
  have dRc0 := xRc_w3.c0
  have dRc1 := xRc_w3.c1
  have dRc2 := xRc_w3.c2
  have dRc3 := xRc_w3.c3
  have dRc4 := xRc_w3.c4
  have dRc5 := xRc_w3.c5
  go_wp2
  clear dRa0 dRa1 dRa2 dRa3 dRa4 dRa5 dRa6 dRb0 dRb1 dRb2 dRb3 dRb4 dRb5 dRc0 dRc1 dRc2 dRc3 dRc4 dRc5
  go_ret
  exact ⟨rfl, by rw [HR.out]; exact Bw3⟩


set_option maxRecDepth 100000 in
set_option maxHeartbeats 8000000 in
theorem refUrl_h2t (t s h : ByteArray) (wd : Bool) (sp : Int) (pa : ByteArray) (s2 h2 : ByteArray) (p : Int) (pa2 q2 : ByteArray) (o3 : Bool) (s3 h3 : ByteArray) (p3 : Int) (pa3 q3 : ByteArray) (m : Bool) (CC : Hid (∀ W, Calls Tryz.prog 53 #[uV false s2 h2 p pa2 q2] W fun e w' => e = .returned (.bool true) ∧ Below W.heap.size W w')) (g : s.toList.isEmpty = true) (C1 : Hid (∀ W, Calls Tryz.prog 54 #[.string s3, .string s2] W fun e w' => e = .returned (.bool true) ∧ Below W.heap.size W w')) (C2 : Hid (∀ W, Calls Tryz.prog 56 #[srcV 12 t s h wd sp pa, .string h2] W fun e w' => e = .returned (.bool false) ∧ Below W.heap.size W w')) (w : World) (hm : MaxIn w) (ht : TabIn w) : Calls Tryz.prog 35 #[srcV 12 t s h wd sp pa, uV false s2 h2 p pa2 q2, uV o3 s3 h3 p3 pa3 q3, .bool m] w fun e w' => e = .returned (.bool false) ∧ Below w.heap.size w w' := by
  unfold srcV uV at *
  go_enter Tryz.func35, Tryz.ntmps35
  go_wp2_with fail
  obtain ⟨x1, x2, x3, BB⟩ := urlBlocks w 12 t s h wd sp pa false s2 h2 p pa2 q2 o3 s3 h3 p3 pa3 q3
  have mB := ((hm.made (.cells #[.int .i64 12, .string t, .string s, .string h, .bool wd, .int .i64 sp, .string pa] 40)).made (.cells #[.bool false, .string s2, .string h2, .int .i64 p, .string pa2, .string q2] 25)).made (.cells #[.bool o3, .string s3, .string h3, .int .i64 p3, .string pa3, .string q3] 25)
  have tB := ((ht.made (.cells #[.int .i64 12, .string t, .string s, .string h, .bool wd, .int .i64 sp, .string pa] 40)).made (.cells #[.bool false, .string s2, .string h2, .int .i64 p, .string pa2, .string q2] 25)).made (.cells #[.bool o3, .string s3, .string h3, .int .i64 p3, .string pa3, .string q3] 25)
  clear hm ht
  generalize hR : w.heap.size = Ra at x1 x2 x3 BB ⊢
  have HR := Lib.hid hR
  clear hR
  obtain ⟨Rb, hRb⟩ : ∃ Rb, Ra + 1 = Rb := ⟨_, rfl⟩
  rw [hRb] at x2 x3
  try rw [hRb]
  clear hRb
  obtain ⟨Rc, hRb⟩ : ∃ Rc, Rb + 1 = Rc := ⟨_, rfl⟩
  rw [hRb] at x3
  try rw [hRb]
  clear hRb
  generalize ((w.alloc (.cells #[.int .i64 12, .string t, .string s, .string h, .bool wd, .int .i64 sp, .string pa] 40)).alloc (.cells #[.bool false, .string s2, .string h2, .int .i64 p, .string pa2, .string q2] 25)).alloc (.cells #[.bool o3, .string s3, .string h3, .int .i64 p3, .string pa3, .string q3] 25) = w1 at x1 x2 x3 mB tB BB ⊢
  have xRa_w1 := x1
  have xRb_w1 := x2
  have xRc_w1 := x3
  clear x1 x2 x3
  refine (CC.out _ ).mono ?_
  rintro e w2 ⟨rfl, b_⟩
  have mw2 := mB.below b_
  have tw2 := tB.below b_
  have Bw2 := BB.trans (b_.mono (Nat.le_of_lt xRa_w1.lt))
  have xRa_w2 := xRa_w1.below b_
  have xRb_w2 := xRb_w1.below b_
  have xRc_w2 := xRc_w1.below b_
  clear b_ mB tB BB xRa_w1 xRb_w1 xRc_w1
  have dRa0 := xRa_w2.c0
  have dRa1 := xRa_w2.c1
  have dRa2 := xRa_w2.c2
  have dRa3 := xRa_w2.c3
  have dRa4 := xRa_w2.c4
  have dRa5 := xRa_w2.c5
  have dRa6 := xRa_w2.c6
  have dRb0 := xRb_w2.c0
  have dRb1 := xRb_w2.c1
  have dRb2 := xRb_w2.c2
  have dRb3 := xRb_w2.c3
  have dRb4 := xRb_w2.c4
  have dRb5 := xRb_w2.c5
  have dRc0 := xRc_w2.c0
  have dRc1 := xRc_w2.c1
  have dRc2 := xRc_w2.c2
  have dRc3 := xRc_w2.c3
  have dRc4 := xRc_w2.c4
  have dRc5 := xRc_w2.c5
  go_wp2_with fail
  clear dRa0 dRa1 dRa2 dRa3 dRa4 dRa5 dRa6 dRb0 dRb1 dRb2 dRb3 dRb4 dRb5 dRc0 dRc1 dRc2 dRc3 dRc4 dRc5
  refine (C1.out _ ).mono ?_
  rintro e w3 ⟨rfl, b_⟩
  have mw3 := mw2.below b_
  have tw3 := tw2.below b_
  have Bw3 := Bw2.trans (b_.mono (Nat.le_of_lt xRa_w2.lt))
  have xRa_w3 := xRa_w2.below b_
  have xRb_w3 := xRb_w2.below b_
  have xRc_w3 := xRc_w2.below b_
  clear b_ mw2 tw2 Bw2 xRa_w2 xRb_w2 xRc_w2
  have dRa0 := xRa_w3.c0
  have dRa1 := xRa_w3.c1
  have dRa2 := xRa_w3.c2
  have dRa3 := xRa_w3.c3
  have dRa4 := xRa_w3.c4
  have dRa5 := xRa_w3.c5
  have dRa6 := xRa_w3.c6
  have dRb0 := xRb_w3.c0
  have dRb1 := xRb_w3.c1
  have dRb2 := xRb_w3.c2
  have dRb3 := xRb_w3.c3
  have dRb4 := xRb_w3.c4
  have dRb5 := xRb_w3.c5
  have dRc0 := xRc_w3.c0
  have dRc1 := xRc_w3.c1
  have dRc2 := xRc_w3.c2
  have dRc3 := xRc_w3.c3
  have dRc4 := xRc_w3.c4
  have dRc5 := xRc_w3.c5
  go_wp2_with fail
  clear dRa0 dRa1 dRa2 dRa3 dRa4 dRa5 dRa6 dRb0 dRb1 dRb2 dRb3 dRb4 dRb5 dRc0 dRc1 dRc2 dRc3 dRc4 dRc5
  refine (C2.out _ ).mono ?_
  rintro e w4 ⟨rfl, b_⟩
  have mw4 := mw3.below b_
  have tw4 := tw3.below b_
  have Bw4 := Bw3.trans (b_.mono (Nat.le_of_lt xRa_w3.lt))
  have xRa_w4 := xRa_w3.below b_
  have xRb_w4 := xRb_w3.below b_
  have xRc_w4 := xRc_w3.below b_
  clear b_ mw3 tw3 Bw3 xRa_w3 xRb_w3 xRc_w3
  have dRa0 := xRa_w4.c0
  have dRa1 := xRa_w4.c1
  have dRa2 := xRa_w4.c2
  have dRa3 := xRa_w4.c3
  have dRa4 := xRa_w4.c4
  have dRa5 := xRa_w4.c5
  have dRa6 := xRa_w4.c6
  have dRb0 := xRb_w4.c0
  have dRb1 := xRb_w4.c1
  have dRb2 := xRb_w4.c2
  have dRb3 := xRb_w4.c3
  have dRb4 := xRb_w4.c4
  have dRb5 := xRb_w4.c5
  have dRc0 := xRc_w4.c0
  have dRc1 := xRc_w4.c1
  have dRc2 := xRc_w4.c2
  have dRc3 := xRc_w4.c3
  have dRc4 := xRc_w4.c4
  have dRc5 := xRc_w4.c5
  go_wp2
  clear dRa0 dRa1 dRa2 dRa3 dRa4 dRa5 dRa6 dRb0 dRb1 dRb2 dRb3 dRb4 dRb5 dRc0 dRc1 dRc2 dRc3 dRc4 dRc5
  go_ret
  exact ⟨rfl, by rw [HR.out]; exact Bw4⟩


set_option maxRecDepth 100000 in
set_option maxHeartbeats 8000000 in
theorem refUrl_h3t (t s h : ByteArray) (wd : Bool) (sp : Int) (pa : ByteArray) (s2 h2 : ByteArray) (p : Int) (pa2 q2 : ByteArray) (o3 : Bool) (s3 h3 : ByteArray) (p3 : Int) (pa3 q3 : ByteArray) (m : Bool) (CC : Hid (∀ W, Calls Tryz.prog 53 #[uV false s2 h2 p pa2 q2] W fun e w' => e = .returned (.bool true) ∧ Below W.heap.size W w')) (g : s.toList.isEmpty = true) (C1 : Hid (∀ W, Calls Tryz.prog 54 #[.string s3, .string s2] W fun e w' => e = .returned (.bool true) ∧ Below W.heap.size W w')) (C2 : Hid (∀ W, Calls Tryz.prog 56 #[srcV 12 t s h wd sp pa, .string h2] W fun e w' => e = .returned (.bool true) ∧ Below W.heap.size W w')) (C3 : Hid (∀ W, Calls Tryz.prog 57 #[srcV 12 t s h wd sp pa, uV false s2 h2 p pa2 q2] W fun e w' => e = .returned (.bool false) ∧ Below W.heap.size W w')) (w : World) (hm : MaxIn w) (ht : TabIn w) : Calls Tryz.prog 35 #[srcV 12 t s h wd sp pa, uV false s2 h2 p pa2 q2, uV o3 s3 h3 p3 pa3 q3, .bool m] w fun e w' => e = .returned (.bool false) ∧ Below w.heap.size w w' := by
  unfold srcV uV at *
  go_enter Tryz.func35, Tryz.ntmps35
  go_wp2_with fail
  obtain ⟨x1, x2, x3, BB⟩ := urlBlocks w 12 t s h wd sp pa false s2 h2 p pa2 q2 o3 s3 h3 p3 pa3 q3
  have mB := ((hm.made (.cells #[.int .i64 12, .string t, .string s, .string h, .bool wd, .int .i64 sp, .string pa] 40)).made (.cells #[.bool false, .string s2, .string h2, .int .i64 p, .string pa2, .string q2] 25)).made (.cells #[.bool o3, .string s3, .string h3, .int .i64 p3, .string pa3, .string q3] 25)
  have tB := ((ht.made (.cells #[.int .i64 12, .string t, .string s, .string h, .bool wd, .int .i64 sp, .string pa] 40)).made (.cells #[.bool false, .string s2, .string h2, .int .i64 p, .string pa2, .string q2] 25)).made (.cells #[.bool o3, .string s3, .string h3, .int .i64 p3, .string pa3, .string q3] 25)
  clear hm ht
  generalize hR : w.heap.size = Ra at x1 x2 x3 BB ⊢
  have HR := Lib.hid hR
  clear hR
  obtain ⟨Rb, hRb⟩ : ∃ Rb, Ra + 1 = Rb := ⟨_, rfl⟩
  rw [hRb] at x2 x3
  try rw [hRb]
  clear hRb
  obtain ⟨Rc, hRb⟩ : ∃ Rc, Rb + 1 = Rc := ⟨_, rfl⟩
  rw [hRb] at x3
  try rw [hRb]
  clear hRb
  generalize ((w.alloc (.cells #[.int .i64 12, .string t, .string s, .string h, .bool wd, .int .i64 sp, .string pa] 40)).alloc (.cells #[.bool false, .string s2, .string h2, .int .i64 p, .string pa2, .string q2] 25)).alloc (.cells #[.bool o3, .string s3, .string h3, .int .i64 p3, .string pa3, .string q3] 25) = w1 at x1 x2 x3 mB tB BB ⊢
  have xRa_w1 := x1
  have xRb_w1 := x2
  have xRc_w1 := x3
  clear x1 x2 x3
  refine (CC.out _ ).mono ?_
  rintro e w2 ⟨rfl, b_⟩
  have mw2 := mB.below b_
  have tw2 := tB.below b_
  have Bw2 := BB.trans (b_.mono (Nat.le_of_lt xRa_w1.lt))
  have xRa_w2 := xRa_w1.below b_
  have xRb_w2 := xRb_w1.below b_
  have xRc_w2 := xRc_w1.below b_
  clear b_ mB tB BB xRa_w1 xRb_w1 xRc_w1
  have dRa0 := xRa_w2.c0
  have dRa1 := xRa_w2.c1
  have dRa2 := xRa_w2.c2
  have dRa3 := xRa_w2.c3
  have dRa4 := xRa_w2.c4
  have dRa5 := xRa_w2.c5
  have dRa6 := xRa_w2.c6
  have dRb0 := xRb_w2.c0
  have dRb1 := xRb_w2.c1
  have dRb2 := xRb_w2.c2
  have dRb3 := xRb_w2.c3
  have dRb4 := xRb_w2.c4
  have dRb5 := xRb_w2.c5
  have dRc0 := xRc_w2.c0
  have dRc1 := xRc_w2.c1
  have dRc2 := xRc_w2.c2
  have dRc3 := xRc_w2.c3
  have dRc4 := xRc_w2.c4
  have dRc5 := xRc_w2.c5
  go_wp2_with fail
  clear dRa0 dRa1 dRa2 dRa3 dRa4 dRa5 dRa6 dRb0 dRb1 dRb2 dRb3 dRb4 dRb5 dRc0 dRc1 dRc2 dRc3 dRc4 dRc5
  refine (C1.out _ ).mono ?_
  rintro e w3 ⟨rfl, b_⟩
  have mw3 := mw2.below b_
  have tw3 := tw2.below b_
  have Bw3 := Bw2.trans (b_.mono (Nat.le_of_lt xRa_w2.lt))
  have xRa_w3 := xRa_w2.below b_
  have xRb_w3 := xRb_w2.below b_
  have xRc_w3 := xRc_w2.below b_
  clear b_ mw2 tw2 Bw2 xRa_w2 xRb_w2 xRc_w2
  have dRa0 := xRa_w3.c0
  have dRa1 := xRa_w3.c1
  have dRa2 := xRa_w3.c2
  have dRa3 := xRa_w3.c3
  have dRa4 := xRa_w3.c4
  have dRa5 := xRa_w3.c5
  have dRa6 := xRa_w3.c6
  have dRb0 := xRb_w3.c0
  have dRb1 := xRb_w3.c1
  have dRb2 := xRb_w3.c2
  have dRb3 := xRb_w3.c3
  have dRb4 := xRb_w3.c4
  have dRb5 := xRb_w3.c5
  have dRc0 := xRc_w3.c0
  have dRc1 := xRc_w3.c1
  have dRc2 := xRc_w3.c2
  have dRc3 := xRc_w3.c3
  have dRc4 := xRc_w3.c4
  have dRc5 := xRc_w3.c5
  go_wp2_with fail
  clear dRa0 dRa1 dRa2 dRa3 dRa4 dRa5 dRa6 dRb0 dRb1 dRb2 dRb3 dRb4 dRb5 dRc0 dRc1 dRc2 dRc3 dRc4 dRc5
  refine (C2.out _ ).mono ?_
  rintro e w4 ⟨rfl, b_⟩
  have mw4 := mw3.below b_
  have tw4 := tw3.below b_
  have Bw4 := Bw3.trans (b_.mono (Nat.le_of_lt xRa_w3.lt))
  have xRa_w4 := xRa_w3.below b_
  have xRb_w4 := xRb_w3.below b_
  have xRc_w4 := xRc_w3.below b_
  clear b_ mw3 tw3 Bw3 xRa_w3 xRb_w3 xRc_w3
  have dRa0 := xRa_w4.c0
  have dRa1 := xRa_w4.c1
  have dRa2 := xRa_w4.c2
  have dRa3 := xRa_w4.c3
  have dRa4 := xRa_w4.c4
  have dRa5 := xRa_w4.c5
  have dRa6 := xRa_w4.c6
  have dRb0 := xRb_w4.c0
  have dRb1 := xRb_w4.c1
  have dRb2 := xRb_w4.c2
  have dRb3 := xRb_w4.c3
  have dRb4 := xRb_w4.c4
  have dRb5 := xRb_w4.c5
  have dRc0 := xRc_w4.c0
  have dRc1 := xRc_w4.c1
  have dRc2 := xRc_w4.c2
  have dRc3 := xRc_w4.c3
  have dRc4 := xRc_w4.c4
  have dRc5 := xRc_w4.c5
  go_wp2_with fail
  clear dRa0 dRa1 dRa2 dRa3 dRa4 dRa5 dRa6 dRb0 dRb1 dRb2 dRb3 dRb4 dRb5 dRc0 dRc1 dRc2 dRc3 dRc4 dRc5
  refine (C3.out _ ).mono ?_
  rintro e w5 ⟨rfl, b_⟩
  have mw5 := mw4.below b_
  have tw5 := tw4.below b_
  have Bw5 := Bw4.trans (b_.mono (Nat.le_of_lt xRa_w4.lt))
  have xRa_w5 := xRa_w4.below b_
  have xRb_w5 := xRb_w4.below b_
  have xRc_w5 := xRc_w4.below b_
  clear b_ mw4 tw4 Bw4 xRa_w4 xRb_w4 xRc_w4
  have dRa0 := xRa_w5.c0
  have dRa1 := xRa_w5.c1
  have dRa2 := xRa_w5.c2
  have dRa3 := xRa_w5.c3
  have dRa4 := xRa_w5.c4
  have dRa5 := xRa_w5.c5
  have dRa6 := xRa_w5.c6
  have dRb0 := xRb_w5.c0
  have dRb1 := xRb_w5.c1
  have dRb2 := xRb_w5.c2
  have dRb3 := xRb_w5.c3
  have dRb4 := xRb_w5.c4
  have dRb5 := xRb_w5.c5
  have dRc0 := xRc_w5.c0
  have dRc1 := xRc_w5.c1
  have dRc2 := xRc_w5.c2
  have dRc3 := xRc_w5.c3
  have dRc4 := xRc_w5.c4
  have dRc5 := xRc_w5.c5
  go_wp2
  clear dRa0 dRa1 dRa2 dRa3 dRa4 dRa5 dRa6 dRb0 dRb1 dRb2 dRb3 dRb4 dRb5 dRc0 dRc1 dRc2 dRc3 dRc4 dRc5
  go_ret
  exact ⟨rfl, by rw [HR.out]; exact Bw5⟩


set_option maxRecDepth 100000 in
set_option maxHeartbeats 8000000 in
theorem refUrl_h4t (t s h : ByteArray) (wd : Bool) (sp : Int) (pa : ByteArray) (s2 h2 : ByteArray) (p : Int) (pa2 q2 : ByteArray) (o3 : Bool) (s3 h3 : ByteArray) (p3 : Int) (pa3 q3 : ByteArray) (m r : Bool) (CC : Hid (∀ W, Calls Tryz.prog 53 #[uV false s2 h2 p pa2 q2] W fun e w' => e = .returned (.bool true) ∧ Below W.heap.size W w')) (g : s.toList.isEmpty = true) (C1 : Hid (∀ W, Calls Tryz.prog 54 #[.string s3, .string s2] W fun e w' => e = .returned (.bool true) ∧ Below W.heap.size W w')) (C2 : Hid (∀ W, Calls Tryz.prog 56 #[srcV 12 t s h wd sp pa, .string h2] W fun e w' => e = .returned (.bool true) ∧ Below W.heap.size W w')) (C3 : Hid (∀ W, Calls Tryz.prog 57 #[srcV 12 t s h wd sp pa, uV false s2 h2 p pa2 q2] W fun e w' => e = .returned (.bool true) ∧ Below W.heap.size W w')) (C4 : Hid (∀ W, Calls Tryz.prog 58 #[.string pa, .string pa2, .bool m] W fun e w' => e = .returned (.bool r) ∧ Below W.heap.size W w')) (w : World) (hm : MaxIn w) (ht : TabIn w) : Calls Tryz.prog 35 #[srcV 12 t s h wd sp pa, uV false s2 h2 p pa2 q2, uV o3 s3 h3 p3 pa3 q3, .bool m] w fun e w' => e = .returned (.bool r) ∧ Below w.heap.size w w' := by
  unfold srcV uV at *
  go_enter Tryz.func35, Tryz.ntmps35
  go_wp2_with fail
  obtain ⟨x1, x2, x3, BB⟩ := urlBlocks w 12 t s h wd sp pa false s2 h2 p pa2 q2 o3 s3 h3 p3 pa3 q3
  have mB := ((hm.made (.cells #[.int .i64 12, .string t, .string s, .string h, .bool wd, .int .i64 sp, .string pa] 40)).made (.cells #[.bool false, .string s2, .string h2, .int .i64 p, .string pa2, .string q2] 25)).made (.cells #[.bool o3, .string s3, .string h3, .int .i64 p3, .string pa3, .string q3] 25)
  have tB := ((ht.made (.cells #[.int .i64 12, .string t, .string s, .string h, .bool wd, .int .i64 sp, .string pa] 40)).made (.cells #[.bool false, .string s2, .string h2, .int .i64 p, .string pa2, .string q2] 25)).made (.cells #[.bool o3, .string s3, .string h3, .int .i64 p3, .string pa3, .string q3] 25)
  clear hm ht
  generalize hR : w.heap.size = Ra at x1 x2 x3 BB ⊢
  have HR := Lib.hid hR
  clear hR
  obtain ⟨Rb, hRb⟩ : ∃ Rb, Ra + 1 = Rb := ⟨_, rfl⟩
  rw [hRb] at x2 x3
  try rw [hRb]
  clear hRb
  obtain ⟨Rc, hRb⟩ : ∃ Rc, Rb + 1 = Rc := ⟨_, rfl⟩
  rw [hRb] at x3
  try rw [hRb]
  clear hRb
  generalize ((w.alloc (.cells #[.int .i64 12, .string t, .string s, .string h, .bool wd, .int .i64 sp, .string pa] 40)).alloc (.cells #[.bool false, .string s2, .string h2, .int .i64 p, .string pa2, .string q2] 25)).alloc (.cells #[.bool o3, .string s3, .string h3, .int .i64 p3, .string pa3, .string q3] 25) = w1 at x1 x2 x3 mB tB BB ⊢
  have xRa_w1 := x1
  have xRb_w1 := x2
  have xRc_w1 := x3
  clear x1 x2 x3
  refine (CC.out _ ).mono ?_
  rintro e w2 ⟨rfl, b_⟩
  have mw2 := mB.below b_
  have tw2 := tB.below b_
  have Bw2 := BB.trans (b_.mono (Nat.le_of_lt xRa_w1.lt))
  have xRa_w2 := xRa_w1.below b_
  have xRb_w2 := xRb_w1.below b_
  have xRc_w2 := xRc_w1.below b_
  clear b_ mB tB BB xRa_w1 xRb_w1 xRc_w1
  have dRa0 := xRa_w2.c0
  have dRa1 := xRa_w2.c1
  have dRa2 := xRa_w2.c2
  have dRa3 := xRa_w2.c3
  have dRa4 := xRa_w2.c4
  have dRa5 := xRa_w2.c5
  have dRa6 := xRa_w2.c6
  have dRb0 := xRb_w2.c0
  have dRb1 := xRb_w2.c1
  have dRb2 := xRb_w2.c2
  have dRb3 := xRb_w2.c3
  have dRb4 := xRb_w2.c4
  have dRb5 := xRb_w2.c5
  have dRc0 := xRc_w2.c0
  have dRc1 := xRc_w2.c1
  have dRc2 := xRc_w2.c2
  have dRc3 := xRc_w2.c3
  have dRc4 := xRc_w2.c4
  have dRc5 := xRc_w2.c5
  go_wp2_with fail
  clear dRa0 dRa1 dRa2 dRa3 dRa4 dRa5 dRa6 dRb0 dRb1 dRb2 dRb3 dRb4 dRb5 dRc0 dRc1 dRc2 dRc3 dRc4 dRc5
  refine (C1.out _ ).mono ?_
  rintro e w3 ⟨rfl, b_⟩
  have mw3 := mw2.below b_
  have tw3 := tw2.below b_
  have Bw3 := Bw2.trans (b_.mono (Nat.le_of_lt xRa_w2.lt))
  have xRa_w3 := xRa_w2.below b_
  have xRb_w3 := xRb_w2.below b_
  have xRc_w3 := xRc_w2.below b_
  clear b_ mw2 tw2 Bw2 xRa_w2 xRb_w2 xRc_w2
  have dRa0 := xRa_w3.c0
  have dRa1 := xRa_w3.c1
  have dRa2 := xRa_w3.c2
  have dRa3 := xRa_w3.c3
  have dRa4 := xRa_w3.c4
  have dRa5 := xRa_w3.c5
  have dRa6 := xRa_w3.c6
  have dRb0 := xRb_w3.c0
  have dRb1 := xRb_w3.c1
  have dRb2 := xRb_w3.c2
  have dRb3 := xRb_w3.c3
  have dRb4 := xRb_w3.c4
  have dRb5 := xRb_w3.c5
  have dRc0 := xRc_w3.c0
  have dRc1 := xRc_w3.c1
  have dRc2 := xRc_w3.c2
  have dRc3 := xRc_w3.c3
  have dRc4 := xRc_w3.c4
  have dRc5 := xRc_w3.c5
  go_wp2_with fail
  clear dRa0 dRa1 dRa2 dRa3 dRa4 dRa5 dRa6 dRb0 dRb1 dRb2 dRb3 dRb4 dRb5 dRc0 dRc1 dRc2 dRc3 dRc4 dRc5
  refine (C2.out _ ).mono ?_
  rintro e w4 ⟨rfl, b_⟩
  have mw4 := mw3.below b_
  have tw4 := tw3.below b_
  have Bw4 := Bw3.trans (b_.mono (Nat.le_of_lt xRa_w3.lt))
  have xRa_w4 := xRa_w3.below b_
  have xRb_w4 := xRb_w3.below b_
  have xRc_w4 := xRc_w3.below b_
  clear b_ mw3 tw3 Bw3 xRa_w3 xRb_w3 xRc_w3
  have dRa0 := xRa_w4.c0
  have dRa1 := xRa_w4.c1
  have dRa2 := xRa_w4.c2
  have dRa3 := xRa_w4.c3
  have dRa4 := xRa_w4.c4
  have dRa5 := xRa_w4.c5
  have dRa6 := xRa_w4.c6
  have dRb0 := xRb_w4.c0
  have dRb1 := xRb_w4.c1
  have dRb2 := xRb_w4.c2
  have dRb3 := xRb_w4.c3
  have dRb4 := xRb_w4.c4
  have dRb5 := xRb_w4.c5
  have dRc0 := xRc_w4.c0
  have dRc1 := xRc_w4.c1
  have dRc2 := xRc_w4.c2
  have dRc3 := xRc_w4.c3
  have dRc4 := xRc_w4.c4
  have dRc5 := xRc_w4.c5
  go_wp2_with fail
  clear dRa0 dRa1 dRa2 dRa3 dRa4 dRa5 dRa6 dRb0 dRb1 dRb2 dRb3 dRb4 dRb5 dRc0 dRc1 dRc2 dRc3 dRc4 dRc5
  refine (C3.out _ ).mono ?_
  rintro e w5 ⟨rfl, b_⟩
  have mw5 := mw4.below b_
  have tw5 := tw4.below b_
  have Bw5 := Bw4.trans (b_.mono (Nat.le_of_lt xRa_w4.lt))
  have xRa_w5 := xRa_w4.below b_
  have xRb_w5 := xRb_w4.below b_
  have xRc_w5 := xRc_w4.below b_
  clear b_ mw4 tw4 Bw4 xRa_w4 xRb_w4 xRc_w4
  have dRa0 := xRa_w5.c0
  have dRa1 := xRa_w5.c1
  have dRa2 := xRa_w5.c2
  have dRa3 := xRa_w5.c3
  have dRa4 := xRa_w5.c4
  have dRa5 := xRa_w5.c5
  have dRa6 := xRa_w5.c6
  have dRb0 := xRb_w5.c0
  have dRb1 := xRb_w5.c1
  have dRb2 := xRb_w5.c2
  have dRb3 := xRb_w5.c3
  have dRb4 := xRb_w5.c4
  have dRb5 := xRb_w5.c5
  have dRc0 := xRc_w5.c0
  have dRc1 := xRc_w5.c1
  have dRc2 := xRc_w5.c2
  have dRc3 := xRc_w5.c3
  have dRc4 := xRc_w5.c4
  have dRc5 := xRc_w5.c5
  go_wp2_with fail
  clear dRa0 dRa1 dRa2 dRa3 dRa4 dRa5 dRa6 dRb0 dRb1 dRb2 dRb3 dRb4 dRb5 dRc0 dRc1 dRc2 dRc3 dRc4 dRc5
  refine (C4.out _ ).mono ?_
  rintro e w6 ⟨rfl, b_⟩
  have mw6 := mw5.below b_
  have tw6 := tw5.below b_
  have Bw6 := Bw5.trans (b_.mono (Nat.le_of_lt xRa_w5.lt))
  have xRa_w6 := xRa_w5.below b_
  have xRb_w6 := xRb_w5.below b_
  have xRc_w6 := xRc_w5.below b_
  clear b_ mw5 tw5 Bw5 xRa_w5 xRb_w5 xRc_w5
  have dRa0 := xRa_w6.c0
  have dRa1 := xRa_w6.c1
  have dRa2 := xRa_w6.c2
  have dRa3 := xRa_w6.c3
  have dRa4 := xRa_w6.c4
  have dRa5 := xRa_w6.c5
  have dRa6 := xRa_w6.c6
  have dRb0 := xRb_w6.c0
  have dRb1 := xRb_w6.c1
  have dRb2 := xRb_w6.c2
  have dRb3 := xRb_w6.c3
  have dRb4 := xRb_w6.c4
  have dRb5 := xRb_w6.c5
  have dRc0 := xRc_w6.c0
  have dRc1 := xRc_w6.c1
  have dRc2 := xRc_w6.c2
  have dRc3 := xRc_w6.c3
  have dRc4 := xRc_w6.c4
  have dRc5 := xRc_w6.c5
  go_wp2
  clear dRa0 dRa1 dRa2 dRa3 dRa4 dRa5 dRa6 dRb0 dRb1 dRb2 dRb3 dRb4 dRb5 dRc0 dRc1 dRc2 dRc3 dRc4 dRc5
  go_ret
  exact ⟨rfl, by rw [HR.out]; exact Bw6⟩


theorem refUrl_k12f (t s h : ByteArray) (wd : Bool) (sp : Int) (pa : ByteArray) (o : Bool) (s2 h2 : ByteArray) (p : Int) (pa2 q2 : ByteArray) (o3 : Bool) (s3 h3 : ByteArray) (p3 : Int) (pa3 q3 : ByteArray) (m : Bool) (z1 : h.size ≤ 100000) (z2 : pa.size ≤ 100000) (u1 : s2.size ≤ 100000) (u2 : h2.size ≤ 100000) (u3 : pa2.size ≤ 100000) (u4 : q2.size ≤ 100000) (hr : rightM (uM o s2 h2 p pa2 q2) = true) (g : s.toList.isEmpty = false) (w : World) (hm : MaxIn w) (ht : TabIn w) : Calls Tryz.prog 35 #[srcV 12 t s h wd sp pa, uV o s2 h2 p pa2 q2, uV o3 s3 h3 p3 pa3 q3, .bool m] w fun e w' => e = .returned (.bool (letsL (srcM 12 t s h wd sp pa) (uM o s2 h2 p pa2 q2) (uM o3 s3 h3 p3 pa3 q3) m)) ∧ Below w.heap.size w w' := by
  have CC := refRight_hid o s2 h2 p pa2 q2 true hr u1 u2 u3 u4
  have HL : letsL (srcM 12 t s h wd sp pa) (uM o s2 h2 p pa2 q2) (uM o3 s3 h3 p3 pa3 q3) m = (!o && (schL s.data.toList s2.data.toList && (hostL wd h.data.toList h2.data.toList && (portL sp (uM o s2 h2 p pa2 q2) && pathL pa.data.toList pa2.data.toList m)))) := by
    have e : toldL (srcM 12 t s h wd sp pa) (uM o3 s3 h3 p3 pa3 q3) = s.data.toList := by
      unfold toldL
      rw [show (srcM 12 t s h wd sp pa).s.isEmpty = false by rw [← g, text_none]; rfl]
      rfl
    unfold letsL
    rw [e]
    simp only [Bool.and_assoc]
    rfl
  rw [HL]
  clear HL
  cases o
  case true => exact refUrl_h0f t s h wd sp pa s2 h2 p pa2 q2 o3 s3 h3 p3 pa3 q3 m CC g w hm ht
  rw [Bool.not_false, Bool.true_and]
  cases c1 : schL s.data.toList s2.data.toList
  case false => exact refUrl_h1f t s h wd sp pa s2 h2 p pa2 q2 o3 s3 h3 p3 pa3 q3 m CC g (same_low _ _ _ (refScheme10_hid s s2 false c1)) w hm ht
  have C1 := same_low _ _ _ (refScheme10_hid s s2 true c1)
  cases c2 : hostL wd h.data.toList h2.data.toList
  case false => exact refUrl_h2f t s h wd sp pa s2 h2 p pa2 q2 o3 s3 h3 p3 pa3 q3 m CC g C1 (refHost10_hid 12 t s h wd sp pa h2 z1 u2 false c2) w hm ht
  have C2 := refHost10_hid 12 t s h wd sp pa h2 z1 u2 true c2
  cases c3 : portL sp (uM false s2 h2 p pa2 q2)
  case false => exact refUrl_h3f t s h wd sp pa s2 h2 p pa2 q2 o3 s3 h3 p3 pa3 q3 m CC g C1 C2 (refPort10_hid 12 t s h wd sp pa false s2 h2 p pa2 q2 false c3) w hm ht
  have C3 := refPort10_hid 12 t s h wd sp pa false s2 h2 p pa2 q2 true c3
  exact refUrl_h4f t s h wd sp pa s2 h2 p pa2 q2 o3 s3 h3 p3 pa3 q3 m _ CC g C1 C2 C3 (same_low _ _ _ (refPath10_hid pa pa2 z2 m _ rfl)) w hm ht


theorem refUrl_k12t (t s h : ByteArray) (wd : Bool) (sp : Int) (pa : ByteArray) (o : Bool) (s2 h2 : ByteArray) (p : Int) (pa2 q2 : ByteArray) (o3 : Bool) (s3 h3 : ByteArray) (p3 : Int) (pa3 q3 : ByteArray) (m : Bool) (z1 : h.size ≤ 100000) (z2 : pa.size ≤ 100000) (u1 : s2.size ≤ 100000) (u2 : h2.size ≤ 100000) (u3 : pa2.size ≤ 100000) (u4 : q2.size ≤ 100000) (hr : rightM (uM o s2 h2 p pa2 q2) = true) (g : s.toList.isEmpty = true) (w : World) (hm : MaxIn w) (ht : TabIn w) : Calls Tryz.prog 35 #[srcV 12 t s h wd sp pa, uV o s2 h2 p pa2 q2, uV o3 s3 h3 p3 pa3 q3, .bool m] w fun e w' => e = .returned (.bool (letsL (srcM 12 t s h wd sp pa) (uM o s2 h2 p pa2 q2) (uM o3 s3 h3 p3 pa3 q3) m)) ∧ Below w.heap.size w w' := by
  have CC := refRight_hid o s2 h2 p pa2 q2 true hr u1 u2 u3 u4
  have HL : letsL (srcM 12 t s h wd sp pa) (uM o s2 h2 p pa2 q2) (uM o3 s3 h3 p3 pa3 q3) m = (!o && (schL s3.data.toList s2.data.toList && (hostL wd h.data.toList h2.data.toList && (portL sp (uM o s2 h2 p pa2 q2) && pathL pa.data.toList pa2.data.toList m)))) := by
    have e : toldL (srcM 12 t s h wd sp pa) (uM o3 s3 h3 p3 pa3 q3) = s3.data.toList := by
      unfold toldL
      rw [show (srcM 12 t s h wd sp pa).s.isEmpty = true by rw [← g, text_none]; rfl]
      rfl
    unfold letsL
    rw [e]
    simp only [Bool.and_assoc]
    rfl
  rw [HL]
  clear HL
  cases o
  case true => exact refUrl_h0t t s h wd sp pa s2 h2 p pa2 q2 o3 s3 h3 p3 pa3 q3 m CC g w hm ht
  rw [Bool.not_false, Bool.true_and]
  cases c1 : schL s3.data.toList s2.data.toList
  case false => exact refUrl_h1t t s h wd sp pa s2 h2 p pa2 q2 o3 s3 h3 p3 pa3 q3 m CC g (same_low _ _ _ (refScheme10_hid s3 s2 false c1)) w hm ht
  have C1 := same_low _ _ _ (refScheme10_hid s3 s2 true c1)
  cases c2 : hostL wd h.data.toList h2.data.toList
  case false => exact refUrl_h2t t s h wd sp pa s2 h2 p pa2 q2 o3 s3 h3 p3 pa3 q3 m CC g C1 (refHost10_hid 12 t s h wd sp pa h2 z1 u2 false c2) w hm ht
  have C2 := refHost10_hid 12 t s h wd sp pa h2 z1 u2 true c2
  cases c3 : portL sp (uM false s2 h2 p pa2 q2)
  case false => exact refUrl_h3t t s h wd sp pa s2 h2 p pa2 q2 o3 s3 h3 p3 pa3 q3 m CC g C1 C2 (refPort10_hid 12 t s h wd sp pa false s2 h2 p pa2 q2 false c3) w hm ht
  have C3 := refPort10_hid 12 t s h wd sp pa false s2 h2 p pa2 q2 true c3
  exact refUrl_h4t t s h wd sp pa s2 h2 p pa2 q2 o3 s3 h3 p3 pa3 q3 m _ CC g C1 C2 C3 (same_low _ _ _ (refPath10_hid pa pa2 z2 m _ rfl)) w hm ht

theorem refUrl_any (k : Int) (t s h : ByteArray) (wd : Bool) (sp : Int) (pa : ByteArray) (o : Bool) (s2 h2 : ByteArray) (p : Int) (pa2 q2 : ByteArray) (o3 : Bool) (s3 h3 : ByteArray) (p3 : Int) (pa3 q3 : ByteArray) (m : Bool) (z1 : h.size ≤ 100000) (z2 : pa.size ≤ 100000) (u1 : s2.size ≤ 100000) (u2 : h2.size ≤ 100000) (u3 : pa2.size ≤ 100000) (u4 : q2.size ≤ 100000) (v1 : s3.size ≤ 100000) (v2 : h3.size ≤ 100000) (v3 : pa3.size ≤ 100000) (v4 : q3.size ≤ 100000) (w : World) (hm : MaxIn w) (ht : TabIn w) : Calls Tryz.prog 35 #[srcV k t s h wd sp pa, uV o s2 h2 p pa2 q2, uV o3 s3 h3 p3 pa3 q3, .bool m] w fun e w' => e = .returned (.bool (urlL (srcM k t s h wd sp pa) (uM o s2 h2 p pa2 q2) (uM o3 s3 h3 p3 pa3 q3) m)) ∧ Below w.heap.size w w' := by
  cases hr : rightM (uM o s2 h2 p pa2 q2)
  · rw [show urlL (srcM k t s h wd sp pa) (uM o s2 h2 p pa2 q2) (uM o3 s3 h3 p3 pa3 q3) m = false by unfold urlL; rw [hr]; rfl]
    exact refUrl_wrong k t s h wd sp pa o s2 h2 p pa2 q2 o3 s3 h3 p3 pa3 q3 m (refRight_hid o s2 h2 p pa2 q2 false hr u1 u2 u3 u4) w hm ht
  have CC := refRight_hid o s2 h2 p pa2 q2 true hr u1 u2 u3 u4
  by_cases k1 : k = 11
  · subst k1
    have e : schL s.data.toList s2.data.toList = urlL (srcM 11 t s h wd sp pa) (uM o s2 h2 p pa2 q2) (uM o3 s3 h3 p3 pa3 q3) m := by unfold urlL; rw [hr]; rfl
    exact refUrl_k11 t s h wd sp pa o s2 h2 p pa2 q2 o3 s3 h3 p3 pa3 q3 m _ CC (same_low _ _ _ (refScheme10_hid s s2 _ e)) w hm ht
  by_cases k2 : k = 12
  · subst k2
    rw [show urlL (srcM 12 t s h wd sp pa) (uM o s2 h2 p pa2 q2) (uM o3 s3 h3 p3 pa3 q3) m = letsL (srcM 12 t s h wd sp pa) (uM o s2 h2 p pa2 q2) (uM o3 s3 h3 p3 pa3 q3) m by unfold urlL; rw [hr]; rfl]
    cases g : s.toList.isEmpty
    · exact refUrl_k12f t s h wd sp pa o s2 h2 p pa2 q2 o3 s3 h3 p3 pa3 q3 m z1 z2 u1 u2 u3 u4 hr g w hm ht
    · exact refUrl_k12t t s h wd sp pa o s2 h2 p pa2 q2 o3 s3 h3 p3 pa3 q3 m z1 z2 u1 u2 u3 u4 hr g w hm ht
  by_cases k3 : k = 2
  · subst k3
    rw [show urlL (srcM 2 t s h wd sp pa) (uM o s2 h2 p pa2 q2) (uM o3 s3 h3 p3 pa3 q3) m = selfL (uM o s2 h2 p pa2 q2) (uM o3 s3 h3 p3 pa3 q3) by rw [url_self _ rfl, hr]; rfl]
    exact refUrl_k2 t s h wd sp pa o s2 h2 p pa2 q2 o3 s3 h3 p3 pa3 q3 m _ CC (Lib.hid fun W hm ht => refSelf_any o s2 h2 p pa2 q2 o3 s3 h3 p3 pa3 q3 u1 u2 u3 u4 v1 v2 v3 v4 W hm ht) w hm ht
  rw [show urlL (srcM k t s h wd sp pa) (uM o s2 h2 p pa2 q2) (uM o3 s3 h3 p3 pa3 q3) m = false by
    unfold urlL
    rw [hr, if_neg (show ¬ (srcM k t s h wd sp pa).k = 11 from k1), if_neg (show ¬ (srcM k t s h wd sp pa).k = 12 from k2), if_neg (show ¬ (srcM k t s h wd sp pa).k = 2 from k3)]
    rfl]
  exact refUrl_other k t s h wd sp pa o s2 h2 p pa2 q2 o3 s3 h3 p3 pa3 q3 m CC (by rw [beq_eq_false_iff_ne]; exact k1) (by rw [beq_eq_false_iff_ne]; exact k2) (by rw [beq_eq_false_iff_ne]; exact k3) w hm ht
theorem refUrl_hid (k : Int) (t s h : ByteArray) (wd : Bool) (sp : Int) (pa : ByteArray) (o : Bool) (s2 h2 : ByteArray) (p : Int) (pa2 q2 : ByteArray) (o3 : Bool) (s3 h3 : ByteArray) (p3 : Int) (pa3 q3 : ByteArray) (m : Bool) (z1 : h.size ≤ 100000) (z2 : pa.size ≤ 100000) (u1 : s2.size ≤ 100000) (u2 : h2.size ≤ 100000) (u3 : pa2.size ≤ 100000) (u4 : q2.size ≤ 100000) (v1 : s3.size ≤ 100000) (v2 : h3.size ≤ 100000) (v3 : pa3.size ≤ 100000) (v4 : q3.size ≤ 100000) (b : Bool) (hb : urlL (srcM k t s h wd sp pa) (uM o s2 h2 p pa2 q2) (uM o3 s3 h3 p3 pa3 q3) m = b) : Hid (∀ W, Low W → Calls Tryz.prog 35 #[srcV k t s h wd sp pa, uV o s2 h2 p pa2 q2, uV o3 s3 h3 p3 pa3 q3, .bool m] W fun e w' => e = .returned (.bool b) ∧ Below W.heap.size W w') :=
  Lib.hid fun W hw => by rw [← hb]; exact refUrl_any k t s h wd sp pa o s2 h2 p pa2 q2 o3 s3 h3 p3 pa3 q3 m z1 z2 u1 u2 u3 u4 v1 v2 v3 v4 W hw.m hw.t

end Go.Proofs.YtaldjkbnngeahaaGreatDoor
