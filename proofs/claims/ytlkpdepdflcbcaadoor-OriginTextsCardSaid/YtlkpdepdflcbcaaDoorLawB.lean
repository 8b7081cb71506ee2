/- Two origins of addresses have one text just if they are the same. -/
import Derived.Test.YtlkpdepdflcbcaaDoorLawA
namespace Go.Proofs.YtlkpdepdflcbcaaDoor
open Go.RowKit

set_option maxRecDepth 100000 in
set_option maxHeartbeats 8000000 in
theorem texts_eq (o : Bool) (s h : ByteArray) (p : Int) (pa q : ByteArray) (o9 : Bool) (s9 h9 : ByteArray) (p9 : Int) (pa9 q9 : ByteArray) (o1 : Bool) (s1 h1 : ByteArray) (p1 : Int) (T : ByteArray) (gT : (T.toList == T.toList) = true) (CB1 : Hid (∀ W, Calls Tryd.prog 12 #[uV o s h p pa q] W fun e w' => e = .returned (.bool false) ∧ Below W.heap.size W w')) (CB2 : Hid (∀ W, Calls Tryd.prog 12 #[uV o9 s9 h9 p9 pa9 q9] W fun e w' => e = .returned (.bool false) ∧ Below W.heap.size W w')) (CF1 : Hid (∀ W, MaxIn W → TabIn W → Calls Tryd.prog 14 #[uV o s h p pa q] W fun e w' => e = .returned (oV o1 s1 h1 p1) ∧ Below W.heap.size W w')) (CF2 : Hid (∀ W, MaxIn W → TabIn W → Calls Tryd.prog 14 #[uV o9 s9 h9 p9 pa9 q9] W fun e w' => e = .returned (oV o1 s1 h1 p1) ∧ Below W.heap.size W w')) (CT1 : Hid (∀ W, TabIn W → Calls Tryd.prog 10 #[oV o1 s1 h1 p1] W fun e w' => e = .returned (.string T) ∧ Below W.heap.size W w')) (CT2 : Hid (∀ W, TabIn W → Calls Tryd.prog 10 #[oV o1 s1 h1 p1] W fun e w' => e = .returned (.string T) ∧ Below W.heap.size W w')) (gs : (s1.toList == s1.toList) = true) (gh : (h1.toList == h1.toList) = true) (w : World) (hm : MaxIn w) (ht : TabIn w) : Calls Tryd.prog 5 #[uV o s h p pa q, uV o9 s9 h9 p9 pa9 q9] w fun e w' => e = .returned (.bool true) ∧ Below w.heap.size w w' := by
  have FR := froms_hid
  unfold uV oV at *
  go_enter Tryd.func5, Tryd.ntmps5
  go_wp2_with fail
  have xn := BX.made w o s h p pa q
  have xz := BX.made (w.alloc (.cells #[.bool o, .string s, .string h, .int .i64 p, .string pa, .string q] 28)) o9 s9 h9 p9 pa9 q9
  have xy := xn.below ((Below.refl _ _).alloc (Nat.le_refl _) (.cells #[.bool o9, .string s9, .string h9, .int .i64 p9, .string pa9, .string q9] 28))
  have mB := (hm.made (.cells #[.bool o, .string s, .string h, .int .i64 p, .string pa, .string q] 28)).made (.cells #[.bool o9, .string s9, .string h9, .int .i64 p9, .string pa9, .string q9] 28)
  have tB := (ht.made (.cells #[.bool o, .string s, .string h, .int .i64 p, .string pa, .string q] 28)).made (.cells #[.bool o9, .string s9, .string h9, .int .i64 p9, .string pa9, .string q9] 28)
  have BB := ((Below.refl w.heap.size w).alloc (Nat.le_refl _) (.cells #[.bool o, .string s, .string h, .int .i64 p, .string pa, .string q] 28)).alloc (Below.size ((Below.refl w.heap.size w).alloc (Nat.le_refl _) (.cells #[.bool o, .string s, .string h, .int .i64 p, .string pa, .string q] 28))) (.cells #[.bool o9, .string s9, .string h9, .int .i64 p9, .string pa9, .string q9] 28)
  rw [size_alloc] at xz
  clear xn hm ht
  generalize hR : w.heap.size = Ra at xy xz BB ⊢
  have HR := Lib.hid hR
  clear hR
  obtain ⟨Rb, hRb⟩ : ∃ Rb, Ra + 1 = Rb := ⟨_, rfl⟩
  rw [hRb] at xz
  try rw [hRb]
  clear hRb
  generalize (w.alloc (.cells #[.bool o, .string s, .string h, .int .i64 p, .string pa, .string q] 28)).alloc (.cells #[.bool o9, .string s9, .string h9, .int .i64 p9, .string pa9, .string q9] 28) = w1 at xy xz mB tB BB ⊢
  have xRa_w1 := xy
  have xRb_w1 := xz
  clear xy xz
  refine (CB1.out _ ).mono ?_
  rintro e w2 ⟨rfl, b_⟩
  have mw2 := mB.below b_
  have tw2 := tB.below b_
  have Bw2 := BB.trans (b_.mono (Nat.le_of_lt xRa_w1.lt))
  have xRa_w2 := xRa_w1.below b_
  have xRb_w2 := xRb_w1.below b_
  clear b_ mB tB BB xRa_w1 xRb_w1
  have dRb0 := xRb_w2.c0
  have dRb1 := xRb_w2.c1
  have dRb2 := xRb_w2.c2
  have dRb3 := xRb_w2.c3
  have dRb4 := xRb_w2.c4
  have dRb5 := xRb_w2.c5
  go_wp2_with fail
  clear dRb0 dRb1 dRb2 dRb3 dRb4 dRb5
  refine (CB2.out _ ).mono ?_
  rintro e w3 ⟨rfl, b_⟩
  have mw3 := mw2.below b_
  have tw3 := tw2.below b_
  have Bw3 := Bw2.trans (b_.mono (Nat.le_of_lt xRa_w2.lt))
  have xRa_w3 := xRa_w2.below b_
  have xRb_w3 := xRb_w2.below b_
  clear b_ mw2 tw2 Bw2 xRa_w2 xRb_w2
  have dRa0 := xRa_w3.c0
  have dRa1 := xRa_w3.c1
  have dRa2 := xRa_w3.c2
  have dRa3 := xRa_w3.c3
  have dRa4 := xRa_w3.c4
  have dRa5 := xRa_w3.c5
  go_wp2_with fail
  clear dRa0 dRa1 dRa2 dRa3 dRa4 dRa5
  refine (CF1.out _ mw3 tw3).mono ?_
  rintro e w4 ⟨rfl, b_⟩
  have mw4 := mw3.below b_
  have tw4 := tw3.below b_
  have Bw4 := Bw3.trans (b_.mono (Nat.le_of_lt xRa_w3.lt))
  have xRa_w4 := xRa_w3.below b_
  have xRb_w4 := xRb_w3.below b_
  clear b_ mw3 tw3 Bw3 xRa_w3 xRb_w3
  have dRb0 := xRb_w4.c0
  have dRb1 := xRb_w4.c1
  have dRb2 := xRb_w4.c2
  have dRb3 := xRb_w4.c3
  have dRb4 := xRb_w4.c4
  have dRb5 := xRb_w4.c5
  have xq := xRb_w4.below ((Below.refl w4.heap.size w4).alloc (Nat.le_refl _) (.cells #[.bool o1, .string s1, .string h1, .int .i64 p1] 23))
  have dq0 := xq.c0
  have dq1 := xq.c1
  have dq2 := xq.c2
  have dq3 := xq.c3
  have dq4 := xq.c4
  have dq5 := xq.c5
  go_wp2_with fail
  clear dRb0 dRb1 dRb2 dRb3 dRb4 dRb5
  clear xq dq0 dq1 dq2 dq3 dq4 dq5
  have xn := OX.made w4 o1 s1 h1 p1
  have mw5 := mw4.made (.cells #[.bool o1, .string s1, .string h1, .int .i64 p1] 23)
  have tw5 := tw4.made (.cells #[.bool o1, .string s1, .string h1, .int .i64 p1] 23)
  have Bw5 := Bw4.trans (((Below.refl w4.heap.size w4).alloc (Nat.le_refl _) (.cells #[.bool o1, .string s1, .string h1, .int .i64 p1] 23)).mono (Nat.le_of_lt xRa_w4.lt))
  have xRa_w5 := xRa_w4.below ((Below.refl w4.heap.size w4).alloc (Nat.le_refl _) (.cells #[.bool o1, .string s1, .string h1, .int .i64 p1] 23))
  have xRb_w5 := xRb_w4.below ((Below.refl w4.heap.size w4).alloc (Nat.le_refl _) (.cells #[.bool o1, .string s1, .string h1, .int .i64 p1] 23))
  generalize w4.heap.size = Rx at xn ⊢
  generalize w4.alloc (.cells #[.bool o1, .string s1, .string h1, .int .i64 p1] 23) = w5 at xn mw5 tw5 Bw5 xRa_w5 xRb_w5 ⊢
  have xRx_w5 := xn
  clear xn mw4 tw4 Bw4 xRa_w4 xRb_w4
  clear xRb_w5
  refine (CF2.out _ mw5 tw5).mono ?_
  rintro e w6 ⟨rfl, b_⟩
  have mw6 := mw5.below b_
  have tw6 := tw5.below b_
  have Bw6 := Bw5.trans (b_.mono (Nat.le_of_lt xRa_w5.lt))
  have xRa_w6 := xRa_w5.below b_
  have xRx_w6 := xRx_w5.below b_
  clear b_ mw5 tw5 Bw5 xRa_w5 xRx_w5
  have xq := xRx_w6.below ((Below.refl w6.heap.size w6).alloc (Nat.le_refl _) (.cells #[.bool o1, .string s1, .string h1, .int .i64 p1] 23))
  have dq0 := xq.c0
  have dq1 := xq.c1
  have dq2 := xq.c2
  have dq3 := xq.c3
  go_wp2
  clear xq dq0 dq1 dq2 dq3
  have xn := OX.made w6 o1 s1 h1 p1
  have mw7 := mw6.made (.cells #[.bool o1, .string s1, .string h1, .int .i64 p1] 23)
  have tw7 := tw6.made (.cells #[.bool o1, .string s1, .string h1, .int .i64 p1] 23)
  have Bw7 := Bw6.trans (((Below.refl w6.heap.size w6).alloc (Nat.le_refl _) (.cells #[.bool o1, .string s1, .string h1, .int .i64 p1] 23)).mono (Nat.le_of_lt xRa_w6.lt))
  have xRa_w7 := xRa_w6.below ((Below.refl w6.heap.size w6).alloc (Nat.le_refl _) (.cells #[.bool o1, .string s1, .string h1, .int .i64 p1] 23))
  have xRx_w7 := xRx_w6.below ((Below.refl w6.heap.size w6).alloc (Nat.le_refl _) (.cells #[.bool o1, .string s1, .string h1, .int .i64 p1] 23))
  generalize w6.heap.size = Ry at xn ⊢
  generalize w6.alloc (.cells #[.bool o1, .string s1, .string h1, .int .i64 p1] 23) = w7 at xn mw7 tw7 Bw7 xRa_w7 xRx_w7 ⊢
  have xRy_w7 := xn
  clear xn mw6 tw6 Bw6 xRa_w6 xRx_w6
  obtain ⟨C, hC⟩ : ∃ C : World → Prop, ∀ w', C w' ↔ (BX w' Ra o s h p pa q ∧ OX w' Rx o1 s1 h1 p1 ∧ OX w' Ry o1 s1 h1 p1 ∧ Below Ra w w' ∧ MaxIn w' ∧ TabIn w') := ⟨_, fun _ => Iff.rfl⟩
  have HC := Lib.hid hC
  clear hC
  have hC0 : C w7.drew := (HC.out _).2 ⟨xRa_w7, xRx_w7, xRy_w7, Bw7.drew, mw7, tw7⟩
  have HK : Hid (∀ w', C w' → ∀ w7, Below w'.heap.size w' w7 → C w7) := Lib.hid fun w' hc w7 b => by
    obtain ⟨xRa, xRx, xRy, K4, m7, t7⟩ := (HC.out w').1 hc
    exact (HC.out _).2 ⟨xRa.below b, xRx.below b, xRy.below b, K4.trans (b.mono (Nat.le_of_lt xRa.lt)), m7.below b, t7.below b⟩
  clear xRa_w7 xRx_w7 xRy_w7 Bw7 mw7 tw7
  refine region_class C (by kernel_rfl) (by kernel_rfl) hC0 ?_
  clear hC0
  repeat
    first
      | go_big_quiet_skip
      | (go_big_quiet_want; go_big_quiet_op; go_big_quiet_on)
      | (refine BigFrame.wpQuiet_want rfl (fun K hK => ?_)
         apply Exists.intro
         refine ⟨fun w' hc => ?_, hK _ ?_⟩
         · obtain ⟨xRa, xRx, xRy, K4, m7, t7⟩ := (HC.out w').1 hc
           have dRa0 := xRa.c0
           have dRa1 := xRa.c1
           have dRa2 := xRa.c2
           have dRa3 := xRa.c3
           have dRa4 := xRa.c4
           have dRa5 := xRa.c5
           have dRx0 := xRx.c0
           have dRx1 := xRx.c1
           have dRx2 := xRx.c2
           have dRx3 := xRx.c3
           have dRy0 := xRy.c0
           have dRy1 := xRy.c1
           have dRy2 := xRy.c2
           have dRy3 := xRy.c3
           unfold Oper.quietAt
           go_simp
           first
             | done
             | rfl
             | ((with_reducible refine (FR.out _ m7 t7).mono ?_); rintro e w7 ⟨rfl, b7⟩; exact ⟨rfl, HK.out w' hc w7 b7⟩)
             | ((with_reducible refine (CT1.out _ t7).mono ?_); rintro e w7 ⟨rfl, b7⟩; exact ⟨rfl, HK.out w' hc w7 b7⟩)
             | ((with_reducible refine (CT2.out _ t7).mono ?_); rintro e w7 ⟨rfl, b7⟩; exact ⟨rfl, HK.out w' hc w7 b7⟩)
         clear hK K
         simp only [Act.put, List.setIfInBounds_toArray, List.set_cons_zero, List.set_cons_succ])
  refine wpQuiet_nil ?_
  intro w8 hc
  obtain ⟨xRa_w8, xRx_w8, xRy_w8, Bw8, mw8, tw8⟩ := (HC.out w8).1 hc
  clear hc HC HK
  go_wp2
  go_ret
  exact ⟨rfl, by rw [HR.out]; exact Bw8⟩

set_option maxRecDepth 100000 in
set_option maxHeartbeats 8000000 in
theorem texts_o1 (o : Bool) (s h : ByteArray) (p : Int) (pa q : ByteArray) (o9 : Bool) (s9 h9 : ByteArray) (p9 : Int) (pa9 q9 : ByteArray) (s1 h1 : ByteArray) (p1 : Int) (s2 h2 : ByteArray) (p2 : Int) (T U : ByteArray) (gT : (T.toList == U.toList) = false) (CB1 : Hid (∀ W, Calls Tryd.prog 12 #[uV o s h p pa q] W fun e w' => e = .returned (.bool false) ∧ Below W.heap.size W w')) (CB2 : Hid (∀ W, Calls Tryd.prog 12 #[uV o9 s9 h9 p9 pa9 q9] W fun e w' => e = .returned (.bool false) ∧ Below W.heap.size W w')) (CF1 : Hid (∀ W, MaxIn W → TabIn W → Calls Tryd.prog 14 #[uV o s h p pa q] W fun e w' => e = .returned (oV true s1 h1 p1) ∧ Below W.heap.size W w')) (CF2 : Hid (∀ W, MaxIn W → TabIn W → Calls Tryd.prog 14 #[uV o9 s9 h9 p9 pa9 q9] W fun e w' => e = .returned (oV false s2 h2 p2) ∧ Below W.heap.size W w')) (CT1 : Hid (∀ W, TabIn W → Calls Tryd.prog 10 #[oV true s1 h1 p1] W fun e w' => e = .returned (.string T) ∧ Below W.heap.size W w')) (CT2 : Hid (∀ W, TabIn W → Calls Tryd.prog 10 #[oV false s2 h2 p2] W fun e w' => e = .returned (.string U) ∧ Below W.heap.size W w'))  (w : World) (hm : MaxIn w) (ht : TabIn w) : Calls Tryd.prog 5 #[uV o s h p pa q, uV o9 s9 h9 p9 pa9 q9] w fun e w' => e = .returned (.bool true) ∧ Below w.heap.size w w' := by
  have FR := froms_hid
  unfold uV oV at *
  go_enter Tryd.func5, Tryd.ntmps5
  go_wp2_with fail
  have xn := BX.made w o s h p pa q
  have xz := BX.made (w.alloc (.cells #[.bool o, .string s, .string h, .int .i64 p, .string pa, .string q] 28)) o9 s9 h9 p9 pa9 q9
  have xy := xn.below ((Below.refl _ _).alloc (Nat.le_refl _) (.cells #[.bool o9, .string s9, .string h9, .int .i64 p9, .string pa9, .string q9] 28))
  have mB := (hm.made (.cells #[.bool o, .string s, .string h, .int .i64 p, .string pa, .string q] 28)).made (.cells #[.bool o9, .string s9, .string h9, .int .i64 p9, .string pa9, .string q9] 28)
  have tB := (ht.made (.cells #[.bool o, .string s, .string h, .int .i64 p, .string pa, .string q] 28)).made (.cells #[.bool o9, .string s9, .string h9, .int .i64 p9, .string pa9, .string q9] 28)
  have BB := ((Below.refl w.heap.size w).alloc (Nat.le_refl _) (.cells #[.bool o, .string s, .string h, .int .i64 p, .string pa, .string q] 28)).alloc (Below.size ((Below.refl w.heap.size w).alloc (Nat.le_refl _) (.cells #[.bool o, .string s, .string h, .int .i64 p, .string pa, .string q] 28))) (.cells #[.bool o9, .string s9, .string h9, .int .i64 p9, .string pa9, .string q9] 28)
  rw [size_alloc] at xz
  clear xn hm ht
  generalize hR : w.heap.size = Ra at xy xz BB ⊢
  have HR := Lib.hid hR
  clear hR
  obtain ⟨Rb, hRb⟩ : ∃ Rb, Ra + 1 = Rb := ⟨_, rfl⟩
  rw [hRb] at xz
  try rw [hRb]
  clear hRb
  generalize (w.alloc (.cells #[.bool o, .string s, .string h, .int .i64 p, .string pa, .string q] 28)).alloc (.cells #[.bool o9, .string s9, .string h9, .int .i64 p9, .string pa9, .string q9] 28) = w1 at xy xz mB tB BB ⊢
  have xRa_w1 := xy
  have xRb_w1 := xz
  clear xy xz
  refine (CB1.out _ ).mono ?_
  rintro e w2 ⟨rfl, b_⟩
  have mw2 := mB.below b_
  have tw2 := tB.below b_
  have Bw2 := BB.trans (b_.mono (Nat.le_of_lt xRa_w1.lt))
  have xRa_w2 := xRa_w1.below b_
  have xRb_w2 := xRb_w1.below b_
  clear b_ mB tB BB xRa_w1 xRb_w1
  have dRb0 := xRb_w2.c0
  have dRb1 := xRb_w2.c1
  have dRb2 := xRb_w2.c2
  have dRb3 := xRb_w2.c3
  have dRb4 := xRb_w2.c4
  have dRb5 := xRb_w2.c5
  go_wp2_with fail
  clear dRb0 dRb1 dRb2 dRb3 dRb4 dRb5
  refine (CB2.out _ ).mono ?_
  rintro e w3 ⟨rfl, b_⟩
  have mw3 := mw2.below b_
  have tw3 := tw2.below b_
  have Bw3 := Bw2.trans (b_.mono (Nat.le_of_lt xRa_w2.lt))
  have xRa_w3 := xRa_w2.below b_
  have xRb_w3 := xRb_w2.below b_
  clear b_ mw2 tw2 Bw2 xRa_w2 xRb_w2
  have dRa0 := xRa_w3.c0
  have dRa1 := xRa_w3.c1
  have dRa2 := xRa_w3.c2
  have dRa3 := xRa_w3.c3
  have dRa4 := xRa_w3.c4
  have dRa5 := xRa_w3.c5
  go_wp2_with fail
  clear dRa0 dRa1 dRa2 dRa3 dRa4 dRa5
  refine (CF1.out _ mw3 tw3).mono ?_
  rintro e w4 ⟨rfl, b_⟩
  have mw4 := mw3.below b_
  have tw4 := tw3.below b_
  have Bw4 := Bw3.trans (b_.mono (Nat.le_of_lt xRa_w3.lt))
  have xRa_w4 := xRa_w3.below b_
  have xRb_w4 := xRb_w3.below b_
  clear b_ mw3 tw3 Bw3 xRa_w3 xRb_w3
  have dRb0 := xRb_w4.c0
  have dRb1 := xRb_w4.c1
  have dRb2 := xRb_w4.c2
  have dRb3 := xRb_w4.c3
  have dRb4 := xRb_w4.c4
  have dRb5 := xRb_w4.c5
  have xq := xRb_w4.below ((Below.refl w4.heap.size w4).alloc (Nat.le_refl _) (.cells #[.bool true, .string s1, .string h1, .int .i64 p1] 23))
  have dq0 := xq.c0
  have dq1 := xq.c1
  have dq2 := xq.c2
  have dq3 := xq.c3
  have dq4 := xq.c4
  have dq5 := xq.c5
  go_wp2_with fail
  clear dRb0 dRb1 dRb2 dRb3 dRb4 dRb5
  clear xq dq0 dq1 dq2 dq3 dq4 dq5
  have xn := OX.made w4 true s1 h1 p1
  have mw5 := mw4.made (.cells #[.bool true, .string s1, .string h1, .int .i64 p1] 23)
  have tw5 := tw4.made (.cells #[.bool true, .string s1, .string h1, .int .i64 p1] 23)
  have Bw5 := Bw4.trans (((Below.refl w4.heap.size w4).alloc (Nat.le_refl _) (.cells #[.bool true, .string s1, .string h1, .int .i64 p1] 23)).mono (Nat.le_of_lt xRa_w4.lt))
  have xRa_w5 := xRa_w4.below ((Below.refl w4.heap.size w4).alloc (Nat.le_refl _) (.cells #[.bool true, .string s1, .string h1, .int .i64 p1] 23))
  have xRb_w5 := xRb_w4.below ((Below.refl w4.heap.size w4).alloc (Nat.le_refl _) (.cells #[.bool true, .string s1, .string h1, .int .i64 p1] 23))
  generalize w4.heap.size = Rx at xn ⊢
  generalize w4.alloc (.cells #[.bool true, .string s1, .string h1, .int .i64 p1] 23) = w5 at xn mw5 tw5 Bw5 xRa_w5 xRb_w5 ⊢
  have xRx_w5 := xn
  clear xn mw4 tw4 Bw4 xRa_w4 xRb_w4
  clear xRb_w5
  refine (CF2.out _ mw5 tw5).mono ?_
  rintro e w6 ⟨rfl, b_⟩
  have mw6 := mw5.below b_
  have tw6 := tw5.below b_
  have Bw6 := Bw5.trans (b_.mono (Nat.le_of_lt xRa_w5.lt))
  have xRa_w6 := xRa_w5.below b_
  have xRx_w6 := xRx_w5.below b_
  clear b_ mw5 tw5 Bw5 xRa_w5 xRx_w5
  have xq := xRx_w6.below ((Below.refl w6.heap.size w6).alloc (Nat.le_refl _) (.cells #[.bool false, .string s2, .string h2, .int .i64 p2] 23))
  have dq0 := xq.c0
  have dq1 := xq.c1
  have dq2 := xq.c2
  have dq3 := xq.c3
  go_wp2
  clear xq dq0 dq1 dq2 dq3
  have xn := OX.made w6 false s2 h2 p2
  have mw7 := mw6.made (.cells #[.bool false, .string s2, .string h2, .int .i64 p2] 23)
  have tw7 := tw6.made (.cells #[.bool false, .string s2, .string h2, .int .i64 p2] 23)
  have Bw7 := Bw6.trans (((Below.refl w6.heap.size w6).alloc (Nat.le_refl _) (.cells #[.bool false, .string s2, .string h2, .int .i64 p2] 23)).mono (Nat.le_of_lt xRa_w6.lt))
  have xRa_w7 := xRa_w6.below ((Below.refl w6.heap.size w6).alloc (Nat.le_refl _) (.cells #[.bool false, .string s2, .string h2, .int .i64 p2] 23))
  have xRx_w7 := xRx_w6.below ((Below.refl w6.heap.size w6).alloc (Nat.le_refl _) (.cells #[.bool false, .string s2, .string h2, .int .i64 p2] 23))
  generalize w6.heap.size = Ry at xn ⊢
  generalize w6.alloc (.cells #[.bool false, .string s2, .string h2, .int .i64 p2] 23) = w7 at xn mw7 tw7 Bw7 xRa_w7 xRx_w7 ⊢
  have xRy_w7 := xn
  clear xn mw6 tw6 Bw6 xRa_w6 xRx_w6
  obtain ⟨C, hC⟩ : ∃ C : World → Prop, ∀ w', C w' ↔ (BX w' Ra o s h p pa q ∧ OX w' Rx true s1 h1 p1 ∧ OX w' Ry false s2 h2 p2 ∧ Below Ra w w' ∧ MaxIn w' ∧ TabIn w') := ⟨_, fun _ => Iff.rfl⟩
  have HC := Lib.hid hC
  clear hC
  have hC0 : C w7.drew := (HC.out _).2 ⟨xRa_w7, xRx_w7, xRy_w7, Bw7.drew, mw7, tw7⟩
  have HK : Hid (∀ w', C w' → ∀ w7, Below w'.heap.size w' w7 → C w7) := Lib.hid fun w' hc w7 b => by
    obtain ⟨xRa, xRx, xRy, K4, m7, t7⟩ := (HC.out w').1 hc
    exact (HC.out _).2 ⟨xRa.below b, xRx.below b, xRy.below b, K4.trans (b.mono (Nat.le_of_lt xRa.lt)), m7.below b, t7.below b⟩
  clear xRa_w7 xRx_w7 xRy_w7 Bw7 mw7 tw7
  refine region_class C (by kernel_rfl) (by kernel_rfl) hC0 ?_
  clear hC0
  repeat
    first
      | go_big_quiet_skip
      | (go_big_quiet_want; go_big_quiet_op; go_big_quiet_on)
      | (refine BigFrame.wpQuiet_want rfl (fun K hK => ?_)
         apply Exists.intro
         refine ⟨fun w' hc => ?_, hK _ ?_⟩
         · obtain ⟨xRa, xRx, xRy, K4, m7, t7⟩ := (HC.out w').1 hc
           have dRa0 := xRa.c0
           have dRa1 := xRa.c1
           have dRa2 := xRa.c2
           have dRa3 := xRa.c3
           have dRa4 := xRa.c4
           have dRa5 := xRa.c5
           have dRx0 := xRx.c0
           have dRx1 := xRx.c1
           have dRx2 := xRx.c2
           have dRx3 := xRx.c3
           have dRy0 := xRy.c0
           have dRy1 := xRy.c1
           have dRy2 := xRy.c2
           have dRy3 := xRy.c3
           unfold Oper.quietAt
           go_simp
           first
             | done
             | rfl
             | ((with_reducible refine (FR.out _ m7 t7).mono ?_); rintro e w7 ⟨rfl, b7⟩; exact ⟨rfl, HK.out w' hc w7 b7⟩)
             | ((with_reducible refine (CT1.out _ t7).mono ?_); rintro e w7 ⟨rfl, b7⟩; exact ⟨rfl, HK.out w' hc w7 b7⟩)
             | ((with_reducible refine (CT2.out _ t7).mono ?_); rintro e w7 ⟨rfl, b7⟩; exact ⟨rfl, HK.out w' hc w7 b7⟩)
         clear hK K
         simp only [Act.put, List.setIfInBounds_toArray, List.set_cons_zero, List.set_cons_succ])
  refine wpQuiet_nil ?_
  intro w8 hc
  obtain ⟨xRa_w8, xRx_w8, xRy_w8, Bw8, mw8, tw8⟩ := (HC.out w8).1 hc
  clear hc HC HK
  go_wp2
  go_ret
  exact ⟨rfl, by rw [HR.out]; exact Bw8⟩

set_option maxRecDepth 100000 in
set_option maxHeartbeats 8000000 in
theorem texts_o2 (o : Bool) (s h : ByteArray) (p : Int) (pa q : ByteArray) (o9 : Bool) (s9 h9 : ByteArray) (p9 : Int) (pa9 q9 : ByteArray) (s1 h1 : ByteArray) (p1 : Int) (s2 h2 : ByteArray) (p2 : Int) (T U : ByteArray) (gT : (T.toList == U.toList) = false) (CB1 : Hid (∀ W, Calls Tryd.prog 12 #[uV o s h p pa q] W fun e w' => e = .returned (.bool false) ∧ Below W.heap.size W w')) (CB2 : Hid (∀ W, Calls Tryd.prog 12 #[uV o9 s9 h9 p9 pa9 q9] W fun e w' => e = .returned (.bool false) ∧ Below W.heap.size W w')) (CF1 : Hid (∀ W, MaxIn W → TabIn W → Calls Tryd.prog 14 #[uV o s h p pa q] W fun e w' => e = .returned (oV false s1 h1 p1) ∧ Below W.heap.size W w')) (CF2 : Hid (∀ W, MaxIn W → TabIn W → Calls Tryd.prog 14 #[uV o9 s9 h9 p9 pa9 q9] W fun e w' => e = .returned (oV true s2 h2 p2) ∧ Below W.heap.size W w')) (CT1 : Hid (∀ W, TabIn W → Calls Tryd.prog 10 #[oV false s1 h1 p1] W fun e w' => e = .returned (.string T) ∧ Below W.heap.size W w')) (CT2 : Hid (∀ W, TabIn W → Calls Tryd.prog 10 #[oV true s2 h2 p2] W fun e w' => e = .returned (.string U) ∧ Below W.heap.size W w'))  (w : World) (hm : MaxIn w) (ht : TabIn w) : Calls Tryd.prog 5 #[uV o s h p pa q, uV o9 s9 h9 p9 pa9 q9] w fun e w' => e = .returned (.bool true) ∧ Below w.heap.size w w' := by
  have FR := froms_hid
  unfold uV oV at *
  go_enter Tryd.func5, Tryd.ntmps5
  go_wp2_with fail
  have xn := BX.made w o s h p pa q
  have xz := BX.made (w.alloc (.cells #[.bool o, .string s, .string h, .int .i64 p, .string pa, .string q] 28)) o9 s9 h9 p9 pa9 q9
  have xy := xn.below ((Below.refl _ _).alloc (Nat.le_refl _) (.cells #[.bool o9, .string s9, .string h9, .int .i64 p9, .string pa9, .string q9] 28))
  have mB := (hm.made (.cells #[.bool o, .string s, .string h, .int .i64 p, .string pa, .string q] 28)).made (.cells #[.bool o9, .string s9, .string h9, .int .i64 p9, .string pa9, .string q9] 28)
  have tB := (ht.made (.cells #[.bool o, .string s, .string h, .int .i64 p, .string pa, .string q] 28)).made (.cells #[.bool o9, .string s9, .string h9, .int .i64 p9, .string pa9, .string q9] 28)
  have BB := ((Below.refl w.heap.size w).alloc (Nat.le_refl _) (.cells #[.bool o, .string s, .string h, .int .i64 p, .string pa, .string q] 28)).alloc (Below.size ((Below.refl w.heap.size w).alloc (Nat.le_refl _) (.cells #[.bool o, .string s, .string h, .int .i64 p, .string pa, .string q] 28))) (.cells #[.bool o9, .string s9, .string h9, .int .i64 p9, .string pa9, .string q9] 28)
  rw [size_alloc] at xz
  clear xn hm ht
  generalize hR : w.heap.size = Ra at xy xz BB ⊢
  have HR := Lib.hid hR
  clear hR
  obtain ⟨Rb, hRb⟩ : ∃ Rb, Ra + 1 = Rb := ⟨_, rfl⟩
  rw [hRb] at xz
  try rw [hRb]
  clear hRb
  generalize (w.alloc (.cells #[.bool o, .string s, .string h, .int .i64 p, .string pa, .string q] 28)).alloc (.cells #[.bool o9, .string s9, .string h9, .int .i64 p9, .string pa9, .string q9] 28) = w1 at xy xz mB tB BB ⊢
  have xRa_w1 := xy
  have xRb_w1 := xz
  clear xy xz
  refine (CB1.out _ ).mono ?_
  rintro e w2 ⟨rfl, b_⟩
  have mw2 := mB.below b_
  have tw2 := tB.below b_
  have Bw2 := BB.trans (b_.mono (Nat.le_of_lt xRa_w1.lt))
  have xRa_w2 := xRa_w1.below b_
  have xRb_w2 := xRb_w1.below b_
  clear b_ mB tB BB xRa_w1 xRb_w1
  have dRb0 := xRb_w2.c0
  have dRb1 := xRb_w2.c1
  have dRb2 := xRb_w2.c2
  have dRb3 := xRb_w2.c3
  have dRb4 := xRb_w2.c4
  have dRb5 := xRb_w2.c5
  go_wp2_with fail
  clear dRb0 dRb1 dRb2 dRb3 dRb4 dRb5
  refine (CB2.out _ ).mono ?_
  rintro e w3 ⟨rfl, b_⟩
  have mw3 := mw2.below b_
  have tw3 := tw2.below b_
  have Bw3 := Bw2.trans (b_.mono (Nat.le_of_lt xRa_w2.lt))
  have xRa_w3 := xRa_w2.below b_
  have xRb_w3 := xRb_w2.below b_
  clear b_ mw2 tw2 Bw2 xRa_w2 xRb_w2
  have dRa0 := xRa_w3.c0
  have dRa1 := xRa_w3.c1
  have dRa2 := xRa_w3.c2
  have dRa3 := xRa_w3.c3
  have dRa4 := xRa_w3.c4
  have dRa5 := xRa_w3.c5
  go_wp2_with fail
  clear dRa0 dRa1 dRa2 dRa3 dRa4 dRa5
  refine (CF1.out _ mw3 tw3).mono ?_
  rintro e w4 ⟨rfl, b_⟩
  have mw4 := mw3.below b_
  have tw4 := tw3.below b_
  have Bw4 := Bw3.trans (b_.mono (Nat.le_of_lt xRa_w3.lt))
  have xRa_w4 := xRa_w3.below b_
  have xRb_w4 := xRb_w3.below b_
  clear b_ mw3 tw3 Bw3 xRa_w3 xRb_w3
  have dRb0 := xRb_w4.c0
  have dRb1 := xRb_w4.c1
  have dRb2 := xRb_w4.c2
  have dRb3 := xRb_w4.c3
  have dRb4 := xRb_w4.c4
  have dRb5 := xRb_w4.c5
  have xq := xRb_w4.below ((Below.refl w4.heap.size w4).alloc (Nat.le_refl _) (.cells #[.bool false, .string s1, .string h1, .int .i64 p1] 23))
  have dq0 := xq.c0
  have dq1 := xq.c1
  have dq2 := xq.c2
  have dq3 := xq.c3
  have dq4 := xq.c4
  have dq5 := xq.c5
  go_wp2_with fail
  clear dRb0 dRb1 dRb2 dRb3 dRb4 dRb5
  clear xq dq0 dq1 dq2 dq3 dq4 dq5
  have xn := OX.made w4 false s1 h1 p1
  have mw5 := mw4.made (.cells #[.bool false, .string s1, .string h1, .int .i64 p1] 23)
  have tw5 := tw4.made (.cells #[.bool false, .string s1, .string h1, .int .i64 p1] 23)
  have Bw5 := Bw4.trans (((Below.refl w4.heap.size w4).alloc (Nat.le_refl _) (.cells #[.bool false, .string s1, .string h1, .int .i64 p1] 23)).mono (Nat.le_of_lt xRa_w4.lt))
  have xRa_w5 := xRa_w4.below ((Below.refl w4.heap.size w4).alloc (Nat.le_refl _) (.cells #[.bool false, .string s1, .string h1, .int .i64 p1] 23))
  have xRb_w5 := xRb_w4.below ((Below.refl w4.heap.size w4).alloc (Nat.le_refl _) (.cells #[.bool false, .string s1, .string h1, .int .i64 p1] 23))
  generalize w4.heap.size = Rx at xn ⊢
  generalize w4.alloc (.cells #[.bool false, .string s1, .string h1, .int .i64 p1] 23) = w5 at xn mw5 tw5 Bw5 xRa_w5 xRb_w5 ⊢
  have xRx_w5 := xn
  clear xn mw4 tw4 Bw4 xRa_w4 xRb_w4
  clear xRb_w5
  refine (CF2.out _ mw5 tw5).mono ?_
  rintro e w6 ⟨rfl, b_⟩
  have mw6 := mw5.below b_
  have tw6 := tw5.below b_
  have Bw6 := Bw5.trans (b_.mono (Nat.le_of_lt xRa_w5.lt))
  have xRa_w6 := xRa_w5.below b_
  have xRx_w6 := xRx_w5.below b_
  clear b_ mw5 tw5 Bw5 xRa_w5 xRx_w5
  have xq := xRx_w6.below ((Below.refl w6.heap.size w6).alloc (Nat.le_refl _) (.cells #[.bool true, .string s2, .string h2, .int .i64 p2] 23))
  have dq0 := xq.c0
  have dq1 := xq.c1
  have dq2 := xq.c2
  have dq3 := xq.c3
  go_wp2
  clear xq dq0 dq1 dq2 dq3
  have xn := OX.made w6 true s2 h2 p2
  have mw7 := mw6.made (.cells #[.bool true, .string s2, .string h2, .int .i64 p2] 23)
  have tw7 := tw6.made (.cells #[.bool true, .string s2, .string h2, .int .i64 p2] 23)
  have Bw7 := Bw6.trans (((Below.refl w6.heap.size w6).alloc (Nat.le_refl _) (.cells #[.bool true, .string s2, .string h2, .int .i64 p2] 23)).mono (Nat.le_of_lt xRa_w6.lt))
  have xRa_w7 := xRa_w6.below ((Below.refl w6.heap.size w6).alloc (Nat.le_refl _) (.cells #[.bool true, .string s2, .string h2, .int .i64 p2] 23))
  have xRx_w7 := xRx_w6.below ((Below.refl w6.heap.size w6).alloc (Nat.le_refl _) (.cells #[.bool true, .string s2, .string h2, .int .i64 p2] 23))
  generalize w6.heap.size = Ry at xn ⊢
  generalize w6.alloc (.cells #[.bool true, .string s2, .string h2, .int .i64 p2] 23) = w7 at xn mw7 tw7 Bw7 xRa_w7 xRx_w7 ⊢
  have xRy_w7 := xn
  clear xn mw6 tw6 Bw6 xRa_w6 xRx_w6
  obtain ⟨C, hC⟩ : ∃ C : World → Prop, ∀ w', C w' ↔ (BX w' Ra o s h p pa q ∧ OX w' Rx false s1 h1 p1 ∧ OX w' Ry true s2 h2 p2 ∧ Below Ra w w' ∧ MaxIn w' ∧ TabIn w') := ⟨_, fun _ => Iff.rfl⟩
  have HC := Lib.hid hC
  clear hC
  have hC0 : C w7.drew := (HC.out _).2 ⟨xRa_w7, xRx_w7, xRy_w7, Bw7.drew, mw7, tw7⟩
  have HK : Hid (∀ w', C w' → ∀ w7, Below w'.heap.size w' w7 → C w7) := Lib.hid fun w' hc w7 b => by
    obtain ⟨xRa, xRx, xRy, K4, m7, t7⟩ := (HC.out w').1 hc
    exact (HC.out _).2 ⟨xRa.below b, xRx.below b, xRy.below b, K4.trans (b.mono (Nat.le_of_lt xRa.lt)), m7.below b, t7.below b⟩
  clear xRa_w7 xRx_w7 xRy_w7 Bw7 mw7 tw7
  refine region_class C (by kernel_rfl) (by kernel_rfl) hC0 ?_
  clear hC0
  repeat
    first
      | go_big_quiet_skip
      | (go_big_quiet_want; go_big_quiet_op; go_big_quiet_on)
      | (refine BigFrame.wpQuiet_want rfl (fun K hK => ?_)
         apply Exists.intro
         refine ⟨fun w' hc => ?_, hK _ ?_⟩
         · obtain ⟨xRa, xRx, xRy, K4, m7, t7⟩ := (HC.out w').1 hc
           have dRa0 := xRa.c0
           have dRa1 := xRa.c1
           have dRa2 := xRa.c2
           have dRa3 := xRa.c3
           have dRa4 := xRa.c4
           have dRa5 := xRa.c5
           have dRx0 := xRx.c0
           have dRx1 := xRx.c1
           have dRx2 := xRx.c2
           have dRx3 := xRx.c3
           have dRy0 := xRy.c0
           have dRy1 := xRy.c1
           have dRy2 := xRy.c2
           have dRy3 := xRy.c3
           unfold Oper.quietAt
           go_simp
           first
             | done
             | rfl
             | ((with_reducible refine (FR.out _ m7 t7).mono ?_); rintro e w7 ⟨rfl, b7⟩; exact ⟨rfl, HK.out w' hc w7 b7⟩)
             | ((with_reducible refine (CT1.out _ t7).mono ?_); rintro e w7 ⟨rfl, b7⟩; exact ⟨rfl, HK.out w' hc w7 b7⟩)
             | ((with_reducible refine (CT2.out _ t7).mono ?_); rintro e w7 ⟨rfl, b7⟩; exact ⟨rfl, HK.out w' hc w7 b7⟩)
         clear hK K
         simp only [Act.put, List.setIfInBounds_toArray, List.set_cons_zero, List.set_cons_succ])
  refine wpQuiet_nil ?_
  intro w8 hc
  obtain ⟨xRa_w8, xRx_w8, xRy_w8, Bw8, mw8, tw8⟩ := (HC.out w8).1 hc
  clear hc HC HK
  go_wp2
  go_ret
  exact ⟨rfl, by rw [HR.out]; exact Bw8⟩

set_option maxRecDepth 100000 in
set_option maxHeartbeats 8000000 in
theorem texts_s (o : Bool) (s h : ByteArray) (p : Int) (pa q : ByteArray) (o9 : Bool) (s9 h9 : ByteArray) (p9 : Int) (pa9 q9 : ByteArray) (o1 : Bool) (s1 h1 : ByteArray) (p1 : Int) (s2 h2 : ByteArray) (p2 : Int) (T U : ByteArray) (gT : (T.toList == U.toList) = false) (CB1 : Hid (∀ W, Calls Tryd.prog 12 #[uV o s h p pa q] W fun e w' => e = .returned (.bool false) ∧ Below W.heap.size W w')) (CB2 : Hid (∀ W, Calls Tryd.prog 12 #[uV o9 s9 h9 p9 pa9 q9] W fun e w' => e = .returned (.bool false) ∧ Below W.heap.size W w')) (CF1 : Hid (∀ W, MaxIn W → TabIn W → Calls Tryd.prog 14 #[uV o s h p pa q] W fun e w' => e = .returned (oV o1 s1 h1 p1) ∧ Below W.heap.size W w')) (CF2 : Hid (∀ W, MaxIn W → TabIn W → Calls Tryd.prog 14 #[uV o9 s9 h9 p9 pa9 q9] W fun e w' => e = .returned (oV o1 s2 h2 p2) ∧ Below W.heap.size W w')) (CT1 : Hid (∀ W, TabIn W → Calls Tryd.prog 10 #[oV o1 s1 h1 p1] W fun e w' => e = .returned (.string T) ∧ Below W.heap.size W w')) (CT2 : Hid (∀ W, TabIn W → Calls Tryd.prog 10 #[oV o1 s2 h2 p2] W fun e w' => e = .returned (.string U) ∧ Below W.heap.size W w')) (g1 : (s1.toList == s2.toList) = false) (w : World) (hm : MaxIn w) (ht : TabIn w) : Calls Tryd.prog 5 #[uV o s h p pa q, uV o9 s9 h9 p9 pa9 q9] w fun e w' => e = .returned (.bool true) ∧ Below w.heap.size w w' := by
  have FR := froms_hid
  unfold uV oV at *
  go_enter Tryd.func5, Tryd.ntmps5
  go_wp2_with fail
  have xn := BX.made w o s h p pa q
  have xz := BX.made (w.alloc (.cells #[.bool o, .string s, .string h, .int .i64 p, .string pa, .string q] 28)) o9 s9 h9 p9 pa9 q9
  have xy := xn.below ((Below.refl _ _).alloc (Nat.le_refl _) (.cells #[.bool o9, .string s9, .string h9, .int .i64 p9, .string pa9, .string q9] 28))
  have mB := (hm.made (.cells #[.bool o, .string s, .string h, .int .i64 p, .string pa, .string q] 28)).made (.cells #[.bool o9, .string s9, .string h9, .int .i64 p9, .string pa9, .string q9] 28)
  have tB := (ht.made (.cells #[.bool o, .string s, .string h, .int .i64 p, .string pa, .string q] 28)).made (.cells #[.bool o9, .string s9, .string h9, .int .i64 p9, .string pa9, .string q9] 28)
  have BB := ((Below.refl w.heap.size w).alloc (Nat.le_refl _) (.cells #[.bool o, .string s, .string h, .int .i64 p, .string pa, .string q] 28)).alloc (Below.size ((Below.refl w.heap.size w).alloc (Nat.le_refl _) (.cells #[.bool o, .string s, .string h, .int .i64 p, .string pa, .string q] 28))) (.cells #[.bool o9, .string s9, .string h9, .int .i64 p9, .string pa9, .string q9] 28)
  rw [size_alloc] at xz
  clear xn hm ht
  generalize hR : w.heap.size = Ra at xy xz BB ⊢
  have HR := Lib.hid hR
  clear hR
  obtain ⟨Rb, hRb⟩ : ∃ Rb, Ra + 1 = Rb := ⟨_, rfl⟩
  rw [hRb] at xz
  try rw [hRb]
  clear hRb
  generalize (w.alloc (.cells #[.bool o, .string s, .string h, .int .i64 p, .string pa, .string q] 28)).alloc (.cells #[.bool o9, .string s9, .string h9, .int .i64 p9, .string pa9, .string q9] 28) = w1 at xy xz mB tB BB ⊢
  have xRa_w1 := xy
  have xRb_w1 := xz
  clear xy xz
  refine (CB1.out _ ).mono ?_
  rintro e w2 ⟨rfl, b_⟩
  have mw2 := mB.below b_
  have tw2 := tB.below b_
  have Bw2 := BB.trans (b_.mono (Nat.le_of_lt xRa_w1.lt))
  have xRa_w2 := xRa_w1.below b_
  have xRb_w2 := xRb_w1.below b_
  clear b_ mB tB BB xRa_w1 xRb_w1
  have dRb0 := xRb_w2.c0
  have dRb1 := xRb_w2.c1
  have dRb2 := xRb_w2.c2
  have dRb3 := xRb_w2.c3
  have dRb4 := xRb_w2.c4
  have dRb5 := xRb_w2.c5
  go_wp2_with fail
  clear dRb0 dRb1 dRb2 dRb3 dRb4 dRb5
  refine (CB2.out _ ).mono ?_
  rintro e w3 ⟨rfl, b_⟩
  have mw3 := mw2.below b_
  have tw3 := tw2.below b_
  have Bw3 := Bw2.trans (b_.mono (Nat.le_of_lt xRa_w2.lt))
  have xRa_w3 := xRa_w2.below b_
  have xRb_w3 := xRb_w2.below b_
  clear b_ mw2 tw2 Bw2 xRa_w2 xRb_w2
  have dRa0 := xRa_w3.c0
  have dRa1 := xRa_w3.c1
  have dRa2 := xRa_w3.c2
  have dRa3 := xRa_w3.c3
  have dRa4 := xRa_w3.c4
  have dRa5 := xRa_w3.c5
  go_wp2_with fail
  clear dRa0 dRa1 dRa2 dRa3 dRa4 dRa5
  refine (CF1.out _ mw3 tw3).mono ?_
  rintro e w4 ⟨rfl, b_⟩
  have mw4 := mw3.below b_
  have tw4 := tw3.below b_
  have Bw4 := Bw3.trans (b_.mono (Nat.le_of_lt xRa_w3.lt))
  have xRa_w4 := xRa_w3.below b_
  have xRb_w4 := xRb_w3.below b_
  clear b_ mw3 tw3 Bw3 xRa_w3 xRb_w3
  have dRb0 := xRb_w4.c0
  have dRb1 := xRb_w4.c1
  have dRb2 := xRb_w4.c2
  have dRb3 := xRb_w4.c3
  have dRb4 := xRb_w4.c4
  have dRb5 := xRb_w4.c5
  have xq := xRb_w4.below ((Below.refl w4.heap.size w4).alloc (Nat.le_refl _) (.cells #[.bool o1, .string s1, .string h1, .int .i64 p1] 23))
  have dq0 := xq.c0
  have dq1 := xq.c1
  have dq2 := xq.c2
  have dq3 := xq.c3
  have dq4 := xq.c4
  have dq5 := xq.c5
  go_wp2_with fail
  clear dRb0 dRb1 dRb2 dRb3 dRb4 dRb5
  clear xq dq0 dq1 dq2 dq3 dq4 dq5
  have xn := OX.made w4 o1 s1 h1 p1
  have mw5 := mw4.made (.cells #[.bool o1, .string s1, .string h1, .int .i64 p1] 23)
  have tw5 := tw4.made (.cells #[.bool o1, .string s1, .string h1, .int .i64 p1] 23)
  have Bw5 := Bw4.trans (((Below.refl w4.heap.size w4).alloc (Nat.le_refl _) (.cells #[.bool o1, .string s1, .string h1, .int .i64 p1] 23)).mono (Nat.le_of_lt xRa_w4.lt))
  have xRa_w5 := xRa_w4.below ((Below.refl w4.heap.size w4).alloc (Nat.le_refl _) (.cells #[.bool o1, .string s1, .string h1, .int .i64 p1] 23))
  have xRb_w5 := xRb_w4.below ((Below.refl w4.heap.size w4).alloc (Nat.le_refl _) (.cells #[.bool o1, .string s1, .string h1, .int .i64 p1] 23))
  generalize w4.heap.size = Rx at xn ⊢
  generalize w4.alloc (.cells #[.bool o1, .string s1, .string h1, .int .i64 p1] 23) = w5 at xn mw5 tw5 Bw5 xRa_w5 xRb_w5 ⊢
  have xRx_w5 := xn
  clear xn mw4 tw4 Bw4 xRa_w4 xRb_w4
  clear xRb_w5
  refine (CF2.out _ mw5 tw5).mono ?_
  rintro e w6 ⟨rfl, b_⟩
  have mw6 := mw5.below b_
  have tw6 := tw5.below b_
  have Bw6 := Bw5.trans (b_.mono (Nat.le_of_lt xRa_w5.lt))
  have xRa_w6 := xRa_w5.below b_
  have xRx_w6 := xRx_w5.below b_
  clear b_ mw5 tw5 Bw5 xRa_w5 xRx_w5
  have xq := xRx_w6.below ((Below.refl w6.heap.size w6).alloc (Nat.le_refl _) (.cells #[.bool o1, .string s2, .string h2, .int .i64 p2] 23))
  have dq0 := xq.c0
  have dq1 := xq.c1
  have dq2 := xq.c2
  have dq3 := xq.c3
  go_wp2
  clear xq dq0 dq1 dq2 dq3
  have xn := OX.made w6 o1 s2 h2 p2
  have mw7 := mw6.made (.cells #[.bool o1, .string s2, .string h2, .int .i64 p2] 23)
  have tw7 := tw6.made (.cells #[.bool o1, .string s2, .string h2, .int .i64 p2] 23)
  have Bw7 := Bw6.trans (((Below.refl w6.heap.size w6).alloc (Nat.le_refl _) (.cells #[.bool o1, .string s2, .string h2, .int .i64 p2] 23)).mono (Nat.le_of_lt xRa_w6.lt))
  have xRa_w7 := xRa_w6.below ((Below.refl w6.heap.size w6).alloc (Nat.le_refl _) (.cells #[.bool o1, .string s2, .string h2, .int .i64 p2] 23))
  have xRx_w7 := xRx_w6.below ((Below.refl w6.heap.size w6).alloc (Nat.le_refl _) (.cells #[.bool o1, .string s2, .string h2, .int .i64 p2] 23))
  generalize w6.heap.size = Ry at xn ⊢
  generalize w6.alloc (.cells #[.bool o1, .string s2, .string h2, .int .i64 p2] 23) = w7 at xn mw7 tw7 Bw7 xRa_w7 xRx_w7 ⊢
  have xRy_w7 := xn
  clear xn mw6 tw6 Bw6 xRa_w6 xRx_w6
  obtain ⟨C, hC⟩ : ∃ C : World → Prop, ∀ w', C w' ↔ (BX w' Ra o s h p pa q ∧ OX w' Rx o1 s1 h1 p1 ∧ OX w' Ry o1 s2 h2 p2 ∧ Below Ra w w' ∧ MaxIn w' ∧ TabIn w') := ⟨_, fun _ => Iff.rfl⟩
  have HC := Lib.hid hC
  clear hC
  have hC0 : C w7.drew := (HC.out _).2 ⟨xRa_w7, xRx_w7, xRy_w7, Bw7.drew, mw7, tw7⟩
  have HK : Hid (∀ w', C w' → ∀ w7, Below w'.heap.size w' w7 → C w7) := Lib.hid fun w' hc w7 b => by
    obtain ⟨xRa, xRx, xRy, K4, m7, t7⟩ := (HC.out w').1 hc
    exact (HC.out _).2 ⟨xRa.below b, xRx.below b, xRy.below b, K4.trans (b.mono (Nat.le_of_lt xRa.lt)), m7.below b, t7.below b⟩
  clear xRa_w7 xRx_w7 xRy_w7 Bw7 mw7 tw7
  refine region_class C (by kernel_rfl) (by kernel_rfl) hC0 ?_
  clear hC0
  repeat
    first
      | go_big_quiet_skip
      | (go_big_quiet_want; go_big_quiet_op; go_big_quiet_on)
      | (refine BigFrame.wpQuiet_want rfl (fun K hK => ?_)
         apply Exists.intro
         refine ⟨fun w' hc => ?_, hK _ ?_⟩
         · obtain ⟨xRa, xRx, xRy, K4, m7, t7⟩ := (HC.out w').1 hc
           have dRa0 := xRa.c0
           have dRa1 := xRa.c1
           have dRa2 := xRa.c2
           have dRa3 := xRa.c3
           have dRa4 := xRa.c4
           have dRa5 := xRa.c5
           have dRx0 := xRx.c0
           have dRx1 := xRx.c1
           have dRx2 := xRx.c2
           have dRx3 := xRx.c3
           have dRy0 := xRy.c0
           have dRy1 := xRy.c1
           have dRy2 := xRy.c2
           have dRy3 := xRy.c3
           unfold Oper.quietAt
           go_simp
           first
             | done
             | rfl
             | ((with_reducible refine (FR.out _ m7 t7).mono ?_); rintro e w7 ⟨rfl, b7⟩; exact ⟨rfl, HK.out w' hc w7 b7⟩)
             | ((with_reducible refine (CT1.out _ t7).mono ?_); rintro e w7 ⟨rfl, b7⟩; exact ⟨rfl, HK.out w' hc w7 b7⟩)
             | ((with_reducible refine (CT2.out _ t7).mono ?_); rintro e w7 ⟨rfl, b7⟩; exact ⟨rfl, HK.out w' hc w7 b7⟩)
         clear hK K
         simp only [Act.put, List.setIfInBounds_toArray, List.set_cons_zero, List.set_cons_succ])
  refine wpQuiet_nil ?_
  intro w8 hc
  obtain ⟨xRa_w8, xRx_w8, xRy_w8, Bw8, mw8, tw8⟩ := (HC.out w8).1 hc
  clear hc HC HK
  go_wp2
  go_ret
  exact ⟨rfl, by rw [HR.out]; exact Bw8⟩

set_option maxRecDepth 100000 in
set_option maxHeartbeats 8000000 in
theorem texts_h (o : Bool) (s h : ByteArray) (p : Int) (pa q : ByteArray) (o9 : Bool) (s9 h9 : ByteArray) (p9 : Int) (pa9 q9 : ByteArray) (o1 : Bool) (s1 h1 : ByteArray) (p1 : Int) (h2 : ByteArray) (p2 : Int) (T U : ByteArray) (gT : (T.toList == U.toList) = false) (CB1 : Hid (∀ W, Calls Tryd.prog 12 #[uV o s h p pa q] W fun e w' => e = .returned (.bool false) ∧ Below W.heap.size W w')) (CB2 : Hid (∀ W, Calls Tryd.prog 12 #[uV o9 s9 h9 p9 pa9 q9] W fun e w' => e = .returned (.bool false) ∧ Below W.heap.size W w')) (CF1 : Hid (∀ W, MaxIn W → TabIn W → Calls Tryd.prog 14 #[uV o s h p pa q] W fun e w' => e = .returned (oV o1 s1 h1 p1) ∧ Below W.heap.size W w')) (CF2 : Hid (∀ W, MaxIn W → TabIn W → Calls Tryd.prog 14 #[uV o9 s9 h9 p9 pa9 q9] W fun e w' => e = .returned (oV o1 s1 h2 p2) ∧ Below W.heap.size W w')) (CT1 : Hid (∀ W, TabIn W → Calls Tryd.prog 10 #[oV o1 s1 h1 p1] W fun e w' => e = .returned (.string T) ∧ Below W.heap.size W w')) (CT2 : Hid (∀ W, TabIn W → Calls Tryd.prog 10 #[oV o1 s1 h2 p2] W fun e w' => e = .returned (.string U) ∧ Below W.heap.size W w')) (gs : (s1.toList == s1.toList) = true) (g1 : (h1.toList == h2.toList) = false) (w : World) (hm : MaxIn w) (ht : TabIn w) : Calls Tryd.prog 5 #[uV o s h p pa q, uV o9 s9 h9 p9 pa9 q9] w fun e w' => e = .returned (.bool true) ∧ Below w.heap.size w w' := by
  have FR := froms_hid
  unfold uV oV at *
  go_enter Tryd.func5, Tryd.ntmps5
  go_wp2_with fail
  have xn := BX.made w o s h p pa q
  have xz := BX.made (w.alloc (.cells #[.bool o, .string s, .string h, .int .i64 p, .string pa, .string q] 28)) o9 s9 h9 p9 pa9 q9
  have xy := xn.below ((Below.refl _ _).alloc (Nat.le_refl _) (.cells #[.bool o9, .string s9, .string h9, .int .i64 p9, .string pa9, .string q9] 28))
  have mB := (hm.made (.cells #[.bool o, .string s, .string h, .int .i64 p, .string pa, .string q] 28)).made (.cells #[.bool o9, .string s9, .string h9, .int .i64 p9, .string pa9, .string q9] 28)
  have tB := (ht.made (.cells #[.bool o, .string s, .string h, .int .i64 p, .string pa, .string q] 28)).made (.cells #[.bool o9, .string s9, .string h9, .int .i64 p9, .string pa9, .string q9] 28)
  have BB := ((Below.refl w.heap.size w).alloc (Nat.le_refl _) (.cells #[.bool o, .string s, .string h, .int .i64 p, .string pa, .string q] 28)).alloc (Below.size ((Below.refl w.heap.size w).alloc (Nat.le_refl _) (.cells #[.bool o, .string s, .string h, .int .i64 p, .string pa, .string q] 28))) (.cells #[.bool o9, .string s9, .string h9, .int .i64 p9, .string pa9, .string q9] 28)
  rw [size_alloc] at xz
  clear xn hm ht
  generalize hR : w.heap.size = Ra at xy xz BB ⊢
  have HR := Lib.hid hR
  clear hR
  obtain ⟨Rb, hRb⟩ : ∃ Rb, Ra + 1 = Rb := ⟨_, rfl⟩
  rw [hRb] at xz
  try rw [hRb]
  clear hRb
  generalize (w.alloc (.cells #[.bool o, .string s, .string h, .int .i64 p, .string pa, .string q] 28)).alloc (.cells #[.bool o9, .string s9, .string h9, .int .i64 p9, .string pa9, .string q9] 28) = w1 at xy xz mB tB BB ⊢
  have xRa_w1 := xy
  have xRb_w1 := xz
  clear xy xz
  refine (CB1.out _ ).mono ?_
  rintro e w2 ⟨rfl, b_⟩
  have mw2 := mB.below b_
  have tw2 := tB.below b_
  have Bw2 := BB.trans (b_.mono (Nat.le_of_lt xRa_w1.lt))
  have xRa_w2 := xRa_w1.below b_
  have xRb_w2 := xRb_w1.below b_
  clear b_ mB tB BB xRa_w1 xRb_w1
  have dRb0 := xRb_w2.c0
  have dRb1 := xRb_w2.c1
  have dRb2 := xRb_w2.c2
  have dRb3 := xRb_w2.c3
  have dRb4 := xRb_w2.c4
  have dRb5 := xRb_w2.c5
  go_wp2_with fail
  clear dRb0 dRb1 dRb2 dRb3 dRb4 dRb5
  refine (CB2.out _ ).mono ?_
  rintro e w3 ⟨rfl, b_⟩
  have mw3 := mw2.below b_
  have tw3 := tw2.below b_
  have Bw3 := Bw2.trans (b_.mono (Nat.le_of_lt xRa_w2.lt))
  have xRa_w3 := xRa_w2.below b_
  have xRb_w3 := xRb_w2.below b_
  clear b_ mw2 tw2 Bw2 xRa_w2 xRb_w2
  have dRa0 := xRa_w3.c0
  have dRa1 := xRa_w3.c1
  have dRa2 := xRa_w3.c2
  have dRa3 := xRa_w3.c3
  have dRa4 := xRa_w3.c4
  have dRa5 := xRa_w3.c5
  go_wp2_with fail
  clear dRa0 dRa1 dRa2 dRa3 dRa4 dRa5
  refine (CF1.out _ mw3 tw3).mono ?_
  rintro e w4 ⟨rfl, b_⟩
  have mw4 := mw3.below b_
  have tw4 := tw3.below b_
  have Bw4 := Bw3.trans (b_.mono (Nat.le_of_lt xRa_w3.lt))
  have xRa_w4 := xRa_w3.below b_
  have xRb_w4 := xRb_w3.below b_
  clear b_ mw3 tw3 Bw3 xRa_w3 xRb_w3
  have dRb0 := xRb_w4.c0
  have dRb1 := xRb_w4.c1
  have dRb2 := xRb_w4.c2
  have dRb3 := xRb_w4.c3
  have dRb4 := xRb_w4.c4
  have dRb5 := xRb_w4.c5
  have xq := xRb_w4.below ((Below.refl w4.heap.size w4).alloc (Nat.le_refl _) (.cells #[.bool o1, .string s1, .string h1, .int .i64 p1] 23))
  have dq0 := xq.c0
  have dq1 := xq.c1
  have dq2 := xq.c2
  have dq3 := xq.c3
  have dq4 := xq.c4
  have dq5 := xq.c5
  go_wp2_with fail
  clear dRb0 dRb1 dRb2 dRb3 dRb4 dRb5
  clear xq dq0 dq1 dq2 dq3 dq4 dq5
  have xn := OX.made w4 o1 s1 h1 p1
  have mw5 := mw4.made (.cells #[.bool o1, .string s1, .string h1, .int .i64 p1] 23)
  have tw5 := tw4.made (.cells #[.bool o1, .string s1, .string h1, .int .i64 p1] 23)
  have Bw5 := Bw4.trans (((Below.refl w4.heap.size w4).alloc (Nat.le_refl _) (.cells #[.bool o1, .string s1, .string h1, .int .i64 p1] 23)).mono (Nat.le_of_lt xRa_w4.lt))
  have xRa_w5 := xRa_w4.below ((Below.refl w4.heap.size w4).alloc (Nat.le_refl _) (.cells #[.bool o1, .string s1, .string h1, .int .i64 p1] 23))
  have xRb_w5 := xRb_w4.below ((Below.refl w4.heap.size w4).alloc (Nat.le_refl _) (.cells #[.bool o1, .string s1, .string h1, .int .i64 p1] 23))
  generalize w4.heap.size = Rx at xn ⊢
  generalize w4.alloc (.cells #[.bool o1, .string s1, .string h1, .int .i64 p1] 23) = w5 at xn mw5 tw5 Bw5 xRa_w5 xRb_w5 ⊢
  have xRx_w5 := xn
  clear xn mw4 tw4 Bw4 xRa_w4 xRb_w4
  clear xRb_w5
  refine (CF2.out _ mw5 tw5).mono ?_
  rintro e w6 ⟨rfl, b_⟩
  have mw6 := mw5.below b_
  have tw6 := tw5.below b_
  have Bw6 := Bw5.trans (b_.mono (Nat.le_of_lt xRa_w5.lt))
  have xRa_w6 := xRa_w5.below b_
  have xRx_w6 := xRx_w5.below b_
  clear b_ mw5 tw5 Bw5 xRa_w5 xRx_w5
  have xq := xRx_w6.below ((Below.refl w6.heap.size w6).alloc (Nat.le_refl _) (.cells #[.bool o1, .string s1, .string h2, .int .i64 p2] 23))
  have dq0 := xq.c0
  have dq1 := xq.c1
  have dq2 := xq.c2
  have dq3 := xq.c3
  go_wp2
  clear xq dq0 dq1 dq2 dq3
  have xn := OX.made w6 o1 s1 h2 p2
  have mw7 := mw6.made (.cells #[.bool o1, .string s1, .string h2, .int .i64 p2] 23)
  have tw7 := tw6.made (.cells #[.bool o1, .string s1, .string h2, .int .i64 p2] 23)
  have Bw7 := Bw6.trans (((Below.refl w6.heap.size w6).alloc (Nat.le_refl _) (.cells #[.bool o1, .string s1, .string h2, .int .i64 p2] 23)).mono (Nat.le_of_lt xRa_w6.lt))
  have xRa_w7 := xRa_w6.below ((Below.refl w6.heap.size w6).alloc (Nat.le_refl _) (.cells #[.bool o1, .string s1, .string h2, .int .i64 p2] 23))
  have xRx_w7 := xRx_w6.below ((Below.refl w6.heap.size w6).alloc (Nat.le_refl _) (.cells #[.bool o1, .string s1, .string h2, .int .i64 p2] 23))
  generalize w6.heap.size = Ry at xn ⊢
  generalize w6.alloc (.cells #[.bool o1, .string s1, .string h2, .int .i64 p2] 23) = w7 at xn mw7 tw7 Bw7 xRa_w7 xRx_w7 ⊢
  have xRy_w7 := xn
  clear xn mw6 tw6 Bw6 xRa_w6 xRx_w6
  obtain ⟨C, hC⟩ : ∃ C : World → Prop, ∀ w', C w' ↔ (BX w' Ra o s h p pa q ∧ OX w' Rx o1 s1 h1 p1 ∧ OX w' Ry o1 s1 h2 p2 ∧ Below Ra w w' ∧ MaxIn w' ∧ TabIn w') := ⟨_, fun _ => Iff.rfl⟩
  have HC := Lib.hid hC
  clear hC
  have hC0 : C w7.drew := (HC.out _).2 ⟨xRa_w7, xRx_w7, xRy_w7, Bw7.drew, mw7, tw7⟩
  have HK : Hid (∀ w', C w' → ∀ w7, Below w'.heap.size w' w7 → C w7) := Lib.hid fun w' hc w7 b => by
    obtain ⟨xRa, xRx, xRy, K4, m7, t7⟩ := (HC.out w').1 hc
    exact (HC.out _).2 ⟨xRa.below b, xRx.below b, xRy.below b, K4.trans (b.mono (Nat.le_of_lt xRa.lt)), m7.below b, t7.below b⟩
  clear xRa_w7 xRx_w7 xRy_w7 Bw7 mw7 tw7
  refine region_class C (by kernel_rfl) (by kernel_rfl) hC0 ?_
  clear hC0
  repeat
    first
      | go_big_quiet_skip
      | (go_big_quiet_want; go_big_quiet_op; go_big_quiet_on)
      | (refine BigFrame.wpQuiet_want rfl (fun K hK => ?_)
         apply Exists.intro
         refine ⟨fun w' hc => ?_, hK _ ?_⟩
         · obtain ⟨xRa, xRx, xRy, K4, m7, t7⟩ := (HC.out w').1 hc
           have dRa0 := xRa.c0
           have dRa1 := xRa.c1
           have dRa2 := xRa.c2
           have dRa3 := xRa.c3
           have dRa4 := xRa.c4
           have dRa5 := xRa.c5
           have dRx0 := xRx.c0
           have dRx1 := xRx.c1
           have dRx2 := xRx.c2
           have dRx3 := xRx.c3
           have dRy0 := xRy.c0
           have dRy1 := xRy.c1
           have dRy2 := xRy.c2
           have dRy3 := xRy.c3
           unfold Oper.quietAt
           go_simp
           first
             | done
             | rfl
             | ((with_reducible refine (FR.out _ m7 t7).mono ?_); rintro e w7 ⟨rfl, b7⟩; exact ⟨rfl, HK.out w' hc w7 b7⟩)
             | ((with_reducible refine (CT1.out _ t7).mono ?_); rintro e w7 ⟨rfl, b7⟩; exact ⟨rfl, HK.out w' hc w7 b7⟩)
             | ((with_reducible refine (CT2.out _ t7).mono ?_); rintro e w7 ⟨rfl, b7⟩; exact ⟨rfl, HK.out w' hc w7 b7⟩)
         clear hK K
         simp only [Act.put, List.setIfInBounds_toArray, List.set_cons_zero, List.set_cons_succ])
  refine wpQuiet_nil ?_
  intro w8 hc
  obtain ⟨xRa_w8, xRx_w8, xRy_w8, Bw8, mw8, tw8⟩ := (HC.out w8).1 hc
  clear hc HC HK
  go_wp2
  go_ret
  exact ⟨rfl, by rw [HR.out]; exact Bw8⟩

set_option maxRecDepth 100000 in
set_option maxHeartbeats 8000000 in
theorem texts_p (o : Bool) (s h : ByteArray) (p : Int) (pa q : ByteArray) (o9 : Bool) (s9 h9 : ByteArray) (p9 : Int) (pa9 q9 : ByteArray) (o1 : Bool) (s1 h1 : ByteArray) (p1 : Int) (p2 : Int) (T U : ByteArray) (gT : (T.toList == U.toList) = false) (CB1 : Hid (∀ W, Calls Tryd.prog 12 #[uV o s h p pa q] W fun e w' => e = .returned (.bool false) ∧ Below W.heap.size W w')) (CB2 : Hid (∀ W, Calls Tryd.prog 12 #[uV o9 s9 h9 p9 pa9 q9] W fun e w' => e = .returned (.bool false) ∧ Below W.heap.size W w')) (CF1 : Hid (∀ W, MaxIn W → TabIn W → Calls Tryd.prog 14 #[uV o s h p pa q] W fun e w' => e = .returned (oV o1 s1 h1 p1) ∧ Below W.heap.size W w')) (CF2 : Hid (∀ W, MaxIn W → TabIn W → Calls Tryd.prog 14 #[uV o9 s9 h9 p9 pa9 q9] W fun e w' => e = .returned (oV o1 s1 h1 p2) ∧ Below W.heap.size W w')) (CT1 : Hid (∀ W, TabIn W → Calls Tryd.prog 10 #[oV o1 s1 h1 p1] W fun e w' => e = .returned (.string T) ∧ Below W.heap.size W w')) (CT2 : Hid (∀ W, TabIn W → Calls Tryd.prog 10 #[oV o1 s1 h1 p2] W fun e w' => e = .returned (.string U) ∧ Below W.heap.size W w')) (gs : (s1.toList == s1.toList) = true) (gh : (h1.toList == h1.toList) = true) (g1 : (p1 == p2) = false) (w : World) (hm : MaxIn w) (ht : TabIn w) : Calls Tryd.prog 5 #[uV o s h p pa q, uV o9 s9 h9 p9 pa9 q9] w fun e w' => e = .returned (.bool true) ∧ Below w.heap.size w w' := by
  have FR := froms_hid
  unfold uV oV at *
  go_enter Tryd.func5, Tryd.ntmps5
  go_wp2_with fail
  have xn := BX.made w o s h p pa q
  have xz := BX.made (w.alloc (.cells #[.bool o, .string s, .string h, .int .i64 p, .string pa, .string q] 28)) o9 s9 h9 p9 pa9 q9
  have xy := xn.below ((Below.refl _ _).alloc (Nat.le_refl _) (.cells #[.bool o9, .string s9, .string h9, .int .i64 p9, .string pa9, .string q9] 28))
  have mB := (hm.made (.cells #[.bool o, .string s, .string h, .int .i64 p, .string pa, .string q] 28)).made (.cells #[.bool o9, .string s9, .string h9, .int .i64 p9, .string pa9, .string q9] 28)
  have tB := (ht.made (.cells #[.bool o, .string s, .string h, .int .i64 p, .string pa, .string q] 28)).made (.cells #[.bool o9, .string s9, .string h9, .int .i64 p9, .string pa9, .string q9] 28)
  have BB := ((Below.refl w.heap.size w).alloc (Nat.le_refl _) (.cells #[.bool o, .string s, .string h, .int .i64 p, .string pa, .string q] 28)).alloc (Below.size ((Below.refl w.heap.size w).alloc (Nat.le_refl _) (.cells #[.bool o, .string s, .string h, .int .i64 p, .string pa, .string q] 28))) (.cells #[.bool o9, .string s9, .string h9, .int .i64 p9, .string pa9, .string q9] 28)
  rw [size_alloc] at xz
  clear xn hm ht
  generalize hR : w.heap.size = Ra at xy xz BB ⊢
  have HR := Lib.hid hR
  clear hR
  obtain ⟨Rb, hRb⟩ : ∃ Rb, Ra + 1 = Rb := ⟨_, rfl⟩
  rw [hRb] at xz
  try rw [hRb]
  clear hRb
  generalize (w.alloc (.cells #[.bool o, .string s, .string h, .int .i64 p, .string pa, .string q] 28)).alloc (.cells #[.bool o9, .string s9, .string h9, .int .i64 p9, .string pa9, .string q9] 28) = w1 at xy xz mB tB BB ⊢
  have xRa_w1 := xy
  have xRb_w1 := xz
  clear xy xz
  refine (CB1.out _ ).mono ?_
  rintro e w2 ⟨rfl, b_⟩
  have mw2 := mB.below b_
  have tw2 := tB.below b_
  have Bw2 := BB.trans (b_.mono (Nat.le_of_lt xRa_w1.lt))
  have xRa_w2 := xRa_w1.below b_
  have xRb_w2 := xRb_w1.below b_
  clear b_ mB tB BB xRa_w1 xRb_w1
  have dRb0 := xRb_w2.c0
  have dRb1 := xRb_w2.c1
  have dRb2 := xRb_w2.c2
  have dRb3 := xRb_w2.c3
  have dRb4 := xRb_w2.c4
  have dRb5 := xRb_w2.c5
  go_wp2_with fail
  clear dRb0 dRb1 dRb2 dRb3 dRb4 dRb5
  refine (CB2.out _ ).mono ?_
  rintro e w3 ⟨rfl, b_⟩
  have mw3 := mw2.below b_
  have tw3 := tw2.below b_
  have Bw3 := Bw2.trans (b_.mono (Nat.le_of_lt xRa_w2.lt))
  have xRa_w3 := xRa_w2.below b_
  have xRb_w3 := xRb_w2.below b_
  clear b_ mw2 tw2 Bw2 xRa_w2 xRb_w2
  have dRa0 := xRa_w3.c0
  have dRa1 := xRa_w3.c1
  have dRa2 := xRa_w3.c2
  have dRa3 := xRa_w3.c3
  have dRa4 := xRa_w3.c4
  have dRa5 := xRa_w3.c5
  go_wp2_with fail
  clear dRa0 dRa1 dRa2 dRa3 dRa4 dRa5
  refine (CF1.out _ mw3 tw3).mono ?_
  rintro e w4 ⟨rfl, b_⟩
  have mw4 := mw3.below b_
  have tw4 := tw3.below b_
  have Bw4 := Bw3.trans (b_.mono (Nat.le_of_lt xRa_w3.lt))
  have xRa_w4 := xRa_w3.below b_
  have xRb_w4 := xRb_w3.below b_
  clear b_ mw3 tw3 Bw3 xRa_w3 xRb_w3
  have dRb0 := xRb_w4.c0
  have dRb1 := xRb_w4.c1
  have dRb2 := xRb_w4.c2
  have dRb3 := xRb_w4.c3
  have dRb4 := xRb_w4.c4
  have dRb5 := xRb_w4.c5
  have xq := xRb_w4.below ((Below.refl w4.heap.size w4).alloc (Nat.le_refl _) (.cells #[.bool o1, .string s1, .string h1, .int .i64 p1] 23))
  have dq0 := xq.c0
  have dq1 := xq.c1
  have dq2 := xq.c2
  have dq3 := xq.c3
  have dq4 := xq.c4
  have dq5 := xq.c5
  go_wp2_with fail
  clear dRb0 dRb1 dRb2 dRb3 dRb4 dRb5
  clear xq dq0 dq1 dq2 dq3 dq4 dq5
  have xn := OX.made w4 o1 s1 h1 p1
  have mw5 := mw4.made (.cells #[.bool o1, .string s1, .string h1, .int .i64 p1] 23)
  have tw5 := tw4.made (.cells #[.bool o1, .string s1, .string h1, .int .i64 p1] 23)
  have Bw5 := Bw4.trans (((Below.refl w4.heap.size w4).alloc (Nat.le_refl _) (.cells #[.bool o1, .string s1, .string h1, .int .i64 p1] 23)).mono (Nat.le_of_lt xRa_w4.lt))
  have xRa_w5 := xRa_w4.below ((Below.refl w4.heap.size w4).alloc (Nat.le_refl _) (.cells #[.bool o1, .string s1, .string h1, .int .i64 p1] 23))
  have xRb_w5 := xRb_w4.below ((Below.refl w4.heap.size w4).alloc (Nat.le_refl _) (.cells #[.bool o1, .string s1, .string h1, .int .i64 p1] 23))
  generalize w4.heap.size = Rx at xn ⊢
  generalize w4.alloc (.cells #[.bool o1, .string s1, .string h1, .int .i64 p1] 23) = w5 at xn mw5 tw5 Bw5 xRa_w5 xRb_w5 ⊢
  have xRx_w5 := xn
  clear xn mw4 tw4 Bw4 xRa_w4 xRb_w4
  clear xRb_w5
  refine (CF2.out _ mw5 tw5).mono ?_
  rintro e w6 ⟨rfl, b_⟩
  have mw6 := mw5.below b_
  have tw6 := tw5.below b_
  have Bw6 := Bw5.trans (b_.mono (Nat.le_of_lt xRa_w5.lt))
  have xRa_w6 := xRa_w5.below b_
  have xRx_w6 := xRx_w5.below b_
  clear b_ mw5 tw5 Bw5 xRa_w5 xRx_w5
  have xq := xRx_w6.below ((Below.refl w6.heap.size w6).alloc (Nat.le_refl _) (.cells #[.bool o1, .string s1, .string h1, .int .i64 p2] 23))
  have dq0 := xq.c0
  have dq1 := xq.c1
  have dq2 := xq.c2
  have dq3 := xq.c3
  go_wp2
  clear xq dq0 dq1 dq2 dq3
  have xn := OX.made w6 o1 s1 h1 p2
  have mw7 := mw6.made (.cells #[.bool o1, .string s1, .string h1, .int .i64 p2] 23)
  have tw7 := tw6.made (.cells #[.bool o1, .string s1, .string h1, .int .i64 p2] 23)
  have Bw7 := Bw6.trans (((Below.refl w6.heap.size w6).alloc (Nat.le_refl _) (.cells #[.bool o1, .string s1, .string h1, .int .i64 p2] 23)).mono (Nat.le_of_lt xRa_w6.lt))
  have xRa_w7 := xRa_w6.below ((Below.refl w6.heap.size w6).alloc (Nat.le_refl _) (.cells #[.bool o1, .string s1, .string h1, .int .i64 p2] 23))
  have xRx_w7 := xRx_w6.below ((Below.refl w6.heap.size w6).alloc (Nat.le_refl _) (.cells #[.bool o1, .string s1, .string h1, .int .i64 p2] 23))
  generalize w6.heap.size = Ry at xn ⊢
  generalize w6.alloc (.cells #[.bool o1, .string s1, .string h1, .int .i64 p2] 23) = w7 at xn mw7 tw7 Bw7 xRa_w7 xRx_w7 ⊢
  have xRy_w7 := xn
  clear xn mw6 tw6 Bw6 xRa_w6 xRx_w6
  obtain ⟨C, hC⟩ : ∃ C : World → Prop, ∀ w', C w' ↔ (BX w' Ra o s h p pa q ∧ OX w' Rx o1 s1 h1 p1 ∧ OX w' Ry o1 s1 h1 p2 ∧ Below Ra w w' ∧ MaxIn w' ∧ TabIn w') := ⟨_, fun _ => Iff.rfl⟩
  have HC := Lib.hid hC
  clear hC
  have hC0 : C w7.drew := (HC.out _).2 ⟨xRa_w7, xRx_w7, xRy_w7, Bw7.drew, mw7, tw7⟩
  have HK : Hid (∀ w', C w' → ∀ w7, Below w'.heap.size w' w7 → C w7) := Lib.hid fun w' hc w7 b => by
    obtain ⟨xRa, xRx, xRy, K4, m7, t7⟩ := (HC.out w').1 hc
    exact (HC.out _).2 ⟨xRa.below b, xRx.below b, xRy.below b, K4.trans (b.mono (Nat.le_of_lt xRa.lt)), m7.below b, t7.below b⟩
  clear xRa_w7 xRx_w7 xRy_w7 Bw7 mw7 tw7
  refine region_class C (by kernel_rfl) (by kernel_rfl) hC0 ?_
  clear hC0
  repeat
    first
      | go_big_quiet_skip
      | (go_big_quiet_want; go_big_quiet_op; go_big_quiet_on)
      | (refine BigFrame.wpQuiet_want rfl (fun K hK => ?_)
         apply Exists.intro
         refine ⟨fun w' hc => ?_, hK _ ?_⟩
         · obtain ⟨xRa, xRx, xRy, K4, m7, t7⟩ := (HC.out w').1 hc
           have dRa0 := xRa.c0
           have dRa1 := xRa.c1
           have dRa2 := xRa.c2
           have dRa3 := xRa.c3
           have dRa4 := xRa.c4
           have dRa5 := xRa.c5
           have dRx0 := xRx.c0
           have dRx1 := xRx.c1
           have dRx2 := xRx.c2
           have dRx3 := xRx.c3
           have dRy0 := xRy.c0
           have dRy1 := xRy.c1
           have dRy2 := xRy.c2
           have dRy3 := xRy.c3
           unfold Oper.quietAt
           go_simp
           first
             | done
             | rfl
             | ((with_reducible refine (FR.out _ m7 t7).mono ?_); rintro e w7 ⟨rfl, b7⟩; exact ⟨rfl, HK.out w' hc w7 b7⟩)
             | ((with_reducible refine (CT1.out _ t7).mono ?_); rintro e w7 ⟨rfl, b7⟩; exact ⟨rfl, HK.out w' hc w7 b7⟩)
             | ((with_reducible refine (CT2.out _ t7).mono ?_); rintro e w7 ⟨rfl, b7⟩; exact ⟨rfl, HK.out w' hc w7 b7⟩)
         clear hK K
         simp only [Act.put, List.setIfInBounds_toArray, List.set_cons_zero, List.set_cons_succ])
  refine wpQuiet_nil ?_
  intro w8 hc
  obtain ⟨xRa_w8, xRx_w8, xRy_w8, Bw8, mw8, tw8⟩ := (HC.out w8).1 hc
  clear hc HC HK
  go_wp2
  go_ret
  exact ⟨rfl, by rw [HR.out]; exact Bw8⟩

set_option maxRecDepth 100000 in
set_option maxHeartbeats 8000000 in
theorem texts_big1 (o : Bool) (s h : ByteArray) (p : Int) (pa q : ByteArray) (o9 : Bool) (s9 h9 : ByteArray) (p9 : Int) (pa9 q9 : ByteArray) (CB1 : Hid (∀ W, Calls Tryd.prog 12 #[uV o s h p pa q] W fun e w' => e = .returned (.bool true) ∧ Below W.heap.size W w')) (w : World) (hm : MaxIn w) (ht : TabIn w) : Calls Tryd.prog 5 #[uV o s h p pa q, uV o9 s9 h9 p9 pa9 q9] w fun e w' => e = .returned (.bool true) ∧ Below w.heap.size w w' := by
  unfold uV at *
  go_enter Tryd.func5, Tryd.ntmps5
  go_wp2_with fail
  have xn := BX.made w o s h p pa q
  have xz := BX.made (w.alloc (.cells #[.bool o, .string s, .string h, .int .i64 p, .string pa, .string q] 28)) o9 s9 h9 p9 pa9 q9
  have xy := xn.below ((Below.refl _ _).alloc (Nat.le_refl _) (.cells #[.bool o9, .string s9, .string h9, .int .i64 p9, .string pa9, .string q9] 28))
  have mB := (hm.made (.cells #[.bool o, .string s, .string h, .int .i64 p, .string pa, .string q] 28)).made (.cells #[.bool o9, .string s9, .string h9, .int .i64 p9, .string pa9, .string q9] 28)
  have tB := (ht.made (.cells #[.bool o, .string s, .string h, .int .i64 p, .string pa, .string q] 28)).made (.cells #[.bool o9, .string s9, .string h9, .int .i64 p9, .string pa9, .string q9] 28)
  have BB := ((Below.refl w.heap.size w).alloc (Nat.le_refl _) (.cells #[.bool o, .string s, .string h, .int .i64 p, .string pa, .string q] 28)).alloc (Below.size ((Below.refl w.heap.size w).alloc (Nat.le_refl _) (.cells #[.bool o, .string s, .string h, .int .i64 p, .string pa, .string q] 28))) (.cells #[.bool o9, .string s9, .string h9, .int .i64 p9, .string pa9, .string q9] 28)
  rw [size_alloc] at xz
  clear xn hm ht
  generalize hR : w.heap.size = Ra at xy xz BB ⊢
  have HR := Lib.hid hR
  clear hR
  obtain ⟨Rb, hRb⟩ : ∃ Rb, Ra + 1 = Rb := ⟨_, rfl⟩
  rw [hRb] at xz
  try rw [hRb]
  clear hRb
  generalize (w.alloc (.cells #[.bool o, .string s, .string h, .int .i64 p, .string pa, .string q] 28)).alloc (.cells #[.bool o9, .string s9, .string h9, .int .i64 p9, .string pa9, .string q9] 28) = w1 at xy xz mB tB BB ⊢
  have xRa_w1 := xy
  have xRb_w1 := xz
  clear xy xz
  refine (CB1.out _ ).mono ?_
  rintro e w2 ⟨rfl, b_⟩
  have mw2 := mB.below b_
  have tw2 := tB.below b_
  have Bw2 := BB.trans (b_.mono (Nat.le_of_lt xRa_w1.lt))
  have xRa_w2 := xRa_w1.below b_
  have xRb_w2 := xRb_w1.below b_
  clear b_ mB tB BB xRa_w1 xRb_w1
  go_wp2
  go_ret
  exact ⟨rfl, by rw [HR.out]; exact Bw2⟩

set_option maxRecDepth 100000 in
set_option maxHeartbeats 8000000 in
theorem texts_big2 (o : Bool) (s h : ByteArray) (p : Int) (pa q : ByteArray) (o9 : Bool) (s9 h9 : ByteArray) (p9 : Int) (pa9 q9 : ByteArray) (CB1 : Hid (∀ W, Calls Tryd.prog 12 #[uV o s h p pa q] W fun e w' => e = .returned (.bool false) ∧ Below W.heap.size W w')) (CB2 : Hid (∀ W, Calls Tryd.prog 12 #[uV o9 s9 h9 p9 pa9 q9] W fun e w' => e = .returned (.bool true) ∧ Below W.heap.size W w')) (w : World) (hm : MaxIn w) (ht : TabIn w) : Calls Tryd.prog 5 #[uV o s h p pa q, uV o9 s9 h9 p9 pa9 q9] w fun e w' => e = .returned (.bool true) ∧ Below w.heap.size w w' := by
  unfold uV at *
  go_enter Tryd.func5, Tryd.ntmps5
  go_wp2_with fail
  have xn := BX.made w o s h p pa q
  have xz := BX.made (w.alloc (.cells #[.bool o, .string s, .string h, .int .i64 p, .string pa, .string q] 28)) o9 s9 h9 p9 pa9 q9
  have xy := xn.below ((Below.refl _ _).alloc (Nat.le_refl _) (.cells #[.bool o9, .string s9, .string h9, .int .i64 p9, .string pa9, .string q9] 28))
  have mB := (hm.made (.cells #[.bool o, .string s, .string h, .int .i64 p, .string pa, .string q] 28)).made (.cells #[.bool o9, .string s9, .string h9, .int .i64 p9, .string pa9, .string q9] 28)
  have tB := (ht.made (.cells #[.bool o, .string s, .string h, .int .i64 p, .string pa, .string q] 28)).made (.cells #[.bool o9, .string s9, .string h9, .int .i64 p9, .string pa9, .string q9] 28)
  have BB := ((Below.refl w.heap.size w).alloc (Nat.le_refl _) (.cells #[.bool o, .string s, .string h, .int .i64 p, .string pa, .string q] 28)).alloc (Below.size ((Below.refl w.heap.size w).alloc (Nat.le_refl _) (.cells #[.bool o, .string s, .string h, .int .i64 p, .string pa, .string q] 28))) (.cells #[.bool o9, .string s9, .string h9, .int .i64 p9, .string pa9, .string q9] 28)
  rw [size_alloc] at xz
  clear xn hm ht
  generalize hR : w.heap.size = Ra at xy xz BB ⊢
  have HR := Lib.hid hR
  clear hR
  obtain ⟨Rb, hRb⟩ : ∃ Rb, Ra + 1 = Rb := ⟨_, rfl⟩
  rw [hRb] at xz
  try rw [hRb]
  clear hRb
  generalize (w.alloc (.cells #[.bool o, .string s, .string h, .int .i64 p, .string pa, .string q] 28)).alloc (.cells #[.bool o9, .string s9, .string h9, .int .i64 p9, .string pa9, .string q9] 28) = w1 at xy xz mB tB BB ⊢
  have xRa_w1 := xy
  have xRb_w1 := xz
  clear xy xz
  refine (CB1.out _ ).mono ?_
  rintro e w2 ⟨rfl, b_⟩
  have mw2 := mB.below b_
  have tw2 := tB.below b_
  have Bw2 := BB.trans (b_.mono (Nat.le_of_lt xRa_w1.lt))
  have xRa_w2 := xRa_w1.below b_
  have xRb_w2 := xRb_w1.below b_
  clear b_ mB tB BB xRa_w1 xRb_w1
  have dRb0 := xRb_w2.c0
  have dRb1 := xRb_w2.c1
  have dRb2 := xRb_w2.c2
  have dRb3 := xRb_w2.c3
  have dRb4 := xRb_w2.c4
  have dRb5 := xRb_w2.c5
  go_wp2_with fail
  clear dRb0 dRb1 dRb2 dRb3 dRb4 dRb5
  refine (CB2.out _ ).mono ?_
  rintro e w3 ⟨rfl, b_⟩
  have mw3 := mw2.below b_
  have tw3 := tw2.below b_
  have Bw3 := Bw2.trans (b_.mono (Nat.le_of_lt xRa_w2.lt))
  have xRa_w3 := xRa_w2.below b_
  have xRb_w3 := xRb_w2.below b_
  clear b_ mw2 tw2 Bw2 xRa_w2 xRb_w2
  go_wp2
  go_ret
  exact ⟨rfl, by rw [HR.out]; exact Bw3⟩

/-- An origin's parts as texts. -/
theorem om_of (x : O) (h0 : 0 ≤ x.p) (h1 : x.p ≤ 65535) : ∃ (o : Bool) (s h : ByteArray) (p : Int), x = oM o s h p ∧ 0 ≤ p ∧ p ≤ 65535 := by
  obtain ⟨s, hs⟩ := text_of x.s
  obtain ⟨h, hh⟩ := text_of x.h
  exact ⟨x.o, s, h, x.p, by unfold oM; rw [hs, hh], h0, h1⟩
theorem origin_range (u : U) : 0 ≤ (originM u).p ∧ (originM u).p ≤ 65535 := by
  by_cases h : rightM u = true ∧ u.o = false
  · rw [origin_some h.1 h.2]; exact portU_range h.1 h.2
  · rw [origin_none h]; exact ⟨Int.le_refl _, by decide⟩
theorem origin_sizes {u : U} {o : Bool} {s h : ByteArray} {p : Int} (he : originM u = oM o s h p) : s.size ≤ 500 ∧ h.size ≤ 500 := by
  have k : (originM u).s.length ≤ 500 ∧ (originM u).h.length ≤ 500 := by
    by_cases h : rightM u = true ∧ u.o = false
    · rw [origin_some h.1 h.2]; exact ⟨(right_lens h.1).1, (right_lens h.1).2.1⟩
    · rw [origin_none h]; exact ⟨Nat.zero_le _, Nat.zero_le _⟩
  rw [he] at k
  exact ⟨by rw [← lsize]; exact k.1, by rw [← lsize]; exact k.2⟩
theorem not_two {s t : ByteArray} (h : s.data.toList ≠ t.data.toList) : (s.toList == t.toList) = false := by rw [text_two]; simp [h]
theorem oTexts_law (o : Bool) (s h : ByteArray) (p : Int) (pa q : ByteArray) (o9 : Bool) (s9 h9 : ByteArray) (p9 : Int) (pa9 q9 : ByteArray) (w : World) (hm : MaxIn w) (ht : TabIn w) : Calls Tryd.prog 5 #[uV o s h p pa q, uV o9 s9 h9 p9 pa9 q9] w fun e w' => e = .returned (.bool true) ∧ Below w.heap.size w w' := by
  obtain ⟨g1, hg1⟩ : ∃ b, (decide (2000 < s.size) || decide (2000 < h.size) || decide (2000 < pa.size) || decide (2000 < q.size)) = b := ⟨_, rfl⟩
  have CB1 := big_hid o s h p pa q g1 hg1
  cases g1
  case true => exact texts_big1 o s h p pa q o9 s9 h9 p9 pa9 q9 CB1 w hm ht
  obtain ⟨g2, hg2⟩ : ∃ b, (decide (2000 < s9.size) || decide (2000 < h9.size) || decide (2000 < pa9.size) || decide (2000 < q9.size)) = b := ⟨_, rfl⟩
  have CB2 := big_hid o9 s9 h9 p9 pa9 q9 g2 hg2
  cases g2
  case true => exact texts_big2 o s h p pa q o9 s9 h9 p9 pa9 q9 CB1 CB2 w hm ht
  simp only [Bool.or_eq_false_iff, decide_eq_false_iff_not] at hg1 hg2
  obtain ⟨⟨⟨z1, z2⟩, z3⟩, z4⟩ := hg1
  obtain ⟨⟨⟨y1, y2⟩, y3⟩, y4⟩ := hg2
  obtain ⟨o1, s1, h1, p1, e1, l0, l1⟩ := om_of (originM (uM o s h p pa q)) (origin_range _).1 (origin_range _).2
  obtain ⟨o2, s2, h2, p2, e2, k0, k1⟩ := om_of (originM (uM o9 s9 h9 p9 pa9 q9)) (origin_range _).1 (origin_range _).2
  have CF1 := of_hid o s h p pa q (by omega) (by omega) (by omega) (by omega) o1 s1 h1 p1 e1
  have CF2 := of_hid o9 s9 h9 p9 pa9 q9 (by omega) (by omega) (by omega) (by omega) o2 s2 h2 p2 e2
  obtain ⟨T, hT⟩ := text_of (otextM (oM o1 s1 h1 p1))
  obtain ⟨V, hV⟩ := text_of (otextM (oM o2 s2 h2 p2))
  have a1 := origin_sizes e1
  have a2 := origin_sizes e2
  have CT1 := otext_hid o1 s1 h1 p1 (by omega) (by omega) (by omega) (by omega) T hT
  have CT2 := otext_hid o2 s2 h2 p2 (by omega) (by omega) (by omega) (by omega) V hV
  have key := origin_texts (uM o s h p pa q) (uM o9 s9 h9 p9 pa9 q9)
  rw [e1, e2, ← hT, ← hV] at key
  have self : ∀ t : ByteArray, (t.toList == t.toList) = true := fun t => by rw [beq_iff_eq]
  have ext : ∀ {x y : ByteArray}, x.data.toList = y.data.toList → x = y := fun {x y} h => (text_is h).trans (text_is rfl).symm
  by_cases hs : s1.data.toList = s2.data.toList
  case neg =>
    have gT : (T.toList == V.toList) = false := not_two (fun h => hs (congrArg O.s (key.1 h)))
    cases o1 <;> cases o2
    · exact texts_s o s h p pa q o9 s9 h9 p9 pa9 q9 false s1 h1 p1 s2 h2 p2 T V gT CB1 CB2 CF1 CF2 CT1 CT2 (not_two hs) w hm ht
    · exact texts_o2 o s h p pa q o9 s9 h9 p9 pa9 q9 s1 h1 p1 s2 h2 p2 T V gT CB1 CB2 CF1 CF2 CT1 CT2 w hm ht
    · exact texts_o1 o s h p pa q o9 s9 h9 p9 pa9 q9 s1 h1 p1 s2 h2 p2 T V gT CB1 CB2 CF1 CF2 CT1 CT2 w hm ht
    · exact texts_s o s h p pa q o9 s9 h9 p9 pa9 q9 true s1 h1 p1 s2 h2 p2 T V gT CB1 CB2 CF1 CF2 CT1 CT2 (not_two hs) w hm ht
  obtain rfl := ext hs
  by_cases ho : o1 = o2
  case neg =>
    have gT : (T.toList == V.toList) = false := not_two (fun h => ho (congrArg O.o (key.1 h)))
    cases o1 <;> cases o2
    · exact absurd rfl ho
    · exact texts_o2 o s h p pa q o9 s9 h9 p9 pa9 q9 s1 h1 p1 s1 h2 p2 T V gT CB1 CB2 CF1 CF2 CT1 CT2 w hm ht
    · exact texts_o1 o s h p pa q o9 s9 h9 p9 pa9 q9 s1 h1 p1 s1 h2 p2 T V gT CB1 CB2 CF1 CF2 CT1 CT2 w hm ht
    · exact absurd rfl ho
  subst ho
  by_cases hh : h1.data.toList = h2.data.toList
  case neg =>
    have gT : (T.toList == V.toList) = false := not_two (fun h => hh (congrArg O.h (key.1 h)))
    exact texts_h o s h p pa q o9 s9 h9 p9 pa9 q9 o1 s1 h1 p1 h2 p2 T V gT CB1 CB2 CF1 CF2 CT1 CT2 (self _) (not_two hh) w hm ht
  obtain rfl := ext hh
  by_cases hp : p1 = p2
  case neg =>
    have gT : (T.toList == V.toList) = false := not_two (fun h => hp (congrArg O.p (key.1 h)))
    exact texts_p o s h p pa q o9 s9 h9 p9 pa9 q9 o1 s1 h1 p1 p2 T V gT CB1 CB2 CF1 CF2 CT1 CT2 (self _) (self _) (by rw [beq_eq_false_iff_ne]; exact hp) w hm ht
  subst hp
  obtain rfl : T = V := ext (key.2 rfl)
  exact texts_eq o s h p pa q o9 s9 h9 p9 pa9 q9 o1 s1 h1 p1 T (self _) CB1 CB2 CF1 CF2 CT1 CT2 (self _) (self _) w hm ht

end Go.Proofs.YtlkpdepdflcbcaaDoor
