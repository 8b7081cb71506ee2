/- A scheme, a host, a port, a path are let be by just this. -/
import Derived.Test.YtpmnpaopkncphaaGreatDoorRowsY
namespace Go.Proofs.YtpmnpaopkncphaaGreatDoor
open Go.RowKit

set_option maxRecDepth 100000 in
set_option maxHeartbeats 8000000 in
theorem parts_long (k : Int) (t s h : ByteArray) (wd : Bool) (sp : Int) (pa : ByteArray) (o : Bool) (s2 h2 : ByteArray) (p : Int) (pa2 q2 : ByteArray) (x y : ByteArray) (m : Bool) (hn : ¬ Fits t s h pa s2 h2 pa2 q2 s2 h2 pa2 q2)  (w : World) (hw : Low w) : Calls Tryz.prog 3 #[srcV k t s h wd sp pa, uV o s2 h2 p pa2 q2, .string x, .string y, .bool m] w fun e w' => e = .returned (.bool true) ∧ Below w.heap.size w w' := by
  have MR := matches_hid
  have LG := large_hid k t s h wd sp pa o s2 h2 p pa2 q2 o s2 h2 p pa2 q2
  have HN := Lib.hid hn
  clear hn
  unfold srcV uV at *
  go_enter Tryz.func3, Tryz.ntmps3
  go_wp2_with fail
  have xn := SX.made w k t s h wd sp pa
  have xz := BX.made (w.alloc (.cells #[.int .i64 k, .string t, .string s, .string h, .bool wd, .int .i64 sp, .string pa] 24)) o s2 h2 p pa2 q2
  have xy := xn.below ((Below.refl _ _).alloc (Nat.le_refl _) (.cells #[.bool o, .string s2, .string h2, .int .i64 p, .string pa2, .string q2] 26))
  have gB := (hw.made (.cells #[.int .i64 k, .string t, .string s, .string h, .bool wd, .int .i64 sp, .string pa] 24)).made (.cells #[.bool o, .string s2, .string h2, .int .i64 p, .string pa2, .string q2] 26)
  have BB := ((Below.refl w.heap.size w).alloc (Nat.le_refl _) (.cells #[.int .i64 k, .string t, .string s, .string h, .bool wd, .int .i64 sp, .string pa] 24)).alloc (Below.size ((Below.refl w.heap.size w).alloc (Nat.le_refl _) (.cells #[.int .i64 k, .string t, .string s, .string h, .bool wd, .int .i64 sp, .string pa] 24))) (.cells #[.bool o, .string s2, .string h2, .int .i64 p, .string pa2, .string q2] 26)
  rw [size_alloc] at xz
  clear xn hw
  generalize hR : w.heap.size = Ra at xy xz BB ⊢
  have HR := Lib.hid hR
  clear hR
  obtain ⟨Rb, hRb⟩ : ∃ Rb, Ra + 1 = Rb := ⟨_, rfl⟩
  rw [hRb] at xz
  try rw [hRb]
  clear hRb
  generalize (w.alloc (.cells #[.int .i64 k, .string t, .string s, .string h, .bool wd, .int .i64 sp, .string pa] 24)).alloc (.cells #[.bool o, .string s2, .string h2, .int .i64 p, .string pa2, .string q2] 26) = w1 at xy xz gB BB ⊢
  have xRa_w1 := xy
  have xRb_w1 := xz
  clear xy xz
  refine (LG.out _ ).mono ?_
  rintro e w2 ⟨b0, rfl, b_, hz⟩
  have gw2 := gB.below b_
  have Bw2 := BB.trans (b_.mono (Nat.le_of_lt xRa_w1.lt))
  have xRa_w2 := xRa_w1.below b_
  have xRb_w2 := xRb_w1.below b_
  clear b_ gB BB xRa_w1 xRb_w1
  have HZ := Lib.hid hz
  clear hz
  cases b0
  case false => exact absurd (HZ.out rfl) HN.out
  go_wp2
  go_ret
  exact ⟨rfl, by rw [HR.out]; exact Bw2⟩

set_option maxRecDepth 100000 in
set_option maxHeartbeats 8000000 in
theorem parts_x (k : Int) (t s h : ByteArray) (wd : Bool) (sp : Int) (pa : ByteArray) (o : Bool) (s2 h2 : ByteArray) (p : Int) (pa2 q2 : ByteArray) (x y : ByteArray) (m : Bool) (k1 : (500 : Int) < (x.size : Int))  (w : World) (hw : Low w) : Calls Tryz.prog 3 #[srcV k t s h wd sp pa, uV o s2 h2 p pa2 q2, .string x, .string y, .bool m] w fun e w' => e = .returned (.bool true) ∧ Below w.heap.size w w' := by
  have MR := matches_hid
  have LG := large_hid k t s h wd sp pa o s2 h2 p pa2 q2 o s2 h2 p pa2 q2
  unfold srcV uV at *
  go_enter Tryz.func3, Tryz.ntmps3
  go_wp2_with fail
  have xn := SX.made w k t s h wd sp pa
  have xz := BX.made (w.alloc (.cells #[.int .i64 k, .string t, .string s, .string h, .bool wd, .int .i64 sp, .string pa] 24)) o s2 h2 p pa2 q2
  have xy := xn.below ((Below.refl _ _).alloc (Nat.le_refl _) (.cells #[.bool o, .string s2, .string h2, .int .i64 p, .string pa2, .string q2] 26))
  have gB := (hw.made (.cells #[.int .i64 k, .string t, .string s, .string h, .bool wd, .int .i64 sp, .string pa] 24)).made (.cells #[.bool o, .string s2, .string h2, .int .i64 p, .string pa2, .string q2] 26)
  have BB := ((Below.refl w.heap.size w).alloc (Nat.le_refl _) (.cells #[.int .i64 k, .string t, .string s, .string h, .bool wd, .int .i64 sp, .string pa] 24)).alloc (Below.size ((Below.refl w.heap.size w).alloc (Nat.le_refl _) (.cells #[.int .i64 k, .string t, .string s, .string h, .bool wd, .int .i64 sp, .string pa] 24))) (.cells #[.bool o, .string s2, .string h2, .int .i64 p, .string pa2, .string q2] 26)
  rw [size_alloc] at xz
  clear xn hw
  generalize hR : w.heap.size = Ra at xy xz BB ⊢
  have HR := Lib.hid hR
  clear hR
  obtain ⟨Rb, hRb⟩ : ∃ Rb, Ra + 1 = Rb := ⟨_, rfl⟩
  rw [hRb] at xz
  try rw [hRb]
  clear hRb
  generalize (w.alloc (.cells #[.int .i64 k, .string t, .string s, .string h, .bool wd, .int .i64 sp, .string pa] 24)).alloc (.cells #[.bool o, .string s2, .string h2, .int .i64 p, .string pa2, .string q2] 26) = w1 at xy xz gB BB ⊢
  have xRa_w1 := xy
  have xRb_w1 := xz
  clear xy xz
  refine (LG.out _ ).mono ?_
  rintro e w2 ⟨b0, rfl, b_, hz⟩
  have gw2 := gB.below b_
  have Bw2 := BB.trans (b_.mono (Nat.le_of_lt xRa_w1.lt))
  have xRa_w2 := xRa_w1.below b_
  have xRb_w2 := xRb_w1.below b_
  clear b_ gB BB xRa_w1 xRb_w1
  have HZ := Lib.hid hz
  clear hz
  cases b0
  case true =>
    go_wp2
    go_ret
    exact ⟨rfl, by rw [HR.out]; exact Bw2⟩
  clear HZ LG
  go_wp2
  go_ret
  exact ⟨rfl, by rw [HR.out]; exact Bw2⟩

set_option maxRecDepth 100000 in
set_option maxHeartbeats 8000000 in
theorem parts_y (k : Int) (t s h : ByteArray) (wd : Bool) (sp : Int) (pa : ByteArray) (o : Bool) (s2 h2 : ByteArray) (p : Int) (pa2 q2 : ByteArray) (x y : ByteArray) (m : Bool) (k1 : ¬ (500 : Int) < (x.size : Int)) (k2 : (500 : Int) < (y.size : Int))  (w : World) (hw : Low w) : Calls Tryz.prog 3 #[srcV k t s h wd sp pa, uV o s2 h2 p pa2 q2, .string x, .string y, .bool m] w fun e w' => e = .returned (.bool true) ∧ Below w.heap.size w w' := by
  have MR := matches_hid
  have LG := large_hid k t s h wd sp pa o s2 h2 p pa2 q2 o s2 h2 p pa2 q2
  unfold srcV uV at *
  go_enter Tryz.func3, Tryz.ntmps3
  go_wp2_with fail
  have xn := SX.made w k t s h wd sp pa
  have xz := BX.made (w.alloc (.cells #[.int .i64 k, .string t, .string s, .string h, .bool wd, .int .i64 sp, .string pa] 24)) o s2 h2 p pa2 q2
  have xy := xn.below ((Below.refl _ _).alloc (Nat.le_refl _) (.cells #[.bool o, .string s2, .string h2, .int .i64 p, .string pa2, .string q2] 26))
  have gB := (hw.made (.cells #[.int .i64 k, .string t, .string s, .string h, .bool wd, .int .i64 sp, .string pa] 24)).made (.cells #[.bool o, .string s2, .string h2, .int .i64 p, .string pa2, .string q2] 26)
  have BB := ((Below.refl w.heap.size w).alloc (Nat.le_refl _) (.cells #[.int .i64 k, .string t, .string s, .string h, .bool wd, .int .i64 sp, .string pa] 24)).alloc (Below.size ((Below.refl w.heap.size w).alloc (Nat.le_refl _) (.cells #[.int .i64 k, .string t, .string s, .string h, .bool wd, .int .i64 sp, .string pa] 24))) (.cells #[.bool o, .string s2, .string h2, .int .i64 p, .string pa2, .string q2] 26)
  rw [size_alloc] at xz
  clear xn hw
  generalize hR : w.heap.size = Ra at xy xz BB ⊢
  have HR := Lib.hid hR
  clear hR
  obtain ⟨Rb, hRb⟩ : ∃ Rb, Ra + 1 = Rb := ⟨_, rfl⟩
  rw [hRb] at xz
  try rw [hRb]
  clear hRb
  generalize (w.alloc (.cells #[.int .i64 k, .string t, .string s, .string h, .bool wd, .int .i64 sp, .string pa] 24)).alloc (.cells #[.bool o, .string s2, .string h2, .int .i64 p, .string pa2, .string q2] 26) = w1 at xy xz gB BB ⊢
  have xRa_w1 := xy
  have xRb_w1 := xz
  clear xy xz
  refine (LG.out _ ).mono ?_
  rintro e w2 ⟨b0, rfl, b_, hz⟩
  have gw2 := gB.below b_
  have Bw2 := BB.trans (b_.mono (Nat.le_of_lt xRa_w1.lt))
  have xRa_w2 := xRa_w1.below b_
  have xRb_w2 := xRb_w1.below b_
  clear b_ gB BB xRa_w1 xRb_w1
  have HZ := Lib.hid hz
  clear hz
  cases b0
  case true =>
    go_wp2
    go_ret
    exact ⟨rfl, by rw [HR.out]; exact Bw2⟩
  clear HZ LG
  go_wp2
  go_ret
  exact ⟨rfl, by rw [HR.out]; exact Bw2⟩

set_option maxRecDepth 100000 in
set_option maxHeartbeats 8000000 in
theorem parts_ok (k : Int) (t s h : ByteArray) (wd : Bool) (sp : Int) (pa : ByteArray) (o : Bool) (s2 h2 : ByteArray) (p : Int) (pa2 q2 : ByteArray) (x y : ByteArray) (m : Bool) (k1 : ¬ (500 : Int) < (x.size : Int)) (k2 : ¬ (500 : Int) < (y.size : Int)) (r1 r2 r3 r4 : Bool) (M1 : Hid (∀ W, Calls Tryz.prog 12 #[.string x, .string y] W fun e w' => e = .returned (.bool r1) ∧ Below W.heap.size W w')) (D1 : Hid (∀ W, Calls Tryz.prog 13 #[.string x, .string y] W fun e w' => e = .returned (.bool r1) ∧ Below W.heap.size W w')) (M2 : Hid (∀ W, Calls Tryz.prog 14 #[srcV k t s h wd sp pa, .string x] W fun e w' => e = .returned (.bool r2) ∧ Below W.heap.size W w')) (D2 : Hid (∀ W, Calls Tryz.prog 15 #[srcV k t s h wd sp pa, .string x] W fun e w' => e = .returned (.bool r2) ∧ Below W.heap.size W w')) (M3 : Hid (∀ W, Calls Tryz.prog 16 #[srcV k t s h wd sp pa, uV o s2 h2 p pa2 q2] W fun e w' => e = .returned (.bool r3) ∧ Below W.heap.size W w')) (D3 : Hid (∀ W, Calls Tryz.prog 17 #[srcV k t s h wd sp pa, uV o s2 h2 p pa2 q2] W fun e w' => e = .returned (.bool r3) ∧ Below W.heap.size W w')) (M4 : Hid (∀ W, Calls Tryz.prog 18 #[.string x, .string y, .bool m] W fun e w' => e = .returned (.bool r4) ∧ Below W.heap.size W w')) (D4 : Hid (∀ W, Calls Tryz.prog 19 #[.string x, .string y, .bool m] W fun e w' => e = .returned (.bool r4) ∧ Below W.heap.size W w')) (w : World) (hw : Low w) : Calls Tryz.prog 3 #[srcV k t s h wd sp pa, uV o s2 h2 p pa2 q2, .string x, .string y, .bool m] w fun e w' => e = .returned (.bool true) ∧ Below w.heap.size w w' := by
  have MR := matches_hid
  have LG := large_hid k t s h wd sp pa o s2 h2 p pa2 q2 o s2 h2 p pa2 q2
  unfold srcV uV at *
  go_enter Tryz.func3, Tryz.ntmps3
  go_wp2_with fail
  have xn := SX.made w k t s h wd sp pa
  have xz := BX.made (w.alloc (.cells #[.int .i64 k, .string t, .string s, .string h, .bool wd, .int .i64 sp, .string pa] 24)) o s2 h2 p pa2 q2
  have xy := xn.below ((Below.refl _ _).alloc (Nat.le_refl _) (.cells #[.bool o, .string s2, .string h2, .int .i64 p, .string pa2, .string q2] 26))
  have gB := (hw.made (.cells #[.int .i64 k, .string t, .string s, .string h, .bool wd, .int .i64 sp, .string pa] 24)).made (.cells #[.bool o, .string s2, .string h2, .int .i64 p, .string pa2, .string q2] 26)
  have BB := ((Below.refl w.heap.size w).alloc (Nat.le_refl _) (.cells #[.int .i64 k, .string t, .string s, .string h, .bool wd, .int .i64 sp, .string pa] 24)).alloc (Below.size ((Below.refl w.heap.size w).alloc (Nat.le_refl _) (.cells #[.int .i64 k, .string t, .string s, .string h, .bool wd, .int .i64 sp, .string pa] 24))) (.cells #[.bool o, .string s2, .string h2, .int .i64 p, .string pa2, .string q2] 26)
  rw [size_alloc] at xz
  clear xn hw
  generalize hR : w.heap.size = Ra at xy xz BB ⊢
  have HR := Lib.hid hR
  clear hR
  obtain ⟨Rb, hRb⟩ : ∃ Rb, Ra + 1 = Rb := ⟨_, rfl⟩
  rw [hRb] at xz
  try rw [hRb]
  clear hRb
  generalize (w.alloc (.cells #[.int .i64 k, .string t, .string s, .string h, .bool wd, .int .i64 sp, .string pa] 24)).alloc (.cells #[.bool o, .string s2, .string h2, .int .i64 p, .string pa2, .string q2] 26) = w1 at xy xz gB BB ⊢
  have xRa_w1 := xy
  have xRb_w1 := xz
  clear xy xz
  refine (LG.out _ ).mono ?_
  rintro e w2 ⟨b0, rfl, b_, hz⟩
  have gw2 := gB.below b_
  have Bw2 := BB.trans (b_.mono (Nat.le_of_lt xRa_w1.lt))
  have xRa_w2 := xRa_w1.below b_
  have xRb_w2 := xRb_w1.below b_
  clear b_ gB BB xRa_w1 xRb_w1
  have HZ := Lib.hid hz
  clear hz
  cases b0
  case true =>
    go_wp2
    go_ret
    exact ⟨rfl, by rw [HR.out]; exact Bw2⟩
  clear HZ LG
  have dRa0 := xRa_w2.c0
  have dRa1 := xRa_w2.c1
  have dRa2 := xRa_w2.c2
  have dRa3 := xRa_w2.c3
  have dRa4 := xRa_w2.c4
  have dRa5 := xRa_w2.c5
  have dRa6 := xRa_w2.c6
  have dRb0 := xRb_w2.c0
  have dRb1 := xRb_w2.c1
  have dRb2 := xRb_w2.c2
  have dRb3 := xRb_w2.c3
  have dRb4 := xRb_w2.c4
  have dRb5 := xRb_w2.c5
  go_wp2
  clear dRa0 dRa1 dRa2 dRa3 dRa4 dRa5 dRa6 dRb0 dRb1 dRb2 dRb3 dRb4 dRb5
  obtain ⟨C, hC⟩ : ∃ C : World → Prop, ∀ w', C w' ↔ (SX w' Ra k t s h wd sp pa ∧ BX w' Rb o s2 h2 p pa2 q2 ∧ Below Ra w w' ∧ Low w') := ⟨_, fun _ => Iff.rfl⟩
  have HC := Lib.hid hC
  clear hC
  have hC0 : C w2.drew := (HC.out _).2 ⟨xRa_w2, xRb_w2, Bw2.drew, gw2.drew⟩
  have HK : Hid (∀ w', C w' → ∀ w7, Below w'.heap.size w' w7 → C w7) := Lib.hid fun w' hc w7 b => by
    obtain ⟨xRa, xRb, K4, g7⟩ := (HC.out w').1 hc
    exact (HC.out _).2 ⟨xRa.below b, xRb.below b, K4.trans (b.mono (Nat.le_of_lt xRa.lt)), g7.below b⟩
  clear xRa_w2 xRb_w2 Bw2 gw2
  refine region_class C (by kernel_rfl) (by kernel_rfl) hC0 ?_
  clear hC0
  repeat
    first
      | go_big_quiet_skip
      | (go_big_quiet_want; go_big_quiet_op; go_big_quiet_on)
      | (refine BigFrame.wpQuiet_want rfl (fun K hK => ?_)
         apply Exists.intro
         refine ⟨fun w' hc => ?_, hK _ ?_⟩
         · obtain ⟨xRa, xRb, K4, g7⟩ := (HC.out w').1 hc
           have dRa0 := xRa.c0
           have dRa1 := xRa.c1
           have dRa2 := xRa.c2
           have dRa3 := xRa.c3
           have dRa4 := xRa.c4
           have dRa5 := xRa.c5
           have dRa6 := xRa.c6
           have dRb0 := xRb.c0
           have dRb1 := xRb.c1
           have dRb2 := xRb.c2
           have dRb3 := xRb.c3
           have dRb4 := xRb.c4
           have dRb5 := xRb.c5
           unfold Oper.quietAt
           go_simp
           first
             | done
             | rfl
             | ((with_reducible refine (MR.out _ g7).mono ?_); rintro e w7 ⟨rfl, b7⟩; exact ⟨rfl, HK.out w' hc w7 b7⟩)
             | ((with_reducible refine (M1.out _).mono ?_); rintro e w7 ⟨rfl, b7⟩; exact ⟨rfl, HK.out w' hc w7 b7⟩)
             | ((with_reducible refine (D1.out _).mono ?_); rintro e w7 ⟨rfl, b7⟩; exact ⟨rfl, HK.out w' hc w7 b7⟩)
             | ((with_reducible refine (M2.out _).mono ?_); rintro e w7 ⟨rfl, b7⟩; exact ⟨rfl, HK.out w' hc w7 b7⟩)
             | ((with_reducible refine (D2.out _).mono ?_); rintro e w7 ⟨rfl, b7⟩; exact ⟨rfl, HK.out w' hc w7 b7⟩)
             | ((with_reducible refine (M3.out _).mono ?_); rintro e w7 ⟨rfl, b7⟩; exact ⟨rfl, HK.out w' hc w7 b7⟩)
             | ((with_reducible refine (D3.out _).mono ?_); rintro e w7 ⟨rfl, b7⟩; exact ⟨rfl, HK.out w' hc w7 b7⟩)
             | ((with_reducible refine (M4.out _).mono ?_); rintro e w7 ⟨rfl, b7⟩; exact ⟨rfl, HK.out w' hc w7 b7⟩)
             | ((with_reducible refine (D4.out _).mono ?_); rintro e w7 ⟨rfl, b7⟩; exact ⟨rfl, HK.out w' hc w7 b7⟩)
         clear hK K
         simp only [Act.put, List.setIfInBounds_toArray, List.set_cons_zero, List.set_cons_succ])
  refine wpQuiet_nil ?_
  intro w3 hc
  obtain ⟨xRa_w3, xRb_w3, Bw3, gw3⟩ := (HC.out w3).1 hc
  clear hc HC HK
  go_wp2
  go_ret
  exact ⟨rfl, by rw [HR.out]; exact Bw3⟩
theorem matchParts_law (k : Int) (t s h : ByteArray) (wd : Bool) (sp : Int) (pa : ByteArray) (o : Bool) (s2 h2 : ByteArray) (p : Int) (pa2 q2 : ByteArray) (x y : ByteArray) (m : Bool) (w : World) (hw : Low w) : Calls Tryz.prog 3 #[srcV k t s h wd sp pa, uV o s2 h2 p pa2 q2, .string x, .string y, .bool m] w fun e w' => e = .returned (.bool true) ∧ Below w.heap.size w w' := by
  by_cases hF : Fits t s h pa s2 h2 pa2 q2 s2 h2 pa2 q2
  case neg => exact parts_long k t s h wd sp pa o s2 h2 p pa2 q2 x y m hF w hw
  obtain ⟨⟨a1, a2, a3, a4⟩, ⟨c1, c2, c3, c4⟩, _⟩ := hF
  by_cases k1 : (500 : Int) < (x.size : Int)
  · exact parts_x k t s h wd sp pa o s2 h2 p pa2 q2 x y m k1 w hw
  by_cases k2 : (500 : Int) < (y.size : Int)
  · exact parts_y k t s h wd sp pa o s2 h2 p pa2 q2 x y m k1 k2 w hw
  exact parts_ok k t s h wd sp pa o s2 h2 p pa2 q2 x y m k1 k2 _ _ _ _ (same_low _ _ _ (matScheme_hid x y _ rfl)) (same_low _ _ _ (refScheme10_hid x y _ rfl)) (matHost_hid k t s h wd sp pa x (by omega) (by omega) _ rfl) (refHost10_hid k t s h wd sp pa x (by omega) (by omega) _ rfl) (matPort_hid k t s h wd sp pa o s2 h2 p pa2 q2 _ rfl) (refPort10_hid k t s h wd sp pa o s2 h2 p pa2 q2 _ rfl) (same_low _ _ _ (matPath_hid x y (by omega) m _ rfl)) (same_low _ _ _ (refPath10_hid x y (by omega) m _ rfl)) w hw

end Go.Proofs.YtpmnpaopkncphaaGreatDoor
