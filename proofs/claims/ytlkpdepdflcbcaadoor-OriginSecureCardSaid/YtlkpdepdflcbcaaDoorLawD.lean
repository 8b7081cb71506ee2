/- What is secure comes from a place whose scheme says so. -/
import Derived.Test.YtlkpdepdflcbcaaDoorLawC
namespace Go.Proofs.YtlkpdepdflcbcaaDoor
open Go.RowKit

set_option maxRecDepth 100000 in
set_option maxHeartbeats 8000000 in
theorem sec_1 (o : Bool) (s h : ByteArray) (p : Int) (pa q : ByteArray) (CB1 : Hid (∀ W, Calls Tryd.prog 12 #[uV o s h p pa q] W fun e w' => e = .returned (.bool false) ∧ Below W.heap.size W w')) (CG1 : Hid (∀ W, MaxIn W → TabIn W → Calls Tryd.prog 15 #[uV o s h p pa q] W fun e w' => e = .returned (.bool false) ∧ Below W.heap.size W w')) (CF1 : Hid (∀ W, MaxIn W → TabIn W → Calls Tryd.prog 14 #[uV o s h p pa q] W fun e w' => e = .returned (oV true ⟨#[]⟩ ⟨#[]⟩ 0) ∧ Below W.heap.size W w')) (CC1 : Hid (∀ W, MaxIn W → TabIn W → Calls Tryd.prog 13 #[uV o s h p pa q] W fun e w' => e = .returned (.int .i64 50) ∧ Below W.heap.size W w')) (w : World) (hm : MaxIn w) (ht : TabIn w) : Calls Tryd.prog 6 #[uV o s h p pa q] w fun e w' => e = .returned (.bool true) ∧ Below w.heap.size w w' := by
  have FR := froms_hid
  unfold uV oV at *
  go_enter Tryd.func6, Tryd.ntmps6
  go_wp2_with fail
  have xn := BX.made w o s h p pa q
  have mw1 := hm.made (.cells #[.bool o, .string s, .string h, .int .i64 p, .string pa, .string q] 28)
  have tw1 := ht.made (.cells #[.bool o, .string s, .string h, .int .i64 p, .string pa, .string q] 28)
  have Bw1 : Below w.heap.size w (w.alloc (.cells #[.bool o, .string s, .string h, .int .i64 p, .string pa, .string q] 28)) := ((Below.refl w.heap.size w).alloc (Nat.le_refl _) (.cells #[.bool o, .string s, .string h, .int .i64 p, .string pa, .string q] 28))
  generalize hR : w.heap.size = Ra at xn Bw1 ⊢
  have HR := Lib.hid hR
  clear hR
  generalize w.alloc (.cells #[.bool o, .string s, .string h, .int .i64 p, .string pa, .string q] 28) = w1 at xn mw1 tw1 Bw1  ⊢
  have xRa_w1 := xn
  clear xn hm ht
  refine (CB1.out _ ).mono ?_
  rintro e w2 ⟨rfl, b_⟩
  have mw2 := mw1.below b_
  have tw2 := tw1.below b_
  have Bw2 := Bw1.trans (b_.mono (Nat.le_of_lt xRa_w1.lt))
  have xRa_w2 := xRa_w1.below b_
  clear b_ mw1 tw1 Bw1 xRa_w1
  have dRa0 := xRa_w2.c0
  have dRa1 := xRa_w2.c1
  have dRa2 := xRa_w2.c2
  have dRa3 := xRa_w2.c3
  have dRa4 := xRa_w2.c4
  have dRa5 := xRa_w2.c5
  go_wp2_with fail
  clear dRa0 dRa1 dRa2 dRa3 dRa4 dRa5
  refine (CG1.out _ mw2 tw2).mono ?_
  rintro e w3 ⟨rfl, b_⟩
  have mw3 := mw2.below b_
  have tw3 := tw2.below b_
  have Bw3 := Bw2.trans (b_.mono (Nat.le_of_lt xRa_w2.lt))
  have xRa_w3 := xRa_w2.below b_
  clear b_ mw2 tw2 Bw2 xRa_w2
  have dRa0 := xRa_w3.c0
  have dRa1 := xRa_w3.c1
  have dRa2 := xRa_w3.c2
  have dRa3 := xRa_w3.c3
  have dRa4 := xRa_w3.c4
  have dRa5 := xRa_w3.c5
  go_wp2_with fail
  clear dRa0 dRa1 dRa2 dRa3 dRa4 dRa5
  refine (CF1.out _ mw3 tw3).mono ?_
  rintro e w4 ⟨rfl, b_⟩
  have mw4 := mw3.below b_
  have tw4 := tw3.below b_
  have Bw4 := Bw3.trans (b_.mono (Nat.le_of_lt xRa_w3.lt))
  have xRa_w4 := xRa_w3.below b_
  clear b_ mw3 tw3 Bw3 xRa_w3
  have xq := xRa_w4.below ((Below.refl w4.heap.size w4).alloc (Nat.le_refl _) (.cells #[.bool true, .string ⟨#[]⟩, .string ⟨#[]⟩, .int .i64 0] 23))
  have dq00 := xq.c0
  have dq01 := xq.c1
  have dq02 := xq.c2
  have dq03 := xq.c3
  have dq04 := xq.c4
  have dq05 := xq.c5
  have xq1 := xq.below ((Below.refl (w4.alloc (.cells #[.bool true, .string ⟨#[]⟩, .string ⟨#[]⟩, .int .i64 0] 23)).heap.size (w4.alloc (.cells #[.bool true, .string ⟨#[]⟩, .string ⟨#[]⟩, .int .i64 0] 23))).alloc (Nat.le_refl _) (.cells #[.bool o, .string s, .string h, .int .i64 p, .string pa, .string q] 28))
  have dq10 := xq1.c0
  have dq11 := xq1.c1
  have dq12 := xq1.c2
  have dq13 := xq1.c3
  have dq14 := xq1.c4
  have dq15 := xq1.c5
  have xq2 := xq.below ((Below.refl (w4.alloc (.cells #[.bool true, .string ⟨#[]⟩, .string ⟨#[]⟩, .int .i64 0] 23)).heap.size (w4.alloc (.cells #[.bool true, .string ⟨#[]⟩, .string ⟨#[]⟩, .int .i64 0] 23))).alloc (Nat.le_refl _) (.cells #[.bool o, .string s, .string h, .int .i64 p, .string ⟨#[47]⟩, .string ⟨#[]⟩] 28))
  have dq20 := xq2.c0
  have dq21 := xq2.c1
  have dq22 := xq2.c2
  have dq23 := xq2.c3
  have dq24 := xq2.c4
  have dq25 := xq2.c5
  go_wp2_with fail
  clear dq00 dq01 dq02 dq03 dq04 dq05 dq10 dq11 dq12 dq13 dq14 dq15 dq20 dq21 dq22 dq23 dq24 dq25 xq xq1 xq2
  have xn := OX.made w4 true ⟨#[]⟩ ⟨#[]⟩ 0
  have xz := BX.made (w4.alloc (.cells #[.bool true, .string ⟨#[]⟩, .string ⟨#[]⟩, .int .i64 0] 23)) o s h p ⟨#[47]⟩ ⟨#[]⟩
  have xy := xn.below ((Below.refl (w4.alloc (.cells #[.bool true, .string ⟨#[]⟩, .string ⟨#[]⟩, .int .i64 0] 23)).heap.size (w4.alloc (.cells #[.bool true, .string ⟨#[]⟩, .string ⟨#[]⟩, .int .i64 0] 23))).alloc (Nat.le_refl _) (.cells #[.bool o, .string s, .string h, .int .i64 p, .string ⟨#[47]⟩, .string ⟨#[]⟩] 28))
  rw [size_alloc] at xz
  clear xn
  have mw5 := (mw4.made (.cells #[.bool true, .string ⟨#[]⟩, .string ⟨#[]⟩, .int .i64 0] 23)).made (.cells #[.bool o, .string s, .string h, .int .i64 p, .string ⟨#[47]⟩, .string ⟨#[]⟩] 28)
  have tw5 := (tw4.made (.cells #[.bool true, .string ⟨#[]⟩, .string ⟨#[]⟩, .int .i64 0] 23)).made (.cells #[.bool o, .string s, .string h, .int .i64 p, .string ⟨#[47]⟩, .string ⟨#[]⟩] 28)
  have xRa_w5 := (xRa_w4.below ((Below.refl w4.heap.size w4).alloc (Nat.le_refl _) (.cells #[.bool true, .string ⟨#[]⟩, .string ⟨#[]⟩, .int .i64 0] 23))).below ((Below.refl (w4.alloc (.cells #[.bool true, .string ⟨#[]⟩, .string ⟨#[]⟩, .int .i64 0] 23)).heap.size (w4.alloc (.cells #[.bool true, .string ⟨#[]⟩, .string ⟨#[]⟩, .int .i64 0] 23))).alloc (Nat.le_refl _) (.cells #[.bool o, .string s, .string h, .int .i64 p, .string ⟨#[47]⟩, .string ⟨#[]⟩] 28))
  have Bw5 := (Bw4.alloc (Nat.le_of_lt xRa_w4.lt) (.cells #[.bool true, .string ⟨#[]⟩, .string ⟨#[]⟩, .int .i64 0] 23)).alloc (Nat.le_of_lt (xRa_w4.below ((Below.refl w4.heap.size w4).alloc (Nat.le_refl _) (.cells #[.bool true, .string ⟨#[]⟩, .string ⟨#[]⟩, .int .i64 0] 23))).lt) (.cells #[.bool o, .string s, .string h, .int .i64 p, .string ⟨#[47]⟩, .string ⟨#[]⟩] 28)
  generalize w4.heap.size = Rx at xy xz ⊢
  obtain ⟨Rv, hRb⟩ : ∃ Rv, Rx + 1 = Rv := ⟨_, rfl⟩
  rw [hRb] at xz
  try rw [hRb]
  clear hRb
  generalize (w4.alloc (.cells #[.bool true, .string ⟨#[]⟩, .string ⟨#[]⟩, .int .i64 0] 23)).alloc (.cells #[.bool o, .string s, .string h, .int .i64 p, .string ⟨#[47]⟩, .string ⟨#[]⟩] 28) = w5 at xy xz mw5 tw5 Bw5 xRa_w5 ⊢
  have xRx_w5 := xy
  have xRv_w5 := xz
  clear xy xz mw4 tw4 Bw4 xRa_w4
  refine (CC1.out _ mw5 tw5).mono ?_
  rintro e w6 ⟨rfl, b_⟩
  have mw6 := mw5.below b_
  have tw6 := tw5.below b_
  have Bw6 := Bw5.trans (b_.mono (Nat.le_of_lt xRa_w5.lt))
  have xRa_w6 := xRa_w5.below b_
  have xRx_w6 := xRx_w5.below b_
  have xRv_w6 := xRv_w5.below b_
  clear b_ mw5 tw5 Bw5 xRa_w5 xRx_w5 xRv_w5
  have dRa0 := xRa_w6.c0
  have dRa1 := xRa_w6.c1
  have dRa2 := xRa_w6.c2
  have dRa3 := xRa_w6.c3
  have dRa4 := xRa_w6.c4
  have dRa5 := xRa_w6.c5
  have dRx0 := xRx_w6.c0
  have dRx1 := xRx_w6.c1
  have dRx2 := xRx_w6.c2
  have dRx3 := xRx_w6.c3
  have dRv0 := xRv_w6.c0
  have dRv1 := xRv_w6.c1
  have dRv2 := xRv_w6.c2
  have dRv3 := xRv_w6.c3
  have dRv4 := xRv_w6.c4
  have dRv5 := xRv_w6.c5
  go_wp2_with fail
  clear dRa0 dRa1 dRa2 dRa3 dRa4 dRa5 dRx0 dRx1 dRx2 dRx3 dRv0 dRv1 dRv2 dRv3 dRv4 dRv5
  refine (FR.out _ mw6 tw6).mono ?_
  rintro e w7 ⟨rfl, b_⟩
  have mw7 := mw6.below b_
  have tw7 := tw6.below b_
  have Bw7 := Bw6.trans (b_.mono (Nat.le_of_lt xRa_w6.lt))
  have xRa_w7 := xRa_w6.below b_
  have xRx_w7 := xRx_w6.below b_
  have xRv_w7 := xRv_w6.below b_
  clear b_ mw6 tw6 Bw6 xRa_w6 xRx_w6 xRv_w6
  have dRa0 := xRa_w7.c0
  have dRa1 := xRa_w7.c1
  have dRa2 := xRa_w7.c2
  have dRa3 := xRa_w7.c3
  have dRa4 := xRa_w7.c4
  have dRa5 := xRa_w7.c5
  have dRx0 := xRx_w7.c0
  have dRx1 := xRx_w7.c1
  have dRx2 := xRx_w7.c2
  have dRx3 := xRx_w7.c3
  have dRv0 := xRv_w7.c0
  have dRv1 := xRv_w7.c1
  have dRv2 := xRv_w7.c2
  have dRv3 := xRv_w7.c3
  have dRv4 := xRv_w7.c4
  have dRv5 := xRv_w7.c5
  go_wp2
  clear dRa0 dRa1 dRa2 dRa3 dRa4 dRa5 dRx0 dRx1 dRx2 dRx3 dRv0 dRv1 dRv2 dRv3 dRv4 dRv5
  go_ret
  exact ⟨rfl, by rw [HR.out]; exact Bw7⟩

set_option maxRecDepth 100000 in
set_option maxHeartbeats 8000000 in
theorem sec_2 (s h : ByteArray) (p : Int) (pa q : ByteArray) (CB1 : Hid (∀ W, Calls Tryd.prog 12 #[uV true s h p pa q] W fun e w' => e = .returned (.bool false) ∧ Below W.heap.size W w')) (CG1 : Hid (∀ W, MaxIn W → TabIn W → Calls Tryd.prog 15 #[uV true s h p pa q] W fun e w' => e = .returned (.bool false) ∧ Below W.heap.size W w')) (CF1 : Hid (∀ W, MaxIn W → TabIn W → Calls Tryd.prog 14 #[uV true s h p pa q] W fun e w' => e = .returned (oV true ⟨#[]⟩ ⟨#[]⟩ 0) ∧ Below W.heap.size W w')) (CC1 : Hid (∀ W, MaxIn W → TabIn W → Calls Tryd.prog 13 #[uV true s h p pa q] W fun e w' => e = .returned (.int .i64 0) ∧ Below W.heap.size W w')) (w : World) (hm : MaxIn w) (ht : TabIn w) : Calls Tryd.prog 6 #[uV true s h p pa q] w fun e w' => e = .returned (.bool true) ∧ Below w.heap.size w w' := by
  have FR := froms_hid
  unfold uV oV at *
  go_enter Tryd.func6, Tryd.ntmps6
  go_wp2_with fail
  have xn := BX.made w true s h p pa q
  have mw1 := hm.made (.cells #[.bool true, .string s, .string h, .int .i64 p, .string pa, .string q] 28)
  have tw1 := ht.made (.cells #[.bool true, .string s, .string h, .int .i64 p, .string pa, .string q] 28)
  have Bw1 : Below w.heap.size w (w.alloc (.cells #[.bool true, .string s, .string h, .int .i64 p, .string pa, .string q] 28)) := ((Below.refl w.heap.size w).alloc (Nat.le_refl _) (.cells #[.bool true, .string s, .string h, .int .i64 p, .string pa, .string q] 28))
  generalize hR : w.heap.size = Ra at xn Bw1 ⊢
  have HR := Lib.hid hR
  clear hR
  generalize w.alloc (.cells #[.bool true, .string s, .string h, .int .i64 p, .string pa, .string q] 28) = w1 at xn mw1 tw1 Bw1  ⊢
  have xRa_w1 := xn
  clear xn hm ht
  refine (CB1.out _ ).mono ?_
  rintro e w2 ⟨rfl, b_⟩
  have mw2 := mw1.below b_
  have tw2 := tw1.below b_
  have Bw2 := Bw1.trans (b_.mono (Nat.le_of_lt xRa_w1.lt))
  have xRa_w2 := xRa_w1.below b_
  clear b_ mw1 tw1 Bw1 xRa_w1
  have dRa0 := xRa_w2.c0
  have dRa1 := xRa_w2.c1
  have dRa2 := xRa_w2.c2
  have dRa3 := xRa_w2.c3
  have dRa4 := xRa_w2.c4
  have dRa5 := xRa_w2.c5
  go_wp2_with fail
  clear dRa0 dRa1 dRa2 dRa3 dRa4 dRa5
  refine (CG1.out _ mw2 tw2).mono ?_
  rintro e w3 ⟨rfl, b_⟩
  have mw3 := mw2.below b_
  have tw3 := tw2.below b_
  have Bw3 := Bw2.trans (b_.mono (Nat.le_of_lt xRa_w2.lt))
  have xRa_w3 := xRa_w2.below b_
  clear b_ mw2 tw2 Bw2 xRa_w2
  have dRa0 := xRa_w3.c0
  have dRa1 := xRa_w3.c1
  have dRa2 := xRa_w3.c2
  have dRa3 := xRa_w3.c3
  have dRa4 := xRa_w3.c4
  have dRa5 := xRa_w3.c5
  go_wp2_with fail
  clear dRa0 dRa1 dRa2 dRa3 dRa4 dRa5
  refine (CF1.out _ mw3 tw3).mono ?_
  rintro e w4 ⟨rfl, b_⟩
  have mw4 := mw3.below b_
  have tw4 := tw3.below b_
  have Bw4 := Bw3.trans (b_.mono (Nat.le_of_lt xRa_w3.lt))
  have xRa_w4 := xRa_w3.below b_
  clear b_ mw3 tw3 Bw3 xRa_w3
  have xq := xRa_w4.below ((Below.refl w4.heap.size w4).alloc (Nat.le_refl _) (.cells #[.bool true, .string ⟨#[]⟩, .string ⟨#[]⟩, .int .i64 0] 23))
  have dq00 := xq.c0
  have dq01 := xq.c1
  have dq02 := xq.c2
  have dq03 := xq.c3
  have dq04 := xq.c4
  have dq05 := xq.c5
  have xq1 := xq.below ((Below.refl (w4.alloc (.cells #[.bool true, .string ⟨#[]⟩, .string ⟨#[]⟩, .int .i64 0] 23)).heap.size (w4.alloc (.cells #[.bool true, .string ⟨#[]⟩, .string ⟨#[]⟩, .int .i64 0] 23))).alloc (Nat.le_refl _) (.cells #[.bool true, .string s, .string h, .int .i64 p, .string pa, .string q] 28))
  have dq10 := xq1.c0
  have dq11 := xq1.c1
  have dq12 := xq1.c2
  have dq13 := xq1.c3
  have dq14 := xq1.c4
  have dq15 := xq1.c5
  have xq2 := xq.below ((Below.refl (w4.alloc (.cells #[.bool true, .string ⟨#[]⟩, .string ⟨#[]⟩, .int .i64 0] 23)).heap.size (w4.alloc (.cells #[.bool true, .string ⟨#[]⟩, .string ⟨#[]⟩, .int .i64 0] 23))).alloc (Nat.le_refl _) (.cells #[.bool true, .string s, .string h, .int .i64 p, .string ⟨#[47]⟩, .string ⟨#[]⟩] 28))
  have dq20 := xq2.c0
  have dq21 := xq2.c1
  have dq22 := xq2.c2
  have dq23 := xq2.c3
  have dq24 := xq2.c4
  have dq25 := xq2.c5
  go_wp2_with fail
  clear dq00 dq01 dq02 dq03 dq04 dq05 dq10 dq11 dq12 dq13 dq14 dq15 dq20 dq21 dq22 dq23 dq24 dq25 xq xq1 xq2
  have xn := OX.made w4 true ⟨#[]⟩ ⟨#[]⟩ 0
  have xz := BX.made (w4.alloc (.cells #[.bool true, .string ⟨#[]⟩, .string ⟨#[]⟩, .int .i64 0] 23)) true s h p ⟨#[47]⟩ ⟨#[]⟩
  have xy := xn.below ((Below.refl (w4.alloc (.cells #[.bool true, .string ⟨#[]⟩, .string ⟨#[]⟩, .int .i64 0] 23)).heap.size (w4.alloc (.cells #[.bool true, .string ⟨#[]⟩, .string ⟨#[]⟩, .int .i64 0] 23))).alloc (Nat.le_refl _) (.cells #[.bool true, .string s, .string h, .int .i64 p, .string ⟨#[47]⟩, .string ⟨#[]⟩] 28))
  rw [size_alloc] at xz
  clear xn
  have mw5 := (mw4.made (.cells #[.bool true, .string ⟨#[]⟩, .string ⟨#[]⟩, .int .i64 0] 23)).made (.cells #[.bool true, .string s, .string h, .int .i64 p, .string ⟨#[47]⟩, .string ⟨#[]⟩] 28)
  have tw5 := (tw4.made (.cells #[.bool true, .string ⟨#[]⟩, .string ⟨#[]⟩, .int .i64 0] 23)).made (.cells #[.bool true, .string s, .string h, .int .i64 p, .string ⟨#[47]⟩, .string ⟨#[]⟩] 28)
  have xRa_w5 := (xRa_w4.below ((Below.refl w4.heap.size w4).alloc (Nat.le_refl _) (.cells #[.bool true, .string ⟨#[]⟩, .string ⟨#[]⟩, .int .i64 0] 23))).below ((Below.refl (w4.alloc (.cells #[.bool true, .string ⟨#[]⟩, .string ⟨#[]⟩, .int .i64 0] 23)).heap.size (w4.alloc (.cells #[.bool true, .string ⟨#[]⟩, .string ⟨#[]⟩, .int .i64 0] 23))).alloc (Nat.le_refl _) (.cells #[.bool true, .string s, .string h, .int .i64 p, .string ⟨#[47]⟩, .string ⟨#[]⟩] 28))
  have Bw5 := (Bw4.alloc (Nat.le_of_lt xRa_w4.lt) (.cells #[.bool true, .string ⟨#[]⟩, .string ⟨#[]⟩, .int .i64 0] 23)).alloc (Nat.le_of_lt (xRa_w4.below ((Below.refl w4.heap.size w4).alloc (Nat.le_refl _) (.cells #[.bool true, .string ⟨#[]⟩, .string ⟨#[]⟩, .int .i64 0] 23))).lt) (.cells #[.bool true, .string s, .string h, .int .i64 p, .string ⟨#[47]⟩, .string ⟨#[]⟩] 28)
  generalize w4.heap.size = Rx at xy xz ⊢
  obtain ⟨Rv, hRb⟩ : ∃ Rv, Rx + 1 = Rv := ⟨_, rfl⟩
  rw [hRb] at xz
  try rw [hRb]
  clear hRb
  generalize (w4.alloc (.cells #[.bool true, .string ⟨#[]⟩, .string ⟨#[]⟩, .int .i64 0] 23)).alloc (.cells #[.bool true, .string s, .string h, .int .i64 p, .string ⟨#[47]⟩, .string ⟨#[]⟩] 28) = w5 at xy xz mw5 tw5 Bw5 xRa_w5 ⊢
  have xRx_w5 := xy
  have xRv_w5 := xz
  clear xy xz mw4 tw4 Bw4 xRa_w4
  refine (CC1.out _ mw5 tw5).mono ?_
  rintro e w6 ⟨rfl, b_⟩
  have mw6 := mw5.below b_
  have tw6 := tw5.below b_
  have Bw6 := Bw5.trans (b_.mono (Nat.le_of_lt xRa_w5.lt))
  have xRa_w6 := xRa_w5.below b_
  have xRx_w6 := xRx_w5.below b_
  have xRv_w6 := xRv_w5.below b_
  clear b_ mw5 tw5 Bw5 xRa_w5 xRx_w5 xRv_w5
  have dRa0 := xRa_w6.c0
  have dRa1 := xRa_w6.c1
  have dRa2 := xRa_w6.c2
  have dRa3 := xRa_w6.c3
  have dRa4 := xRa_w6.c4
  have dRa5 := xRa_w6.c5
  have dRx0 := xRx_w6.c0
  have dRx1 := xRx_w6.c1
  have dRx2 := xRx_w6.c2
  have dRx3 := xRx_w6.c3
  have dRv0 := xRv_w6.c0
  have dRv1 := xRv_w6.c1
  have dRv2 := xRv_w6.c2
  have dRv3 := xRv_w6.c3
  have dRv4 := xRv_w6.c4
  have dRv5 := xRv_w6.c5
  go_wp2_with fail
  clear dRa0 dRa1 dRa2 dRa3 dRa4 dRa5 dRx0 dRx1 dRx2 dRx3 dRv0 dRv1 dRv2 dRv3 dRv4 dRv5
  refine (FR.out _ mw6 tw6).mono ?_
  rintro e w7 ⟨rfl, b_⟩
  have mw7 := mw6.below b_
  have tw7 := tw6.below b_
  have Bw7 := Bw6.trans (b_.mono (Nat.le_of_lt xRa_w6.lt))
  have xRa_w7 := xRa_w6.below b_
  have xRx_w7 := xRx_w6.below b_
  have xRv_w7 := xRv_w6.below b_
  clear b_ mw6 tw6 Bw6 xRa_w6 xRx_w6 xRv_w6
  have dRa0 := xRa_w7.c0
  have dRa1 := xRa_w7.c1
  have dRa2 := xRa_w7.c2
  have dRa3 := xRa_w7.c3
  have dRa4 := xRa_w7.c4
  have dRa5 := xRa_w7.c5
  have dRx0 := xRx_w7.c0
  have dRx1 := xRx_w7.c1
  have dRx2 := xRx_w7.c2
  have dRx3 := xRx_w7.c3
  have dRv0 := xRv_w7.c0
  have dRv1 := xRv_w7.c1
  have dRv2 := xRv_w7.c2
  have dRv3 := xRv_w7.c3
  have dRv4 := xRv_w7.c4
  have dRv5 := xRv_w7.c5
  go_wp2
  clear dRa0 dRa1 dRa2 dRa3 dRa4 dRa5 dRx0 dRx1 dRx2 dRx3 dRv0 dRv1 dRv2 dRv3 dRv4 dRv5
  go_ret
  exact ⟨rfl, by rw [HR.out]; exact Bw7⟩

set_option maxRecDepth 100000 in
set_option maxHeartbeats 8000000 in
theorem sec_3 (s h : ByteArray) (p : Int) (pa q : ByteArray) (P : Int) (CB1 : Hid (∀ W, Calls Tryd.prog 12 #[uV false s h p pa q] W fun e w' => e = .returned (.bool false) ∧ Below W.heap.size W w')) (CG1 : Hid (∀ W, MaxIn W → TabIn W → Calls Tryd.prog 15 #[uV false s h p pa q] W fun e w' => e = .returned (.bool true) ∧ Below W.heap.size W w')) (CF1 : Hid (∀ W, MaxIn W → TabIn W → Calls Tryd.prog 14 #[uV false s h p pa q] W fun e w' => e = .returned (oV false s h P) ∧ Below W.heap.size W w')) (CC1 : Hid (∀ W, MaxIn W → TabIn W → Calls Tryd.prog 13 #[uV false s h p pa q] W fun e w' => e = .returned (.int .i64 0) ∧ Below W.heap.size W w')) (CG2 : Hid (∀ W, MaxIn W → TabIn W → Calls Tryd.prog 15 #[uV false s h p ⟨#[47]⟩ ⟨#[]⟩] W fun e w' => e = .returned (.bool true) ∧ Below W.heap.size W w')) (g1 : (s.toList == [104, 116, 116, 112, 115]) = true) (w : World) (hm : MaxIn w) (ht : TabIn w) : Calls Tryd.prog 6 #[uV false s h p pa q] w fun e w' => e = .returned (.bool true) ∧ Below w.heap.size w w' := by
  have FR := froms_hid
  unfold uV oV at *
  go_enter Tryd.func6, Tryd.ntmps6
  go_wp2_with fail
  have xn := BX.made w false s h p pa q
  have mw1 := hm.made (.cells #[.bool false, .string s, .string h, .int .i64 p, .string pa, .string q] 28)
  have tw1 := ht.made (.cells #[.bool false, .string s, .string h, .int .i64 p, .string pa, .string q] 28)
  have Bw1 : Below w.heap.size w (w.alloc (.cells #[.bool false, .string s, .string h, .int .i64 p, .string pa, .string q] 28)) := ((Below.refl w.heap.size w).alloc (Nat.le_refl _) (.cells #[.bool false, .string s, .string h, .int .i64 p, .string pa, .string q] 28))
  generalize hR : w.heap.size = Ra at xn Bw1 ⊢
  have HR := Lib.hid hR
  clear hR
  generalize w.alloc (.cells #[.bool false, .string s, .string h, .int .i64 p, .string pa, .string q] 28) = w1 at xn mw1 tw1 Bw1  ⊢
  have xRa_w1 := xn
  clear xn hm ht
  refine (CB1.out _ ).mono ?_
  rintro e w2 ⟨rfl, b_⟩
  have mw2 := mw1.below b_
  have tw2 := tw1.below b_
  have Bw2 := Bw1.trans (b_.mono (Nat.le_of_lt xRa_w1.lt))
  have xRa_w2 := xRa_w1.below b_
  clear b_ mw1 tw1 Bw1 xRa_w1
  have dRa0 := xRa_w2.c0
  have dRa1 := xRa_w2.c1
  have dRa2 := xRa_w2.c2
  have dRa3 := xRa_w2.c3
  have dRa4 := xRa_w2.c4
  have dRa5 := xRa_w2.c5
  go_wp2_with fail
  clear dRa0 dRa1 dRa2 dRa3 dRa4 dRa5
  refine (CG1.out _ mw2 tw2).mono ?_
  rintro e w3 ⟨rfl, b_⟩
  have mw3 := mw2.below b_
  have tw3 := tw2.below b_
  have Bw3 := Bw2.trans (b_.mono (Nat.le_of_lt xRa_w2.lt))
  have xRa_w3 := xRa_w2.below b_
  clear b_ mw2 tw2 Bw2 xRa_w2
  have dRa0 := xRa_w3.c0
  have dRa1 := xRa_w3.c1
  have dRa2 := xRa_w3.c2
  have dRa3 := xRa_w3.c3
  have dRa4 := xRa_w3.c4
  have dRa5 := xRa_w3.c5
  go_wp2_with fail
  clear dRa0 dRa1 dRa2 dRa3 dRa4 dRa5
  refine (CF1.out _ mw3 tw3).mono ?_
  rintro e w4 ⟨rfl, b_⟩
  have mw4 := mw3.below b_
  have tw4 := tw3.below b_
  have Bw4 := Bw3.trans (b_.mono (Nat.le_of_lt xRa_w3.lt))
  have xRa_w4 := xRa_w3.below b_
  clear b_ mw3 tw3 Bw3 xRa_w3
  have xq := xRa_w4.below ((Below.refl w4.heap.size w4).alloc (Nat.le_refl _) (.cells #[.bool false, .string s, .string h, .int .i64 P] 23))
  have dq00 := xq.c0
  have dq01 := xq.c1
  have dq02 := xq.c2
  have dq03 := xq.c3
  have dq04 := xq.c4
  have dq05 := xq.c5
  have xq1 := xq.below ((Below.refl (w4.alloc (.cells #[.bool false, .string s, .string h, .int .i64 P] 23)).heap.size (w4.alloc (.cells #[.bool false, .string s, .string h, .int .i64 P] 23))).alloc (Nat.le_refl _) (.cells #[.bool false, .string s, .string h, .int .i64 p, .string pa, .string q] 28))
  have dq10 := xq1.c0
  have dq11 := xq1.c1
  have dq12 := xq1.c2
  have dq13 := xq1.c3
  have dq14 := xq1.c4
  have dq15 := xq1.c5
  have xq2 := xq.below ((Below.refl (w4.alloc (.cells #[.bool false, .string s, .string h, .int .i64 P] 23)).heap.size (w4.alloc (.cells #[.bool false, .string s, .string h, .int .i64 P] 23))).alloc (Nat.le_refl _) (.cells #[.bool false, .string s, .string h, .int .i64 p, .string ⟨#[47]⟩, .string ⟨#[]⟩] 28))
  have dq20 := xq2.c0
  have dq21 := xq2.c1
  have dq22 := xq2.c2
  have dq23 := xq2.c3
  have dq24 := xq2.c4
  have dq25 := xq2.c5
  go_wp2_with fail
  clear dq00 dq01 dq02 dq03 dq04 dq05 dq10 dq11 dq12 dq13 dq14 dq15 dq20 dq21 dq22 dq23 dq24 dq25 xq xq1 xq2
  have xn := OX.made w4 false s h P
  have xz := BX.made (w4.alloc (.cells #[.bool false, .string s, .string h, .int .i64 P] 23)) false s h p ⟨#[47]⟩ ⟨#[]⟩
  have xy := xn.below ((Below.refl (w4.alloc (.cells #[.bool false, .string s, .string h, .int .i64 P] 23)).heap.size (w4.alloc (.cells #[.bool false, .string s, .string h, .int .i64 P] 23))).alloc (Nat.le_refl _) (.cells #[.bool false, .string s, .string h, .int .i64 p, .string ⟨#[47]⟩, .string ⟨#[]⟩] 28))
  rw [size_alloc] at xz
  clear xn
  have mw5 := (mw4.made (.cells #[.bool false, .string s, .string h, .int .i64 P] 23)).made (.cells #[.bool false, .string s, .string h, .int .i64 p, .string ⟨#[47]⟩, .string ⟨#[]⟩] 28)
  have tw5 := (tw4.made (.cells #[.bool false, .string s, .string h, .int .i64 P] 23)).made (.cells #[.bool false, .string s, .string h, .int .i64 p, .string ⟨#[47]⟩, .string ⟨#[]⟩] 28)
  have xRa_w5 := (xRa_w4.below ((Below.refl w4.heap.size w4).alloc (Nat.le_refl _) (.cells #[.bool false, .string s, .string h, .int .i64 P] 23))).below ((Below.refl (w4.alloc (.cells #[.bool false, .string s, .string h, .int .i64 P] 23)).heap.size (w4.alloc (.cells #[.bool false, .string s, .string h, .int .i64 P] 23))).alloc (Nat.le_refl _) (.cells #[.bool false, .string s, .string h, .int .i64 p, .string ⟨#[47]⟩, .string ⟨#[]⟩] 28))
  have Bw5 := (Bw4.alloc (Nat.le_of_lt xRa_w4.lt) (.cells #[.bool false, .string s, .string h, .int .i64 P] 23)).alloc (Nat.le_of_lt (xRa_w4.below ((Below.refl w4.heap.size w4).alloc (Nat.le_refl _) (.cells #[.bool false, .string s, .string h, .int .i64 P] 23))).lt) (.cells #[.bool false, .string s, .string h, .int .i64 p, .string ⟨#[47]⟩, .string ⟨#[]⟩] 28)
  generalize w4.heap.size = Rx at xy xz ⊢
  obtain ⟨Rv, hRb⟩ : ∃ Rv, Rx + 1 = Rv := ⟨_, rfl⟩
  rw [hRb] at xz
  try rw [hRb]
  clear hRb
  generalize (w4.alloc (.cells #[.bool false, .string s, .string h, .int .i64 P] 23)).alloc (.cells #[.bool false, .string s, .string h, .int .i64 p, .string ⟨#[47]⟩, .string ⟨#[]⟩] 28) = w5 at xy xz mw5 tw5 Bw5 xRa_w5 ⊢
  have xRx_w5 := xy
  have xRv_w5 := xz
  clear xy xz mw4 tw4 Bw4 xRa_w4
  refine (CC1.out _ mw5 tw5).mono ?_
  rintro e w6 ⟨rfl, b_⟩
  have mw6 := mw5.below b_
  have tw6 := tw5.below b_
  have Bw6 := Bw5.trans (b_.mono (Nat.le_of_lt xRa_w5.lt))
  have xRa_w6 := xRa_w5.below b_
  have xRx_w6 := xRx_w5.below b_
  have xRv_w6 := xRv_w5.below b_
  clear b_ mw5 tw5 Bw5 xRa_w5 xRx_w5 xRv_w5
  have dRa0 := xRa_w6.c0
  have dRa1 := xRa_w6.c1
  have dRa2 := xRa_w6.c2
  have dRa3 := xRa_w6.c3
  have dRa4 := xRa_w6.c4
  have dRa5 := xRa_w6.c5
  have dRx0 := xRx_w6.c0
  have dRx1 := xRx_w6.c1
  have dRx2 := xRx_w6.c2
  have dRx3 := xRx_w6.c3
  have dRv0 := xRv_w6.c0
  have dRv1 := xRv_w6.c1
  have dRv2 := xRv_w6.c2
  have dRv3 := xRv_w6.c3
  have dRv4 := xRv_w6.c4
  have dRv5 := xRv_w6.c5
  go_wp2_with fail
  clear dRa0 dRa1 dRa2 dRa3 dRa4 dRa5 dRx0 dRx1 dRx2 dRx3 dRv0 dRv1 dRv2 dRv3 dRv4 dRv5
  refine (CG2.out _ mw6 tw6).mono ?_
  rintro e w7 ⟨rfl, b_⟩
  have mw7 := mw6.below b_
  have tw7 := tw6.below b_
  have Bw7 := Bw6.trans (b_.mono (Nat.le_of_lt xRa_w6.lt))
  have xRa_w7 := xRa_w6.below b_
  have xRx_w7 := xRx_w6.below b_
  have xRv_w7 := xRv_w6.below b_
  clear b_ mw6 tw6 Bw6 xRa_w6 xRx_w6 xRv_w6
  have dRa0 := xRa_w7.c0
  have dRa1 := xRa_w7.c1
  have dRa2 := xRa_w7.c2
  have dRa3 := xRa_w7.c3
  have dRa4 := xRa_w7.c4
  have dRa5 := xRa_w7.c5
  have dRx0 := xRx_w7.c0
  have dRx1 := xRx_w7.c1
  have dRx2 := xRx_w7.c2
  have dRx3 := xRx_w7.c3
  have dRv0 := xRv_w7.c0
  have dRv1 := xRv_w7.c1
  have dRv2 := xRv_w7.c2
  have dRv3 := xRv_w7.c3
  have dRv4 := xRv_w7.c4
  have dRv5 := xRv_w7.c5
  go_wp2_with fail
  clear dRa0 dRa1 dRa2 dRa3 dRa4 dRa5 dRx0 dRx1 dRx2 dRx3 dRv0 dRv1 dRv2 dRv3 dRv4 dRv5
  refine (FR.out _ mw7 tw7).mono ?_
  rintro e w8 ⟨rfl, b_⟩
  have mw8 := mw7.below b_
  have tw8 := tw7.below b_
  have Bw8 := Bw7.trans (b_.mono (Nat.le_of_lt xRa_w7.lt))
  have xRa_w8 := xRa_w7.below b_
  have xRx_w8 := xRx_w7.below b_
  have xRv_w8 := xRv_w7.below b_
  clear b_ mw7 tw7 Bw7 xRa_w7 xRx_w7 xRv_w7
  have dRa0 := xRa_w8.c0
  have dRa1 := xRa_w8.c1
  have dRa2 := xRa_w8.c2
  have dRa3 := xRa_w8.c3
  have dRa4 := xRa_w8.c4
  have dRa5 := xRa_w8.c5
  have dRx0 := xRx_w8.c0
  have dRx1 := xRx_w8.c1
  have dRx2 := xRx_w8.c2
  have dRx3 := xRx_w8.c3
  have dRv0 := xRv_w8.c0
  have dRv1 := xRv_w8.c1
  have dRv2 := xRv_w8.c2
  have dRv3 := xRv_w8.c3
  have dRv4 := xRv_w8.c4
  have dRv5 := xRv_w8.c5
  go_wp2
  clear dRa0 dRa1 dRa2 dRa3 dRa4 dRa5 dRx0 dRx1 dRx2 dRx3 dRv0 dRv1 dRv2 dRv3 dRv4 dRv5
  go_ret
  exact ⟨rfl, by rw [HR.out]; exact Bw8⟩

set_option maxRecDepth 100000 in
set_option maxHeartbeats 8000000 in
theorem sec_4 (s h : ByteArray) (p : Int) (pa q : ByteArray) (P : Int) (CB1 : Hid (∀ W, Calls Tryd.prog 12 #[uV false s h p pa q] W fun e w' => e = .returned (.bool false) ∧ Below W.heap.size W w')) (CG1 : Hid (∀ W, MaxIn W → TabIn W → Calls Tryd.prog 15 #[uV false s h p pa q] W fun e w' => e = .returned (.bool true) ∧ Below W.heap.size W w')) (CF1 : Hid (∀ W, MaxIn W → TabIn W → Calls Tryd.prog 14 #[uV false s h p pa q] W fun e w' => e = .returned (oV false s h P) ∧ Below W.heap.size W w')) (CC1 : Hid (∀ W, MaxIn W → TabIn W → Calls Tryd.prog 13 #[uV false s h p pa q] W fun e w' => e = .returned (.int .i64 0) ∧ Below W.heap.size W w')) (CG2 : Hid (∀ W, MaxIn W → TabIn W → Calls Tryd.prog 15 #[uV false s h p ⟨#[47]⟩ ⟨#[]⟩] W fun e w' => e = .returned (.bool true) ∧ Below W.heap.size W w')) (g1 : (s.toList == [104, 116, 116, 112, 115]) = false) (g2 : (s.toList == [119, 115, 115]) = true) (w : World) (hm : MaxIn w) (ht : TabIn w) : Calls Tryd.prog 6 #[uV false s h p pa q] w fun e w' => e = .returned (.bool true) ∧ Below w.heap.size w w' := by
  have FR := froms_hid
  unfold uV oV at *
  go_enter Tryd.func6, Tryd.ntmps6
  go_wp2_with fail
  have xn := BX.made w false s h p pa q
  have mw1 := hm.made (.cells #[.bool false, .string s, .string h, .int .i64 p, .string pa, .string q] 28)
  have tw1 := ht.made (.cells #[.bool false, .string s, .string h, .int .i64 p, .string pa, .string q] 28)
  have Bw1 : Below w.heap.size w (w.alloc (.cells #[.bool false, .string s, .string h, .int .i64 p, .string pa, .string q] 28)) := ((Below.refl w.heap.size w).alloc (Nat.le_refl _) (.cells #[.bool false, .string s, .string h, .int .i64 p, .string pa, .string q] 28))
  generalize hR : w.heap.size = Ra at xn Bw1 ⊢
  have HR := Lib.hid hR
  clear hR
  generalize w.alloc (.cells #[.bool false, .string s, .string h, .int .i64 p, .string pa, .string q] 28) = w1 at xn mw1 tw1 Bw1  ⊢
  have xRa_w1 := xn
  clear xn hm ht
  refine (CB1.out _ ).mono ?_
  rintro e w2 ⟨rfl, b_⟩
  have mw2 := mw1.below b_
  have tw2 := tw1.below b_
  have Bw2 := Bw1.trans (b_.mono (Nat.le_of_lt xRa_w1.lt))
  have xRa_w2 := xRa_w1.below b_
  clear b_ mw1 tw1 Bw1 xRa_w1
  have dRa0 := xRa_w2.c0
  have dRa1 := xRa_w2.c1
  have dRa2 := xRa_w2.c2
  have dRa3 := xRa_w2.c3
  have dRa4 := xRa_w2.c4
  have dRa5 := xRa_w2.c5
  go_wp2_with fail
  clear dRa0 dRa1 dRa2 dRa3 dRa4 dRa5
  refine (CG1.out _ mw2 tw2).mono ?_
  rintro e w3 ⟨rfl, b_⟩
  have mw3 := mw2.below b_
  have tw3 := tw2.below b_
  have Bw3 := Bw2.trans (b_.mono (Nat.le_of_lt xRa_w2.lt))
  have xRa_w3 := xRa_w2.below b_
  clear b_ mw2 tw2 Bw2 xRa_w2
  have dRa0 := xRa_w3.c0
  have dRa1 := xRa_w3.c1
  have dRa2 := xRa_w3.c2
  have dRa3 := xRa_w3.c3
  have dRa4 := xRa_w3.c4
  have dRa5 := xRa_w3.c5
  go_wp2_with fail
  clear dRa0 dRa1 dRa2 dRa3 dRa4 dRa5
  refine (CF1.out _ mw3 tw3).mono ?_
  rintro e w4 ⟨rfl, b_⟩
  have mw4 := mw3.below b_
  have tw4 := tw3.below b_
  have Bw4 := Bw3.trans (b_.mono (Nat.le_of_lt xRa_w3.lt))
  have xRa_w4 := xRa_w3.below b_
  clear b_ mw3 tw3 Bw3 xRa_w3
  have xq := xRa_w4.below ((Below.refl w4.heap.size w4).alloc (Nat.le_refl _) (.cells #[.bool false, .string s, .string h, .int .i64 P] 23))
  have dq00 := xq.c0
  have dq01 := xq.c1
  have dq02 := xq.c2
  have dq03 := xq.c3
  have dq04 := xq.c4
  have dq05 := xq.c5
  have xq1 := xq.below ((Below.refl (w4.alloc (.cells #[.bool false, .string s, .string h, .int .i64 P] 23)).heap.size (w4.alloc (.cells #[.bool false, .string s, .string h, .int .i64 P] 23))).alloc (Nat.le_refl _) (.cells #[.bool false, .string s, .string h, .int .i64 p, .string pa, .string q] 28))
  have dq10 := xq1.c0
  have dq11 := xq1.c1
  have dq12 := xq1.c2
  have dq13 := xq1.c3
  have dq14 := xq1.c4
  have dq15 := xq1.c5
  have xq2 := xq.below ((Below.refl (w4.alloc (.cells #[.bool false, .string s, .string h, .int .i64 P] 23)).heap.size (w4.alloc (.cells #[.bool false, .string s, .string h, .int .i64 P] 23))).alloc (Nat.le_refl _) (.cells #[.bool false, .string s, .string h, .int .i64 p, .string ⟨#[47]⟩, .string ⟨#[]⟩] 28))
  have dq20 := xq2.c0
  have dq21 := xq2.c1
  have dq22 := xq2.c2
  have dq23 := xq2.c3
  have dq24 := xq2.c4
  have dq25 := xq2.c5
  go_wp2_with fail
  clear dq00 dq01 dq02 dq03 dq04 dq05 dq10 dq11 dq12 dq13 dq14 dq15 dq20 dq21 dq22 dq23 dq24 dq25 xq xq1 xq2
  have xn := OX.made w4 false s h P
  have xz := BX.made (w4.alloc (.cells #[.bool false, .string s, .string h, .int .i64 P] 23)) false s h p ⟨#[47]⟩ ⟨#[]⟩
  have xy := xn.below ((Below.refl (w4.alloc (.cells #[.bool false, .string s, .string h, .int .i64 P] 23)).heap.size (w4.alloc (.cells #[.bool false, .string s, .string h, .int .i64 P] 23))).alloc (Nat.le_refl _) (.cells #[.bool false, .string s, .string h, .int .i64 p, .string ⟨#[47]⟩, .string ⟨#[]⟩] 28))
  rw [size_alloc] at xz
  clear xn
  have mw5 := (mw4.made (.cells #[.bool false, .string s, .string h, .int .i64 P] 23)).made (.cells #[.bool false, .string s, .string h, .int .i64 p, .string ⟨#[47]⟩, .string ⟨#[]⟩] 28)
  have tw5 := (tw4.made (.cells #[.bool false, .string s, .string h, .int .i64 P] 23)).made (.cells #[.bool false, .string s, .string h, .int .i64 p, .string ⟨#[47]⟩, .string ⟨#[]⟩] 28)
  have xRa_w5 := (xRa_w4.below ((Below.refl w4.heap.size w4).alloc (Nat.le_refl _) (.cells #[.bool false, .string s, .string h, .int .i64 P] 23))).below ((Below.refl (w4.alloc (.cells #[.bool false, .string s, .string h, .int .i64 P] 23)).heap.size (w4.alloc (.cells #[.bool false, .string s, .string h, .int .i64 P] 23))).alloc (Nat.le_refl _) (.cells #[.bool false, .string s, .string h, .int .i64 p, .string ⟨#[47]⟩, .string ⟨#[]⟩] 28))
  have Bw5 := (Bw4.alloc (Nat.le_of_lt xRa_w4.lt) (.cells #[.bool false, .string s, .string h, .int .i64 P] 23)).alloc (Nat.le_of_lt (xRa_w4.below ((Below.refl w4.heap.size w4).alloc (Nat.le_refl _) (.cells #[.bool false, .string s, .string h, .int .i64 P] 23))).lt) (.cells #[.bool false, .string s, .string h, .int .i64 p, .string ⟨#[47]⟩, .string ⟨#[]⟩] 28)
  generalize w4.heap.size = Rx at xy xz ⊢
  obtain ⟨Rv, hRb⟩ : ∃ Rv, Rx + 1 = Rv := ⟨_, rfl⟩
  rw [hRb] at xz
  try rw [hRb]
  clear hRb
  generalize (w4.alloc (.cells #[.bool false, .string s, .string h, .int .i64 P] 23)).alloc (.cells #[.bool false, .string s, .string h, .int .i64 p, .string ⟨#[47]⟩, .string ⟨#[]⟩] 28) = w5 at xy xz mw5 tw5 Bw5 xRa_w5 ⊢
  have xRx_w5 := xy
  have xRv_w5 := xz
  clear xy xz mw4 tw4 Bw4 xRa_w4
  refine (CC1.out _ mw5 tw5).mono ?_
  rintro e w6 ⟨rfl, b_⟩
  have mw6 := mw5.below b_
  have tw6 := tw5.below b_
  have Bw6 := Bw5.trans (b_.mono (Nat.le_of_lt xRa_w5.lt))
  have xRa_w6 := xRa_w5.below b_
  have xRx_w6 := xRx_w5.below b_
  have xRv_w6 := xRv_w5.below b_
  clear b_ mw5 tw5 Bw5 xRa_w5 xRx_w5 xRv_w5
  have dRa0 := xRa_w6.c0
  have dRa1 := xRa_w6.c1
  have dRa2 := xRa_w6.c2
  have dRa3 := xRa_w6.c3
  have dRa4 := xRa_w6.c4
  have dRa5 := xRa_w6.c5
  have dRx0 := xRx_w6.c0
  have dRx1 := xRx_w6.c1
  have dRx2 := xRx_w6.c2
  have dRx3 := xRx_w6.c3
  have dRv0 := xRv_w6.c0
  have dRv1 := xRv_w6.c1
  have dRv2 := xRv_w6.c2
  have dRv3 := xRv_w6.c3
  have dRv4 := xRv_w6.c4
  have dRv5 := xRv_w6.c5
  go_wp2_with fail
  clear dRa0 dRa1 dRa2 dRa3 dRa4 dRa5 dRx0 dRx1 dRx2 dRx3 dRv0 dRv1 dRv2 dRv3 dRv4 dRv5
  refine (CG2.out _ mw6 tw6).mono ?_
  rintro e w7 ⟨rfl, b_⟩
  have mw7 := mw6.below b_
  have tw7 := tw6.below b_
  have Bw7 := Bw6.trans (b_.mono (Nat.le_of_lt xRa_w6.lt))
  have xRa_w7 := xRa_w6.below b_
  have xRx_w7 := xRx_w6.below b_
  have xRv_w7 := xRv_w6.below b_
  clear b_ mw6 tw6 Bw6 xRa_w6 xRx_w6 xRv_w6
  have dRa0 := xRa_w7.c0
  have dRa1 := xRa_w7.c1
  have dRa2 := xRa_w7.c2
  have dRa3 := xRa_w7.c3
  have dRa4 := xRa_w7.c4
  have dRa5 := xRa_w7.c5
  have dRx0 := xRx_w7.c0
  have dRx1 := xRx_w7.c1
  have dRx2 := xRx_w7.c2
  have dRx3 := xRx_w7.c3
  have dRv0 := xRv_w7.c0
  have dRv1 := xRv_w7.c1
  have dRv2 := xRv_w7.c2
  have dRv3 := xRv_w7.c3
  have dRv4 := xRv_w7.c4
  have dRv5 := xRv_w7.c5
  go_wp2_with fail
  clear dRa0 dRa1 dRa2 dRa3 dRa4 dRa5 dRx0 dRx1 dRx2 dRx3 dRv0 dRv1 dRv2 dRv3 dRv4 dRv5
  refine (FR.out _ mw7 tw7).mono ?_
  rintro e w8 ⟨rfl, b_⟩
  have mw8 := mw7.below b_
  have tw8 := tw7.below b_
  have Bw8 := Bw7.trans (b_.mono (Nat.le_of_lt xRa_w7.lt))
  have xRa_w8 := xRa_w7.below b_
  have xRx_w8 := xRx_w7.below b_
  have xRv_w8 := xRv_w7.below b_
  clear b_ mw7 tw7 Bw7 xRa_w7 xRx_w7 xRv_w7
  have dRa0 := xRa_w8.c0
  have dRa1 := xRa_w8.c1
  have dRa2 := xRa_w8.c2
  have dRa3 := xRa_w8.c3
  have dRa4 := xRa_w8.c4
  have dRa5 := xRa_w8.c5
  have dRx0 := xRx_w8.c0
  have dRx1 := xRx_w8.c1
  have dRx2 := xRx_w8.c2
  have dRx3 := xRx_w8.c3
  have dRv0 := xRv_w8.c0
  have dRv1 := xRv_w8.c1
  have dRv2 := xRv_w8.c2
  have dRv3 := xRv_w8.c3
  have dRv4 := xRv_w8.c4
  have dRv5 := xRv_w8.c5
  go_wp2
  clear dRa0 dRa1 dRa2 dRa3 dRa4 dRa5 dRx0 dRx1 dRx2 dRx3 dRv0 dRv1 dRv2 dRv3 dRv4 dRv5
  go_ret
  exact ⟨rfl, by rw [HR.out]; exact Bw8⟩

set_option maxRecDepth 100000 in
set_option maxHeartbeats 8000000 in
theorem sec_5 (s h : ByteArray) (p : Int) (pa q : ByteArray) (P : Int) (CB1 : Hid (∀ W, Calls Tryd.prog 12 #[uV false s h p pa q] W fun e w' => e = .returned (.bool false) ∧ Below W.heap.size W w')) (CG1 : Hid (∀ W, MaxIn W → TabIn W → Calls Tryd.prog 15 #[uV false s h p pa q] W fun e w' => e = .returned (.bool false) ∧ Below W.heap.size W w')) (CF1 : Hid (∀ W, MaxIn W → TabIn W → Calls Tryd.prog 14 #[uV false s h p pa q] W fun e w' => e = .returned (oV false s h P) ∧ Below W.heap.size W w')) (CC1 : Hid (∀ W, MaxIn W → TabIn W → Calls Tryd.prog 13 #[uV false s h p pa q] W fun e w' => e = .returned (.int .i64 0) ∧ Below W.heap.size W w')) (CG2 : Hid (∀ W, MaxIn W → TabIn W → Calls Tryd.prog 15 #[uV false s h p ⟨#[47]⟩ ⟨#[]⟩] W fun e w' => e = .returned (.bool false) ∧ Below W.heap.size W w')) (g1 : (s.toList == [104, 116, 116, 112, 115]) = false) (g2 : (s.toList == [119, 115, 115]) = false) (w : World) (hm : MaxIn w) (ht : TabIn w) : Calls Tryd.prog 6 #[uV false s h p pa q] w fun e w' => e = .returned (.bool true) ∧ Below w.heap.size w w' := by
  have FR := froms_hid
  unfold uV oV at *
  go_enter Tryd.func6, Tryd.ntmps6
  go_wp2_with fail
  have xn := BX.made w false s h p pa q
  have mw1 := hm.made (.cells #[.bool false, .string s, .string h, .int .i64 p, .string pa, .string q] 28)
  have tw1 := ht.made (.cells #[.bool false, .string s, .string h, .int .i64 p, .string pa, .string q] 28)
  have Bw1 : Below w.heap.size w (w.alloc (.cells #[.bool false, .string s, .string h, .int .i64 p, .string pa, .string q] 28)) := ((Below.refl w.heap.size w).alloc (Nat.le_refl _) (.cells #[.bool false, .string s, .string h, .int .i64 p, .string pa, .string q] 28))
  generalize hR : w.heap.size = Ra at xn Bw1 ⊢
  have HR := Lib.hid hR
  clear hR
  generalize w.alloc (.cells #[.bool false, .string s, .string h, .int .i64 p, .string pa, .string q] 28) = w1 at xn mw1 tw1 Bw1  ⊢
  have xRa_w1 := xn
  clear xn hm ht
  refine (CB1.out _ ).mono ?_
  rintro e w2 ⟨rfl, b_⟩
  have mw2 := mw1.below b_
  have tw2 := tw1.below b_
  have Bw2 := Bw1.trans (b_.mono (Nat.le_of_lt xRa_w1.lt))
  have xRa_w2 := xRa_w1.below b_
  clear b_ mw1 tw1 Bw1 xRa_w1
  have dRa0 := xRa_w2.c0
  have dRa1 := xRa_w2.c1
  have dRa2 := xRa_w2.c2
  have dRa3 := xRa_w2.c3
  have dRa4 := xRa_w2.c4
  have dRa5 := xRa_w2.c5
  go_wp2_with fail
  clear dRa0 dRa1 dRa2 dRa3 dRa4 dRa5
  refine (CG1.out _ mw2 tw2).mono ?_
  rintro e w3 ⟨rfl, b_⟩
  have mw3 := mw2.below b_
  have tw3 := tw2.below b_
  have Bw3 := Bw2.trans (b_.mono (Nat.le_of_lt xRa_w2.lt))
  have xRa_w3 := xRa_w2.below b_
  clear b_ mw2 tw2 Bw2 xRa_w2
  have dRa0 := xRa_w3.c0
  have dRa1 := xRa_w3.c1
  have dRa2 := xRa_w3.c2
  have dRa3 := xRa_w3.c3
  have dRa4 := xRa_w3.c4
  have dRa5 := xRa_w3.c5
  go_wp2_with fail
  clear dRa0 dRa1 dRa2 dRa3 dRa4 dRa5
  refine (CF1.out _ mw3 tw3).mono ?_
  rintro e w4 ⟨rfl, b_⟩
  have mw4 := mw3.below b_
  have tw4 := tw3.below b_
  have Bw4 := Bw3.trans (b_.mono (Nat.le_of_lt xRa_w3.lt))
  have xRa_w4 := xRa_w3.below b_
  clear b_ mw3 tw3 Bw3 xRa_w3
  have xq := xRa_w4.below ((Below.refl w4.heap.size w4).alloc (Nat.le_refl _) (.cells #[.bool false, .string s, .string h, .int .i64 P] 23))
  have dq00 := xq.c0
  have dq01 := xq.c1
  have dq02 := xq.c2
  have dq03 := xq.c3
  have dq04 := xq.c4
  have dq05 := xq.c5
  have xq1 := xq.below ((Below.refl (w4.alloc (.cells #[.bool false, .string s, .string h, .int .i64 P] 23)).heap.size (w4.alloc (.cells #[.bool false, .string s, .string h, .int .i64 P] 23))).alloc (Nat.le_refl _) (.cells #[.bool false, .string s, .string h, .int .i64 p, .string pa, .string q] 28))
  have dq10 := xq1.c0
  have dq11 := xq1.c1
  have dq12 := xq1.c2
  have dq13 := xq1.c3
  have dq14 := xq1.c4
  have dq15 := xq1.c5
  have xq2 := xq.below ((Below.refl (w4.alloc (.cells #[.bool false, .string s, .string h, .int .i64 P] 23)).heap.size (w4.alloc (.cells #[.bool false, .string s, .string h, .int .i64 P] 23))).alloc (Nat.le_refl _) (.cells #[.bool false, .string s, .string h, .int .i64 p, .string ⟨#[47]⟩, .string ⟨#[]⟩] 28))
  have dq20 := xq2.c0
  have dq21 := xq2.c1
  have dq22 := xq2.c2
  have dq23 := xq2.c3
  have dq24 := xq2.c4
  have dq25 := xq2.c5
  go_wp2_with fail
  clear dq00 dq01 dq02 dq03 dq04 dq05 dq10 dq11 dq12 dq13 dq14 dq15 dq20 dq21 dq22 dq23 dq24 dq25 xq xq1 xq2
  have xn := OX.made w4 false s h P
  have xz := BX.made (w4.alloc (.cells #[.bool false, .string s, .string h, .int .i64 P] 23)) false s h p ⟨#[47]⟩ ⟨#[]⟩
  have xy := xn.below ((Below.refl (w4.alloc (.cells #[.bool false, .string s, .string h, .int .i64 P] 23)).heap.size (w4.alloc (.cells #[.bool false, .string s, .string h, .int .i64 P] 23))).alloc (Nat.le_refl _) (.cells #[.bool false, .string s, .string h, .int .i64 p, .string ⟨#[47]⟩, .string ⟨#[]⟩] 28))
  rw [size_alloc] at xz
  clear xn
  have mw5 := (mw4.made (.cells #[.bool false, .string s, .string h, .int .i64 P] 23)).made (.cells #[.bool false, .string s, .string h, .int .i64 p, .string ⟨#[47]⟩, .string ⟨#[]⟩] 28)
  have tw5 := (tw4.made (.cells #[.bool false, .string s, .string h, .int .i64 P] 23)).made (.cells #[.bool false, .string s, .string h, .int .i64 p, .string ⟨#[47]⟩, .string ⟨#[]⟩] 28)
  have xRa_w5 := (xRa_w4.below ((Below.refl w4.heap.size w4).alloc (Nat.le_refl _) (.cells #[.bool false, .string s, .string h, .int .i64 P] 23))).below ((Below.refl (w4.alloc (.cells #[.bool false, .string s, .string h, .int .i64 P] 23)).heap.size (w4.alloc (.cells #[.bool false, .string s, .string h, .int .i64 P] 23))).alloc (Nat.le_refl _) (.cells #[.bool false, .string s, .string h, .int .i64 p, .string ⟨#[47]⟩, .string ⟨#[]⟩] 28))
  have Bw5 := (Bw4.alloc (Nat.le_of_lt xRa_w4.lt) (.cells #[.bool false, .string s, .string h, .int .i64 P] 23)).alloc (Nat.le_of_lt (xRa_w4.below ((Below.refl w4.heap.size w4).alloc (Nat.le_refl _) (.cells #[.bool false, .string s, .string h, .int .i64 P] 23))).lt) (.cells #[.bool false, .string s, .string h, .int .i64 p, .string ⟨#[47]⟩, .string ⟨#[]⟩] 28)
  generalize w4.heap.size = Rx at xy xz ⊢
  obtain ⟨Rv, hRb⟩ : ∃ Rv, Rx + 1 = Rv := ⟨_, rfl⟩
  rw [hRb] at xz
  try rw [hRb]
  clear hRb
  generalize (w4.alloc (.cells #[.bool false, .string s, .string h, .int .i64 P] 23)).alloc (.cells #[.bool false, .string s, .string h, .int .i64 p, .string ⟨#[47]⟩, .string ⟨#[]⟩] 28) = w5 at xy xz mw5 tw5 Bw5 xRa_w5 ⊢
  have xRx_w5 := xy
  have xRv_w5 := xz
  clear xy xz mw4 tw4 Bw4 xRa_w4
  refine (CC1.out _ mw5 tw5).mono ?_
  rintro e w6 ⟨rfl, b_⟩
  have mw6 := mw5.below b_
  have tw6 := tw5.below b_
  have Bw6 := Bw5.trans (b_.mono (Nat.le_of_lt xRa_w5.lt))
  have xRa_w6 := xRa_w5.below b_
  have xRx_w6 := xRx_w5.below b_
  have xRv_w6 := xRv_w5.below b_
  clear b_ mw5 tw5 Bw5 xRa_w5 xRx_w5 xRv_w5
  have dRa0 := xRa_w6.c0
  have dRa1 := xRa_w6.c1
  have dRa2 := xRa_w6.c2
  have dRa3 := xRa_w6.c3
  have dRa4 := xRa_w6.c4
  have dRa5 := xRa_w6.c5
  have dRx0 := xRx_w6.c0
  have dRx1 := xRx_w6.c1
  have dRx2 := xRx_w6.c2
  have dRx3 := xRx_w6.c3
  have dRv0 := xRv_w6.c0
  have dRv1 := xRv_w6.c1
  have dRv2 := xRv_w6.c2
  have dRv3 := xRv_w6.c3
  have dRv4 := xRv_w6.c4
  have dRv5 := xRv_w6.c5
  go_wp2_with fail
  clear dRa0 dRa1 dRa2 dRa3 dRa4 dRa5 dRx0 dRx1 dRx2 dRx3 dRv0 dRv1 dRv2 dRv3 dRv4 dRv5
  refine (CG2.out _ mw6 tw6).mono ?_
  rintro e w7 ⟨rfl, b_⟩
  have mw7 := mw6.below b_
  have tw7 := tw6.below b_
  have Bw7 := Bw6.trans (b_.mono (Nat.le_of_lt xRa_w6.lt))
  have xRa_w7 := xRa_w6.below b_
  have xRx_w7 := xRx_w6.below b_
  have xRv_w7 := xRv_w6.below b_
  clear b_ mw6 tw6 Bw6 xRa_w6 xRx_w6 xRv_w6
  have dRa0 := xRa_w7.c0
  have dRa1 := xRa_w7.c1
  have dRa2 := xRa_w7.c2
  have dRa3 := xRa_w7.c3
  have dRa4 := xRa_w7.c4
  have dRa5 := xRa_w7.c5
  have dRx0 := xRx_w7.c0
  have dRx1 := xRx_w7.c1
  have dRx2 := xRx_w7.c2
  have dRx3 := xRx_w7.c3
  have dRv0 := xRv_w7.c0
  have dRv1 := xRv_w7.c1
  have dRv2 := xRv_w7.c2
  have dRv3 := xRv_w7.c3
  have dRv4 := xRv_w7.c4
  have dRv5 := xRv_w7.c5
  go_wp2_with fail
  clear dRa0 dRa1 dRa2 dRa3 dRa4 dRa5 dRx0 dRx1 dRx2 dRx3 dRv0 dRv1 dRv2 dRv3 dRv4 dRv5
  refine (FR.out _ mw7 tw7).mono ?_
  rintro e w8 ⟨rfl, b_⟩
  have mw8 := mw7.below b_
  have tw8 := tw7.below b_
  have Bw8 := Bw7.trans (b_.mono (Nat.le_of_lt xRa_w7.lt))
  have xRa_w8 := xRa_w7.below b_
  have xRx_w8 := xRx_w7.below b_
  have xRv_w8 := xRv_w7.below b_
  clear b_ mw7 tw7 Bw7 xRa_w7 xRx_w7 xRv_w7
  have dRa0 := xRa_w8.c0
  have dRa1 := xRa_w8.c1
  have dRa2 := xRa_w8.c2
  have dRa3 := xRa_w8.c3
  have dRa4 := xRa_w8.c4
  have dRa5 := xRa_w8.c5
  have dRx0 := xRx_w8.c0
  have dRx1 := xRx_w8.c1
  have dRx2 := xRx_w8.c2
  have dRx3 := xRx_w8.c3
  have dRv0 := xRv_w8.c0
  have dRv1 := xRv_w8.c1
  have dRv2 := xRv_w8.c2
  have dRv3 := xRv_w8.c3
  have dRv4 := xRv_w8.c4
  have dRv5 := xRv_w8.c5
  go_wp2
  clear dRa0 dRa1 dRa2 dRa3 dRa4 dRa5 dRx0 dRx1 dRx2 dRx3 dRv0 dRv1 dRv2 dRv3 dRv4 dRv5
  go_ret
  exact ⟨rfl, by rw [HR.out]; exact Bw8⟩

set_option maxRecDepth 100000 in
set_option maxHeartbeats 8000000 in
theorem sec_big (o : Bool) (s h : ByteArray) (p : Int) (pa q : ByteArray) (CB1 : Hid (∀ W, Calls Tryd.prog 12 #[uV o s h p pa q] W fun e w' => e = .returned (.bool true) ∧ Below W.heap.size W w')) (w : World) (hm : MaxIn w) (ht : TabIn w) : Calls Tryd.prog 6 #[uV o s h p pa q] w fun e w' => e = .returned (.bool true) ∧ Below w.heap.size w w' := by
  unfold uV at *
  go_enter Tryd.func6, Tryd.ntmps6
  go_wp2_with fail
  have xn := BX.made w o s h p pa q
  have mw1 := hm.made (.cells #[.bool o, .string s, .string h, .int .i64 p, .string pa, .string q] 28)
  have tw1 := ht.made (.cells #[.bool o, .string s, .string h, .int .i64 p, .string pa, .string q] 28)
  have Bw1 : Below w.heap.size w (w.alloc (.cells #[.bool o, .string s, .string h, .int .i64 p, .string pa, .string q] 28)) := ((Below.refl w.heap.size w).alloc (Nat.le_refl _) (.cells #[.bool o, .string s, .string h, .int .i64 p, .string pa, .string q] 28))
  generalize hR : w.heap.size = Ra at xn Bw1 ⊢
  have HR := Lib.hid hR
  clear hR
  generalize w.alloc (.cells #[.bool o, .string s, .string h, .int .i64 p, .string pa, .string q] 28) = w1 at xn mw1 tw1 Bw1  ⊢
  have xRa_w1 := xn
  clear xn hm ht
  refine (CB1.out _ ).mono ?_
  rintro e w2 ⟨rfl, b_⟩
  have mw2 := mw1.below b_
  have tw2 := tw1.below b_
  have Bw2 := Bw1.trans (b_.mono (Nat.le_of_lt xRa_w1.lt))
  have xRa_w2 := xRa_w1.below b_
  clear b_ mw1 tw1 Bw1 xRa_w1
  go_wp2
  go_ret
  exact ⟨rfl, by rw [HR.out]; exact Bw2⟩

theorem oSecure_law (o : Bool) (s h : ByteArray) (p : Int) (pa q : ByteArray) (w : World) (hm : MaxIn w) (ht : TabIn w) : Calls Tryd.prog 6 #[uV o s h p pa q] w fun e w' => e = .returned (.bool true) ∧ Below w.heap.size w w' := by
  obtain ⟨g1, hg1⟩ : ∃ b, (decide (2000 < s.size) || decide (2000 < h.size) || decide (2000 < pa.size) || decide (2000 < q.size)) = b := ⟨_, rfl⟩
  have CB1 := big_hid o s h p pa q g1 hg1
  cases g1
  case true => exact sec_big o s h p pa q CB1 w hm ht
  simp only [Bool.or_eq_false_iff, decide_eq_false_iff_not] at hg1
  obtain ⟨⟨⟨z1, z2⟩, z3⟩, z4⟩ := hg1
  have key := sec_origin (uM o s h p pa q)
  have G := fun b hb => secure_hid o s h p pa q b hb (by omega) (by omega) (by omega) (by omega)
  have F := fun o2 s2 h2 p2 he => of_hid o s h p pa q (by omega) (by omega) (by omega) (by omega) o2 s2 h2 p2 he
  cases hr : rightM (uM o s h p pa q)
  · have e1 : originM (uM o s h p pa q) = O.none := origin_none (by rw [hr]; simp)
    exact sec_1 o s h p pa q CB1 (G false (by rw [key, e1]; rfl)) (F true ⟨#[]⟩ ⟨#[]⟩ 0 e1) (check_hid o s h p pa q 50 (chk_wrong hr) (by omega) (by omega) (by omega) (by omega)) w hm ht
  have CC1 := check_hid o s h p pa q 0 (chk_right hr) (by omega) (by omega) (by omega) (by omega)
  cases o
  case true =>
    have e1 : originM (uM true s h p pa q) = O.none := origin_none (fun h => by cases h.2)
    exact sec_2 s h p pa q CB1 (G false (by rw [key, e1]; rfl)) (F true ⟨#[]⟩ ⟨#[]⟩ 0 e1) CC1 w hm ht
  have e1 := origin_some hr rfl
  have e3 : secM (uM false s h p ⟨#[47]⟩ ⟨#[]⟩) = secM (uM false s h p pa q) := bare_sec hr rfl
  have G2 := fun b hb => secure_hid false s h p ⟨#[47]⟩ ⟨#[]⟩ b (e3.trans hb) (by omega) (by omega) (by decide) (by decide)
  have hv : secM (uM false s h p pa q) = (decide (s.data.toList = HTTPS) || decide (s.data.toList = WSS)) := by rw [key, e1, ← Bool.decide_or]; rfl
  have l1 : (s.toList == [104, 116, 116, 112, 115]) = decide (s.data.toList = HTTPS) := text_lit _ _
  have l2 : (s.toList == [119, 115, 115]) = decide (s.data.toList = WSS) := text_lit _ _
  by_cases k1 : s.data.toList = HTTPS
  · exact sec_3 s h p pa q _ CB1 (G true (by rw [hv]; simp [k1])) (F false s h _ e1) CC1 (G2 true (by rw [hv]; simp [k1])) (by rw [l1]; simp [k1]) w hm ht
  by_cases k2 : s.data.toList = WSS
  · exact sec_4 s h p pa q _ CB1 (G true (by rw [hv]; simp [k2])) (F false s h _ e1) CC1 (G2 true (by rw [hv]; simp [k2])) (by rw [l1]; simp [k1]) (by rw [l2]; simp [k2]) w hm ht
  · exact sec_5 s h p pa q _ CB1 (G false (by rw [hv]; simp [k1, k2])) (F false s h _ e1) CC1 (G2 false (by rw [hv]; simp [k1, k2])) (by rw [l1]; simp [k1]) (by rw [l2]; simp [k2]) w hm ht

end Go.Proofs.YtlkpdepdflcbcaaDoor
