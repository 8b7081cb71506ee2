/- A wild source of a host lets hosts be that end so, and not the host itself. -/
import Derived.Test.YtpmnpaopkncphaaGreatDoorRowsY
namespace Go.Proofs.YtpmnpaopkncphaaGreatDoor
open Go.RowKit

set_option maxRecDepth 100000 in
set_option maxHeartbeats 8000000 in
theorem wilder_x (x y : ByteArray) (k1 : (200 : Int) < (x.size : Int)) (w : World) : Calls Tryz.prog 9 #[.string x, .string y] w fun e w' => e = .returned (.bool true) ∧ Below w.heap.size w w' := by
  
  go_enter Tryz.func9, Tryz.ntmps9
  go_wp2
  go_ret
  exact ⟨rfl, Below.refl _ _⟩

set_option maxRecDepth 100000 in
set_option maxHeartbeats 8000000 in
theorem wilder_y (x y : ByteArray) (k1 : ¬ (200 : Int) < (x.size : Int)) (k2 : (200 : Int) < (y.size : Int)) (w : World) : Calls Tryz.prog 9 #[.string x, .string y] w fun e w' => e = .returned (.bool true) ∧ Below w.heap.size w w' := by
  
  go_enter Tryz.func9, Tryz.ntmps9
  go_wp2
  go_ret
  exact ⟨rfl, Below.refl _ _⟩

set_option maxRecDepth 100000 in
set_option maxHeartbeats 8000000 in
theorem wilder_e (x y : ByteArray) (k1 : ¬ (200 : Int) < (x.size : Int)) (k2 : ¬ (200 : Int) < (y.size : Int)) (g : x.toList.isEmpty = true) (w : World) : Calls Tryz.prog 9 #[.string x, .string y] w fun e w' => e = .returned (.bool true) ∧ Below w.heap.size w w' := by
  
  go_enter Tryz.func9, Tryz.ntmps9
  go_wp2
  go_ret
  exact ⟨rfl, Below.refl _ _⟩

set_option maxRecDepth 100000 in
set_option maxHeartbeats 8000000 in
theorem wilder_n (x y : ByteArray) (k1 : ¬ (200 : Int) < (x.size : Int)) (k2 : ¬ (200 : Int) < (y.size : Int)) (g : x.toList.isEmpty = false) (g2 : y.toList.isEmpty = true) (Y N : ByteArray) (d1 : ∀ W, (Op.stringOp .add y ⟨#[46]⟩).run Tryz.prog W = .ok (.string Y) W) (d2 : ∀ W, (Op.stringOp .add Y x).run Tryz.prog W = .ok (.string N) W) (C1 : Hid (∀ W, Calls Tryz.prog 14 #[srcV 12 ⟨#[]⟩ ⟨#[]⟩ x true 0 ⟨#[]⟩, .string N] W fun e w' => e = .returned (.bool false) ∧ Below W.heap.size W w')) (C2 : Hid (∀ W, Calls Tryz.prog 14 #[srcV 12 ⟨#[]⟩ ⟨#[]⟩ x true 0 ⟨#[]⟩, .string x] W fun e w' => e = .returned (.bool false) ∧ Below W.heap.size W w')) (C3 : Hid (∀ W, Calls Tryz.prog 14 #[srcV 12 ⟨#[]⟩ ⟨#[]⟩ x false 0 ⟨#[]⟩, .string x] W fun e w' => e = .returned (.bool true) ∧ Below W.heap.size W w')) (C4 : Hid (∀ W, Calls Tryz.prog 14 #[srcV 12 ⟨#[]⟩ ⟨#[]⟩ x false 0 ⟨#[]⟩, .string N] W fun e w' => e = .returned (.bool false) ∧ Below W.heap.size W w')) (w : World) (hw : Low w) : Calls Tryz.prog 9 #[.string x, .string y] w fun e w' => e = .returned (.bool true) ∧ Below w.heap.size w w' := by
  have MR := matches_hid
  unfold srcV at *
  go_enter Tryz.func9, Tryz.ntmps9
  go_wp2_with fail
  have xn := SX.made w 12 ⟨#[]⟩ ⟨#[]⟩ x true 0 ⟨#[]⟩
  have xz := SX.made (w.alloc (.cells #[.int .i64 12, .string ⟨#[]⟩, .string ⟨#[]⟩, .string x, .bool true, .int .i64 0, .string ⟨#[]⟩] 24)) 12 ⟨#[]⟩ ⟨#[]⟩ x false 0 ⟨#[]⟩
  have xy := xn.below ((Below.refl _ _).alloc (Nat.le_refl _) (.cells #[.int .i64 12, .string ⟨#[]⟩, .string ⟨#[]⟩, .string x, .bool false, .int .i64 0, .string ⟨#[]⟩] 24))
  have gB := (hw.made (.cells #[.int .i64 12, .string ⟨#[]⟩, .string ⟨#[]⟩, .string x, .bool true, .int .i64 0, .string ⟨#[]⟩] 24)).made (.cells #[.int .i64 12, .string ⟨#[]⟩, .string ⟨#[]⟩, .string x, .bool false, .int .i64 0, .string ⟨#[]⟩] 24)
  have BB := ((Below.refl w.heap.size w).alloc (Nat.le_refl _) (.cells #[.int .i64 12, .string ⟨#[]⟩, .string ⟨#[]⟩, .string x, .bool true, .int .i64 0, .string ⟨#[]⟩] 24)).alloc (Below.size ((Below.refl w.heap.size w).alloc (Nat.le_refl _) (.cells #[.int .i64 12, .string ⟨#[]⟩, .string ⟨#[]⟩, .string x, .bool true, .int .i64 0, .string ⟨#[]⟩] 24))) (.cells #[.int .i64 12, .string ⟨#[]⟩, .string ⟨#[]⟩, .string x, .bool false, .int .i64 0, .string ⟨#[]⟩] 24)
  rw [size_alloc] at xz
  clear xn hw
  generalize hR : w.heap.size = Ra at xy xz BB ⊢
  have HR := Lib.hid hR
  clear hR
  obtain ⟨Rb, hRb⟩ : ∃ Rb, Ra + 1 = Rb := ⟨_, rfl⟩
  rw [hRb] at xz
  try rw [hRb]
  clear hRb
  generalize (w.alloc (.cells #[.int .i64 12, .string ⟨#[]⟩, .string ⟨#[]⟩, .string x, .bool true, .int .i64 0, .string ⟨#[]⟩] 24)).alloc (.cells #[.int .i64 12, .string ⟨#[]⟩, .string ⟨#[]⟩, .string x, .bool false, .int .i64 0, .string ⟨#[]⟩] 24) = w1 at xy xz gB BB ⊢
  have xRa_w1 := xy
  have xRb_w1 := xz
  clear xy xz
  refine (MR.out _ gB).mono ?_
  rintro e w2 ⟨rfl, b_⟩
  have gw2 := gB.below b_
  have Bw2 := BB.trans (b_.mono (Nat.le_of_lt xRa_w1.lt))
  have xRa_w2 := xRa_w1.below b_
  have xRb_w2 := xRb_w1.below b_
  clear b_ gB BB xRa_w1 xRb_w1
  have dRa0 := xRa_w2.c0
  have dRa1 := xRa_w2.c1
  have dRa2 := xRa_w2.c2
  have dRa3 := xRa_w2.c3
  have dRa4 := xRa_w2.c4
  have dRa5 := xRa_w2.c5
  have dRa6 := xRa_w2.c6
  have dRb0 := xRb_w2.c0
  have dRb1 := xRb_w2.c1
  have dRb2 := xRb_w2.c2
  have dRb3 := xRb_w2.c3
  have dRb4 := xRb_w2.c4
  have dRb5 := xRb_w2.c5
  have dRb6 := xRb_w2.c6
  go_wp2_with fail
  clear dRa0 dRa1 dRa2 dRa3 dRa4 dRa5 dRa6 dRb0 dRb1 dRb2 dRb3 dRb4 dRb5 dRb6
  refine (C1.out _ ).mono ?_
  rintro e w3 ⟨rfl, b_⟩
  have gw3 := gw2.below b_
  have Bw3 := Bw2.trans (b_.mono (Nat.le_of_lt xRa_w2.lt))
  have xRa_w3 := xRa_w2.below b_
  have xRb_w3 := xRb_w2.below b_
  clear b_ gw2 Bw2 xRa_w2 xRb_w2
  have dRa0 := xRa_w3.c0
  have dRa1 := xRa_w3.c1
  have dRa2 := xRa_w3.c2
  have dRa3 := xRa_w3.c3
  have dRa4 := xRa_w3.c4
  have dRa5 := xRa_w3.c5
  have dRa6 := xRa_w3.c6
  have dRb0 := xRb_w3.c0
  have dRb1 := xRb_w3.c1
  have dRb2 := xRb_w3.c2
  have dRb3 := xRb_w3.c3
  have dRb4 := xRb_w3.c4
  have dRb5 := xRb_w3.c5
  have dRb6 := xRb_w3.c6
  go_wp2_with fail
  clear dRa0 dRa1 dRa2 dRa3 dRa4 dRa5 dRa6 dRb0 dRb1 dRb2 dRb3 dRb4 dRb5 dRb6
  refine (C2.out _ ).mono ?_
  rintro e w4 ⟨rfl, b_⟩
  have gw4 := gw3.below b_
  have Bw4 := Bw3.trans (b_.mono (Nat.le_of_lt xRa_w3.lt))
  have xRa_w4 := xRa_w3.below b_
  have xRb_w4 := xRb_w3.below b_
  clear b_ gw3 Bw3 xRa_w3 xRb_w3
  have dRa0 := xRa_w4.c0
  have dRa1 := xRa_w4.c1
  have dRa2 := xRa_w4.c2
  have dRa3 := xRa_w4.c3
  have dRa4 := xRa_w4.c4
  have dRa5 := xRa_w4.c5
  have dRa6 := xRa_w4.c6
  have dRb0 := xRb_w4.c0
  have dRb1 := xRb_w4.c1
  have dRb2 := xRb_w4.c2
  have dRb3 := xRb_w4.c3
  have dRb4 := xRb_w4.c4
  have dRb5 := xRb_w4.c5
  have dRb6 := xRb_w4.c6
  go_wp2_with fail
  clear dRa0 dRa1 dRa2 dRa3 dRa4 dRa5 dRa6 dRb0 dRb1 dRb2 dRb3 dRb4 dRb5 dRb6
  refine (C3.out _ ).mono ?_
  rintro e w5 ⟨rfl, b_⟩
  have gw5 := gw4.below b_
  have Bw5 := Bw4.trans (b_.mono (Nat.le_of_lt xRa_w4.lt))
  have xRa_w5 := xRa_w4.below b_
  have xRb_w5 := xRb_w4.below b_
  clear b_ gw4 Bw4 xRa_w4 xRb_w4
  have dRa0 := xRa_w5.c0
  have dRa1 := xRa_w5.c1
  have dRa2 := xRa_w5.c2
  have dRa3 := xRa_w5.c3
  have dRa4 := xRa_w5.c4
  have dRa5 := xRa_w5.c5
  have dRa6 := xRa_w5.c6
  have dRb0 := xRb_w5.c0
  have dRb1 := xRb_w5.c1
  have dRb2 := xRb_w5.c2
  have dRb3 := xRb_w5.c3
  have dRb4 := xRb_w5.c4
  have dRb5 := xRb_w5.c5
  have dRb6 := xRb_w5.c6
  go_wp2_with fail
  clear dRa0 dRa1 dRa2 dRa3 dRa4 dRa5 dRa6 dRb0 dRb1 dRb2 dRb3 dRb4 dRb5 dRb6
  refine (C4.out _ ).mono ?_
  rintro e w6 ⟨rfl, b_⟩
  have gw6 := gw5.below b_
  have Bw6 := Bw5.trans (b_.mono (Nat.le_of_lt xRa_w5.lt))
  have xRa_w6 := xRa_w5.below b_
  have xRb_w6 := xRb_w5.below b_
  clear b_ gw5 Bw5 xRa_w5 xRb_w5
  have dRa0 := xRa_w6.c0
  have dRa1 := xRa_w6.c1
  have dRa2 := xRa_w6.c2
  have dRa3 := xRa_w6.c3
  have dRa4 := xRa_w6.c4
  have dRa5 := xRa_w6.c5
  have dRa6 := xRa_w6.c6
  have dRb0 := xRb_w6.c0
  have dRb1 := xRb_w6.c1
  have dRb2 := xRb_w6.c2
  have dRb3 := xRb_w6.c3
  have dRb4 := xRb_w6.c4
  have dRb5 := xRb_w6.c5
  have dRb6 := xRb_w6.c6
  go_wp2
  go_ret
  exact ⟨rfl, by rw [HR.out]; exact Bw6⟩

set_option maxRecDepth 100000 in
set_option maxHeartbeats 8000000 in
theorem wilder_a (x y : ByteArray) (k1 : ¬ (200 : Int) < (x.size : Int)) (k2 : ¬ (200 : Int) < (y.size : Int)) (g : x.toList.isEmpty = false) (g2 : y.toList.isEmpty = false) (Y N : ByteArray) (d1 : ∀ W, (Op.stringOp .add y ⟨#[46]⟩).run Tryz.prog W = .ok (.string Y) W) (d2 : ∀ W, (Op.stringOp .add Y x).run Tryz.prog W = .ok (.string N) W) (C1 : Hid (∀ W, Calls Tryz.prog 14 #[srcV 12 ⟨#[]⟩ ⟨#[]⟩ x true 0 ⟨#[]⟩, .string N] W fun e w' => e = .returned (.bool true) ∧ Below W.heap.size W w')) (C2 : Hid (∀ W, Calls Tryz.prog 14 #[srcV 12 ⟨#[]⟩ ⟨#[]⟩ x true 0 ⟨#[]⟩, .string x] W fun e w' => e = .returned (.bool false) ∧ Below W.heap.size W w')) (C3 : Hid (∀ W, Calls Tryz.prog 14 #[srcV 12 ⟨#[]⟩ ⟨#[]⟩ x false 0 ⟨#[]⟩, .string x] W fun e w' => e = .returned (.bool true) ∧ Below W.heap.size W w')) (C4 : Hid (∀ W, Calls Tryz.prog 14 #[srcV 12 ⟨#[]⟩ ⟨#[]⟩ x false 0 ⟨#[]⟩, .string N] W fun e w' => e = .returned (.bool false) ∧ Below W.heap.size W w')) (w : World) (hw : Low w) : Calls Tryz.prog 9 #[.string x, .string y] w fun e w' => e = .returned (.bool true) ∧ Below w.heap.size w w' := by
  have MR := matches_hid
  unfold srcV at *
  go_enter Tryz.func9, Tryz.ntmps9
  go_wp2_with fail
  have xn := SX.made w 12 ⟨#[]⟩ ⟨#[]⟩ x true 0 ⟨#[]⟩
  have xz := SX.made (w.alloc (.cells #[.int .i64 12, .string ⟨#[]⟩, .string ⟨#[]⟩, .string x, .bool true, .int .i64 0, .string ⟨#[]⟩] 24)) 12 ⟨#[]⟩ ⟨#[]⟩ x false 0 ⟨#[]⟩
  have xy := xn.below ((Below.refl _ _).alloc (Nat.le_refl _) (.cells #[.int .i64 12, .string ⟨#[]⟩, .string ⟨#[]⟩, .string x, .bool false, .int .i64 0, .string ⟨#[]⟩] 24))
  have gB := (hw.made (.cells #[.int .i64 12, .string ⟨#[]⟩, .string ⟨#[]⟩, .string x, .bool true, .int .i64 0, .string ⟨#[]⟩] 24)).made (.cells #[.int .i64 12, .string ⟨#[]⟩, .string ⟨#[]⟩, .string x, .bool false, .int .i64 0, .string ⟨#[]⟩] 24)
  have BB := ((Below.refl w.heap.size w).alloc (Nat.le_refl _) (.cells #[.int .i64 12, .string ⟨#[]⟩, .string ⟨#[]⟩, .string x, .bool true, .int .i64 0, .string ⟨#[]⟩] 24)).alloc (Below.size ((Below.refl w.heap.size w).alloc (Nat.le_refl _) (.cells #[.int .i64 12, .string ⟨#[]⟩, .string ⟨#[]⟩, .string x, .bool true, .int .i64 0, .string ⟨#[]⟩] 24))) (.cells #[.int .i64 12, .string ⟨#[]⟩, .string ⟨#[]⟩, .string x, .bool false, .int .i64 0, .string ⟨#[]⟩] 24)
  rw [size_alloc] at xz
  clear xn hw
  generalize hR : w.heap.size = Ra at xy xz BB ⊢
  have HR := Lib.hid hR
  clear hR
  obtain ⟨Rb, hRb⟩ : ∃ Rb, Ra + 1 = Rb := ⟨_, rfl⟩
  rw [hRb] at xz
  try rw [hRb]
  clear hRb
  generalize (w.alloc (.cells #[.int .i64 12, .string ⟨#[]⟩, .string ⟨#[]⟩, .string x, .bool true, .int .i64 0, .string ⟨#[]⟩] 24)).alloc (.cells #[.int .i64 12, .string ⟨#[]⟩, .string ⟨#[]⟩, .string x, .bool false, .int .i64 0, .string ⟨#[]⟩] 24) = w1 at xy xz gB BB ⊢
  have xRa_w1 := xy
  have xRb_w1 := xz
  clear xy xz
  refine (MR.out _ gB).mono ?_
  rintro e w2 ⟨rfl, b_⟩
  have gw2 := gB.below b_
  have Bw2 := BB.trans (b_.mono (Nat.le_of_lt xRa_w1.lt))
  have xRa_w2 := xRa_w1.below b_
  have xRb_w2 := xRb_w1.below b_
  clear b_ gB BB xRa_w1 xRb_w1
  have dRa0 := xRa_w2.c0
  have dRa1 := xRa_w2.c1
  have dRa2 := xRa_w2.c2
  have dRa3 := xRa_w2.c3
  have dRa4 := xRa_w2.c4
  have dRa5 := xRa_w2.c5
  have dRa6 := xRa_w2.c6
  have dRb0 := xRb_w2.c0
  have dRb1 := xRb_w2.c1
  have dRb2 := xRb_w2.c2
  have dRb3 := xRb_w2.c3
  have dRb4 := xRb_w2.c4
  have dRb5 := xRb_w2.c5
  have dRb6 := xRb_w2.c6
  go_wp2_with fail
  clear dRa0 dRa1 dRa2 dRa3 dRa4 dRa5 dRa6 dRb0 dRb1 dRb2 dRb3 dRb4 dRb5 dRb6
  refine (C1.out _ ).mono ?_
  rintro e w3 ⟨rfl, b_⟩
  have gw3 := gw2.below b_
  have Bw3 := Bw2.trans (b_.mono (Nat.le_of_lt xRa_w2.lt))
  have xRa_w3 := xRa_w2.below b_
  have xRb_w3 := xRb_w2.below b_
  clear b_ gw2 Bw2 xRa_w2 xRb_w2
  have dRa0 := xRa_w3.c0
  have dRa1 := xRa_w3.c1
  have dRa2 := xRa_w3.c2
  have dRa3 := xRa_w3.c3
  have dRa4 := xRa_w3.c4
  have dRa5 := xRa_w3.c5
  have dRa6 := xRa_w3.c6
  have dRb0 := xRb_w3.c0
  have dRb1 := xRb_w3.c1
  have dRb2 := xRb_w3.c2
  have dRb3 := xRb_w3.c3
  have dRb4 := xRb_w3.c4
  have dRb5 := xRb_w3.c5
  have dRb6 := xRb_w3.c6
  go_wp2_with fail
  clear dRa0 dRa1 dRa2 dRa3 dRa4 dRa5 dRa6 dRb0 dRb1 dRb2 dRb3 dRb4 dRb5 dRb6
  refine (C2.out _ ).mono ?_
  rintro e w4 ⟨rfl, b_⟩
  have gw4 := gw3.below b_
  have Bw4 := Bw3.trans (b_.mono (Nat.le_of_lt xRa_w3.lt))
  have xRa_w4 := xRa_w3.below b_
  have xRb_w4 := xRb_w3.below b_
  clear b_ gw3 Bw3 xRa_w3 xRb_w3
  have dRa0 := xRa_w4.c0
  have dRa1 := xRa_w4.c1
  have dRa2 := xRa_w4.c2
  have dRa3 := xRa_w4.c3
  have dRa4 := xRa_w4.c4
  have dRa5 := xRa_w4.c5
  have dRa6 := xRa_w4.c6
  have dRb0 := xRb_w4.c0
  have dRb1 := xRb_w4.c1
  have dRb2 := xRb_w4.c2
  have dRb3 := xRb_w4.c3
  have dRb4 := xRb_w4.c4
  have dRb5 := xRb_w4.c5
  have dRb6 := xRb_w4.c6
  go_wp2_with fail
  clear dRa0 dRa1 dRa2 dRa3 dRa4 dRa5 dRa6 dRb0 dRb1 dRb2 dRb3 dRb4 dRb5 dRb6
  refine (C3.out _ ).mono ?_
  rintro e w5 ⟨rfl, b_⟩
  have gw5 := gw4.below b_
  have Bw5 := Bw4.trans (b_.mono (Nat.le_of_lt xRa_w4.lt))
  have xRa_w5 := xRa_w4.below b_
  have xRb_w5 := xRb_w4.below b_
  clear b_ gw4 Bw4 xRa_w4 xRb_w4
  have dRa0 := xRa_w5.c0
  have dRa1 := xRa_w5.c1
  have dRa2 := xRa_w5.c2
  have dRa3 := xRa_w5.c3
  have dRa4 := xRa_w5.c4
  have dRa5 := xRa_w5.c5
  have dRa6 := xRa_w5.c6
  have dRb0 := xRb_w5.c0
  have dRb1 := xRb_w5.c1
  have dRb2 := xRb_w5.c2
  have dRb3 := xRb_w5.c3
  have dRb4 := xRb_w5.c4
  have dRb5 := xRb_w5.c5
  have dRb6 := xRb_w5.c6
  go_wp2_with fail
  clear dRa0 dRa1 dRa2 dRa3 dRa4 dRa5 dRa6 dRb0 dRb1 dRb2 dRb3 dRb4 dRb5 dRb6
  refine (C4.out _ ).mono ?_
  rintro e w6 ⟨rfl, b_⟩
  have gw6 := gw5.below b_
  have Bw6 := Bw5.trans (b_.mono (Nat.le_of_lt xRa_w5.lt))
  have xRa_w6 := xRa_w5.below b_
  have xRb_w6 := xRb_w5.below b_
  clear b_ gw5 Bw5 xRa_w5 xRb_w5
  have dRa0 := xRa_w6.c0
  have dRa1 := xRa_w6.c1
  have dRa2 := xRa_w6.c2
  have dRa3 := xRa_w6.c3
  have dRa4 := xRa_w6.c4
  have dRa5 := xRa_w6.c5
  have dRa6 := xRa_w6.c6
  have dRb0 := xRb_w6.c0
  have dRb1 := xRb_w6.c1
  have dRb2 := xRb_w6.c2
  have dRb3 := xRb_w6.c3
  have dRb4 := xRb_w6.c4
  have dRb5 := xRb_w6.c5
  have dRb6 := xRb_w6.c6
  go_wp2
  go_ret
  exact ⟨rfl, by rw [HR.out]; exact Bw6⟩
theorem matchWilder_law (x y : ByteArray) (w : World) (hw : Low w) : Calls Tryz.prog 9 #[.string x, .string y] w fun e w' => e = .returned (.bool true) ∧ Below w.heap.size w w' := by
  by_cases k1 : (200 : Int) < (x.size : Int)
  · exact wilder_x x y k1 w
  by_cases k2 : (200 : Int) < (y.size : Int)
  · exact wilder_y x y k1 k2 w
  cases g : x.toList.isEmpty
  case true => exact wilder_e x y k1 k2 g w
  have hx : x.data.toList ≠ [] := by
    rw [text_none] at g
    intro e; rw [e] at g; cases g
  obtain ⟨Y, hY⟩ := text_of (y.data.toList ++ [46])
  obtain ⟨N, hN⟩ := text_of (Y.data.toList ++ x.data.toList)
  have sY : Y.size = y.size + 1 := by rw [← lsize, hY, List.length_append, lsize]; rfl
  have sN : N.size = Y.size + x.size := by rw [← lsize, hN, List.length_append, lsize, lsize]
  have d1 := add_to y ⟨#[46]⟩ Y hY (by show y.size + 1 ≤ _; omega)
  have d2 := add_to Y x N hN (by omega)
  have hM : N.data.toList = y.data.toList ++ 46 :: x.data.toList := by rw [hN, hY, List.append_assoc]; rfl
  have C2 := matHost_hid 12 ⟨#[]⟩ ⟨#[]⟩ x true 0 ⟨#[]⟩ x (by omega) (by omega) false (wild_self _ hx)
  have C3 := matHost_hid 12 ⟨#[]⟩ ⟨#[]⟩ x false 0 ⟨#[]⟩ x (by omega) (by omega) true (tame_self _)
  have C4 := matHost_hid 12 ⟨#[]⟩ ⟨#[]⟩ x false 0 ⟨#[]⟩ N (by omega) (by omega) false (by rw [hM]; exact tame_ahead _ _)
  have key : hostL true x.data.toList N.data.toList = !y.data.toList.isEmpty := by rw [hM]; exact wild_ahead _ _ hx
  rw [← text_none] at key
  cases g2 : y.toList.isEmpty
  case true =>
    rw [g2] at key
    exact wilder_n x y k1 k2 g g2 Y N d1 d2 (matHost_hid 12 ⟨#[]⟩ ⟨#[]⟩ x true 0 ⟨#[]⟩ N (by omega) (by omega) false key) C2 C3 C4 w hw
  rw [g2] at key
  exact wilder_a x y k1 k2 g g2 Y N d1 d2 (matHost_hid 12 ⟨#[]⟩ ⟨#[]⟩ x true 0 ⟨#[]⟩ N (by omega) (by omega) true key) C2 C3 C4 w hw

end Go.Proofs.YtpmnpaopkncphaaGreatDoor
