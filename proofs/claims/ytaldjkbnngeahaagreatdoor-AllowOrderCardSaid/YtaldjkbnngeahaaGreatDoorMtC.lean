/- Questions that are asked one after another, until one is denied: the variadic function, for its two callers. -/
import Derived.Test.YtaldjkbnngeahaaGreatDoorMtB
import Derived.LoopN
namespace Go.Proofs.YtaldjkbnngeahaaGreatDoor
open Go.RowKit

/-- The row of questions. -/
def RowP (W : World) (Q : Nat) (M S T U : Nat) : Prop := W.heap[Q]? = some (.cells #[.func (.func 71) #[] #[.pointer (some ⟨U, 0, none⟩)], .func (.func 72) #[] #[.pointer (some ⟨T, 0, none⟩), .pointer (some ⟨U, 0, none⟩)], .func (.func 73) #[] #[.pointer (some ⟨S, 0, none⟩), .pointer (some ⟨U, 0, none⟩)], .func (.func 75) #[] #[.pointer (some ⟨S, 0, none⟩), .pointer (some ⟨U, 0, none⟩)], .func (.func 77) #[] #[.pointer (some ⟨S, 0, none⟩), .pointer (some ⟨U, 0, none⟩), .pointer (some ⟨M, 0, none⟩)]] 32 (0, 0))
theorem RowP.below {W W' : World} {Q M S T U : Nat} (h : RowP W Q M S T U) (hb : Below W.heap.size W W') : RowP W' Q M S T U := by
  unfold RowP at *
  rw [hb.block Q (lt_of_block h)]; exact h
theorem RowP.c0 {W : World} {Q M S T U : Nat} (h : RowP W Q M S T U) : W.cell? ⟨Q, 0, none⟩ = some (.func (.func 71) #[] #[.pointer (some ⟨U, 0, none⟩)]) := by rw [cell_of h]; rfl
theorem RowP.c1 {W : World} {Q M S T U : Nat} (h : RowP W Q M S T U) : W.cell? ⟨Q, 1, none⟩ = some (.func (.func 72) #[] #[.pointer (some ⟨T, 0, none⟩), .pointer (some ⟨U, 0, none⟩)]) := by rw [cell_of h]; rfl
theorem RowP.c2 {W : World} {Q M S T U : Nat} (h : RowP W Q M S T U) : W.cell? ⟨Q, 2, none⟩ = some (.func (.func 73) #[] #[.pointer (some ⟨S, 0, none⟩), .pointer (some ⟨U, 0, none⟩)]) := by rw [cell_of h]; rfl
theorem RowP.c3 {W : World} {Q M S T U : Nat} (h : RowP W Q M S T U) : W.cell? ⟨Q, 3, none⟩ = some (.func (.func 75) #[] #[.pointer (some ⟨S, 0, none⟩), .pointer (some ⟨U, 0, none⟩)]) := by rw [cell_of h]; rfl
theorem RowP.c4 {W : World} {Q M S T U : Nat} (h : RowP W Q M S T U) : W.cell? ⟨Q, 4, none⟩ = some (.func (.func 77) #[] #[.pointer (some ⟨S, 0, none⟩), .pointer (some ⟨U, 0, none⟩), .pointer (some ⟨M, 0, none⟩)]) := by rw [cell_of h]; rfl

set_option maxRecDepth 100000 in
set_option maxHeartbeats 4000000 in
theorem allP_0 (K : World → Prop) (HK : Hid (∀ W W', K W → Below W.heap.size W W' → K W')) (Q M S T U : Nat) (C0 : Hid (∀ W, K W → Calls Tryz.prog 71 #[.pointer (some ⟨U, 0, none⟩)] W fun e w' => e = .returned (.bool false) ∧ Below W.heap.size W w')) (w : World) (hk : K w) (hq : RowP w Q M S T U) : Calls Tryz.prog 70 #[.slice (some ⟨Q, 0, none⟩) 5 5] w fun e w' => e = .returned (.bool false) ∧ Below w.heap.size w w' := by
  have c0 := hq.c0
  go_enter Tryz.func70, Tryz.ntmps70
  go_wp2_with fail
  refine wp_loop_rounds 6 ?_
  rw [rounds_succ]
  go_wp2_with fail
  refine (C0.out _ hk).mono ?_
  rintro e w1 ⟨rfl, b_⟩
  have hk1 := HK.out _ _ hk b_
  have hq1 := hq.below b_
  have B1 := b_
  clear hk hq c0 b_
  have hk := hk1
  have hq := hq1
  clear hk1 hq1
  have c1 := hq.c1
  go_wp2
  go_ret
  exact ⟨rfl, B1⟩

set_option maxRecDepth 100000 in
set_option maxHeartbeats 4000000 in
theorem allP_1 (K : World → Prop) (HK : Hid (∀ W W', K W → Below W.heap.size W W' → K W')) (Q M S T U : Nat) (C0 : Hid (∀ W, K W → Calls Tryz.prog 71 #[.pointer (some ⟨U, 0, none⟩)] W fun e w' => e = .returned (.bool true) ∧ Below W.heap.size W w')) (C1 : Hid (∀ W, K W → Calls Tryz.prog 72 #[.pointer (some ⟨T, 0, none⟩), .pointer (some ⟨U, 0, none⟩)] W fun e w' => e = .returned (.bool false) ∧ Below W.heap.size W w')) (w : World) (hk : K w) (hq : RowP w Q M S T U) : Calls Tryz.prog 70 #[.slice (some ⟨Q, 0, none⟩) 5 5] w fun e w' => e = .returned (.bool false) ∧ Below w.heap.size w w' := by
  have c0 := hq.c0
  go_enter Tryz.func70, Tryz.ntmps70
  go_wp2_with fail
  refine wp_loop_rounds 6 ?_
  rw [rounds_succ]
  go_wp2_with fail
  refine (C0.out _ hk).mono ?_
  rintro e w1 ⟨rfl, b_⟩
  have hk1 := HK.out _ _ hk b_
  have hq1 := hq.below b_
  have B1 := b_
  clear hk hq c0 b_
  have hk := hk1
  have hq := hq1
  clear hk1 hq1
  have c1 := hq.c1
  go_wp2_with fail
  rw [rounds_succ]
  go_wp2_with fail
  refine (C1.out _ hk).mono ?_
  rintro e w2 ⟨rfl, b_⟩
  have hk2 := HK.out _ _ hk b_
  have hq2 := hq.below b_
  have B2 := B1.trans (b_.mono B1.size)
  clear hk hq c1 b_ B1
  have hk := hk2
  have hq := hq2
  clear hk2 hq2
  have c2 := hq.c2
  go_wp2
  go_ret
  exact ⟨rfl, B2⟩

set_option maxRecDepth 100000 in
set_option maxHeartbeats 4000000 in
theorem allP_2 (K : World → Prop) (HK : Hid (∀ W W', K W → Below W.heap.size W W' → K W')) (Q M S T U : Nat) (C0 : Hid (∀ W, K W → Calls Tryz.prog 71 #[.pointer (some ⟨U, 0, none⟩)] W fun e w' => e = .returned (.bool true) ∧ Below W.heap.size W w')) (C1 : Hid (∀ W, K W → Calls Tryz.prog 72 #[.pointer (some ⟨T, 0, none⟩), .pointer (some ⟨U, 0, none⟩)] W fun e w' => e = .returned (.bool true) ∧ Below W.heap.size W w')) (C2 : Hid (∀ W, K W → Calls Tryz.prog 73 #[.pointer (some ⟨S, 0, none⟩), .pointer (some ⟨U, 0, none⟩)] W fun e w' => e = .returned (.bool false) ∧ Below W.heap.size W w')) (w : World) (hk : K w) (hq : RowP w Q M S T U) : Calls Tryz.prog 70 #[.slice (some ⟨Q, 0, none⟩) 5 5] w fun e w' => e = .returned (.bool false) ∧ Below w.heap.size w w' := by
  have c0 := hq.c0
  go_enter Tryz.func70, Tryz.ntmps70
  go_wp2_with fail
  refine wp_loop_rounds 6 ?_
  rw [rounds_succ]
  go_wp2_with fail
  refine (C0.out _ hk).mono ?_
  rintro e w1 ⟨rfl, b_⟩
  have hk1 := HK.out _ _ hk b_
  have hq1 := hq.below b_
  have B1 := b_
  clear hk hq c0 b_
  have hk := hk1
  have hq := hq1
  clear hk1 hq1
  have c1 := hq.c1
  go_wp2_with fail
  rw [rounds_succ]
  go_wp2_with fail
  refine (C1.out _ hk).mono ?_
  rintro e w2 ⟨rfl, b_⟩
  have hk2 := HK.out _ _ hk b_
  have hq2 := hq.below b_
  have B2 := B1.trans (b_.mono B1.size)
  clear hk hq c1 b_ B1
  have hk := hk2
  have hq := hq2
  clear hk2 hq2
  have c2 := hq.c2
  go_wp2_with fail
  rw [rounds_succ]
  go_wp2_with fail
  refine (C2.out _ hk).mono ?_
  rintro e w3 ⟨rfl, b_⟩
  have hk3 := HK.out _ _ hk b_
  have hq3 := hq.below b_
  have B3 := B2.trans (b_.mono B2.size)
  clear hk hq c2 b_ B2
  have hk := hk3
  have hq := hq3
  clear hk3 hq3
  have c3 := hq.c3
  go_wp2
  go_ret
  exact ⟨rfl, B3⟩

set_option maxRecDepth 100000 in
set_option maxHeartbeats 4000000 in
theorem allP_3 (K : World → Prop) (HK : Hid (∀ W W', K W → Below W.heap.size W W' → K W')) (Q M S T U : Nat) (C0 : Hid (∀ W, K W → Calls Tryz.prog 71 #[.pointer (some ⟨U, 0, none⟩)] W fun e w' => e = .returned (.bool true) ∧ Below W.heap.size W w')) (C1 : Hid (∀ W, K W → Calls Tryz.prog 72 #[.pointer (some ⟨T, 0, none⟩), .pointer (some ⟨U, 0, none⟩)] W fun e w' => e = .returned (.bool true) ∧ Below W.heap.size W w')) (C2 : Hid (∀ W, K W → Calls Tryz.prog 73 #[.pointer (some ⟨S, 0, none⟩), .pointer (some ⟨U, 0, none⟩)] W fun e w' => e = .returned (.bool true) ∧ Below W.heap.size W w')) (C3 : Hid (∀ W, K W → Calls Tryz.prog 75 #[.pointer (some ⟨S, 0, none⟩), .pointer (some ⟨U, 0, none⟩)] W fun e w' => e = .returned (.bool false) ∧ Below W.heap.size W w')) (w : World) (hk : K w) (hq : RowP w Q M S T U) : Calls Tryz.prog 70 #[.slice (some ⟨Q, 0, none⟩) 5 5] w fun e w' => e = .returned (.bool false) ∧ Below w.heap.size w w' := by
  have c0 := hq.c0
  go_enter Tryz.func70, Tryz.ntmps70
  go_wp2_with fail
  refine wp_loop_rounds 6 ?_
  rw [rounds_succ]
  go_wp2_with fail
  refine (C0.out _ hk).mono ?_
  rintro e w1 ⟨rfl, b_⟩
  have hk1 := HK.out _ _ hk b_
  have hq1 := hq.below b_
  have B1 := b_
  clear hk hq c0 b_
  have hk := hk1
  have hq := hq1
  clear hk1 hq1
  have c1 := hq.c1
  go_wp2_with fail
  rw [rounds_succ]
  go_wp2_with fail
  refine (C1.out _ hk).mono ?_
  rintro e w2 ⟨rfl, b_⟩
  have hk2 := HK.out _ _ hk b_
  have hq2 := hq.below b_
  have B2 := B1.trans (b_.mono B1.size)
  clear hk hq c1 b_ B1
  have hk := hk2
  have hq := hq2
  clear hk2 hq2
  have c2 := hq.c2
  go_wp2_with fail
  rw [rounds_succ]
  go_wp2_with fail
  refine (C2.out _ hk).mono ?_
  rintro e w3 ⟨rfl, b_⟩
  have hk3 := HK.out _ _ hk b_
  have hq3 := hq.below b_
  have B3 := B2.trans (b_.mono B2.size)
  clear hk hq c2 b_ B2
  have hk := hk3
  have hq := hq3
  clear hk3 hq3
  have c3 := hq.c3
  go_wp2_with fail
  rw [rounds_succ]
  go_wp2_with fail
  refine (C3.out _ hk).mono ?_
  rintro e w4 ⟨rfl, b_⟩
  have hk4 := HK.out _ _ hk b_
  have hq4 := hq.below b_
  have B4 := B3.trans (b_.mono B3.size)
  clear hk hq c3 b_ B3
  have hk := hk4
  have hq := hq4
  clear hk4 hq4
  have c4 := hq.c4
  go_wp2
  go_ret
  exact ⟨rfl, B4⟩

set_option maxRecDepth 100000 in
set_option maxHeartbeats 4000000 in
theorem allP_4 (K : World → Prop) (HK : Hid (∀ W W', K W → Below W.heap.size W W' → K W')) (Q M S T U : Nat) (C0 : Hid (∀ W, K W → Calls Tryz.prog 71 #[.pointer (some ⟨U, 0, none⟩)] W fun e w' => e = .returned (.bool true) ∧ Below W.heap.size W w')) (C1 : Hid (∀ W, K W → Calls Tryz.prog 72 #[.pointer (some ⟨T, 0, none⟩), .pointer (some ⟨U, 0, none⟩)] W fun e w' => e = .returned (.bool true) ∧ Below W.heap.size W w')) (C2 : Hid (∀ W, K W → Calls Tryz.prog 73 #[.pointer (some ⟨S, 0, none⟩), .pointer (some ⟨U, 0, none⟩)] W fun e w' => e = .returned (.bool true) ∧ Below W.heap.size W w')) (C3 : Hid (∀ W, K W → Calls Tryz.prog 75 #[.pointer (some ⟨S, 0, none⟩), .pointer (some ⟨U, 0, none⟩)] W fun e w' => e = .returned (.bool true) ∧ Below W.heap.size W w')) (C4 : Hid (∀ W, K W → Calls Tryz.prog 77 #[.pointer (some ⟨S, 0, none⟩), .pointer (some ⟨U, 0, none⟩), .pointer (some ⟨M, 0, none⟩)] W fun e w' => e = .returned (.bool false) ∧ Below W.heap.size W w')) (w : World) (hk : K w) (hq : RowP w Q M S T U) : Calls Tryz.prog 70 #[.slice (some ⟨Q, 0, none⟩) 5 5] w fun e w' => e = .returned (.bool false) ∧ Below w.heap.size w w' := by
  have c0 := hq.c0
  go_enter Tryz.func70, Tryz.ntmps70
  go_wp2_with fail
  refine wp_loop_rounds 6 ?_
  rw [rounds_succ]
  go_wp2_with fail
  refine (C0.out _ hk).mono ?_
  rintro e w1 ⟨rfl, b_⟩
  have hk1 := HK.out _ _ hk b_
  have hq1 := hq.below b_
  have B1 := b_
  clear hk hq c0 b_
  have hk := hk1
  have hq := hq1
  clear hk1 hq1
  have c1 := hq.c1
  go_wp2_with fail
  rw [rounds_succ]
  go_wp2_with fail
  refine (C1.out _ hk).mono ?_
  rintro e w2 ⟨rfl, b_⟩
  have hk2 := HK.out _ _ hk b_
  have hq2 := hq.below b_
  have B2 := B1.trans (b_.mono B1.size)
  clear hk hq c1 b_ B1
  have hk := hk2
  have hq := hq2
  clear hk2 hq2
  have c2 := hq.c2
  go_wp2_with fail
  rw [rounds_succ]
  go_wp2_with fail
  refine (C2.out _ hk).mono ?_
  rintro e w3 ⟨rfl, b_⟩
  have hk3 := HK.out _ _ hk b_
  have hq3 := hq.below b_
  have B3 := B2.trans (b_.mono B2.size)
  clear hk hq c2 b_ B2
  have hk := hk3
  have hq := hq3
  clear hk3 hq3
  have c3 := hq.c3
  go_wp2_with fail
  rw [rounds_succ]
  go_wp2_with fail
  refine (C3.out _ hk).mono ?_
  rintro e w4 ⟨rfl, b_⟩
  have hk4 := HK.out _ _ hk b_
  have hq4 := hq.below b_
  have B4 := B3.trans (b_.mono B3.size)
  clear hk hq c3 b_ B3
  have hk := hk4
  have hq := hq4
  clear hk4 hq4
  have c4 := hq.c4
  go_wp2_with fail
  rw [rounds_succ]
  go_wp2_with fail
  refine (C4.out _ hk).mono ?_
  rintro e w5 ⟨rfl, b_⟩
  have hk5 := HK.out _ _ hk b_
  have hq5 := hq.below b_
  have B5 := B4.trans (b_.mono B4.size)
  clear hk hq c4 b_ B4
  have hk := hk5
  have hq := hq5
  clear hk5 hq5
  go_wp2
  go_ret
  exact ⟨rfl, B5⟩

set_option maxRecDepth 100000 in
set_option maxHeartbeats 4000000 in
theorem allP_5 (K : World → Prop) (HK : Hid (∀ W W', K W → Below W.heap.size W W' → K W')) (Q M S T U : Nat) (C0 : Hid (∀ W, K W → Calls Tryz.prog 71 #[.pointer (some ⟨U, 0, none⟩)] W fun e w' => e = .returned (.bool true) ∧ Below W.heap.size W w')) (C1 : Hid (∀ W, K W → Calls Tryz.prog 72 #[.pointer (some ⟨T, 0, none⟩), .pointer (some ⟨U, 0, none⟩)] W fun e w' => e = .returned (.bool true) ∧ Below W.heap.size W w')) (C2 : Hid (∀ W, K W → Calls Tryz.prog 73 #[.pointer (some ⟨S, 0, none⟩), .pointer (some ⟨U, 0, none⟩)] W fun e w' => e = .returned (.bool true) ∧ Below W.heap.size W w')) (C3 : Hid (∀ W, K W → Calls Tryz.prog 75 #[.pointer (some ⟨S, 0, none⟩), .pointer (some ⟨U, 0, none⟩)] W fun e w' => e = .returned (.bool true) ∧ Below W.heap.size W w')) (C4 : Hid (∀ W, K W → Calls Tryz.prog 77 #[.pointer (some ⟨S, 0, none⟩), .pointer (some ⟨U, 0, none⟩), .pointer (some ⟨M, 0, none⟩)] W fun e w' => e = .returned (.bool true) ∧ Below W.heap.size W w')) (w : World) (hk : K w) (hq : RowP w Q M S T U) : Calls Tryz.prog 70 #[.slice (some ⟨Q, 0, none⟩) 5 5] w fun e w' => e = .returned (.bool true) ∧ Below w.heap.size w w' := by
  have c0 := hq.c0
  go_enter Tryz.func70, Tryz.ntmps70
  go_wp2_with fail
  refine wp_loop_rounds 6 ?_
  rw [rounds_succ]
  go_wp2_with fail
  refine (C0.out _ hk).mono ?_
  rintro e w1 ⟨rfl, b_⟩
  have hk1 := HK.out _ _ hk b_
  have hq1 := hq.below b_
  have B1 := b_
  clear hk hq c0 b_
  have hk := hk1
  have hq := hq1
  clear hk1 hq1
  have c1 := hq.c1
  go_wp2_with fail
  rw [rounds_succ]
  go_wp2_with fail
  refine (C1.out _ hk).mono ?_
  rintro e w2 ⟨rfl, b_⟩
  have hk2 := HK.out _ _ hk b_
  have hq2 := hq.below b_
  have B2 := B1.trans (b_.mono B1.size)
  clear hk hq c1 b_ B1
  have hk := hk2
  have hq := hq2
  clear hk2 hq2
  have c2 := hq.c2
  go_wp2_with fail
  rw [rounds_succ]
  go_wp2_with fail
  refine (C2.out _ hk).mono ?_
  rintro e w3 ⟨rfl, b_⟩
  have hk3 := HK.out _ _ hk b_
  have hq3 := hq.below b_
  have B3 := B2.trans (b_.mono B2.size)
  clear hk hq c2 b_ B2
  have hk := hk3
  have hq := hq3
  clear hk3 hq3
  have c3 := hq.c3
  go_wp2_with fail
  rw [rounds_succ]
  go_wp2_with fail
  refine (C3.out _ hk).mono ?_
  rintro e w4 ⟨rfl, b_⟩
  have hk4 := HK.out _ _ hk b_
  have hq4 := hq.below b_
  have B4 := B3.trans (b_.mono B3.size)
  clear hk hq c3 b_ B3
  have hk := hk4
  have hq := hq4
  clear hk4 hq4
  have c4 := hq.c4
  go_wp2_with fail
  rw [rounds_succ]
  go_wp2_with fail
  refine (C4.out _ hk).mono ?_
  rintro e w5 ⟨rfl, b_⟩
  have hk5 := HK.out _ _ hk b_
  have hq5 := hq.below b_
  have B5 := B4.trans (b_.mono B4.size)
  clear hk hq c4 b_ B4
  have hk := hk5
  have hq := hq5
  clear hk5 hq5
  go_wp2_with fail
  rw [rounds_succ]
  go_wp2
  go_ret
  exact ⟨rfl, B5⟩
theorem allP_any (K : World → Prop) (HK : Hid (∀ W W', K W → Below W.heap.size W W' → K W')) (Q M S T U : Nat) (b0 b1 b2 b3 b4 : Bool) (C0 : Hid (∀ W, K W → Calls Tryz.prog 71 #[.pointer (some ⟨U, 0, none⟩)] W fun e w' => e = .returned (.bool b0) ∧ Below W.heap.size W w')) (C1 : b0 = true → Hid (∀ W, K W → Calls Tryz.prog 72 #[.pointer (some ⟨T, 0, none⟩), .pointer (some ⟨U, 0, none⟩)] W fun e w' => e = .returned (.bool b1) ∧ Below W.heap.size W w')) (C2 : b0 = true → b1 = true → Hid (∀ W, K W → Calls Tryz.prog 73 #[.pointer (some ⟨S, 0, none⟩), .pointer (some ⟨U, 0, none⟩)] W fun e w' => e = .returned (.bool b2) ∧ Below W.heap.size W w')) (C3 : b0 = true → b1 = true → b2 = true → Hid (∀ W, K W → Calls Tryz.prog 75 #[.pointer (some ⟨S, 0, none⟩), .pointer (some ⟨U, 0, none⟩)] W fun e w' => e = .returned (.bool b3) ∧ Below W.heap.size W w')) (C4 : b0 = true → b1 = true → b2 = true → b3 = true → Hid (∀ W, K W → Calls Tryz.prog 77 #[.pointer (some ⟨S, 0, none⟩), .pointer (some ⟨U, 0, none⟩), .pointer (some ⟨M, 0, none⟩)] W fun e w' => e = .returned (.bool b4) ∧ Below W.heap.size W w')) (w : World) (hk : K w) (hq : RowP w Q M S T U) : Calls Tryz.prog 70 #[.slice (some ⟨Q, 0, none⟩) 5 5] w fun e w' => e = .returned (.bool (b0 && (b1 && (b2 && (b3 && b4))))) ∧ Below w.heap.size w w' := by
  cases b0
  · exact allP_0 K HK Q M S T U C0 w hk hq
  cases b1
  · exact allP_1 K HK Q M S T U C0 (C1 rfl) w hk hq
  cases b2
  · exact allP_2 K HK Q M S T U C0 (C1 rfl) (C2 rfl rfl) w hk hq
  cases b3
  · exact allP_3 K HK Q M S T U C0 (C1 rfl) (C2 rfl rfl) (C3 rfl rfl rfl) w hk hq
  cases b4
  · exact allP_4 K HK Q M S T U C0 (C1 rfl) (C2 rfl rfl) (C3 rfl rfl rfl) (C4 rfl rfl rfl rfl) w hk hq
  · exact allP_5 K HK Q M S T U C0 (C1 rfl) (C2 rfl rfl) (C3 rfl rfl rfl) (C4 rfl rfl rfl rfl) w hk hq
/-- The row of questions. -/
def RowN (W : World) (Q : Nat) (U V : Nat) : Prop := W.heap[Q]? = some (.cells #[.func (.func 80) #[] #[.pointer (some ⟨V, 0, none⟩)], .func (.func 81) #[] #[.pointer (some ⟨V, 0, none⟩), .pointer (some ⟨U, 0, none⟩)], .func (.func 82) #[] #[.pointer (some ⟨V, 0, none⟩), .pointer (some ⟨U, 0, none⟩)], .func (.func 83) #[] #[.pointer (some ⟨V, 0, none⟩), .pointer (some ⟨U, 0, none⟩)], .func (.func 84) #[] #[.pointer (some ⟨V, 0, none⟩), .pointer (some ⟨U, 0, none⟩)]] 32 (0, 0))
theorem RowN.below {W W' : World} {Q U V : Nat} (h : RowN W Q U V) (hb : Below W.heap.size W W') : RowN W' Q U V := by
  unfold RowN at *
  rw [hb.block Q (lt_of_block h)]; exact h
theorem RowN.c0 {W : World} {Q U V : Nat} (h : RowN W Q U V) : W.cell? ⟨Q, 0, none⟩ = some (.func (.func 80) #[] #[.pointer (some ⟨V, 0, none⟩)]) := by rw [cell_of h]; rfl
theorem RowN.c1 {W : World} {Q U V : Nat} (h : RowN W Q U V) : W.cell? ⟨Q, 1, none⟩ = some (.func (.func 81) #[] #[.pointer (some ⟨V, 0, none⟩), .pointer (some ⟨U, 0, none⟩)]) := by rw [cell_of h]; rfl
theorem RowN.c2 {W : World} {Q U V : Nat} (h : RowN W Q U V) : W.cell? ⟨Q, 2, none⟩ = some (.func (.func 82) #[] #[.pointer (some ⟨V, 0, none⟩), .pointer (some ⟨U, 0, none⟩)]) := by rw [cell_of h]; rfl
theorem RowN.c3 {W : World} {Q U V : Nat} (h : RowN W Q U V) : W.cell? ⟨Q, 3, none⟩ = some (.func (.func 83) #[] #[.pointer (some ⟨V, 0, none⟩), .pointer (some ⟨U, 0, none⟩)]) := by rw [cell_of h]; rfl
theorem RowN.c4 {W : World} {Q U V : Nat} (h : RowN W Q U V) : W.cell? ⟨Q, 4, none⟩ = some (.func (.func 84) #[] #[.pointer (some ⟨V, 0, none⟩), .pointer (some ⟨U, 0, none⟩)]) := by rw [cell_of h]; rfl

set_option maxRecDepth 100000 in
set_option maxHeartbeats 4000000 in
theorem allN_0 (K : World → Prop) (HK : Hid (∀ W W', K W → Below W.heap.size W W' → K W')) (Q U V : Nat) (C0 : Hid (∀ W, K W → Calls Tryz.prog 80 #[.pointer (some ⟨V, 0, none⟩)] W fun e w' => e = .returned (.bool false) ∧ Below W.heap.size W w')) (w : World) (hk : K w) (hq : RowN w Q U V) : Calls Tryz.prog 70 #[.slice (some ⟨Q, 0, none⟩) 5 5] w fun e w' => e = .returned (.bool false) ∧ Below w.heap.size w w' := by
  have c0 := hq.c0
  go_enter Tryz.func70, Tryz.ntmps70
  go_wp2_with fail
  refine wp_loop_rounds 6 ?_
  rw [rounds_succ]
  go_wp2_with fail
  refine (C0.out _ hk).mono ?_
  rintro e w1 ⟨rfl, b_⟩
  have hk1 := HK.out _ _ hk b_
  have hq1 := hq.below b_
  have B1 := b_
  clear hk hq c0 b_
  have hk := hk1
  have hq := hq1
  clear hk1 hq1
  have c1 := hq.c1
  go_wp2
  go_ret
  exact ⟨rfl, B1⟩

set_option maxRecDepth 100000 in
set_option maxHeartbeats 4000000 in
theorem allN_1 (K : World → Prop) (HK : Hid (∀ W W', K W → Below W.heap.size W W' → K W')) (Q U V : Nat) (C0 : Hid (∀ W, K W → Calls Tryz.prog 80 #[.pointer (some ⟨V, 0, none⟩)] W fun e w' => e = .returned (.bool true) ∧ Below W.heap.size W w')) (C1 : Hid (∀ W, K W → Calls Tryz.prog 81 #[.pointer (some ⟨V, 0, none⟩), .pointer (some ⟨U, 0, none⟩)] W fun e w' => e = .returned (.bool false) ∧ Below W.heap.size W w')) (w : World) (hk : K w) (hq : RowN w Q U V) : Calls Tryz.prog 70 #[.slice (some ⟨Q, 0, none⟩) 5 5] w fun e w' => e = .returned (.bool false) ∧ Below w.heap.size w w' := by
  have c0 := hq.c0
  go_enter Tryz.func70, Tryz.ntmps70
  go_wp2_with fail
  refine wp_loop_rounds 6 ?_
  rw [rounds_succ]
  go_wp2_with fail
  refine (C0.out _ hk).mono ?_
  rintro e w1 ⟨rfl, b_⟩
  have hk1 := HK.out _ _ hk b_
  have hq1 := hq.below b_
  have B1 := b_
  clear hk hq c0 b_
  have hk := hk1
  have hq := hq1
  clear hk1 hq1
  have c1 := hq.c1
  go_wp2_with fail
  rw [rounds_succ]
  go_wp2_with fail
  refine (C1.out _ hk).mono ?_
  rintro e w2 ⟨rfl, b_⟩
  have hk2 := HK.out _ _ hk b_
  have hq2 := hq.below b_
  have B2 := B1.trans (b_.mono B1.size)
  clear hk hq c1 b_ B1
  have hk := hk2
  have hq := hq2
  clear hk2 hq2
  have c2 := hq.c2
  go_wp2
  go_ret
  exact ⟨rfl, B2⟩

set_option maxRecDepth 100000 in
set_option maxHeartbeats 4000000 in
theorem allN_2 (K : World → Prop) (HK : Hid (∀ W W', K W → Below W.heap.size W W' → K W')) (Q U V : Nat) (C0 : Hid (∀ W, K W → Calls Tryz.prog 80 #[.pointer (some ⟨V, 0, none⟩)] W fun e w' => e = .returned (.bool true) ∧ Below W.heap.size W w')) (C1 : Hid (∀ W, K W → Calls Tryz.prog 81 #[.pointer (some ⟨V, 0, none⟩), .pointer (some ⟨U, 0, none⟩)] W fun e w' => e = .returned (.bool true) ∧ Below W.heap.size W w')) (C2 : Hid (∀ W, K W → Calls Tryz.prog 82 #[.pointer (some ⟨V, 0, none⟩), .pointer (some ⟨U, 0, none⟩)] W fun e w' => e = .returned (.bool false) ∧ Below W.heap.size W w')) (w : World) (hk : K w) (hq : RowN w Q U V) : Calls Tryz.prog 70 #[.slice (some ⟨Q, 0, none⟩) 5 5] w fun e w' => e = .returned (.bool false) ∧ Below w.heap.size w w' := by
  have c0 := hq.c0
  go_enter Tryz.func70, Tryz.ntmps70
  go_wp2_with fail
  refine wp_loop_rounds 6 ?_
  rw [rounds_succ]
  go_wp2_with fail
  refine (C0.out _ hk).mono ?_
  rintro e w1 ⟨rfl, b_⟩
  have hk1 := HK.out _ _ hk b_
  have hq1 := hq.below b_
  have B1 := b_
  clear hk hq c0 b_
  have hk := hk1
  have hq := hq1
  clear hk1 hq1
  have c1 := hq.c1
  go_wp2_with fail
  rw [rounds_succ]
  go_wp2_with fail
  refine (C1.out _ hk).mono ?_
  rintro e w2 ⟨rfl, b_⟩
  have hk2 := HK.out _ _ hk b_
  have hq2 := hq.below b_
  have B2 := B1.trans (b_.mono B1.size)
  clear hk hq c1 b_ B1
  have hk := hk2
  have hq := hq2
  clear hk2 hq2
  have c2 := hq.c2
  go_wp2_with fail
  rw [rounds_succ]
  go_wp2_with fail
  refine (C2.out _ hk).mono ?_
  rintro e w3 ⟨rfl, b_⟩
  have hk3 := HK.out _ _ hk b_
  have hq3 := hq.below b_
  have B3 := B2.trans (b_.mono B2.size)
  clear hk hq c2 b_ B2
  have hk := hk3
  have hq := hq3
  clear hk3 hq3
  have c3 := hq.c3
  go_wp2
  go_ret
  exact ⟨rfl, B3⟩

set_option maxRecDepth 100000 in
set_option maxHeartbeats 4000000 in
theorem allN_3 (K : World → Prop) (HK : Hid (∀ W W', K W → Below W.heap.size W W' → K W')) (Q U V : Nat) (C0 : Hid (∀ W, K W → Calls Tryz.prog 80 #[.pointer (some ⟨V, 0, none⟩)] W fun e w' => e = .returned (.bool true) ∧ Below W.heap.size W w')) (C1 : Hid (∀ W, K W → Calls Tryz.prog 81 #[.pointer (some ⟨V, 0, none⟩), .pointer (some ⟨U, 0, none⟩)] W fun e w' => e = .returned (.bool true) ∧ Below W.heap.size W w')) (C2 : Hid (∀ W, K W → Calls Tryz.prog 82 #[.pointer (some ⟨V, 0, none⟩), .pointer (some ⟨U, 0, none⟩)] W fun e w' => e = .returned (.bool true) ∧ Below W.heap.size W w')) (C3 : Hid (∀ W, K W → Calls Tryz.prog 83 #[.pointer (some ⟨V, 0, none⟩), .pointer (some ⟨U, 0, none⟩)] W fun e w' => e = .returned (.bool false) ∧ Below W.heap.size W w')) (w : World) (hk : K w) (hq : RowN w Q U V) : Calls Tryz.prog 70 #[.slice (some ⟨Q, 0, none⟩) 5 5] w fun e w' => e = .returned (.bool false) ∧ Below w.heap.size w w' := by
  have c0 := hq.c0
  go_enter Tryz.func70, Tryz.ntmps70
  go_wp2_with fail
  refine wp_loop_rounds 6 ?_
  rw [rounds_succ]
  go_wp2_with fail
  refine (C0.out _ hk).mono ?_
  rintro e w1 ⟨rfl, b_⟩
  have hk1 := HK.out _ _ hk b_
  have hq1 := hq.below b_
  have B1 := b_
  clear hk hq c0 b_
  have hk := hk1
  have hq := hq1
  clear hk1 hq1
  have c1 := hq.c1
  go_wp2_with fail
  rw [rounds_succ]
  go_wp2_with fail
  refine (C1.out _ hk).mono ?_
  rintro e w2 ⟨rfl, b_⟩
  have hk2 := HK.out _ _ hk b_
  have hq2 := hq.below b_
  have B2 := B1.trans (b_.mono B1.size)
  clear hk hq c1 b_ B1
  have hk := hk2
  have hq := hq2
  clear hk2 hq2
  have c2 := hq.c2
  go_wp2_with fail
  rw [rounds_succ]
  go_wp2_with fail
  refine (C2.out _ hk).mono ?_
  rintro e w3 ⟨rfl, b_⟩
  have hk3 := HK.out _ _ hk b_
  have hq3 := hq.below b_
  have B3 := B2.trans (b_.mono B2.size)
  clear hk hq c2 b_ B2
  have hk := hk3
  have hq := hq3
  clear hk3 hq3
  have c3 := hq.c3
  go_wp2_with fail
  rw [rounds_succ]
  go_wp2_with fail
  refine (C3.out _ hk).mono ?_
  rintro e w4 ⟨rfl, b_⟩
  have hk4 := HK.out _ _ hk b_
  have hq4 := hq.below b_
  have B4 := B3.trans (b_.mono B3.size)
  clear hk hq c3 b_ B3
  have hk := hk4
  have hq := hq4
  clear hk4 hq4
  have c4 := hq.c4
  go_wp2
  go_ret
  exact ⟨rfl, B4⟩

set_option maxRecDepth 100000 in
set_option maxHeartbeats 4000000 in
theorem allN_4 (K : World → Prop) (HK : Hid (∀ W W', K W → Below W.heap.size W W' → K W')) (Q U V : Nat) (C0 : Hid (∀ W, K W → Calls Tryz.prog 80 #[.pointer (some ⟨V, 0, none⟩)] W fun e w' => e = .returned (.bool true) ∧ Below W.heap.size W w')) (C1 : Hid (∀ W, K W → Calls Tryz.prog 81 #[.pointer (some ⟨V, 0, none⟩), .pointer (some ⟨U, 0, none⟩)] W fun e w' => e = .returned (.bool true) ∧ Below W.heap.size W w')) (C2 : Hid (∀ W, K W → Calls Tryz.prog 82 #[.pointer (some ⟨V, 0, none⟩), .pointer (some ⟨U, 0, none⟩)] W fun e w' => e = .returned (.bool true) ∧ Below W.heap.size W w')) (C3 : Hid (∀ W, K W → Calls Tryz.prog 83 #[.pointer (some ⟨V, 0, none⟩), .pointer (some ⟨U, 0, none⟩)] W fun e w' => e = .returned (.bool true) ∧ Below W.heap.size W w')) (C4 : Hid (∀ W, K W → Calls Tryz.prog 84 #[.pointer (some ⟨V, 0, none⟩), .pointer (some ⟨U, 0, none⟩)] W fun e w' => e = .returned (.bool false) ∧ Below W.heap.size W w')) (w : World) (hk : K w) (hq : RowN w Q U V) : Calls Tryz.prog 70 #[.slice (some ⟨Q, 0, none⟩) 5 5] w fun e w' => e = .returned (.bool false) ∧ Below w.heap.size w w' := by
  have c0 := hq.c0
  go_enter Tryz.func70, Tryz.ntmps70
  go_wp2_with fail
  refine wp_loop_rounds 6 ?_
  rw [rounds_succ]
  go_wp2_with fail
  refine (C0.out _ hk).mono ?_
  rintro e w1 ⟨rfl, b_⟩
  have hk1 := HK.out _ _ hk b_
  have hq1 := hq.below b_
  have B1 := b_
  clear hk hq c0 b_
  have hk := hk1
  have hq := hq1
  clear hk1 hq1
  have c1 := hq.c1
  go_wp2_with fail
  rw [rounds_succ]
  go_wp2_with fail
  refine (C1.out _ hk).mono ?_
  rintro e w2 ⟨rfl, b_⟩
  have hk2 := HK.out _ _ hk b_
  have hq2 := hq.below b_
  have B2 := B1.trans (b_.mono B1.size)
  clear hk hq c1 b_ B1
  have hk := hk2
  have hq := hq2
  clear hk2 hq2
  have c2 := hq.c2
  go_wp2_with fail
  rw [rounds_succ]
  go_wp2_with fail
  refine (C2.out _ hk).mono ?_
  rintro e w3 ⟨rfl, b_⟩
  have hk3 := HK.out _ _ hk b_
  have hq3 := hq.below b_
  have B3 := B2.trans (b_.mono B2.size)
  clear hk hq c2 b_ B2
  have hk := hk3
  have hq := hq3
  clear hk3 hq3
  have c3 := hq.c3
  go_wp2_with fail
  rw [rounds_succ]
  go_wp2_with fail
  refine (C3.out _ hk).mono ?_
  rintro e w4 ⟨rfl, b_⟩
  have hk4 := HK.out _ _ hk b_
  have hq4 := hq.below b_
  have B4 := B3.trans (b_.mono B3.size)
  clear hk hq c3 b_ B3
  have hk := hk4
  have hq := hq4
  clear hk4 hq4
  have c4 := hq.c4
  go_wp2_with fail
  rw [rounds_succ]
  go_wp2_with fail
  refine (C4.out _ hk).mono ?_
  rintro e w5 ⟨rfl, b_⟩
  have hk5 := HK.out _ _ hk b_
  have hq5 := hq.below b_
  have B5 := B4.trans (b_.mono B4.size)
  clear hk hq c4 b_ B4
  have hk := hk5
  have hq := hq5
  clear hk5 hq5
  go_wp2
  go_ret
  exact ⟨rfl, B5⟩

set_option maxRecDepth 100000 in
set_option maxHeartbeats 4000000 in
theorem allN_5 (K : World → Prop) (HK : Hid (∀ W W', K W → Below W.heap.size W W' → K W')) (Q U V : Nat) (C0 : Hid (∀ W, K W → Calls Tryz.prog 80 #[.pointer (some ⟨V, 0, none⟩)] W fun e w' => e = .returned (.bool true) ∧ Below W.heap.size W w')) (C1 : Hid (∀ W, K W → Calls Tryz.prog 81 #[.pointer (some ⟨V, 0, none⟩), .pointer (some ⟨U, 0, none⟩)] W fun e w' => e = .returned (.bool true) ∧ Below W.heap.size W w')) (C2 : Hid (∀ W, K W → Calls Tryz.prog 82 #[.pointer (some ⟨V, 0, none⟩), .pointer (some ⟨U, 0, none⟩)] W fun e w' => e = .returned (.bool true) ∧ Below W.heap.size W w')) (C3 : Hid (∀ W, K W → Calls Tryz.prog 83 #[.pointer (some ⟨V, 0, none⟩), .pointer (some ⟨U, 0, none⟩)] W fun e w' => e = .returned (.bool true) ∧ Below W.heap.size W w')) (C4 : Hid (∀ W, K W → Calls Tryz.prog 84 #[.pointer (some ⟨V, 0, none⟩), .pointer (some ⟨U, 0, none⟩)] W fun e w' => e = .returned (.bool true) ∧ Below W.heap.size W w')) (w : World) (hk : K w) (hq : RowN w Q U V) : Calls Tryz.prog 70 #[.slice (some ⟨Q, 0, none⟩) 5 5] w fun e w' => e = .returned (.bool true) ∧ Below w.heap.size w w' := by
  have c0 := hq.c0
  go_enter Tryz.func70, Tryz.ntmps70
  go_wp2_with fail
  refine wp_loop_rounds 6 ?_
  rw [rounds_succ]
  go_wp2_with fail
  refine (C0.out _ hk).mono ?_
  rintro e w1 ⟨rfl, b_⟩
  have hk1 := HK.out _ _ hk b_
  have hq1 := hq.below b_
  have B1 := b_
  clear hk hq c0 b_
  have hk := hk1
  have hq := hq1
  clear hk1 hq1
  have c1 := hq.c1
  go_wp2_with fail
  rw [rounds_succ]
  go_wp2_with fail
  refine (C1.out _ hk).mono ?_
  rintro e w2 ⟨rfl, b_⟩
  have hk2 := HK.out _ _ hk b_
  have hq2 := hq.below b_
  have B2 := B1.trans (b_.mono B1.size)
  clear hk hq c1 b_ B1
  have hk := hk2
  have hq := hq2
  clear hk2 hq2
  have c2 := hq.c2
  go_wp2_with fail
  rw [rounds_succ]
  go_wp2_with fail
  refine (C2.out _ hk).mono ?_
  rintro e w3 ⟨rfl, b_⟩
  have hk3 := HK.out _ _ hk b_
  have hq3 := hq.below b_
  have B3 := B2.trans (b_.mono B2.size)
  clear hk hq c2 b_ B2
  have hk := hk3
  have hq := hq3
  clear hk3 hq3
  have c3 := hq.c3
  go_wp2_with fail
  rw [rounds_succ]
  go_wp2_with fail
  refine (C3.out _ hk).mono ?_
  rintro e w4 ⟨rfl, b_⟩
  have hk4 := HK.out _ _ hk b_
  have hq4 := hq.below b_
  have B4 := B3.trans (b_.mono B3.size)
  clear hk hq c3 b_ B3
  have hk := hk4
  have hq := hq4
  clear hk4 hq4
  have c4 := hq.c4
  go_wp2_with fail
  rw [rounds_succ]
  go_wp2_with fail
  refine (C4.out _ hk).mono ?_
  rintro e w5 ⟨rfl, b_⟩
  have hk5 := HK.out _ _ hk b_
  have hq5 := hq.below b_
  have B5 := B4.trans (b_.mono B4.size)
  clear hk hq c4 b_ B4
  have hk := hk5
  have hq := hq5
  clear hk5 hq5
  go_wp2_with fail
  rw [rounds_succ]
  go_wp2
  go_ret
  exact ⟨rfl, B5⟩
theorem allN_any (K : World → Prop) (HK : Hid (∀ W W', K W → Below W.heap.size W W' → K W')) (Q U V : Nat) (b0 b1 b2 b3 b4 : Bool) (C0 : Hid (∀ W, K W → Calls Tryz.prog 80 #[.pointer (some ⟨V, 0, none⟩)] W fun e w' => e = .returned (.bool b0) ∧ Below W.heap.size W w')) (C1 : b0 = true → Hid (∀ W, K W → Calls Tryz.prog 81 #[.pointer (some ⟨V, 0, none⟩), .pointer (some ⟨U, 0, none⟩)] W fun e w' => e = .returned (.bool b1) ∧ Below W.heap.size W w')) (C2 : b0 = true → b1 = true → Hid (∀ W, K W → Calls Tryz.prog 82 #[.pointer (some ⟨V, 0, none⟩), .pointer (some ⟨U, 0, none⟩)] W fun e w' => e = .returned (.bool b2) ∧ Below W.heap.size W w')) (C3 : b0 = true → b1 = true → b2 = true → Hid (∀ W, K W → Calls Tryz.prog 83 #[.pointer (some ⟨V, 0, none⟩), .pointer (some ⟨U, 0, none⟩)] W fun e w' => e = .returned (.bool b3) ∧ Below W.heap.size W w')) (C4 : b0 = true → b1 = true → b2 = true → b3 = true → Hid (∀ W, K W → Calls Tryz.prog 84 #[.pointer (some ⟨V, 0, none⟩), .pointer (some ⟨U, 0, none⟩)] W fun e w' => e = .returned (.bool b4) ∧ Below W.heap.size W w')) (w : World) (hk : K w) (hq : RowN w Q U V) : Calls Tryz.prog 70 #[.slice (some ⟨Q, 0, none⟩) 5 5] w fun e w' => e = .returned (.bool (b0 && (b1 && (b2 && (b3 && b4))))) ∧ Below w.heap.size w w' := by
  cases b0
  · exact allN_0 K HK Q U V C0 w hk hq
  cases b1
  · exact allN_1 K HK Q U V C0 (C1 rfl) w hk hq
  cases b2
  · exact allN_2 K HK Q U V C0 (C1 rfl) (C2 rfl rfl) w hk hq
  cases b3
  · exact allN_3 K HK Q U V C0 (C1 rfl) (C2 rfl rfl) (C3 rfl rfl rfl) w hk hq
  cases b4
  · exact allN_4 K HK Q U V C0 (C1 rfl) (C2 rfl rfl) (C3 rfl rfl rfl) (C4 rfl rfl rfl rfl) w hk hq
  · exact allN_5 K HK Q U V C0 (C1 rfl) (C2 rfl rfl) (C3 rfl rfl rfl) (C4 rfl rfl rfl rfl) w hk hq

end Go.Proofs.YtaldjkbnngeahaaGreatDoor
