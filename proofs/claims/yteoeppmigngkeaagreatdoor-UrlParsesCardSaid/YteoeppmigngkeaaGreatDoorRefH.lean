/- Parse's answer, the document's, way by way. -/
import Derived.Test.YteoeppmigngkeaaGreatDoorRefG
namespace Go.Proofs.YteoeppmigngkeaaGreatDoor
open Go.RowKit

set_option maxRecDepth 100000 in
set_option maxHeartbeats 2000000 in
theorem rp_none (s T1 L REST U BH sc : ByteArray) (CT : Hid (∀ W, Calls Tryz.prog 22 #[.string s] W fun e w' => e = .returned (.string T1) ∧ w' = W)) (C1 : Hid (∀ W, Calls Tryz.prog 21 #[.string T1, .string ⟨#[35]⟩] W fun e w' => e = .returned (.tuple #[.string L, .string REST]) ∧ Below W.heap.size W w')) (C2 : Hid (∀ W, Calls Tryz.prog 21 #[.string L, .string ⟨#[58]⟩] W fun e w' => e = .returned (.tuple #[.string U, .string BH]) ∧ Below W.heap.size W w')) (C3 : Hid (∀ W, Calls Tryz.prog 23 #[.string U] W fun e w' => e = .returned (.string sc) ∧ Below W.heap.size W w')) (ge : BH.toList.isEmpty = true) (w : World) : Calls Tryz.prog 6 #[.string s] w fun e w' => e = .returned (.tuple #[uV false ⟨#[]⟩ ⟨#[]⟩ 0 ⟨#[]⟩ ⟨#[]⟩, .int .i64 50]) ∧ Below w.heap.size w w' := by
  unfold uV at *
  go_enter Tryz.func6, Tryz.ntmps6
  go_wp2_with fail
  have x1 := BX.made w false ⟨#[]⟩ ⟨#[]⟩ 0 ⟨#[]⟩ ⟨#[]⟩
  have B1 : Below w.heap.size w (w.alloc (.cells #[.bool false, .string ⟨#[]⟩, .string ⟨#[]⟩, .int .i64 0, .string ⟨#[]⟩, .string ⟨#[]⟩] 23)) := (Below.refl _ _).alloc (Nat.le_refl _) _
  generalize hR : w.heap.size = R at x1 B1 ⊢
  have HR := Lib.hid hR
  clear hR
  generalize w.alloc (.cells #[.bool false, .string ⟨#[]⟩, .string ⟨#[]⟩, .int .i64 0, .string ⟨#[]⟩, .string ⟨#[]⟩] 23) = w1 at x1 B1 ⊢
  refine (CT.out _).mono ?_
  rintro e w1 ⟨rfl, rfl⟩
  go_wp2_with fail
  refine (C1.out _).mono ?_
  rintro e w2 ⟨rfl, b2⟩
  have x2 := x1.below b2
  have B2 := B1.trans (b2.mono (Nat.le_of_lt x1.lt))
  clear b2 x1 B1
  go_wp2_with fail
  refine (C2.out _).mono ?_
  rintro e w3 ⟨rfl, b3⟩
  have x3 := x2.below b3
  have B3 := B2.trans (b3.mono (Nat.le_of_lt x2.lt))
  clear b3 x2 B2
  go_wp2_with fail
  refine (C3.out _).mono ?_
  rintro e w4 ⟨rfl, b4⟩
  have x4 := x3.below b4
  have B4 := B3.trans (b4.mono (Nat.le_of_lt x3.lt))
  clear b4 x3 B3
  have r0 := x4.c0
  have h0 := open_of x4 0
  have r1 := x4.c1
  have h1 := open_of x4 1
  have r2 := x4.c2
  have h2 := open_of x4 2
  have r3 := x4.c3
  have h3 := open_of x4 3
  have r4 := x4.c4
  have h4 := open_of x4 4
  have r5 := x4.c5
  have h5 := open_of x4 5
  have xz := BX.store x4 false ⟨#[]⟩ ⟨#[]⟩ 0 ⟨#[]⟩ ⟨#[]⟩
  have yz := stU_below B4 false ⟨#[]⟩ ⟨#[]⟩ 0 ⟨#[]⟩ ⟨#[]⟩
  go_wp2
  clear r0 h0 r1 h1 r2 h2 r3 h3 r4 h4 r5 h5
  unfold stU at xz yz
  generalize (((((w4.setCell ⟨R, 0, none⟩ (.bool false)).setCell ⟨R, 1, none⟩ (.string ⟨#[]⟩)).setCell ⟨R, 2, none⟩ (.string ⟨#[]⟩)).setCell ⟨R, 3, none⟩ (.int .i64 0)).setCell ⟨R, 4, none⟩ (.string ⟨#[]⟩)).setCell ⟨R, 5, none⟩ (.string ⟨#[]⟩) = wz at xz yz ⊢
  have c0 := xz.c0
  have c1 := xz.c1
  have c2 := xz.c2
  have c3 := xz.c3
  have c4 := xz.c4
  have c5 := xz.c5
  exact bodyPost_ret (v := .tuple #[uV false ⟨#[]⟩ ⟨#[]⟩ 0 ⟨#[]⟩ ⟨#[]⟩, .int .i64 50]) (by simp [results, Tryz.results6, go_sem, uV, c0, c1, c2, c3, c4, c5]) rfl ⟨rfl, by first | exact yz | (rw [HR.out]; exact yz)⟩

set_option maxRecDepth 100000 in
set_option maxHeartbeats 2000000 in
theorem rp_op1 (s T1 L REST U BH sc : ByteArray) (CT : Hid (∀ W, Calls Tryz.prog 22 #[.string s] W fun e w' => e = .returned (.string T1) ∧ w' = W)) (C1 : Hid (∀ W, Calls Tryz.prog 21 #[.string T1, .string ⟨#[35]⟩] W fun e w' => e = .returned (.tuple #[.string L, .string REST]) ∧ Below W.heap.size W w')) (C2 : Hid (∀ W, Calls Tryz.prog 21 #[.string L, .string ⟨#[58]⟩] W fun e w' => e = .returned (.tuple #[.string U, .string BH]) ∧ Below W.heap.size W w')) (C3 : Hid (∀ W, Calls Tryz.prog 23 #[.string U] W fun e w' => e = .returned (.string sc) ∧ Below W.heap.size W w')) (ge : BH.toList.isEmpty = false) (L3 tr : ByteArray) (s4 : ∀ W, (Instr.slice 9 (.string BH) (some (.int .i64 1)) none none).run Tryz.prog W = .ok (.string L3) W) (CT2 : Hid (∀ W, Calls Tryz.prog 22 #[.string L3] W fun e w' => e = .returned (.string tr) ∧ w' = W)) (d : Nat) (CD : Hid (∀ W, Calls Tryz.prog 24 #[.string sc] W fun e w' => e = .returned (.int .i64 (d : Int)) ∧ w' = W)) (gd : ¬ (0 : Int) < (d : Int)) (CR : Hid (∀ W, Calls Tryz.prog 12 #[uV true sc ⟨#[]⟩ 0 tr ⟨#[]⟩] W fun e w' => e = .returned (.bool true) ∧ Below W.heap.size W w')) (w : World) : Calls Tryz.prog 6 #[.string s] w fun e w' => e = .returned (.tuple #[uV true sc ⟨#[]⟩ 0 tr ⟨#[]⟩, .int .i64 0]) ∧ Below w.heap.size w w' := by
  unfold uV at *
  go_enter Tryz.func6, Tryz.ntmps6
  go_wp2_with fail
  have x1 := BX.made w false ⟨#[]⟩ ⟨#[]⟩ 0 ⟨#[]⟩ ⟨#[]⟩
  have B1 : Below w.heap.size w (w.alloc (.cells #[.bool false, .string ⟨#[]⟩, .string ⟨#[]⟩, .int .i64 0, .string ⟨#[]⟩, .string ⟨#[]⟩] 23)) := (Below.refl _ _).alloc (Nat.le_refl _) _
  generalize hR : w.heap.size = R at x1 B1 ⊢
  have HR := Lib.hid hR
  clear hR
  generalize w.alloc (.cells #[.bool false, .string ⟨#[]⟩, .string ⟨#[]⟩, .int .i64 0, .string ⟨#[]⟩, .string ⟨#[]⟩] 23) = w1 at x1 B1 ⊢
  refine (CT.out _).mono ?_
  rintro e w1 ⟨rfl, rfl⟩
  go_wp2_with fail
  refine (C1.out _).mono ?_
  rintro e w2 ⟨rfl, b2⟩
  have x2 := x1.below b2
  have B2 := B1.trans (b2.mono (Nat.le_of_lt x1.lt))
  clear b2 x1 B1
  go_wp2_with fail
  refine (C2.out _).mono ?_
  rintro e w3 ⟨rfl, b3⟩
  have x3 := x2.below b3
  have B3 := B2.trans (b3.mono (Nat.le_of_lt x2.lt))
  clear b3 x2 B2
  go_wp2_with fail
  refine (C3.out _).mono ?_
  rintro e w4 ⟨rfl, b4⟩
  have x4 := x3.below b4
  have B4 := B3.trans (b4.mono (Nat.le_of_lt x3.lt))
  clear b4 x3 B3
  go_wp2_with fail
  refine (CT2.out _).mono ?_
  rintro e w4 ⟨rfl, rfl⟩
  go_wp2_with fail
  have y5 := BX.made w4 true sc ⟨#[]⟩ 0 tr ⟨#[]⟩
  have hRQ : R ≤ w4.heap.size := Nat.le_of_lt x4.lt
  have hQR : w4.heap.size ≠ R := Nat.ne_of_gt x4.lt
  have x5 := x4.below ((Below.refl w4.heap.size w4).alloc (Nat.le_refl _) (.cells #[.bool true, .string sc, .string ⟨#[]⟩, .int .i64 0, .string tr, .string ⟨#[]⟩] 23))
  have B5 := B4.trans (((Below.refl w4.heap.size w4).alloc (Nat.le_refl _) (.cells #[.bool true, .string sc, .string ⟨#[]⟩, .int .i64 0, .string tr, .string ⟨#[]⟩] 23)).mono hRQ)
  clear x4 B4
  generalize w4.heap.size = Q at y5 hRQ hQR ⊢
  generalize w4.alloc (.cells #[.bool true, .string sc, .string ⟨#[]⟩, .int .i64 0, .string tr, .string ⟨#[]⟩] 23) = w5 at x5 y5 B5 ⊢
  refine (CD.out _).mono ?_
  rintro e w5 ⟨rfl, rfl⟩
  have k0 := y5.c0
  have k1 := y5.c1
  have k2 := y5.c2
  have k3 := y5.c3
  have k4 := y5.c4
  have k5 := y5.c5
  go_wp2_with fail
  clear k0 k1 k2 k3 k4 k5
  refine (CR.out _).mono ?_
  rintro e w6 ⟨rfl, b6⟩
  have x6 := x5.below b6
  have y6 := y5.below b6
  have B6 := B5.trans (b6.mono (Nat.le_of_lt x5.lt))
  clear b6 x5 B5 y5
  have k0 := y6.c0
  have k1 := y6.c1
  have k2 := y6.c2
  have k3 := y6.c3
  have k4 := y6.c4
  have k5 := y6.c5
  have r0 := x6.c0
  have h0 := open_of x6 0
  have r1 := x6.c1
  have h1 := open_of x6 1
  have r2 := x6.c2
  have h2 := open_of x6 2
  have r3 := x6.c3
  have h3 := open_of x6 3
  have r4 := x6.c4
  have h4 := open_of x6 4
  have r5 := x6.c5
  have h5 := open_of x6 5
  have xz := BX.store x6 true sc ⟨#[]⟩ 0 tr ⟨#[]⟩
  have yz := stU_below B6 true sc ⟨#[]⟩ 0 tr ⟨#[]⟩
  go_wp2
  clear r0 h0 r1 h1 r2 h2 r3 h3 r4 h4 r5 h5
  unfold stU at xz yz
  generalize (((((w6.setCell ⟨R, 0, none⟩ (.bool true)).setCell ⟨R, 1, none⟩ (.string sc)).setCell ⟨R, 2, none⟩ (.string ⟨#[]⟩)).setCell ⟨R, 3, none⟩ (.int .i64 0)).setCell ⟨R, 4, none⟩ (.string tr)).setCell ⟨R, 5, none⟩ (.string ⟨#[]⟩) = wz at xz yz ⊢
  have c0 := xz.c0
  have c1 := xz.c1
  have c2 := xz.c2
  have c3 := xz.c3
  have c4 := xz.c4
  have c5 := xz.c5
  exact bodyPost_ret (v := .tuple #[uV true sc ⟨#[]⟩ 0 tr ⟨#[]⟩, .int .i64 0]) (by simp [results, Tryz.results6, go_sem, uV, c0, c1, c2, c3, c4, c5]) rfl ⟨rfl, by first | exact yz | (rw [HR.out]; exact yz)⟩

set_option maxRecDepth 100000 in
set_option maxHeartbeats 2000000 in
theorem rp_op0 (s T1 L REST U BH sc : ByteArray) (CT : Hid (∀ W, Calls Tryz.prog 22 #[.string s] W fun e w' => e = .returned (.string T1) ∧ w' = W)) (C1 : Hid (∀ W, Calls Tryz.prog 21 #[.string T1, .string ⟨#[35]⟩] W fun e w' => e = .returned (.tuple #[.string L, .string REST]) ∧ Below W.heap.size W w')) (C2 : Hid (∀ W, Calls Tryz.prog 21 #[.string L, .string ⟨#[58]⟩] W fun e w' => e = .returned (.tuple #[.string U, .string BH]) ∧ Below W.heap.size W w')) (C3 : Hid (∀ W, Calls Tryz.prog 23 #[.string U] W fun e w' => e = .returned (.string sc) ∧ Below W.heap.size W w')) (ge : BH.toList.isEmpty = false) (L3 tr : ByteArray) (s4 : ∀ W, (Instr.slice 9 (.string BH) (some (.int .i64 1)) none none).run Tryz.prog W = .ok (.string L3) W) (CT2 : Hid (∀ W, Calls Tryz.prog 22 #[.string L3] W fun e w' => e = .returned (.string tr) ∧ w' = W)) (d : Nat) (CD : Hid (∀ W, Calls Tryz.prog 24 #[.string sc] W fun e w' => e = .returned (.int .i64 (d : Int)) ∧ w' = W)) (gd : ¬ (0 : Int) < (d : Int)) (CR : Hid (∀ W, Calls Tryz.prog 12 #[uV true sc ⟨#[]⟩ 0 tr ⟨#[]⟩] W fun e w' => e = .returned (.bool false) ∧ Below W.heap.size W w')) (w : World) : Calls Tryz.prog 6 #[.string s] w fun e w' => e = .returned (.tuple #[uV false ⟨#[]⟩ ⟨#[]⟩ 0 ⟨#[]⟩ ⟨#[]⟩, .int .i64 50]) ∧ Below w.heap.size w w' := by
  unfold uV at *
  go_enter Tryz.func6, Tryz.ntmps6
  go_wp2_with fail
  have x1 := BX.made w false ⟨#[]⟩ ⟨#[]⟩ 0 ⟨#[]⟩ ⟨#[]⟩
  have B1 : Below w.heap.size w (w.alloc (.cells #[.bool false, .string ⟨#[]⟩, .string ⟨#[]⟩, .int .i64 0, .string ⟨#[]⟩, .string ⟨#[]⟩] 23)) := (Below.refl _ _).alloc (Nat.le_refl _) _
  generalize hR : w.heap.size = R at x1 B1 ⊢
  have HR := Lib.hid hR
  clear hR
  generalize w.alloc (.cells #[.bool false, .string ⟨#[]⟩, .string ⟨#[]⟩, .int .i64 0, .string ⟨#[]⟩, .string ⟨#[]⟩] 23) = w1 at x1 B1 ⊢
  refine (CT.out _).mono ?_
  rintro e w1 ⟨rfl, rfl⟩
  go_wp2_with fail
  refine (C1.out _).mono ?_
  rintro e w2 ⟨rfl, b2⟩
  have x2 := x1.below b2
  have B2 := B1.trans (b2.mono (Nat.le_of_lt x1.lt))
  clear b2 x1 B1
  go_wp2_with fail
  refine (C2.out _).mono ?_
  rintro e w3 ⟨rfl, b3⟩
  have x3 := x2.below b3
  have B3 := B2.trans (b3.mono (Nat.le_of_lt x2.lt))
  clear b3 x2 B2
  go_wp2_with fail
  refine (C3.out _).mono ?_
  rintro e w4 ⟨rfl, b4⟩
  have x4 := x3.below b4
  have B4 := B3.trans (b4.mono (Nat.le_of_lt x3.lt))
  clear b4 x3 B3
  go_wp2_with fail
  refine (CT2.out _).mono ?_
  rintro e w4 ⟨rfl, rfl⟩
  go_wp2_with fail
  have y5 := BX.made w4 true sc ⟨#[]⟩ 0 tr ⟨#[]⟩
  have hRQ : R ≤ w4.heap.size := Nat.le_of_lt x4.lt
  have hQR : w4.heap.size ≠ R := Nat.ne_of_gt x4.lt
  have x5 := x4.below ((Below.refl w4.heap.size w4).alloc (Nat.le_refl _) (.cells #[.bool true, .string sc, .string ⟨#[]⟩, .int .i64 0, .string tr, .string ⟨#[]⟩] 23))
  have B5 := B4.trans (((Below.refl w4.heap.size w4).alloc (Nat.le_refl _) (.cells #[.bool true, .string sc, .string ⟨#[]⟩, .int .i64 0, .string tr, .string ⟨#[]⟩] 23)).mono hRQ)
  clear x4 B4
  generalize w4.heap.size = Q at y5 hRQ hQR ⊢
  generalize w4.alloc (.cells #[.bool true, .string sc, .string ⟨#[]⟩, .int .i64 0, .string tr, .string ⟨#[]⟩] 23) = w5 at x5 y5 B5 ⊢
  refine (CD.out _).mono ?_
  rintro e w5 ⟨rfl, rfl⟩
  have k0 := y5.c0
  have k1 := y5.c1
  have k2 := y5.c2
  have k3 := y5.c3
  have k4 := y5.c4
  have k5 := y5.c5
  go_wp2_with fail
  clear k0 k1 k2 k3 k4 k5
  refine (CR.out _).mono ?_
  rintro e w6 ⟨rfl, b6⟩
  have x6 := x5.below b6
  have y6 := y5.below b6
  have B6 := B5.trans (b6.mono (Nat.le_of_lt x5.lt))
  clear b6 x5 B5 y5
  have k0 := y6.c0
  have k1 := y6.c1
  have k2 := y6.c2
  have k3 := y6.c3
  have k4 := y6.c4
  have k5 := y6.c5
  have r0 := x6.c0
  have h0 := open_of x6 0
  have r1 := x6.c1
  have h1 := open_of x6 1
  have r2 := x6.c2
  have h2 := open_of x6 2
  have r3 := x6.c3
  have h3 := open_of x6 3
  have r4 := x6.c4
  have h4 := open_of x6 4
  have r5 := x6.c5
  have h5 := open_of x6 5
  have xz := BX.store x6 false ⟨#[]⟩ ⟨#[]⟩ 0 ⟨#[]⟩ ⟨#[]⟩
  have yz := stU_below B6 false ⟨#[]⟩ ⟨#[]⟩ 0 ⟨#[]⟩ ⟨#[]⟩
  go_wp2
  clear r0 h0 r1 h1 r2 h2 r3 h3 r4 h4 r5 h5
  unfold stU at xz yz
  generalize (((((w6.setCell ⟨R, 0, none⟩ (.bool false)).setCell ⟨R, 1, none⟩ (.string ⟨#[]⟩)).setCell ⟨R, 2, none⟩ (.string ⟨#[]⟩)).setCell ⟨R, 3, none⟩ (.int .i64 0)).setCell ⟨R, 4, none⟩ (.string ⟨#[]⟩)).setCell ⟨R, 5, none⟩ (.string ⟨#[]⟩) = wz at xz yz ⊢
  have c0 := xz.c0
  have c1 := xz.c1
  have c2 := xz.c2
  have c3 := xz.c3
  have c4 := xz.c4
  have c5 := xz.c5
  exact bodyPost_ret (v := .tuple #[uV false ⟨#[]⟩ ⟨#[]⟩ 0 ⟨#[]⟩ ⟨#[]⟩, .int .i64 50]) (by simp [results, Tryz.results6, go_sem, uV, c0, c1, c2, c3, c4, c5]) rfl ⟨rfl, by first | exact yz | (rw [HR.out]; exact yz)⟩

set_option maxRecDepth 100000 in
set_option maxHeartbeats 2000000 in
theorem rp_rk1 (s T1 L REST U BH sc : ByteArray) (CT : Hid (∀ W, Calls Tryz.prog 22 #[.string s] W fun e w' => e = .returned (.string T1) ∧ w' = W)) (C1 : Hid (∀ W, Calls Tryz.prog 21 #[.string T1, .string ⟨#[35]⟩] W fun e w' => e = .returned (.tuple #[.string L, .string REST]) ∧ Below W.heap.size W w')) (C2 : Hid (∀ W, Calls Tryz.prog 21 #[.string L, .string ⟨#[58]⟩] W fun e w' => e = .returned (.tuple #[.string U, .string BH]) ∧ Below W.heap.size W w')) (C3 : Hid (∀ W, Calls Tryz.prog 23 #[.string U] W fun e w' => e = .returned (.string sc) ∧ Below W.heap.size W w')) (ge : BH.toList.isEmpty = false) (L3 tr : ByteArray) (s4 : ∀ W, (Instr.slice 9 (.string BH) (some (.int .i64 1)) none none).run Tryz.prog W = .ok (.string L3) W) (CT2 : Hid (∀ W, Calls Tryz.prog 22 #[.string L3] W fun e w' => e = .returned (.string tr) ∧ w' = W)) (d : Nat) (CD : Hid (∀ W, Calls Tryz.prog 24 #[.string sc] W fun e w' => e = .returned (.int .i64 (d : Int)) ∧ w' = W)) (gd : (0 : Int) < (d : Int)) (o : Bool) (s2 h2 : ByteArray) (p2 : Int) (pa2 q2 : ByteArray) (CK : Hid (∀ W, Calls Tryz.prog 25 #[.string sc, .string L3] W fun e w' => e = .returned (uV o s2 h2 p2 pa2 q2) ∧ Below W.heap.size W w')) (CR : Hid (∀ W, Calls Tryz.prog 12 #[uV o s2 h2 p2 pa2 q2] W fun e w' => e = .returned (.bool true) ∧ Below W.heap.size W w')) (w : World) : Calls Tryz.prog 6 #[.string s] w fun e w' => e = .returned (.tuple #[uV o s2 h2 p2 pa2 q2, .int .i64 0]) ∧ Below w.heap.size w w' := by
  unfold uV at *
  go_enter Tryz.func6, Tryz.ntmps6
  go_wp2_with fail
  have x1 := BX.made w false ⟨#[]⟩ ⟨#[]⟩ 0 ⟨#[]⟩ ⟨#[]⟩
  have B1 : Below w.heap.size w (w.alloc (.cells #[.bool false, .string ⟨#[]⟩, .string ⟨#[]⟩, .int .i64 0, .string ⟨#[]⟩, .string ⟨#[]⟩] 23)) := (Below.refl _ _).alloc (Nat.le_refl _) _
  generalize hR : w.heap.size = R at x1 B1 ⊢
  have HR := Lib.hid hR
  clear hR
  generalize w.alloc (.cells #[.bool false, .string ⟨#[]⟩, .string ⟨#[]⟩, .int .i64 0, .string ⟨#[]⟩, .string ⟨#[]⟩] 23) = w1 at x1 B1 ⊢
  refine (CT.out _).mono ?_
  rintro e w1 ⟨rfl, rfl⟩
  go_wp2_with fail
  refine (C1.out _).mono ?_
  rintro e w2 ⟨rfl, b2⟩
  have x2 := x1.below b2
  have B2 := B1.trans (b2.mono (Nat.le_of_lt x1.lt))
  clear b2 x1 B1
  go_wp2_with fail
  refine (C2.out _).mono ?_
  rintro e w3 ⟨rfl, b3⟩
  have x3 := x2.below b3
  have B3 := B2.trans (b3.mono (Nat.le_of_lt x2.lt))
  clear b3 x2 B2
  go_wp2_with fail
  refine (C3.out _).mono ?_
  rintro e w4 ⟨rfl, b4⟩
  have x4 := x3.below b4
  have B4 := B3.trans (b4.mono (Nat.le_of_lt x3.lt))
  clear b4 x3 B3
  go_wp2_with fail
  refine (CT2.out _).mono ?_
  rintro e w4 ⟨rfl, rfl⟩
  go_wp2_with fail
  have y5 := BX.made w4 true sc ⟨#[]⟩ 0 tr ⟨#[]⟩
  have hRQ : R ≤ w4.heap.size := Nat.le_of_lt x4.lt
  have hQR : w4.heap.size ≠ R := Nat.ne_of_gt x4.lt
  have x5 := x4.below ((Below.refl w4.heap.size w4).alloc (Nat.le_refl _) (.cells #[.bool true, .string sc, .string ⟨#[]⟩, .int .i64 0, .string tr, .string ⟨#[]⟩] 23))
  have B5 := B4.trans (((Below.refl w4.heap.size w4).alloc (Nat.le_refl _) (.cells #[.bool true, .string sc, .string ⟨#[]⟩, .int .i64 0, .string tr, .string ⟨#[]⟩] 23)).mono hRQ)
  clear x4 B4
  generalize w4.heap.size = Q at y5 hRQ hQR ⊢
  generalize w4.alloc (.cells #[.bool true, .string sc, .string ⟨#[]⟩, .int .i64 0, .string tr, .string ⟨#[]⟩] 23) = w5 at x5 y5 B5 ⊢
  refine (CD.out _).mono ?_
  rintro e w5 ⟨rfl, rfl⟩
  go_wp2_with fail
  refine (CK.out _).mono ?_
  rintro e w6 ⟨rfl, b6⟩
  have x6 := x5.below b6
  have y6 := y5.below b6
  have B6 := B5.trans (b6.mono (Nat.le_of_lt x5.lt))
  clear b6 x5 B5 y5
  have r0 := y6.c0
  have h0 := open_of y6 0
  have r1 := y6.c1
  have h1 := open_of y6 1
  have r2 := y6.c2
  have hh2 := open_of y6 2
  have r3 := y6.c3
  have h3 := open_of y6 3
  have r4 := y6.c4
  have h4 := open_of y6 4
  have r5 := y6.c5
  have h5 := open_of y6 5
  have yz := BX.store y6 o s2 h2 p2 pa2 q2
  have xz := BX.otherU x6 hQR o s2 h2 p2 pa2 q2
  have Bz : Below R w (stU w6 Q o s2 h2 p2 pa2 q2) := (((((B6.setCell (p := ⟨Q, 0, none⟩) hRQ _).setCell (p := ⟨Q, 1, none⟩) hRQ _).setCell (p := ⟨Q, 2, none⟩) hRQ _).setCell (p := ⟨Q, 3, none⟩) hRQ _).setCell (p := ⟨Q, 4, none⟩) hRQ _).setCell (p := ⟨Q, 5, none⟩) hRQ _
  unfold stU at xz yz Bz
  have HZ := Lib.hid (And.intro xz (And.intro yz Bz))
  clear xz yz Bz
  go_wp2_with fail
  clear r0 h0 r1 h1 r2 hh2 r3 h3 r4 h4 r5 h5
  obtain ⟨x7, y7, B7⟩ := HZ.out
  clear HZ x6 y6 B6
  generalize (((((w6.setCell ⟨Q, 0, none⟩ (.bool o)).setCell ⟨Q, 1, none⟩ (.string s2)).setCell ⟨Q, 2, none⟩ (.string h2)).setCell ⟨Q, 3, none⟩ (.int .i64 p2)).setCell ⟨Q, 4, none⟩ (.string pa2)).setCell ⟨Q, 5, none⟩ (.string q2) = w7 at x7 y7 B7 ⊢
  refine (CR.out _).mono ?_
  rintro e w8 ⟨rfl, b8⟩
  have x8 := x7.below b8
  have y8 := y7.below b8
  have B8 := B7.trans (b8.mono (Nat.le_of_lt x7.lt))
  clear b8 x7 B7 y7
  have k0 := y8.c0
  have k1 := y8.c1
  have k2 := y8.c2
  have k3 := y8.c3
  have k4 := y8.c4
  have k5 := y8.c5
  have r0 := x8.c0
  have h0 := open_of x8 0
  have r1 := x8.c1
  have h1 := open_of x8 1
  have r2 := x8.c2
  have hh2 := open_of x8 2
  have r3 := x8.c3
  have h3 := open_of x8 3
  have r4 := x8.c4
  have h4 := open_of x8 4
  have r5 := x8.c5
  have h5 := open_of x8 5
  have xz := BX.store x8 o s2 h2 p2 pa2 q2
  have yz := stU_below B8 o s2 h2 p2 pa2 q2
  go_wp2
  clear r0 h0 r1 h1 r2 hh2 r3 h3 r4 h4 r5 h5
  unfold stU at xz yz
  generalize (((((w8.setCell ⟨R, 0, none⟩ (.bool o)).setCell ⟨R, 1, none⟩ (.string s2)).setCell ⟨R, 2, none⟩ (.string h2)).setCell ⟨R, 3, none⟩ (.int .i64 p2)).setCell ⟨R, 4, none⟩ (.string pa2)).setCell ⟨R, 5, none⟩ (.string q2) = wz at xz yz ⊢
  have c0 := xz.c0
  have c1 := xz.c1
  have c2 := xz.c2
  have c3 := xz.c3
  have c4 := xz.c4
  have c5 := xz.c5
  exact bodyPost_ret (v := .tuple #[uV o s2 h2 p2 pa2 q2, .int .i64 0]) (by simp [results, Tryz.results6, go_sem, uV, c0, c1, c2, c3, c4, c5]) rfl ⟨rfl, by first | exact yz | (rw [HR.out]; exact yz)⟩

set_option maxRecDepth 100000 in
set_option maxHeartbeats 2000000 in
theorem rp_rk0 (s T1 L REST U BH sc : ByteArray) (CT : Hid (∀ W, Calls Tryz.prog 22 #[.string s] W fun e w' => e = .returned (.string T1) ∧ w' = W)) (C1 : Hid (∀ W, Calls Tryz.prog 21 #[.string T1, .string ⟨#[35]⟩] W fun e w' => e = .returned (.tuple #[.string L, .string REST]) ∧ Below W.heap.size W w')) (C2 : Hid (∀ W, Calls Tryz.prog 21 #[.string L, .string ⟨#[58]⟩] W fun e w' => e = .returned (.tuple #[.string U, .string BH]) ∧ Below W.heap.size W w')) (C3 : Hid (∀ W, Calls Tryz.prog 23 #[.string U] W fun e w' => e = .returned (.string sc) ∧ Below W.heap.size W w')) (ge : BH.toList.isEmpty = false) (L3 tr : ByteArray) (s4 : ∀ W, (Instr.slice 9 (.string BH) (some (.int .i64 1)) none none).run Tryz.prog W = .ok (.string L3) W) (CT2 : Hid (∀ W, Calls Tryz.prog 22 #[.string L3] W fun e w' => e = .returned (.string tr) ∧ w' = W)) (d : Nat) (CD : Hid (∀ W, Calls Tryz.prog 24 #[.string sc] W fun e w' => e = .returned (.int .i64 (d : Int)) ∧ w' = W)) (gd : (0 : Int) < (d : Int)) (o : Bool) (s2 h2 : ByteArray) (p2 : Int) (pa2 q2 : ByteArray) (CK : Hid (∀ W, Calls Tryz.prog 25 #[.string sc, .string L3] W fun e w' => e = .returned (uV o s2 h2 p2 pa2 q2) ∧ Below W.heap.size W w')) (CR : Hid (∀ W, Calls Tryz.prog 12 #[uV o s2 h2 p2 pa2 q2] W fun e w' => e = .returned (.bool false) ∧ Below W.heap.size W w')) (w : World) : Calls Tryz.prog 6 #[.string s] w fun e w' => e = .returned (.tuple #[uV false ⟨#[]⟩ ⟨#[]⟩ 0 ⟨#[]⟩ ⟨#[]⟩, .int .i64 50]) ∧ Below w.heap.size w w' := by
  unfold uV at *
  go_enter Tryz.func6, Tryz.ntmps6
  go_wp2_with fail
  have x1 := BX.made w false ⟨#[]⟩ ⟨#[]⟩ 0 ⟨#[]⟩ ⟨#[]⟩
  have B1 : Below w.heap.size w (w.alloc (.cells #[.bool false, .string ⟨#[]⟩, .string ⟨#[]⟩, .int .i64 0, .string ⟨#[]⟩, .string ⟨#[]⟩] 23)) := (Below.refl _ _).alloc (Nat.le_refl _) _
  generalize hR : w.heap.size = R at x1 B1 ⊢
  have HR := Lib.hid hR
  clear hR
  generalize w.alloc (.cells #[.bool false, .string ⟨#[]⟩, .string ⟨#[]⟩, .int .i64 0, .string ⟨#[]⟩, .string ⟨#[]⟩] 23) = w1 at x1 B1 ⊢
  refine (CT.out _).mono ?_
  rintro e w1 ⟨rfl, rfl⟩
  go_wp2_with fail
  refine (C1.out _).mono ?_
  rintro e w2 ⟨rfl, b2⟩
  have x2 := x1.below b2
  have B2 := B1.trans (b2.mono (Nat.le_of_lt x1.lt))
  clear b2 x1 B1
  go_wp2_with fail
  refine (C2.out _).mono ?_
  rintro e w3 ⟨rfl, b3⟩
  have x3 := x2.below b3
  have B3 := B2.trans (b3.mono (Nat.le_of_lt x2.lt))
  clear b3 x2 B2
  go_wp2_with fail
  refine (C3.out _).mono ?_
  rintro e w4 ⟨rfl, b4⟩
  have x4 := x3.below b4
  have B4 := B3.trans (b4.mono (Nat.le_of_lt x3.lt))
  clear b4 x3 B3
  go_wp2_with fail
  refine (CT2.out _).mono ?_
  rintro e w4 ⟨rfl, rfl⟩
  go_wp2_with fail
  have y5 := BX.made w4 true sc ⟨#[]⟩ 0 tr ⟨#[]⟩
  have hRQ : R ≤ w4.heap.size := Nat.le_of_lt x4.lt
  have hQR : w4.heap.size ≠ R := Nat.ne_of_gt x4.lt
  have x5 := x4.below ((Below.refl w4.heap.size w4).alloc (Nat.le_refl _) (.cells #[.bool true, .string sc, .string ⟨#[]⟩, .int .i64 0, .string tr, .string ⟨#[]⟩] 23))
  have B5 := B4.trans (((Below.refl w4.heap.size w4).alloc (Nat.le_refl _) (.cells #[.bool true, .string sc, .string ⟨#[]⟩, .int .i64 0, .string tr, .string ⟨#[]⟩] 23)).mono hRQ)
  clear x4 B4
  generalize w4.heap.size = Q at y5 hRQ hQR ⊢
  generalize w4.alloc (.cells #[.bool true, .string sc, .string ⟨#[]⟩, .int .i64 0, .string tr, .string ⟨#[]⟩] 23) = w5 at x5 y5 B5 ⊢
  refine (CD.out _).mono ?_
  rintro e w5 ⟨rfl, rfl⟩
  go_wp2_with fail
  refine (CK.out _).mono ?_
  rintro e w6 ⟨rfl, b6⟩
  have x6 := x5.below b6
  have y6 := y5.below b6
  have B6 := B5.trans (b6.mono (Nat.le_of_lt x5.lt))
  clear b6 x5 B5 y5
  have r0 := y6.c0
  have h0 := open_of y6 0
  have r1 := y6.c1
  have h1 := open_of y6 1
  have r2 := y6.c2
  have hh2 := open_of y6 2
  have r3 := y6.c3
  have h3 := open_of y6 3
  have r4 := y6.c4
  have h4 := open_of y6 4
  have r5 := y6.c5
  have h5 := open_of y6 5
  have yz := BX.store y6 o s2 h2 p2 pa2 q2
  have xz := BX.otherU x6 hQR o s2 h2 p2 pa2 q2
  have Bz : Below R w (stU w6 Q o s2 h2 p2 pa2 q2) := (((((B6.setCell (p := ⟨Q, 0, none⟩) hRQ _).setCell (p := ⟨Q, 1, none⟩) hRQ _).setCell (p := ⟨Q, 2, none⟩) hRQ _).setCell (p := ⟨Q, 3, none⟩) hRQ _).setCell (p := ⟨Q, 4, none⟩) hRQ _).setCell (p := ⟨Q, 5, none⟩) hRQ _
  unfold stU at xz yz Bz
  have HZ := Lib.hid (And.intro xz (And.intro yz Bz))
  clear xz yz Bz
  go_wp2_with fail
  clear r0 h0 r1 h1 r2 hh2 r3 h3 r4 h4 r5 h5
  obtain ⟨x7, y7, B7⟩ := HZ.out
  clear HZ x6 y6 B6
  generalize (((((w6.setCell ⟨Q, 0, none⟩ (.bool o)).setCell ⟨Q, 1, none⟩ (.string s2)).setCell ⟨Q, 2, none⟩ (.string h2)).setCell ⟨Q, 3, none⟩ (.int .i64 p2)).setCell ⟨Q, 4, none⟩ (.string pa2)).setCell ⟨Q, 5, none⟩ (.string q2) = w7 at x7 y7 B7 ⊢
  refine (CR.out _).mono ?_
  rintro e w8 ⟨rfl, b8⟩
  have x8 := x7.below b8
  have y8 := y7.below b8
  have B8 := B7.trans (b8.mono (Nat.le_of_lt x7.lt))
  clear b8 x7 B7 y7
  have k0 := y8.c0
  have k1 := y8.c1
  have k2 := y8.c2
  have k3 := y8.c3
  have k4 := y8.c4
  have k5 := y8.c5
  have r0 := x8.c0
  have h0 := open_of x8 0
  have r1 := x8.c1
  have h1 := open_of x8 1
  have r2 := x8.c2
  have h2 := open_of x8 2
  have r3 := x8.c3
  have h3 := open_of x8 3
  have r4 := x8.c4
  have h4 := open_of x8 4
  have r5 := x8.c5
  have h5 := open_of x8 5
  have xz := BX.store x8 false ⟨#[]⟩ ⟨#[]⟩ 0 ⟨#[]⟩ ⟨#[]⟩
  have yz := stU_below B8 false ⟨#[]⟩ ⟨#[]⟩ 0 ⟨#[]⟩ ⟨#[]⟩
  go_wp2
  clear r0 h0 r1 h1 r2 h2 r3 h3 r4 h4 r5 h5
  unfold stU at xz yz
  generalize (((((w8.setCell ⟨R, 0, none⟩ (.bool false)).setCell ⟨R, 1, none⟩ (.string ⟨#[]⟩)).setCell ⟨R, 2, none⟩ (.string ⟨#[]⟩)).setCell ⟨R, 3, none⟩ (.int .i64 0)).setCell ⟨R, 4, none⟩ (.string ⟨#[]⟩)).setCell ⟨R, 5, none⟩ (.string ⟨#[]⟩) = wz at xz yz ⊢
  have c0 := xz.c0
  have c1 := xz.c1
  have c2 := xz.c2
  have c3 := xz.c3
  have c4 := xz.c4
  have c5 := xz.c5
  exact bodyPost_ret (v := .tuple #[uV false ⟨#[]⟩ ⟨#[]⟩ 0 ⟨#[]⟩ ⟨#[]⟩, .int .i64 50]) (by simp [results, Tryz.results6, go_sem, uV, c0, c1, c2, c3, c4, c5]) rfl ⟨rfl, by first | exact yz | (rw [HR.out]; exact yz)⟩

end Go.Proofs.YteoeppmigngkeaaGreatDoor
