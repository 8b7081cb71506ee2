/- What a ranked address is made of: the document's. -/
import Derived.Test.YteoeppmigngkeaaGreatDoorRefD
import Derived.Test.YteoeppmigngkeaaGreatDoorRefE
import Derived.Laws.ResultCell
namespace Go.Proofs.YteoeppmigngkeaaGreatDoor
open Go.RowKit

theorem BX.set2 {w : World} {R : Nat} {s h pa q : ByteArray} {o : Bool} {p : Int} (a : BX w R o s h p pa q) (u : ByteArray) : BX (w.setCell ⟨R, 2, none⟩ (.string u)) R o s u p pa q := by unfold BX at *; rw [heap_setCell_same _ _ _ _ _ _ _ a]; rfl
theorem BX.set3 {w : World} {R : Nat} {s h pa q : ByteArray} {o : Bool} {p : Int} (a : BX w R o s h p pa q) (u : Int) : BX (w.setCell ⟨R, 3, none⟩ (.int .i64 u)) R o s h u pa q := by unfold BX at *; rw [heap_setCell_same _ _ _ _ _ _ _ a]; rfl
theorem BX.set4 {w : World} {R : Nat} {s h pa q : ByteArray} {o : Bool} {p : Int} (a : BX w R o s h p pa q) (u : ByteArray) : BX (w.setCell ⟨R, 4, none⟩ (.string u)) R o s h p u q := by unfold BX at *; rw [heap_setCell_same _ _ _ _ _ _ _ a]; rfl
theorem BX.set5 {w : World} {R : Nat} {s h pa q : ByteArray} {o : Bool} {p : Int} (a : BX w R o s h p pa q) (u : ByteArray) : BX (w.setCell ⟨R, 5, none⟩ (.string u)) R o s h p pa u := by unfold BX at *; rw [heap_setCell_same _ _ _ _ _ _ _ a]; rfl
theorem BX.other {w : World} {R : Nat} {s h pa q : ByteArray} {o : Bool} {p : Int} (a : BX w R o s h p pa q) {P : Nat} (hP : P ≠ R) (j : Nat) (u : Value) : BX (w.setCell ⟨P, j, none⟩ u) R o s h p pa q := by
  unfold BX at *
  rw [← a]
  simp only [World.setCell, Array.getElem?_modify]
  rw [if_neg hP]
theorem BX.otherU {w : World} {R : Nat} {s h pa q : ByteArray} {o : Bool} {p : Int} (a : BX w R o s h p pa q) {P : Nat} (hP : P ≠ R) (o2 : Bool) (s2 h2 : ByteArray) (p2 : Int) (pa2 q2 : ByteArray) : BX (stU w P o2 s2 h2 p2 pa2 q2) R o s h p pa q :=
  BX.other (BX.other (BX.other (BX.other (BX.other (BX.other a hP 0 _) hP 1 _) hP 2 _) hP 3 _) hP 4 _) hP 5 _

set_option maxRecDepth 100000 in
set_option maxHeartbeats 1000000 in
theorem ranked_short (sc L : ByteArray) (hL : (L.size : Int) < 2) (w : World) : Calls Tryz.prog 25 #[.string sc, .string L] w fun e w' => e = .returned (uV false sc ⟨#[]⟩ 0 ⟨#[]⟩ ⟨#[]⟩) ∧ Below w.heap.size w w' := by
  have x1 : BX ((w.alloc (.cells #[.bool false, .string sc, .string ⟨#[]⟩, .int .i64 0, .string ⟨#[]⟩, .string ⟨#[]⟩] 23)).alloc (.cells #[.bool false, .string sc, .string ⟨#[]⟩, .int .i64 0, .string ⟨#[]⟩, .string ⟨#[]⟩] 23)) w.heap.size false sc ⟨#[]⟩ 0 ⟨#[]⟩ ⟨#[]⟩ := (BX.made w false sc ⟨#[]⟩ 0 ⟨#[]⟩ ⟨#[]⟩).below ((Below.refl _ _).alloc (Nat.le_refl _) _)
  have B1 : Below w.heap.size w ((w.alloc (.cells #[.bool false, .string sc, .string ⟨#[]⟩, .int .i64 0, .string ⟨#[]⟩, .string ⟨#[]⟩] 23)).alloc (.cells #[.bool false, .string sc, .string ⟨#[]⟩, .int .i64 0, .string ⟨#[]⟩, .string ⟨#[]⟩] 23)) := ((Below.refl _ _).alloc (Nat.le_refl _) _).trans (((Below.refl _ _).alloc (Nat.le_refl _) _).mono ((Below.refl w.heap.size w).alloc (Nat.le_refl _) _).size)
  have HX := Lib.hid (And.intro x1 B1)
  clear x1 B1
  go_enter Tryz.func25, Tryz.ntmps25
  go_wp2_with fail
  obtain ⟨x1, B1⟩ := HX.out
  clear HX
  generalize hR : w.heap.size = R at x1 B1 ⊢
  have HR := Lib.hid hR
  clear hR
  generalize (w.alloc (.cells #[.bool false, .string sc, .string ⟨#[]⟩, .int .i64 0, .string ⟨#[]⟩, .string ⟨#[]⟩] 23)).alloc (.cells #[.bool false, .string sc, .string ⟨#[]⟩, .int .i64 0, .string ⟨#[]⟩, .string ⟨#[]⟩] 23) = wz at x1 B1 ⊢
  have c0 := x1.c0
  have c1 := x1.c1
  have c2 := x1.c2
  have c3 := x1.c3
  have c4 := x1.c4
  have c5 := x1.c5
  exact bodyPost_ret (v := uV false sc ⟨#[]⟩ 0 ⟨#[]⟩ ⟨#[]⟩) (by simp [results, Tryz.results25, go_sem, uV, c0, c1, c2, c3, c4, c5]) rfl ⟨rfl, by first | exact B1 | (rw [HR.out]; exact B1)⟩

set_option maxRecDepth 100000 in
set_option maxHeartbeats 1000000 in
theorem ranked_none (sc L : ByteArray) (U2 : ByteArray) (hL : ¬ (L.size : Int) < 2) (s2 : ∀ W, (Instr.slice 9 (.string L) none (some (.int .i64 2)) none).run Tryz.prog W = .ok (.string U2) W) (g2 : (U2.toList == [47, 47]) = false) (w : World) : Calls Tryz.prog 25 #[.string sc, .string L] w fun e w' => e = .returned (uV false sc ⟨#[]⟩ 0 ⟨#[]⟩ ⟨#[]⟩) ∧ Below w.heap.size w w' := by
  have x1 : BX ((w.alloc (.cells #[.bool false, .string sc, .string ⟨#[]⟩, .int .i64 0, .string ⟨#[]⟩, .string ⟨#[]⟩] 23)).alloc (.cells #[.bool false, .string sc, .string ⟨#[]⟩, .int .i64 0, .string ⟨#[]⟩, .string ⟨#[]⟩] 23)) w.heap.size false sc ⟨#[]⟩ 0 ⟨#[]⟩ ⟨#[]⟩ := (BX.made w false sc ⟨#[]⟩ 0 ⟨#[]⟩ ⟨#[]⟩).below ((Below.refl _ _).alloc (Nat.le_refl _) _)
  have B1 : Below w.heap.size w ((w.alloc (.cells #[.bool false, .string sc, .string ⟨#[]⟩, .int .i64 0, .string ⟨#[]⟩, .string ⟨#[]⟩] 23)).alloc (.cells #[.bool false, .string sc, .string ⟨#[]⟩, .int .i64 0, .string ⟨#[]⟩, .string ⟨#[]⟩] 23)) := ((Below.refl _ _).alloc (Nat.le_refl _) _).trans (((Below.refl _ _).alloc (Nat.le_refl _) _).mono ((Below.refl w.heap.size w).alloc (Nat.le_refl _) _).size)
  have HX := Lib.hid (And.intro x1 B1)
  clear x1 B1
  go_enter Tryz.func25, Tryz.ntmps25
  go_wp2_with fail
  obtain ⟨x1, B1⟩ := HX.out
  clear HX
  generalize hR : w.heap.size = R at x1 B1 ⊢
  have HR := Lib.hid hR
  clear hR
  generalize (w.alloc (.cells #[.bool false, .string sc, .string ⟨#[]⟩, .int .i64 0, .string ⟨#[]⟩, .string ⟨#[]⟩] 23)).alloc (.cells #[.bool false, .string sc, .string ⟨#[]⟩, .int .i64 0, .string ⟨#[]⟩, .string ⟨#[]⟩] 23) = wz at x1 B1 ⊢
  have c0 := x1.c0
  have c1 := x1.c1
  have c2 := x1.c2
  have c3 := x1.c3
  have c4 := x1.c4
  have c5 := x1.c5
  exact bodyPost_ret (v := uV false sc ⟨#[]⟩ 0 ⟨#[]⟩ ⟨#[]⟩) (by simp [results, Tryz.results25, go_sem, uV, c0, c1, c2, c3, c4, c5]) rfl ⟨rfl, by first | exact B1 | (rw [HR.out]; exact B1)⟩

theorem refRanked_none (sc L : ByteArray) (h : [47, 47].isPrefixOf L.data.toList = false) : Hid (∀ W, Calls Tryz.prog 25 #[.string sc, .string L] W fun e w' => e = .returned (uV false sc ⟨#[]⟩ 0 ⟨#[]⟩ ⟨#[]⟩) ∧ Below W.heap.size W w') := Lib.hid fun W => by
  by_cases h2 : (L.size : Int) < 2
  · exact ranked_short sc L h2 W
  · obtain ⟨U2, hU2⟩ := text_of (L.data.toList.take 2)
    refine ranked_none sc L U2 h2 (slice_to L U2 2 (by omega) hU2) ?_ W
    rw [text_lit, hU2, decide_eq_false]
    intro e
    have h9 : [47, 47].isPrefixOf L.data.toList = true := by
      rw [List.isPrefixOf_iff_prefix, ← e]
      exact List.take_prefix _ _
    rw [h9] at h; cases h

set_option maxRecDepth 100000 in
set_option maxHeartbeats 2000000 in
theorem rk_000 (sc L R2 PL LF U NU ho U3 q pa : ByteArray) (d : Nat) (_P : Int) (_DS : ByteArray) (hL : ¬ (L.size : Int) < 2) (s2 : ∀ W, (Instr.slice 9 (.string L) none (some (.int .i64 2)) none).run Tryz.prog W = .ok (.string ⟨#[47, 47]⟩) W) (s3 : ∀ W, (Instr.slice 9 (.string L) (some (.int .i64 2)) none none).run Tryz.prog W = .ok (.string R2) W) (C1 : Hid (∀ W, Calls Tryz.prog 21 #[.string R2, .string ⟨#[47, 63]⟩] W fun e w' => e = .returned (.tuple #[.string PL, .string LF]) ∧ Below W.heap.size W w')) (C2 : Hid (∀ W, Calls Tryz.prog 21 #[.string PL, .string ⟨#[58]⟩] W fun e w' => e = .returned (.tuple #[.string U, .string NU]) ∧ Below W.heap.size W w')) (C3 : Hid (∀ W, Calls Tryz.prog 23 #[.string U] W fun e w' => e = .returned (.string ho) ∧ Below W.heap.size W w')) (gn : NU.toList.isEmpty = true) (CD : Hid (∀ W, Calls Tryz.prog 24 #[.string sc] W fun e w' => e = .returned (.int .i64 (d : Int)) ∧ w' = W)) (ge : ((0 : Int) == (d : Int)) = false) (C5 : Hid (∀ W, Calls Tryz.prog 21 #[.string LF, .string ⟨#[63]⟩] W fun e w' => e = .returned (.tuple #[.string U3, .string q]) ∧ Below W.heap.size W w')) (gp : U3.toList.isEmpty = false) (C6 : Hid (∀ W, Calls Tryz.prog 44 #[.string U3] W fun e w' => e = .returned (.string pa) ∧ Below W.heap.size W w')) (w : World) : Calls Tryz.prog 25 #[.string sc, .string L] w fun e w' => e = .returned (uV false sc ho 0 pa q) ∧ Below w.heap.size w w' := by
  have x1 : BX ((w.alloc (.cells #[.bool false, .string ⟨#[]⟩, .string ⟨#[]⟩, .int .i64 0, .string ⟨#[]⟩, .string ⟨#[]⟩] 23)).alloc (.cells #[.bool false, .string sc, .string ⟨#[]⟩, .int .i64 0, .string ⟨#[]⟩, .string ⟨#[]⟩] 23)) w.heap.size false ⟨#[]⟩ ⟨#[]⟩ 0 ⟨#[]⟩ ⟨#[]⟩ := (BX.made w false ⟨#[]⟩ ⟨#[]⟩ 0 ⟨#[]⟩ ⟨#[]⟩).below ((Below.refl _ _).alloc (Nat.le_refl _) _)
  have y1 : BX ((w.alloc (.cells #[.bool false, .string ⟨#[]⟩, .string ⟨#[]⟩, .int .i64 0, .string ⟨#[]⟩, .string ⟨#[]⟩] 23)).alloc (.cells #[.bool false, .string sc, .string ⟨#[]⟩, .int .i64 0, .string ⟨#[]⟩, .string ⟨#[]⟩] 23)) (w.heap.size + 1) false sc ⟨#[]⟩ 0 ⟨#[]⟩ ⟨#[]⟩ := by
    have e := BX.made (w.alloc (.cells #[.bool false, .string ⟨#[]⟩, .string ⟨#[]⟩, .int .i64 0, .string ⟨#[]⟩, .string ⟨#[]⟩] 23)) false sc ⟨#[]⟩ 0 ⟨#[]⟩ ⟨#[]⟩
    have e2 : (w.alloc (.cells #[.bool false, .string ⟨#[]⟩, .string ⟨#[]⟩, .int .i64 0, .string ⟨#[]⟩, .string ⟨#[]⟩] 23)).heap.size = w.heap.size + 1 := Array.size_push _
    rw [e2] at e; exact e
  have B1 : Below w.heap.size w ((w.alloc (.cells #[.bool false, .string ⟨#[]⟩, .string ⟨#[]⟩, .int .i64 0, .string ⟨#[]⟩, .string ⟨#[]⟩] 23)).alloc (.cells #[.bool false, .string sc, .string ⟨#[]⟩, .int .i64 0, .string ⟨#[]⟩, .string ⟨#[]⟩] 23)) := ((Below.refl _ _).alloc (Nat.le_refl _) _).trans (((Below.refl _ _).alloc (Nat.le_refl _) _).mono ((Below.refl w.heap.size w).alloc (Nat.le_refl _) _).size)
  have hRQ : w.heap.size ≤ w.heap.size + 1 := Nat.le_succ _
  have hQR : w.heap.size + 1 ≠ w.heap.size := by omega
  have HX := Lib.hid (And.intro x1 (And.intro y1 (And.intro B1 (And.intro hRQ hQR))))
  clear x1 y1 B1 hRQ hQR
  go_enter Tryz.func25, Tryz.ntmps25
  go_wp2_with fail
  obtain ⟨x1, y1, B1, hRQ, hQR⟩ := HX.out
  clear HX s2 s3
  generalize w.heap.size + 1 = Q at y1 hRQ hQR ⊢
  generalize hR : w.heap.size = R at x1 B1 hRQ hQR ⊢
  have HR := Lib.hid hR
  clear hR
  generalize (w.alloc (.cells #[.bool false, .string ⟨#[]⟩, .string ⟨#[]⟩, .int .i64 0, .string ⟨#[]⟩, .string ⟨#[]⟩] 23)).alloc (.cells #[.bool false, .string sc, .string ⟨#[]⟩, .int .i64 0, .string ⟨#[]⟩, .string ⟨#[]⟩] 23) = w1 at x1 y1 B1 ⊢
  refine (C1.out _).mono ?_
  rintro e w2 ⟨rfl, b2⟩
  have x2 := x1.below b2
  have y2 := y1.below b2
  have B2 := B1.trans (b2.mono (Nat.le_of_lt x1.lt))
  clear b2 x1 y1 B1
  go_wp2_with fail
  refine (C2.out _).mono ?_
  rintro e w3 ⟨rfl, b3⟩
  have x3 := x2.below b3
  have y3 := y2.below b3
  have B3 := B2.trans (b3.mono (Nat.le_of_lt x2.lt))
  clear b3 x2 y2 B2
  go_wp2_with fail
  refine (C3.out _).mono ?_
  rintro e w4 ⟨rfl, b4⟩
  have x4 := x3.below b4
  have y4 := y3.below b4
  have B4 := B3.trans (b4.mono (Nat.le_of_lt x3.lt))
  clear b4 x3 y3 B3
  have cj := y4.c2
  have fj := open_of y4 2
  have X5 : Aside (BX (w4.setCell ⟨Q, 2, none⟩ (.string ho)) R false ⟨#[]⟩ ⟨#[]⟩ 0 ⟨#[]⟩ ⟨#[]⟩ ∧ BX (w4.setCell ⟨Q, 2, none⟩ (.string ho)) Q false sc ho 0 ⟨#[]⟩ ⟨#[]⟩ ∧ Below R w (w4.setCell ⟨Q, 2, none⟩ (.string ho))) := ⟨x4.other hQR 2 _, y4.set2 _, B4.setCell (p := ⟨Q, 2, none⟩) hRQ _⟩
  go_wp2_with fail
  generalize hw5 : w4.setCell ⟨Q, 2, none⟩ (.string ho) = w5 at X5 ⊢
  obtain ⟨x5, y5, B5⟩ := X5.out
  clear X5 hw5 x4 y4 B4 cj fj
  have c3 := y5.c3
  have f3 := open_of y5 3
  go_quiet ((go_at_call 24; exact Calls.quiet_of_same (CD.out _)))
  have xd : BX (w5.drewN nq) R false ⟨#[]⟩ ⟨#[]⟩ 0 ⟨#[]⟩ ⟨#[]⟩ := x5
  have yd : BX (w5.drewN nq) Q false sc ho 0 ⟨#[]⟩ ⟨#[]⟩ := y5
  have Bd : Below R w (w5.drewN nq) := belowN B5 nq
  generalize w5.drewN nq = w6 at xd yd Bd ⊢
  clear c3 f3 x5 y5 B5
  have x6 := xd
  have y6 := yd
  have B6 := Bd
  clear xd yd Bd
  go_wp2_with fail
  refine (C5.out _).mono ?_
  rintro e w7 ⟨rfl, b7⟩
  have x7 := x6.below b7
  have y7 := y6.below b7
  have B7 := B6.trans (b7.mono (Nat.le_of_lt x6.lt))
  clear b7 x6 y6 B6
  go_wp2_with fail
  refine (C6.out _).mono ?_
  rintro e w8 ⟨rfl, b8⟩
  have x8 := x7.below b8
  have y8 := y7.below b8
  have B8 := B7.trans (b8.mono (Nat.le_of_lt x7.lt))
  clear b8 x7 y7 B7
  have cj4 := y8.c4
  have fj4 := open_of y8 4
  have X9 : Aside (BX (w8.setCell ⟨Q, 4, none⟩ (.string pa)) R false ⟨#[]⟩ ⟨#[]⟩ 0 ⟨#[]⟩ ⟨#[]⟩ ∧ BX (w8.setCell ⟨Q, 4, none⟩ (.string pa)) Q false sc ho 0 pa ⟨#[]⟩ ∧ Below R w (w8.setCell ⟨Q, 4, none⟩ (.string pa))) := ⟨x8.other hQR 4 _, y8.set4 _, B8.setCell (p := ⟨Q, 4, none⟩) hRQ _⟩
  obtain ⟨x9, y9, B9⟩ := X9.out
  clear X9
  have cj5 := y9.c5
  have fj5 := open_of y9 5
  have x10 := x9.other hQR 5 (.string q)
  have y10 := y9.set5 q
  have B10 := B9.setCell (p := ⟨Q, 5, none⟩) hRQ (.string q)
  have k0 := y10.c0
  have k1 := y10.c1
  have k2 := y10.c2
  have k3 := y10.c3
  have k4 := y10.c4
  have k5 := y10.c5
  have r0 := x10.c0
  have h0 := open_of x10 0
  have r1 := x10.c1
  have h1 := open_of x10 1
  have r2 := x10.c2
  have h2 := open_of x10 2
  have r3 := x10.c3
  have h3 := open_of x10 3
  have r4 := x10.c4
  have h4 := open_of x10 4
  have r5 := x10.c5
  have h5 := open_of x10 5
  have xz := BX.store x10 false sc ho 0 pa q
  have yz := stU_below B10 false sc ho 0 pa q
  go_wp2
  clear r0 h0 r1 h1 r2 h2 r3 h3 r4 h4 r5 h5 k0 k1 k2 k3 k4 k5 cj4 fj4 cj5 fj5
  unfold stU at xz yz
  generalize ((((((((w8.setCell ⟨Q, 4, none⟩ (.string pa)).setCell ⟨Q, 5, none⟩ (.string q)).setCell ⟨R, 0, none⟩ (.bool false)).setCell ⟨R, 1, none⟩ (.string sc)).setCell ⟨R, 2, none⟩ (.string ho)).setCell ⟨R, 3, none⟩ (.int .i64 0)).setCell ⟨R, 4, none⟩ (.string pa)).setCell ⟨R, 5, none⟩ (.string q)) = wz at xz yz ⊢
  have c0 := xz.c0
  have c1 := xz.c1
  have c2 := xz.c2
  have c3 := xz.c3
  have c4 := xz.c4
  have c5 := xz.c5
  exact bodyPost_ret (v := uV false sc ho 0 pa q) (by simp [results, Tryz.results25, go_sem, uV, c0, c1, c2, c3, c4, c5]) rfl ⟨rfl, by first | exact yz | (rw [HR.out]; exact yz)⟩

set_option maxRecDepth 100000 in
set_option maxHeartbeats 2000000 in
theorem rk_001 (sc L R2 PL LF U NU ho U3 q pa : ByteArray) (d : Nat) (_P : Int) (_DS : ByteArray) (hL : ¬ (L.size : Int) < 2) (s2 : ∀ W, (Instr.slice 9 (.string L) none (some (.int .i64 2)) none).run Tryz.prog W = .ok (.string ⟨#[47, 47]⟩) W) (s3 : ∀ W, (Instr.slice 9 (.string L) (some (.int .i64 2)) none none).run Tryz.prog W = .ok (.string R2) W) (C1 : Hid (∀ W, Calls Tryz.prog 21 #[.string R2, .string ⟨#[47, 63]⟩] W fun e w' => e = .returned (.tuple #[.string PL, .string LF]) ∧ Below W.heap.size W w')) (C2 : Hid (∀ W, Calls Tryz.prog 21 #[.string PL, .string ⟨#[58]⟩] W fun e w' => e = .returned (.tuple #[.string U, .string NU]) ∧ Below W.heap.size W w')) (C3 : Hid (∀ W, Calls Tryz.prog 23 #[.string U] W fun e w' => e = .returned (.string ho) ∧ Below W.heap.size W w')) (gn : NU.toList.isEmpty = true) (CD : Hid (∀ W, Calls Tryz.prog 24 #[.string sc] W fun e w' => e = .returned (.int .i64 (d : Int)) ∧ w' = W)) (ge : ((0 : Int) == (d : Int)) = false) (C5 : Hid (∀ W, Calls Tryz.prog 21 #[.string LF, .string ⟨#[63]⟩] W fun e w' => e = .returned (.tuple #[.string U3, .string q]) ∧ Below W.heap.size W w')) (gp : U3.toList.isEmpty = true) (C6 : Hid (∀ W, Calls Tryz.prog 44 #[.string ⟨#[47]⟩] W fun e w' => e = .returned (.string pa) ∧ Below W.heap.size W w')) (w : World) : Calls Tryz.prog 25 #[.string sc, .string L] w fun e w' => e = .returned (uV false sc ho 0 pa q) ∧ Below w.heap.size w w' := by
  have x1 : BX ((w.alloc (.cells #[.bool false, .string ⟨#[]⟩, .string ⟨#[]⟩, .int .i64 0, .string ⟨#[]⟩, .string ⟨#[]⟩] 23)).alloc (.cells #[.bool false, .string sc, .string ⟨#[]⟩, .int .i64 0, .string ⟨#[]⟩, .string ⟨#[]⟩] 23)) w.heap.size false ⟨#[]⟩ ⟨#[]⟩ 0 ⟨#[]⟩ ⟨#[]⟩ := (BX.made w false ⟨#[]⟩ ⟨#[]⟩ 0 ⟨#[]⟩ ⟨#[]⟩).below ((Below.refl _ _).alloc (Nat.le_refl _) _)
  have y1 : BX ((w.alloc (.cells #[.bool false, .string ⟨#[]⟩, .string ⟨#[]⟩, .int .i64 0, .string ⟨#[]⟩, .string ⟨#[]⟩] 23)).alloc (.cells #[.bool false, .string sc, .string ⟨#[]⟩, .int .i64 0, .string ⟨#[]⟩, .string ⟨#[]⟩] 23)) (w.heap.size + 1) false sc ⟨#[]⟩ 0 ⟨#[]⟩ ⟨#[]⟩ := by
    have e := BX.made (w.alloc (.cells #[.bool false, .string ⟨#[]⟩, .string ⟨#[]⟩, .int .i64 0, .string ⟨#[]⟩, .string ⟨#[]⟩] 23)) false sc ⟨#[]⟩ 0 ⟨#[]⟩ ⟨#[]⟩
    have e2 : (w.alloc (.cells #[.bool false, .string ⟨#[]⟩, .string ⟨#[]⟩, .int .i64 0, .string ⟨#[]⟩, .string ⟨#[]⟩] 23)).heap.size = w.heap.size + 1 := Array.size_push _
    rw [e2] at e; exact e
  have B1 : Below w.heap.size w ((w.alloc (.cells #[.bool false, .string ⟨#[]⟩, .string ⟨#[]⟩, .int .i64 0, .string ⟨#[]⟩, .string ⟨#[]⟩] 23)).alloc (.cells #[.bool false, .string sc, .string ⟨#[]⟩, .int .i64 0, .string ⟨#[]⟩, .string ⟨#[]⟩] 23)) := ((Below.refl _ _).alloc (Nat.le_refl _) _).trans (((Below.refl _ _).alloc (Nat.le_refl _) _).mono ((Below.refl w.heap.size w).alloc (Nat.le_refl _) _).size)
  have hRQ : w.heap.size ≤ w.heap.size + 1 := Nat.le_succ _
  have hQR : w.heap.size + 1 ≠ w.heap.size := by omega
  have HX := Lib.hid (And.intro x1 (And.intro y1 (And.intro B1 (And.intro hRQ hQR))))
  clear x1 y1 B1 hRQ hQR
  go_enter Tryz.func25, Tryz.ntmps25
  go_wp2_with fail
  obtain ⟨x1, y1, B1, hRQ, hQR⟩ := HX.out
  clear HX s2 s3
  generalize w.heap.size + 1 = Q at y1 hRQ hQR ⊢
  generalize hR : w.heap.size = R at x1 B1 hRQ hQR ⊢
  have HR := Lib.hid hR
  clear hR
  generalize (w.alloc (.cells #[.bool false, .string ⟨#[]⟩, .string ⟨#[]⟩, .int .i64 0, .string ⟨#[]⟩, .string ⟨#[]⟩] 23)).alloc (.cells #[.bool false, .string sc, .string ⟨#[]⟩, .int .i64 0, .string ⟨#[]⟩, .string ⟨#[]⟩] 23) = w1 at x1 y1 B1 ⊢
  refine (C1.out _).mono ?_
  rintro e w2 ⟨rfl, b2⟩
  have x2 := x1.below b2
  have y2 := y1.below b2
  have B2 := B1.trans (b2.mono (Nat.le_of_lt x1.lt))
  clear b2 x1 y1 B1
  go_wp2_with fail
  refine (C2.out _).mono ?_
  rintro e w3 ⟨rfl, b3⟩
  have x3 := x2.below b3
  have y3 := y2.below b3
  have B3 := B2.trans (b3.mono (Nat.le_of_lt x2.lt))
  clear b3 x2 y2 B2
  go_wp2_with fail
  refine (C3.out _).mono ?_
  rintro e w4 ⟨rfl, b4⟩
  have x4 := x3.below b4
  have y4 := y3.below b4
  have B4 := B3.trans (b4.mono (Nat.le_of_lt x3.lt))
  clear b4 x3 y3 B3
  have cj := y4.c2
  have fj := open_of y4 2
  have X5 : Aside (BX (w4.setCell ⟨Q, 2, none⟩ (.string ho)) R false ⟨#[]⟩ ⟨#[]⟩ 0 ⟨#[]⟩ ⟨#[]⟩ ∧ BX (w4.setCell ⟨Q, 2, none⟩ (.string ho)) Q false sc ho 0 ⟨#[]⟩ ⟨#[]⟩ ∧ Below R w (w4.setCell ⟨Q, 2, none⟩ (.string ho))) := ⟨x4.other hQR 2 _, y4.set2 _, B4.setCell (p := ⟨Q, 2, none⟩) hRQ _⟩
  go_wp2_with fail
  generalize hw5 : w4.setCell ⟨Q, 2, none⟩ (.string ho) = w5 at X5 ⊢
  obtain ⟨x5, y5, B5⟩ := X5.out
  clear X5 hw5 x4 y4 B4 cj fj
  have c3 := y5.c3
  have f3 := open_of y5 3
  go_quiet ((go_at_call 24; exact Calls.quiet_of_same (CD.out _)))
  have xd : BX (w5.drewN nq) R false ⟨#[]⟩ ⟨#[]⟩ 0 ⟨#[]⟩ ⟨#[]⟩ := x5
  have yd : BX (w5.drewN nq) Q false sc ho 0 ⟨#[]⟩ ⟨#[]⟩ := y5
  have Bd : Below R w (w5.drewN nq) := belowN B5 nq
  generalize w5.drewN nq = w6 at xd yd Bd ⊢
  clear c3 f3 x5 y5 B5
  have x6 := xd
  have y6 := yd
  have B6 := Bd
  clear xd yd Bd
  go_wp2_with fail
  refine (C5.out _).mono ?_
  rintro e w7 ⟨rfl, b7⟩
  have x7 := x6.below b7
  have y7 := y6.below b7
  have B7 := B6.trans (b7.mono (Nat.le_of_lt x6.lt))
  clear b7 x6 y6 B6
  go_wp2_with fail
  refine (C6.out _).mono ?_
  rintro e w8 ⟨rfl, b8⟩
  have x8 := x7.below b8
  have y8 := y7.below b8
  have B8 := B7.trans (b8.mono (Nat.le_of_lt x7.lt))
  clear b8 x7 y7 B7
  have cj4 := y8.c4
  have fj4 := open_of y8 4
  have X9 : Aside (BX (w8.setCell ⟨Q, 4, none⟩ (.string pa)) R false ⟨#[]⟩ ⟨#[]⟩ 0 ⟨#[]⟩ ⟨#[]⟩ ∧ BX (w8.setCell ⟨Q, 4, none⟩ (.string pa)) Q false sc ho 0 pa ⟨#[]⟩ ∧ Below R w (w8.setCell ⟨Q, 4, none⟩ (.string pa))) := ⟨x8.other hQR 4 _, y8.set4 _, B8.setCell (p := ⟨Q, 4, none⟩) hRQ _⟩
  obtain ⟨x9, y9, B9⟩ := X9.out
  clear X9
  have cj5 := y9.c5
  have fj5 := open_of y9 5
  have x10 := x9.other hQR 5 (.string q)
  have y10 := y9.set5 q
  have B10 := B9.setCell (p := ⟨Q, 5, none⟩) hRQ (.string q)
  have k0 := y10.c0
  have k1 := y10.c1
  have k2 := y10.c2
  have k3 := y10.c3
  have k4 := y10.c4
  have k5 := y10.c5
  have r0 := x10.c0
  have h0 := open_of x10 0
  have r1 := x10.c1
  have h1 := open_of x10 1
  have r2 := x10.c2
  have h2 := open_of x10 2
  have r3 := x10.c3
  have h3 := open_of x10 3
  have r4 := x10.c4
  have h4 := open_of x10 4
  have r5 := x10.c5
  have h5 := open_of x10 5
  have xz := BX.store x10 false sc ho 0 pa q
  have yz := stU_below B10 false sc ho 0 pa q
  go_wp2
  clear r0 h0 r1 h1 r2 h2 r3 h3 r4 h4 r5 h5 k0 k1 k2 k3 k4 k5 cj4 fj4 cj5 fj5
  unfold stU at xz yz
  generalize ((((((((w8.setCell ⟨Q, 4, none⟩ (.string pa)).setCell ⟨Q, 5, none⟩ (.string q)).setCell ⟨R, 0, none⟩ (.bool false)).setCell ⟨R, 1, none⟩ (.string sc)).setCell ⟨R, 2, none⟩ (.string ho)).setCell ⟨R, 3, none⟩ (.int .i64 0)).setCell ⟨R, 4, none⟩ (.string pa)).setCell ⟨R, 5, none⟩ (.string q)) = wz at xz yz ⊢
  have c0 := xz.c0
  have c1 := xz.c1
  have c2 := xz.c2
  have c3 := xz.c3
  have c4 := xz.c4
  have c5 := xz.c5
  exact bodyPost_ret (v := uV false sc ho 0 pa q) (by simp [results, Tryz.results25, go_sem, uV, c0, c1, c2, c3, c4, c5]) rfl ⟨rfl, by first | exact yz | (rw [HR.out]; exact yz)⟩

set_option maxRecDepth 100000 in
set_option maxHeartbeats 2000000 in
theorem rk_100 (sc L R2 PL LF U NU ho U3 q pa : ByteArray) (d : Nat) (P : Int) (DS : ByteArray) (hL : ¬ (L.size : Int) < 2) (s2 : ∀ W, (Instr.slice 9 (.string L) none (some (.int .i64 2)) none).run Tryz.prog W = .ok (.string ⟨#[47, 47]⟩) W) (s3 : ∀ W, (Instr.slice 9 (.string L) (some (.int .i64 2)) none none).run Tryz.prog W = .ok (.string R2) W) (C1 : Hid (∀ W, Calls Tryz.prog 21 #[.string R2, .string ⟨#[47, 63]⟩] W fun e w' => e = .returned (.tuple #[.string PL, .string LF]) ∧ Below W.heap.size W w')) (C2 : Hid (∀ W, Calls Tryz.prog 21 #[.string PL, .string ⟨#[58]⟩] W fun e w' => e = .returned (.tuple #[.string U, .string NU]) ∧ Below W.heap.size W w')) (C3 : Hid (∀ W, Calls Tryz.prog 23 #[.string U] W fun e w' => e = .returned (.string ho) ∧ Below W.heap.size W w')) (gn : NU.toList.isEmpty = false) (s4 : ∀ W, (Instr.slice 9 (.string NU) (some (.int .i64 1)) none none).run Tryz.prog W = .ok (.string DS) W) (C4 : Hid (∀ W, Calls Tryz.prog 43 #[.string DS] W fun e w' => e = .returned (.int .i64 P) ∧ w' = W)) (CD : Hid (∀ W, Calls Tryz.prog 24 #[.string sc] W fun e w' => e = .returned (.int .i64 (d : Int)) ∧ w' = W)) (ge : ((P : Int) == (d : Int)) = false) (C5 : Hid (∀ W, Calls Tryz.prog 21 #[.string LF, .string ⟨#[63]⟩] W fun e w' => e = .returned (.tuple #[.string U3, .string q]) ∧ Below W.heap.size W w')) (gp : U3.toList.isEmpty = false) (C6 : Hid (∀ W, Calls Tryz.prog 44 #[.string U3] W fun e w' => e = .returned (.string pa) ∧ Below W.heap.size W w')) (w : World) : Calls Tryz.prog 25 #[.string sc, .string L] w fun e w' => e = .returned (uV false sc ho P pa q) ∧ Below w.heap.size w w' := by
  have x1 : BX ((w.alloc (.cells #[.bool false, .string ⟨#[]⟩, .string ⟨#[]⟩, .int .i64 0, .string ⟨#[]⟩, .string ⟨#[]⟩] 23)).alloc (.cells #[.bool false, .string sc, .string ⟨#[]⟩, .int .i64 0, .string ⟨#[]⟩, .string ⟨#[]⟩] 23)) w.heap.size false ⟨#[]⟩ ⟨#[]⟩ 0 ⟨#[]⟩ ⟨#[]⟩ := (BX.made w false ⟨#[]⟩ ⟨#[]⟩ 0 ⟨#[]⟩ ⟨#[]⟩).below ((Below.refl _ _).alloc (Nat.le_refl _) _)
  have y1 : BX ((w.alloc (.cells #[.bool false, .string ⟨#[]⟩, .string ⟨#[]⟩, .int .i64 0, .string ⟨#[]⟩, .string ⟨#[]⟩] 23)).alloc (.cells #[.bool false, .string sc, .string ⟨#[]⟩, .int .i64 0, .string ⟨#[]⟩, .string ⟨#[]⟩] 23)) (w.heap.size + 1) false sc ⟨#[]⟩ 0 ⟨#[]⟩ ⟨#[]⟩ := by
    have e := BX.made (w.alloc (.cells #[.bool false, .string ⟨#[]⟩, .string ⟨#[]⟩, .int .i64 0, .string ⟨#[]⟩, .string ⟨#[]⟩] 23)) false sc ⟨#[]⟩ 0 ⟨#[]⟩ ⟨#[]⟩
    have e2 : (w.alloc (.cells #[.bool false, .string ⟨#[]⟩, .string ⟨#[]⟩, .int .i64 0, .string ⟨#[]⟩, .string ⟨#[]⟩] 23)).heap.size = w.heap.size + 1 := Array.size_push _
    rw [e2] at e; exact e
  have B1 : Below w.heap.size w ((w.alloc (.cells #[.bool false, .string ⟨#[]⟩, .string ⟨#[]⟩, .int .i64 0, .string ⟨#[]⟩, .string ⟨#[]⟩] 23)).alloc (.cells #[.bool false, .string sc, .string ⟨#[]⟩, .int .i64 0, .string ⟨#[]⟩, .string ⟨#[]⟩] 23)) := ((Below.refl _ _).alloc (Nat.le_refl _) _).trans (((Below.refl _ _).alloc (Nat.le_refl _) _).mono ((Below.refl w.heap.size w).alloc (Nat.le_refl _) _).size)
  have hRQ : w.heap.size ≤ w.heap.size + 1 := Nat.le_succ _
  have hQR : w.heap.size + 1 ≠ w.heap.size := by omega
  have HX := Lib.hid (And.intro x1 (And.intro y1 (And.intro B1 (And.intro hRQ hQR))))
  clear x1 y1 B1 hRQ hQR
  go_enter Tryz.func25, Tryz.ntmps25
  go_wp2_with fail
  obtain ⟨x1, y1, B1, hRQ, hQR⟩ := HX.out
  clear HX s2 s3
  generalize w.heap.size + 1 = Q at y1 hRQ hQR ⊢
  generalize hR : w.heap.size = R at x1 B1 hRQ hQR ⊢
  have HR := Lib.hid hR
  clear hR
  generalize (w.alloc (.cells #[.bool false, .string ⟨#[]⟩, .string ⟨#[]⟩, .int .i64 0, .string ⟨#[]⟩, .string ⟨#[]⟩] 23)).alloc (.cells #[.bool false, .string sc, .string ⟨#[]⟩, .int .i64 0, .string ⟨#[]⟩, .string ⟨#[]⟩] 23) = w1 at x1 y1 B1 ⊢
  refine (C1.out _).mono ?_
  rintro e w2 ⟨rfl, b2⟩
  have x2 := x1.below b2
  have y2 := y1.below b2
  have B2 := B1.trans (b2.mono (Nat.le_of_lt x1.lt))
  clear b2 x1 y1 B1
  go_wp2_with fail
  refine (C2.out _).mono ?_
  rintro e w3 ⟨rfl, b3⟩
  have x3 := x2.below b3
  have y3 := y2.below b3
  have B3 := B2.trans (b3.mono (Nat.le_of_lt x2.lt))
  clear b3 x2 y2 B2
  go_wp2_with fail
  refine (C3.out _).mono ?_
  rintro e w4 ⟨rfl, b4⟩
  have x4 := x3.below b4
  have y4 := y3.below b4
  have B4 := B3.trans (b4.mono (Nat.le_of_lt x3.lt))
  clear b4 x3 y3 B3
  have cj := y4.c2
  have fj := open_of y4 2
  have X5 : Aside (BX (w4.setCell ⟨Q, 2, none⟩ (.string ho)) R false ⟨#[]⟩ ⟨#[]⟩ 0 ⟨#[]⟩ ⟨#[]⟩ ∧ BX (w4.setCell ⟨Q, 2, none⟩ (.string ho)) Q false sc ho 0 ⟨#[]⟩ ⟨#[]⟩ ∧ Below R w (w4.setCell ⟨Q, 2, none⟩ (.string ho))) := ⟨x4.other hQR 2 _, y4.set2 _, B4.setCell (p := ⟨Q, 2, none⟩) hRQ _⟩
  go_wp2_with fail
  generalize hw5 : w4.setCell ⟨Q, 2, none⟩ (.string ho) = w5 at X5 ⊢
  obtain ⟨x5, y5, B5⟩ := X5.out
  clear X5 hw5 x4 y4 B4 cj fj
  refine (C4.out _).mono ?_
  rintro e w5 ⟨rfl, rfl⟩
  have cj := y5.c3
  have fj := open_of y5 3
  have X6 : Aside (BX (w5.setCell ⟨Q, 3, none⟩ (.int .i64 P)) R false ⟨#[]⟩ ⟨#[]⟩ 0 ⟨#[]⟩ ⟨#[]⟩ ∧ BX (w5.setCell ⟨Q, 3, none⟩ (.int .i64 P)) Q false sc ho P ⟨#[]⟩ ⟨#[]⟩ ∧ Below R w (w5.setCell ⟨Q, 3, none⟩ (.int .i64 P))) := ⟨x5.other hQR 3 _, y5.set3 _, B5.setCell (p := ⟨Q, 3, none⟩) hRQ _⟩
  go_wp2_with fail
  generalize hw6 : w5.setCell ⟨Q, 3, none⟩ (.int .i64 P) = w6 at X6 ⊢
  obtain ⟨x6, y6, B6⟩ := X6.out
  clear X6 hw6 x5 y5 B5 cj fj
  have c3 := y6.c3
  have f3 := open_of y6 3
  go_quiet ((go_at_call 24; exact Calls.quiet_of_same (CD.out _)))
  have xd : BX (w6.drewN nq) R false ⟨#[]⟩ ⟨#[]⟩ 0 ⟨#[]⟩ ⟨#[]⟩ := x6
  have yd : BX (w6.drewN nq) Q false sc ho P ⟨#[]⟩ ⟨#[]⟩ := y6
  have Bd : Below R w (w6.drewN nq) := belowN B6 nq
  generalize w6.drewN nq = w7 at xd yd Bd ⊢
  clear c3 f3 x6 y6 B6
  have x7 := xd
  have y7 := yd
  have B7 := Bd
  clear xd yd Bd
  go_wp2_with fail
  refine (C5.out _).mono ?_
  rintro e w8 ⟨rfl, b8⟩
  have x8 := x7.below b8
  have y8 := y7.below b8
  have B8 := B7.trans (b8.mono (Nat.le_of_lt x7.lt))
  clear b8 x7 y7 B7
  go_wp2_with fail
  refine (C6.out _).mono ?_
  rintro e w9 ⟨rfl, b9⟩
  have x9 := x8.below b9
  have y9 := y8.below b9
  have B9 := B8.trans (b9.mono (Nat.le_of_lt x8.lt))
  clear b9 x8 y8 B8
  have cj4 := y9.c4
  have fj4 := open_of y9 4
  have X10 : Aside (BX (w9.setCell ⟨Q, 4, none⟩ (.string pa)) R false ⟨#[]⟩ ⟨#[]⟩ 0 ⟨#[]⟩ ⟨#[]⟩ ∧ BX (w9.setCell ⟨Q, 4, none⟩ (.string pa)) Q false sc ho P pa ⟨#[]⟩ ∧ Below R w (w9.setCell ⟨Q, 4, none⟩ (.string pa))) := ⟨x9.other hQR 4 _, y9.set4 _, B9.setCell (p := ⟨Q, 4, none⟩) hRQ _⟩
  obtain ⟨x10, y10, B10⟩ := X10.out
  clear X10
  have cj5 := y10.c5
  have fj5 := open_of y10 5
  have x11 := x10.other hQR 5 (.string q)
  have y11 := y10.set5 q
  have B11 := B10.setCell (p := ⟨Q, 5, none⟩) hRQ (.string q)
  have k0 := y11.c0
  have k1 := y11.c1
  have k2 := y11.c2
  have k3 := y11.c3
  have k4 := y11.c4
  have k5 := y11.c5
  have r0 := x11.c0
  have h0 := open_of x11 0
  have r1 := x11.c1
  have h1 := open_of x11 1
  have r2 := x11.c2
  have h2 := open_of x11 2
  have r3 := x11.c3
  have h3 := open_of x11 3
  have r4 := x11.c4
  have h4 := open_of x11 4
  have r5 := x11.c5
  have h5 := open_of x11 5
  have xz := BX.store x11 false sc ho P pa q
  have yz := stU_below B11 false sc ho P pa q
  go_wp2
  clear r0 h0 r1 h1 r2 h2 r3 h3 r4 h4 r5 h5 k0 k1 k2 k3 k4 k5 cj4 fj4 cj5 fj5
  unfold stU at xz yz
  generalize ((((((((w9.setCell ⟨Q, 4, none⟩ (.string pa)).setCell ⟨Q, 5, none⟩ (.string q)).setCell ⟨R, 0, none⟩ (.bool false)).setCell ⟨R, 1, none⟩ (.string sc)).setCell ⟨R, 2, none⟩ (.string ho)).setCell ⟨R, 3, none⟩ (.int .i64 P)).setCell ⟨R, 4, none⟩ (.string pa)).setCell ⟨R, 5, none⟩ (.string q)) = wz at xz yz ⊢
  have c0 := xz.c0
  have c1 := xz.c1
  have c2 := xz.c2
  have c3 := xz.c3
  have c4 := xz.c4
  have c5 := xz.c5
  exact bodyPost_ret (v := uV false sc ho P pa q) (by simp [results, Tryz.results25, go_sem, uV, c0, c1, c2, c3, c4, c5]) rfl ⟨rfl, by first | exact yz | (rw [HR.out]; exact yz)⟩

set_option maxRecDepth 100000 in
set_option maxHeartbeats 2000000 in
theorem rk_101 (sc L R2 PL LF U NU ho U3 q pa : ByteArray) (d : Nat) (P : Int) (DS : ByteArray) (hL : ¬ (L.size : Int) < 2) (s2 : ∀ W, (Instr.slice 9 (.string L) none (some (.int .i64 2)) none).run Tryz.prog W = .ok (.string ⟨#[47, 47]⟩) W) (s3 : ∀ W, (Instr.slice 9 (.string L) (some (.int .i64 2)) none none).run Tryz.prog W = .ok (.string R2) W) (C1 : Hid (∀ W, Calls Tryz.prog 21 #[.string R2, .string ⟨#[47, 63]⟩] W fun e w' => e = .returned (.tuple #[.string PL, .string LF]) ∧ Below W.heap.size W w')) (C2 : Hid (∀ W, Calls Tryz.prog 21 #[.string PL, .string ⟨#[58]⟩] W fun e w' => e = .returned (.tuple #[.string U, .string NU]) ∧ Below W.heap.size W w')) (C3 : Hid (∀ W, Calls Tryz.prog 23 #[.string U] W fun e w' => e = .returned (.string ho) ∧ Below W.heap.size W w')) (gn : NU.toList.isEmpty = false) (s4 : ∀ W, (Instr.slice 9 (.string NU) (some (.int .i64 1)) none none).run Tryz.prog W = .ok (.string DS) W) (C4 : Hid (∀ W, Calls Tryz.prog 43 #[.string DS] W fun e w' => e = .returned (.int .i64 P) ∧ w' = W)) (CD : Hid (∀ W, Calls Tryz.prog 24 #[.string sc] W fun e w' => e = .returned (.int .i64 (d : Int)) ∧ w' = W)) (ge : ((P : Int) == (d : Int)) = false) (C5 : Hid (∀ W, Calls Tryz.prog 21 #[.string LF, .string ⟨#[63]⟩] W fun e w' => e = .returned (.tuple #[.string U3, .string q]) ∧ Below W.heap.size W w')) (gp : U3.toList.isEmpty = true) (C6 : Hid (∀ W, Calls Tryz.prog 44 #[.string ⟨#[47]⟩] W fun e w' => e = .returned (.string pa) ∧ Below W.heap.size W w')) (w : World) : Calls Tryz.prog 25 #[.string sc, .string L] w fun e w' => e = .returned (uV false sc ho P pa q) ∧ Below w.heap.size w w' := by
  have x1 : BX ((w.alloc (.cells #[.bool false, .string ⟨#[]⟩, .string ⟨#[]⟩, .int .i64 0, .string ⟨#[]⟩, .string ⟨#[]⟩] 23)).alloc (.cells #[.bool false, .string sc, .string ⟨#[]⟩, .int .i64 0, .string ⟨#[]⟩, .string ⟨#[]⟩] 23)) w.heap.size false ⟨#[]⟩ ⟨#[]⟩ 0 ⟨#[]⟩ ⟨#[]⟩ := (BX.made w false ⟨#[]⟩ ⟨#[]⟩ 0 ⟨#[]⟩ ⟨#[]⟩).below ((Below.refl _ _).alloc (Nat.le_refl _) _)
  have y1 : BX ((w.alloc (.cells #[.bool false, .string ⟨#[]⟩, .string ⟨#[]⟩, .int .i64 0, .string ⟨#[]⟩, .string ⟨#[]⟩] 23)).alloc (.cells #[.bool false, .string sc, .string ⟨#[]⟩, .int .i64 0, .string ⟨#[]⟩, .string ⟨#[]⟩] 23)) (w.heap.size + 1) false sc ⟨#[]⟩ 0 ⟨#[]⟩ ⟨#[]⟩ := by
    have e := BX.made (w.alloc (.cells #[.bool false, .string ⟨#[]⟩, .string ⟨#[]⟩, .int .i64 0, .string ⟨#[]⟩, .string ⟨#[]⟩] 23)) false sc ⟨#[]⟩ 0 ⟨#[]⟩ ⟨#[]⟩
    have e2 : (w.alloc (.cells #[.bool false, .string ⟨#[]⟩, .string ⟨#[]⟩, .int .i64 0, .string ⟨#[]⟩, .string ⟨#[]⟩] 23)).heap.size = w.heap.size + 1 := Array.size_push _
    rw [e2] at e; exact e
  have B1 : Below w.heap.size w ((w.alloc (.cells #[.bool false, .string ⟨#[]⟩, .string ⟨#[]⟩, .int .i64 0, .string ⟨#[]⟩, .string ⟨#[]⟩] 23)).alloc (.cells #[.bool false, .string sc, .string ⟨#[]⟩, .int .i64 0, .string ⟨#[]⟩, .string ⟨#[]⟩] 23)) := ((Below.refl _ _).alloc (Nat.le_refl _) _).trans (((Below.refl _ _).alloc (Nat.le_refl _) _).mono ((Below.refl w.heap.size w).alloc (Nat.le_refl _) _).size)
  have hRQ : w.heap.size ≤ w.heap.size + 1 := Nat.le_succ _
  have hQR : w.heap.size + 1 ≠ w.heap.size := by omega
  have HX := Lib.hid (And.intro x1 (And.intro y1 (And.intro B1 (And.intro hRQ hQR))))
  clear x1 y1 B1 hRQ hQR
  go_enter Tryz.func25, Tryz.ntmps25
  go_wp2_with fail
  obtain ⟨x1, y1, B1, hRQ, hQR⟩ := HX.out
  clear HX s2 s3
  generalize w.heap.size + 1 = Q at y1 hRQ hQR ⊢
  generalize hR : w.heap.size = R at x1 B1 hRQ hQR ⊢
  have HR := Lib.hid hR
  clear hR
  generalize (w.alloc (.cells #[.bool false, .string ⟨#[]⟩, .string ⟨#[]⟩, .int .i64 0, .string ⟨#[]⟩, .string ⟨#[]⟩] 23)).alloc (.cells #[.bool false, .string sc, .string ⟨#[]⟩, .int .i64 0, .string ⟨#[]⟩, .string ⟨#[]⟩] 23) = w1 at x1 y1 B1 ⊢
  refine (C1.out _).mono ?_
  rintro e w2 ⟨rfl, b2⟩
  have x2 := x1.below b2
  have y2 := y1.below b2
  have B2 := B1.trans (b2.mono (Nat.le_of_lt x1.lt))
  clear b2 x1 y1 B1
  go_wp2_with fail
  refine (C2.out _).mono ?_
  rintro e w3 ⟨rfl, b3⟩
  have x3 := x2.below b3
  have y3 := y2.below b3
  have B3 := B2.trans (b3.mono (Nat.le_of_lt x2.lt))
  clear b3 x2 y2 B2
  go_wp2_with fail
  refine (C3.out _).mono ?_
  rintro e w4 ⟨rfl, b4⟩
  have x4 := x3.below b4
  have y4 := y3.below b4
  have B4 := B3.trans (b4.mono (Nat.le_of_lt x3.lt))
  clear b4 x3 y3 B3
  have cj := y4.c2
  have fj := open_of y4 2
  have X5 : Aside (BX (w4.setCell ⟨Q, 2, none⟩ (.string ho)) R false ⟨#[]⟩ ⟨#[]⟩ 0 ⟨#[]⟩ ⟨#[]⟩ ∧ BX (w4.setCell ⟨Q, 2, none⟩ (.string ho)) Q false sc ho 0 ⟨#[]⟩ ⟨#[]⟩ ∧ Below R w (w4.setCell ⟨Q, 2, none⟩ (.string ho))) := ⟨x4.other hQR 2 _, y4.set2 _, B4.setCell (p := ⟨Q, 2, none⟩) hRQ _⟩
  go_wp2_with fail
  generalize hw5 : w4.setCell ⟨Q, 2, none⟩ (.string ho) = w5 at X5 ⊢
  obtain ⟨x5, y5, B5⟩ := X5.out
  clear X5 hw5 x4 y4 B4 cj fj
  refine (C4.out _).mono ?_
  rintro e w5 ⟨rfl, rfl⟩
  have cj := y5.c3
  have fj := open_of y5 3
  have X6 : Aside (BX (w5.setCell ⟨Q, 3, none⟩ (.int .i64 P)) R false ⟨#[]⟩ ⟨#[]⟩ 0 ⟨#[]⟩ ⟨#[]⟩ ∧ BX (w5.setCell ⟨Q, 3, none⟩ (.int .i64 P)) Q false sc ho P ⟨#[]⟩ ⟨#[]⟩ ∧ Below R w (w5.setCell ⟨Q, 3, none⟩ (.int .i64 P))) := ⟨x5.other hQR 3 _, y5.set3 _, B5.setCell (p := ⟨Q, 3, none⟩) hRQ _⟩
  go_wp2_with fail
  generalize hw6 : w5.setCell ⟨Q, 3, none⟩ (.int .i64 P) = w6 at X6 ⊢
  obtain ⟨x6, y6, B6⟩ := X6.out
  clear X6 hw6 x5 y5 B5 cj fj
  have c3 := y6.c3
  have f3 := open_of y6 3
  go_quiet ((go_at_call 24; exact Calls.quiet_of_same (CD.out _)))
  have xd : BX (w6.drewN nq) R false ⟨#[]⟩ ⟨#[]⟩ 0 ⟨#[]⟩ ⟨#[]⟩ := x6
  have yd : BX (w6.drewN nq) Q false sc ho P ⟨#[]⟩ ⟨#[]⟩ := y6
  have Bd : Below R w (w6.drewN nq) := belowN B6 nq
  generalize w6.drewN nq = w7 at xd yd Bd ⊢
  clear c3 f3 x6 y6 B6
  have x7 := xd
  have y7 := yd
  have B7 := Bd
  clear xd yd Bd
  go_wp2_with fail
  refine (C5.out _).mono ?_
  rintro e w8 ⟨rfl, b8⟩
  have x8 := x7.below b8
  have y8 := y7.below b8
  have B8 := B7.trans (b8.mono (Nat.le_of_lt x7.lt))
  clear b8 x7 y7 B7
  go_wp2_with fail
  refine (C6.out _).mono ?_
  rintro e w9 ⟨rfl, b9⟩
  have x9 := x8.below b9
  have y9 := y8.below b9
  have B9 := B8.trans (b9.mono (Nat.le_of_lt x8.lt))
  clear b9 x8 y8 B8
  have cj4 := y9.c4
  have fj4 := open_of y9 4
  have X10 : Aside (BX (w9.setCell ⟨Q, 4, none⟩ (.string pa)) R false ⟨#[]⟩ ⟨#[]⟩ 0 ⟨#[]⟩ ⟨#[]⟩ ∧ BX (w9.setCell ⟨Q, 4, none⟩ (.string pa)) Q false sc ho P pa ⟨#[]⟩ ∧ Below R w (w9.setCell ⟨Q, 4, none⟩ (.string pa))) := ⟨x9.other hQR 4 _, y9.set4 _, B9.setCell (p := ⟨Q, 4, none⟩) hRQ _⟩
  obtain ⟨x10, y10, B10⟩ := X10.out
  clear X10
  have cj5 := y10.c5
  have fj5 := open_of y10 5
  have x11 := x10.other hQR 5 (.string q)
  have y11 := y10.set5 q
  have B11 := B10.setCell (p := ⟨Q, 5, none⟩) hRQ (.string q)
  have k0 := y11.c0
  have k1 := y11.c1
  have k2 := y11.c2
  have k3 := y11.c3
  have k4 := y11.c4
  have k5 := y11.c5
  have r0 := x11.c0
  have h0 := open_of x11 0
  have r1 := x11.c1
  have h1 := open_of x11 1
  have r2 := x11.c2
  have h2 := open_of x11 2
  have r3 := x11.c3
  have h3 := open_of x11 3
  have r4 := x11.c4
  have h4 := open_of x11 4
  have r5 := x11.c5
  have h5 := open_of x11 5
  have xz := BX.store x11 false sc ho P pa q
  have yz := stU_below B11 false sc ho P pa q
  go_wp2
  clear r0 h0 r1 h1 r2 h2 r3 h3 r4 h4 r5 h5 k0 k1 k2 k3 k4 k5 cj4 fj4 cj5 fj5
  unfold stU at xz yz
  generalize ((((((((w9.setCell ⟨Q, 4, none⟩ (.string pa)).setCell ⟨Q, 5, none⟩ (.string q)).setCell ⟨R, 0, none⟩ (.bool false)).setCell ⟨R, 1, none⟩ (.string sc)).setCell ⟨R, 2, none⟩ (.string ho)).setCell ⟨R, 3, none⟩ (.int .i64 P)).setCell ⟨R, 4, none⟩ (.string pa)).setCell ⟨R, 5, none⟩ (.string q)) = wz at xz yz ⊢
  have c0 := xz.c0
  have c1 := xz.c1
  have c2 := xz.c2
  have c3 := xz.c3
  have c4 := xz.c4
  have c5 := xz.c5
  exact bodyPost_ret (v := uV false sc ho P pa q) (by simp [results, Tryz.results25, go_sem, uV, c0, c1, c2, c3, c4, c5]) rfl ⟨rfl, by first | exact yz | (rw [HR.out]; exact yz)⟩

set_option maxRecDepth 100000 in
set_option maxHeartbeats 2000000 in
theorem rk_110 (sc L R2 PL LF U NU ho U3 q pa : ByteArray) (d : Nat) (P : Int) (DS : ByteArray) (hL : ¬ (L.size : Int) < 2) (s2 : ∀ W, (Instr.slice 9 (.string L) none (some (.int .i64 2)) none).run Tryz.prog W = .ok (.string ⟨#[47, 47]⟩) W) (s3 : ∀ W, (Instr.slice 9 (.string L) (some (.int .i64 2)) none none).run Tryz.prog W = .ok (.string R2) W) (C1 : Hid (∀ W, Calls Tryz.prog 21 #[.string R2, .string ⟨#[47, 63]⟩] W fun e w' => e = .returned (.tuple #[.string PL, .string LF]) ∧ Below W.heap.size W w')) (C2 : Hid (∀ W, Calls Tryz.prog 21 #[.string PL, .string ⟨#[58]⟩] W fun e w' => e = .returned (.tuple #[.string U, .string NU]) ∧ Below W.heap.size W w')) (C3 : Hid (∀ W, Calls Tryz.prog 23 #[.string U] W fun e w' => e = .returned (.string ho) ∧ Below W.heap.size W w')) (gn : NU.toList.isEmpty = false) (s4 : ∀ W, (Instr.slice 9 (.string NU) (some (.int .i64 1)) none none).run Tryz.prog W = .ok (.string DS) W) (C4 : Hid (∀ W, Calls Tryz.prog 43 #[.string DS] W fun e w' => e = .returned (.int .i64 P) ∧ w' = W)) (CD : Hid (∀ W, Calls Tryz.prog 24 #[.string sc] W fun e w' => e = .returned (.int .i64 (d : Int)) ∧ w' = W)) (ge : ((P : Int) == (d : Int)) = true) (C5 : Hid (∀ W, Calls Tryz.prog 21 #[.string LF, .string ⟨#[63]⟩] W fun e w' => e = .returned (.tuple #[.string U3, .string q]) ∧ Below W.heap.size W w')) (gp : U3.toList.isEmpty = false) (C6 : Hid (∀ W, Calls Tryz.prog 44 #[.string U3] W fun e w' => e = .returned (.string pa) ∧ Below W.heap.size W w')) (w : World) : Calls Tryz.prog 25 #[.string sc, .string L] w fun e w' => e = .returned (uV false sc ho 0 pa q) ∧ Below w.heap.size w w' := by
  have x1 : BX ((w.alloc (.cells #[.bool false, .string ⟨#[]⟩, .string ⟨#[]⟩, .int .i64 0, .string ⟨#[]⟩, .string ⟨#[]⟩] 23)).alloc (.cells #[.bool false, .string sc, .string ⟨#[]⟩, .int .i64 0, .string ⟨#[]⟩, .string ⟨#[]⟩] 23)) w.heap.size false ⟨#[]⟩ ⟨#[]⟩ 0 ⟨#[]⟩ ⟨#[]⟩ := (BX.made w false ⟨#[]⟩ ⟨#[]⟩ 0 ⟨#[]⟩ ⟨#[]⟩).below ((Below.refl _ _).alloc (Nat.le_refl _) _)
  have y1 : BX ((w.alloc (.cells #[.bool false, .string ⟨#[]⟩, .string ⟨#[]⟩, .int .i64 0, .string ⟨#[]⟩, .string ⟨#[]⟩] 23)).alloc (.cells #[.bool false, .string sc, .string ⟨#[]⟩, .int .i64 0, .string ⟨#[]⟩, .string ⟨#[]⟩] 23)) (w.heap.size + 1) false sc ⟨#[]⟩ 0 ⟨#[]⟩ ⟨#[]⟩ := by
    have e := BX.made (w.alloc (.cells #[.bool false, .string ⟨#[]⟩, .string ⟨#[]⟩, .int .i64 0, .string ⟨#[]⟩, .string ⟨#[]⟩] 23)) false sc ⟨#[]⟩ 0 ⟨#[]⟩ ⟨#[]⟩
    have e2 : (w.alloc (.cells #[.bool false, .string ⟨#[]⟩, .string ⟨#[]⟩, .int .i64 0, .string ⟨#[]⟩, .string ⟨#[]⟩] 23)).heap.size = w.heap.size + 1 := Array.size_push _
    rw [e2] at e; exact e
  have B1 : Below w.heap.size w ((w.alloc (.cells #[.bool false, .string ⟨#[]⟩, .string ⟨#[]⟩, .int .i64 0, .string ⟨#[]⟩, .string ⟨#[]⟩] 23)).alloc (.cells #[.bool false, .string sc, .string ⟨#[]⟩, .int .i64 0, .string ⟨#[]⟩, .string ⟨#[]⟩] 23)) := ((Below.refl _ _).alloc (Nat.le_refl _) _).trans (((Below.refl _ _).alloc (Nat.le_refl _) _).mono ((Below.refl w.heap.size w).alloc (Nat.le_refl _) _).size)
  have hRQ : w.heap.size ≤ w.heap.size + 1 := Nat.le_succ _
  have hQR : w.heap.size + 1 ≠ w.heap.size := by omega
  have HX := Lib.hid (And.intro x1 (And.intro y1 (And.intro B1 (And.intro hRQ hQR))))
  clear x1 y1 B1 hRQ hQR
  go_enter Tryz.func25, Tryz.ntmps25
  go_wp2_with fail
  obtain ⟨x1, y1, B1, hRQ, hQR⟩ := HX.out
  clear HX s2 s3
  generalize w.heap.size + 1 = Q at y1 hRQ hQR ⊢
  generalize hR : w.heap.size = R at x1 B1 hRQ hQR ⊢
  have HR := Lib.hid hR
  clear hR
  generalize (w.alloc (.cells #[.bool false, .string ⟨#[]⟩, .string ⟨#[]⟩, .int .i64 0, .string ⟨#[]⟩, .string ⟨#[]⟩] 23)).alloc (.cells #[.bool false, .string sc, .string ⟨#[]⟩, .int .i64 0, .string ⟨#[]⟩, .string ⟨#[]⟩] 23) = w1 at x1 y1 B1 ⊢
  refine (C1.out _).mono ?_
  rintro e w2 ⟨rfl, b2⟩
  have x2 := x1.below b2
  have y2 := y1.below b2
  have B2 := B1.trans (b2.mono (Nat.le_of_lt x1.lt))
  clear b2 x1 y1 B1
  go_wp2_with fail
  refine (C2.out _).mono ?_
  rintro e w3 ⟨rfl, b3⟩
  have x3 := x2.below b3
  have y3 := y2.below b3
  have B3 := B2.trans (b3.mono (Nat.le_of_lt x2.lt))
  clear b3 x2 y2 B2
  go_wp2_with fail
  refine (C3.out _).mono ?_
  rintro e w4 ⟨rfl, b4⟩
  have x4 := x3.below b4
  have y4 := y3.below b4
  have B4 := B3.trans (b4.mono (Nat.le_of_lt x3.lt))
  clear b4 x3 y3 B3
  have cj := y4.c2
  have fj := open_of y4 2
  have X5 : Aside (BX (w4.setCell ⟨Q, 2, none⟩ (.string ho)) R false ⟨#[]⟩ ⟨#[]⟩ 0 ⟨#[]⟩ ⟨#[]⟩ ∧ BX (w4.setCell ⟨Q, 2, none⟩ (.string ho)) Q false sc ho 0 ⟨#[]⟩ ⟨#[]⟩ ∧ Below R w (w4.setCell ⟨Q, 2, none⟩ (.string ho))) := ⟨x4.other hQR 2 _, y4.set2 _, B4.setCell (p := ⟨Q, 2, none⟩) hRQ _⟩
  go_wp2_with fail
  generalize hw5 : w4.setCell ⟨Q, 2, none⟩ (.string ho) = w5 at X5 ⊢
  obtain ⟨x5, y5, B5⟩ := X5.out
  clear X5 hw5 x4 y4 B4 cj fj
  refine (C4.out _).mono ?_
  rintro e w5 ⟨rfl, rfl⟩
  have cj := y5.c3
  have fj := open_of y5 3
  have X6 : Aside (BX (w5.setCell ⟨Q, 3, none⟩ (.int .i64 P)) R false ⟨#[]⟩ ⟨#[]⟩ 0 ⟨#[]⟩ ⟨#[]⟩ ∧ BX (w5.setCell ⟨Q, 3, none⟩ (.int .i64 P)) Q false sc ho P ⟨#[]⟩ ⟨#[]⟩ ∧ Below R w (w5.setCell ⟨Q, 3, none⟩ (.int .i64 P))) := ⟨x5.other hQR 3 _, y5.set3 _, B5.setCell (p := ⟨Q, 3, none⟩) hRQ _⟩
  go_wp2_with fail
  generalize hw6 : w5.setCell ⟨Q, 3, none⟩ (.int .i64 P) = w6 at X6 ⊢
  obtain ⟨x6, y6, B6⟩ := X6.out
  clear X6 hw6 x5 y5 B5 cj fj
  have c3 := y6.c3
  have f3 := open_of y6 3
  go_quiet ((go_at_call 24; exact Calls.quiet_of_same (CD.out _)))
  have xd : BX (w6.drewN nq) R false ⟨#[]⟩ ⟨#[]⟩ 0 ⟨#[]⟩ ⟨#[]⟩ := x6
  have yd : BX (w6.drewN nq) Q false sc ho P ⟨#[]⟩ ⟨#[]⟩ := y6
  have Bd : Below R w (w6.drewN nq) := belowN B6 nq
  generalize w6.drewN nq = w7 at xd yd Bd ⊢
  clear c3 f3 x6 y6 B6
  have x7 := xd
  have y7 := yd
  have B7 := Bd
  clear xd yd Bd
  have cj := y7.c3
  have fj := open_of y7 3
  have X8 : Aside (BX (w7.setCell ⟨Q, 3, none⟩ (.int .i64 0)) R false ⟨#[]⟩ ⟨#[]⟩ 0 ⟨#[]⟩ ⟨#[]⟩ ∧ BX (w7.setCell ⟨Q, 3, none⟩ (.int .i64 0)) Q false sc ho 0 ⟨#[]⟩ ⟨#[]⟩ ∧ Below R w (w7.setCell ⟨Q, 3, none⟩ (.int .i64 0))) := ⟨x7.other hQR 3 _, y7.set3 _, B7.setCell (p := ⟨Q, 3, none⟩) hRQ _⟩
  go_wp2_with fail
  generalize hw8 : w7.setCell ⟨Q, 3, none⟩ (.int .i64 0) = w8 at X8 ⊢
  obtain ⟨x8, y8, B8⟩ := X8.out
  clear X8 hw8 x7 y7 B7 cj fj
  refine (C5.out _).mono ?_
  rintro e w9 ⟨rfl, b9⟩
  have x9 := x8.below b9
  have y9 := y8.below b9
  have B9 := B8.trans (b9.mono (Nat.le_of_lt x8.lt))
  clear b9 x8 y8 B8
  go_wp2_with fail
  refine (C6.out _).mono ?_
  rintro e w10 ⟨rfl, b10⟩
  have x10 := x9.below b10
  have y10 := y9.below b10
  have B10 := B9.trans (b10.mono (Nat.le_of_lt x9.lt))
  clear b10 x9 y9 B9
  have cj4 := y10.c4
  have fj4 := open_of y10 4
  have X11 : Aside (BX (w10.setCell ⟨Q, 4, none⟩ (.string pa)) R false ⟨#[]⟩ ⟨#[]⟩ 0 ⟨#[]⟩ ⟨#[]⟩ ∧ BX (w10.setCell ⟨Q, 4, none⟩ (.string pa)) Q false sc ho 0 pa ⟨#[]⟩ ∧ Below R w (w10.setCell ⟨Q, 4, none⟩ (.string pa))) := ⟨x10.other hQR 4 _, y10.set4 _, B10.setCell (p := ⟨Q, 4, none⟩) hRQ _⟩
  obtain ⟨x11, y11, B11⟩ := X11.out
  clear X11
  have cj5 := y11.c5
  have fj5 := open_of y11 5
  have x12 := x11.other hQR 5 (.string q)
  have y12 := y11.set5 q
  have B12 := B11.setCell (p := ⟨Q, 5, none⟩) hRQ (.string q)
  have k0 := y12.c0
  have k1 := y12.c1
  have k2 := y12.c2
  have k3 := y12.c3
  have k4 := y12.c4
  have k5 := y12.c5
  have r0 := x12.c0
  have h0 := open_of x12 0
  have r1 := x12.c1
  have h1 := open_of x12 1
  have r2 := x12.c2
  have h2 := open_of x12 2
  have r3 := x12.c3
  have h3 := open_of x12 3
  have r4 := x12.c4
  have h4 := open_of x12 4
  have r5 := x12.c5
  have h5 := open_of x12 5
  have xz := BX.store x12 false sc ho 0 pa q
  have yz := stU_below B12 false sc ho 0 pa q
  go_wp2
  clear r0 h0 r1 h1 r2 h2 r3 h3 r4 h4 r5 h5 k0 k1 k2 k3 k4 k5 cj4 fj4 cj5 fj5
  unfold stU at xz yz
  generalize ((((((((w10.setCell ⟨Q, 4, none⟩ (.string pa)).setCell ⟨Q, 5, none⟩ (.string q)).setCell ⟨R, 0, none⟩ (.bool false)).setCell ⟨R, 1, none⟩ (.string sc)).setCell ⟨R, 2, none⟩ (.string ho)).setCell ⟨R, 3, none⟩ (.int .i64 0)).setCell ⟨R, 4, none⟩ (.string pa)).setCell ⟨R, 5, none⟩ (.string q)) = wz at xz yz ⊢
  have c0 := xz.c0
  have c1 := xz.c1
  have c2 := xz.c2
  have c3 := xz.c3
  have c4 := xz.c4
  have c5 := xz.c5
  exact bodyPost_ret (v := uV false sc ho 0 pa q) (by simp [results, Tryz.results25, go_sem, uV, c0, c1, c2, c3, c4, c5]) rfl ⟨rfl, by first | exact yz | (rw [HR.out]; exact yz)⟩

set_option maxRecDepth 100000 in
set_option maxHeartbeats 2000000 in
theorem rk_111 (sc L R2 PL LF U NU ho U3 q pa : ByteArray) (d : Nat) (P : Int) (DS : ByteArray) (hL : ¬ (L.size : Int) < 2) (s2 : ∀ W, (Instr.slice 9 (.string L) none (some (.int .i64 2)) none).run Tryz.prog W = .ok (.string ⟨#[47, 47]⟩) W) (s3 : ∀ W, (Instr.slice 9 (.string L) (some (.int .i64 2)) none none).run Tryz.prog W = .ok (.string R2) W) (C1 : Hid (∀ W, Calls Tryz.prog 21 #[.string R2, .string ⟨#[47, 63]⟩] W fun e w' => e = .returned (.tuple #[.string PL, .string LF]) ∧ Below W.heap.size W w')) (C2 : Hid (∀ W, Calls Tryz.prog 21 #[.string PL, .string ⟨#[58]⟩] W fun e w' => e = .returned (.tuple #[.string U, .string NU]) ∧ Below W.heap.size W w')) (C3 : Hid (∀ W, Calls Tryz.prog 23 #[.string U] W fun e w' => e = .returned (.string ho) ∧ Below W.heap.size W w')) (gn : NU.toList.isEmpty = false) (s4 : ∀ W, (Instr.slice 9 (.string NU) (some (.int .i64 1)) none none).run Tryz.prog W = .ok (.string DS) W) (C4 : Hid (∀ W, Calls Tryz.prog 43 #[.string DS] W fun e w' => e = .returned (.int .i64 P) ∧ w' = W)) (CD : Hid (∀ W, Calls Tryz.prog 24 #[.string sc] W fun e w' => e = .returned (.int .i64 (d : Int)) ∧ w' = W)) (ge : ((P : Int) == (d : Int)) = true) (C5 : Hid (∀ W, Calls Tryz.prog 21 #[.string LF, .string ⟨#[63]⟩] W fun e w' => e = .returned (.tuple #[.string U3, .string q]) ∧ Below W.heap.size W w')) (gp : U3.toList.isEmpty = true) (C6 : Hid (∀ W, Calls Tryz.prog 44 #[.string ⟨#[47]⟩] W fun e w' => e = .returned (.string pa) ∧ Below W.heap.size W w')) (w : World) : Calls Tryz.prog 25 #[.string sc, .string L] w fun e w' => e = .returned (uV false sc ho 0 pa q) ∧ Below w.heap.size w w' := by
  have x1 : BX ((w.alloc (.cells #[.bool false, .string ⟨#[]⟩, .string ⟨#[]⟩, .int .i64 0, .string ⟨#[]⟩, .string ⟨#[]⟩] 23)).alloc (.cells #[.bool false, .string sc, .string ⟨#[]⟩, .int .i64 0, .string ⟨#[]⟩, .string ⟨#[]⟩] 23)) w.heap.size false ⟨#[]⟩ ⟨#[]⟩ 0 ⟨#[]⟩ ⟨#[]⟩ := (BX.made w false ⟨#[]⟩ ⟨#[]⟩ 0 ⟨#[]⟩ ⟨#[]⟩).below ((Below.refl _ _).alloc (Nat.le_refl _) _)
  have y1 : BX ((w.alloc (.cells #[.bool false, .string ⟨#[]⟩, .string ⟨#[]⟩, .int .i64 0, .string ⟨#[]⟩, .string ⟨#[]⟩] 23)).alloc (.cells #[.bool false, .string sc, .string ⟨#[]⟩, .int .i64 0, .string ⟨#[]⟩, .string ⟨#[]⟩] 23)) (w.heap.size + 1) false sc ⟨#[]⟩ 0 ⟨#[]⟩ ⟨#[]⟩ := by
    have e := BX.made (w.alloc (.cells #[.bool false, .string ⟨#[]⟩, .string ⟨#[]⟩, .int .i64 0, .string ⟨#[]⟩, .string ⟨#[]⟩] 23)) false sc ⟨#[]⟩ 0 ⟨#[]⟩ ⟨#[]⟩
    have e2 : (w.alloc (.cells #[.bool false, .string ⟨#[]⟩, .string ⟨#[]⟩, .int .i64 0, .string ⟨#[]⟩, .string ⟨#[]⟩] 23)).heap.size = w.heap.size + 1 := Array.size_push _
    rw [e2] at e; exact e
  have B1 : Below w.heap.size w ((w.alloc (.cells #[.bool false, .string ⟨#[]⟩, .string ⟨#[]⟩, .int .i64 0, .string ⟨#[]⟩, .string ⟨#[]⟩] 23)).alloc (.cells #[.bool false, .string sc, .string ⟨#[]⟩, .int .i64 0, .string ⟨#[]⟩, .string ⟨#[]⟩] 23)) := ((Below.refl _ _).alloc (Nat.le_refl _) _).trans (((Below.refl _ _).alloc (Nat.le_refl _) _).mono ((Below.refl w.heap.size w).alloc (Nat.le_refl _) _).size)
  have hRQ : w.heap.size ≤ w.heap.size + 1 := Nat.le_succ _
  have hQR : w.heap.size + 1 ≠ w.heap.size := by omega
  have HX := Lib.hid (And.intro x1 (And.intro y1 (And.intro B1 (And.intro hRQ hQR))))
  clear x1 y1 B1 hRQ hQR
  go_enter Tryz.func25, Tryz.ntmps25
  go_wp2_with fail
  obtain ⟨x1, y1, B1, hRQ, hQR⟩ := HX.out
  clear HX s2 s3
  generalize w.heap.size + 1 = Q at y1 hRQ hQR ⊢
  generalize hR : w.heap.size = R at x1 B1 hRQ hQR ⊢
  have HR := Lib.hid hR
  clear hR
  generalize (w.alloc (.cells #[.bool false, .string ⟨#[]⟩, .string ⟨#[]⟩, .int .i64 0, .string ⟨#[]⟩, .string ⟨#[]⟩] 23)).alloc (.cells #[.bool false, .string sc, .string ⟨#[]⟩, .int .i64 0, .string ⟨#[]⟩, .string ⟨#[]⟩] 23) = w1 at x1 y1 B1 ⊢
  refine (C1.out _).mono ?_
  rintro e w2 ⟨rfl, b2⟩
  have x2 := x1.below b2
  have y2 := y1.below b2
  have B2 := B1.trans (b2.mono (Nat.le_of_lt x1.lt))
  clear b2 x1 y1 B1
  go_wp2_with fail
  refine (C2.out _).mono ?_
  rintro e w3 ⟨rfl, b3⟩
  have x3 := x2.below b3
  have y3 := y2.below b3
  have B3 := B2.trans (b3.mono (Nat.le_of_lt x2.lt))
  clear b3 x2 y2 B2
  go_wp2_with fail
  refine (C3.out _).mono ?_
  rintro e w4 ⟨rfl, b4⟩
  have x4 := x3.below b4
  have y4 := y3.below b4
  have B4 := B3.trans (b4.mono (Nat.le_of_lt x3.lt))
  clear b4 x3 y3 B3
  have cj := y4.c2
  have fj := open_of y4 2
  have X5 : Aside (BX (w4.setCell ⟨Q, 2, none⟩ (.string ho)) R false ⟨#[]⟩ ⟨#[]⟩ 0 ⟨#[]⟩ ⟨#[]⟩ ∧ BX (w4.setCell ⟨Q, 2, none⟩ (.string ho)) Q false sc ho 0 ⟨#[]⟩ ⟨#[]⟩ ∧ Below R w (w4.setCell ⟨Q, 2, none⟩ (.string ho))) := ⟨x4.other hQR 2 _, y4.set2 _, B4.setCell (p := ⟨Q, 2, none⟩) hRQ _⟩
  go_wp2_with fail
  generalize hw5 : w4.setCell ⟨Q, 2, none⟩ (.string ho) = w5 at X5 ⊢
  obtain ⟨x5, y5, B5⟩ := X5.out
  clear X5 hw5 x4 y4 B4 cj fj
  refine (C4.out _).mono ?_
  rintro e w5 ⟨rfl, rfl⟩
  have cj := y5.c3
  have fj := open_of y5 3
  have X6 : Aside (BX (w5.setCell ⟨Q, 3, none⟩ (.int .i64 P)) R false ⟨#[]⟩ ⟨#[]⟩ 0 ⟨#[]⟩ ⟨#[]⟩ ∧ BX (w5.setCell ⟨Q, 3, none⟩ (.int .i64 P)) Q false sc ho P ⟨#[]⟩ ⟨#[]⟩ ∧ Below R w (w5.setCell ⟨Q, 3, none⟩ (.int .i64 P))) := ⟨x5.other hQR 3 _, y5.set3 _, B5.setCell (p := ⟨Q, 3, none⟩) hRQ _⟩
  go_wp2_with fail
  generalize hw6 : w5.setCell ⟨Q, 3, none⟩ (.int .i64 P) = w6 at X6 ⊢
  obtain ⟨x6, y6, B6⟩ := X6.out
  clear X6 hw6 x5 y5 B5 cj fj
  have c3 := y6.c3
  have f3 := open_of y6 3
  go_quiet ((go_at_call 24; exact Calls.quiet_of_same (CD.out _)))
  have xd : BX (w6.drewN nq) R false ⟨#[]⟩ ⟨#[]⟩ 0 ⟨#[]⟩ ⟨#[]⟩ := x6
  have yd : BX (w6.drewN nq) Q false sc ho P ⟨#[]⟩ ⟨#[]⟩ := y6
  have Bd : Below R w (w6.drewN nq) := belowN B6 nq
  generalize w6.drewN nq = w7 at xd yd Bd ⊢
  clear c3 f3 x6 y6 B6
  have x7 := xd
  have y7 := yd
  have B7 := Bd
  clear xd yd Bd
  have cj := y7.c3
  have fj := open_of y7 3
  have X8 : Aside (BX (w7.setCell ⟨Q, 3, none⟩ (.int .i64 0)) R false ⟨#[]⟩ ⟨#[]⟩ 0 ⟨#[]⟩ ⟨#[]⟩ ∧ BX (w7.setCell ⟨Q, 3, none⟩ (.int .i64 0)) Q false sc ho 0 ⟨#[]⟩ ⟨#[]⟩ ∧ Below R w (w7.setCell ⟨Q, 3, none⟩ (.int .i64 0))) := ⟨x7.other hQR 3 _, y7.set3 _, B7.setCell (p := ⟨Q, 3, none⟩) hRQ _⟩
  go_wp2_with fail
  generalize hw8 : w7.setCell ⟨Q, 3, none⟩ (.int .i64 0) = w8 at X8 ⊢
  obtain ⟨x8, y8, B8⟩ := X8.out
  clear X8 hw8 x7 y7 B7 cj fj
  refine (C5.out _).mono ?_
  rintro e w9 ⟨rfl, b9⟩
  have x9 := x8.below b9
  have y9 := y8.below b9
  have B9 := B8.trans (b9.mono (Nat.le_of_lt x8.lt))
  clear b9 x8 y8 B8
  go_wp2_with fail
  refine (C6.out _).mono ?_
  rintro e w10 ⟨rfl, b10⟩
  have x10 := x9.below b10
  have y10 := y9.below b10
  have B10 := B9.trans (b10.mono (Nat.le_of_lt x9.lt))
  clear b10 x9 y9 B9
  have cj4 := y10.c4
  have fj4 := open_of y10 4
  have X11 : Aside (BX (w10.setCell ⟨Q, 4, none⟩ (.string pa)) R false ⟨#[]⟩ ⟨#[]⟩ 0 ⟨#[]⟩ ⟨#[]⟩ ∧ BX (w10.setCell ⟨Q, 4, none⟩ (.string pa)) Q false sc ho 0 pa ⟨#[]⟩ ∧ Below R w (w10.setCell ⟨Q, 4, none⟩ (.string pa))) := ⟨x10.other hQR 4 _, y10.set4 _, B10.setCell (p := ⟨Q, 4, none⟩) hRQ _⟩
  obtain ⟨x11, y11, B11⟩ := X11.out
  clear X11
  have cj5 := y11.c5
  have fj5 := open_of y11 5
  have x12 := x11.other hQR 5 (.string q)
  have y12 := y11.set5 q
  have B12 := B11.setCell (p := ⟨Q, 5, none⟩) hRQ (.string q)
  have k0 := y12.c0
  have k1 := y12.c1
  have k2 := y12.c2
  have k3 := y12.c3
  have k4 := y12.c4
  have k5 := y12.c5
  have r0 := x12.c0
  have h0 := open_of x12 0
  have r1 := x12.c1
  have h1 := open_of x12 1
  have r2 := x12.c2
  have h2 := open_of x12 2
  have r3 := x12.c3
  have h3 := open_of x12 3
  have r4 := x12.c4
  have h4 := open_of x12 4
  have r5 := x12.c5
  have h5 := open_of x12 5
  have xz := BX.store x12 false sc ho 0 pa q
  have yz := stU_below B12 false sc ho 0 pa q
  go_wp2
  clear r0 h0 r1 h1 r2 h2 r3 h3 r4 h4 r5 h5 k0 k1 k2 k3 k4 k5 cj4 fj4 cj5 fj5
  unfold stU at xz yz
  generalize ((((((((w10.setCell ⟨Q, 4, none⟩ (.string pa)).setCell ⟨Q, 5, none⟩ (.string q)).setCell ⟨R, 0, none⟩ (.bool false)).setCell ⟨R, 1, none⟩ (.string sc)).setCell ⟨R, 2, none⟩ (.string ho)).setCell ⟨R, 3, none⟩ (.int .i64 0)).setCell ⟨R, 4, none⟩ (.string pa)).setCell ⟨R, 5, none⟩ (.string q)) = wz at xz yz ⊢
  have c0 := xz.c0
  have c1 := xz.c1
  have c2 := xz.c2
  have c3 := xz.c3
  have c4 := xz.c4
  have c5 := xz.c5
  exact bodyPost_ret (v := uV false sc ho 0 pa q) (by simp [results, Tryz.results25, go_sem, uV, c0, c1, c2, c3, c4, c5]) rfl ⟨rfl, by first | exact yz | (rw [HR.out]; exact yz)⟩


theorem refRanked_hid (sc L L4 ho pa1 pa q : ByteArray) (d : Nat) (hd : dfl sc.data.toList = d) (hd0 : d ≠ 0) (hsl : [47, 47].isPrefixOf L.data.toList = true) (hL4 : L4.data.toList = L.data.toList.drop 2) (hho : ho.data.toList = low (upto (isC 58) (upto isE L4.data.toList)))
    (P : Int) (hnum : (past (isC 58) (upto isE L4.data.toList) = [] ∧ P = 0) ∨ ∃ c ds, past (isC 58) (upto isE L4.data.toList) = c :: ds ∧ prt ds = P) (pr : Int) (hpr : pr = if P = (d : Int) then 0 else P)
    (hpa1 : pa1.data.toList = if upto (isC 63) (past isE L4.data.toList) = [] then [47] else upto (isC 63) (past isE L4.data.toList)) (hpa : pa.data.toList = cleanP pa1.data.toList) (hq : q.data.toList = past (isC 63) (past isE L4.data.toList)) (hLs : L.size ≤ 100000) :
    Hid (∀ W, Calls Tryz.prog 25 #[.string sc, .string L] W fun e w' => e = .returned (uV false sc ho pr pa q) ∧ Below W.heap.size W w') := Lib.hid fun W => by
  rw [List.isPrefixOf_iff_prefix] at hsl
  obtain ⟨r, hr⟩ := hsl
  have hsz : 2 ≤ L.size := by rw [← lsize, ← hr]; simp
  have hL : ¬ (L.size : Int) < 2 := by omega
  have s2 := slice_to L ⟨#[47, 47]⟩ 2 hsz (by rw [← hr]; rfl)
  have s3 := slice_from L L4 2 hsz hL4
  have z4 : L4.size ≤ L.size := by rw [← lsize L4, ← lsize L, hL4, List.length_drop]; omega
  obtain ⟨PL, hPL⟩ := text_of (upto isE L4.data.toList)
  obtain ⟨LF, hLF⟩ := text_of (past isE L4.data.toList)
  have z5 := upto_length isE L4.data.toList
  rw [← hPL, ← hLF, lsize, lsize, lsize] at z5
  have C1 := cut2_hid L4 PL LF hPL hLF (by omega)
  rw [← hPL] at hho hnum
  rw [← hLF] at hpa1 hq
  obtain ⟨U, hU⟩ := text_of (upto (isC 58) PL.data.toList)
  obtain ⟨NU, hNU⟩ := text_of (past (isC 58) PL.data.toList)
  have z6 := upto_length (isC 58) PL.data.toList
  rw [← hU, ← hNU, lsize, lsize, lsize] at z6
  have C2 := cut1_hid 58 PL U NU hU hNU (by omega)
  rw [← hU] at hho
  rw [← hNU] at hnum
  have C3 := refLower_hid U ho hho (by omega)
  have CD := refDefault_hid sc d hd
  obtain ⟨U3, hU3⟩ := text_of (upto (isC 63) LF.data.toList)
  have z7 := upto_length (isC 63) LF.data.toList
  rw [← hU3, lsize, lsize] at z7
  have C5 := cut1_hid 63 LF U3 q hU3 hq (by omega)
  rw [← hU3] at hpa1
  have hbr : (U3.toList.isEmpty = true ∧ pa1 = ⟨#[47]⟩) ∨ (U3.toList.isEmpty = false ∧ pa1 = U3) := by
    by_cases h0 : U3.data.toList = []
    · rw [if_pos h0] at hpa1
      exact .inl ⟨by rw [text_empty, h0]; rfl, text_is hpa1⟩
    · rw [if_neg h0] at hpa1
      refine .inr ⟨?_, (text_is hpa1).trans (text_is rfl).symm⟩
      rw [text_empty]
      cases hh : U3.data.toList with
      | nil => exact absurd hh h0
      | cons => rfl
  have C6 := refClean_hid pa1 (by
    rcases hbr with ⟨_, rfl⟩ | ⟨_, rfl⟩
    · exact (by decide : 1 ≤ 1000000)
    · omega) pa hpa
  rcases hnum with ⟨h1, rfl⟩ | ⟨c, ds, h1, h2⟩
  · have gn : NU.toList.isEmpty = true := by rw [text_empty, h1]; rfl
    have ge : ((0 : Int) == (d : Int)) = false := by rw [beq_eq_false_iff_ne]; omega
    have e0 : pr = 0 := by rw [hpr]; split <;> rfl
    rw [e0]
    rcases hbr with ⟨gp, rfl⟩ | ⟨gp, rfl⟩
    · exact rk_001 sc L L4 PL LF U NU ho U3 q pa d 0 L hL s2 s3 C1 C2 C3 gn CD ge C5 gp C6 W
    · exact rk_000 sc L L4 PL LF U NU ho pa1 q pa d 0 L hL s2 s3 C1 C2 C3 gn CD ge C5 gp C6 W
  · obtain ⟨DS, hDS⟩ := text_of ds
    have gn : NU.toList.isEmpty = false := by rw [text_empty, h1]; rfl
    have z8 : 1 ≤ NU.size := by rw [← lsize, h1]; simp
    have z9 : DS.size ≤ NU.size := by rw [← lsize DS, ← lsize NU, hDS, h1]; simp
    have s4 := slice_from NU DS 1 z8 (by rw [h1, hDS]; rfl)
    have C4 := port_hid DS P (by rw [hDS]; exact h2) (by omega)
    by_cases he : P = (d : Int)
    · have ge : (P == (d : Int)) = true := by rw [beq_iff_eq]; exact he
      rw [hpr, if_pos he]
      rcases hbr with ⟨gp, rfl⟩ | ⟨gp, rfl⟩
      · exact rk_111 sc L L4 PL LF U NU ho U3 q pa d P DS hL s2 s3 C1 C2 C3 gn s4 C4 CD ge C5 gp C6 W
      · exact rk_110 sc L L4 PL LF U NU ho pa1 q pa d P DS hL s2 s3 C1 C2 C3 gn s4 C4 CD ge C5 gp C6 W
    · have ge : (P == (d : Int)) = false := by rw [beq_eq_false_iff_ne]; exact he
      rw [hpr, if_neg he]
      rcases hbr with ⟨gp, rfl⟩ | ⟨gp, rfl⟩
      · exact rk_101 sc L L4 PL LF U NU ho U3 q pa d P DS hL s2 s3 C1 C2 C3 gn s4 C4 CD ge C5 gp C6 W
      · exact rk_100 sc L L4 PL LF U NU ho pa1 q pa d P DS hL s2 s3 C1 C2 C3 gn s4 C4 CD ge C5 gp C6 W

end Go.Proofs.YteoeppmigngkeaaGreatDoor
