/- Print's answer, the document's; the walk of what an address prints as. -/
import Derived.Test.YteoeppmigngkeaaGreatDoorRefD
namespace Go.Proofs.YteoeppmigngkeaaGreatDoor
open Go.RowKit

set_option maxRecDepth 100000 in
set_option maxHeartbeats 1000000 in
theorem refPrint_wrong (o : Bool) (s h : ByteArray) (p : Int) (pa q : ByteArray) (hs : s.size ≤ 100000) (hh : h.size ≤ 100000) (hpa : pa.size ≤ 100000) (hq : q.size ≤ 100000) (hr : rightM (uM o s h p pa q) = false) (w : World) : Calls Tryz.prog 10 #[uV o s h p pa q] w fun e w' => e = .returned (.tuple #[.string ⟨#[]⟩, .int .i64 50]) ∧ Below w.heap.size w w' := by
    have CR := refRight_hid o s h p pa q false hr hs hh hpa hq
    clear hr hs hh hpa hq
    unfold uV at *
    go_enter Tryz.func10, Tryz.ntmps10
    go_wp2_with fail
    have x1 := BX.made w o s h p pa q
    have B1 : Below w.heap.size w (w.alloc (.cells #[.bool o, .string s, .string h, .int .i64 p, .string pa, .string q] 23)) := (Below.refl _ _).alloc (Nat.le_refl _) _
    generalize hR : w.heap.size = R at x1 B1 ⊢
    have HR := Lib.hid hR
    clear hR
    generalize w.alloc (.cells #[.bool o, .string s, .string h, .int .i64 p, .string pa, .string q] 23) = w1 at x1 B1 ⊢
    refine (CR.out _).mono ?_
    rintro e w2 ⟨rfl, b2⟩
    have x2 := x1.below b2
    have B2 := B1.trans (b2.mono (Nat.le_of_lt x1.lt))
    clear b2 x1 B1
    try clear c0 c1 c2 c3 c4 c5
    have c0 := x2.c0
    have c1 := x2.c1
    have c2 := x2.c2
    have c3 := x2.c3
    have c4 := x2.c4
    have c5 := x2.c5
    go_wp2
    go_ret2
    exact ⟨rfl, by rw [HR.out]; exact B2⟩

set_option maxRecDepth 100000 in
set_option maxHeartbeats 1000000 in
theorem refPrint_right (o : Bool) (s h : ByteArray) (p : Int) (pa q : ByteArray) (hs : s.size ≤ 100000) (hh : h.size ≤ 100000) (hpa : pa.size ≤ 100000) (hq : q.size ≤ 100000) (hr : rightM (uM o s h p pa q) = true) (T : ByteArray) (hT : T.data.toList = textM (uM o s h p pa q)) (w : World) : Calls Tryz.prog 10 #[uV o s h p pa q] w fun e w' => e = .returned (.tuple #[.string T, .int .i64 0]) ∧ Below w.heap.size w w' := by
    have CR := refRight_hid o s h p pa q true hr hs hh hpa hq
    have CT := refText_hid o s h p pa q hs hh hpa hq (right_port hr) T hT
    clear hr hs hh hpa hq hT
    unfold uV at *
    go_enter Tryz.func10, Tryz.ntmps10
    go_wp2_with fail
    have x1 := BX.made w o s h p pa q
    have B1 : Below w.heap.size w (w.alloc (.cells #[.bool o, .string s, .string h, .int .i64 p, .string pa, .string q] 23)) := (Below.refl _ _).alloc (Nat.le_refl _) _
    generalize hR : w.heap.size = R at x1 B1 ⊢
    have HR := Lib.hid hR
    clear hR
    generalize w.alloc (.cells #[.bool o, .string s, .string h, .int .i64 p, .string pa, .string q] 23) = w1 at x1 B1 ⊢
    refine (CR.out _).mono ?_
    rintro e w2 ⟨rfl, b2⟩
    have x2 := x1.below b2
    have B2 := B1.trans (b2.mono (Nat.le_of_lt x1.lt))
    clear b2 x1 B1
    try clear c0 c1 c2 c3 c4 c5
    have c0 := x2.c0
    have c1 := x2.c1
    have c2 := x2.c2
    have c3 := x2.c3
    have c4 := x2.c4
    have c5 := x2.c5
    go_wp2_with fail
    refine (CT.out _).mono ?_
    rintro e w3 ⟨rfl, b3⟩
    have x3 := x2.below b3
    have B3 := B2.trans (b3.mono (Nat.le_of_lt x2.lt))
    clear b3 x2 B2
    try clear c0 c1 c2 c3 c4 c5
    have c0 := x3.c0
    have c1 := x3.c1
    have c2 := x3.c2
    have c3 := x3.c3
    have c4 := x3.c4
    have c5 := x3.c5
    go_wp2
    go_ret2
    exact ⟨rfl, by rw [HR.out]; exact B3⟩
theorem refPrint_hid (o : Bool) (s h : ByteArray) (p : Int) (pa q : ByteArray) (hs : s.size ≤ 100000) (hh : h.size ≤ 100000) (hpa : pa.size ≤ 100000) (hq : q.size ≤ 100000) (T : ByteArray) (hT : T.data.toList = if rightM (uM o s h p pa q) then textM (uM o s h p pa q) else []) (n : Int) (hn : chk (uM o s h p pa q) = n) : Hid (∀ W, Calls Tryz.prog 10 #[uV o s h p pa q] W fun e w' => e = .returned (.tuple #[.string T, .int .i64 n]) ∧ Below W.heap.size W w') := Lib.hid fun W => by
  cases hr : rightM (uM o s h p pa q)
  · rw [hr] at hT
    obtain rfl : T = ⟨#[]⟩ := text_is hT
    rw [← hn, chk_wrong hr]
    exact refPrint_wrong o s h p pa q hs hh hpa hq hr W
  · rw [hr] at hT
    rw [← hn, chk_right hr]
    exact refPrint_right o s h p pa q hs hh hpa hq hr T hT W


set_option maxRecDepth 100000 in
set_option maxHeartbeats 4000000 in
theorem prints_true (o : Bool) (s h : ByteArray) (p : Int) (pa q : ByteArray) (T : ByteArray) (CB : Hid (∀ W, Calls Tryz.prog 8 #[uV o s h p pa q] W fun e w' => e = .returned (.bool false) ∧ Below W.heap.size W w')) (CP : Hid (∀ W, MaxIn W → TabIn W → Calls Tryz.prog 9 #[uV o s h p pa q] W fun e w' => e = .returned (.tuple #[.string T, .int .i64 0]) ∧ Below W.heap.size W w'))
    (CQ : Hid (∀ W, Calls Tryz.prog 10 #[uV o s h p pa q] W fun e w' => e = .returned (.tuple #[.string T, .int .i64 0]) ∧ Below W.heap.size W w')) (CC : Hid (∀ W, MaxIn W → TabIn W → Calls Tryz.prog 11 #[uV o s h p pa q] W fun e w' => e = .returned (.int .i64 0) ∧ Below W.heap.size W w'))
    (CR : Hid (∀ W, Calls Tryz.prog 12 #[uV o s h p pa q] W fun e w' => e = .returned (.bool true) ∧ Below W.heap.size W w')) (w : World) (hm : MaxIn w) (ht : TabIn w) : Calls Tryz.prog 4 #[uV o s h p pa q] w fun e w' => e = .returned (.bool true) ∧ Below w.heap.size w w' := by
    have hTT : (T.toList == T.toList) = true := by rw [beq_iff_eq]
    unfold uV at *
    go_enter Tryz.func4, Tryz.ntmps4
    go_wp2_with fail
    have x1 := BX.made w o s h p pa q
    have m1 := hm.made (.cells #[.bool o, .string s, .string h, .int .i64 p, .string pa, .string q] 23)
    have t1 := ht.made (.cells #[.bool o, .string s, .string h, .int .i64 p, .string pa, .string q] 23)
    have B1 : Below w.heap.size w (w.alloc (.cells #[.bool o, .string s, .string h, .int .i64 p, .string pa, .string q] 23)) := (Below.refl _ _).alloc (Nat.le_refl _) _
    generalize hR : w.heap.size = R at x1 B1 ⊢
    have HR := Lib.hid hR
    clear hR
    generalize w.alloc (.cells #[.bool o, .string s, .string h, .int .i64 p, .string pa, .string q] 23) = w1 at x1 B1 m1 t1 ⊢
    refine (CB.out _).mono ?_
    rintro e w2 ⟨rfl, b2⟩
    have x2 := x1.below b2
    have m2 := m1.below b2
    have t2 := t1.below b2
    have B2 := B1.trans (b2.mono (Nat.le_of_lt x1.lt))
    clear b2 x1 B1 m1 t1
    try clear c0 c1 c2 c3 c4 c5
    have c0 := x2.c0
    have c1 := x2.c1
    have c2 := x2.c2
    have c3 := x2.c3
    have c4 := x2.c4
    have c5 := x2.c5
    go_wp2_with fail
    refine (CP.out _ m2 t2).mono ?_
    rintro e w3 ⟨rfl, b3⟩
    have x3 := x2.below b3
    have m3 := m2.below b3
    have t3 := t2.below b3
    have B3 := B2.trans (b3.mono (Nat.le_of_lt x2.lt))
    clear b3 x2 B2 m2 t2
    try clear c0 c1 c2 c3 c4 c5
    have c0 := x3.c0
    have c1 := x3.c1
    have c2 := x3.c2
    have c3 := x3.c3
    have c4 := x3.c4
    have c5 := x3.c5
    go_wp2_with fail
    refine (CQ.out _).mono ?_
    rintro e w4 ⟨rfl, b4⟩
    have x4 := x3.below b4
    have m4 := m3.below b4
    have t4 := t3.below b4
    have B4 := B3.trans (b4.mono (Nat.le_of_lt x3.lt))
    clear b4 x3 B3 m3 t3
    try clear c0 c1 c2 c3 c4 c5
    have c0 := x4.c0
    have c1 := x4.c1
    have c2 := x4.c2
    have c3 := x4.c3
    have c4 := x4.c4
    have c5 := x4.c5
    clear c0 c1 c2 c3 c4 c5
    go_wp2
    have K1 : w4.drew.cell? ⟨R, 0, none⟩ = some (.bool o) ∧ w4.drew.cell? ⟨R, 1, none⟩ = some (.string s) ∧ w4.drew.cell? ⟨R, 2, none⟩ = some (.string h) ∧ w4.drew.cell? ⟨R, 3, none⟩ = some (.int .i64 p) ∧ w4.drew.cell? ⟨R, 4, none⟩ = some (.string pa) ∧ w4.drew.cell? ⟨R, 5, none⟩ = some (.string q) ∧ Below R w w4.drew := ⟨x4.c0, x4.c1, x4.c2, x4.c3, x4.c4, x4.c5, B4.drew⟩
    have keepL : Hid (∀ w7 : World, (w7.cell? ⟨R, 0, none⟩ = some (.bool o) ∧ w7.cell? ⟨R, 1, none⟩ = some (.string s) ∧ w7.cell? ⟨R, 2, none⟩ = some (.string h) ∧ w7.cell? ⟨R, 3, none⟩ = some (.int .i64 p) ∧ w7.cell? ⟨R, 4, none⟩ = some (.string pa) ∧ w7.cell? ⟨R, 5, none⟩ = some (.string q) ∧ Below R w w7) → ∀ w9, Below w7.heap.size w7 w9 → (w9.cell? ⟨R, 0, none⟩ = some (.bool o) ∧ w9.cell? ⟨R, 1, none⟩ = some (.string s) ∧ w9.cell? ⟨R, 2, none⟩ = some (.string h) ∧ w9.cell? ⟨R, 3, none⟩ = some (.int .i64 p) ∧ w9.cell? ⟨R, 4, none⟩ = some (.string pa) ∧ w9.cell? ⟨R, 5, none⟩ = some (.string q) ∧ Below R w w9)) := Lib.hid fun w7 k w9 b => by
      obtain ⟨d0, d1, d2, d3, d4, d5, K⟩ := k
      exact ⟨by rw [b.cell (lt_of_cell d0)]; exact d0, by rw [b.cell (lt_of_cell d1)]; exact d1, by rw [b.cell (lt_of_cell d2)]; exact d2, by rw [b.cell (lt_of_cell d3)]; exact d3, by rw [b.cell (lt_of_cell d4)]; exact d4, by rw [b.cell (lt_of_cell d5)]; exact d5, K.trans (b.mono (Nat.le_of_lt (lt_of_cell d0)))⟩
    have HK1 := Lib.hid K1
    have m4d : MaxIn w4.drew := m4
    have t4d : TabIn w4.drew := t4
    go_region_held3 (fun w' => w'.cell? ⟨R, 0, none⟩ = some (.bool o) ∧ w'.cell? ⟨R, 1, none⟩ = some (.string s) ∧ w'.cell? ⟨R, 2, none⟩ = some (.string h) ∧ w'.cell? ⟨R, 3, none⟩ = some (.int .i64 p) ∧ w'.cell? ⟨R, 4, none⟩ = some (.string pa) ∧ w'.cell? ⟨R, 5, none⟩ = some (.string q) ∧ Below R w w') (first | exact K1 | exact K5 | exact K6 | exact K7 | exact K8)
      (first
        | (go_at_call 7; (with_reducible refine (parses_any _ m4d t4d).mono ?_); rintro e w5 ⟨rfl, b5⟩
           have K5 := keepL.out _ HK1.out _ b5
           have HK5 := Lib.hid K5
           have m5 := m4d.below b5
           have t5 := t4d.below b5
           clear b5)
        | (go_at_call 11; (with_reducible refine (CC.out _ m5 t5).mono ?_); rintro e w6 ⟨rfl, b6⟩
           have K6 := keepL.out _ HK5.out _ b6
           have HK6 := Lib.hid K6
           have m6 := m5.below b6
           have t6 := t5.below b6
           clear b6)
        | (go_at_call 12; (with_reducible refine (CR.out _).mono ?_); rintro e w7 ⟨rfl, b7⟩
           have K7 := keepL.out _ HK6.out _ b7
           have HK7 := Lib.hid K7
           have m7 := m6.below b7
           have t7 := t6.below b7
           clear b7)
        | (go_at_call 11; (with_reducible refine (CC.out _ m7 t7).mono ?_); rintro e w8 ⟨rfl, b8⟩
           have K8 := keepL.out _ HK7.out _ b8
           clear b8))
    all_goals go_wp2
    all_goals go_ret
    all_goals exact ⟨rfl, by rw [HR.out]; first | exact K8.2.2.2.2.2.2 | exact K7.2.2.2.2.2.2⟩

set_option maxRecDepth 100000 in
set_option maxHeartbeats 4000000 in
theorem prints_false (o : Bool) (s h : ByteArray) (p : Int) (pa q : ByteArray) (T : ByteArray) (CB : Hid (∀ W, Calls Tryz.prog 8 #[uV o s h p pa q] W fun e w' => e = .returned (.bool false) ∧ Below W.heap.size W w')) (CP : Hid (∀ W, MaxIn W → TabIn W → Calls Tryz.prog 9 #[uV o s h p pa q] W fun e w' => e = .returned (.tuple #[.string T, .int .i64 50]) ∧ Below W.heap.size W w'))
    (CQ : Hid (∀ W, Calls Tryz.prog 10 #[uV o s h p pa q] W fun e w' => e = .returned (.tuple #[.string T, .int .i64 50]) ∧ Below W.heap.size W w')) (CC : Hid (∀ W, MaxIn W → TabIn W → Calls Tryz.prog 11 #[uV o s h p pa q] W fun e w' => e = .returned (.int .i64 50) ∧ Below W.heap.size W w'))
    (CR : Hid (∀ W, Calls Tryz.prog 12 #[uV o s h p pa q] W fun e w' => e = .returned (.bool false) ∧ Below W.heap.size W w')) (w : World) (hm : MaxIn w) (ht : TabIn w) : Calls Tryz.prog 4 #[uV o s h p pa q] w fun e w' => e = .returned (.bool true) ∧ Below w.heap.size w w' := by
    have hTT : (T.toList == T.toList) = true := by rw [beq_iff_eq]
    unfold uV at *
    go_enter Tryz.func4, Tryz.ntmps4
    go_wp2_with fail
    have x1 := BX.made w o s h p pa q
    have m1 := hm.made (.cells #[.bool o, .string s, .string h, .int .i64 p, .string pa, .string q] 23)
    have t1 := ht.made (.cells #[.bool o, .string s, .string h, .int .i64 p, .string pa, .string q] 23)
    have B1 : Below w.heap.size w (w.alloc (.cells #[.bool o, .string s, .string h, .int .i64 p, .string pa, .string q] 23)) := (Below.refl _ _).alloc (Nat.le_refl _) _
    generalize hR : w.heap.size = R at x1 B1 ⊢
    have HR := Lib.hid hR
    clear hR
    generalize w.alloc (.cells #[.bool o, .string s, .string h, .int .i64 p, .string pa, .string q] 23) = w1 at x1 B1 m1 t1 ⊢
    refine (CB.out _).mono ?_
    rintro e w2 ⟨rfl, b2⟩
    have x2 := x1.below b2
    have m2 := m1.below b2
    have t2 := t1.below b2
    have B2 := B1.trans (b2.mono (Nat.le_of_lt x1.lt))
    clear b2 x1 B1 m1 t1
    try clear c0 c1 c2 c3 c4 c5
    have c0 := x2.c0
    have c1 := x2.c1
    have c2 := x2.c2
    have c3 := x2.c3
    have c4 := x2.c4
    have c5 := x2.c5
    go_wp2_with fail
    refine (CP.out _ m2 t2).mono ?_
    rintro e w3 ⟨rfl, b3⟩
    have x3 := x2.below b3
    have m3 := m2.below b3
    have t3 := t2.below b3
    have B3 := B2.trans (b3.mono (Nat.le_of_lt x2.lt))
    clear b3 x2 B2 m2 t2
    try clear c0 c1 c2 c3 c4 c5
    have c0 := x3.c0
    have c1 := x3.c1
    have c2 := x3.c2
    have c3 := x3.c3
    have c4 := x3.c4
    have c5 := x3.c5
    go_wp2_with fail
    refine (CQ.out _).mono ?_
    rintro e w4 ⟨rfl, b4⟩
    have x4 := x3.below b4
    have m4 := m3.below b4
    have t4 := t3.below b4
    have B4 := B3.trans (b4.mono (Nat.le_of_lt x3.lt))
    clear b4 x3 B3 m3 t3
    try clear c0 c1 c2 c3 c4 c5
    have c0 := x4.c0
    have c1 := x4.c1
    have c2 := x4.c2
    have c3 := x4.c3
    have c4 := x4.c4
    have c5 := x4.c5
    clear c0 c1 c2 c3 c4 c5
    go_wp2
    have K1 : w4.drew.cell? ⟨R, 0, none⟩ = some (.bool o) ∧ w4.drew.cell? ⟨R, 1, none⟩ = some (.string s) ∧ w4.drew.cell? ⟨R, 2, none⟩ = some (.string h) ∧ w4.drew.cell? ⟨R, 3, none⟩ = some (.int .i64 p) ∧ w4.drew.cell? ⟨R, 4, none⟩ = some (.string pa) ∧ w4.drew.cell? ⟨R, 5, none⟩ = some (.string q) ∧ Below R w w4.drew := ⟨x4.c0, x4.c1, x4.c2, x4.c3, x4.c4, x4.c5, B4.drew⟩
    have keepL : Hid (∀ w7 : World, (w7.cell? ⟨R, 0, none⟩ = some (.bool o) ∧ w7.cell? ⟨R, 1, none⟩ = some (.string s) ∧ w7.cell? ⟨R, 2, none⟩ = some (.string h) ∧ w7.cell? ⟨R, 3, none⟩ = some (.int .i64 p) ∧ w7.cell? ⟨R, 4, none⟩ = some (.string pa) ∧ w7.cell? ⟨R, 5, none⟩ = some (.string q) ∧ Below R w w7) → ∀ w9, Below w7.heap.size w7 w9 → (w9.cell? ⟨R, 0, none⟩ = some (.bool o) ∧ w9.cell? ⟨R, 1, none⟩ = some (.string s) ∧ w9.cell? ⟨R, 2, none⟩ = some (.string h) ∧ w9.cell? ⟨R, 3, none⟩ = some (.int .i64 p) ∧ w9.cell? ⟨R, 4, none⟩ = some (.string pa) ∧ w9.cell? ⟨R, 5, none⟩ = some (.string q) ∧ Below R w w9)) := Lib.hid fun w7 k w9 b => by
      obtain ⟨d0, d1, d2, d3, d4, d5, K⟩ := k
      exact ⟨by rw [b.cell (lt_of_cell d0)]; exact d0, by rw [b.cell (lt_of_cell d1)]; exact d1, by rw [b.cell (lt_of_cell d2)]; exact d2, by rw [b.cell (lt_of_cell d3)]; exact d3, by rw [b.cell (lt_of_cell d4)]; exact d4, by rw [b.cell (lt_of_cell d5)]; exact d5, K.trans (b.mono (Nat.le_of_lt (lt_of_cell d0)))⟩
    have HK1 := Lib.hid K1
    have m4d : MaxIn w4.drew := m4
    have t4d : TabIn w4.drew := t4
    go_region_held3 (fun w' => w'.cell? ⟨R, 0, none⟩ = some (.bool o) ∧ w'.cell? ⟨R, 1, none⟩ = some (.string s) ∧ w'.cell? ⟨R, 2, none⟩ = some (.string h) ∧ w'.cell? ⟨R, 3, none⟩ = some (.int .i64 p) ∧ w'.cell? ⟨R, 4, none⟩ = some (.string pa) ∧ w'.cell? ⟨R, 5, none⟩ = some (.string q) ∧ Below R w w') (first | exact K1 | exact K5 | exact K6 | exact K7 | exact K8)
      (first
        | (go_at_call 7; (with_reducible refine (parses_any _ m4d t4d).mono ?_); rintro e w5 ⟨rfl, b5⟩
           have K5 := keepL.out _ HK1.out _ b5
           have HK5 := Lib.hid K5
           have m5 := m4d.below b5
           have t5 := t4d.below b5
           clear b5)
        | (go_at_call 11; (with_reducible refine (CC.out _ m5 t5).mono ?_); rintro e w6 ⟨rfl, b6⟩
           have K6 := keepL.out _ HK5.out _ b6
           have HK6 := Lib.hid K6
           have m6 := m5.below b6
           have t6 := t5.below b6
           clear b6)
        | (go_at_call 12; (with_reducible refine (CR.out _).mono ?_); rintro e w7 ⟨rfl, b7⟩
           have K7 := keepL.out _ HK6.out _ b7
           have HK7 := Lib.hid K7
           have m7 := m6.below b7
           have t7 := t6.below b7
           clear b7)
        | (go_at_call 11; (with_reducible refine (CC.out _ m7 t7).mono ?_); rintro e w8 ⟨rfl, b8⟩
           have K8 := keepL.out _ HK7.out _ b8
           clear b8))
    all_goals go_wp2
    all_goals go_ret
    all_goals exact ⟨rfl, by rw [HR.out]; first | exact K8.2.2.2.2.2.2 | exact K7.2.2.2.2.2.2⟩

set_option maxRecDepth 100000 in
set_option maxHeartbeats 1000000 in
theorem prints_big (o : Bool) (s h : ByteArray) (p : Int) (pa q : ByteArray) (CB : Hid (∀ W, Calls Tryz.prog 8 #[uV o s h p pa q] W fun e w' => e = .returned (.bool true) ∧ Below W.heap.size W w')) (w : World) : Calls Tryz.prog 4 #[uV o s h p pa q] w fun e w' => e = .returned (.bool true) ∧ Below w.heap.size w w' := by
    unfold uV at *
    go_enter Tryz.func4, Tryz.ntmps4
    go_wp2_with fail
    have x1 := BX.made w o s h p pa q
    have B1 : Below w.heap.size w (w.alloc (.cells #[.bool o, .string s, .string h, .int .i64 p, .string pa, .string q] 23)) := (Below.refl _ _).alloc (Nat.le_refl _) _
    generalize hR : w.heap.size = R at x1 B1 ⊢
    have HR := Lib.hid hR
    clear hR
    generalize w.alloc (.cells #[.bool o, .string s, .string h, .int .i64 p, .string pa, .string q] 23) = w1 at x1 B1 ⊢
    refine (CB.out _).mono ?_
    rintro e w2 ⟨rfl, b2⟩
    have x2 := x1.below b2
    have B2 := B1.trans (b2.mono (Nat.le_of_lt x1.lt))
    clear b2 x1 B1
    try clear c0 c1 c2 c3 c4 c5
    have c0 := x2.c0
    have c1 := x2.c1
    have c2 := x2.c2
    have c3 := x2.c3
    have c4 := x2.c4
    have c5 := x2.c5
    go_wp2
    go_ret
    exact ⟨rfl, by rw [HR.out]; exact B2⟩

theorem prints_law (o : Bool) (s h : ByteArray) (p : Int) (pa q : ByteArray) (w : World) (hm : MaxIn w) (ht : TabIn w) : Calls Tryz.prog 4 #[uV o s h p pa q] w fun e w' => e = .returned (.bool true) ∧ Below w.heap.size w w' := by
  cases hbg : (decide (2000 < s.size) || decide (2000 < h.size) || decide (2000 < pa.size) || decide (2000 < q.size))
  case true => exact prints_big o s h p pa q (big_hid o s h p pa q true hbg) w
  have CB := big_hid o s h p pa q false hbg
  simp only [Bool.or_eq_false_iff, decide_eq_false_iff_not] at hbg
  obtain ⟨⟨⟨z1, z2⟩, z3⟩, z4⟩ := hbg
  obtain ⟨T, hT⟩ := text_of (if rightM (uM o s h p pa q) then textM (uM o s h p pa q) else [])
  cases hr : rightM (uM o s h p pa q)
  · exact prints_false o s h p pa q T CB (print_hid o s h p pa q (by omega) (by omega) (by omega) (by omega) T hT 50 (chk_wrong hr)) (refPrint_hid o s h p pa q (by omega) (by omega) (by omega) (by omega) T hT 50 (chk_wrong hr)) (check_hid o s h p pa q 50 (chk_wrong hr) (by omega) (by omega) (by omega) (by omega)) (refRight_hid o s h p pa q false hr (by omega) (by omega) (by omega) (by omega)) w hm ht
  · exact prints_true o s h p pa q T CB (print_hid o s h p pa q (by omega) (by omega) (by omega) (by omega) T hT 0 (chk_right hr)) (refPrint_hid o s h p pa q (by omega) (by omega) (by omega) (by omega) T hT 0 (chk_right hr)) (check_hid o s h p pa q 0 (chk_right hr) (by omega) (by omega) (by omega) (by omega)) (refRight_hid o s h p pa q true hr (by omega) (by omega) (by omega) (by omega)) w hm ht

end Go.Proofs.YteoeppmigngkeaaGreatDoor
