/- What plays no part: an address with blanks around. -/
import Derived.Test.YteoeppmigngkeaaDoorLawB
namespace Go.Proofs.YteoeppmigngkeaaDoor
open Go.RowKit

set_option maxRecDepth 100000 in
set_option maxHeartbeats 4000000 in
theorem loose_other (s m : ByteArray) (w : World) (hm : MaxIn w) (ht : TabIn w) (hs : ¬ (3000 : Int) < (s.size : Int)) (hs2 : ¬ (200 : Int) < (m.size : Int)) (Y1 Y2 Y3 Y4 : ByteArray) (a1 : ∀ W, (Op.stringOp .add ⟨#[32, 9]⟩ s).run Tryd.prog W = .ok (.string Y1) W) (a2 : ∀ W, (Op.stringOp .add Y1 ⟨#[10]⟩).run Tryd.prog W = .ok (.string Y2) W) (a3 : ∀ W, (Op.stringOp .add s ⟨#[35]⟩).run Tryd.prog W = .ok (.string Y3) W) (a4 : ∀ W, (Op.stringOp .add Y3 m).run Tryd.prog W = .ok (.string Y4) W) (o : Bool) (sc h : ByteArray) (p : Int) (pa q : ByteArray) (P1 : Hid (PC s o sc h p pa q 0)) (P2 : Hid (PC Y2 o sc h p pa q 0)) (CL1 : Hid (∀ W, Calls Tryd.prog 14 #[.string sc] W fun e w' => e = .returned (.string sc) ∧ Below W.heap.size W w')) (CL2 : Hid (∀ W, Calls Tryd.prog 14 #[.string h] W fun e w' => e = .returned (.string h) ∧ Below W.heap.size W w')) (T : ByteArray) (CT : Hid (∀ W, Calls Tryd.prog 13 #[.string s] W fun e w' => e = .returned (.string T) ∧ Below W.heap.size W w')) (hq : (T.toList == s.toList) = false) (o2 : Bool) (sc2 h2 : ByteArray) (p2 : Int) (pa2 q2 : ByteArray) (n2 : Int) (P3 : Hid (PC Y4 o2 sc2 h2 p2 pa2 q2 n2)) : Calls Tryd.prog 4 #[.string s, .string m] w fun e w' => e = .returned (.bool true) ∧ Below w.heap.size w w' := by
    have e1 : (sc.toList == sc.toList) = true := by rw [beq_iff_eq]
    have e2 : (h.toList == h.toList) = true := by rw [beq_iff_eq]
    have e3 : (pa.toList == pa.toList) = true := by rw [beq_iff_eq]
    have e4 : (q.toList == q.toList) = true := by rw [beq_iff_eq]
    have hpp : (p == p) = true := by rw [beq_iff_eq]
    have keepL : Hid (∀ (Ra Rb : Nat) (w7 : World), (w7.cell? ⟨Ra, 0, none⟩ = some (.bool o) ∧ w7.cell? ⟨Ra, 1, none⟩ = some (.string sc) ∧ w7.cell? ⟨Ra, 2, none⟩ = some (.string h) ∧ w7.cell? ⟨Ra, 3, none⟩ = some (.int .i64 p) ∧ w7.cell? ⟨Ra, 4, none⟩ = some (.string pa) ∧ w7.cell? ⟨Ra, 5, none⟩ = some (.string q) ∧ w7.cell? ⟨Rb, 0, none⟩ = some (.bool o) ∧ w7.cell? ⟨Rb, 1, none⟩ = some (.string sc) ∧ w7.cell? ⟨Rb, 2, none⟩ = some (.string h) ∧ w7.cell? ⟨Rb, 3, none⟩ = some (.int .i64 p) ∧ w7.cell? ⟨Rb, 4, none⟩ = some (.string pa) ∧ w7.cell? ⟨Rb, 5, none⟩ = some (.string q) ∧ Below w.heap.size w w7) → ∀ w9, Below w7.heap.size w7 w9 → (w9.cell? ⟨Ra, 0, none⟩ = some (.bool o) ∧ w9.cell? ⟨Ra, 1, none⟩ = some (.string sc) ∧ w9.cell? ⟨Ra, 2, none⟩ = some (.string h) ∧ w9.cell? ⟨Ra, 3, none⟩ = some (.int .i64 p) ∧ w9.cell? ⟨Ra, 4, none⟩ = some (.string pa) ∧ w9.cell? ⟨Ra, 5, none⟩ = some (.string q) ∧ w9.cell? ⟨Rb, 0, none⟩ = some (.bool o) ∧ w9.cell? ⟨Rb, 1, none⟩ = some (.string sc) ∧ w9.cell? ⟨Rb, 2, none⟩ = some (.string h) ∧ w9.cell? ⟨Rb, 3, none⟩ = some (.int .i64 p) ∧ w9.cell? ⟨Rb, 4, none⟩ = some (.string pa) ∧ w9.cell? ⟨Rb, 5, none⟩ = some (.string q) ∧ Below w.heap.size w w9)) := Lib.hid fun Ra Rb w7 k w9 b => by
      obtain ⟨d0, d1, d2, d3, d4, d5, e0, e1, e2, e3, e4, e5, K⟩ := k
      exact ⟨by rw [b.cell (lt_of_cell d0)]; exact d0, by rw [b.cell (lt_of_cell d1)]; exact d1, by rw [b.cell (lt_of_cell d2)]; exact d2, by rw [b.cell (lt_of_cell d3)]; exact d3, by rw [b.cell (lt_of_cell d4)]; exact d4, by rw [b.cell (lt_of_cell d5)]; exact d5, by rw [b.cell (lt_of_cell e0)]; exact e0, by rw [b.cell (lt_of_cell e1)]; exact e1, by rw [b.cell (lt_of_cell e2)]; exact e2, by rw [b.cell (lt_of_cell e3)]; exact e3, by rw [b.cell (lt_of_cell e4)]; exact e4, by rw [b.cell (lt_of_cell e5)]; exact e5, K.trans (b.mono K.size)⟩
    unfold PC uV at *
    go_enter Tryd.func4, Tryd.ntmps4
    go_wp2_with fail
    refine (P1.out _ hm ht).mono ?_
    rintro e w1 ⟨rfl, B1⟩
    have m1 := hm.below B1
    have t1 := ht.below B1
    clear hm ht
    go_wp2_with fail
    have xn := BX.made w1 o sc h p pa q
    have m2 := m1.made (.cells #[.bool o, .string sc, .string h, .int .i64 p, .string pa, .string q] 27)
    have t2 := t1.made (.cells #[.bool o, .string sc, .string h, .int .i64 p, .string pa, .string q] 27)
    have B2 := B1.trans (((Below.refl w1.heap.size w1).alloc (Nat.le_refl _) (.cells #[.bool o, .string sc, .string h, .int .i64 p, .string pa, .string q] 27)).mono B1.size)
    clear m1 t1 B1
    generalize w1.heap.size = Ra at xn ⊢
    generalize w1.alloc (.cells #[.bool o, .string sc, .string h, .int .i64 p, .string pa, .string q] 27) = w2 at xn m2 t2 B2  ⊢
    have xRa2 := xn
    clear xn
    refine (P2.out _ m2 t2).mono ?_
    rintro e w3 ⟨rfl, b3⟩
    have m3 := m2.below b3
    have t3 := t2.below b3
    have B3 := B2.trans (b3.mono B2.size)
    have xRa3 := xRa2.below b3
    clear m2 t2 B2 b3 xRa2
    go_wp2_with fail
    have xn := BX.made w3 o sc h p pa q
    have m4 := m3.made (.cells #[.bool o, .string sc, .string h, .int .i64 p, .string pa, .string q] 27)
    have t4 := t3.made (.cells #[.bool o, .string sc, .string h, .int .i64 p, .string pa, .string q] 27)
    have B4 := B3.trans (((Below.refl w3.heap.size w3).alloc (Nat.le_refl _) (.cells #[.bool o, .string sc, .string h, .int .i64 p, .string pa, .string q] 27)).mono B3.size)
    have xRa4 := xRa3.below ((Below.refl w3.heap.size w3).alloc (Nat.le_refl _) (.cells #[.bool o, .string sc, .string h, .int .i64 p, .string pa, .string q] 27))
    clear m3 t3 B3 xRa3
    generalize w3.heap.size = Rb at xn ⊢
    generalize w3.alloc (.cells #[.bool o, .string sc, .string h, .int .i64 p, .string pa, .string q] 27) = w4 at xn m4 t4 B4 xRa4 ⊢
    have xRb4 := xn
    clear xn
    refine (P3.out _ m4 t4).mono ?_
    rintro e w5 ⟨rfl, b5⟩
    have m5 := m4.below b5
    have t5 := t4.below b5
    have B5 := B4.trans (b5.mono B4.size)
    have xRa5 := xRa4.below b5
    have xRb5 := xRb4.below b5
    clear m4 t4 B4 b5 xRa4 xRb4
    have xn := BX.made w5 o2 sc2 h2 p2 pa2 q2
    have m6 := m5.made (.cells #[.bool o2, .string sc2, .string h2, .int .i64 p2, .string pa2, .string q2] 27)
    have t6 := t5.made (.cells #[.bool o2, .string sc2, .string h2, .int .i64 p2, .string pa2, .string q2] 27)
    have B6 := B5.trans (((Below.refl w5.heap.size w5).alloc (Nat.le_refl _) (.cells #[.bool o2, .string sc2, .string h2, .int .i64 p2, .string pa2, .string q2] 27)).mono B5.size)
    have xRa6 := xRa5.below ((Below.refl w5.heap.size w5).alloc (Nat.le_refl _) (.cells #[.bool o2, .string sc2, .string h2, .int .i64 p2, .string pa2, .string q2] 27))
    have xRb6 := xRb5.below ((Below.refl w5.heap.size w5).alloc (Nat.le_refl _) (.cells #[.bool o2, .string sc2, .string h2, .int .i64 p2, .string pa2, .string q2] 27))
    clear m5 t5 B5 xRa5 xRb5
    go_wp2_with fail
    generalize w5.heap.size = Rc at xn ⊢
    generalize w5.alloc (.cells #[.bool o2, .string sc2, .string h2, .int .i64 p2, .string pa2, .string q2] 27) = w6 at xn m6 t6 B6 xRa6 xRb6 ⊢
    refine (CT.out _).mono ?_
    rintro e w8 ⟨rfl, b8⟩
    have m8 := m6.below b8
    have t8 := t6.below b8
    have xRa8 := xRa6.below b8
    have xRb8 := xRb6.below b8
    have B8 := B6.trans (b8.mono B6.size)
    clear m6 t6 xRa6 xRb6 xn B6 b8
    go_wp2
    have K1 : w8.drew.cell? ⟨Ra, 0, none⟩ = some (.bool o) ∧ w8.drew.cell? ⟨Ra, 1, none⟩ = some (.string sc) ∧ w8.drew.cell? ⟨Ra, 2, none⟩ = some (.string h) ∧ w8.drew.cell? ⟨Ra, 3, none⟩ = some (.int .i64 p) ∧ w8.drew.cell? ⟨Ra, 4, none⟩ = some (.string pa) ∧ w8.drew.cell? ⟨Ra, 5, none⟩ = some (.string q) ∧ w8.drew.cell? ⟨Rb, 0, none⟩ = some (.bool o) ∧ w8.drew.cell? ⟨Rb, 1, none⟩ = some (.string sc) ∧ w8.drew.cell? ⟨Rb, 2, none⟩ = some (.string h) ∧ w8.drew.cell? ⟨Rb, 3, none⟩ = some (.int .i64 p) ∧ w8.drew.cell? ⟨Rb, 4, none⟩ = some (.string pa) ∧ w8.drew.cell? ⟨Rb, 5, none⟩ = some (.string q) ∧ Below w.heap.size w w8.drew := ⟨xRa8.c0, xRa8.c1, xRa8.c2, xRa8.c3, xRa8.c4, xRa8.c5, xRb8.c0, xRb8.c1, xRb8.c2, xRb8.c3, xRb8.c4, xRb8.c5, B8.drew⟩
    have K2 : ∀ w7, Below w8.drew.heap.size w8.drew w7 → w7.cell? ⟨Ra, 0, none⟩ = some (.bool o) ∧ w7.cell? ⟨Ra, 1, none⟩ = some (.string sc) ∧ w7.cell? ⟨Ra, 2, none⟩ = some (.string h) ∧ w7.cell? ⟨Ra, 3, none⟩ = some (.int .i64 p) ∧ w7.cell? ⟨Ra, 4, none⟩ = some (.string pa) ∧ w7.cell? ⟨Ra, 5, none⟩ = some (.string q) ∧ w7.cell? ⟨Rb, 0, none⟩ = some (.bool o) ∧ w7.cell? ⟨Rb, 1, none⟩ = some (.string sc) ∧ w7.cell? ⟨Rb, 2, none⟩ = some (.string h) ∧ w7.cell? ⟨Rb, 3, none⟩ = some (.int .i64 p) ∧ w7.cell? ⟨Rb, 4, none⟩ = some (.string pa) ∧ w7.cell? ⟨Rb, 5, none⟩ = some (.string q) ∧ Below w.heap.size w w7 := fun w7 b => by
      have ya := BX.below (w := w8.drew) xRa8 b
      have yb := BX.below (w := w8.drew) xRb8 b
      exact ⟨ya.c0, ya.c1, ya.c2, ya.c3, ya.c4, ya.c5, yb.c0, yb.c1, yb.c2, yb.c3, yb.c4, yb.c5, B8.drew.trans (b.mono B8.drew.size)⟩
    have HK2 := Lib.hid K2
    clear K2
    have m8d : MaxIn w8.drew := m8
    have t8d : TabIn w8.drew := t8
    go_region_held3 (fun w' => w'.cell? ⟨Ra, 0, none⟩ = some (.bool o) ∧ w'.cell? ⟨Ra, 1, none⟩ = some (.string sc) ∧ w'.cell? ⟨Ra, 2, none⟩ = some (.string h) ∧ w'.cell? ⟨Ra, 3, none⟩ = some (.int .i64 p) ∧ w'.cell? ⟨Ra, 4, none⟩ = some (.string pa) ∧ w'.cell? ⟨Ra, 5, none⟩ = some (.string q) ∧ w'.cell? ⟨Rb, 0, none⟩ = some (.bool o) ∧ w'.cell? ⟨Rb, 1, none⟩ = some (.string sc) ∧ w'.cell? ⟨Rb, 2, none⟩ = some (.string h) ∧ w'.cell? ⟨Rb, 3, none⟩ = some (.int .i64 p) ∧ w'.cell? ⟨Rb, 4, none⟩ = some (.string pa) ∧ w'.cell? ⟨Rb, 5, none⟩ = some (.string q) ∧ Below w.heap.size w w') (first | exact K1 | exact K4 | exact K5 | exact K6)
      (first
        | (go_at_call 7; (with_reducible refine (parses_any _ m8d t8d).mono ?_); rintro e w7 ⟨rfl, b7⟩
           have K4 := HK2.out _ b7
           have HK4 := Lib.hid (keepL.out _ _ w7 K4)
           clear b7)
        | (go_at_call 14; (with_reducible refine (CL1.out _).mono ?_); rintro e w9 ⟨rfl, b9⟩
           have K5 := HK4.out _ b9
           have HK5 := Lib.hid (keepL.out _ _ w9 K5)
           clear b9)
        | (go_at_call 14; (with_reducible refine (CL2.out _).mono ?_); rintro e w10 ⟨rfl, b10⟩
           have K6 := HK5.out _ b10
           clear b10))
    all_goals go_wp2
    all_goals go_ret
    all_goals exact ⟨rfl, by first | exact K6.2.2.2.2.2.2.2.2.2.2.2.2 | exact K5.2.2.2.2.2.2.2.2.2.2.2.2 | exact K4.2.2.2.2.2.2.2.2.2.2.2.2⟩


end Go.Proofs.YteoeppmigngkeaaDoor
