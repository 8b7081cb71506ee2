/- What plays no part: a text that is no address. -/
import Derived.Test.YteoeppmigngkeaaDoorLawB
import Derived.BigQuiet
namespace Go.Proofs.YteoeppmigngkeaaDoor
open Go.RowKit

/-- A region that draws its order, walked once in the order of the text: every operation yields one value in each world of a class, and a call leaves a world of the class. -/
theorem region_class {P : Program} {id : Nat} {Q : Exit → Act → World → Prop} {a : Act} {w : World} {l : List Oper} (C : World → Prop) (hm : P.follows .mixedOrders = true) (hB : Region.lexB .any l.toArray = true) (hC : C w.drew)
    (h : wpQuiet P l.toArray C (fun a' => ∀ w', C w' → Q .normal a' w') l a) : (Code.region id l.toArray true).wp P Q a w :=
  wp_region_quiet (C := C) hm hB hC (by simpa using h)

set_option maxRecDepth 100000 in
set_option maxHeartbeats 4000000 in
theorem loose_wrong (s m : ByteArray) (w : World) (hm : MaxIn w) (ht : TabIn w) (hs : ¬ (3000 : Int) < (s.size : Int)) (hs2 : ¬ (200 : Int) < (m.size : Int)) (Y1 Y2 Y3 Y4 : ByteArray) (a1 : ∀ W, (Op.stringOp .add ⟨#[32, 9]⟩ s).run Tryd.prog W = .ok (.string Y1) W) (a2 : ∀ W, (Op.stringOp .add Y1 ⟨#[10]⟩).run Tryd.prog W = .ok (.string Y2) W) (a3 : ∀ W, (Op.stringOp .add s ⟨#[35]⟩).run Tryd.prog W = .ok (.string Y3) W) (a4 : ∀ W, (Op.stringOp .add Y3 m).run Tryd.prog W = .ok (.string Y4) W) (P1 : Hid (PC s false ⟨#[]⟩ ⟨#[]⟩ 0 ⟨#[]⟩ ⟨#[]⟩ 50)) (P2 : Hid (PC Y2 false ⟨#[]⟩ ⟨#[]⟩ 0 ⟨#[]⟩ ⟨#[]⟩ 50)) (o2 : Bool) (sc2 h2 : ByteArray) (p2 : Int) (pa2 q2 : ByteArray) (n2 : Int) (P3 : Hid (PC Y4 o2 sc2 h2 p2 pa2 q2 n2)) : Calls Tryd.prog 4 #[.string s, .string m] w fun e w' => e = .returned (.bool true) ∧ Below w.heap.size w w' := by
    have g1 : ((⟨#[]⟩ : ByteArray).toList == (⟨#[]⟩ : ByteArray).toList) = true := by rw [beq_iff_eq]
    unfold PC uV at *
    go_enter Tryd.func4, Tryd.ntmps4
    go_wp2_with fail
    refine (P1.out _ hm ht).mono ?_
    rintro e w1 ⟨rfl, B1⟩
    have m1 := hm.below B1
    have t1 := ht.below B1
    clear hm ht
    go_wp2_with fail
    have xn := BX.made w1 false ⟨#[]⟩ ⟨#[]⟩ 0 ⟨#[]⟩ ⟨#[]⟩
    have m2 := m1.made (.cells #[.bool false, .string ⟨#[]⟩, .string ⟨#[]⟩, .int .i64 0, .string ⟨#[]⟩, .string ⟨#[]⟩] 27)
    have t2 := t1.made (.cells #[.bool false, .string ⟨#[]⟩, .string ⟨#[]⟩, .int .i64 0, .string ⟨#[]⟩, .string ⟨#[]⟩] 27)
    have B2 := B1.trans (((Below.refl w1.heap.size w1).alloc (Nat.le_refl _) (.cells #[.bool false, .string ⟨#[]⟩, .string ⟨#[]⟩, .int .i64 0, .string ⟨#[]⟩, .string ⟨#[]⟩] 27)).mono B1.size)
    clear m1 t1 B1
    generalize w1.heap.size = Ra at xn ⊢
    generalize w1.alloc (.cells #[.bool false, .string ⟨#[]⟩, .string ⟨#[]⟩, .int .i64 0, .string ⟨#[]⟩, .string ⟨#[]⟩] 27) = w2 at xn m2 t2 B2  ⊢
    have xRa2 := xn
    clear xn
    refine (P2.out _ m2 t2).mono ?_
    rintro e w3 ⟨rfl, b3⟩
    have m3 := m2.below b3
    have t3 := t2.below b3
    have B3 := B2.trans (b3.mono B2.size)
    have xRa3 := xRa2.below b3
    clear m2 t2 B2 b3 xRa2
    go_wp2_with fail
    have xn := BX.made w3 false ⟨#[]⟩ ⟨#[]⟩ 0 ⟨#[]⟩ ⟨#[]⟩
    have m4 := m3.made (.cells #[.bool false, .string ⟨#[]⟩, .string ⟨#[]⟩, .int .i64 0, .string ⟨#[]⟩, .string ⟨#[]⟩] 27)
    have t4 := t3.made (.cells #[.bool false, .string ⟨#[]⟩, .string ⟨#[]⟩, .int .i64 0, .string ⟨#[]⟩, .string ⟨#[]⟩] 27)
    have B4 := B3.trans (((Below.refl w3.heap.size w3).alloc (Nat.le_refl _) (.cells #[.bool false, .string ⟨#[]⟩, .string ⟨#[]⟩, .int .i64 0, .string ⟨#[]⟩, .string ⟨#[]⟩] 27)).mono B3.size)
    have xRa4 := xRa3.below ((Below.refl w3.heap.size w3).alloc (Nat.le_refl _) (.cells #[.bool false, .string ⟨#[]⟩, .string ⟨#[]⟩, .int .i64 0, .string ⟨#[]⟩, .string ⟨#[]⟩] 27))
    clear m3 t3 B3 xRa3
    generalize w3.heap.size = Rb at xn ⊢
    generalize w3.alloc (.cells #[.bool false, .string ⟨#[]⟩, .string ⟨#[]⟩, .int .i64 0, .string ⟨#[]⟩, .string ⟨#[]⟩] 27) = w4 at xn m4 t4 B4 xRa4 ⊢
    have xRb4 := xn
    clear xn
    refine (P3.out _ m4 t4).mono ?_
    rintro e w5 ⟨rfl, b5⟩
    have m5 := m4.below b5
    have t5 := t4.below b5
    have B5 := B4.trans (b5.mono B4.size)
    have xRa5 := xRa4.below b5
    have xRb5 := xRb4.below b5
    clear m4 t4 B4 b5 xRa4 xRb4
    have xn := BX.made w5 o2 sc2 h2 p2 pa2 q2
    have m6 := m5.made (.cells #[.bool o2, .string sc2, .string h2, .int .i64 p2, .string pa2, .string q2] 27)
    have t6 := t5.made (.cells #[.bool o2, .string sc2, .string h2, .int .i64 p2, .string pa2, .string q2] 27)
    have B6 := B5.trans (((Below.refl w5.heap.size w5).alloc (Nat.le_refl _) (.cells #[.bool o2, .string sc2, .string h2, .int .i64 p2, .string pa2, .string q2] 27)).mono B5.size)
    have xRa6 := xRa5.below ((Below.refl w5.heap.size w5).alloc (Nat.le_refl _) (.cells #[.bool o2, .string sc2, .string h2, .int .i64 p2, .string pa2, .string q2] 27))
    have xRb6 := xRb5.below ((Below.refl w5.heap.size w5).alloc (Nat.le_refl _) (.cells #[.bool o2, .string sc2, .string h2, .int .i64 p2, .string pa2, .string q2] 27))
    clear m5 t5 B5 xRa5 xRb5
    go_wp2_with fail
    generalize w5.heap.size = Rc at xn ⊢
    generalize w5.alloc (.cells #[.bool o2, .string sc2, .string h2, .int .i64 p2, .string pa2, .string q2] 27) = w6 at xn m6 t6 B6 xRa6 xRb6 ⊢
    clear xn
    obtain ⟨C, hC⟩ : ∃ C : World → Prop, ∀ w', C w' ↔ (w'.cell? ⟨Ra, 0, none⟩ = some (.bool false) ∧ w'.cell? ⟨Ra, 1, none⟩ = some (.string ⟨#[]⟩) ∧ w'.cell? ⟨Ra, 2, none⟩ = some (.string ⟨#[]⟩) ∧ w'.cell? ⟨Ra, 3, none⟩ = some (.int .i64 0) ∧ w'.cell? ⟨Ra, 4, none⟩ = some (.string ⟨#[]⟩) ∧ w'.cell? ⟨Ra, 5, none⟩ = some (.string ⟨#[]⟩) ∧ w'.cell? ⟨Rb, 0, none⟩ = some (.bool false) ∧ w'.cell? ⟨Rb, 1, none⟩ = some (.string ⟨#[]⟩) ∧ w'.cell? ⟨Rb, 2, none⟩ = some (.string ⟨#[]⟩) ∧ w'.cell? ⟨Rb, 3, none⟩ = some (.int .i64 0) ∧ w'.cell? ⟨Rb, 4, none⟩ = some (.string ⟨#[]⟩) ∧ w'.cell? ⟨Rb, 5, none⟩ = some (.string ⟨#[]⟩) ∧ Below w.heap.size w w' ∧ MaxIn w' ∧ TabIn w') := ⟨_, fun _ => Iff.rfl⟩
    have HC := Lib.hid hC
    clear hC
    have hC0 : C w6.drew := (HC.out _).2 ⟨xRa6.c0, xRa6.c1, xRa6.c2, xRa6.c3, xRa6.c4, xRa6.c5, xRb6.c0, xRb6.c1, xRb6.c2, xRb6.c3, xRb6.c4, xRb6.c5, B6.drew, m6, t6⟩
    have HK : Hid (∀ w', C w' → ∀ w7, Below w'.heap.size w' w7 → C w7) := Lib.hid fun w' hc w7 b => by
      obtain ⟨d0, d1, d2, d3, d4, d5, e0, e1, e2, e3, e4, e5, K4, m7, t7⟩ := (HC.out w').1 hc
      exact (HC.out _).2 ⟨by rw [b.cell (lt_of_cell d0)]; exact d0, by rw [b.cell (lt_of_cell d1)]; exact d1, by rw [b.cell (lt_of_cell d2)]; exact d2, by rw [b.cell (lt_of_cell d3)]; exact d3, by rw [b.cell (lt_of_cell d4)]; exact d4, by rw [b.cell (lt_of_cell d5)]; exact d5, by rw [b.cell (lt_of_cell e0)]; exact e0, by rw [b.cell (lt_of_cell e1)]; exact e1, by rw [b.cell (lt_of_cell e2)]; exact e2, by rw [b.cell (lt_of_cell e3)]; exact e3, by rw [b.cell (lt_of_cell e4)]; exact e4, by rw [b.cell (lt_of_cell e5)]; exact e5, K4.trans (b.mono K4.size), m7.below b, t7.below b⟩
    clear xRa6 xRb6 B6 m6 t6
    refine region_class C (by kernel_rfl) (by kernel_rfl) hC0 ?_
    clear hC0
    -- the call
    refine BigFrame.wpQuiet_want rfl (fun K hK => ?_)
    refine ⟨.bool true, fun w' hc => ?_, hK _ ?_⟩
    · obtain ⟨d0, d1, d2, d3, d4, d5, e0, e1, e2, e3, e4, e5, K4, m7, t7⟩ := (HC.out w').1 hc
      clear d0 d1 d2 d3 d4 d5 e0 e1 e2 e3 e4 e5
      unfold Oper.quietAt
      go_simp
      refine (parses_any _ m7 t7).mono ?_
      rintro e w7 ⟨rfl, b7⟩
      exact ⟨rfl, HK.out w' hc w7 b7⟩
    clear hK K
    simp only [Act.put, List.setIfInBounds_toArray, List.set_cons_zero, List.set_cons_succ]
    repeat
      first
        | go_big_quiet_skip
        | (go_big_quiet_want; go_big_quiet_op; go_big_quiet_on)
        | (refine BigFrame.wpQuiet_want rfl (fun K hK => ?_)
           apply Exists.intro
           refine ⟨fun w' hc => ?_, hK _ ?_⟩
           · obtain ⟨d0, d1, d2, d3, d4, d5, e0, e1, e2, e3, e4, e5, K4, m7, t7⟩ := (HC.out w').1 hc
             unfold Oper.quietAt
             go_simp
             try rfl
           clear hK K
           simp only [Act.put, List.setIfInBounds_toArray, List.set_cons_zero, List.set_cons_succ])
    refine wpQuiet_nil ?_
    intro w' hc
    obtain ⟨d0, d1, d2, d3, d4, d5, e0, e1, e2, e3, e4, e5, K4, m7, t7⟩ := (HC.out w').1 hc
    clear hc HC HK d0 d1 d2 d3 d4 d5 e0 e1 e2 e3 e4 e5 m7 t7
    go_wp2
    go_ret
    exact ⟨rfl, K4⟩

end Go.Proofs.YteoeppmigngkeaaDoor
