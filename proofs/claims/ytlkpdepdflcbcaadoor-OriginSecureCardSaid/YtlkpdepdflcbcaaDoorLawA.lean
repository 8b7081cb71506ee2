/- Two origins held against each other, and their texts, for every two. -/
import Derived.Test.YtlkpdepdflcbcaaDoorRefO
namespace Go.Proofs.YtlkpdepdflcbcaaDoor
open Go.RowKit

theorem froms_hid : Hid (∀ W, MaxIn W → TabIn W → Calls Tryd.prog 7 #[] W fun e w' => e = .returned (.bool true) ∧ Below W.heap.size W w') := Lib.hid fun W hm ht => froms_any W hm ht
theorem same_self (o : Bool) (s h : ByteArray) (p : Int) : sameM (oM o s h p) (oM o s h p) = !o := by unfold sameM oM; simp

set_option maxRecDepth 100000 in
set_option maxHeartbeats 8000000 in
theorem oSame_small (o : Bool) (s h : ByteArray) (p : Int) (o2 : Bool) (s2 h2 : ByteArray) (p2 : Int) (k1 : ¬ (2000 : Int) < (s.size : Int)) (k2 : ¬ (2000 : Int) < (h.size : Int)) (k3 : ¬ (2000 : Int) < (s2.size : Int)) (k4 : ¬ (2000 : Int) < (h2.size : Int)) (r0 : -9223372036854775808 ≤ p) (r1 : p ≤ 9223372036854775807) (w : World) (hm : MaxIn w) (ht : TabIn w) : Calls Tryd.prog 3 #[oV o s h p, oV o2 s2 h2 p2] w fun e w' => e = .returned (.bool true) ∧ Below w.heap.size w w' := by
  have FR := froms_hid
  obtain ⟨T, hT⟩ := text_of (otextM (oM o s h p))
  have CT := otext_hid o s h p (by omega) (by omega) r0 r1 T hT
  have CR := refOtext_hid o s h p (by omega) (by omega) r0 r1 T hT
  obtain ⟨b, hb⟩ : ∃ b, sameM (oM o s h p) (oM o2 s2 h2 p2) = b := ⟨_, rfl⟩
  have CS := same_hid o s h p o2 s2 h2 p2 b hb
  have CQ := refSame_hid o s h p o2 s2 h2 p2 b hb
  have CO := same_hid o s h p o s h p (!o) (same_self o s h p)
  have gT : (T.toList == T.toList) = true := by rw [beq_iff_eq]
  have gb : (b == b) = true := by rw [beq_iff_eq]
  have go : ((!o) == (!o)) = true := by rw [beq_iff_eq]
  clear hT hb r0 r1
  unfold oV at *
  go_enter Tryd.func3, Tryd.ntmps3
  have xn := OX.made w o s h p
  have mA := hm.made (.cells #[.bool o, .string s, .string h, .int .i64 p] 23)
  have tA := ht.made (.cells #[.bool o, .string s, .string h, .int .i64 p] 23)
  have BA : Below w.heap.size w (w.alloc (.cells #[.bool o, .string s, .string h, .int .i64 p] 23)) := (Below.refl _ _).alloc (Nat.le_refl _) _
  have xz := OX.made (w.alloc (.cells #[.bool o, .string s, .string h, .int .i64 p] 23)) o2 s2 h2 p2
  have xy := xn.below ((Below.refl _ _).alloc (Nat.le_refl _) (.cells #[.bool o2, .string s2, .string h2, .int .i64 p2] 23))
  have mB := mA.made (.cells #[.bool o2, .string s2, .string h2, .int .i64 p2] 23)
  have tB := tA.made (.cells #[.bool o2, .string s2, .string h2, .int .i64 p2] 23)
  have BB := BA.alloc BA.size (.cells #[.bool o2, .string s2, .string h2, .int .i64 p2] 23)
  rw [size_alloc] at xz
  have d0 := xy.c0
  have d1 := xy.c1
  have d2 := xy.c2
  have e1 := xz.c1
  have e2 := xz.c2
  go_wp2
  clear d0 d1 d2 e1 e2 xn mA tA BA
  generalize hR : w.heap.size = Ra at xy xz BB ⊢
  have HR := Lib.hid hR
  clear hR
  obtain ⟨Rb, hRb⟩ : ∃ Rb, Ra + 1 = Rb := ⟨_, rfl⟩
  rw [hRb] at xz ⊢
  clear hRb
  generalize (w.alloc (.cells #[.bool o, .string s, .string h, .int .i64 p] 23)).alloc (.cells #[.bool o2, .string s2, .string h2, .int .i64 p2] 23) = w1 at xy xz mB tB BB ⊢
  have xRa_w1 := xy
  have xRb_w1 := xz
  clear xy xz
  obtain ⟨C, hC⟩ : ∃ C : World → Prop, ∀ w', C w' ↔ (OX w' Ra o s h p ∧ OX w' Rb o2 s2 h2 p2 ∧ Below Ra w w' ∧ MaxIn w' ∧ TabIn w') := ⟨_, fun _ => Iff.rfl⟩
  have HC := Lib.hid hC
  clear hC
  have hC0 : C w1.drew := (HC.out _).2 ⟨xRa_w1, xRb_w1, BB.drew, mB, tB⟩
  have HK : Hid (∀ w', C w' → ∀ w7, Below w'.heap.size w' w7 → C w7) := Lib.hid fun w' hc w7 b => by
    obtain ⟨xRa, xRb, K4, m7, t7⟩ := (HC.out w').1 hc
    exact (HC.out _).2 ⟨xRa.below b, xRb.below b, K4.trans (b.mono (Nat.le_of_lt xRa.lt)), m7.below b, t7.below b⟩
  clear xRa_w1 xRb_w1 BB mB tB
  refine region_class C (by kernel_rfl) (by kernel_rfl) hC0 ?_
  clear hC0
  repeat
    first
      | go_big_quiet_skip
      | (go_big_quiet_want; go_big_quiet_op; go_big_quiet_on)
      | (refine BigFrame.wpQuiet_want rfl (fun K hK => ?_)
         apply Exists.intro
         refine ⟨fun w' hc => ?_, hK _ ?_⟩
         · obtain ⟨xRa, xRb, K4, m7, t7⟩ := (HC.out w').1 hc
           have dRa0 := xRa.c0
           have dRa1 := xRa.c1
           have dRa2 := xRa.c2
           have dRa3 := xRa.c3
           have dRb0 := xRb.c0
           have dRb1 := xRb.c1
           have dRb2 := xRb.c2
           have dRb3 := xRb.c3
           unfold Oper.quietAt
           go_simp
           first
             | done
             | rfl
             | ((with_reducible refine (FR.out _ m7 t7).mono ?_); rintro e w7 ⟨rfl, b7⟩; exact ⟨rfl, HK.out w' hc w7 b7⟩)
             | ((with_reducible refine (CT.out _ t7).mono ?_); rintro e w7 ⟨rfl, b7⟩; exact ⟨rfl, HK.out w' hc w7 b7⟩)
             | ((with_reducible refine (CR.out _).mono ?_); rintro e w7 ⟨rfl, b7⟩; exact ⟨rfl, HK.out w' hc w7 b7⟩)
             | ((with_reducible refine (CS.out _).mono ?_); rintro e w7 ⟨rfl, b7⟩; exact ⟨rfl, HK.out w' hc w7 b7⟩)
             | ((with_reducible refine (CQ.out _).mono ?_); rintro e w7 ⟨rfl, b7⟩; exact ⟨rfl, HK.out w' hc w7 b7⟩)
             | ((with_reducible refine (CO.out _).mono ?_); rintro e w7 ⟨rfl, b7⟩; exact ⟨rfl, HK.out w' hc w7 b7⟩)
         clear hK K
         simp only [Act.put, List.setIfInBounds_toArray, List.set_cons_zero, List.set_cons_succ])
  refine wpQuiet_nil ?_
  intro w2 hc
  obtain ⟨xRa_w2, xRb_w2, Bw2, mw2, tw2⟩ := (HC.out w2).1 hc
  clear hc HC HK
  go_wp2
  go_ret
  exact ⟨rfl, by rw [HR.out]; exact Bw2⟩

set_option maxRecDepth 100000 in
set_option maxHeartbeats 4000000 in
theorem oSame_long (o : Bool) (s h : ByteArray) (p : Int) (o2 : Bool) (s2 h2 : ByteArray) (p2 : Int) (k : (2000 : Int) < (s.size : Int) ∨ (2000 : Int) < (h.size : Int) ∨ (2000 : Int) < (s2.size : Int) ∨ (2000 : Int) < (h2.size : Int)) (w : World) : Calls Tryd.prog 3 #[oV o s h p, oV o2 s2 h2 p2] w fun e w' => e = .returned (.bool true) ∧ Below w.heap.size w w' := by
  unfold oV
  by_cases k1 : (2000 : Int) < (s.size : Int)
  · clear k
    go_enter Tryd.func3, Tryd.ntmps3
    go_wp2
    go_ret
    exact ⟨rfl, ((Below.refl _ _).alloc (Nat.le_refl _) _).alloc (Below.size ((Below.refl w.heap.size w).alloc (Nat.le_refl _) _)) _⟩
  by_cases k2 : (2000 : Int) < (h.size : Int)
  · clear k
    go_enter Tryd.func3, Tryd.ntmps3
    go_wp2
    go_ret
    exact ⟨rfl, ((Below.refl _ _).alloc (Nat.le_refl _) _).alloc (Below.size ((Below.refl w.heap.size w).alloc (Nat.le_refl _) _)) _⟩
  by_cases k3 : (2000 : Int) < (s2.size : Int)
  · clear k
    go_enter Tryd.func3, Tryd.ntmps3
    go_wp2
    go_ret
    exact ⟨rfl, ((Below.refl _ _).alloc (Nat.le_refl _) _).alloc (Below.size ((Below.refl w.heap.size w).alloc (Nat.le_refl _) _)) _⟩
  · have k4 : (2000 : Int) < (h2.size : Int) := by omega
    clear k
    go_enter Tryd.func3, Tryd.ntmps3
    go_wp2
    go_ret
    exact ⟨rfl, ((Below.refl _ _).alloc (Nat.le_refl _) _).alloc (Below.size ((Below.refl w.heap.size w).alloc (Nat.le_refl _) _)) _⟩
theorem oSame_law (o : Bool) (s h : ByteArray) (p : Int) (o2 : Bool) (s2 h2 : ByteArray) (p2 : Int) (r0 : -9223372036854775808 ≤ p) (r1 : p ≤ 9223372036854775807) (w : World) (hm : MaxIn w) (ht : TabIn w) : Calls Tryd.prog 3 #[oV o s h p, oV o2 s2 h2 p2] w fun e w' => e = .returned (.bool true) ∧ Below w.heap.size w w' := by
  by_cases k : (2000 : Int) < (s.size : Int) ∨ (2000 : Int) < (h.size : Int) ∨ (2000 : Int) < (s2.size : Int) ∨ (2000 : Int) < (h2.size : Int)
  · exact oSame_long o s h p o2 s2 h2 p2 k w
  · rw [not_or, not_or, not_or] at k
    exact oSame_small o s h p o2 s2 h2 p2 k.1 k.2.1 k.2.2.1 k.2.2.2 r0 r1 w hm ht

end Go.Proofs.YtlkpdepdflcbcaaDoor
