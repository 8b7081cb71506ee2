/- A nonce that is not empty is let be just if its own source is there; an empty one never; a mark's source lets just its own text's mark be. -/
import Derived.Test.YtaldjkbnngeahaaGreatDoorRowsQ
namespace Go.Proofs.YtaldjkbnngeahaaGreatDoor
open Go.RowKit


set_option maxRecDepth 100000 in
set_option maxHeartbeats 8000000 in
theorem nonce_long (L : List Src) (v : Value) (hl0 : L.length ≤ 9223372036854775807) (n t : ByteArray) (z1 : (500 : Int) < (n.size : Int)) (w : World) (hw : Low w) (hv : SrcsIn w v L) : Calls Tryz.prog 9 #[v, .string n, .string t] w fun e w' => e = .returned (.bool true) ∧ Below w.heap.size w w' := by
  have AR := allows_hid
  have CL : Hid (∀ W, SrcsIn W v L → Calls Tryz.prog 29 #[v] W (Big9Post L W)) := Lib.hid fun W h => refBig9_any L v W h hl0
  go_enter Tryz.func9, Tryz.ntmps9
  go_wp2_with fail
  refine (CL.out _ hv).mono ?_
  rintro e w ⟨b0, rfl, rfl, hz⟩
  have HZ := Lib.hid hz
  clear hz CL
  cases b0
  case true =>
    go_wp2
    go_ret
    exact ⟨rfl, Below.refl _ _⟩
  go_wp2
  go_ret
  exact ⟨rfl, Below.refl _ _⟩

set_option maxRecDepth 100000 in
set_option maxHeartbeats 8000000 in
theorem nonce_great (L : List Src) (v : Value) (hl0 : L.length ≤ 9223372036854775807) (n t : ByteArray) (z1 : ¬ (500 : Int) < (n.size : Int)) (z2 : (3000 : Int) < (t.size : Int)) (w : World) (hw : Low w) (hv : SrcsIn w v L) : Calls Tryz.prog 9 #[v, .string n, .string t] w fun e w' => e = .returned (.bool true) ∧ Below w.heap.size w w' := by
  have AR := allows_hid
  have CL : Hid (∀ W, SrcsIn W v L → Calls Tryz.prog 29 #[v] W (Big9Post L W)) := Lib.hid fun W h => refBig9_any L v W h hl0
  go_enter Tryz.func9, Tryz.ntmps9
  go_wp2_with fail
  refine (CL.out _ hv).mono ?_
  rintro e w ⟨b0, rfl, rfl, hz⟩
  have HZ := Lib.hid hz
  clear hz CL
  cases b0
  case true =>
    go_wp2
    go_ret
    exact ⟨rfl, Below.refl _ _⟩
  go_wp2
  go_ret
  exact ⟨rfl, Below.refl _ _⟩

set_option maxRecDepth 100000 in
set_option maxHeartbeats 8000000 in
theorem nonce_is (L : List Src) (v : Value) (hl0 : L.length ≤ 9223372036854775807) (n t : ByteArray) (z1 : ¬ (500 : Int) < (n.size : Int)) (z2 : ¬ (3000 : Int) < (t.size : Int)) (w : World) (hw : Low w) (hv : SrcsIn w v L) : Calls Tryz.prog 9 #[v, .string n, .string t] w fun e w' => e = .returned (.bool true) ∧ Below w.heap.size w w' := by
  have AR := allows_hid
  have CL : Hid (∀ W, SrcsIn W v L → Calls Tryz.prog 29 #[v] W (Big9Post L W)) := Lib.hid fun W h => refBig9_any L v W h hl0
  go_enter Tryz.func9, Tryz.ntmps9
  go_wp2_with fail
  refine (CL.out _ hv).mono ?_
  rintro e w ⟨b0, rfl, rfl, hz⟩
  have HZ := Lib.hid hz
  clear hz CL
  cases b0
  case true =>
    go_wp2
    go_ret
    exact ⟨rfl, Below.refl _ _⟩
  have FL : FitsL L := HZ.out rfl
  have hl : L.length ≤ 1000000 := by have := FL.1; omega
  clear HZ
  obtain ⟨M, hM⟩ : ∃ M : ByteArray, M.data.toList = markL t.data.toList := ⟨⟨(markL t.data.toList).toArray⟩, rfl⟩
  have CO := of1_hid t M (by omega) hM
  have HM := Lib.hid hM
  clear hM
  obtain ⟨b2, g2⟩ : ∃ r, n.toList.isEmpty = r := ⟨_, rfl⟩
  obtain ⟨n9, hn9⟩ : ∃ r, textQ L 9 n.data.toList = r := ⟨_, rfl⟩
  obtain ⟨h10, hh⟩ : ∃ r, textQ L 10 M.data.toList = r := ⟨_, rfl⟩
  have gn : (n9 == n9) = true := by rw [beq_iff_eq]
  have gh : (h10 == h10) = true := by rw [beq_iff_eq]
  go_wp2_with fail
  rw [← size_allocS w (.cells #[.int .i64 9, .string n, .string ⟨#[]⟩, .string ⟨#[]⟩, .bool false, .int .i64 0, .string ⟨#[]⟩] 40)]
  have xn := SX.made w 9 n ⟨#[]⟩ ⟨#[]⟩ false 0 ⟨#[]⟩
  have gw1 := hw.made (.cells #[.int .i64 9, .string n, .string ⟨#[]⟩, .string ⟨#[]⟩, .bool false, .int .i64 0, .string ⟨#[]⟩] 40)
  have lw1 := hv.made (.cells #[.int .i64 9, .string n, .string ⟨#[]⟩, .string ⟨#[]⟩, .bool false, .int .i64 0, .string ⟨#[]⟩] 40)
  have Bw1 : Below w.heap.size w (w.alloc (.cells #[.int .i64 9, .string n, .string ⟨#[]⟩, .string ⟨#[]⟩, .bool false, .int .i64 0, .string ⟨#[]⟩] 40)) := ((Below.refl w.heap.size w).alloc (Nat.le_refl _) (.cells #[.int .i64 9, .string n, .string ⟨#[]⟩, .string ⟨#[]⟩, .bool false, .int .i64 0, .string ⟨#[]⟩] 40))
  generalize hR : w.heap.size = Ra at xn Bw1 ⊢
  have HR := Lib.hid hR
  clear hR
  generalize w.alloc (.cells #[.int .i64 9, .string n, .string ⟨#[]⟩, .string ⟨#[]⟩, .bool false, .int .i64 0, .string ⟨#[]⟩] 40) = w1 at xn gw1 lw1 Bw1  ⊢
  have xRa_w1 := xn
  clear xn hw hv
  refine (CO.out _ ).mono ?_
  rintro e w2 ⟨rfl, b_⟩
  have gw2 := gw1.below b_
  have lw2 := lw1.below b_
  have Bw2 := Bw1.trans (b_.mono (Nat.le_of_lt xRa_w1.lt))
  have xRa_w2 := xRa_w1.below b_
  clear b_ gw1 lw1 Bw1 xRa_w1
  go_wp2
  have xn := SX.made w2 10 M ⟨#[]⟩ ⟨#[]⟩ false 0 ⟨#[]⟩
  have gw3 := gw2.made (.cells #[.int .i64 10, .string M, .string ⟨#[]⟩, .string ⟨#[]⟩, .bool false, .int .i64 0, .string ⟨#[]⟩] 40)
  have lw3 := lw2.made (.cells #[.int .i64 10, .string M, .string ⟨#[]⟩, .string ⟨#[]⟩, .bool false, .int .i64 0, .string ⟨#[]⟩] 40)
  have Bw3 := Bw2.trans (((Below.refl w2.heap.size w2).alloc (Nat.le_refl _) (.cells #[.int .i64 10, .string M, .string ⟨#[]⟩, .string ⟨#[]⟩, .bool false, .int .i64 0, .string ⟨#[]⟩] 40)).mono (Nat.le_of_lt xRa_w2.lt))
  have xRa_w3 := xRa_w2.below ((Below.refl w2.heap.size w2).alloc (Nat.le_refl _) (.cells #[.int .i64 10, .string M, .string ⟨#[]⟩, .string ⟨#[]⟩, .bool false, .int .i64 0, .string ⟨#[]⟩] 40))
  generalize w2.heap.size = Rb at xn ⊢
  generalize w2.alloc (.cells #[.int .i64 10, .string M, .string ⟨#[]⟩, .string ⟨#[]⟩, .bool false, .int .i64 0, .string ⟨#[]⟩] 40) = w3 at xn gw3 lw3 Bw3 xRa_w3 ⊢
  have xRb_w3 := xn
  clear xn gw2 lw2 Bw2 xRa_w2
  have kS : SrcsIn w3 (.slice (some ⟨Ra, 0, none⟩) 1 1) [srcM 9 n ⟨#[]⟩ ⟨#[]⟩ false 0 ⟨#[]⟩] := xRa_w3.row
  have hS : SrcsIn w3 (.slice (some ⟨Rb, 0, none⟩) 1 1) [srcM 10 M ⟨#[]⟩ ⟨#[]⟩ false 0 ⟨#[]⟩] := xRb_w3.row
  have C1 := alwNonce_hid [srcM 9 n ⟨#[]⟩ ⟨#[]⟩ false 0 ⟨#[]⟩] (.slice (some ⟨Ra, 0, none⟩) 1 1) (by simp) n (!b2) (by rw [← g2, text_none]; exact own_nonce _ rfl _ rfl)
  have C0 := alwNonce_hid L v hl ⟨#[]⟩ false (no_nonce L)
  have CN := alwNonce_hid L v hl n (!b2 && n9) (by rw [← g2, ← hn9, text_none]; rfl)
  have H1 := lawHas_hid L v hl 9 n ⟨#[]⟩ ⟨#[]⟩ false 0 ⟨#[]⟩ n9 hn9
  have C2 := alwHash_hid [srcM 10 M ⟨#[]⟩ ⟨#[]⟩ false 0 ⟨#[]⟩] (.slice (some ⟨Rb, 0, none⟩) 1 1) (by simp) t (by omega) true (own_hash _ rfl _ HM.out)
  have CH := alwHash_hid L v hl t (by omega) h10 (by unfold hashL; rw [← HM.out]; exact hh)
  have H2 := lawHas_hid L v hl 10 M ⟨#[]⟩ ⟨#[]⟩ false 0 ⟨#[]⟩ h10 hh
  unfold srcV at H1 H2
  clear FL hl hl0 z1 z2 hn9 hh HM CO
  cases b2
  all_goals
    simp only [Bool.not_true, Bool.not_false, Bool.true_and, Bool.false_and] at C1 CN
    have dRa0 := xRa_w3.c0
    have dRa1 := xRa_w3.c1
    have dRa2 := xRa_w3.c2
    have dRa3 := xRa_w3.c3
    have dRa4 := xRa_w3.c4
    have dRa5 := xRa_w3.c5
    have dRa6 := xRa_w3.c6
    have dRb0 := xRb_w3.c0
    have dRb1 := xRb_w3.c1
    have dRb2 := xRb_w3.c2
    have dRb3 := xRb_w3.c3
    have dRb4 := xRb_w3.c4
    have dRb5 := xRb_w3.c5
    have dRb6 := xRb_w3.c6
    go_wp2
    clear dRa0 dRa1 dRa2 dRa3 dRa4 dRa5 dRa6 dRb0 dRb1 dRb2 dRb3 dRb4 dRb5 dRb6
    obtain ⟨C, hC⟩ : ∃ C : World → Prop, ∀ w', C w' ↔ (SX w' Ra 9 n ⟨#[]⟩ ⟨#[]⟩ false 0 ⟨#[]⟩ ∧ SX w' Rb 10 M ⟨#[]⟩ ⟨#[]⟩ false 0 ⟨#[]⟩ ∧ Below Ra w w' ∧ Low w' ∧ SrcsIn w' v L ∧ SrcsIn w' (.slice (some ⟨Ra, 0, none⟩) 1 1) [srcM 9 n ⟨#[]⟩ ⟨#[]⟩ false 0 ⟨#[]⟩] ∧ SrcsIn w' (.slice (some ⟨Rb, 0, none⟩) 1 1) [srcM 10 M ⟨#[]⟩ ⟨#[]⟩ false 0 ⟨#[]⟩]) := ⟨_, fun _ => Iff.rfl⟩
    have HC := Lib.hid hC
    clear hC
    have hC0 : C w3.drew := (HC.out _).2 ⟨xRa_w3, xRb_w3, Bw3.drew, gw3.drew, lw3.drew, kS.drew, hS.drew⟩
    have HK : Hid (∀ w', C w' → ∀ w7, Below w'.heap.size w' w7 → C w7) := Lib.hid fun w' hc w7 b => by
      obtain ⟨xRa, xRb, K4, g7, l7, k7, h7⟩ := (HC.out w').1 hc
      exact (HC.out _).2 ⟨xRa.below b, xRb.below b, K4.trans (b.mono (Nat.le_of_lt xRa.lt)), g7.below b, l7.below b, k7.below b, h7.below b⟩
    clear xRa_w3 xRb_w3 Bw3 gw3 lw3 kS hS
    refine region_class C (by kernel_rfl) (by kernel_rfl) hC0 ?_
    clear hC0
    repeat
      first
        | go_big_quiet_skip
        | (go_big_quiet_want; go_big_quiet_op; go_big_quiet_on)
        | (refine BigFrame.wpQuiet_want rfl (fun K hK => ?_)
           apply Exists.intro
           refine ⟨fun w' hc => ?_, hK _ ?_⟩
           · obtain ⟨xRa, xRb, K4, g7, l7, k7, h7⟩ := (HC.out w').1 hc
             have dRa0 := xRa.c0
             have dRa1 := xRa.c1
             have dRa2 := xRa.c2
             have dRa3 := xRa.c3
             have dRa4 := xRa.c4
             have dRa5 := xRa.c5
             have dRa6 := xRa.c6
             have dRb0 := xRb.c0
             have dRb1 := xRb.c1
             have dRb2 := xRb.c2
             have dRb3 := xRb.c3
             have dRb4 := xRb.c4
             have dRb5 := xRb.c5
             have dRb6 := xRb.c6
             unfold Oper.quietAt
             go_simp
             first
               | done
               | rfl
           clear hK K
           simp only [Act.put, List.setIfInBounds_toArray, List.set_cons_zero, List.set_cons_succ])
    (refine BigFrame.wpQuiet_want rfl (fun K hK => ?_)
     apply Exists.intro
     refine ⟨fun w' hc => ?_, hK _ ?_⟩
     · obtain ⟨xRa, xRb, K4, g7, l7, k7, h7⟩ := (HC.out w').1 hc
       have dRa0 := xRa.c0
       have dRa1 := xRa.c1
       have dRa2 := xRa.c2
       have dRa3 := xRa.c3
       have dRa4 := xRa.c4
       have dRa5 := xRa.c5
       have dRa6 := xRa.c6
       have dRb0 := xRb.c0
       have dRb1 := xRb.c1
       have dRb2 := xRb.c2
       have dRb3 := xRb.c3
       have dRb4 := xRb.c4
       have dRb5 := xRb.c5
       have dRb6 := xRb.c6
       unfold Oper.quietAt
       go_simp
       first
         | ((with_reducible refine (AR.out _ g7).mono ?_); rintro e w7 ⟨rfl, b7⟩; exact ⟨rfl, HK.out w' hc w7 b7⟩)
         | ((with_reducible refine (C1.out _ k7).mono ?_); rintro e w7 ⟨rfl, b7⟩; exact ⟨rfl, HK.out w' hc w7 b7⟩)
         | ((with_reducible refine (C0.out _ l7).mono ?_); rintro e w7 ⟨rfl, b7⟩; exact ⟨rfl, HK.out w' hc w7 b7⟩)
         | ((with_reducible refine (CN.out _ l7).mono ?_); rintro e w7 ⟨rfl, b7⟩; exact ⟨rfl, HK.out w' hc w7 b7⟩)
         | ((with_reducible refine (H1.out _ l7).mono ?_); rintro e w7 ⟨rfl, b7⟩; exact ⟨rfl, HK.out w' hc w7 b7⟩)
         | ((with_reducible refine (C2.out _ h7).mono ?_); rintro e w7 ⟨rfl, b7⟩; exact ⟨rfl, HK.out w' hc w7 b7⟩)
         | ((with_reducible refine (CH.out _ l7).mono ?_); rintro e w7 ⟨rfl, b7⟩; exact ⟨rfl, HK.out w' hc w7 b7⟩)
         | ((with_reducible refine (H2.out _ l7).mono ?_); rintro e w7 ⟨rfl, b7⟩; exact ⟨rfl, HK.out w' hc w7 b7⟩)
     clear hK K
     simp only [Act.put, List.setIfInBounds_toArray, List.set_cons_zero, List.set_cons_succ])
    as_aux_lemma =>
      repeat
        first
          | go_big_quiet_skip
          | (go_big_quiet_want; go_big_quiet_op; go_big_quiet_on)
          | (refine BigFrame.wpQuiet_want rfl (fun K hK => ?_)
             apply Exists.intro
             refine ⟨fun w' hc => ?_, hK _ ?_⟩
             · obtain ⟨xRa, xRb, K4, g7, l7, k7, h7⟩ := (HC.out w').1 hc
               have dRa0 := xRa.c0
               have dRa1 := xRa.c1
               have dRa2 := xRa.c2
               have dRa3 := xRa.c3
               have dRa4 := xRa.c4
               have dRa5 := xRa.c5
               have dRa6 := xRa.c6
               have dRb0 := xRb.c0
               have dRb1 := xRb.c1
               have dRb2 := xRb.c2
               have dRb3 := xRb.c3
               have dRb4 := xRb.c4
               have dRb5 := xRb.c5
               have dRb6 := xRb.c6
               unfold Oper.quietAt
               go_simp
               first
                 | done
                 | rfl
             clear hK K
             simp only [Act.put, List.setIfInBounds_toArray, List.set_cons_zero, List.set_cons_succ])
      (refine BigFrame.wpQuiet_want rfl (fun K hK => ?_)
       apply Exists.intro
       refine ⟨fun w' hc => ?_, hK _ ?_⟩
       · obtain ⟨xRa, xRb, K4, g7, l7, k7, h7⟩ := (HC.out w').1 hc
         have dRa0 := xRa.c0
         have dRa1 := xRa.c1
         have dRa2 := xRa.c2
         have dRa3 := xRa.c3
         have dRa4 := xRa.c4
         have dRa5 := xRa.c5
         have dRa6 := xRa.c6
         have dRb0 := xRb.c0
         have dRb1 := xRb.c1
         have dRb2 := xRb.c2
         have dRb3 := xRb.c3
         have dRb4 := xRb.c4
         have dRb5 := xRb.c5
         have dRb6 := xRb.c6
         unfold Oper.quietAt
         go_simp
         first
           | ((with_reducible refine (AR.out _ g7).mono ?_); rintro e w7 ⟨rfl, b7⟩; exact ⟨rfl, HK.out w' hc w7 b7⟩)
           | ((with_reducible refine (C1.out _ k7).mono ?_); rintro e w7 ⟨rfl, b7⟩; exact ⟨rfl, HK.out w' hc w7 b7⟩)
           | ((with_reducible refine (C0.out _ l7).mono ?_); rintro e w7 ⟨rfl, b7⟩; exact ⟨rfl, HK.out w' hc w7 b7⟩)
           | ((with_reducible refine (CN.out _ l7).mono ?_); rintro e w7 ⟨rfl, b7⟩; exact ⟨rfl, HK.out w' hc w7 b7⟩)
           | ((with_reducible refine (H1.out _ l7).mono ?_); rintro e w7 ⟨rfl, b7⟩; exact ⟨rfl, HK.out w' hc w7 b7⟩)
           | ((with_reducible refine (C2.out _ h7).mono ?_); rintro e w7 ⟨rfl, b7⟩; exact ⟨rfl, HK.out w' hc w7 b7⟩)
           | ((with_reducible refine (CH.out _ l7).mono ?_); rintro e w7 ⟨rfl, b7⟩; exact ⟨rfl, HK.out w' hc w7 b7⟩)
           | ((with_reducible refine (H2.out _ l7).mono ?_); rintro e w7 ⟨rfl, b7⟩; exact ⟨rfl, HK.out w' hc w7 b7⟩)
       clear hK K
       simp only [Act.put, List.setIfInBounds_toArray, List.set_cons_zero, List.set_cons_succ])
      as_aux_lemma =>
        repeat
          first
            | go_big_quiet_skip
            | (go_big_quiet_want; go_big_quiet_op; go_big_quiet_on)
            | (refine BigFrame.wpQuiet_want rfl (fun K hK => ?_)
               apply Exists.intro
               refine ⟨fun w' hc => ?_, hK _ ?_⟩
               · obtain ⟨xRa, xRb, K4, g7, l7, k7, h7⟩ := (HC.out w').1 hc
                 have dRa0 := xRa.c0
                 have dRa1 := xRa.c1
                 have dRa2 := xRa.c2
                 have dRa3 := xRa.c3
                 have dRa4 := xRa.c4
                 have dRa5 := xRa.c5
                 have dRa6 := xRa.c6
                 have dRb0 := xRb.c0
                 have dRb1 := xRb.c1
                 have dRb2 := xRb.c2
                 have dRb3 := xRb.c3
                 have dRb4 := xRb.c4
                 have dRb5 := xRb.c5
                 have dRb6 := xRb.c6
                 unfold Oper.quietAt
                 go_simp
                 first
                   | done
                   | rfl
               clear hK K
               simp only [Act.put, List.setIfInBounds_toArray, List.set_cons_zero, List.set_cons_succ])
        (refine BigFrame.wpQuiet_want rfl (fun K hK => ?_)
         apply Exists.intro
         refine ⟨fun w' hc => ?_, hK _ ?_⟩
         · obtain ⟨xRa, xRb, K4, g7, l7, k7, h7⟩ := (HC.out w').1 hc
           have dRa0 := xRa.c0
           have dRa1 := xRa.c1
           have dRa2 := xRa.c2
           have dRa3 := xRa.c3
           have dRa4 := xRa.c4
           have dRa5 := xRa.c5
           have dRa6 := xRa.c6
           have dRb0 := xRb.c0
           have dRb1 := xRb.c1
           have dRb2 := xRb.c2
           have dRb3 := xRb.c3
           have dRb4 := xRb.c4
           have dRb5 := xRb.c5
           have dRb6 := xRb.c6
           unfold Oper.quietAt
           go_simp
           first
             | ((with_reducible refine (AR.out _ g7).mono ?_); rintro e w7 ⟨rfl, b7⟩; exact ⟨rfl, HK.out w' hc w7 b7⟩)
             | ((with_reducible refine (C1.out _ k7).mono ?_); rintro e w7 ⟨rfl, b7⟩; exact ⟨rfl, HK.out w' hc w7 b7⟩)
             | ((with_reducible refine (C0.out _ l7).mono ?_); rintro e w7 ⟨rfl, b7⟩; exact ⟨rfl, HK.out w' hc w7 b7⟩)
             | ((with_reducible refine (CN.out _ l7).mono ?_); rintro e w7 ⟨rfl, b7⟩; exact ⟨rfl, HK.out w' hc w7 b7⟩)
             | ((with_reducible refine (H1.out _ l7).mono ?_); rintro e w7 ⟨rfl, b7⟩; exact ⟨rfl, HK.out w' hc w7 b7⟩)
             | ((with_reducible refine (C2.out _ h7).mono ?_); rintro e w7 ⟨rfl, b7⟩; exact ⟨rfl, HK.out w' hc w7 b7⟩)
             | ((with_reducible refine (CH.out _ l7).mono ?_); rintro e w7 ⟨rfl, b7⟩; exact ⟨rfl, HK.out w' hc w7 b7⟩)
             | ((with_reducible refine (H2.out _ l7).mono ?_); rintro e w7 ⟨rfl, b7⟩; exact ⟨rfl, HK.out w' hc w7 b7⟩)
         clear hK K
         simp only [Act.put, List.setIfInBounds_toArray, List.set_cons_zero, List.set_cons_succ])
        as_aux_lemma =>
          repeat
            first
              | go_big_quiet_skip
              | (go_big_quiet_want; go_big_quiet_op; go_big_quiet_on)
              | (refine BigFrame.wpQuiet_want rfl (fun K hK => ?_)
                 apply Exists.intro
                 refine ⟨fun w' hc => ?_, hK _ ?_⟩
                 · obtain ⟨xRa, xRb, K4, g7, l7, k7, h7⟩ := (HC.out w').1 hc
                   have dRa0 := xRa.c0
                   have dRa1 := xRa.c1
                   have dRa2 := xRa.c2
                   have dRa3 := xRa.c3
                   have dRa4 := xRa.c4
                   have dRa5 := xRa.c5
                   have dRa6 := xRa.c6
                   have dRb0 := xRb.c0
                   have dRb1 := xRb.c1
                   have dRb2 := xRb.c2
                   have dRb3 := xRb.c3
                   have dRb4 := xRb.c4
                   have dRb5 := xRb.c5
                   have dRb6 := xRb.c6
                   unfold Oper.quietAt
                   go_simp
                   first
                     | done
                     | rfl
                 clear hK K
                 simp only [Act.put, List.setIfInBounds_toArray, List.set_cons_zero, List.set_cons_succ])
          (refine BigFrame.wpQuiet_want rfl (fun K hK => ?_)
           apply Exists.intro
           refine ⟨fun w' hc => ?_, hK _ ?_⟩
           · obtain ⟨xRa, xRb, K4, g7, l7, k7, h7⟩ := (HC.out w').1 hc
             have dRa0 := xRa.c0
             have dRa1 := xRa.c1
             have dRa2 := xRa.c2
             have dRa3 := xRa.c3
             have dRa4 := xRa.c4
             have dRa5 := xRa.c5
             have dRa6 := xRa.c6
             have dRb0 := xRb.c0
             have dRb1 := xRb.c1
             have dRb2 := xRb.c2
             have dRb3 := xRb.c3
             have dRb4 := xRb.c4
             have dRb5 := xRb.c5
             have dRb6 := xRb.c6
             unfold Oper.quietAt
             go_simp
             first
               | ((with_reducible refine (AR.out _ g7).mono ?_); rintro e w7 ⟨rfl, b7⟩; exact ⟨rfl, HK.out w' hc w7 b7⟩)
               | ((with_reducible refine (C1.out _ k7).mono ?_); rintro e w7 ⟨rfl, b7⟩; exact ⟨rfl, HK.out w' hc w7 b7⟩)
               | ((with_reducible refine (C0.out _ l7).mono ?_); rintro e w7 ⟨rfl, b7⟩; exact ⟨rfl, HK.out w' hc w7 b7⟩)
               | ((with_reducible refine (CN.out _ l7).mono ?_); rintro e w7 ⟨rfl, b7⟩; exact ⟨rfl, HK.out w' hc w7 b7⟩)
               | ((with_reducible refine (H1.out _ l7).mono ?_); rintro e w7 ⟨rfl, b7⟩; exact ⟨rfl, HK.out w' hc w7 b7⟩)
               | ((with_reducible refine (C2.out _ h7).mono ?_); rintro e w7 ⟨rfl, b7⟩; exact ⟨rfl, HK.out w' hc w7 b7⟩)
               | ((with_reducible refine (CH.out _ l7).mono ?_); rintro e w7 ⟨rfl, b7⟩; exact ⟨rfl, HK.out w' hc w7 b7⟩)
               | ((with_reducible refine (H2.out _ l7).mono ?_); rintro e w7 ⟨rfl, b7⟩; exact ⟨rfl, HK.out w' hc w7 b7⟩)
           clear hK K
           simp only [Act.put, List.setIfInBounds_toArray, List.set_cons_zero, List.set_cons_succ])
          as_aux_lemma =>
            repeat
              first
                | go_big_quiet_skip
                | (go_big_quiet_want; go_big_quiet_op; go_big_quiet_on)
                | (refine BigFrame.wpQuiet_want rfl (fun K hK => ?_)
                   apply Exists.intro
                   refine ⟨fun w' hc => ?_, hK _ ?_⟩
                   · obtain ⟨xRa, xRb, K4, g7, l7, k7, h7⟩ := (HC.out w').1 hc
                     have dRa0 := xRa.c0
                     have dRa1 := xRa.c1
                     have dRa2 := xRa.c2
                     have dRa3 := xRa.c3
                     have dRa4 := xRa.c4
                     have dRa5 := xRa.c5
                     have dRa6 := xRa.c6
                     have dRb0 := xRb.c0
                     have dRb1 := xRb.c1
                     have dRb2 := xRb.c2
                     have dRb3 := xRb.c3
                     have dRb4 := xRb.c4
                     have dRb5 := xRb.c5
                     have dRb6 := xRb.c6
                     unfold Oper.quietAt
                     go_simp
                     first
                       | done
                       | rfl
                   clear hK K
                   simp only [Act.put, List.setIfInBounds_toArray, List.set_cons_zero, List.set_cons_succ])
            (refine BigFrame.wpQuiet_want rfl (fun K hK => ?_)
             apply Exists.intro
             refine ⟨fun w' hc => ?_, hK _ ?_⟩
             · obtain ⟨xRa, xRb, K4, g7, l7, k7, h7⟩ := (HC.out w').1 hc
               have dRa0 := xRa.c0
               have dRa1 := xRa.c1
               have dRa2 := xRa.c2
               have dRa3 := xRa.c3
               have dRa4 := xRa.c4
               have dRa5 := xRa.c5
               have dRa6 := xRa.c6
               have dRb0 := xRb.c0
               have dRb1 := xRb.c1
               have dRb2 := xRb.c2
               have dRb3 := xRb.c3
               have dRb4 := xRb.c4
               have dRb5 := xRb.c5
               have dRb6 := xRb.c6
               unfold Oper.quietAt
               go_simp
               first
                 | ((with_reducible refine (AR.out _ g7).mono ?_); rintro e w7 ⟨rfl, b7⟩; exact ⟨rfl, HK.out w' hc w7 b7⟩)
                 | ((with_reducible refine (C1.out _ k7).mono ?_); rintro e w7 ⟨rfl, b7⟩; exact ⟨rfl, HK.out w' hc w7 b7⟩)
                 | ((with_reducible refine (C0.out _ l7).mono ?_); rintro e w7 ⟨rfl, b7⟩; exact ⟨rfl, HK.out w' hc w7 b7⟩)
                 | ((with_reducible refine (CN.out _ l7).mono ?_); rintro e w7 ⟨rfl, b7⟩; exact ⟨rfl, HK.out w' hc w7 b7⟩)
                 | ((with_reducible refine (H1.out _ l7).mono ?_); rintro e w7 ⟨rfl, b7⟩; exact ⟨rfl, HK.out w' hc w7 b7⟩)
                 | ((with_reducible refine (C2.out _ h7).mono ?_); rintro e w7 ⟨rfl, b7⟩; exact ⟨rfl, HK.out w' hc w7 b7⟩)
                 | ((with_reducible refine (CH.out _ l7).mono ?_); rintro e w7 ⟨rfl, b7⟩; exact ⟨rfl, HK.out w' hc w7 b7⟩)
                 | ((with_reducible refine (H2.out _ l7).mono ?_); rintro e w7 ⟨rfl, b7⟩; exact ⟨rfl, HK.out w' hc w7 b7⟩)
             clear hK K
             simp only [Act.put, List.setIfInBounds_toArray, List.set_cons_zero, List.set_cons_succ])
            as_aux_lemma =>
              repeat
                first
                  | go_big_quiet_skip
                  | (go_big_quiet_want; go_big_quiet_op; go_big_quiet_on)
                  | (refine BigFrame.wpQuiet_want rfl (fun K hK => ?_)
                     apply Exists.intro
                     refine ⟨fun w' hc => ?_, hK _ ?_⟩
                     · obtain ⟨xRa, xRb, K4, g7, l7, k7, h7⟩ := (HC.out w').1 hc
                       have dRa0 := xRa.c0
                       have dRa1 := xRa.c1
                       have dRa2 := xRa.c2
                       have dRa3 := xRa.c3
                       have dRa4 := xRa.c4
                       have dRa5 := xRa.c5
                       have dRa6 := xRa.c6
                       have dRb0 := xRb.c0
                       have dRb1 := xRb.c1
                       have dRb2 := xRb.c2
                       have dRb3 := xRb.c3
                       have dRb4 := xRb.c4
                       have dRb5 := xRb.c5
                       have dRb6 := xRb.c6
                       unfold Oper.quietAt
                       go_simp
                       first
                         | done
                         | rfl
                     clear hK K
                     simp only [Act.put, List.setIfInBounds_toArray, List.set_cons_zero, List.set_cons_succ])
              (refine BigFrame.wpQuiet_want rfl (fun K hK => ?_)
               apply Exists.intro
               refine ⟨fun w' hc => ?_, hK _ ?_⟩
               · obtain ⟨xRa, xRb, K4, g7, l7, k7, h7⟩ := (HC.out w').1 hc
                 have dRa0 := xRa.c0
                 have dRa1 := xRa.c1
                 have dRa2 := xRa.c2
                 have dRa3 := xRa.c3
                 have dRa4 := xRa.c4
                 have dRa5 := xRa.c5
                 have dRa6 := xRa.c6
                 have dRb0 := xRb.c0
                 have dRb1 := xRb.c1
                 have dRb2 := xRb.c2
                 have dRb3 := xRb.c3
                 have dRb4 := xRb.c4
                 have dRb5 := xRb.c5
                 have dRb6 := xRb.c6
                 unfold Oper.quietAt
                 go_simp
                 first
                   | ((with_reducible refine (AR.out _ g7).mono ?_); rintro e w7 ⟨rfl, b7⟩; exact ⟨rfl, HK.out w' hc w7 b7⟩)
                   | ((with_reducible refine (C1.out _ k7).mono ?_); rintro e w7 ⟨rfl, b7⟩; exact ⟨rfl, HK.out w' hc w7 b7⟩)
                   | ((with_reducible refine (C0.out _ l7).mono ?_); rintro e w7 ⟨rfl, b7⟩; exact ⟨rfl, HK.out w' hc w7 b7⟩)
                   | ((with_reducible refine (CN.out _ l7).mono ?_); rintro e w7 ⟨rfl, b7⟩; exact ⟨rfl, HK.out w' hc w7 b7⟩)
                   | ((with_reducible refine (H1.out _ l7).mono ?_); rintro e w7 ⟨rfl, b7⟩; exact ⟨rfl, HK.out w' hc w7 b7⟩)
                   | ((with_reducible refine (C2.out _ h7).mono ?_); rintro e w7 ⟨rfl, b7⟩; exact ⟨rfl, HK.out w' hc w7 b7⟩)
                   | ((with_reducible refine (CH.out _ l7).mono ?_); rintro e w7 ⟨rfl, b7⟩; exact ⟨rfl, HK.out w' hc w7 b7⟩)
                   | ((with_reducible refine (H2.out _ l7).mono ?_); rintro e w7 ⟨rfl, b7⟩; exact ⟨rfl, HK.out w' hc w7 b7⟩)
               clear hK K
               simp only [Act.put, List.setIfInBounds_toArray, List.set_cons_zero, List.set_cons_succ])
              as_aux_lemma =>
                repeat
                  first
                    | go_big_quiet_skip
                    | (go_big_quiet_want; go_big_quiet_op; go_big_quiet_on)
                    | (refine BigFrame.wpQuiet_want rfl (fun K hK => ?_)
                       apply Exists.intro
                       refine ⟨fun w' hc => ?_, hK _ ?_⟩
                       · obtain ⟨xRa, xRb, K4, g7, l7, k7, h7⟩ := (HC.out w').1 hc
                         have dRa0 := xRa.c0
                         have dRa1 := xRa.c1
                         have dRa2 := xRa.c2
                         have dRa3 := xRa.c3
                         have dRa4 := xRa.c4
                         have dRa5 := xRa.c5
                         have dRa6 := xRa.c6
                         have dRb0 := xRb.c0
                         have dRb1 := xRb.c1
                         have dRb2 := xRb.c2
                         have dRb3 := xRb.c3
                         have dRb4 := xRb.c4
                         have dRb5 := xRb.c5
                         have dRb6 := xRb.c6
                         unfold Oper.quietAt
                         go_simp
                         first
                           | done
                           | rfl
                       clear hK K
                       simp only [Act.put, List.setIfInBounds_toArray, List.set_cons_zero, List.set_cons_succ])
                (refine BigFrame.wpQuiet_want rfl (fun K hK => ?_)
                 apply Exists.intro
                 refine ⟨fun w' hc => ?_, hK _ ?_⟩
                 · obtain ⟨xRa, xRb, K4, g7, l7, k7, h7⟩ := (HC.out w').1 hc
                   have dRa0 := xRa.c0
                   have dRa1 := xRa.c1
                   have dRa2 := xRa.c2
                   have dRa3 := xRa.c3
                   have dRa4 := xRa.c4
                   have dRa5 := xRa.c5
                   have dRa6 := xRa.c6
                   have dRb0 := xRb.c0
                   have dRb1 := xRb.c1
                   have dRb2 := xRb.c2
                   have dRb3 := xRb.c3
                   have dRb4 := xRb.c4
                   have dRb5 := xRb.c5
                   have dRb6 := xRb.c6
                   unfold Oper.quietAt
                   go_simp
                   first
                     | ((with_reducible refine (AR.out _ g7).mono ?_); rintro e w7 ⟨rfl, b7⟩; exact ⟨rfl, HK.out w' hc w7 b7⟩)
                     | ((with_reducible refine (C1.out _ k7).mono ?_); rintro e w7 ⟨rfl, b7⟩; exact ⟨rfl, HK.out w' hc w7 b7⟩)
                     | ((with_reducible refine (C0.out _ l7).mono ?_); rintro e w7 ⟨rfl, b7⟩; exact ⟨rfl, HK.out w' hc w7 b7⟩)
                     | ((with_reducible refine (CN.out _ l7).mono ?_); rintro e w7 ⟨rfl, b7⟩; exact ⟨rfl, HK.out w' hc w7 b7⟩)
                     | ((with_reducible refine (H1.out _ l7).mono ?_); rintro e w7 ⟨rfl, b7⟩; exact ⟨rfl, HK.out w' hc w7 b7⟩)
                     | ((with_reducible refine (C2.out _ h7).mono ?_); rintro e w7 ⟨rfl, b7⟩; exact ⟨rfl, HK.out w' hc w7 b7⟩)
                     | ((with_reducible refine (CH.out _ l7).mono ?_); rintro e w7 ⟨rfl, b7⟩; exact ⟨rfl, HK.out w' hc w7 b7⟩)
                     | ((with_reducible refine (H2.out _ l7).mono ?_); rintro e w7 ⟨rfl, b7⟩; exact ⟨rfl, HK.out w' hc w7 b7⟩)
                 clear hK K
                 simp only [Act.put, List.setIfInBounds_toArray, List.set_cons_zero, List.set_cons_succ])
                as_aux_lemma =>
                  repeat
                    first
                      | go_big_quiet_skip
                      | (go_big_quiet_want; go_big_quiet_op; go_big_quiet_on)
                      | (refine BigFrame.wpQuiet_want rfl (fun K hK => ?_)
                         apply Exists.intro
                         refine ⟨fun w' hc => ?_, hK _ ?_⟩
                         · obtain ⟨xRa, xRb, K4, g7, l7, k7, h7⟩ := (HC.out w').1 hc
                           have dRa0 := xRa.c0
                           have dRa1 := xRa.c1
                           have dRa2 := xRa.c2
                           have dRa3 := xRa.c3
                           have dRa4 := xRa.c4
                           have dRa5 := xRa.c5
                           have dRa6 := xRa.c6
                           have dRb0 := xRb.c0
                           have dRb1 := xRb.c1
                           have dRb2 := xRb.c2
                           have dRb3 := xRb.c3
                           have dRb4 := xRb.c4
                           have dRb5 := xRb.c5
                           have dRb6 := xRb.c6
                           unfold Oper.quietAt
                           go_simp
                           first
                             | done
                             | rfl
                             | ((with_reducible refine (AR.out _ g7).mono ?_); rintro e w7 ⟨rfl, b7⟩; exact ⟨rfl, HK.out w' hc w7 b7⟩)
                             | ((with_reducible refine (C1.out _ k7).mono ?_); rintro e w7 ⟨rfl, b7⟩; exact ⟨rfl, HK.out w' hc w7 b7⟩)
                             | ((with_reducible refine (C0.out _ l7).mono ?_); rintro e w7 ⟨rfl, b7⟩; exact ⟨rfl, HK.out w' hc w7 b7⟩)
                             | ((with_reducible refine (CN.out _ l7).mono ?_); rintro e w7 ⟨rfl, b7⟩; exact ⟨rfl, HK.out w' hc w7 b7⟩)
                             | ((with_reducible refine (H1.out _ l7).mono ?_); rintro e w7 ⟨rfl, b7⟩; exact ⟨rfl, HK.out w' hc w7 b7⟩)
                             | ((with_reducible refine (C2.out _ h7).mono ?_); rintro e w7 ⟨rfl, b7⟩; exact ⟨rfl, HK.out w' hc w7 b7⟩)
                             | ((with_reducible refine (CH.out _ l7).mono ?_); rintro e w7 ⟨rfl, b7⟩; exact ⟨rfl, HK.out w' hc w7 b7⟩)
                             | ((with_reducible refine (H2.out _ l7).mono ?_); rintro e w7 ⟨rfl, b7⟩; exact ⟨rfl, HK.out w' hc w7 b7⟩)
                         clear hK K
                         simp only [Act.put, List.setIfInBounds_toArray, List.set_cons_zero, List.set_cons_succ])
                  refine wpQuiet_nil ?_
                  intro w4 hc
                  obtain ⟨xRa_w4, xRb_w4, Bw4, gw4, lw4, kw4, hw4⟩ := (HC.out w4).1 hc
                  clear hc HC HK
                  go_wp2
                  go_ret
                  exact ⟨rfl, by rw [HR.out]; exact Bw4⟩
theorem allowNonce_law (L : List Src) (v : Value) (hl0 : L.length ≤ 9223372036854775807) (n t : ByteArray) (w : World) (hw : Low w) (hv : SrcsIn w v L) : Calls Tryz.prog 9 #[v, .string n, .string t] w fun e w' => e = .returned (.bool true) ∧ Below w.heap.size w w' := by
  by_cases z1 : (500 : Int) < (n.size : Int)
  · exact nonce_long L v hl0 n t z1 w hw hv
  by_cases z2 : (3000 : Int) < (t.size : Int)
  · exact nonce_great L v hl0 n t z1 z2 w hw hv
  exact nonce_is L v hl0 n t z1 z2 w hw hv

end Go.Proofs.YtaldjkbnngeahaaGreatDoor
