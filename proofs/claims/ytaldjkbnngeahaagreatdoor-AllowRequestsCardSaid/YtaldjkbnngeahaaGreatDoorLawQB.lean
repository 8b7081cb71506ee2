/- What stands in a page, is fetched, or is asked to be run, is let be by just this. -/
import Derived.Test.YtaldjkbnngeahaaGreatDoorRowsQ
namespace Go.Proofs.YtaldjkbnngeahaaGreatDoor
open Go.RowKit


set_option maxRecDepth 100000 in
set_option maxHeartbeats 8000000 in
theorem allowRequests_law (L : List Src) (v : Value) (hl0 : L.length ≤ 9223372036854775807) (rk : Int) (rt : ByteArray) (o : Bool) (s2 h2 : ByteArray) (p : Int) (pa2 q2 : ByteArray) (mv : Bool) (rn : ByteArray) (pr : Bool) (o3 : Bool) (s3 h3 : ByteArray) (p3 : Int) (pa3 q3 : ByteArray) (w : World) (hw : Low w) (hv : SrcsIn w v L) : Calls Tryz.prog 4 #[v, reqV rk rt o s2 h2 p pa2 q2 mv rn pr o3 s3 h3 p3 pa3 q3] w fun e w' => e = .returned (.bool true) ∧ Below w.heap.size w w' := by
  have AR := allows_hid
  have LG := large11_hid L v hl0 rk rt o s2 h2 p pa2 q2 mv rn pr o3 s3 h3 p3 pa3 q3
  obtain ⟨r1, hr1⟩ : ∃ r, inlineL L rk rn.data.toList rt.data.toList = r := ⟨_, rfl⟩
  have Hr1 := Lib.hid hr1
  clear hr1
  have gr1 : (r1 == r1) = true := by rw [beq_iff_eq]
  obtain ⟨r2, hr2⟩ : ∃ r, fetchL L (uM o s2 h2 p pa2 q2) (uM o3 s3 h3 p3 pa3 q3) mv rn.data.toList pr = r := ⟨_, rfl⟩
  have Hr2 := Lib.hid hr2
  clear hr2
  have gr2 : (r2 == r2) = true := by rw [beq_iff_eq]
  obtain ⟨r3, hr3⟩ : ∃ r, evalL L rk = r := ⟨_, rfl⟩
  have Hr3 := Lib.hid hr3
  clear hr3
  have gr3 : (r3 == r3) = true := by rw [beq_iff_eq]
  unfold reqV at *
  go_enter Tryz.func4, Tryz.ntmps4
  go_wp2_with fail
  have xn := RX.made w rk rt o s2 h2 p pa2 q2 mv rn pr o3 s3 h3 p3 pa3 q3
  have gw1 := hw.made (.cells #[.int .i64 rk, .string rt, .bool o, .string s2, .string h2, .int .i64 p, .string pa2, .string q2, .bool mv, .string rn, .bool pr, .bool o3, .string s3, .string h3, .int .i64 p3, .string pa3, .string q3] 27)
  have lw1 := hv.made (.cells #[.int .i64 rk, .string rt, .bool o, .string s2, .string h2, .int .i64 p, .string pa2, .string q2, .bool mv, .string rn, .bool pr, .bool o3, .string s3, .string h3, .int .i64 p3, .string pa3, .string q3] 27)
  have Bw1 : Below w.heap.size w (w.alloc (.cells #[.int .i64 rk, .string rt, .bool o, .string s2, .string h2, .int .i64 p, .string pa2, .string q2, .bool mv, .string rn, .bool pr, .bool o3, .string s3, .string h3, .int .i64 p3, .string pa3, .string q3] 27)) := ((Below.refl w.heap.size w).alloc (Nat.le_refl _) (.cells #[.int .i64 rk, .string rt, .bool o, .string s2, .string h2, .int .i64 p, .string pa2, .string q2, .bool mv, .string rn, .bool pr, .bool o3, .string s3, .string h3, .int .i64 p3, .string pa3, .string q3] 27))
  generalize hR : w.heap.size = Ra at xn Bw1 ⊢
  have HR := Lib.hid hR
  clear hR
  generalize w.alloc (.cells #[.int .i64 rk, .string rt, .bool o, .string s2, .string h2, .int .i64 p, .string pa2, .string q2, .bool mv, .string rn, .bool pr, .bool o3, .string s3, .string h3, .int .i64 p3, .string pa3, .string q3] 27) = w1 at xn gw1 lw1 Bw1  ⊢
  have xRa_w1 := xn
  clear xn hw hv
  refine (LG.out _ lw1).mono ?_
  rintro e w2 ⟨b0, rfl, b_, hz⟩
  have gw2 := gw1.below b_
  have lw2 := lw1.below b_
  have Bw2 := Bw1.trans (b_.mono (Nat.le_of_lt xRa_w1.lt))
  have xRa_w2 := xRa_w1.below b_
  clear b_ gw1 lw1 Bw1 xRa_w1
  generalize Value.agg #[.int .i64 rk, .string rt, .bool o, .string s2, .string h2, .int .i64 p, .string pa2, .string q2, .bool mv, .string rn, .bool pr, .bool o3, .string s3, .string h3, .int .i64 p3, .string pa3, .string q3] = rq
  have HZ := Lib.hid hz
  clear hz
  cases b0
  case true =>
    go_wp2
    go_ret
    exact ⟨rfl, by rw [HR.out]; exact Bw2⟩
  obtain ⟨FL, z1, z2, ⟨c1, c2, c3, c4⟩, ⟨e1, e2, e3, e4⟩⟩ := HZ.out rfl
  have hl : L.length ≤ 1000000 := by have := FL.1; omega
  clear HZ
  have OW := own_hid L v hl
  have dRa0 := xRa_w2.c0
  have dRa1 := xRa_w2.c1
  have dRa2 := xRa_w2.c2
  have dRa3 := xRa_w2.c3
  have dRa4 := xRa_w2.c4
  have dRa5 := xRa_w2.c5
  have dRa6 := xRa_w2.c6
  have dRa7 := xRa_w2.c7
  have dRa8 := xRa_w2.c8
  have dRa9 := xRa_w2.c9
  have dRa10 := xRa_w2.c10
  have dRa11 := xRa_w2.c11
  have dRa12 := xRa_w2.c12
  have dRa13 := xRa_w2.c13
  have dRa14 := xRa_w2.c14
  have dRa15 := xRa_w2.c15
  have dRa16 := xRa_w2.c16
  go_wp2_with fail
  clear dRa0 dRa1 dRa2 dRa3 dRa4 dRa5 dRa6 dRa7 dRa8 dRa9 dRa10 dRa11 dRa12 dRa13 dRa14 dRa15 dRa16
  refine (OW.out _ lw2).mono ?_
  rintro e w3 ⟨v2, rfl, hj, _, b_⟩
  have gw3 := gw2.below b_
  have lw3 := lw2.below b_
  have Bw3 := Bw2.trans (b_.mono (Nat.le_of_lt xRa_w2.lt))
  have xRa_w3 := xRa_w2.below b_
  clear b_ gw2 lw2 Bw2 xRa_w2
  clear OW LG
  have CI := alwInline_hid L v hl rk rn rt (by omega) r1 Hr1.out
  have RI := refInline_hid L v2 hl rk rn rt (by omega) r1 Hr1.out
  have CF := alwFetch_hid L v hl FL.far rk rt o s2 h2 p pa2 q2 mv rn pr o3 s3 h3 p3 pa3 q3 (by omega) (by omega) (by omega) (by omega) (by omega) (by omega) (by omega) (by omega) r2 Hr2.out
  have RF := refFetch_hid L v2 hl FL.far rk rt o s2 h2 p pa2 q2 mv rn pr o3 s3 h3 p3 pa3 q3 (by omega) (by omega) (by omega) (by omega) (by omega) (by omega) (by omega) (by omega) r2 Hr2.out
  have CE := alwEval_hid L v hl rk r3 Hr3.out
  have RE := refEval_hid L v2 hl rk r3 Hr3.out
  have SM := same11_hid L v v2 hl
  unfold reqV at CF RF
  clear FL z1 z2 c1 c2 c3 c4 e1 e2 e3 e4 hl hl0 Hr1 Hr2 Hr3
  have dRa0 := xRa_w3.c0
  have dRa1 := xRa_w3.c1
  have dRa2 := xRa_w3.c2
  have dRa3 := xRa_w3.c3
  have dRa4 := xRa_w3.c4
  have dRa5 := xRa_w3.c5
  have dRa6 := xRa_w3.c6
  have dRa7 := xRa_w3.c7
  have dRa8 := xRa_w3.c8
  have dRa9 := xRa_w3.c9
  have dRa10 := xRa_w3.c10
  have dRa11 := xRa_w3.c11
  have dRa12 := xRa_w3.c12
  have dRa13 := xRa_w3.c13
  have dRa14 := xRa_w3.c14
  have dRa15 := xRa_w3.c15
  have dRa16 := xRa_w3.c16
  go_wp2
  clear dRa0 dRa1 dRa2 dRa3 dRa4 dRa5 dRa6 dRa7 dRa8 dRa9 dRa10 dRa11 dRa12 dRa13 dRa14 dRa15 dRa16
  obtain ⟨C, hC⟩ : ∃ C : World → Prop, ∀ w', C w' ↔ (RX w' Ra rk rt o s2 h2 p pa2 q2 mv rn pr o3 s3 h3 p3 pa3 q3 ∧ Below Ra w w' ∧ Low w' ∧ SrcsIn w' v L ∧ SrcsIn w' v2 L) := ⟨_, fun _ => Iff.rfl⟩
  have HC := Lib.hid hC
  clear hC
  have hC0 : C w3.drew := (HC.out _).2 ⟨xRa_w3, Bw3.drew, gw3.drew, lw3.drew, hj.drew⟩
  have HK : Hid (∀ w', C w' → ∀ w7, Below w'.heap.size w' w7 → C w7) := Lib.hid fun w' hc w7 b => by
    obtain ⟨xRa, K4, g7, l7, j7⟩ := (HC.out w').1 hc
    exact (HC.out _).2 ⟨xRa.below b, K4.trans (b.mono (Nat.le_of_lt xRa.lt)), g7.below b, l7.below b, j7.below b⟩
  clear xRa_w3 Bw3 gw3 lw3 hj
  refine region_class C (by kernel_rfl) (by kernel_rfl) hC0 ?_
  clear hC0
  repeat
    first
      | go_big_quiet_skip
      | (go_big_quiet_want; go_big_quiet_op; go_big_quiet_on)
      | (refine BigFrame.wpQuiet_want rfl (fun K hK => ?_)
         apply Exists.intro
         refine ⟨fun w' hc => ?_, hK _ ?_⟩
         · obtain ⟨xRa, K4, g7, l7, j7⟩ := (HC.out w').1 hc
           have dRa0 := xRa.c0
           have dRa1 := xRa.c1
           have dRa2 := xRa.c2
           have dRa3 := xRa.c3
           have dRa4 := xRa.c4
           have dRa5 := xRa.c5
           have dRa6 := xRa.c6
           have dRa7 := xRa.c7
           have dRa8 := xRa.c8
           have dRa9 := xRa.c9
           have dRa10 := xRa.c10
           have dRa11 := xRa.c11
           have dRa12 := xRa.c12
           have dRa13 := xRa.c13
           have dRa14 := xRa.c14
           have dRa15 := xRa.c15
           have dRa16 := xRa.c16
           unfold Oper.quietAt
           go_simp
           first
             | done
             | rfl
         clear hK K
         simp only [Act.put, List.setIfInBounds_toArray, List.set_cons_zero, List.set_cons_succ])
  (refine BigFrame.wpQuiet_want rfl (fun K hK => ?_)
   apply Exists.intro
   refine ⟨fun w' hc => ?_, hK _ ?_⟩
   · obtain ⟨xRa, K4, g7, l7, j7⟩ := (HC.out w').1 hc
     have dRa0 := xRa.c0
     have dRa1 := xRa.c1
     have dRa2 := xRa.c2
     have dRa3 := xRa.c3
     have dRa4 := xRa.c4
     have dRa5 := xRa.c5
     have dRa6 := xRa.c6
     have dRa7 := xRa.c7
     have dRa8 := xRa.c8
     have dRa9 := xRa.c9
     have dRa10 := xRa.c10
     have dRa11 := xRa.c11
     have dRa12 := xRa.c12
     have dRa13 := xRa.c13
     have dRa14 := xRa.c14
     have dRa15 := xRa.c15
     have dRa16 := xRa.c16
     unfold Oper.quietAt
     go_simp
     first
       | ((with_reducible refine (AR.out _ g7).mono ?_); rintro e w7 ⟨rfl, b7⟩; exact ⟨rfl, HK.out w' hc w7 b7⟩)
       | ((with_reducible refine (CI.out _ l7).mono ?_); rintro e w7 ⟨rfl, b7⟩; exact ⟨rfl, HK.out w' hc w7 b7⟩)
       | ((with_reducible refine (RI.out _ j7).mono ?_); rintro e w7 ⟨rfl, b7⟩; exact ⟨rfl, HK.out w' hc w7 b7⟩)
       | ((with_reducible refine (CF.out _ g7 l7).mono ?_); rintro e w7 ⟨rfl, b7⟩; exact ⟨rfl, HK.out w' hc w7 b7⟩)
       | ((with_reducible refine (RF.out _ g7 j7).mono ?_); rintro e w7 ⟨rfl, b7⟩; exact ⟨rfl, HK.out w' hc w7 b7⟩)
       | ((with_reducible refine (CE.out _ l7).mono ?_); rintro e w7 ⟨rfl, b7⟩; exact ⟨rfl, HK.out w' hc w7 b7⟩)
       | ((with_reducible refine (RE.out _ j7).mono ?_); rintro e w7 ⟨rfl, b7⟩; exact ⟨rfl, HK.out w' hc w7 b7⟩)
       | ((with_reducible refine (SM.out _ l7 j7).mono ?_); rintro e w7 ⟨rfl, b7⟩; exact ⟨rfl, HK.out w' hc w7 b7⟩)
   clear hK K
   simp only [Act.put, List.setIfInBounds_toArray, List.set_cons_zero, List.set_cons_succ])
  as_aux_lemma =>
    repeat
      first
        | go_big_quiet_skip
        | (go_big_quiet_want; go_big_quiet_op; go_big_quiet_on)
        | (refine BigFrame.wpQuiet_want rfl (fun K hK => ?_)
           apply Exists.intro
           refine ⟨fun w' hc => ?_, hK _ ?_⟩
           · obtain ⟨xRa, K4, g7, l7, j7⟩ := (HC.out w').1 hc
             have dRa0 := xRa.c0
             have dRa1 := xRa.c1
             have dRa2 := xRa.c2
             have dRa3 := xRa.c3
             have dRa4 := xRa.c4
             have dRa5 := xRa.c5
             have dRa6 := xRa.c6
             have dRa7 := xRa.c7
             have dRa8 := xRa.c8
             have dRa9 := xRa.c9
             have dRa10 := xRa.c10
             have dRa11 := xRa.c11
             have dRa12 := xRa.c12
             have dRa13 := xRa.c13
             have dRa14 := xRa.c14
             have dRa15 := xRa.c15
             have dRa16 := xRa.c16
             unfold Oper.quietAt
             go_simp
             first
               | done
               | rfl
           clear hK K
           simp only [Act.put, List.setIfInBounds_toArray, List.set_cons_zero, List.set_cons_succ])
    (refine BigFrame.wpQuiet_want rfl (fun K hK => ?_)
     apply Exists.intro
     refine ⟨fun w' hc => ?_, hK _ ?_⟩
     · obtain ⟨xRa, K4, g7, l7, j7⟩ := (HC.out w').1 hc
       have dRa0 := xRa.c0
       have dRa1 := xRa.c1
       have dRa2 := xRa.c2
       have dRa3 := xRa.c3
       have dRa4 := xRa.c4
       have dRa5 := xRa.c5
       have dRa6 := xRa.c6
       have dRa7 := xRa.c7
       have dRa8 := xRa.c8
       have dRa9 := xRa.c9
       have dRa10 := xRa.c10
       have dRa11 := xRa.c11
       have dRa12 := xRa.c12
       have dRa13 := xRa.c13
       have dRa14 := xRa.c14
       have dRa15 := xRa.c15
       have dRa16 := xRa.c16
       unfold Oper.quietAt
       go_simp
       first
         | ((with_reducible refine (AR.out _ g7).mono ?_); rintro e w7 ⟨rfl, b7⟩; exact ⟨rfl, HK.out w' hc w7 b7⟩)
         | ((with_reducible refine (CI.out _ l7).mono ?_); rintro e w7 ⟨rfl, b7⟩; exact ⟨rfl, HK.out w' hc w7 b7⟩)
         | ((with_reducible refine (RI.out _ j7).mono ?_); rintro e w7 ⟨rfl, b7⟩; exact ⟨rfl, HK.out w' hc w7 b7⟩)
         | ((with_reducible refine (CF.out _ g7 l7).mono ?_); rintro e w7 ⟨rfl, b7⟩; exact ⟨rfl, HK.out w' hc w7 b7⟩)
         | ((with_reducible refine (RF.out _ g7 j7).mono ?_); rintro e w7 ⟨rfl, b7⟩; exact ⟨rfl, HK.out w' hc w7 b7⟩)
         | ((with_reducible refine (CE.out _ l7).mono ?_); rintro e w7 ⟨rfl, b7⟩; exact ⟨rfl, HK.out w' hc w7 b7⟩)
         | ((with_reducible refine (RE.out _ j7).mono ?_); rintro e w7 ⟨rfl, b7⟩; exact ⟨rfl, HK.out w' hc w7 b7⟩)
         | ((with_reducible refine (SM.out _ l7 j7).mono ?_); rintro e w7 ⟨rfl, b7⟩; exact ⟨rfl, HK.out w' hc w7 b7⟩)
     clear hK K
     simp only [Act.put, List.setIfInBounds_toArray, List.set_cons_zero, List.set_cons_succ])
    as_aux_lemma =>
      repeat
        first
          | go_big_quiet_skip
          | (go_big_quiet_want; go_big_quiet_op; go_big_quiet_on)
          | (refine BigFrame.wpQuiet_want rfl (fun K hK => ?_)
             apply Exists.intro
             refine ⟨fun w' hc => ?_, hK _ ?_⟩
             · obtain ⟨xRa, K4, g7, l7, j7⟩ := (HC.out w').1 hc
               have dRa0 := xRa.c0
               have dRa1 := xRa.c1
               have dRa2 := xRa.c2
               have dRa3 := xRa.c3
               have dRa4 := xRa.c4
               have dRa5 := xRa.c5
               have dRa6 := xRa.c6
               have dRa7 := xRa.c7
               have dRa8 := xRa.c8
               have dRa9 := xRa.c9
               have dRa10 := xRa.c10
               have dRa11 := xRa.c11
               have dRa12 := xRa.c12
               have dRa13 := xRa.c13
               have dRa14 := xRa.c14
               have dRa15 := xRa.c15
               have dRa16 := xRa.c16
               unfold Oper.quietAt
               go_simp
               first
                 | done
                 | rfl
             clear hK K
             simp only [Act.put, List.setIfInBounds_toArray, List.set_cons_zero, List.set_cons_succ])
      (refine BigFrame.wpQuiet_want rfl (fun K hK => ?_)
       apply Exists.intro
       refine ⟨fun w' hc => ?_, hK _ ?_⟩
       · obtain ⟨xRa, K4, g7, l7, j7⟩ := (HC.out w').1 hc
         have dRa0 := xRa.c0
         have dRa1 := xRa.c1
         have dRa2 := xRa.c2
         have dRa3 := xRa.c3
         have dRa4 := xRa.c4
         have dRa5 := xRa.c5
         have dRa6 := xRa.c6
         have dRa7 := xRa.c7
         have dRa8 := xRa.c8
         have dRa9 := xRa.c9
         have dRa10 := xRa.c10
         have dRa11 := xRa.c11
         have dRa12 := xRa.c12
         have dRa13 := xRa.c13
         have dRa14 := xRa.c14
         have dRa15 := xRa.c15
         have dRa16 := xRa.c16
         unfold Oper.quietAt
         go_simp
         first
           | ((with_reducible refine (AR.out _ g7).mono ?_); rintro e w7 ⟨rfl, b7⟩; exact ⟨rfl, HK.out w' hc w7 b7⟩)
           | ((with_reducible refine (CI.out _ l7).mono ?_); rintro e w7 ⟨rfl, b7⟩; exact ⟨rfl, HK.out w' hc w7 b7⟩)
           | ((with_reducible refine (RI.out _ j7).mono ?_); rintro e w7 ⟨rfl, b7⟩; exact ⟨rfl, HK.out w' hc w7 b7⟩)
           | ((with_reducible refine (CF.out _ g7 l7).mono ?_); rintro e w7 ⟨rfl, b7⟩; exact ⟨rfl, HK.out w' hc w7 b7⟩)
           | ((with_reducible refine (RF.out _ g7 j7).mono ?_); rintro e w7 ⟨rfl, b7⟩; exact ⟨rfl, HK.out w' hc w7 b7⟩)
           | ((with_reducible refine (CE.out _ l7).mono ?_); rintro e w7 ⟨rfl, b7⟩; exact ⟨rfl, HK.out w' hc w7 b7⟩)
           | ((with_reducible refine (RE.out _ j7).mono ?_); rintro e w7 ⟨rfl, b7⟩; exact ⟨rfl, HK.out w' hc w7 b7⟩)
           | ((with_reducible refine (SM.out _ l7 j7).mono ?_); rintro e w7 ⟨rfl, b7⟩; exact ⟨rfl, HK.out w' hc w7 b7⟩)
       clear hK K
       simp only [Act.put, List.setIfInBounds_toArray, List.set_cons_zero, List.set_cons_succ])
      as_aux_lemma =>
        repeat
          first
            | go_big_quiet_skip
            | (go_big_quiet_want; go_big_quiet_op; go_big_quiet_on)
            | (refine BigFrame.wpQuiet_want rfl (fun K hK => ?_)
               apply Exists.intro
               refine ⟨fun w' hc => ?_, hK _ ?_⟩
               · obtain ⟨xRa, K4, g7, l7, j7⟩ := (HC.out w').1 hc
                 have dRa0 := xRa.c0
                 have dRa1 := xRa.c1
                 have dRa2 := xRa.c2
                 have dRa3 := xRa.c3
                 have dRa4 := xRa.c4
                 have dRa5 := xRa.c5
                 have dRa6 := xRa.c6
                 have dRa7 := xRa.c7
                 have dRa8 := xRa.c8
                 have dRa9 := xRa.c9
                 have dRa10 := xRa.c10
                 have dRa11 := xRa.c11
                 have dRa12 := xRa.c12
                 have dRa13 := xRa.c13
                 have dRa14 := xRa.c14
                 have dRa15 := xRa.c15
                 have dRa16 := xRa.c16
                 unfold Oper.quietAt
                 go_simp
                 first
                   | done
                   | rfl
               clear hK K
               simp only [Act.put, List.setIfInBounds_toArray, List.set_cons_zero, List.set_cons_succ])
        (refine BigFrame.wpQuiet_want rfl (fun K hK => ?_)
         apply Exists.intro
         refine ⟨fun w' hc => ?_, hK _ ?_⟩
         · obtain ⟨xRa, K4, g7, l7, j7⟩ := (HC.out w').1 hc
           have dRa0 := xRa.c0
           have dRa1 := xRa.c1
           have dRa2 := xRa.c2
           have dRa3 := xRa.c3
           have dRa4 := xRa.c4
           have dRa5 := xRa.c5
           have dRa6 := xRa.c6
           have dRa7 := xRa.c7
           have dRa8 := xRa.c8
           have dRa9 := xRa.c9
           have dRa10 := xRa.c10
           have dRa11 := xRa.c11
           have dRa12 := xRa.c12
           have dRa13 := xRa.c13
           have dRa14 := xRa.c14
           have dRa15 := xRa.c15
           have dRa16 := xRa.c16
           unfold Oper.quietAt
           go_simp
           first
             | ((with_reducible refine (AR.out _ g7).mono ?_); rintro e w7 ⟨rfl, b7⟩; exact ⟨rfl, HK.out w' hc w7 b7⟩)
             | ((with_reducible refine (CI.out _ l7).mono ?_); rintro e w7 ⟨rfl, b7⟩; exact ⟨rfl, HK.out w' hc w7 b7⟩)
             | ((with_reducible refine (RI.out _ j7).mono ?_); rintro e w7 ⟨rfl, b7⟩; exact ⟨rfl, HK.out w' hc w7 b7⟩)
             | ((with_reducible refine (CF.out _ g7 l7).mono ?_); rintro e w7 ⟨rfl, b7⟩; exact ⟨rfl, HK.out w' hc w7 b7⟩)
             | ((with_reducible refine (RF.out _ g7 j7).mono ?_); rintro e w7 ⟨rfl, b7⟩; exact ⟨rfl, HK.out w' hc w7 b7⟩)
             | ((with_reducible refine (CE.out _ l7).mono ?_); rintro e w7 ⟨rfl, b7⟩; exact ⟨rfl, HK.out w' hc w7 b7⟩)
             | ((with_reducible refine (RE.out _ j7).mono ?_); rintro e w7 ⟨rfl, b7⟩; exact ⟨rfl, HK.out w' hc w7 b7⟩)
             | ((with_reducible refine (SM.out _ l7 j7).mono ?_); rintro e w7 ⟨rfl, b7⟩; exact ⟨rfl, HK.out w' hc w7 b7⟩)
         clear hK K
         simp only [Act.put, List.setIfInBounds_toArray, List.set_cons_zero, List.set_cons_succ])
        as_aux_lemma =>
          repeat
            first
              | go_big_quiet_skip
              | (go_big_quiet_want; go_big_quiet_op; go_big_quiet_on)
              | (refine BigFrame.wpQuiet_want rfl (fun K hK => ?_)
                 apply Exists.intro
                 refine ⟨fun w' hc => ?_, hK _ ?_⟩
                 · obtain ⟨xRa, K4, g7, l7, j7⟩ := (HC.out w').1 hc
                   have dRa0 := xRa.c0
                   have dRa1 := xRa.c1
                   have dRa2 := xRa.c2
                   have dRa3 := xRa.c3
                   have dRa4 := xRa.c4
                   have dRa5 := xRa.c5
                   have dRa6 := xRa.c6
                   have dRa7 := xRa.c7
                   have dRa8 := xRa.c8
                   have dRa9 := xRa.c9
                   have dRa10 := xRa.c10
                   have dRa11 := xRa.c11
                   have dRa12 := xRa.c12
                   have dRa13 := xRa.c13
                   have dRa14 := xRa.c14
                   have dRa15 := xRa.c15
                   have dRa16 := xRa.c16
                   unfold Oper.quietAt
                   go_simp
                   first
                     | done
                     | rfl
                 clear hK K
                 simp only [Act.put, List.setIfInBounds_toArray, List.set_cons_zero, List.set_cons_succ])
          (refine BigFrame.wpQuiet_want rfl (fun K hK => ?_)
           apply Exists.intro
           refine ⟨fun w' hc => ?_, hK _ ?_⟩
           · obtain ⟨xRa, K4, g7, l7, j7⟩ := (HC.out w').1 hc
             have dRa0 := xRa.c0
             have dRa1 := xRa.c1
             have dRa2 := xRa.c2
             have dRa3 := xRa.c3
             have dRa4 := xRa.c4
             have dRa5 := xRa.c5
             have dRa6 := xRa.c6
             have dRa7 := xRa.c7
             have dRa8 := xRa.c8
             have dRa9 := xRa.c9
             have dRa10 := xRa.c10
             have dRa11 := xRa.c11
             have dRa12 := xRa.c12
             have dRa13 := xRa.c13
             have dRa14 := xRa.c14
             have dRa15 := xRa.c15
             have dRa16 := xRa.c16
             unfold Oper.quietAt
             go_simp
             first
               | ((with_reducible refine (AR.out _ g7).mono ?_); rintro e w7 ⟨rfl, b7⟩; exact ⟨rfl, HK.out w' hc w7 b7⟩)
               | ((with_reducible refine (CI.out _ l7).mono ?_); rintro e w7 ⟨rfl, b7⟩; exact ⟨rfl, HK.out w' hc w7 b7⟩)
               | ((with_reducible refine (RI.out _ j7).mono ?_); rintro e w7 ⟨rfl, b7⟩; exact ⟨rfl, HK.out w' hc w7 b7⟩)
               | ((with_reducible refine (CF.out _ g7 l7).mono ?_); rintro e w7 ⟨rfl, b7⟩; exact ⟨rfl, HK.out w' hc w7 b7⟩)
               | ((with_reducible refine (RF.out _ g7 j7).mono ?_); rintro e w7 ⟨rfl, b7⟩; exact ⟨rfl, HK.out w' hc w7 b7⟩)
               | ((with_reducible refine (CE.out _ l7).mono ?_); rintro e w7 ⟨rfl, b7⟩; exact ⟨rfl, HK.out w' hc w7 b7⟩)
               | ((with_reducible refine (RE.out _ j7).mono ?_); rintro e w7 ⟨rfl, b7⟩; exact ⟨rfl, HK.out w' hc w7 b7⟩)
               | ((with_reducible refine (SM.out _ l7 j7).mono ?_); rintro e w7 ⟨rfl, b7⟩; exact ⟨rfl, HK.out w' hc w7 b7⟩)
           clear hK K
           simp only [Act.put, List.setIfInBounds_toArray, List.set_cons_zero, List.set_cons_succ])
          as_aux_lemma =>
            repeat
              first
                | go_big_quiet_skip
                | (go_big_quiet_want; go_big_quiet_op; go_big_quiet_on)
                | (refine BigFrame.wpQuiet_want rfl (fun K hK => ?_)
                   apply Exists.intro
                   refine ⟨fun w' hc => ?_, hK _ ?_⟩
                   · obtain ⟨xRa, K4, g7, l7, j7⟩ := (HC.out w').1 hc
                     have dRa0 := xRa.c0
                     have dRa1 := xRa.c1
                     have dRa2 := xRa.c2
                     have dRa3 := xRa.c3
                     have dRa4 := xRa.c4
                     have dRa5 := xRa.c5
                     have dRa6 := xRa.c6
                     have dRa7 := xRa.c7
                     have dRa8 := xRa.c8
                     have dRa9 := xRa.c9
                     have dRa10 := xRa.c10
                     have dRa11 := xRa.c11
                     have dRa12 := xRa.c12
                     have dRa13 := xRa.c13
                     have dRa14 := xRa.c14
                     have dRa15 := xRa.c15
                     have dRa16 := xRa.c16
                     unfold Oper.quietAt
                     go_simp
                     first
                       | done
                       | rfl
                   clear hK K
                   simp only [Act.put, List.setIfInBounds_toArray, List.set_cons_zero, List.set_cons_succ])
            (refine BigFrame.wpQuiet_want rfl (fun K hK => ?_)
             apply Exists.intro
             refine ⟨fun w' hc => ?_, hK _ ?_⟩
             · obtain ⟨xRa, K4, g7, l7, j7⟩ := (HC.out w').1 hc
               have dRa0 := xRa.c0
               have dRa1 := xRa.c1
               have dRa2 := xRa.c2
               have dRa3 := xRa.c3
               have dRa4 := xRa.c4
               have dRa5 := xRa.c5
               have dRa6 := xRa.c6
               have dRa7 := xRa.c7
               have dRa8 := xRa.c8
               have dRa9 := xRa.c9
               have dRa10 := xRa.c10
               have dRa11 := xRa.c11
               have dRa12 := xRa.c12
               have dRa13 := xRa.c13
               have dRa14 := xRa.c14
               have dRa15 := xRa.c15
               have dRa16 := xRa.c16
               unfold Oper.quietAt
               go_simp
               first
                 | ((with_reducible refine (AR.out _ g7).mono ?_); rintro e w7 ⟨rfl, b7⟩; exact ⟨rfl, HK.out w' hc w7 b7⟩)
                 | ((with_reducible refine (CI.out _ l7).mono ?_); rintro e w7 ⟨rfl, b7⟩; exact ⟨rfl, HK.out w' hc w7 b7⟩)
                 | ((with_reducible refine (RI.out _ j7).mono ?_); rintro e w7 ⟨rfl, b7⟩; exact ⟨rfl, HK.out w' hc w7 b7⟩)
                 | ((with_reducible refine (CF.out _ g7 l7).mono ?_); rintro e w7 ⟨rfl, b7⟩; exact ⟨rfl, HK.out w' hc w7 b7⟩)
                 | ((with_reducible refine (RF.out _ g7 j7).mono ?_); rintro e w7 ⟨rfl, b7⟩; exact ⟨rfl, HK.out w' hc w7 b7⟩)
                 | ((with_reducible refine (CE.out _ l7).mono ?_); rintro e w7 ⟨rfl, b7⟩; exact ⟨rfl, HK.out w' hc w7 b7⟩)
                 | ((with_reducible refine (RE.out _ j7).mono ?_); rintro e w7 ⟨rfl, b7⟩; exact ⟨rfl, HK.out w' hc w7 b7⟩)
                 | ((with_reducible refine (SM.out _ l7 j7).mono ?_); rintro e w7 ⟨rfl, b7⟩; exact ⟨rfl, HK.out w' hc w7 b7⟩)
             clear hK K
             simp only [Act.put, List.setIfInBounds_toArray, List.set_cons_zero, List.set_cons_succ])
            as_aux_lemma =>
              repeat
                first
                  | go_big_quiet_skip
                  | (go_big_quiet_want; go_big_quiet_op; go_big_quiet_on)
                  | (refine BigFrame.wpQuiet_want rfl (fun K hK => ?_)
                     apply Exists.intro
                     refine ⟨fun w' hc => ?_, hK _ ?_⟩
                     · obtain ⟨xRa, K4, g7, l7, j7⟩ := (HC.out w').1 hc
                       have dRa0 := xRa.c0
                       have dRa1 := xRa.c1
                       have dRa2 := xRa.c2
                       have dRa3 := xRa.c3
                       have dRa4 := xRa.c4
                       have dRa5 := xRa.c5
                       have dRa6 := xRa.c6
                       have dRa7 := xRa.c7
                       have dRa8 := xRa.c8
                       have dRa9 := xRa.c9
                       have dRa10 := xRa.c10
                       have dRa11 := xRa.c11
                       have dRa12 := xRa.c12
                       have dRa13 := xRa.c13
                       have dRa14 := xRa.c14
                       have dRa15 := xRa.c15
                       have dRa16 := xRa.c16
                       unfold Oper.quietAt
                       go_simp
                       first
                         | done
                         | rfl
                     clear hK K
                     simp only [Act.put, List.setIfInBounds_toArray, List.set_cons_zero, List.set_cons_succ])
              (refine BigFrame.wpQuiet_want rfl (fun K hK => ?_)
               apply Exists.intro
               refine ⟨fun w' hc => ?_, hK _ ?_⟩
               · obtain ⟨xRa, K4, g7, l7, j7⟩ := (HC.out w').1 hc
                 have dRa0 := xRa.c0
                 have dRa1 := xRa.c1
                 have dRa2 := xRa.c2
                 have dRa3 := xRa.c3
                 have dRa4 := xRa.c4
                 have dRa5 := xRa.c5
                 have dRa6 := xRa.c6
                 have dRa7 := xRa.c7
                 have dRa8 := xRa.c8
                 have dRa9 := xRa.c9
                 have dRa10 := xRa.c10
                 have dRa11 := xRa.c11
                 have dRa12 := xRa.c12
                 have dRa13 := xRa.c13
                 have dRa14 := xRa.c14
                 have dRa15 := xRa.c15
                 have dRa16 := xRa.c16
                 unfold Oper.quietAt
                 go_simp
                 first
                   | ((with_reducible refine (AR.out _ g7).mono ?_); rintro e w7 ⟨rfl, b7⟩; exact ⟨rfl, HK.out w' hc w7 b7⟩)
                   | ((with_reducible refine (CI.out _ l7).mono ?_); rintro e w7 ⟨rfl, b7⟩; exact ⟨rfl, HK.out w' hc w7 b7⟩)
                   | ((with_reducible refine (RI.out _ j7).mono ?_); rintro e w7 ⟨rfl, b7⟩; exact ⟨rfl, HK.out w' hc w7 b7⟩)
                   | ((with_reducible refine (CF.out _ g7 l7).mono ?_); rintro e w7 ⟨rfl, b7⟩; exact ⟨rfl, HK.out w' hc w7 b7⟩)
                   | ((with_reducible refine (RF.out _ g7 j7).mono ?_); rintro e w7 ⟨rfl, b7⟩; exact ⟨rfl, HK.out w' hc w7 b7⟩)
                   | ((with_reducible refine (CE.out _ l7).mono ?_); rintro e w7 ⟨rfl, b7⟩; exact ⟨rfl, HK.out w' hc w7 b7⟩)
                   | ((with_reducible refine (RE.out _ j7).mono ?_); rintro e w7 ⟨rfl, b7⟩; exact ⟨rfl, HK.out w' hc w7 b7⟩)
                   | ((with_reducible refine (SM.out _ l7 j7).mono ?_); rintro e w7 ⟨rfl, b7⟩; exact ⟨rfl, HK.out w' hc w7 b7⟩)
               clear hK K
               simp only [Act.put, List.setIfInBounds_toArray, List.set_cons_zero, List.set_cons_succ])
              as_aux_lemma =>
                repeat
                  first
                    | go_big_quiet_skip
                    | (go_big_quiet_want; go_big_quiet_op; go_big_quiet_on)
                    | (refine BigFrame.wpQuiet_want rfl (fun K hK => ?_)
                       apply Exists.intro
                       refine ⟨fun w' hc => ?_, hK _ ?_⟩
                       · obtain ⟨xRa, K4, g7, l7, j7⟩ := (HC.out w').1 hc
                         have dRa0 := xRa.c0
                         have dRa1 := xRa.c1
                         have dRa2 := xRa.c2
                         have dRa3 := xRa.c3
                         have dRa4 := xRa.c4
                         have dRa5 := xRa.c5
                         have dRa6 := xRa.c6
                         have dRa7 := xRa.c7
                         have dRa8 := xRa.c8
                         have dRa9 := xRa.c9
                         have dRa10 := xRa.c10
                         have dRa11 := xRa.c11
                         have dRa12 := xRa.c12
                         have dRa13 := xRa.c13
                         have dRa14 := xRa.c14
                         have dRa15 := xRa.c15
                         have dRa16 := xRa.c16
                         unfold Oper.quietAt
                         go_simp
                         first
                           | done
                           | rfl
                       clear hK K
                       simp only [Act.put, List.setIfInBounds_toArray, List.set_cons_zero, List.set_cons_succ])
                (refine BigFrame.wpQuiet_want rfl (fun K hK => ?_)
                 apply Exists.intro
                 refine ⟨fun w' hc => ?_, hK _ ?_⟩
                 · obtain ⟨xRa, K4, g7, l7, j7⟩ := (HC.out w').1 hc
                   have dRa0 := xRa.c0
                   have dRa1 := xRa.c1
                   have dRa2 := xRa.c2
                   have dRa3 := xRa.c3
                   have dRa4 := xRa.c4
                   have dRa5 := xRa.c5
                   have dRa6 := xRa.c6
                   have dRa7 := xRa.c7
                   have dRa8 := xRa.c8
                   have dRa9 := xRa.c9
                   have dRa10 := xRa.c10
                   have dRa11 := xRa.c11
                   have dRa12 := xRa.c12
                   have dRa13 := xRa.c13
                   have dRa14 := xRa.c14
                   have dRa15 := xRa.c15
                   have dRa16 := xRa.c16
                   unfold Oper.quietAt
                   go_simp
                   first
                     | ((with_reducible refine (AR.out _ g7).mono ?_); rintro e w7 ⟨rfl, b7⟩; exact ⟨rfl, HK.out w' hc w7 b7⟩)
                     | ((with_reducible refine (CI.out _ l7).mono ?_); rintro e w7 ⟨rfl, b7⟩; exact ⟨rfl, HK.out w' hc w7 b7⟩)
                     | ((with_reducible refine (RI.out _ j7).mono ?_); rintro e w7 ⟨rfl, b7⟩; exact ⟨rfl, HK.out w' hc w7 b7⟩)
                     | ((with_reducible refine (CF.out _ g7 l7).mono ?_); rintro e w7 ⟨rfl, b7⟩; exact ⟨rfl, HK.out w' hc w7 b7⟩)
                     | ((with_reducible refine (RF.out _ g7 j7).mono ?_); rintro e w7 ⟨rfl, b7⟩; exact ⟨rfl, HK.out w' hc w7 b7⟩)
                     | ((with_reducible refine (CE.out _ l7).mono ?_); rintro e w7 ⟨rfl, b7⟩; exact ⟨rfl, HK.out w' hc w7 b7⟩)
                     | ((with_reducible refine (RE.out _ j7).mono ?_); rintro e w7 ⟨rfl, b7⟩; exact ⟨rfl, HK.out w' hc w7 b7⟩)
                     | ((with_reducible refine (SM.out _ l7 j7).mono ?_); rintro e w7 ⟨rfl, b7⟩; exact ⟨rfl, HK.out w' hc w7 b7⟩)
                 clear hK K
                 simp only [Act.put, List.setIfInBounds_toArray, List.set_cons_zero, List.set_cons_succ])
                as_aux_lemma =>
                  repeat
                    first
                      | go_big_quiet_skip
                      | (go_big_quiet_want; go_big_quiet_op; go_big_quiet_on)
                      | (refine BigFrame.wpQuiet_want rfl (fun K hK => ?_)
                         apply Exists.intro
                         refine ⟨fun w' hc => ?_, hK _ ?_⟩
                         · obtain ⟨xRa, K4, g7, l7, j7⟩ := (HC.out w').1 hc
                           have dRa0 := xRa.c0
                           have dRa1 := xRa.c1
                           have dRa2 := xRa.c2
                           have dRa3 := xRa.c3
                           have dRa4 := xRa.c4
                           have dRa5 := xRa.c5
                           have dRa6 := xRa.c6
                           have dRa7 := xRa.c7
                           have dRa8 := xRa.c8
                           have dRa9 := xRa.c9
                           have dRa10 := xRa.c10
                           have dRa11 := xRa.c11
                           have dRa12 := xRa.c12
                           have dRa13 := xRa.c13
                           have dRa14 := xRa.c14
                           have dRa15 := xRa.c15
                           have dRa16 := xRa.c16
                           unfold Oper.quietAt
                           go_simp
                           first
                             | done
                             | rfl
                             | ((with_reducible refine (AR.out _ g7).mono ?_); rintro e w7 ⟨rfl, b7⟩; exact ⟨rfl, HK.out w' hc w7 b7⟩)
                             | ((with_reducible refine (CI.out _ l7).mono ?_); rintro e w7 ⟨rfl, b7⟩; exact ⟨rfl, HK.out w' hc w7 b7⟩)
                             | ((with_reducible refine (RI.out _ j7).mono ?_); rintro e w7 ⟨rfl, b7⟩; exact ⟨rfl, HK.out w' hc w7 b7⟩)
                             | ((with_reducible refine (CF.out _ g7 l7).mono ?_); rintro e w7 ⟨rfl, b7⟩; exact ⟨rfl, HK.out w' hc w7 b7⟩)
                             | ((with_reducible refine (RF.out _ g7 j7).mono ?_); rintro e w7 ⟨rfl, b7⟩; exact ⟨rfl, HK.out w' hc w7 b7⟩)
                             | ((with_reducible refine (CE.out _ l7).mono ?_); rintro e w7 ⟨rfl, b7⟩; exact ⟨rfl, HK.out w' hc w7 b7⟩)
                             | ((with_reducible refine (RE.out _ j7).mono ?_); rintro e w7 ⟨rfl, b7⟩; exact ⟨rfl, HK.out w' hc w7 b7⟩)
                             | ((with_reducible refine (SM.out _ l7 j7).mono ?_); rintro e w7 ⟨rfl, b7⟩; exact ⟨rfl, HK.out w' hc w7 b7⟩)
                         clear hK K
                         simp only [Act.put, List.setIfInBounds_toArray, List.set_cons_zero, List.set_cons_succ])
                  refine wpQuiet_nil ?_
                  intro w4 hc
                  obtain ⟨xRa_w4, Bw4, gw4, lw4, jw4⟩ := (HC.out w4).1 hc
                  clear hc HC HK
                  go_wp2
                  go_ret
                  exact ⟨rfl, by rw [HR.out]; exact Bw4⟩

end Go.Proofs.YtaldjkbnngeahaaGreatDoor
