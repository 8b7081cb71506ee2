/- The document's reader: a start tag. -/
import Derived.Test.YtfbhpmafjehojaaGreatDoorTokAA
import Derived.Test.YtfbhpmafjehojaaGreatDoorTokW
namespace Go.Proofs.YtfbhpmafjehojaaGreatDoor
open Go.RowKit

set_option maxRecDepth 100000 in
set_option maxHeartbeats 16000000 in
theorem tagQ_start (s XR : ByteArray) (n : Nat) (hXR : XR.data.toList = (tagM true 1 n (s.data.toList.drop n)).r) (hnd : n + 1 ≤ s.size) (hs : s.size ≤ 20000) : Hid (∀ W B m0 Q T F, QS W B m0 Q s n T F ⟨#[]⟩ → T.length ≤ 900000 → F.length ≤ 100000 → Calls Tryz.prog 85 #[.pointer (some ⟨Q, 0, none⟩), .int .i64 2, .int .i64 ((n : Int) + 1)] W (StepP B Q s n T F XR (tagM true 1 n (s.data.toList.drop n)) W)) := Lib.hid fun w B m0 Q T F h0 hl hF => by
  unfold StepP
  obtain ⟨j, hj⟩ : ∃ j, (s.data.toList.drop (n + 1)).findIdx nameE = j := ⟨_, rfl⟩
  have hjl := find_le nameE s (n + 1) hnd
  rw [hj] at hjl
  obtain ⟨N0, hN0⟩ := text_of ((s.data.toList.drop (n + 1)).take j)
  obtain ⟨X, hX⟩ := text_of (nameT 1 (s.data.toList.drop n))
  have hXN : X.data.toList = low N0.data.toList := by
    rw [hX, hN0]
    unfold nameT
    rw [List.drop_drop, hj]
  have hN0s : N0.size ≤ 20000 := by rw [← lsize, hN0, List.length_take, List.length_drop, lsize]; omega
  have CU := upto_hid Q s ⟨#[9, 10, 12, 13, 32, 47, 62]⟩ (n + 1) hnd (by omega) (by decide)
  rw [show (⟨#[9, 10, 12, 13, 32, 47, 62]⟩ : ByteArray).data.toList = [9, 10, 12, 13, 32, 47, 62] from rfl, inL_name, hj, show (((n + 1 : Nat)) : Int) = (n : Int) + 1 by push_cast; rfl] at CU
  have CL := refLower_hid N0 X hXN (by omega)
  obtain ⟨E, hE⟩ : ∃ E, n + 1 + j = E := ⟨_, rfl⟩
  rw [hE] at CU hjl
  have g1 := slice_mid s N0 (n + 1) E (by omega) hjl (by rw [hN0]; congr 1; omega)
  rw [show (((n + 1 : Nat)) : Int) = (n : Int) + 1 by push_cast; rfl] at g1
  obtain ⟨I, hI⟩ : ∃ I, insT true 1 n (s.data.toList.drop n) = I := ⟨_, rfl⟩
  have hI0 : I = insG true E (s.data.toList.drop E) [] [] false := by
    rw [← hI]
    unfold insT
    rw [List.drop_drop, hj, List.drop_drop, ← Nat.add_assoc, hE]
  have HI := Lib.hid hI
  have HI0 := Lib.hid hI0
  have HXN := Lib.hid hX
  have HXR0 : ∀ {S : Step}, tagM true 1 n (s.data.toList.drop n) = S → S.r = [] → XR = ⟨#[]⟩ := fun h1 h2 => text_is (by rw [hXR, h1, h2])
  have HXR0 : ∀ {f : List Fl} {t : Option Tk} {k : Nat}, tagM true 1 n (s.data.toList.drop n) = ⟨t, f, k, []⟩ → XR = ⟨#[]⟩ := fun h1 => HXR0 h1 rfl
  have HXRH := Lib.hid hXR
  have hnE : n < E := by omega
  have z1 : (n : Int) ≤ 20000 := by omega
  have z2 : (0 : Int) ≤ (n : Int) := by omega
  have hlen : (s.data.toList.drop n).length = s.size - n := by rw [List.length_drop, lsize]
  obtain ⟨tv, fv, hv⟩ := h0
  have hbw := hv.bw
  have hq0 := hv.up hv.mw (Nat.le_refl _)
  have hRm := hq0.hi
  obtain ⟨fa0, fc0, hfv0, -, -⟩ := rowCapF hv.hf
  subst hfv0
  have d3 := hq0.q.c3
  have d0 := hq0.q.c0
  have HV := Lib.hid hq0
  clear hv hj hN0 hX hXN hI hI0 hXR hN0s hE hq0
  go_enter Tryz.func85, Tryz.ntmps85
  go_wp2_with fail
  (with_reducible refine (CU.out _ _ _ _ _ HV.out.q).mono ?_)
  rintro e w1 ⟨rfl, b1⟩
  have HV1 := Lib.hid (HV.out.below b1)
  have B1 := b1.mono hbw
  have S1 := b1.size
  clear b1 HV CU d0 d3
  have d0 := HV1.out.q.c0
  go_wp2_with fail
  (with_reducible refine (CL.out _).mono ?_)
  rintro e w2 ⟨rfl, b2⟩
  have al := (Below.refl w2.heap.size w2).alloc (Nat.le_refl _) (.cells #[.int .i64 2, .string X, .string ⟨#[]⟩, .slice none 0 0, .bool false] 47)
  have S2 : w.heap.size ≤ w2.heap.size := Nat.le_trans S1 b2.size
  have HV3 := Lib.hid ((HV1.out.below b2).below al)
  have B3 := (B1.trans (b2.mono (Nat.le_trans hbw S1))).trans (al.mono (Nat.le_trans hbw S2))
  have HT3 : Hid (TA (w2.alloc (.cells #[.int .i64 2, .string X, .string ⟨#[]⟩, .slice none 0 0, .bool false] 47)) w.heap.size w2.heap.size 2 X [] false (.slice none 0 0)) := Lib.hid ⟨new_block w2 _, World.ownsRow_nil _ _ _ _, S2⟩
  clear b2 al HV1 B1 CL S1 S2 d0 g1
  go_wp2
  generalize w2.alloc (.cells #[.int .i64 2, .string X, .string ⟨#[]⟩, .slice none 0 0, .bool false] 47) = w3 at HV3 HT3 B3 ⊢
  generalize w2.heap.size = Tb at HT3 ⊢
  go_loopw [2, 9, 10] (fun i sv _ wr => ∃ (v : Int) (sl : Bool), i = .int .i64 v ∧ sv = .bool sl ∧ Hid (LoopQ wr w B Q Tb s n T F true X I v sl)) (fun i _ _ _ => if intOf i < 0 then 0 else s.size + 1 - (intOf i).toNat)
  case atStart => exact ⟨E, false, rfl, rfl, Lib.hid ⟨[], by rw [List.append_nil]; exact HV3.out.form, B3, by simp, .inr ⟨E, [], .slice none 0 0, rfl, hnE, hjl, by simp, by simp, HT3.out, HI0.out, fun _ => rfl⟩⟩⟩
  case round =>
    clear HV3 HT3 B3
    obtain ⟨v, sl, rfl, rfl, HL⟩ := hrel
    obtain ⟨f, HQ, HB, hf, ⟨rfl, HN⟩ | ⟨p, A, av, rfl, hnp, hps, hf2, hA, HT, HG, HAE⟩⟩ := HL.out
    · clear HL
      obtain ⟨tv1, fv1, hv1⟩ := HQ
      rcases hv1.hf.2 with ⟨hfv, hlen0⟩ | ⟨g, fc, cur, hfv, _, _, hcap, _⟩
      · obtain rfl : F = [] := List.eq_nil_of_length_eq_zero (by rw [List.length_append] at hlen0; omega)
        obtain rfl : f = [] := List.eq_nil_of_length_eq_zero (by rw [List.length_append] at hlen0; simpa using hlen0)
        subst hfv
        have hrow := hv1.hf
        have d0 := hv1.q.c0
        have d3 := hv1.q.c3
        have f3 := hv1.q.free 3
        have d1 := hv1.q.c1
        have f1 := hv1.q.free 1
        have HV2 := Lib.hid (hv1.refail (F := []) hrow)
        have B2 := HB.trans (hv1.form.onb (hv1.q.kset 3 (.slice none 0 0)))
        have d1' := HV2.out.q.c1
        have HS : Hid (tagM true 1 n (s.data.toList.drop n) = ⟨none, [(140, n)], (s.data.toList.drop n).length, []⟩) := Lib.hid (tagM_none (HI.out.trans HN))
        clear hv1 hrow HB HN
        go_wp2_with fail
        have CF := failQ_hid 140 n
        (with_reducible refine (CF.out _ _ _ _ _ _ _ _ _ HV2.out.form (by omega)).mono ?_)
        rintro e w5 ⟨rfl, h5, k5⟩
        have B5 := B2.trans (HV2.out.form.frb k5)
        obtain ⟨tv5, fv5, h5⟩ := h5
        have HV5 := Lib.hid h5
        clear k5 h5 HV2 B2 CF d0 d3 f3 d1 f1 d1'
        have d0 := HV5.out.q.c0
        have d1 := HV5.out.q.c1
        have f1 := HV5.out.q.free 1
        go_wp2
        (try simp only [Exit.inBlock, Exit.then])
        (try rw [Exit.noGoto_ret])
        refine bodyPost_ret (results_none rfl _ _ _) rfl ?_
        have q5 := HV5.out
        have q6 := q5.moved (q5.q.set1 s.size) (q5.q.kset 1 _)
        refine ⟨rfl, ?_, B5.trans (q5.form.onb (q5.q.kset 1 _))⟩
        rw [HS.out, HXR0 HS.out, show n + (s.data.toList.drop n).length = s.size by rw [List.length_drop, lsize]; omega]
        exact (q6.up q6.mw (Nat.le_refl _)).form
      · subst hfv
        have hcap2 : F.length ≤ fc := by rw [List.length_append] at hcap; omega
        have hrow := row_take hv1.hf F.length (by rw [List.length_append]; omega) (fun e => by cases e)
        rw [flC_take] at hrow
        have d0 := hv1.q.c0
        have d3 := hv1.q.c3
        have f3 := hv1.q.free 3
        have d1 := hv1.q.c1
        have f1 := hv1.q.free 1
        have HV2 := Lib.hid (hv1.refail (F := F) hrow)
        have B2 := HB.trans (hv1.form.onb (hv1.q.kset 3 (.slice (some ⟨g, 0, none⟩) F.length fc)))
        have d1' := HV2.out.q.c1
        have HS : Hid (tagM true 1 n (s.data.toList.drop n) = ⟨none, [(140, n)], (s.data.toList.drop n).length, []⟩) := Lib.hid (tagM_none (HI.out.trans HN))
        clear hv1 hcap hrow HB HN
        go_wp2_with fail
        have CF := failQ_hid 140 n
        (with_reducible refine (CF.out _ _ _ _ _ _ _ _ _ HV2.out.form (by omega)).mono ?_)
        rintro e w5 ⟨rfl, h5, k5⟩
        have B5 := B2.trans (HV2.out.form.frb k5)
        obtain ⟨tv5, fv5, h5⟩ := h5
        have HV5 := Lib.hid h5
        clear k5 h5 HV2 B2 CF d0 d3 f3 d1 f1 d1' hcap2
        have d0 := HV5.out.q.c0
        have d1 := HV5.out.q.c1
        have f1 := HV5.out.q.free 1
        go_wp2
        (try simp only [Exit.inBlock, Exit.then])
        (try rw [Exit.noGoto_ret])
        refine bodyPost_ret (results_none rfl _ _ _) rfl ?_
        have q5 := HV5.out
        have q6 := q5.moved (q5.q.set1 s.size) (q5.q.kset 1 _)
        refine ⟨rfl, ?_, B5.trans (q5.form.onb (q5.q.kset 1 _))⟩
        rw [HS.out, HXR0 HS.out, show n + (s.data.toList.drop n).length = s.size by rw [List.length_drop, lsize]; omega]
        exact (q6.up q6.mw (Nat.le_refl _)).form
    · clear HL
      have zp0 : (0 : Int) ≤ (p : Int) := by omega
      by_cases hend : p = s.size
      · have HN : I = none := by rw [HG, hend, show s.data.toList.drop s.size = [] by rw [← lsize]; simp, insG_nil]
        have zp1 : ¬ (p : Int) < (s.size : Int) := by omega
        have zp2 : (s.size : Int) ≤ (p : Int) := by omega
        clear HG HT HAE
        obtain ⟨tv1, fv1, hv1⟩ := HQ
        rcases hv1.hf.2 with ⟨hfv, hlen0⟩ | ⟨g, fc, cur, hfv, _, _, hcap, _⟩
        · obtain rfl : F = [] := List.eq_nil_of_length_eq_zero (by rw [List.length_append] at hlen0; omega)
          obtain rfl : f = [] := List.eq_nil_of_length_eq_zero (by rw [List.length_append] at hlen0; simpa using hlen0)
          subst hfv
          have hrow := hv1.hf
          have d0 := hv1.q.c0
          have d3 := hv1.q.c3
          have f3 := hv1.q.free 3
          have d1 := hv1.q.c1
          have f1 := hv1.q.free 1
          have HV2 := Lib.hid (hv1.refail (F := []) hrow)
          have B2 := HB.trans (hv1.form.onb (hv1.q.kset 3 (.slice none 0 0)))
          have d1' := HV2.out.q.c1
          have HS : Hid (tagM true 1 n (s.data.toList.drop n) = ⟨none, [(140, n)], (s.data.toList.drop n).length, []⟩) := Lib.hid (tagM_none (HI.out.trans HN))
          clear hv1 hrow HB HN
          go_wp2_with fail
          have CF := failQ_hid 140 n
          (with_reducible refine (CF.out _ _ _ _ _ _ _ _ _ HV2.out.form (by omega)).mono ?_)
          rintro e w5 ⟨rfl, h5, k5⟩
          have B5 := B2.trans (HV2.out.form.frb k5)
          obtain ⟨tv5, fv5, h5⟩ := h5
          have HV5 := Lib.hid h5
          clear k5 h5 HV2 B2 CF d0 d3 f3 d1 f1 d1'
          have d0 := HV5.out.q.c0
          have d1 := HV5.out.q.c1
          have f1 := HV5.out.q.free 1
          go_wp2
          (try simp only [Exit.inBlock, Exit.then])
          (try rw [Exit.noGoto_ret])
          refine bodyPost_ret (results_none rfl _ _ _) rfl ?_
          have q5 := HV5.out
          have q6 := q5.moved (q5.q.set1 s.size) (q5.q.kset 1 _)
          refine ⟨rfl, ?_, B5.trans (q5.form.onb (q5.q.kset 1 _))⟩
          rw [HS.out, HXR0 HS.out, show n + (s.data.toList.drop n).length = s.size by rw [List.length_drop, lsize]; omega]
          exact (q6.up q6.mw (Nat.le_refl _)).form
        · subst hfv
          have hcap2 : F.length ≤ fc := by rw [List.length_append] at hcap; omega
          have hrow := row_take hv1.hf F.length (by rw [List.length_append]; omega) (fun e => by cases e)
          rw [flC_take] at hrow
          have d0 := hv1.q.c0
          have d3 := hv1.q.c3
          have f3 := hv1.q.free 3
          have d1 := hv1.q.c1
          have f1 := hv1.q.free 1
          have HV2 := Lib.hid (hv1.refail (F := F) hrow)
          have B2 := HB.trans (hv1.form.onb (hv1.q.kset 3 (.slice (some ⟨g, 0, none⟩) F.length fc)))
          have d1' := HV2.out.q.c1
          have HS : Hid (tagM true 1 n (s.data.toList.drop n) = ⟨none, [(140, n)], (s.data.toList.drop n).length, []⟩) := Lib.hid (tagM_none (HI.out.trans HN))
          clear hv1 hcap hrow HB HN
          go_wp2_with fail
          have CF := failQ_hid 140 n
          (with_reducible refine (CF.out _ _ _ _ _ _ _ _ _ HV2.out.form (by omega)).mono ?_)
          rintro e w5 ⟨rfl, h5, k5⟩
          have B5 := B2.trans (HV2.out.form.frb k5)
          obtain ⟨tv5, fv5, h5⟩ := h5
          have HV5 := Lib.hid h5
          clear k5 h5 HV2 B2 CF d0 d3 f3 d1 f1 d1' hcap2
          have d0 := HV5.out.q.c0
          have d1 := HV5.out.q.c1
          have f1 := HV5.out.q.free 1
          go_wp2
          (try simp only [Exit.inBlock, Exit.then])
          (try rw [Exit.noGoto_ret])
          refine bodyPost_ret (results_none rfl _ _ _) rfl ?_
          have q5 := HV5.out
          have q6 := q5.moved (q5.q.set1 s.size) (q5.q.kset 1 _)
          refine ⟨rfl, ?_, B5.trans (q5.form.onb (q5.q.kset 1 _))⟩
          rw [HS.out, HXR0 HS.out, show n + (s.data.toList.drop n).length = s.size by rw [List.length_drop, lsize]; omega]
          exact (q6.up q6.mw (Nat.le_refl _)).form
      · have hlt : p < s.size := by omega
        obtain ⟨c, hc⟩ : ∃ c, s.data.toList[p]? = some c := ⟨_, List.getElem?_eq_getElem (by rw [lsize]; exact hlt)⟩
        have zp1 : (p : Int) < (s.size : Int) := by omega
        have i0 := index_ty Tryz.underlying9 s p c hc
        have hd : s.data.toList.drop p = c :: s.data.toList.drop (p + 1) := by
          obtain ⟨h1, h2⟩ := List.getElem?_eq_some_iff.1 hc
          rw [List.drop_eq_getElem_cons h1, h2]
        by_cases h62 : c = 62
        · subst h62
          have HN : I = some (A, f, sl, p) := by rw [HG, hd, insG_end]
          rw [show (((62 : UInt8).toNat : Nat) : Int) = 62 from rfl] at i0
          have zp2 : ¬ (s.size : Int) ≤ (p : Int) := by omega
          have zp3 : (p : Int) ≤ 20000 := by omega
          clear HG HAE hd hc
          obtain ⟨aa, ac, rfl⟩ : ∃ aa ac, av = .slice aa A.length ac := by
            rcases rowForms HT.2.1 with ⟨e1, e2⟩ | ⟨g, cc, e1⟩
            · exact ⟨none, 0, by rw [e1, e2]⟩
            · exact ⟨_, _, e1⟩
          obtain ⟨tv1, fv1, hv1⟩ := HQ
          have d0 := hv1.q.c0
          have HTM : Hid (tagM true 1 n (s.data.toList.drop n) = ⟨some ⟨2, X.data.toList, [], A, sl⟩, f, p + 1 - n, if rawM X.data.toList then X.data.toList else []⟩) := Lib.hid (by rw [tagM_some (HI.out.trans HN), HXN.out]; rfl)
          have hp1 : n + (p + 1 - n) = p + 1 := by omega
          clear HN
          have t4 := HT.1.c4
          have t4f := HT.1.free 4
          have t8 := HT.1.set4 sl
          have ks8 : Kp (frA w.heap.size) wr (wr.setCell ⟨Tb, 4, none⟩ (.bool sl)) := Kp.of_set HT.1 _ ⟨HT.2.2, .inl rfl⟩
          have hT8 : TA (wr.setCell ⟨Tb, 4, none⟩ (.bool sl)) w.heap.size Tb 2 X A sl (.slice aa A.length ac) := ⟨t8, (Kp.of_set (P := fun j _ => j = Tb) HT.1 (.bool sl) rfl).row HT.2.1 fun j hj _ e => row_ne HT.2.1 HT.1 (by decide) (by rw [hj, e]), HT.2.2⟩
          obtain ⟨tv8, fv8, hv8⟩ := hv1.form.side ks8
          have B8 := HB.trans (hv1.form.sideb ks8)
          have r4 := hv8.q.c4
          have r4f := hv8.q.free 4
          have r4' := hv1.q.c4
          have r4f' := hv1.q.free 4
          have hv9 := hv8.moved (hv8.q.set4 ⟨#[]⟩) (hv8.q.kset 4 _)
          have hT9 := hT8.onR (hv8.q.kset 4 (.string ⟨#[]⟩)) hRm
          have B9 := B8.trans (hv8.form.onb (hv8.q.kset 4 (.string ⟨#[]⟩)))
          have c1 := hT9.1.c1
          have c1' := hT8.1.c1
          have c1'' := HT.1.c1
          have HV9 := Lib.hid hv9
          have HT9 := Lib.hid hT9
          clear hv1 HT hv8 hT8 hv9 hT9 B8 ks8 t8 HB
          obtain ⟨rb, hrb⟩ : ∃ rb, rawM X.data.toList = rb := ⟨_, rfl⟩
          have CW := rawR_hid X rb hrb
          rw [hrb] at HTM
          have HRB := Lib.hid hrb
          clear hrb
          go_wp2_with fail
          (with_reducible refine (CW.out _).mono ?_)
          rintro e w9 ⟨rfl, rfl⟩
          cases rb with
          | true =>
            have r4 := HV9.out.q.c4
            have r4f := HV9.out.q.free 4
            have HV10 := Lib.hid (HV9.out.moved (HV9.out.q.set4 X) (HV9.out.q.kset 4 _))
            have HT10 := Lib.hid (HT9.out.onR (HV9.out.q.kset 4 (.string X)) hRm)
            have B10 := B9.trans (HV9.out.form.onb (HV9.out.q.kset 4 (.string X)))
            have c1 := HT9.out.1.c1
            have hXR : XR = X := text_is (by rw [HXRH.out, HTM.out]; rfl)
            subst hXR
            go_wp2_with fail
            generalize ((wr.setCell ⟨Tb, 4, none⟩ (.bool sl)).setCell ⟨Q, 4, none⟩ (.string ⟨#[]⟩)).setCell ⟨Q, 4, none⟩ (.string XR) = wc at HV10 HT10 B10 ⊢
            clear HV9 HT9 B9 CW r4 r4f c1
            have b0 := HT10.out.1.c0
            have b1 := HT10.out.1.c1
            have b2 := HT10.out.1.c2
            have b3 := HT10.out.1.c3
            have b4 := HT10.out.1.c4
            have hv10 := HV10.out
            have hbwc := hv10.bw
            have hAT : AttrsBy wc B wc.heap.size (.slice aa A.length ac) A := ⟨ownsRow_low HT10.out.2.1 hbw, fun j hj => (HT10.out.2.1.lt j hj).2⟩
            have HAT := Lib.hid hAT
            obtain ⟨i0', hi, hz0, hz1, hz2⟩ := info_parts TinfoT
            obtain ⟨ta, tc, rfl⟩ := hv10.ht.form
            have t2c := hv10.q.c2
            have hq10 := hv10.q
            have t2c'' := (hv10.q.below ((Below.refl _ _).alloc (Nat.le_refl _) (.cells #[.int .i64 2, .string XR, .string ⟨#[]⟩, .slice aa A.length ac, .bool sl] 47))).c2
            obtain ⟨cs, t1, t2, t3⟩ := hv10.ht
            have HT30 := Lib.hid t3
            clear hv10 t2 t3 hAT
            go_region_law (refine step_append_lies _ (by rfl) (.tmp 130) (.tmp 134) 23 (by rfl) B 47 i0' (.agg #[.int .i64 0, .string ⟨#[]⟩, .string ⟨#[]⟩, .slice none 0 0, .bool false]) 5 72 Tryz.underlying23 hi hz0 hz1 hz2 rfl (by decide) _ _ _ (by rfl) (t1.alloc _) ⟨wc.heap.size, 0, none⟩ 1 1 [.int .i64 2, .string XR, .string ⟨#[]⟩, .slice aa A.length ac, .bool sl] (by rfl) rfl (World.news_of_block (new_block _ _)) (by intro u hu; simp at hu; rcases hu with rfl | rfl | rfl | rfl | rfl <;> rfl) (by decide) (by unfold maxLen; omega) (by omega) (by simp; omega) _ rfl ?_
                           intro g cap w6 hown hgrow hat hlt6
                           have hne : (Value.slice ta T.length tc).ownBlock ≠ some Q := row_ne t1 hq10 (by decide)
                           have x6 := hq10.below ((Below.refl _ _).alloc (Nat.le_refl _) (.cells #[.int .i64 2, .string XR, .string ⟨#[]⟩, .slice aa A.length ac, .bool sl] 47))
                           have d6 : w6.heap[Q]? = some (.cells _ 74 (0, 0)) := (hgrow.block Q (lt_of_block x6) (fun e => hne e.symm)).trans x6
                           have d62 := cell_of d6 2
                           have f6 := open_of d6 2
                           have f61 := open_of d6 1
                           have d61 := cell_of d6 1)
            all_goals
              have hgrow : (wc.alloc (.cells #[.int .i64 2, .string XR, .string ⟨#[]⟩, .slice aa A.length ac, .bool sl] 47)).grownBy w6 (Value.slice ta T.length tc).ownBlock := ⟨hgrow.os, hgrow.tape, hgrow.output, hgrow.size, hgrow.block⟩
              have hown7 : w6.ownsRow B 47 5 (.slice (some ⟨g, 0, none⟩) (T.length + 1) cap) (T.length + 1) (cs ++ tkC ⟨2, (XR : ByteArray).data.toList, [], A, sl⟩ (.slice aa A.length ac)) := by
                have e : tkC ⟨2, (XR : ByteArray).data.toList, [], A, sl⟩ (.slice aa A.length ac) = [.int .i64 2, .string XR, .string ⟨#[]⟩, .slice aa A.length ac, .bool sl] := by
                  unfold tkC
                  rw [strV_of (T := XR) rfl]
                  rfl
                rw [e]
                exact hown
              have HA := Lib.hid (HV10.out.appended ((Below.refl _ _).alloc (Nat.le_refl _) (.cells #[.int .i64 2, .string XR, .string ⟨#[]⟩, .slice aa A.length ac, .bool sl] 47)) t1 HT30.out HAT.out hown7 hgrow)
              have e1' := HA.out.2.1.q.c1
              have e1f := HA.out.2.1.q.free 1
              clear hown hgrow hat hlt6 hown7
              go_wp2
              try rw [Exit.noGoto_normal]
              go_end0
              have q2 := HA.out.2.1
              have q3 := q2.moved (q2.q.set1 (p + 1)) (q2.q.kset 1 _)
              have B3 : Below B wc _ := (HV10.out.frQb HA.out.2.2).trans (q2.form.onb (q2.q.kset 1 (.int .i64 ((p + 1 : Nat) : Int))))
              rw [Int.natCast_add] at q3 B3
              refine ⟨rfl, ?_, B10.trans B3⟩
              rw [HTM.out, push_other T _ (show (2 : Int) ≠ 1 by decide), hp1]
              exact (q3.up q3.mw (Nat.le_refl _)).form
          | false =>
            have HV10 := HV9
            have HT10 := HT9
            have B10 := B9
            have hXR : XR = ⟨#[]⟩ := text_is (by rw [HXRH.out, HTM.out]; rfl)
            subst hXR
            clear HV9 HT9 B9 CW
            go_wp2_with fail
            generalize (wr.setCell ⟨Tb, 4, none⟩ (.bool sl)).setCell ⟨Q, 4, none⟩ (.string ⟨#[]⟩) = wc at HV10 HT10 B10 c1 ⊢
            have b0 := HT10.out.1.c0
            have b1 := HT10.out.1.c1
            have b2 := HT10.out.1.c2
            have b3 := HT10.out.1.c3
            have b4 := HT10.out.1.c4
            have hv10 := HV10.out
            have hbwc := hv10.bw
            have hAT : AttrsBy wc B wc.heap.size (.slice aa A.length ac) A := ⟨ownsRow_low HT10.out.2.1 hbw, fun j hj => (HT10.out.2.1.lt j hj).2⟩
            have HAT := Lib.hid hAT
            obtain ⟨i0', hi, hz0, hz1, hz2⟩ := info_parts TinfoT
            obtain ⟨ta, tc, rfl⟩ := hv10.ht.form
            have t2c := hv10.q.c2
            have hq10 := hv10.q
            have t2c'' := (hv10.q.below ((Below.refl _ _).alloc (Nat.le_refl _) (.cells #[.int .i64 2, .string X, .string ⟨#[]⟩, .slice aa A.length ac, .bool sl] 47))).c2
            obtain ⟨cs, t1, t2, t3⟩ := hv10.ht
            have HT30 := Lib.hid t3
            clear hv10 t2 t3 hAT
            go_region_law (refine step_append_lies _ (by rfl) (.tmp 130) (.tmp 134) 23 (by rfl) B 47 i0' (.agg #[.int .i64 0, .string ⟨#[]⟩, .string ⟨#[]⟩, .slice none 0 0, .bool false]) 5 72 Tryz.underlying23 hi hz0 hz1 hz2 rfl (by decide) _ _ _ (by rfl) (t1.alloc _) ⟨wc.heap.size, 0, none⟩ 1 1 [.int .i64 2, .string X, .string ⟨#[]⟩, .slice aa A.length ac, .bool sl] (by rfl) rfl (World.news_of_block (new_block _ _)) (by intro u hu; simp at hu; rcases hu with rfl | rfl | rfl | rfl | rfl <;> rfl) (by decide) (by unfold maxLen; omega) (by omega) (by simp; omega) _ rfl ?_
                           intro g cap w6 hown hgrow hat hlt6
                           have hne : (Value.slice ta T.length tc).ownBlock ≠ some Q := row_ne t1 hq10 (by decide)
                           have x6 := hq10.below ((Below.refl _ _).alloc (Nat.le_refl _) (.cells #[.int .i64 2, .string X, .string ⟨#[]⟩, .slice aa A.length ac, .bool sl] 47))
                           have d6 : w6.heap[Q]? = some (.cells _ 74 (0, 0)) := (hgrow.block Q (lt_of_block x6) (fun e => hne e.symm)).trans x6
                           have d62 := cell_of d6 2
                           have f6 := open_of d6 2
                           have f61 := open_of d6 1
                           have d61 := cell_of d6 1)
            all_goals
              have hgrow : (wc.alloc (.cells #[.int .i64 2, .string X, .string ⟨#[]⟩, .slice aa A.length ac, .bool sl] 47)).grownBy w6 (Value.slice ta T.length tc).ownBlock := ⟨hgrow.os, hgrow.tape, hgrow.output, hgrow.size, hgrow.block⟩
              have hown7 : w6.ownsRow B 47 5 (.slice (some ⟨g, 0, none⟩) (T.length + 1) cap) (T.length + 1) (cs ++ tkC ⟨2, (X : ByteArray).data.toList, [], A, sl⟩ (.slice aa A.length ac)) := by
                have e : tkC ⟨2, (X : ByteArray).data.toList, [], A, sl⟩ (.slice aa A.length ac) = [.int .i64 2, .string X, .string ⟨#[]⟩, .slice aa A.length ac, .bool sl] := by
                  unfold tkC
                  rw [strV_of (T := X) rfl]
                  rfl
                rw [e]
                exact hown
              have HA := Lib.hid (HV10.out.appended ((Below.refl _ _).alloc (Nat.le_refl _) (.cells #[.int .i64 2, .string X, .string ⟨#[]⟩, .slice aa A.length ac, .bool sl] 47)) t1 HT30.out HAT.out hown7 hgrow)
              have e1' := HA.out.2.1.q.c1
              have e1f := HA.out.2.1.q.free 1
              clear hown hgrow hat hlt6 hown7
              go_wp2
              try rw [Exit.noGoto_normal]
              go_end0
              have q2 := HA.out.2.1
              have q3 := q2.moved (q2.q.set1 (p + 1)) (q2.q.kset 1 _)
              have B3 : Below B wc _ := (HV10.out.frQb HA.out.2.2).trans (q2.form.onb (q2.q.kset 1 (.int .i64 ((p + 1 : Nat) : Int))))
              rw [Int.natCast_add] at q3 B3
              refine ⟨rfl, ?_, B10.trans B3⟩
              rw [HTM.out, push_other T _ (show (2 : Int) ≠ 1 by decide), hp1]
              exact (q3.up q3.mw (Nat.le_refl _)).form
        · have g62 : ((c.toNat : Int) == 62) = false := by rw [beq_eq_false_iff_ne]; exact fun e => h62 (byte_is (d := 62) e)
          have zp3 : (p : Int) ≤ 20000 := by omega
          obtain ⟨tv1, fv1, hv1⟩ := HQ
          have d0 := hv1.q.c0
          by_cases h47 : c = 47
          · subst h47
            rw [show (((47 : UInt8).toNat : Nat) : Int) = 47 from rfl] at i0
            have HR : Hid (LoopQ wr w B Q Tb s n T F true X I (((p + 1 : Nat)) : Int) true) := Lib.hid ⟨f, hv1.form, HB, hf, .inr ⟨p + 1, A, av, rfl, by omega, by omega, by omega, hA, HT, by rw [HG, hd, insG_skip true p 47 _ _ _ _ (.inl rfl)]; rfl, HAE⟩⟩
            clear hv1 HB HT HG HAE hd hc
            go_wp2
            go_roundw
            case rel => exact ⟨(p : Int) + 1, true, rfl, rfl, HR⟩
            case measure =>
              have e : ¬ ((p : Int) < 0) := by omega
              have e2 : ¬ ((p : Int) + 1 < 0) := by omega
              simp [intOf, e, e2]; omega
          · have g47 : ((c.toNat : Int) == 47) = false := by rw [beq_eq_false_iff_ne]; exact fun e => h47 (byte_is (d := 47) e)
            obtain ⟨bl, hbl⟩ : ∃ bl, blk c = bl := ⟨_, rfl⟩
            have CK := blankR_hid c bl hbl
            cases bl with
            | true =>
              have HR : Hid (LoopQ wr w B Q Tb s n T F true X I (((p + 1 : Nat)) : Int) false) := Lib.hid ⟨f, hv1.form, HB, hf, .inr ⟨p + 1, A, av, rfl, by omega, by omega, by omega, hA, HT, by rw [HG, hd, insG_skip true p c _ _ _ _ (.inr hbl), show (c == 47) = false from beq_eq_false_iff_ne.2 h47], HAE⟩⟩
              clear hv1 HB HT HG HAE hd hc hbl
              go_wp2_with fail
              (with_reducible refine (CK.out _).mono ?_)
              rintro e w5 ⟨rfl, rfl⟩
              go_wp2
              go_roundw
              case rel => exact ⟨(p : Int) + 1, false, rfl, rfl, HR⟩
              case measure =>
                have e : ¬ ((p : Int) < 0) := by omega
                have e2 : ¬ ((p : Int) + 1 < 0) := by omega
                simp [intOf, e, e2]; omega
            | false =>
              obtain ⟨e1, he⟩ : ∃ e1, 1 + ((s.data.toList.drop p).drop 1).findIdx attrE = e1 := ⟨_, rfl⟩
              have CA := attrQ_hid s p e1 true A he (fun h => by cases h) hA hlt hs
              have h2 : ¬ (c = 47 ∨ blk c = true) := fun e => by
                rcases e with e | e
                · exact h47 e
                · rw [hbl] at e; cases e
              have HVQ := Lib.hid hv1.form
              have HTQ := Lib.hid HT
              have hel := idx_le attrE ((s.data.toList.drop p).drop 1)
              rw [List.length_drop, List.length_drop, lsize] at hel
              have hstep : ∀ w6, QS w6 B w.heap.size Q s n T (((F ++ f) ++ (takeM true A p (low ((s.data.toList.drop p).take e1)) (outD (attV (p + e1) (s.data.toList.drop (p + e1))))).2) ++ outF (attV (p + e1) (s.data.toList.drop (p + e1)))) ⟨#[]⟩ → (∃ av', TA w6 w.heap.size Tb 2 X (takeM true A p (low ((s.data.toList.drop p).take e1)) (outD (attV (p + e1) (s.data.toList.drop (p + e1))))).1 false av') → Below B w w6 → LoopQ w6 w B Q Tb s n T F true X I (outV (p + e1) (attV (p + e1) (s.data.toList.drop (p + e1)))) false ∧ (if outV (p + e1) (attV (p + e1) (s.data.toList.drop (p + e1))) < 0 then 0 else s.size + 1 - (outV (p + e1) (attV (p + e1) (s.data.toList.drop (p + e1)))).toNat) < s.size + 1 - p := fun w6 h6 ht6 b6 => by
                obtain ⟨av', ht6⟩ := ht6
                cases hr : attV (p + e1) (s.data.toList.drop (p + e1)) with
                | none =>
                  rw [hr] at h6
                  refine ⟨⟨f ++ (takeM true A p (low ((s.data.toList.drop p).take e1)) (outD none)).2, ?_, b6, ?_, .inl ⟨rfl, ?_⟩⟩, ?_⟩
                  · have e : ∀ l : List Fl, l ++ outF none = l := fun l => List.append_nil l
                    rw [e, List.append_assoc] at h6
                    exact h6
                  · have := (takeM_len hA true p (low ((s.data.toList.drop p).take e1)) (outD none)).2
                    rw [List.length_append]
                    omega
                  · rw [HG]
                    exact insQ_none hc h62 h2 he hr
                  · show (if ((-1 : Int) < 0) then 0 else s.size + 1 - ((-1 : Int)).toNat) < _
                    rw [if_pos (by decide)]
                    omega
                | some q =>
                  rw [hr] at h6 ht6
                  have hi := insQ_some (st := true) (sl := sl) (A := A) (fl := f) hc h62 h2 he hr
                  rw [lsize] at hi
                  have htl := takeM_len hA true p (low ((s.data.toList.drop p).take e1)) q.1.1
                  have hq2 := hi.2.2
                  have hle := hi.2.1
                  refine ⟨⟨f ++ (takeM true A p (low ((s.data.toList.drop p).take e1)) q.1.1).2 ++ q.1.2, ?_, b6, ?_, .inr ⟨p + e1 + q.2, (takeM true A p (low ((s.data.toList.drop p).take e1)) q.1.1).1, av', rfl, by omega, hle, ?_, htl.1, ht6, ?_, ?_⟩⟩, ?_⟩
                  · rw [List.append_assoc, List.append_assoc] at h6
                    rw [List.append_assoc]
                    exact h6
                  · rw [List.length_append, List.length_append]
                    omega
                  · rw [List.length_append, List.length_append]
                    omega
                  · rw [HG]
                    exact hi.1
                  · intro h; cases h
                  · show (if (((p + e1 + q.2 : Nat) : Int) < 0) then 0 else s.size + 1 - (((p + e1 + q.2 : Nat) : Int)).toNat) < _
                    rw [if_neg (by omega), Int.toNat_natCast]
                    omega
              have HST := Lib.hid hstep
              obtain ⟨rv, hrv⟩ : ∃ rv, outV (p + e1) (attV (p + e1) (s.data.toList.drop (p + e1))) = rv := ⟨_, rfl⟩
              rw [hrv] at CA HST
              have hBB := HB
              have hFf : (F ++ f).length ≤ 300000 := by rw [List.length_append]; omega
              clear hv1 HB HT HG HAE hd hc hbl he h2 hel hstep hrv
              go_wp2_with fail
              (with_reducible refine (CK.out _).mono ?_)
              rintro e w5 ⟨rfl, rfl⟩
              go_wp2_with fail
              (with_reducible refine (CA.out _ _ _ _ _ _ _ _ _ _ _ _ HVQ.out HTQ.out hFf).mono ?_)
              rintro e w6 ⟨rfl, h6, ht6, b6⟩
              have HR := HST.out w6 h6 ht6 (hBB.trans b6)
              have HR1 := Lib.hid HR.1
              have hms := HR.2
              clear h6 ht6 b6 HST HR HVQ HTQ CA CK
              go_wp2
              go_roundw
              case rel => exact ⟨rv, false, rfl, rfl, HR1⟩
              case measure =>
                simp only [intOf, Int.toNat_natCast]
                exact hms

end Go.Proofs.YtfbhpmafjehojaaGreatDoor
