/- The program's reader: tags. The program's reader: a round. The program's Tokens. -/
import Derived.Test.YtfbhpmafjehojaaGreatDoorTokO
namespace Go.Proofs.YtfbhpmafjehojaaGreatDoor
open Go.RowKit

theorem gap_slash : gapL [47] = gapE := by
  funext c
  unfold gapL gapE oneOf
  congr 2
  rw [Bool.eq_iff_iff]
  simp
theorem suffix_slash (l : List UInt8) : Lib.hasSuffix l [47] = decide (l.getLast? = some 47) := by
  unfold Lib.hasSuffix
  rw [Bool.eq_iff_iff, List.isSuffixOf_iff_suffix, decide_eq_true_eq]
  constructor
  · rintro ⟨t, rfl⟩
    simp
  · intro h
    obtain ⟨t, rfl⟩ := List.getLast?_eq_some_iff.1 h
    exact ⟨t, rfl⟩
theorem hasSuf_hid (U : ByteArray) (b : Bool) (h : decide (U.data.toList.getLast? = some 47) = b) (hU : U.size ≤ 1000000) : Hid (∀ W, Calls Tryz.prog 64 #[.string U, .string ⟨#[47]⟩] W fun e w' => e = .returned (.bool b) ∧ w' = W) := Lib.hid fun W => by
  have := Tryz.strings_HasSuffix U ⟨#[47]⟩ W (by omega)
  rw [show (⟨#[47]⟩ : ByteArray).data.toList = [47] from rfl, suffix_slash, h] at this
  exact this
theorem txtH_len (H : List UInt8) : (txtH H).length ≤ 1 := by
  unfold txtH
  split <;> simp

set_option maxRecDepth 100000 in
set_option maxHeartbeats 16000000 in
theorem readTag_start (s : ByteArray) (n : Nat) (hb : beginsM [60] (s.data.toList.drop n) = true) (h60 : (s.data.toList.drop n).head? = some 60) (hsg : signS n (s.data.toList.drop n) = tagM true 1 n (s.data.toList.drop n)) (hnd : n + 1 < s.size) (hs : s.size ≤ 20000) : Hid (∀ W B m R H T F, RS W B m R s n H T F (.slice none 0 0) [] → H.length ≤ n → T.length ≤ n → F.length ≤ 3 * n → NoText T → Calls Tryz.prog 37 #[.pointer (some ⟨R, 0, none⟩), .int .i64 2, .string ⟨#[60]⟩] W (RoundP B R s n H T F W)) := Lib.hid fun w B m R H T F h0 hH hT hF hNT => by
  obtain ⟨j, hj⟩ : ∃ j, (s.data.toList.drop (n + 1)).findIdx nameE = j := ⟨_, rfl⟩
  have hjl := find_le nameE s (n + 1) (by omega)
  rw [hj] at hjl
  obtain ⟨N0, hN0⟩ := text_of ((s.data.toList.drop (n + 1)).take j)
  obtain ⟨X, hX⟩ := text_of (nameT 1 (s.data.toList.drop n))
  have hXN : X.data.toList = low N0.data.toList := by
    rw [hX, hN0]
    unfold nameT
    rw [List.drop_drop, hj]
  have hN0s : N0.size ≤ 20000 := by rw [← lsize, hN0, List.length_take, List.length_drop, lsize]; omega
  have hXs : X.size ≤ 20000 := by rw [← lsize, hXN, low_length, lsize]; exact hN0s
  have C1 := skip_hid R s ⟨#[60]⟩ n true hb (by omega) (by decide) (by omega) (by decide)
  rw [show (⟨#[60]⟩ : ByteArray).size = 1 from rfl] at C1
  simp only [if_true] at C1
  have C2 := takeUntil_hid R s ⟨#[47, 62]⟩ N0 (n + 1) (by rw [show (⟨#[47, 62]⟩ : ByteArray).data.toList = [47, 62] from rfl, nameE_oneOf, hj]; exact hN0) (by omega) (by omega)
  rw [show (⟨#[47, 62]⟩ : ByteArray).data.toList = [47, 62] from rfl, nameE_oneOf, hj] at C2
  have C3 := lower_hid N0 X hXN (by omega)
  have CF := fail_hid 140 n
  have CT := tell_hid
  have CA := fun q => atEnd_hid R s q
  obtain ⟨I, hI⟩ : ∃ I, insT true 1 n (s.data.toList.drop n) = I := ⟨_, rfl⟩
  have hI0 : I = insG true (n + 1 + j) (s.data.toList.drop (n + 1 + j)) [] [] false := by
    rw [← hI]
    unfold insT
    rw [List.drop_drop, hj, List.drop_drop, Nat.add_assoc]
  have HI := Lib.hid hI
  have HI0 := Lib.hid hI0
  have HXN := Lib.hid hX
  have HPRE := Lib.hid (And.intro h60 hsg)
  have HNT := Lib.hid hNT
  obtain ⟨p, bv, tv, fv, hrv⟩ := h0
  have hh := hrv.hold
  have hbw := hh.bw
  have hRm := hh.hi
  have d1 := hh.x.c1
  have d5 := hh.x.c5
  have HH := Lib.hid hh
  have hFV : ∃ a c, fv = .slice a F.length c := by
    rcases rowForms hh.hf with ⟨e1, e2⟩ | ⟨g, c, e1⟩
    · exact ⟨none, 0, by rw [e1, e2]⟩
    · exact ⟨_, _, e1⟩
  obtain ⟨fa, fc, rfl⟩ := hFV
  clear hj hN0 hX hXN hI hI0 hb h60 hsg hh hrv hNT
  go_enter Tryz.func37, Tryz.ntmps37
  go_wp2
  go_step3
  go_wp2
  go_quiet (fail)
  have HX0 := Lib.hid (HH.out.below (belowN (Below.refl w.heap.size w) nq))
  go_wp2_with fail
  (with_reducible refine (C1.out _ _ _ _ _ HX0.out.x).mono ?_)
  rintro e w1 ⟨rfl, x1, k1⟩
  have HX1 := Lib.hid (HX0.out.moved x1 k1)
  have B1 : Below B w w1 := ((belowN (Below.refl w.heap.size w) nq).mono hbw).trans (HX0.out.form.onb k1)
  clear x1 k1 HX0 d1 d5 C1
  go_wp2_with fail
  (with_reducible refine (C2.out _ _ _ _ _ HX1.out.x).mono ?_)
  rintro e w2 ⟨rfl, x2, k2⟩
  have HX2 := Lib.hid (HX1.out.moved x2 k2).form
  have B2 := B1.trans (HX1.out.form.onb k2)
  clear x2 k2 HX1 B1 C2
  go_wp2_with fail
  (with_reducible refine (C3.out _).mono ?_)
  rintro e w3 ⟨rfl, b3⟩
  have HX3 := Lib.hid (HX2.out.below b3)
  have B3 := B2.trans (b3.mono (Nat.le_trans hbw B2.size))
  clear b3 HX2 B2 C3
  go_wp2
  have hal := (Below.refl w3.heap.size w3).alloc (Nat.le_refl _) (.cells #[.int .i64 2, .string X, .string ⟨#[]⟩, .slice none 0 0, .bool false] 47)
  have HX4 := Lib.hid (HX3.out.below hal)
  have HT4 : Hid (TA (w3.alloc (.cells #[.int .i64 2, .string X, .string ⟨#[]⟩, .slice none 0 0, .bool false] 47)) w.heap.size w3.heap.size 2 X [] false (.slice none 0 0)) := Lib.hid ⟨new_block w3 _, World.ownsRow_nil _ _ _ _, B3.size⟩
  have B4 := B3.trans (hal.mono (Nat.le_trans hbw B3.size))
  generalize hTb : w3.heap.size = Tb at HT4 ⊢
  generalize w3.alloc (.cells #[.int .i64 2, .string X, .string ⟨#[]⟩, .slice none 0 0, .bool false] 47) = w4 at HX4 HT4 B4 ⊢
  clear hal HX3 B3 hTb
  go_step3
  go_wp2
  go_loopw [9] (fun _ wr => ∃ (q : Nat) (A : List (List UInt8 × List UInt8)) (f : List Fl) (av : Value), q ≤ s.size ∧ n < q ∧ A.length ≤ 30 ∧ f.length ≤ 2 * (q - n) ∧ Hid (RS wr B w.heap.size R s q H T (F ++ f) (.slice fa F.length fc) F ∧ TA wr w.heap.size Tb 2 X A false av ∧ Below B w wr ∧ I = insG true q (s.data.toList.drop q) A f false)) (fun _ wr => s.size - posOf R wr)
  case atStart => exact ⟨n + 1 + j, [], [], .slice none 0 0, hjl, by omega, by simp, by simp, Lib.hid ⟨by rw [List.append_nil]; exact HX4.out, HT4.out, B4, HI0.out⟩⟩
  case round =>
    clear HX4 HT4 B4
    obtain ⟨q, A, f, av, hq, hnq, hA, hf, HS⟩ := hrel
    obtain ⟨hr1, ht1, hb1, hi1⟩ := HS.out
    
    have hpos := Lib.hid hr1.pos
    obtain ⟨u, hu⟩ : ∃ u, (s.data.toList.drop q).findIdx gapE = u := ⟨_, rfl⟩
    have hul := find_le gapE s q hq
    rw [hu] at hul
    obtain ⟨U, hU⟩ := text_of ((s.data.toList.drop q).take u)
    have CK := skipAll_hid R s ⟨#[47]⟩ U q (by rw [show (⟨#[47]⟩ : ByteArray).data.toList = [47] from rfl, gap_slash, hu]; exact hU) hq (by omega)
    rw [show (⟨#[47]⟩ : ByteArray).data.toList = [47] from rfl, gap_slash, hu] at CK
    have hi2 := insG_gap true q (s.data.toList.drop q) A f
    rw [hu, List.drop_drop, ← hU, ← hi1] at hi2
    have HI2 := Lib.hid hi2
    have hUs : U.size ≤ 20000 := by rw [← lsize, hU, List.length_take, List.length_drop, lsize]; omega
    have HC : Hid (∀ c, s.data.toList[q + u]? = some c → gapE c = true) := Lib.hid fun c hc => find_hit hu hc
    obtain ⟨p1, bv1, tv1, fv1, hv1⟩ := hr1
    have HV1 := Lib.hid hv1
    have HT1 := Lib.hid ht1
    have HB1 := Lib.hid hb1
    clear hu hU hi1 hi2 hv1 ht1 hb1 HS
    go_wp2_with fail
    (with_reducible refine (CK.out _ _ _ _ _ HV1.out.x).mono ?_)
    rintro e w5 ⟨rfl, x5, k5⟩
    have HV5 := Lib.hid (HV1.out.moved x5 k5)
    have HT5 := Lib.hid (HT1.out.onR k5 hRm)
    have B5 := HB1.out.trans (HV1.out.form.onb k5)
    clear x5 k5 HV1 HT1 HB1 CK
    by_cases hend : q + u = s.size
    · have CE := CA (q + u) true (decide_eq_true hend)
      have HN : Hid (I = none) := Lib.hid (by rw [HI2.out, hend, show s.data.toList.drop s.size = [] by rw [← lsize]; simp, insG_nil])
      go_wp2_with fail
      (with_reducible refine (CE.out _ _ _ _ _ HV5.out.x).mono ?_)
      rintro e w6 ⟨rfl, b6⟩
      have HV6 := Lib.hid (HV5.out.below b6)
      have B6 := B5.trans (b6.mono (Nat.le_trans hbw B5.size))
      have d5 := HV6.out.x.c5
      have f5 := HV6.out.x.free 5
      have HV7 := Lib.hid HV6.out.restore
      have B7 := B6.trans (HV6.out.form.onb (HV6.out.x.kset 5 (.slice fa F.length fc)))
      clear b6 HV5 HT5 B5 HC B6
      go_wp2_with fail
      (with_reducible refine (CF.out _ _ _ _ _ _ _ _ _ _ _ HV7.out.form (by omega)).mono ?_)
      rintro e w8 ⟨rfl, h8, k8⟩
      have B8 := B7.trans (HV7.out.form.frb k8)
      have HR8 : Hid (RoundP B R s n H T F w (.returned (.tuple #[])) w8) := Lib.hid ⟨rfl, B8, _, s.size, H, T, F ++ [((140 : Int), n)], by rw [← hend]; exact h8.drop0, by
        have := rd_cut (H := H) (T := T) (F := F) HPRE.out.1 HPRE.out.2 (HI.out.trans HN.out)
        rw [lsize] at this
        exact this, by omega, Nat.le_refl _, HNT.out, by omega, by omega, by rw [List.length_append]; simp; omega⟩
      clear h8 k8 B8 HV7 HV6 B7 d5 f5
      go_wp2
      rw [Exit.noGoto_ret]
      go_end0
      exact HR8.out
    · have CE := CA (q + u) false (decide_eq_false hend)
      have hlt : q + u < s.size := by omega
      obtain ⟨c, hc⟩ : ∃ c, s.data.toList[q + u]? = some c := ⟨_, List.getElem?_eq_getElem (by rw [lsize]; exact hlt)⟩
      have hgap := HC.out c hc
      have hhead : (s.data.toList.drop (q + u)).head? = some c := by rw [head_get, List.getElem?_drop, Nat.add_zero]; exact hc
      go_wp2_with fail
      (with_reducible refine (CE.out _ _ _ _ _ HV5.out.x).mono ?_)
      rintro e w6 ⟨rfl, b6⟩
      have HV6 := Lib.hid (HV5.out.below b6)
      have HT6 := Lib.hid (HT5.out.below b6)
      have B6 := B5.trans (b6.mono (Nat.le_trans hbw B5.size))
      clear b6 HV5 HT5 B5 HC CE
      by_cases h62 : c = 62
      · subst h62
        have CS := skipE_hid R s 62 (q + u) true (decide_eq_true hhead) (by decide) (by decide) (by omega) (by omega)
        simp only [if_true] at CS
        obtain ⟨sl, hsl⟩ : ∃ sl, decide (U.data.toList.getLast? = some 47) = sl := ⟨_, rfl⟩
        have CU := hasSuf_hid U sl hsl (by omega)
        have HN : Hid (I = some (A, f, sl, q + u)) := Lib.hid (by
          rw [HI2.out, hsl]
          have hd : s.data.toList.drop (q + u) = 62 :: s.data.toList.drop (q + u + 1) := (head_drop hhead).2
          rw [hd, insG_end])
        clear hc hhead hsl hgap
        go_wp2_with fail
        (with_reducible refine (CS.out _ _ _ _ _ HV6.out.x).mono ?_)
        rintro e w7 ⟨rfl, x7, k7⟩
        have HV7 := Lib.hid (HV6.out.moved x7 k7).form
        have HT7 := Lib.hid (HT6.out.onR k7 hRm)
        have B7 := B6.trans (HV6.out.form.onb k7)
        have e4 := HT7.out.1.c4
        have g4 := HT7.out.1.free 4
        clear x7 k7 HV6 HT6 B6 CS

        go_wp2_with fail
        (with_reducible refine (CU.out _).mono ?_)
        rintro e w7 ⟨rfl, rfl⟩

        have t8 := HT7.out.1.set4 sl
        have ks8 : Kp (frA w.heap.size) w7 (w7.setCell ⟨Tb, 4, none⟩ (.bool sl)) := Kp.of_set HT7.out.1 _ ⟨HT7.out.2.2, .inl rfl⟩
        have HV8 := Lib.hid (HV7.out.side ks8)
        have HT8 : Hid (TA (w7.setCell ⟨Tb, 4, none⟩ (.bool sl)) w.heap.size Tb 2 X A sl av) := Lib.hid ⟨t8, (Kp.of_set (P := fun j _ => j = Tb) HT7.out.1 (.bool sl) rfl).row HT7.out.2.1 fun j hj _ e => row_ne HT7.out.2.1 HT7.out.1 (by decide) (by rw [hj, e]), HT7.out.2.2⟩
        have B8 := B7.trans (HV7.out.sideb ks8)
        have AB : AttrsBy (w7.setCell ⟨Tb, 4, none⟩ (.bool sl)) B (w7.setCell ⟨Tb, 4, none⟩ (.bool sl)).heap.size av A := ⟨ownsRow_low HT8.out.2.1 hbw, fun j hj => (HT8.out.2.1.lt j hj).2⟩
        have g0 := HT8.out.1.c0
        have g1 := HT8.out.1.c1
        have g2 := HT8.out.1.c2
        have g3 := HT8.out.1.c3
        have g5 := HT8.out.1.c4
        clear t8 ks8 HV7 HT7 B7 CU
        go_wp2_with fail
        (with_reducible refine (CT.out _ _ _ _ _ _ _ _ _ _ _ HV8.out (by omega) _ _ _ _ _ _ AB).mono ?_)
        rintro e w9 ⟨rfl, h9, b9, keep9⟩
        have T9 : TX w9 Tb 2 X av sl := keep9 Tb _ _ HT8.out.2.2 HT8.out.1
        have B9 := B8.trans b9
        have c91 := T9.c1
        have HR9 := Lib.hid h9
        clear h9 b9 keep9 T9 AB HV8 HT8 B8 g0 g1 g2 g3 g4 g5 e4

        obtain ⟨rb, hrb⟩ : ∃ rb, rawM X.data.toList = rb := ⟨_, rfl⟩
        have CW := rawP_hid X rb hrb
        have HRBX := Lib.hid hrb
        clear hrb
        cases rb with
        | false =>
          have HRB : (true && rawM (nameT 1 (s.data.toList.drop n))) = false := by rw [← HXN.out, HRBX.out]; rfl
          have HRP : Hid (RoundP B R s n H T F w (.returned (.tuple #[])) w9) := Lib.hid ⟨rfl, B9, _, q + u + 1, [], T ++ txtH H ++ [⟨2, X.data.toList, [], A, sl⟩], F ++ f, HR9.out.drop0, by
            rw [HXN.out]
            have := rd_tag (H := H) (T := T) (F := F) HPRE.out.1 HPRE.out.2 (HI.out.trans HN.out) (by omega) HRB
            exact this.cast rfl rfl rfl rfl, by omega, by omega, noText_snoc _ (by show (2 : Int) ≠ 1; decide), Nat.zero_le _, by
            have := txtH_len H
            rw [List.length_append, List.length_append]
            simp only [List.length_cons, List.length_nil]
            omega, by rw [List.length_append]; omega⟩
          clear HRB B9 HR9 HRBX HN
          go_wp2_with fail
          (with_reducible refine (CW.out _).mono ?_)
          rintro e w9 ⟨rfl, rfl⟩
          go_wp2
          rw [Exit.noGoto_normal]
          go_end0
          exact HRP.out
        | true =>
          have HRB : rawM (nameT 1 (s.data.toList.drop n)) = true := by rw [← HXN.out]; exact HRBX.out
          obtain ⟨D, hD⟩ := text_of (if softM X.data.toList then (decL (q + u + 1) ((s.data.toList.drop (q + u + 1)).take (endM X.data.toList (s.data.toList.drop (q + u + 1))))).1 else (s.data.toList.drop (q + u + 1)).take (endM X.data.toList (s.data.toList.drop (q + u + 1))))
          have CR := readRaw_hid s X D (q + u + 1) HRBX.out hD (by omega) hs
          have hle := endM_le X.data.toList (s.data.toList.drop (q + u + 1))
          have hrf := rawF_len X.data.toList (q + u + 1) (s.data.toList.drop (q + u + 1))
          rw [List.length_drop, lsize] at hle
          have hDs : D.data.toList.length ≤ endM X.data.toList (s.data.toList.drop (q + u + 1)) := by
            rw [hD]
            split
            · unfold decL
              simp only
              have := (decT_len (q + u + 1) ((s.data.toList.drop (q + u + 1)).take (endM X.data.toList (s.data.toList.drop (q + u + 1))))).1
              rw [List.length_take] at this
              omega
            · rw [List.length_take]; exact Nat.min_le_left _ _
          have HRD : Hid (Rd s.data.toList n H T F (q + u + 1 + endM X.data.toList (s.data.toList.drop (q + u + 1))) D.data.toList (T ++ txtH H ++ [⟨2, X.data.toList, [], A, sl⟩]) (F ++ f ++ rawF X.data.toList (q + u + 1) (s.data.toList.drop (q + u + 1)))) := Lib.hid (by
            have := rd_raw (H := H) (T := T) (F := F) (D := D.data.toList) HPRE.out.1 HPRE.out.2 (HI.out.trans HN.out) (by omega) (by rw [lsize]; omega) HRB (by rw [← HXN.out]; exact hD)
            rw [← HXN.out] at this
            exact this)
          obtain ⟨ee, hee⟩ : ∃ ee, endM X.data.toList (s.data.toList.drop (q + u + 1)) = ee := ⟨_, rfl⟩
          rw [hee] at CR hle hrf hDs HRD
          obtain ⟨rf, hrfe⟩ : ∃ rf, rawF X.data.toList (q + u + 1) (s.data.toList.drop (q + u + 1)) = rf := ⟨_, rfl⟩
          rw [hrfe] at CR hrf HRD
          clear hee hrfe hD HRB HN HRBX
          go_wp2_with fail
          (with_reducible refine (CW.out _).mono ?_)
          rintro e w9 ⟨rfl, rfl⟩
          go_wp2_with fail
          (with_reducible refine (CR.out _ _ _ _ _ _ _ _ _ HR9.out (by rw [List.length_append]; omega) (by simp)).mono ?_)
          rintro e w10 ⟨rfl, h10, b10⟩
          have HRP : Hid (RoundP B R s n H T F w (.returned (.tuple #[])) w10) := Lib.hid ⟨rfl, B9.trans b10, _, q + u + 1 + ee, D.data.toList, T ++ txtH H ++ [⟨2, X.data.toList, [], A, sl⟩], F ++ f ++ rf, h10.drop0, HRD.out, by omega, by omega, noText_snoc _ (by show (2 : Int) ≠ 1; decide), by omega, by
            have := txtH_len H
            rw [List.length_append, List.length_append]
            simp only [List.length_cons, List.length_nil]
            omega, by rw [List.length_append, List.length_append]; omega⟩
          clear h10 b10 B9 HR9 HRD CR
          go_wp2
          rw [Exit.noGoto_normal]
          go_end0
          exact HRP.out

      · have h47 : ¬ (c = 47 ∨ blk c = true) := by
          unfold gapE at hgap
          simp only [Bool.not_eq_true', Bool.or_eq_false_iff, beq_eq_false_iff_ne] at hgap
          rintro (h | h)
          · exact hgap.2 h
          · rw [hgap.1] at h; cases h
        have CS := skipE_hid R s 62 (q + u) false (decide_eq_false (by rw [hhead]; exact fun e => h62 (Option.some.inj e))) (by decide) (by decide) (by omega) (by omega)
        simp only [Bool.false_eq_true, if_false] at CS
        obtain ⟨e1, he1⟩ : ∃ e1, 1 + ((s.data.toList.drop (q + u)).drop 1).findIdx attrE = e1 := ⟨_, rfl⟩
        have hins := fun A => ins_attr s.data.toList true (decide (U.data.toList.getLast? = some 47)) (q + u) e1 A f c hc h62 h47 he1
        have CTT := attr2_hid s (q + u) e1 A he1 hA hlt hs
        have he1p : 1 ≤ e1 := by omega
        have hvf := val_fails (q + u + e1) (s.data.toList.drop (q + u + e1))
        obtain ⟨V, hV⟩ : ∃ V, valP (q + u + e1) (s.data.toList.drop (q + u + e1)) = V := ⟨_, rfl⟩
        obtain ⟨Xa, hXa⟩ : ∃ Xa, low ((s.data.toList.drop (q + u)).take e1) = Xa := ⟨_, rfl⟩
        rw [hV] at CTT hvf
        rw [hV] at hins
        rw [hXa] at CTT
        simp only [hXa] at hins
        have hq2 := (hins A).1
        rw [lsize] at hq2
        have HINS := Lib.hid (HI2.out.trans (hins A).2)
        have hlt2 := takeM_len hA true (q + u) Xa V.1.1
        have hla := hlt2.1
        have hlf := hlt2.2
        obtain ⟨TM, hTM⟩ : ∃ TM, takeM true A (q + u) Xa V.1.1 = TM := ⟨_, rfl⟩
        rw [hTM] at CTT HINS hla hlf
        clear hins hlt2 hTM
        clear hc hhead hgap h62 h47 he1 hV hXa
        go_wp2_with fail
        (with_reducible refine (CS.out _ _ _ _ _ HV6.out.x).mono ?_)
        rintro e w7 ⟨rfl, x7, k7⟩
        have HV7 := Lib.hid (HV6.out.moved x7 k7).form
        have HT7 := Lib.hid (HT6.out.onR k7 hRm)
        have B7 := B6.trans (HV6.out.form.onb k7)
        clear x7 k7 HV6 HT6 B6 CS
        go_wp2_with fail
        (with_reducible refine (CTT.out _ _ _ _ _ _ _ _ _ _ _ _ _ HV7.out HT7.out (by rw [List.length_append]; omega)).mono ?_)
        rintro e w8 ⟨rfl, h8, ⟨av8, t8⟩, b8⟩
        have hp8 := h8.pos
        have HNX := Lib.hid (And.intro h8 (And.intro t8 (B7.trans b8)))
        have HP8 := Lib.hid hp8
        clear h8 t8 b8 hp8 HV7 HT7 B7 CTT
        go_wp2
        go_roundw
        case rel => exact ⟨q + u + e1 + V.2.1, TM.1, f ++ TM.2 ++ V.1.2, av8, hq2, by omega, hla, by (rw [List.length_append, List.length_append]; omega), Lib.hid ⟨by (simp only [← List.append_assoc]); exact HNX.out.1, HNX.out.2.1, HNX.out.2.2, HINS.out⟩⟩
        case measure =>
          rw [HP8.out, hpos.out]
          omega

set_option maxRecDepth 100000 in
set_option maxHeartbeats 16000000 in
theorem readTag_end (s : ByteArray) (n : Nat) (hb : beginsM [60, 47] (s.data.toList.drop n) = true) (h60 : (s.data.toList.drop n).head? = some 60) (hsg : signS n (s.data.toList.drop n) = tagM false 2 n (s.data.toList.drop n)) (hnd : n + 2 < s.size) (hs : s.size ≤ 20000) : Hid (∀ W B m R H T F, RS W B m R s n H T F (.slice none 0 0) [] → H.length ≤ n → T.length ≤ n → F.length ≤ 3 * n → NoText T → Calls Tryz.prog 37 #[.pointer (some ⟨R, 0, none⟩), .int .i64 3, .string ⟨#[60, 47]⟩] W (RoundP B R s n H T F W)) := Lib.hid fun w B m R H T F h0 hH hT hF hNT => by
  obtain ⟨j, hj⟩ : ∃ j, (s.data.toList.drop (n + 2)).findIdx nameE = j := ⟨_, rfl⟩
  have hjl := find_le nameE s (n + 2) (by omega)
  rw [hj] at hjl
  obtain ⟨N0, hN0⟩ := text_of ((s.data.toList.drop (n + 2)).take j)
  obtain ⟨X, hX⟩ := text_of (nameT 2 (s.data.toList.drop n))
  have hXN : X.data.toList = low N0.data.toList := by
    rw [hX, hN0]
    unfold nameT
    rw [List.drop_drop, hj]
  have hN0s : N0.size ≤ 20000 := by rw [← lsize, hN0, List.length_take, List.length_drop, lsize]; omega
  have hXs : X.size ≤ 20000 := by rw [← lsize, hXN, low_length, lsize]; exact hN0s
  have C1 := skip_hid R s ⟨#[60, 47]⟩ n true hb (by omega) (by decide) (by omega) (by decide)
  rw [show (⟨#[60, 47]⟩ : ByteArray).size = 2 from rfl] at C1
  simp only [if_true] at C1
  have C2 := takeUntil_hid R s ⟨#[47, 62]⟩ N0 (n + 2) (by rw [show (⟨#[47, 62]⟩ : ByteArray).data.toList = [47, 62] from rfl, nameE_oneOf, hj]; exact hN0) (by omega) (by omega)
  rw [show (⟨#[47, 62]⟩ : ByteArray).data.toList = [47, 62] from rfl, nameE_oneOf, hj] at C2
  have C3 := lower_hid N0 X hXN (by omega)
  have CF := fail_hid 140 n
  have CT := tell_hid
  have CA := fun q => atEnd_hid R s q
  obtain ⟨I, hI⟩ : ∃ I, insT false 2 n (s.data.toList.drop n) = I := ⟨_, rfl⟩
  have hI0 : I = insG false (n + 2 + j) (s.data.toList.drop (n + 2 + j)) [] [] false := by
    rw [← hI]
    unfold insT
    rw [List.drop_drop, hj, List.drop_drop, Nat.add_assoc]
  have HI := Lib.hid hI
  have HI0 := Lib.hid hI0
  have HXN := Lib.hid hX
  have HPRE := Lib.hid (And.intro h60 hsg)
  have HNT := Lib.hid hNT
  obtain ⟨p, bv, tv, fv, hrv⟩ := h0
  have hh := hrv.hold
  have hbw := hh.bw
  have hRm := hh.hi
  have d1 := hh.x.c1
  have d5 := hh.x.c5
  have HH := Lib.hid hh
  have hFV : ∃ a c, fv = .slice a F.length c := by
    rcases rowForms hh.hf with ⟨e1, e2⟩ | ⟨g, c, e1⟩
    · exact ⟨none, 0, by rw [e1, e2]⟩
    · exact ⟨_, _, e1⟩
  obtain ⟨fa, fc, rfl⟩ := hFV
  clear hj hN0 hX hXN hI hI0 hb h60 hsg hh hrv hNT
  go_enter Tryz.func37, Tryz.ntmps37
  go_wp2
  go_step3
  go_wp2
  go_quiet (fail)
  have HX0 := Lib.hid (HH.out.below (belowN (Below.refl w.heap.size w) nq))
  go_wp2_with fail
  (with_reducible refine (C1.out _ _ _ _ _ HX0.out.x).mono ?_)
  rintro e w1 ⟨rfl, x1, k1⟩
  have HX1 := Lib.hid (HX0.out.moved x1 k1)
  have B1 : Below B w w1 := ((belowN (Below.refl w.heap.size w) nq).mono hbw).trans (HX0.out.form.onb k1)
  clear x1 k1 HX0 d1 d5 C1
  go_wp2_with fail
  (with_reducible refine (C2.out _ _ _ _ _ HX1.out.x).mono ?_)
  rintro e w2 ⟨rfl, x2, k2⟩
  have HX2 := Lib.hid (HX1.out.moved x2 k2).form
  have B2 := B1.trans (HX1.out.form.onb k2)
  clear x2 k2 HX1 B1 C2
  go_wp2_with fail
  (with_reducible refine (C3.out _).mono ?_)
  rintro e w3 ⟨rfl, b3⟩
  have HX3 := Lib.hid (HX2.out.below b3)
  have B3 := B2.trans (b3.mono (Nat.le_trans hbw B2.size))
  clear b3 HX2 B2 C3
  go_wp2
  have hal := (Below.refl w3.heap.size w3).alloc (Nat.le_refl _) (.cells #[.int .i64 3, .string X, .string ⟨#[]⟩, .slice none 0 0, .bool false] 47)
  have HX4 := Lib.hid (HX3.out.below hal)
  have HT4 : Hid (TA (w3.alloc (.cells #[.int .i64 3, .string X, .string ⟨#[]⟩, .slice none 0 0, .bool false] 47)) w.heap.size w3.heap.size 3 X [] false (.slice none 0 0)) := Lib.hid ⟨new_block w3 _, World.ownsRow_nil _ _ _ _, B3.size⟩
  have B4 := B3.trans (hal.mono (Nat.le_trans hbw B3.size))
  generalize hTb : w3.heap.size = Tb at HT4 ⊢
  generalize w3.alloc (.cells #[.int .i64 3, .string X, .string ⟨#[]⟩, .slice none 0 0, .bool false] 47) = w4 at HX4 HT4 B4 ⊢
  clear hal HX3 B3 hTb
  go_step3
  go_wp2
  go_loopw [9] (fun _ wr => ∃ (q : Nat) (A : List (List UInt8 × List UInt8)) (f : List Fl) (av : Value), q ≤ s.size ∧ n < q ∧ A.length ≤ 30 ∧ f.length ≤ 2 * (q - n) ∧ Hid (RS wr B w.heap.size R s q H T (F ++ f) (.slice fa F.length fc) F ∧ TA wr w.heap.size Tb 3 X A false av ∧ Below B w wr ∧ I = insG false q (s.data.toList.drop q) A f false ∧ A = [])) (fun _ wr => s.size - posOf R wr)
  case atStart => exact ⟨n + 2 + j, [], [], .slice none 0 0, hjl, by omega, by simp, by simp, Lib.hid ⟨by rw [List.append_nil]; exact HX4.out, HT4.out, B4, HI0.out, rfl⟩⟩
  case round =>
    clear HX4 HT4 B4
    obtain ⟨q, A, f, av, hq, hnq, hA, hf, HS⟩ := hrel
    obtain ⟨hr1, ht1, hb1, hi1, hA0⟩ := HS.out
    subst hA0
    have hpos := Lib.hid hr1.pos
    obtain ⟨u, hu⟩ : ∃ u, (s.data.toList.drop q).findIdx gapE = u := ⟨_, rfl⟩
    have hul := find_le gapE s q hq
    rw [hu] at hul
    obtain ⟨U, hU⟩ := text_of ((s.data.toList.drop q).take u)
    have CK := skipAll_hid R s ⟨#[47]⟩ U q (by rw [show (⟨#[47]⟩ : ByteArray).data.toList = [47] from rfl, gap_slash, hu]; exact hU) hq (by omega)
    rw [show (⟨#[47]⟩ : ByteArray).data.toList = [47] from rfl, gap_slash, hu] at CK
    have hi2 := insG_gap false q (s.data.toList.drop q) [] f
    rw [hu, List.drop_drop, ← hU, ← hi1] at hi2
    have HI2 := Lib.hid hi2
    have hUs : U.size ≤ 20000 := by rw [← lsize, hU, List.length_take, List.length_drop, lsize]; omega
    have HC : Hid (∀ c, s.data.toList[q + u]? = some c → gapE c = true) := Lib.hid fun c hc => find_hit hu hc
    obtain ⟨p1, bv1, tv1, fv1, hv1⟩ := hr1
    have HV1 := Lib.hid hv1
    have HT1 := Lib.hid ht1
    have HB1 := Lib.hid hb1
    clear hu hU hi1 hi2 hv1 ht1 hb1 HS
    go_wp2_with fail
    (with_reducible refine (CK.out _ _ _ _ _ HV1.out.x).mono ?_)
    rintro e w5 ⟨rfl, x5, k5⟩
    have HV5 := Lib.hid (HV1.out.moved x5 k5)
    have HT5 := Lib.hid (HT1.out.onR k5 hRm)
    have B5 := HB1.out.trans (HV1.out.form.onb k5)
    clear x5 k5 HV1 HT1 HB1 CK
    by_cases hend : q + u = s.size
    · have CE := CA (q + u) true (decide_eq_true hend)
      have HN : Hid (I = none) := Lib.hid (by rw [HI2.out, hend, show s.data.toList.drop s.size = [] by rw [← lsize]; simp, insG_nil])
      go_wp2_with fail
      (with_reducible refine (CE.out _ _ _ _ _ HV5.out.x).mono ?_)
      rintro e w6 ⟨rfl, b6⟩
      have HV6 := Lib.hid (HV5.out.below b6)
      have B6 := B5.trans (b6.mono (Nat.le_trans hbw B5.size))
      have d5 := HV6.out.x.c5
      have f5 := HV6.out.x.free 5
      have HV7 := Lib.hid HV6.out.restore
      have B7 := B6.trans (HV6.out.form.onb (HV6.out.x.kset 5 (.slice fa F.length fc)))
      clear b6 HV5 HT5 B5 HC B6
      go_wp2_with fail
      (with_reducible refine (CF.out _ _ _ _ _ _ _ _ _ _ _ HV7.out.form (by omega)).mono ?_)
      rintro e w8 ⟨rfl, h8, k8⟩
      have B8 := B7.trans (HV7.out.form.frb k8)
      have HR8 : Hid (RoundP B R s n H T F w (.returned (.tuple #[])) w8) := Lib.hid ⟨rfl, B8, _, s.size, H, T, F ++ [((140 : Int), n)], by rw [← hend]; exact h8.drop0, by
        have := rd_cut (H := H) (T := T) (F := F) HPRE.out.1 HPRE.out.2 (HI.out.trans HN.out)
        rw [lsize] at this
        exact this, by omega, Nat.le_refl _, HNT.out, by omega, by omega, by rw [List.length_append]; simp; omega⟩
      clear h8 k8 B8 HV7 HV6 B7 d5 f5
      go_wp2
      rw [Exit.noGoto_ret]
      go_end0
      exact HR8.out
    · have CE := CA (q + u) false (decide_eq_false hend)
      have hlt : q + u < s.size := by omega
      obtain ⟨c, hc⟩ : ∃ c, s.data.toList[q + u]? = some c := ⟨_, List.getElem?_eq_getElem (by rw [lsize]; exact hlt)⟩
      have hgap := HC.out c hc
      have hhead : (s.data.toList.drop (q + u)).head? = some c := by rw [head_get, List.getElem?_drop, Nat.add_zero]; exact hc
      go_wp2_with fail
      (with_reducible refine (CE.out _ _ _ _ _ HV5.out.x).mono ?_)
      rintro e w6 ⟨rfl, b6⟩
      have HV6 := Lib.hid (HV5.out.below b6)
      have HT6 := Lib.hid (HT5.out.below b6)
      have B6 := B5.trans (b6.mono (Nat.le_trans hbw B5.size))
      clear b6 HV5 HT5 B5 HC CE
      by_cases h62 : c = 62
      · subst h62
        have CS := skipE_hid R s 62 (q + u) true (decide_eq_true hhead) (by decide) (by decide) (by omega) (by omega)
        simp only [if_true] at CS
        obtain ⟨sl, hsl⟩ : ∃ sl, decide (U.data.toList.getLast? = some 47) = sl := ⟨_, rfl⟩
        have CU := hasSuf_hid U sl hsl (by omega)
        have HN : Hid (I = some ([], f, sl, q + u)) := Lib.hid (by
          rw [HI2.out, hsl]
          have hd : s.data.toList.drop (q + u) = 62 :: s.data.toList.drop (q + u + 1) := (head_drop hhead).2
          rw [hd, insG_end])
        clear hc hhead hsl hgap
        go_wp2_with fail
        (with_reducible refine (CS.out _ _ _ _ _ HV6.out.x).mono ?_)
        rintro e w7 ⟨rfl, x7, k7⟩
        have HV7 := Lib.hid (HV6.out.moved x7 k7).form
        have HT7 := Lib.hid (HT6.out.onR k7 hRm)
        have B7 := B6.trans (HV6.out.form.onb k7)
        have e4 := HT7.out.1.c4
        have g4 := HT7.out.1.free 4
        clear x7 k7 HV6 HT6 B6 CS

        have t8 := HT7.out.1.set4 false
        have ks8 : Kp (frA w.heap.size) w7 (w7.setCell ⟨Tb, 4, none⟩ (.bool false)) := Kp.of_set HT7.out.1 _ ⟨HT7.out.2.2, .inl rfl⟩
        have HV8 := Lib.hid (HV7.out.side ks8)
        have HT8 : Hid (TA (w7.setCell ⟨Tb, 4, none⟩ (.bool false)) w.heap.size Tb 3 X [] false av) := Lib.hid ⟨t8, (Kp.of_set (P := fun j _ => j = Tb) HT7.out.1 (.bool false) rfl).row HT7.out.2.1 fun j hj _ e => row_ne HT7.out.2.1 HT7.out.1 (by decide) (by rw [hj, e]), HT7.out.2.2⟩
        have B8 := B7.trans (HV7.out.sideb ks8)
        have AB : AttrsBy (w7.setCell ⟨Tb, 4, none⟩ (.bool false)) B (w7.setCell ⟨Tb, 4, none⟩ (.bool false)).heap.size av [] := ⟨ownsRow_low HT8.out.2.1 hbw, fun j hj => (HT8.out.2.1.lt j hj).2⟩
        have g0 := HT8.out.1.c0
        have g1 := HT8.out.1.c1
        have g2 := HT8.out.1.c2
        have g3 := HT8.out.1.c3
        have g5 := HT8.out.1.c4
        clear t8 ks8 HV7 HT7 B7 CU
        go_wp2_with fail
        (with_reducible refine (CT.out _ _ _ _ _ _ _ _ _ _ _ HV8.out (by omega) _ _ _ _ _ _ AB).mono ?_)
        rintro e w9 ⟨rfl, h9, b9, keep9⟩
        have T9 : TX w9 Tb 3 X av false := keep9 Tb _ _ HT8.out.2.2 HT8.out.1
        have B9 := B8.trans b9
        have c91 := T9.c1
        have HR9 := Lib.hid h9
        clear h9 b9 keep9 T9 AB HV8 HT8 B8 g0 g1 g2 g3 g4 g5 e4

        have HRB : (false && rawM (nameT 2 (s.data.toList.drop n))) = false := rfl
        have HRP : Hid (RoundP B R s n H T F w (.returned (.tuple #[])) w9) := Lib.hid ⟨rfl, B9, _, q + u + 1, [], T ++ txtH H ++ [⟨3, X.data.toList, [], [], false⟩], F ++ f, HR9.out.drop0, by
          rw [HXN.out]
          have := rd_tag (H := H) (T := T) (F := F) HPRE.out.1 HPRE.out.2 (HI.out.trans HN.out) (by omega) HRB
          exact this.cast rfl rfl rfl rfl, by omega, by omega, noText_snoc _ (by show (3 : Int) ≠ 1; decide), Nat.zero_le _, by
          have := txtH_len H
          rw [List.length_append, List.length_append]
          simp only [List.length_cons, List.length_nil]
          omega, by rw [List.length_append]; omega⟩
        clear HRB B9 HR9 HN
        go_wp2
        rw [Exit.noGoto_normal]
        go_end0
        exact HRP.out

      · have h47 : ¬ (c = 47 ∨ blk c = true) := by
          unfold gapE at hgap
          simp only [Bool.not_eq_true', Bool.or_eq_false_iff, beq_eq_false_iff_ne] at hgap
          rintro (h | h)
          · exact hgap.2 h
          · rw [hgap.1] at h; cases h
        have CS := skipE_hid R s 62 (q + u) false (decide_eq_false (by rw [hhead]; exact fun e => h62 (Option.some.inj e))) (by decide) (by decide) (by omega) (by omega)
        simp only [Bool.false_eq_true, if_false] at CS
        obtain ⟨e1, he1⟩ : ∃ e1, 1 + ((s.data.toList.drop (q + u)).drop 1).findIdx attrE = e1 := ⟨_, rfl⟩
        have hins := fun A => ins_attr s.data.toList false (decide (U.data.toList.getLast? = some 47)) (q + u) e1 A f c hc h62 h47 he1
        have CTT := attr3_hid s (q + u) e1 he1 hlt hs
        have he1p : 1 ≤ e1 := by omega
        have hvf := val_fails (q + u + e1) (s.data.toList.drop (q + u + e1))
        obtain ⟨V, hV⟩ : ∃ V, valP (q + u + e1) (s.data.toList.drop (q + u + e1)) = V := ⟨_, rfl⟩
        obtain ⟨Xa, hXa⟩ : ∃ Xa, low ((s.data.toList.drop (q + u)).take e1) = Xa := ⟨_, rfl⟩
        rw [hV] at CTT hvf
        rw [hV] at hins
        simp only [hXa] at hins
        have hq2 := (hins []).1
        rw [lsize] at hq2
        have hin2 := (hins []).2
        rw [show takeM false [] (q + u) Xa V.1.1 = ([], []) from rfl] at hin2
        simp only [List.append_nil] at hin2
        have HINS := Lib.hid (HI2.out.trans hin2)
        clear hins hin2
        clear hc hhead hgap h62 h47 he1 hV hXa
        go_wp2_with fail
        (with_reducible refine (CS.out _ _ _ _ _ HV6.out.x).mono ?_)
        rintro e w7 ⟨rfl, x7, k7⟩
        have HV7 := Lib.hid (HV6.out.moved x7 k7).form
        have HT7 := Lib.hid (HT6.out.onR k7 hRm)
        have B7 := B6.trans (HV6.out.form.onb k7)
        clear x7 k7 HV6 HT6 B6 CS
        go_wp2_with fail
        (with_reducible refine (CTT.out _ _ _ _ _ _ _ _ _ _ _ _ _ HV7.out HT7.out (by rw [List.length_append]; omega)).mono ?_)
        rintro e w8 ⟨rfl, h8, ⟨av8, t8⟩, b8⟩
        have hp8 := h8.pos
        have HNX := Lib.hid (And.intro h8 (And.intro t8 (B7.trans b8)))
        have HP8 := Lib.hid hp8
        clear h8 t8 b8 hp8 HV7 HT7 B7 CTT
        go_wp2
        go_roundw
        case rel => exact ⟨q + u + e1 + V.2.1, [], f ++ V.1.2, av8, hq2, by omega, by simp, by (rw [List.length_append]; omega), Lib.hid ⟨by (simp only [← List.append_assoc]); exact HNX.out.1, HNX.out.2.1, HNX.out.2.2, HINS.out, rfl⟩⟩
        case measure =>
          rw [HP8.out, hpos.out]
          omega

end Go.Proofs.YtfbhpmafjehojaaGreatDoor

namespace Go.Proofs.YtfbhpmafjehojaaGreatDoor
open Go.RowKit

theorem beginsT_hid (R : Nat) (s z : ByteArray) (n : Nat) (v : Bool) (h : (beginsM z.data.toList (s.data.toList.drop n) && (s.data.toList[n + z.size]?).any letB) = v) (hn : n ≤ s.size) (hz : low z.data.toList = z.data.toList) (hs : s.size ≤ 1000000000) (hzs : z.size ≤ 1000000000) : Hid (∀ W p bv tv fv, RX W R s n p bv tv fv → Calls Tryz.prog 36 #[.pointer (some ⟨R, 0, none⟩), .string z] W fun e w' => e = .returned (.bool v) ∧ Below W.heap.size W w') := by
  rw [← h]
  exact beginsTag_hid R s z n _ _ rfl rfl hn hz hs hzs
theorem RoundP.from {B R : Nat} {s : ByteArray} {n : Nat} {H : List UInt8} {T : List Tk} {F : List Fl} {W W1 w' : World} {e : Ending} (h : RoundP B R s n H T F W1 e w') (b : Below B W W1) : RoundP B R s n H T F W e w' := ⟨h.1, b.trans h.2.1, h.2.2⟩
theorem begins_len {z l : List UInt8} (h : beginsM z l = true) : z.length ≤ l.length := by
  unfold beginsM at h
  simp only [Bool.and_eq_true, decide_eq_true_eq] at h
  exact h.1
theorem begins_head {z l : List UInt8} (h : beginsM (60 :: z) l = true) : l.head? = some 60 := by
  unfold beginsM at h
  simp only [Bool.and_eq_true, decide_eq_true_eq] at h
  cases l with
  | nil => simp at h
  | cons c r =>
    have := h.2
    simp only [List.length_cons, List.take_succ_cons, low, List.map_cons, List.cons.injEq] at this
    rw [low_back this.1 (by decide)]
    rfl
theorem begins_no {z l : List UInt8} (h : l.head? ≠ some 60) : beginsM (60 :: z) l = false := by
  cases hb : beginsM (60 :: z) l with
  | false => rfl
  | true => exact absurd (begins_head hb) h
theorem note_none {k : Int} {d n : Nat} {z l : List UInt8} (h : findT z (l.drop d) = none) : noteM k d n z l = ⟨some ⟨k, [], if k = 5 then trim (l.drop d) else l.drop d, [], false⟩, [(140, n)], l.length, []⟩ := by
  unfold noteM
  rw [h]
theorem note_some {k : Int} {d n i : Nat} {z l : List UInt8} (h : findT z (l.drop d) = some i) : noteM k d n z l = ⟨some ⟨k, [], if k = 5 then trim ((l.drop d).take i) else (l.drop d).take i, [], false⟩, [], d + i + z.length, []⟩ := by
  unfold noteM
  rw [h]

set_option maxRecDepth 100000 in
set_option maxHeartbeats 8000000 in
theorem leaf_end (s : ByteArray) (n : Nat) (t0 : (beginsM [60, 47] (s.data.toList.drop n) && (s.data.toList[n + 2]?).any letB) = true) (h60 : (s.data.toList.drop n).head? = some 60) (hsg : signS n (s.data.toList.drop n) = tagM false 2 n (s.data.toList.drop n)) (hnd : n + 2 < s.size) (_hn : n < s.size) (hs : s.size ≤ 20000) : Hid (∀ W B m R H T F, RS W B m R s n H T F (.slice none 0 0) [] → H.length ≤ n → T.length ≤ n → F.length ≤ 3 * n → NoText T → Calls Tryz.prog 26 #[.pointer (some ⟨R, 0, none⟩)] W (RoundP B R s n H T F W)) := Lib.hid fun w B m R H T F h0 hH hT hF hNT => by
  have K0 := beginsT_hid R s ⟨#[60, 47]⟩ n true t0 (by omega) (by decide) (by omega) (by decide)
  have hbz : beginsM [60, 47] (s.data.toList.drop n) = true := (Bool.and_eq_true _ _ ▸ t0).1
  have C := readTag_end s n hbz h60 hsg hnd hs
  clear hbz h60 hsg
  obtain ⟨p, bv, tv, fv, hx⟩ := h0
  have hbw := hx.bw
  have HX := Lib.hid hx
  clear hx t0
  go_enter Tryz.func26, Tryz.ntmps26
  have B0 : Below B w w := Below.refl _ _
  go_wp2_with fail
  (with_reducible refine (K0.out _ _ _ _ _ HX.out.x).mono ?_)
  rintro e wa0 ⟨rfl, bb⟩
  have HX := Lib.hid (HX.out.below bb)
  have B0 := B0.trans (bb.mono (Nat.le_trans hbw B0.size))
  clear bb K0
  go_wp2_with fail
  (with_reducible refine (C.out _ _ _ _ _ _ _ HX.out.form hH hT hF hNT).mono ?_)
  intro e w2 hr
  have HR := Lib.hid (hr.from B0)
  obtain ⟨rfl, -, -⟩ := hr
  clear HX B0 C
  go_wp2
  go_end0
  exact HR.out

set_option maxRecDepth 100000 in
set_option maxHeartbeats 8000000 in
theorem leaf_start (s : ByteArray) (n : Nat) (t0 : (beginsM [60, 47] (s.data.toList.drop n) && (s.data.toList[n + 2]?).any letB) = false) (t1 : (beginsM [60] (s.data.toList.drop n) && (s.data.toList[n + 1]?).any letB) = true) (h60 : (s.data.toList.drop n).head? = some 60) (hsg : signS n (s.data.toList.drop n) = tagM true 1 n (s.data.toList.drop n)) (hnd : n + 1 < s.size) (_hn : n < s.size) (hs : s.size ≤ 20000) : Hid (∀ W B m R H T F, RS W B m R s n H T F (.slice none 0 0) [] → H.length ≤ n → T.length ≤ n → F.length ≤ 3 * n → NoText T → Calls Tryz.prog 26 #[.pointer (some ⟨R, 0, none⟩)] W (RoundP B R s n H T F W)) := Lib.hid fun w B m R H T F h0 hH hT hF hNT => by
  have K0 := beginsT_hid R s ⟨#[60, 47]⟩ n false t0 (by omega) (by decide) (by omega) (by decide)
  have K1 := beginsT_hid R s ⟨#[60]⟩ n true t1 (by omega) (by decide) (by omega) (by decide)
  have hbz : beginsM [60] (s.data.toList.drop n) = true := (Bool.and_eq_true _ _ ▸ t1).1
  have C := readTag_start s n hbz h60 hsg hnd hs
  clear hbz h60 hsg
  obtain ⟨p, bv, tv, fv, hx⟩ := h0
  have hbw := hx.bw
  have HX := Lib.hid hx
  clear hx t0 t1
  go_enter Tryz.func26, Tryz.ntmps26
  have B0 : Below B w w := Below.refl _ _
  go_wp2_with fail
  (with_reducible refine (K0.out _ _ _ _ _ HX.out.x).mono ?_)
  rintro e wa0 ⟨rfl, bb⟩
  have HX := Lib.hid (HX.out.below bb)
  have B0 := B0.trans (bb.mono (Nat.le_trans hbw B0.size))
  clear bb K0
  go_wp2_with fail
  (with_reducible refine (K1.out _ _ _ _ _ HX.out.x).mono ?_)
  rintro e wa1 ⟨rfl, bb⟩
  have HX := Lib.hid (HX.out.below bb)
  have B0 := B0.trans (bb.mono (Nat.le_trans hbw B0.size))
  clear bb K1
  go_wp2_with fail
  (with_reducible refine (C.out _ _ _ _ _ _ _ HX.out.form hH hT hF hNT).mono ?_)
  intro e w2 hr
  have HR := Lib.hid (hr.from B0)
  obtain ⟨rfl, -, -⟩ := hr
  clear HX B0 C
  go_wp2
  go_end0
  exact HR.out

set_option maxRecDepth 100000 in
set_option maxHeartbeats 8000000 in
theorem leaf_note_yes (s : ByteArray) (n : Nat) (t0 : (beginsM [60, 47] (s.data.toList.drop n) && (s.data.toList[n + 2]?).any letB) = false) (t1 : (beginsM [60] (s.data.toList.drop n) && (s.data.toList[n + 1]?).any letB) = false) (t2 : beginsM [60, 33, 45, 45] (s.data.toList.drop n) = true) (i : Nat) (h60 : (s.data.toList.drop n).head? = some 60) (hsg : signS n (s.data.toList.drop n) = noteM 4 4 n [45, 45, 62] (s.data.toList.drop n)) (hf : findT [45, 45, 62] (s.data.toList.drop (n + 4)) = some i) (hnd : n + 4 ≤ s.size) (_hn : n < s.size) (hs : s.size ≤ 20000) : Hid (∀ W B m R H T F, RS W B m R s n H T F (.slice none 0 0) [] → H.length ≤ n → T.length ≤ n → F.length ≤ 3 * n → NoText T → Calls Tryz.prog 26 #[.pointer (some ⟨R, 0, none⟩)] W (RoundP B R s n H T F W)) := Lib.hid fun w B m R H T F h0 hH hT hF hNT => by
  have K0 := beginsT_hid R s ⟨#[60, 47]⟩ n false t0 (by omega) (by decide) (by omega) (by decide)
  have K1 := beginsT_hid R s ⟨#[60]⟩ n false t1 (by omega) (by decide) (by omega) (by decide)
  have K2 := begins_hid R s ⟨#[60, 33, 45, 45]⟩ n true t2 (by omega) (by decide) (by omega) (by decide)
  obtain ⟨DD, hDD⟩ := text_of (((s.data.toList.drop (n + 4)).take i))
  have C := marked_note_yes s ⟨#[45, 45, 62]⟩ DD n 4 i hf hDD (by omega) (by decide) hs
  rw [show (((4 : Nat)) : Int) = 4 from rfl] at C
  have hll : (s.data.toList.drop n).length = s.size - n := by rw [List.length_drop, lsize]
  have hpos : n + 4 + i + 3 ≤ s.size := by
    have := findT_le _ _ _ hf
    rw [List.length_drop, lsize] at this
    simp only [List.length_cons, List.length_nil] at this
    omega
  have HRD : Hid (Rd s.data.toList n H T F (n + 4 + i + 3) [] (T ++ txtH H ++ [⟨4, [], DD.data.toList, [], false⟩]) F) := Lib.hid (by
    have hf2 : findT [45, 45, 62] ((s.data.toList.drop n).drop 4) = some i := by rw [List.drop_drop]; exact hf
    rw [note_some hf2] at hsg
    have := rd_note (H := H) (T := T) (F := F) h60 hsg rfl (by show 1 ≤ 4 + i + 3; omega) rfl (by show (4 : Int) ≠ 1; decide)
    refine this.cast (by show n + (4 + i + 3) = _; omega) rfl ?_ ?_
    · rw [hDD]
      simp [List.drop_drop]
    · simp)
  clear h60 hsg hf hDD hll
  obtain ⟨p, bv, tv, fv, hx⟩ := h0
  have hbw := hx.bw
  have HX := Lib.hid hx
  clear hx t0 t1 t2
  go_enter Tryz.func26, Tryz.ntmps26
  have B0 : Below B w w := Below.refl _ _
  go_wp2_with fail
  (with_reducible refine (K0.out _ _ _ _ _ HX.out.x).mono ?_)
  rintro e wa0 ⟨rfl, bb⟩
  have HX := Lib.hid (HX.out.below bb)
  have B0 := B0.trans (bb.mono (Nat.le_trans hbw B0.size))
  clear bb K0
  go_wp2_with fail
  (with_reducible refine (K1.out _ _ _ _ _ HX.out.x).mono ?_)
  rintro e wa1 ⟨rfl, bb⟩
  have HX := Lib.hid (HX.out.below bb)
  have B0 := B0.trans (bb.mono (Nat.le_trans hbw B0.size))
  clear bb K1
  go_wp2_with fail
  (with_reducible refine (K2.out _ _ _ _ _ HX.out.x).mono ?_)
  rintro e wa2 ⟨rfl, bb⟩
  have HX := Lib.hid (HX.out.below bb)
  have B0 := B0.trans (bb.mono (Nat.le_trans hbw B0.size))
  clear bb K2
  have h2 := HX.out.form
  clear HX
  go_wp2_with fail
  (with_reducible refine (C.out _ _ _ _ _ _ _ _ _ h2 (by omega) (by omega)).mono ?_)
  rintro e w3 ⟨rfl, h3, b3⟩
  have HR : Hid (RoundP B R s n H T F w (.returned (.tuple #[])) w3) := Lib.hid ⟨rfl, B0.trans b3, _, n + 4 + i + 3, [], _, _, h3, HRD.out, by omega, by omega, noText_snoc _ (by show (4 : Int) ≠ 1; decide), by simp, by
    have := txtH_len H
    rw [List.length_append, List.length_append]
    simp only [List.length_cons, List.length_nil]
    omega, by omega⟩
  clear h3 b3 h2 B0 C HRD
  go_wp2
  go_end0
  exact HR.out

set_option maxRecDepth 100000 in
set_option maxHeartbeats 8000000 in
theorem leaf_doc_yes (s : ByteArray) (n : Nat) (t0 : (beginsM [60, 47] (s.data.toList.drop n) && (s.data.toList[n + 2]?).any letB) = false) (t1 : (beginsM [60] (s.data.toList.drop n) && (s.data.toList[n + 1]?).any letB) = false) (t2 : beginsM [60, 33, 45, 45] (s.data.toList.drop n) = false) (t3 : beginsM [60, 33, 100, 111, 99, 116, 121, 112, 101] (s.data.toList.drop n) = true) (i : Nat) (h60 : (s.data.toList.drop n).head? = some 60) (hsg : signS n (s.data.toList.drop n) = noteM 5 9 n [62] (s.data.toList.drop n)) (hf : findT [62] (s.data.toList.drop (n + 9)) = some i) (hnd : n + 9 ≤ s.size) (_hn : n < s.size) (hs : s.size ≤ 20000) : Hid (∀ W B m R H T F, RS W B m R s n H T F (.slice none 0 0) [] → H.length ≤ n → T.length ≤ n → F.length ≤ 3 * n → NoText T → Calls Tryz.prog 26 #[.pointer (some ⟨R, 0, none⟩)] W (RoundP B R s n H T F W)) := Lib.hid fun w B m R H T F h0 hH hT hF hNT => by
  have K0 := beginsT_hid R s ⟨#[60, 47]⟩ n false t0 (by omega) (by decide) (by omega) (by decide)
  have K1 := beginsT_hid R s ⟨#[60]⟩ n false t1 (by omega) (by decide) (by omega) (by decide)
  have K2 := begins_hid R s ⟨#[60, 33, 45, 45]⟩ n false t2 (by omega) (by decide) (by omega) (by decide)
  have K3 := begins_hid R s ⟨#[60, 33, 100, 111, 99, 116, 121, 112, 101]⟩ n true t3 (by omega) (by decide) (by omega) (by decide)
  obtain ⟨DD, hDD⟩ := text_of (trim ((s.data.toList.drop (n + 9)).take i))
  have C := marked_doc_yes s ⟨#[62]⟩ DD n 9 i hf hDD (by omega) (by decide) hs
  rw [show (((9 : Nat)) : Int) = 9 from rfl] at C
  have hll : (s.data.toList.drop n).length = s.size - n := by rw [List.length_drop, lsize]
  have hpos : n + 9 + i + 1 ≤ s.size := by
    have := findT_le _ _ _ hf
    rw [List.length_drop, lsize] at this
    simp only [List.length_cons, List.length_nil] at this
    omega
  have HRD : Hid (Rd s.data.toList n H T F (n + 9 + i + 1) [] (T ++ txtH H ++ [⟨5, [], DD.data.toList, [], false⟩]) F) := Lib.hid (by
    have hf2 : findT [62] ((s.data.toList.drop n).drop 9) = some i := by rw [List.drop_drop]; exact hf
    rw [note_some hf2] at hsg
    have := rd_note (H := H) (T := T) (F := F) h60 hsg rfl (by show 1 ≤ 9 + i + 1; omega) rfl (by show (5 : Int) ≠ 1; decide)
    refine this.cast (by show n + (9 + i + 1) = _; omega) rfl ?_ ?_
    · rw [hDD]
      simp [List.drop_drop]
    · simp)
  clear h60 hsg hf hDD hll
  obtain ⟨p, bv, tv, fv, hx⟩ := h0
  have hbw := hx.bw
  have HX := Lib.hid hx
  clear hx t0 t1 t2 t3
  go_enter Tryz.func26, Tryz.ntmps26
  have B0 : Below B w w := Below.refl _ _
  go_wp2_with fail
  (with_reducible refine (K0.out _ _ _ _ _ HX.out.x).mono ?_)
  rintro e wa0 ⟨rfl, bb⟩
  have HX := Lib.hid (HX.out.below bb)
  have B0 := B0.trans (bb.mono (Nat.le_trans hbw B0.size))
  clear bb K0
  go_wp2_with fail
  (with_reducible refine (K1.out _ _ _ _ _ HX.out.x).mono ?_)
  rintro e wa1 ⟨rfl, bb⟩
  have HX := Lib.hid (HX.out.below bb)
  have B0 := B0.trans (bb.mono (Nat.le_trans hbw B0.size))
  clear bb K1
  go_wp2_with fail
  (with_reducible refine (K2.out _ _ _ _ _ HX.out.x).mono ?_)
  rintro e wa2 ⟨rfl, bb⟩
  have HX := Lib.hid (HX.out.below bb)
  have B0 := B0.trans (bb.mono (Nat.le_trans hbw B0.size))
  clear bb K2
  go_wp2_with fail
  (with_reducible refine (K3.out _ _ _ _ _ HX.out.x).mono ?_)
  rintro e wa3 ⟨rfl, bb⟩
  have HX := Lib.hid (HX.out.below bb)
  have B0 := B0.trans (bb.mono (Nat.le_trans hbw B0.size))
  clear bb K3
  have h2 := HX.out.form
  clear HX
  go_wp2_with fail
  (with_reducible refine (C.out _ _ _ _ _ _ _ _ _ h2 (by omega) (by omega)).mono ?_)
  rintro e w3 ⟨rfl, h3, b3⟩
  have HR : Hid (RoundP B R s n H T F w (.returned (.tuple #[])) w3) := Lib.hid ⟨rfl, B0.trans b3, _, n + 9 + i + 1, [], _, _, h3, HRD.out, by omega, by omega, noText_snoc _ (by show (5 : Int) ≠ 1; decide), by simp, by
    have := txtH_len H
    rw [List.length_append, List.length_append]
    simp only [List.length_cons, List.length_nil]
    omega, by omega⟩
  clear h3 b3 h2 B0 C HRD
  go_wp2
  go_end0
  exact HR.out

set_option maxRecDepth 100000 in
set_option maxHeartbeats 8000000 in
theorem leaf_sign4_yes (s : ByteArray) (n : Nat) (t0 : (beginsM [60, 47] (s.data.toList.drop n) && (s.data.toList[n + 2]?).any letB) = false) (t1 : (beginsM [60] (s.data.toList.drop n) && (s.data.toList[n + 1]?).any letB) = false) (t2 : beginsM [60, 33, 45, 45] (s.data.toList.drop n) = false) (t3 : beginsM [60, 33, 100, 111, 99, 116, 121, 112, 101] (s.data.toList.drop n) = false) (t4 : beginsM [60, 33] (s.data.toList.drop n) = true) (i : Nat) (h60 : (s.data.toList.drop n).head? = some 60) (hsg : signS n (s.data.toList.drop n) = { noteM 4 2 n [62] (s.data.toList.drop n) with f := (141, n) :: (noteM 4 2 n [62] (s.data.toList.drop n)).f }) (hf : findT [62] (s.data.toList.drop (n + 2)) = some i) (hnd : n + 2 ≤ s.size) (_hn : n < s.size) (hs : s.size ≤ 20000) : Hid (∀ W B m R H T F, RS W B m R s n H T F (.slice none 0 0) [] → H.length ≤ n → T.length ≤ n → F.length ≤ 3 * n → NoText T → Calls Tryz.prog 26 #[.pointer (some ⟨R, 0, none⟩)] W (RoundP B R s n H T F W)) := Lib.hid fun w B m R H T F h0 hH hT hF hNT => by
  have K0 := beginsT_hid R s ⟨#[60, 47]⟩ n false t0 (by omega) (by decide) (by omega) (by decide)
  have K1 := beginsT_hid R s ⟨#[60]⟩ n false t1 (by omega) (by decide) (by omega) (by decide)
  have K2 := begins_hid R s ⟨#[60, 33, 45, 45]⟩ n false t2 (by omega) (by decide) (by omega) (by decide)
  have K3 := begins_hid R s ⟨#[60, 33, 100, 111, 99, 116, 121, 112, 101]⟩ n false t3 (by omega) (by decide) (by omega) (by decide)
  have K4 := begins_hid R s ⟨#[60, 33]⟩ n true t4 (by omega) (by decide) (by omega) (by decide)
  obtain ⟨DD, hDD⟩ := text_of (((s.data.toList.drop (n + 2)).take i))
  have C := marked_note_yes s ⟨#[62]⟩ DD n 2 i hf hDD (by omega) (by decide) hs
  rw [show (((2 : Nat)) : Int) = 2 from rfl] at C
  have hll : (s.data.toList.drop n).length = s.size - n := by rw [List.length_drop, lsize]
  have hpos : n + 2 + i + 1 ≤ s.size := by
    have := findT_le _ _ _ hf
    rw [List.length_drop, lsize] at this
    simp only [List.length_cons, List.length_nil] at this
    omega
  have HRD : Hid (Rd s.data.toList n H T F (n + 2 + i + 1) [] (T ++ txtH H ++ [⟨4, [], DD.data.toList, [], false⟩]) (F ++ [((141 : Int), n)])) := Lib.hid (by
    have hf2 : findT [62] ((s.data.toList.drop n).drop 2) = some i := by rw [List.drop_drop]; exact hf
    rw [note_some hf2] at hsg
    have := rd_note (H := H) (T := T) (F := F) h60 hsg rfl (by show 1 ≤ 2 + i + 1; omega) rfl (by show (4 : Int) ≠ 1; decide)
    refine this.cast (by show n + (2 + i + 1) = _; omega) rfl ?_ ?_
    · rw [hDD]
      simp [List.drop_drop]
    · simp)
  have CF := fail_hid 141 n
  clear h60 hsg hf hDD hll
  obtain ⟨p, bv, tv, fv, hx⟩ := h0
  have hbw := hx.bw
  have HX := Lib.hid hx
  clear hx t0 t1 t2 t3 t4
  go_enter Tryz.func26, Tryz.ntmps26
  have B0 : Below B w w := Below.refl _ _
  go_wp2_with fail
  (with_reducible refine (K0.out _ _ _ _ _ HX.out.x).mono ?_)
  rintro e wa0 ⟨rfl, bb⟩
  have HX := Lib.hid (HX.out.below bb)
  have B0 := B0.trans (bb.mono (Nat.le_trans hbw B0.size))
  clear bb K0
  go_wp2_with fail
  (with_reducible refine (K1.out _ _ _ _ _ HX.out.x).mono ?_)
  rintro e wa1 ⟨rfl, bb⟩
  have HX := Lib.hid (HX.out.below bb)
  have B0 := B0.trans (bb.mono (Nat.le_trans hbw B0.size))
  clear bb K1
  go_wp2_with fail
  (with_reducible refine (K2.out _ _ _ _ _ HX.out.x).mono ?_)
  rintro e wa2 ⟨rfl, bb⟩
  have HX := Lib.hid (HX.out.below bb)
  have B0 := B0.trans (bb.mono (Nat.le_trans hbw B0.size))
  clear bb K2
  go_wp2_with fail
  (with_reducible refine (K3.out _ _ _ _ _ HX.out.x).mono ?_)
  rintro e wa3 ⟨rfl, bb⟩
  have HX := Lib.hid (HX.out.below bb)
  have B0 := B0.trans (bb.mono (Nat.le_trans hbw B0.size))
  clear bb K3
  go_wp2_with fail
  (with_reducible refine (K4.out _ _ _ _ _ HX.out.x).mono ?_)
  rintro e wa4 ⟨rfl, bb⟩
  have HX := Lib.hid (HX.out.below bb)
  have B0 := B0.trans (bb.mono (Nat.le_trans hbw B0.size))
  clear bb K4
  have d1 := HX.out.x.c1
  go_wp2_with fail
  (with_reducible refine (CF.out _ _ _ _ _ _ _ _ _ _ _ HX.out.form (by omega)).mono ?_)
  rintro e w2 ⟨rfl, h2, k2⟩
  have B0 := B0.trans (HX.out.form.frb k2)
  clear k2 HX d1 CF
  go_wp2_with fail
  (with_reducible refine (C.out _ _ _ _ _ _ _ _ _ h2 (by rw [List.length_append]; simp; omega) (by omega)).mono ?_)
  rintro e w3 ⟨rfl, h3, b3⟩
  have HR : Hid (RoundP B R s n H T F w (.returned (.tuple #[])) w3) := Lib.hid ⟨rfl, B0.trans b3, _, n + 2 + i + 1, [], _, _, h3, HRD.out, by omega, by omega, noText_snoc _ (by show (4 : Int) ≠ 1; decide), by simp, by
    have := txtH_len H
    rw [List.length_append, List.length_append]
    simp only [List.length_cons, List.length_nil]
    omega, by simp only [List.length_append, List.length_cons, List.length_nil]; omega⟩
  clear h3 b3 h2 B0 C HRD
  go_wp2
  go_end0
  exact HR.out

set_option maxRecDepth 100000 in
set_option maxHeartbeats 8000000 in
theorem leaf_sign5_yes (s : ByteArray) (n : Nat) (t0 : (beginsM [60, 47] (s.data.toList.drop n) && (s.data.toList[n + 2]?).any letB) = false) (t1 : (beginsM [60] (s.data.toList.drop n) && (s.data.toList[n + 1]?).any letB) = false) (t2 : beginsM [60, 33, 45, 45] (s.data.toList.drop n) = false) (t3 : beginsM [60, 33, 100, 111, 99, 116, 121, 112, 101] (s.data.toList.drop n) = false) (t4 : beginsM [60, 33] (s.data.toList.drop n) = false) (t5 : beginsM [60, 63] (s.data.toList.drop n) = true) (i : Nat) (h60 : (s.data.toList.drop n).head? = some 60) (hsg : signS n (s.data.toList.drop n) = { noteM 4 2 n [62] (s.data.toList.drop n) with f := (141, n) :: (noteM 4 2 n [62] (s.data.toList.drop n)).f }) (hf : findT [62] (s.data.toList.drop (n + 2)) = some i) (hnd : n + 2 ≤ s.size) (_hn : n < s.size) (hs : s.size ≤ 20000) : Hid (∀ W B m R H T F, RS W B m R s n H T F (.slice none 0 0) [] → H.length ≤ n → T.length ≤ n → F.length ≤ 3 * n → NoText T → Calls Tryz.prog 26 #[.pointer (some ⟨R, 0, none⟩)] W (RoundP B R s n H T F W)) := Lib.hid fun w B m R H T F h0 hH hT hF hNT => by
  have K0 := beginsT_hid R s ⟨#[60, 47]⟩ n false t0 (by omega) (by decide) (by omega) (by decide)
  have K1 := beginsT_hid R s ⟨#[60]⟩ n false t1 (by omega) (by decide) (by omega) (by decide)
  have K2 := begins_hid R s ⟨#[60, 33, 45, 45]⟩ n false t2 (by omega) (by decide) (by omega) (by decide)
  have K3 := begins_hid R s ⟨#[60, 33, 100, 111, 99, 116, 121, 112, 101]⟩ n false t3 (by omega) (by decide) (by omega) (by decide)
  have K4 := begins_hid R s ⟨#[60, 33]⟩ n false t4 (by omega) (by decide) (by omega) (by decide)
  have K5 := begins_hid R s ⟨#[60, 63]⟩ n true t5 (by omega) (by decide) (by omega) (by decide)
  obtain ⟨DD, hDD⟩ := text_of (((s.data.toList.drop (n + 2)).take i))
  have C := marked_note_yes s ⟨#[62]⟩ DD n 2 i hf hDD (by omega) (by decide) hs
  rw [show (((2 : Nat)) : Int) = 2 from rfl] at C
  have hll : (s.data.toList.drop n).length = s.size - n := by rw [List.length_drop, lsize]
  have hpos : n + 2 + i + 1 ≤ s.size := by
    have := findT_le _ _ _ hf
    rw [List.length_drop, lsize] at this
    simp only [List.length_cons, List.length_nil] at this
    omega
  have HRD : Hid (Rd s.data.toList n H T F (n + 2 + i + 1) [] (T ++ txtH H ++ [⟨4, [], DD.data.toList, [], false⟩]) (F ++ [((141 : Int), n)])) := Lib.hid (by
    have hf2 : findT [62] ((s.data.toList.drop n).drop 2) = some i := by rw [List.drop_drop]; exact hf
    rw [note_some hf2] at hsg
    have := rd_note (H := H) (T := T) (F := F) h60 hsg rfl (by show 1 ≤ 2 + i + 1; omega) rfl (by show (4 : Int) ≠ 1; decide)
    refine this.cast (by show n + (2 + i + 1) = _; omega) rfl ?_ ?_
    · rw [hDD]
      simp [List.drop_drop]
    · simp)
  have CF := fail_hid 141 n
  clear h60 hsg hf hDD hll
  obtain ⟨p, bv, tv, fv, hx⟩ := h0
  have hbw := hx.bw
  have HX := Lib.hid hx
  clear hx t0 t1 t2 t3 t4 t5
  go_enter Tryz.func26, Tryz.ntmps26
  have B0 : Below B w w := Below.refl _ _
  go_wp2_with fail
  (with_reducible refine (K0.out _ _ _ _ _ HX.out.x).mono ?_)
  rintro e wa0 ⟨rfl, bb⟩
  have HX := Lib.hid (HX.out.below bb)
  have B0 := B0.trans (bb.mono (Nat.le_trans hbw B0.size))
  clear bb K0
  go_wp2_with fail
  (with_reducible refine (K1.out _ _ _ _ _ HX.out.x).mono ?_)
  rintro e wa1 ⟨rfl, bb⟩
  have HX := Lib.hid (HX.out.below bb)
  have B0 := B0.trans (bb.mono (Nat.le_trans hbw B0.size))
  clear bb K1
  go_wp2_with fail
  (with_reducible refine (K2.out _ _ _ _ _ HX.out.x).mono ?_)
  rintro e wa2 ⟨rfl, bb⟩
  have HX := Lib.hid (HX.out.below bb)
  have B0 := B0.trans (bb.mono (Nat.le_trans hbw B0.size))
  clear bb K2
  go_wp2_with fail
  (with_reducible refine (K3.out _ _ _ _ _ HX.out.x).mono ?_)
  rintro e wa3 ⟨rfl, bb⟩
  have HX := Lib.hid (HX.out.below bb)
  have B0 := B0.trans (bb.mono (Nat.le_trans hbw B0.size))
  clear bb K3
  go_wp2_with fail
  (with_reducible refine (K4.out _ _ _ _ _ HX.out.x).mono ?_)
  rintro e wa4 ⟨rfl, bb⟩
  have HX := Lib.hid (HX.out.below bb)
  have B0 := B0.trans (bb.mono (Nat.le_trans hbw B0.size))
  clear bb K4
  go_wp2_with fail
  (with_reducible refine (K5.out _ _ _ _ _ HX.out.x).mono ?_)
  rintro e wa5 ⟨rfl, bb⟩
  have HX := Lib.hid (HX.out.below bb)
  have B0 := B0.trans (bb.mono (Nat.le_trans hbw B0.size))
  clear bb K5
  have d1 := HX.out.x.c1
  go_wp2_with fail
  (with_reducible refine (CF.out _ _ _ _ _ _ _ _ _ _ _ HX.out.form (by omega)).mono ?_)
  rintro e w2 ⟨rfl, h2, k2⟩
  have B0 := B0.trans (HX.out.form.frb k2)
  clear k2 HX d1 CF
  go_wp2_with fail
  (with_reducible refine (C.out _ _ _ _ _ _ _ _ _ h2 (by rw [List.length_append]; simp; omega) (by omega)).mono ?_)
  rintro e w3 ⟨rfl, h3, b3⟩
  have HR : Hid (RoundP B R s n H T F w (.returned (.tuple #[])) w3) := Lib.hid ⟨rfl, B0.trans b3, _, n + 2 + i + 1, [], _, _, h3, HRD.out, by omega, by omega, noText_snoc _ (by show (4 : Int) ≠ 1; decide), by simp, by
    have := txtH_len H
    rw [List.length_append, List.length_append]
    simp only [List.length_cons, List.length_nil]
    omega, by simp only [List.length_append, List.length_cons, List.length_nil]; omega⟩
  clear h3 b3 h2 B0 C HRD
  go_wp2
  go_end0
  exact HR.out

set_option maxRecDepth 100000 in
set_option maxHeartbeats 8000000 in
theorem leaf_sign6_yes (s : ByteArray) (n : Nat) (t0 : (beginsM [60, 47] (s.data.toList.drop n) && (s.data.toList[n + 2]?).any letB) = false) (t1 : (beginsM [60] (s.data.toList.drop n) && (s.data.toList[n + 1]?).any letB) = false) (t2 : beginsM [60, 33, 45, 45] (s.data.toList.drop n) = false) (t3 : beginsM [60, 33, 100, 111, 99, 116, 121, 112, 101] (s.data.toList.drop n) = false) (t4 : beginsM [60, 33] (s.data.toList.drop n) = false) (t5 : beginsM [60, 63] (s.data.toList.drop n) = false) (t6 : beginsM [60, 47] (s.data.toList.drop n) = true) (i : Nat) (h60 : (s.data.toList.drop n).head? = some 60) (hsg : signS n (s.data.toList.drop n) = { noteM 4 2 n [62] (s.data.toList.drop n) with f := (141, n) :: (noteM 4 2 n [62] (s.data.toList.drop n)).f }) (hf : findT [62] (s.data.toList.drop (n + 2)) = some i) (hnd : n + 2 ≤ s.size) (_hn : n < s.size) (hs : s.size ≤ 20000) : Hid (∀ W B m R H T F, RS W B m R s n H T F (.slice none 0 0) [] → H.length ≤ n → T.length ≤ n → F.length ≤ 3 * n → NoText T → Calls Tryz.prog 26 #[.pointer (some ⟨R, 0, none⟩)] W (RoundP B R s n H T F W)) := Lib.hid fun w B m R H T F h0 hH hT hF hNT => by
  have K0 := beginsT_hid R s ⟨#[60, 47]⟩ n false t0 (by omega) (by decide) (by omega) (by decide)
  have K1 := beginsT_hid R s ⟨#[60]⟩ n false t1 (by omega) (by decide) (by omega) (by decide)
  have K2 := begins_hid R s ⟨#[60, 33, 45, 45]⟩ n false t2 (by omega) (by decide) (by omega) (by decide)
  have K3 := begins_hid R s ⟨#[60, 33, 100, 111, 99, 116, 121, 112, 101]⟩ n false t3 (by omega) (by decide) (by omega) (by decide)
  have K4 := begins_hid R s ⟨#[60, 33]⟩ n false t4 (by omega) (by decide) (by omega) (by decide)
  have K5 := begins_hid R s ⟨#[60, 63]⟩ n false t5 (by omega) (by decide) (by omega) (by decide)
  have K6 := begins_hid R s ⟨#[60, 47]⟩ n true t6 (by omega) (by decide) (by omega) (by decide)
  obtain ⟨DD, hDD⟩ := text_of (((s.data.toList.drop (n + 2)).take i))
  have C := marked_note_yes s ⟨#[62]⟩ DD n 2 i hf hDD (by omega) (by decide) hs
  rw [show (((2 : Nat)) : Int) = 2 from rfl] at C
  have hll : (s.data.toList.drop n).length = s.size - n := by rw [List.length_drop, lsize]
  have hpos : n + 2 + i + 1 ≤ s.size := by
    have := findT_le _ _ _ hf
    rw [List.length_drop, lsize] at this
    simp only [List.length_cons, List.length_nil] at this
    omega
  have HRD : Hid (Rd s.data.toList n H T F (n + 2 + i + 1) [] (T ++ txtH H ++ [⟨4, [], DD.data.toList, [], false⟩]) (F ++ [((141 : Int), n)])) := Lib.hid (by
    have hf2 : findT [62] ((s.data.toList.drop n).drop 2) = some i := by rw [List.drop_drop]; exact hf
    rw [note_some hf2] at hsg
    have := rd_note (H := H) (T := T) (F := F) h60 hsg rfl (by show 1 ≤ 2 + i + 1; omega) rfl (by show (4 : Int) ≠ 1; decide)
    refine this.cast (by show n + (2 + i + 1) = _; omega) rfl ?_ ?_
    · rw [hDD]
      simp [List.drop_drop]
    · simp)
  have CF := fail_hid 141 n
  clear h60 hsg hf hDD hll
  obtain ⟨p, bv, tv, fv, hx⟩ := h0
  have hbw := hx.bw
  have HX := Lib.hid hx
  clear hx t0 t1 t2 t3 t4 t5 t6
  go_enter Tryz.func26, Tryz.ntmps26
  have B0 : Below B w w := Below.refl _ _
  go_wp2_with fail
  (with_reducible refine (K0.out _ _ _ _ _ HX.out.x).mono ?_)
  rintro e wa0 ⟨rfl, bb⟩
  have HX := Lib.hid (HX.out.below bb)
  have B0 := B0.trans (bb.mono (Nat.le_trans hbw B0.size))
  clear bb K0
  go_wp2_with fail
  (with_reducible refine (K1.out _ _ _ _ _ HX.out.x).mono ?_)
  rintro e wa1 ⟨rfl, bb⟩
  have HX := Lib.hid (HX.out.below bb)
  have B0 := B0.trans (bb.mono (Nat.le_trans hbw B0.size))
  clear bb K1
  go_wp2_with fail
  (with_reducible refine (K2.out _ _ _ _ _ HX.out.x).mono ?_)
  rintro e wa2 ⟨rfl, bb⟩
  have HX := Lib.hid (HX.out.below bb)
  have B0 := B0.trans (bb.mono (Nat.le_trans hbw B0.size))
  clear bb K2
  go_wp2_with fail
  (with_reducible refine (K3.out _ _ _ _ _ HX.out.x).mono ?_)
  rintro e wa3 ⟨rfl, bb⟩
  have HX := Lib.hid (HX.out.below bb)
  have B0 := B0.trans (bb.mono (Nat.le_trans hbw B0.size))
  clear bb K3
  go_wp2_with fail
  (with_reducible refine (K4.out _ _ _ _ _ HX.out.x).mono ?_)
  rintro e wa4 ⟨rfl, bb⟩
  have HX := Lib.hid (HX.out.below bb)
  have B0 := B0.trans (bb.mono (Nat.le_trans hbw B0.size))
  clear bb K4
  go_wp2_with fail
  (with_reducible refine (K5.out _ _ _ _ _ HX.out.x).mono ?_)
  rintro e wa5 ⟨rfl, bb⟩
  have HX := Lib.hid (HX.out.below bb)
  have B0 := B0.trans (bb.mono (Nat.le_trans hbw B0.size))
  clear bb K5
  go_wp2_with fail
  (with_reducible refine (K6.out _ _ _ _ _ HX.out.x).mono ?_)
  rintro e wa6 ⟨rfl, bb⟩
  have HX := Lib.hid (HX.out.below bb)
  have B0 := B0.trans (bb.mono (Nat.le_trans hbw B0.size))
  clear bb K6
  have d1 := HX.out.x.c1
  go_wp2_with fail
  (with_reducible refine (CF.out _ _ _ _ _ _ _ _ _ _ _ HX.out.form (by omega)).mono ?_)
  rintro e w2 ⟨rfl, h2, k2⟩
  have B0 := B0.trans (HX.out.form.frb k2)
  clear k2 HX d1 CF
  go_wp2_with fail
  (with_reducible refine (C.out _ _ _ _ _ _ _ _ _ h2 (by rw [List.length_append]; simp; omega) (by omega)).mono ?_)
  rintro e w3 ⟨rfl, h3, b3⟩
  have HR : Hid (RoundP B R s n H T F w (.returned (.tuple #[])) w3) := Lib.hid ⟨rfl, B0.trans b3, _, n + 2 + i + 1, [], _, _, h3, HRD.out, by omega, by omega, noText_snoc _ (by show (4 : Int) ≠ 1; decide), by simp, by
    have := txtH_len H
    rw [List.length_append, List.length_append]
    simp only [List.length_cons, List.length_nil]
    omega, by simp only [List.length_append, List.length_cons, List.length_nil]; omega⟩
  clear h3 b3 h2 B0 C HRD
  go_wp2
  go_end0
  exact HR.out

set_option maxRecDepth 100000 in
set_option maxHeartbeats 8000000 in
theorem leaf_note_no (s : ByteArray) (n : Nat) (t0 : (beginsM [60, 47] (s.data.toList.drop n) && (s.data.toList[n + 2]?).any letB) = false) (t1 : (beginsM [60] (s.data.toList.drop n) && (s.data.toList[n + 1]?).any letB) = false) (t2 : beginsM [60, 33, 45, 45] (s.data.toList.drop n) = true) (h60 : (s.data.toList.drop n).head? = some 60) (hsg : signS n (s.data.toList.drop n) = noteM 4 4 n [45, 45, 62] (s.data.toList.drop n)) (hf : findT [45, 45, 62] (s.data.toList.drop (n + 4)) = none) (hnd : n + 4 ≤ s.size) (hn : n < s.size) (hs : s.size ≤ 20000) : Hid (∀ W B m R H T F, RS W B m R s n H T F (.slice none 0 0) [] → H.length ≤ n → T.length ≤ n → F.length ≤ 3 * n → NoText T → Calls Tryz.prog 26 #[.pointer (some ⟨R, 0, none⟩)] W (RoundP B R s n H T F W)) := Lib.hid fun w B m R H T F h0 hH hT hF hNT => by
  have K0 := beginsT_hid R s ⟨#[60, 47]⟩ n false t0 (by omega) (by decide) (by omega) (by decide)
  have K1 := beginsT_hid R s ⟨#[60]⟩ n false t1 (by omega) (by decide) (by omega) (by decide)
  have K2 := begins_hid R s ⟨#[60, 33, 45, 45]⟩ n true t2 (by omega) (by decide) (by omega) (by decide)
  obtain ⟨DD, hDD⟩ := text_of ((s.data.toList.drop (n + 4)))
  have C := marked_note_no s ⟨#[45, 45, 62]⟩ DD n 4 hf hDD (by omega) hs
  rw [show (((4 : Nat)) : Int) = 4 from rfl] at C
  have hll : (s.data.toList.drop n).length = s.size - n := by rw [List.length_drop, lsize]
  have hpos : s.size ≤ s.size := by
    exact Nat.le_refl _
  have HRD : Hid (Rd s.data.toList n H T F (s.size) [] (T ++ txtH H ++ [⟨4, [], DD.data.toList, [], false⟩]) (F ++ [((140 : Int), n)])) := Lib.hid (by
    have hf2 : findT [45, 45, 62] ((s.data.toList.drop n).drop 4) = none := by rw [List.drop_drop]; exact hf
    rw [note_none hf2] at hsg
    have := rd_note (H := H) (T := T) (F := F) h60 hsg rfl (by show 1 ≤ (s.data.toList.drop n).length; omega) rfl (by show (4 : Int) ≠ 1; decide)
    refine this.cast (by show n + (s.data.toList.drop n).length = _; omega) rfl ?_ ?_
    · rw [hDD]
      simp [List.drop_drop]
    · rfl)
  clear h60 hsg hf hDD hll
  obtain ⟨p, bv, tv, fv, hx⟩ := h0
  have hbw := hx.bw
  have HX := Lib.hid hx
  clear hx t0 t1 t2
  go_enter Tryz.func26, Tryz.ntmps26
  have B0 : Below B w w := Below.refl _ _
  go_wp2_with fail
  (with_reducible refine (K0.out _ _ _ _ _ HX.out.x).mono ?_)
  rintro e wa0 ⟨rfl, bb⟩
  have HX := Lib.hid (HX.out.below bb)
  have B0 := B0.trans (bb.mono (Nat.le_trans hbw B0.size))
  clear bb K0
  go_wp2_with fail
  (with_reducible refine (K1.out _ _ _ _ _ HX.out.x).mono ?_)
  rintro e wa1 ⟨rfl, bb⟩
  have HX := Lib.hid (HX.out.below bb)
  have B0 := B0.trans (bb.mono (Nat.le_trans hbw B0.size))
  clear bb K1
  go_wp2_with fail
  (with_reducible refine (K2.out _ _ _ _ _ HX.out.x).mono ?_)
  rintro e wa2 ⟨rfl, bb⟩
  have HX := Lib.hid (HX.out.below bb)
  have B0 := B0.trans (bb.mono (Nat.le_trans hbw B0.size))
  clear bb K2
  have h2 := HX.out.form
  clear HX
  go_wp2_with fail
  (with_reducible refine (C.out _ _ _ _ _ _ _ _ _ h2 (by omega) (by omega)).mono ?_)
  rintro e w3 ⟨rfl, h3, b3⟩
  have HR : Hid (RoundP B R s n H T F w (.returned (.tuple #[])) w3) := Lib.hid ⟨rfl, B0.trans b3, _, s.size, [], _, _, h3, HRD.out, by omega, by omega, noText_snoc _ (by show (4 : Int) ≠ 1; decide), by simp, by
    have := txtH_len H
    rw [List.length_append, List.length_append]
    simp only [List.length_cons, List.length_nil]
    omega, by simp only [List.length_append, List.length_cons, List.length_nil]; omega⟩
  clear h3 b3 h2 B0 C HRD
  go_wp2
  go_end0
  exact HR.out

set_option maxRecDepth 100000 in
set_option maxHeartbeats 8000000 in
theorem leaf_doc_no (s : ByteArray) (n : Nat) (t0 : (beginsM [60, 47] (s.data.toList.drop n) && (s.data.toList[n + 2]?).any letB) = false) (t1 : (beginsM [60] (s.data.toList.drop n) && (s.data.toList[n + 1]?).any letB) = false) (t2 : beginsM [60, 33, 45, 45] (s.data.toList.drop n) = false) (t3 : beginsM [60, 33, 100, 111, 99, 116, 121, 112, 101] (s.data.toList.drop n) = true) (h60 : (s.data.toList.drop n).head? = some 60) (hsg : signS n (s.data.toList.drop n) = noteM 5 9 n [62] (s.data.toList.drop n)) (hf : findT [62] (s.data.toList.drop (n + 9)) = none) (hnd : n + 9 ≤ s.size) (hn : n < s.size) (hs : s.size ≤ 20000) : Hid (∀ W B m R H T F, RS W B m R s n H T F (.slice none 0 0) [] → H.length ≤ n → T.length ≤ n → F.length ≤ 3 * n → NoText T → Calls Tryz.prog 26 #[.pointer (some ⟨R, 0, none⟩)] W (RoundP B R s n H T F W)) := Lib.hid fun w B m R H T F h0 hH hT hF hNT => by
  have K0 := beginsT_hid R s ⟨#[60, 47]⟩ n false t0 (by omega) (by decide) (by omega) (by decide)
  have K1 := beginsT_hid R s ⟨#[60]⟩ n false t1 (by omega) (by decide) (by omega) (by decide)
  have K2 := begins_hid R s ⟨#[60, 33, 45, 45]⟩ n false t2 (by omega) (by decide) (by omega) (by decide)
  have K3 := begins_hid R s ⟨#[60, 33, 100, 111, 99, 116, 121, 112, 101]⟩ n true t3 (by omega) (by decide) (by omega) (by decide)
  obtain ⟨DD, hDD⟩ := text_of (trim (s.data.toList.drop (n + 9)))
  have C := marked_doc_no s ⟨#[62]⟩ DD n 9 hf hDD (by omega) hs
  rw [show (((9 : Nat)) : Int) = 9 from rfl] at C
  have hll : (s.data.toList.drop n).length = s.size - n := by rw [List.length_drop, lsize]
  have hpos : s.size ≤ s.size := by
    exact Nat.le_refl _
  have HRD : Hid (Rd s.data.toList n H T F (s.size) [] (T ++ txtH H ++ [⟨5, [], DD.data.toList, [], false⟩]) (F ++ [((140 : Int), n)])) := Lib.hid (by
    have hf2 : findT [62] ((s.data.toList.drop n).drop 9) = none := by rw [List.drop_drop]; exact hf
    rw [note_none hf2] at hsg
    have := rd_note (H := H) (T := T) (F := F) h60 hsg rfl (by show 1 ≤ (s.data.toList.drop n).length; omega) rfl (by show (5 : Int) ≠ 1; decide)
    refine this.cast (by show n + (s.data.toList.drop n).length = _; omega) rfl ?_ ?_
    · rw [hDD]
      simp [List.drop_drop]
    · rfl)
  clear h60 hsg hf hDD hll
  obtain ⟨p, bv, tv, fv, hx⟩ := h0
  have hbw := hx.bw
  have HX := Lib.hid hx
  clear hx t0 t1 t2 t3
  go_enter Tryz.func26, Tryz.ntmps26
  have B0 : Below B w w := Below.refl _ _
  go_wp2_with fail
  (with_reducible refine (K0.out _ _ _ _ _ HX.out.x).mono ?_)
  rintro e wa0 ⟨rfl, bb⟩
  have HX := Lib.hid (HX.out.below bb)
  have B0 := B0.trans (bb.mono (Nat.le_trans hbw B0.size))
  clear bb K0
  go_wp2_with fail
  (with_reducible refine (K1.out _ _ _ _ _ HX.out.x).mono ?_)
  rintro e wa1 ⟨rfl, bb⟩
  have HX := Lib.hid (HX.out.below bb)
  have B0 := B0.trans (bb.mono (Nat.le_trans hbw B0.size))
  clear bb K1
  go_wp2_with fail
  (with_reducible refine (K2.out _ _ _ _ _ HX.out.x).mono ?_)
  rintro e wa2 ⟨rfl, bb⟩
  have HX := Lib.hid (HX.out.below bb)
  have B0 := B0.trans (bb.mono (Nat.le_trans hbw B0.size))
  clear bb K2
  go_wp2_with fail
  (with_reducible refine (K3.out _ _ _ _ _ HX.out.x).mono ?_)
  rintro e wa3 ⟨rfl, bb⟩
  have HX := Lib.hid (HX.out.below bb)
  have B0 := B0.trans (bb.mono (Nat.le_trans hbw B0.size))
  clear bb K3
  have h2 := HX.out.form
  clear HX
  go_wp2_with fail
  (with_reducible refine (C.out _ _ _ _ _ _ _ _ _ h2 (by omega) (by omega)).mono ?_)
  rintro e w3 ⟨rfl, h3, b3⟩
  have HR : Hid (RoundP B R s n H T F w (.returned (.tuple #[])) w3) := Lib.hid ⟨rfl, B0.trans b3, _, s.size, [], _, _, h3, HRD.out, by omega, by omega, noText_snoc _ (by show (5 : Int) ≠ 1; decide), by simp, by
    have := txtH_len H
    rw [List.length_append, List.length_append]
    simp only [List.length_cons, List.length_nil]
    omega, by simp only [List.length_append, List.length_cons, List.length_nil]; omega⟩
  clear h3 b3 h2 B0 C HRD
  go_wp2
  go_end0
  exact HR.out

set_option maxRecDepth 100000 in
set_option maxHeartbeats 8000000 in
theorem leaf_sign4_no (s : ByteArray) (n : Nat) (t0 : (beginsM [60, 47] (s.data.toList.drop n) && (s.data.toList[n + 2]?).any letB) = false) (t1 : (beginsM [60] (s.data.toList.drop n) && (s.data.toList[n + 1]?).any letB) = false) (t2 : beginsM [60, 33, 45, 45] (s.data.toList.drop n) = false) (t3 : beginsM [60, 33, 100, 111, 99, 116, 121, 112, 101] (s.data.toList.drop n) = false) (t4 : beginsM [60, 33] (s.data.toList.drop n) = true) (h60 : (s.data.toList.drop n).head? = some 60) (hsg : signS n (s.data.toList.drop n) = { noteM 4 2 n [62] (s.data.toList.drop n) with f := (141, n) :: (noteM 4 2 n [62] (s.data.toList.drop n)).f }) (hf : findT [62] (s.data.toList.drop (n + 2)) = none) (hnd : n + 2 ≤ s.size) (_hn : n < s.size) (hs : s.size ≤ 20000) : Hid (∀ W B m R H T F, RS W B m R s n H T F (.slice none 0 0) [] → H.length ≤ n → T.length ≤ n → F.length ≤ 3 * n → NoText T → Calls Tryz.prog 26 #[.pointer (some ⟨R, 0, none⟩)] W (RoundP B R s n H T F W)) := Lib.hid fun w B m R H T F h0 hH hT hF hNT => by
  have K0 := beginsT_hid R s ⟨#[60, 47]⟩ n false t0 (by omega) (by decide) (by omega) (by decide)
  have K1 := beginsT_hid R s ⟨#[60]⟩ n false t1 (by omega) (by decide) (by omega) (by decide)
  have K2 := begins_hid R s ⟨#[60, 33, 45, 45]⟩ n false t2 (by omega) (by decide) (by omega) (by decide)
  have K3 := begins_hid R s ⟨#[60, 33, 100, 111, 99, 116, 121, 112, 101]⟩ n false t3 (by omega) (by decide) (by omega) (by decide)
  have K4 := begins_hid R s ⟨#[60, 33]⟩ n true t4 (by omega) (by decide) (by omega) (by decide)
  obtain ⟨DD, hDD⟩ := text_of ((s.data.toList.drop (n + 2)))
  have C := marked_note_no s ⟨#[62]⟩ DD n 2 hf hDD (by omega) hs
  rw [show (((2 : Nat)) : Int) = 2 from rfl] at C
  have hll : (s.data.toList.drop n).length = s.size - n := by rw [List.length_drop, lsize]
  have hpos : s.size ≤ s.size := by
    exact Nat.le_refl _
  have HRD : Hid (Rd s.data.toList n H T F (s.size) [] (T ++ txtH H ++ [⟨4, [], DD.data.toList, [], false⟩]) ((F ++ [((141 : Int), n)]) ++ [((140 : Int), n)])) := Lib.hid (by
    have hf2 : findT [62] ((s.data.toList.drop n).drop 2) = none := by rw [List.drop_drop]; exact hf
    rw [note_none hf2] at hsg
    have := rd_note (H := H) (T := T) (F := F) h60 hsg rfl (by show 1 ≤ (s.data.toList.drop n).length; omega) rfl (by show (4 : Int) ≠ 1; decide)
    refine this.cast (by show n + (s.data.toList.drop n).length = _; omega) rfl ?_ ?_
    · rw [hDD]
      simp [List.drop_drop]
    · simp)
  have CF := fail_hid 141 n
  clear h60 hsg hf hDD hll
  obtain ⟨p, bv, tv, fv, hx⟩ := h0
  have hbw := hx.bw
  have HX := Lib.hid hx
  clear hx t0 t1 t2 t3 t4
  go_enter Tryz.func26, Tryz.ntmps26
  have B0 : Below B w w := Below.refl _ _
  go_wp2_with fail
  (with_reducible refine (K0.out _ _ _ _ _ HX.out.x).mono ?_)
  rintro e wa0 ⟨rfl, bb⟩
  have HX := Lib.hid (HX.out.below bb)
  have B0 := B0.trans (bb.mono (Nat.le_trans hbw B0.size))
  clear bb K0
  go_wp2_with fail
  (with_reducible refine (K1.out _ _ _ _ _ HX.out.x).mono ?_)
  rintro e wa1 ⟨rfl, bb⟩
  have HX := Lib.hid (HX.out.below bb)
  have B0 := B0.trans (bb.mono (Nat.le_trans hbw B0.size))
  clear bb K1
  go_wp2_with fail
  (with_reducible refine (K2.out _ _ _ _ _ HX.out.x).mono ?_)
  rintro e wa2 ⟨rfl, bb⟩
  have HX := Lib.hid (HX.out.below bb)
  have B0 := B0.trans (bb.mono (Nat.le_trans hbw B0.size))
  clear bb K2
  go_wp2_with fail
  (with_reducible refine (K3.out _ _ _ _ _ HX.out.x).mono ?_)
  rintro e wa3 ⟨rfl, bb⟩
  have HX := Lib.hid (HX.out.below bb)
  have B0 := B0.trans (bb.mono (Nat.le_trans hbw B0.size))
  clear bb K3
  go_wp2_with fail
  (with_reducible refine (K4.out _ _ _ _ _ HX.out.x).mono ?_)
  rintro e wa4 ⟨rfl, bb⟩
  have HX := Lib.hid (HX.out.below bb)
  have B0 := B0.trans (bb.mono (Nat.le_trans hbw B0.size))
  clear bb K4
  have d1 := HX.out.x.c1
  go_wp2_with fail
  (with_reducible refine (CF.out _ _ _ _ _ _ _ _ _ _ _ HX.out.form (by omega)).mono ?_)
  rintro e w2 ⟨rfl, h2, k2⟩
  have B0 := B0.trans (HX.out.form.frb k2)
  clear k2 HX d1 CF
  go_wp2_with fail
  (with_reducible refine (C.out _ _ _ _ _ _ _ _ _ h2 (by rw [List.length_append]; simp; omega) (by omega)).mono ?_)
  rintro e w3 ⟨rfl, h3, b3⟩
  have HR : Hid (RoundP B R s n H T F w (.returned (.tuple #[])) w3) := Lib.hid ⟨rfl, B0.trans b3, _, s.size, [], _, _, h3, HRD.out, by omega, by omega, noText_snoc _ (by show (4 : Int) ≠ 1; decide), by simp, by
    have := txtH_len H
    rw [List.length_append, List.length_append]
    simp only [List.length_cons, List.length_nil]
    omega, by simp only [List.length_append, List.length_cons, List.length_nil]; omega⟩
  clear h3 b3 h2 B0 C HRD
  go_wp2
  go_end0
  exact HR.out

set_option maxRecDepth 100000 in
set_option maxHeartbeats 8000000 in
theorem leaf_sign5_no (s : ByteArray) (n : Nat) (t0 : (beginsM [60, 47] (s.data.toList.drop n) && (s.data.toList[n + 2]?).any letB) = false) (t1 : (beginsM [60] (s.data.toList.drop n) && (s.data.toList[n + 1]?).any letB) = false) (t2 : beginsM [60, 33, 45, 45] (s.data.toList.drop n) = false) (t3 : beginsM [60, 33, 100, 111, 99, 116, 121, 112, 101] (s.data.toList.drop n) = false) (t4 : beginsM [60, 33] (s.data.toList.drop n) = false) (t5 : beginsM [60, 63] (s.data.toList.drop n) = true) (h60 : (s.data.toList.drop n).head? = some 60) (hsg : signS n (s.data.toList.drop n) = { noteM 4 2 n [62] (s.data.toList.drop n) with f := (141, n) :: (noteM 4 2 n [62] (s.data.toList.drop n)).f }) (hf : findT [62] (s.data.toList.drop (n + 2)) = none) (hnd : n + 2 ≤ s.size) (_hn : n < s.size) (hs : s.size ≤ 20000) : Hid (∀ W B m R H T F, RS W B m R s n H T F (.slice none 0 0) [] → H.length ≤ n → T.length ≤ n → F.length ≤ 3 * n → NoText T → Calls Tryz.prog 26 #[.pointer (some ⟨R, 0, none⟩)] W (RoundP B R s n H T F W)) := Lib.hid fun w B m R H T F h0 hH hT hF hNT => by
  have K0 := beginsT_hid R s ⟨#[60, 47]⟩ n false t0 (by omega) (by decide) (by omega) (by decide)
  have K1 := beginsT_hid R s ⟨#[60]⟩ n false t1 (by omega) (by decide) (by omega) (by decide)
  have K2 := begins_hid R s ⟨#[60, 33, 45, 45]⟩ n false t2 (by omega) (by decide) (by omega) (by decide)
  have K3 := begins_hid R s ⟨#[60, 33, 100, 111, 99, 116, 121, 112, 101]⟩ n false t3 (by omega) (by decide) (by omega) (by decide)
  have K4 := begins_hid R s ⟨#[60, 33]⟩ n false t4 (by omega) (by decide) (by omega) (by decide)
  have K5 := begins_hid R s ⟨#[60, 63]⟩ n true t5 (by omega) (by decide) (by omega) (by decide)
  obtain ⟨DD, hDD⟩ := text_of ((s.data.toList.drop (n + 2)))
  have C := marked_note_no s ⟨#[62]⟩ DD n 2 hf hDD (by omega) hs
  rw [show (((2 : Nat)) : Int) = 2 from rfl] at C
  have hll : (s.data.toList.drop n).length = s.size - n := by rw [List.length_drop, lsize]
  have hpos : s.size ≤ s.size := by
    exact Nat.le_refl _
  have HRD : Hid (Rd s.data.toList n H T F (s.size) [] (T ++ txtH H ++ [⟨4, [], DD.data.toList, [], false⟩]) ((F ++ [((141 : Int), n)]) ++ [((140 : Int), n)])) := Lib.hid (by
    have hf2 : findT [62] ((s.data.toList.drop n).drop 2) = none := by rw [List.drop_drop]; exact hf
    rw [note_none hf2] at hsg
    have := rd_note (H := H) (T := T) (F := F) h60 hsg rfl (by show 1 ≤ (s.data.toList.drop n).length; omega) rfl (by show (4 : Int) ≠ 1; decide)
    refine this.cast (by show n + (s.data.toList.drop n).length = _; omega) rfl ?_ ?_
    · rw [hDD]
      simp [List.drop_drop]
    · simp)
  have CF := fail_hid 141 n
  clear h60 hsg hf hDD hll
  obtain ⟨p, bv, tv, fv, hx⟩ := h0
  have hbw := hx.bw
  have HX := Lib.hid hx
  clear hx t0 t1 t2 t3 t4 t5
  go_enter Tryz.func26, Tryz.ntmps26
  have B0 : Below B w w := Below.refl _ _
  go_wp2_with fail
  (with_reducible refine (K0.out _ _ _ _ _ HX.out.x).mono ?_)
  rintro e wa0 ⟨rfl, bb⟩
  have HX := Lib.hid (HX.out.below bb)
  have B0 := B0.trans (bb.mono (Nat.le_trans hbw B0.size))
  clear bb K0
  go_wp2_with fail
  (with_reducible refine (K1.out _ _ _ _ _ HX.out.x).mono ?_)
  rintro e wa1 ⟨rfl, bb⟩
  have HX := Lib.hid (HX.out.below bb)
  have B0 := B0.trans (bb.mono (Nat.le_trans hbw B0.size))
  clear bb K1
  go_wp2_with fail
  (with_reducible refine (K2.out _ _ _ _ _ HX.out.x).mono ?_)
  rintro e wa2 ⟨rfl, bb⟩
  have HX := Lib.hid (HX.out.below bb)
  have B0 := B0.trans (bb.mono (Nat.le_trans hbw B0.size))
  clear bb K2
  go_wp2_with fail
  (with_reducible refine (K3.out _ _ _ _ _ HX.out.x).mono ?_)
  rintro e wa3 ⟨rfl, bb⟩
  have HX := Lib.hid (HX.out.below bb)
  have B0 := B0.trans (bb.mono (Nat.le_trans hbw B0.size))
  clear bb K3
  go_wp2_with fail
  (with_reducible refine (K4.out _ _ _ _ _ HX.out.x).mono ?_)
  rintro e wa4 ⟨rfl, bb⟩
  have HX := Lib.hid (HX.out.below bb)
  have B0 := B0.trans (bb.mono (Nat.le_trans hbw B0.size))
  clear bb K4
  go_wp2_with fail
  (with_reducible refine (K5.out _ _ _ _ _ HX.out.x).mono ?_)
  rintro e wa5 ⟨rfl, bb⟩
  have HX := Lib.hid (HX.out.below bb)
  have B0 := B0.trans (bb.mono (Nat.le_trans hbw B0.size))
  clear bb K5
  have d1 := HX.out.x.c1
  go_wp2_with fail
  (with_reducible refine (CF.out _ _ _ _ _ _ _ _ _ _ _ HX.out.form (by omega)).mono ?_)
  rintro e w2 ⟨rfl, h2, k2⟩
  have B0 := B0.trans (HX.out.form.frb k2)
  clear k2 HX d1 CF
  go_wp2_with fail
  (with_reducible refine (C.out _ _ _ _ _ _ _ _ _ h2 (by rw [List.length_append]; simp; omega) (by omega)).mono ?_)
  rintro e w3 ⟨rfl, h3, b3⟩
  have HR : Hid (RoundP B R s n H T F w (.returned (.tuple #[])) w3) := Lib.hid ⟨rfl, B0.trans b3, _, s.size, [], _, _, h3, HRD.out, by omega, by omega, noText_snoc _ (by show (4 : Int) ≠ 1; decide), by simp, by
    have := txtH_len H
    rw [List.length_append, List.length_append]
    simp only [List.length_cons, List.length_nil]
    omega, by simp only [List.length_append, List.length_cons, List.length_nil]; omega⟩
  clear h3 b3 h2 B0 C HRD
  go_wp2
  go_end0
  exact HR.out

set_option maxRecDepth 100000 in
set_option maxHeartbeats 8000000 in
theorem leaf_sign6_no (s : ByteArray) (n : Nat) (t0 : (beginsM [60, 47] (s.data.toList.drop n) && (s.data.toList[n + 2]?).any letB) = false) (t1 : (beginsM [60] (s.data.toList.drop n) && (s.data.toList[n + 1]?).any letB) = false) (t2 : beginsM [60, 33, 45, 45] (s.data.toList.drop n) = false) (t3 : beginsM [60, 33, 100, 111, 99, 116, 121, 112, 101] (s.data.toList.drop n) = false) (t4 : beginsM [60, 33] (s.data.toList.drop n) = false) (t5 : beginsM [60, 63] (s.data.toList.drop n) = false) (t6 : beginsM [60, 47] (s.data.toList.drop n) = true) (h60 : (s.data.toList.drop n).head? = some 60) (hsg : signS n (s.data.toList.drop n) = { noteM 4 2 n [62] (s.data.toList.drop n) with f := (141, n) :: (noteM 4 2 n [62] (s.data.toList.drop n)).f }) (hf : findT [62] (s.data.toList.drop (n + 2)) = none) (hnd : n + 2 ≤ s.size) (_hn : n < s.size) (hs : s.size ≤ 20000) : Hid (∀ W B m R H T F, RS W B m R s n H T F (.slice none 0 0) [] → H.length ≤ n → T.length ≤ n → F.length ≤ 3 * n → NoText T → Calls Tryz.prog 26 #[.pointer (some ⟨R, 0, none⟩)] W (RoundP B R s n H T F W)) := Lib.hid fun w B m R H T F h0 hH hT hF hNT => by
  have K0 := beginsT_hid R s ⟨#[60, 47]⟩ n false t0 (by omega) (by decide) (by omega) (by decide)
  have K1 := beginsT_hid R s ⟨#[60]⟩ n false t1 (by omega) (by decide) (by omega) (by decide)
  have K2 := begins_hid R s ⟨#[60, 33, 45, 45]⟩ n false t2 (by omega) (by decide) (by omega) (by decide)
  have K3 := begins_hid R s ⟨#[60, 33, 100, 111, 99, 116, 121, 112, 101]⟩ n false t3 (by omega) (by decide) (by omega) (by decide)
  have K4 := begins_hid R s ⟨#[60, 33]⟩ n false t4 (by omega) (by decide) (by omega) (by decide)
  have K5 := begins_hid R s ⟨#[60, 63]⟩ n false t5 (by omega) (by decide) (by omega) (by decide)
  have K6 := begins_hid R s ⟨#[60, 47]⟩ n true t6 (by omega) (by decide) (by omega) (by decide)
  obtain ⟨DD, hDD⟩ := text_of ((s.data.toList.drop (n + 2)))
  have C := marked_note_no s ⟨#[62]⟩ DD n 2 hf hDD (by omega) hs
  rw [show (((2 : Nat)) : Int) = 2 from rfl] at C
  have hll : (s.data.toList.drop n).length = s.size - n := by rw [List.length_drop, lsize]
  have hpos : s.size ≤ s.size := by
    exact Nat.le_refl _
  have HRD : Hid (Rd s.data.toList n H T F (s.size) [] (T ++ txtH H ++ [⟨4, [], DD.data.toList, [], false⟩]) ((F ++ [((141 : Int), n)]) ++ [((140 : Int), n)])) := Lib.hid (by
    have hf2 : findT [62] ((s.data.toList.drop n).drop 2) = none := by rw [List.drop_drop]; exact hf
    rw [note_none hf2] at hsg
    have := rd_note (H := H) (T := T) (F := F) h60 hsg rfl (by show 1 ≤ (s.data.toList.drop n).length; omega) rfl (by show (4 : Int) ≠ 1; decide)
    refine this.cast (by show n + (s.data.toList.drop n).length = _; omega) rfl ?_ ?_
    · rw [hDD]
      simp [List.drop_drop]
    · simp)
  have CF := fail_hid 141 n
  clear h60 hsg hf hDD hll
  obtain ⟨p, bv, tv, fv, hx⟩ := h0
  have hbw := hx.bw
  have HX := Lib.hid hx
  clear hx t0 t1 t2 t3 t4 t5 t6
  go_enter Tryz.func26, Tryz.ntmps26
  have B0 : Below B w w := Below.refl _ _
  go_wp2_with fail
  (with_reducible refine (K0.out _ _ _ _ _ HX.out.x).mono ?_)
  rintro e wa0 ⟨rfl, bb⟩
  have HX := Lib.hid (HX.out.below bb)
  have B0 := B0.trans (bb.mono (Nat.le_trans hbw B0.size))
  clear bb K0
  go_wp2_with fail
  (with_reducible refine (K1.out _ _ _ _ _ HX.out.x).mono ?_)
  rintro e wa1 ⟨rfl, bb⟩
  have HX := Lib.hid (HX.out.below bb)
  have B0 := B0.trans (bb.mono (Nat.le_trans hbw B0.size))
  clear bb K1
  go_wp2_with fail
  (with_reducible refine (K2.out _ _ _ _ _ HX.out.x).mono ?_)
  rintro e wa2 ⟨rfl, bb⟩
  have HX := Lib.hid (HX.out.below bb)
  have B0 := B0.trans (bb.mono (Nat.le_trans hbw B0.size))
  clear bb K2
  go_wp2_with fail
  (with_reducible refine (K3.out _ _ _ _ _ HX.out.x).mono ?_)
  rintro e wa3 ⟨rfl, bb⟩
  have HX := Lib.hid (HX.out.below bb)
  have B0 := B0.trans (bb.mono (Nat.le_trans hbw B0.size))
  clear bb K3
  go_wp2_with fail
  (with_reducible refine (K4.out _ _ _ _ _ HX.out.x).mono ?_)
  rintro e wa4 ⟨rfl, bb⟩
  have HX := Lib.hid (HX.out.below bb)
  have B0 := B0.trans (bb.mono (Nat.le_trans hbw B0.size))
  clear bb K4
  go_wp2_with fail
  (with_reducible refine (K5.out _ _ _ _ _ HX.out.x).mono ?_)
  rintro e wa5 ⟨rfl, bb⟩
  have HX := Lib.hid (HX.out.below bb)
  have B0 := B0.trans (bb.mono (Nat.le_trans hbw B0.size))
  clear bb K5
  go_wp2_with fail
  (with_reducible refine (K6.out _ _ _ _ _ HX.out.x).mono ?_)
  rintro e wa6 ⟨rfl, bb⟩
  have HX := Lib.hid (HX.out.below bb)
  have B0 := B0.trans (bb.mono (Nat.le_trans hbw B0.size))
  clear bb K6
  have d1 := HX.out.x.c1
  go_wp2_with fail
  (with_reducible refine (CF.out _ _ _ _ _ _ _ _ _ _ _ HX.out.form (by omega)).mono ?_)
  rintro e w2 ⟨rfl, h2, k2⟩
  have B0 := B0.trans (HX.out.form.frb k2)
  clear k2 HX d1 CF
  go_wp2_with fail
  (with_reducible refine (C.out _ _ _ _ _ _ _ _ _ h2 (by rw [List.length_append]; simp; omega) (by omega)).mono ?_)
  rintro e w3 ⟨rfl, h3, b3⟩
  have HR : Hid (RoundP B R s n H T F w (.returned (.tuple #[])) w3) := Lib.hid ⟨rfl, B0.trans b3, _, s.size, [], _, _, h3, HRD.out, by omega, by omega, noText_snoc _ (by show (4 : Int) ≠ 1; decide), by simp, by
    have := txtH_len H
    rw [List.length_append, List.length_append]
    simp only [List.length_cons, List.length_nil]
    omega, by simp only [List.length_append, List.length_cons, List.length_nil]; omega⟩
  clear h3 b3 h2 B0 C HRD
  go_wp2
  go_end0
  exact HR.out

set_option maxRecDepth 100000 in
set_option maxHeartbeats 8000000 in
theorem leaf_open (s : ByteArray) (n : Nat) (t0 : (beginsM [60, 47] (s.data.toList.drop n) && (s.data.toList[n + 2]?).any letB) = false) (t1 : (beginsM [60] (s.data.toList.drop n) && (s.data.toList[n + 1]?).any letB) = false) (t2 : beginsM [60, 33, 45, 45] (s.data.toList.drop n) = false) (t3 : beginsM [60, 33, 100, 111, 99, 116, 121, 112, 101] (s.data.toList.drop n) = false) (t4 : beginsM [60, 33] (s.data.toList.drop n) = false) (t5 : beginsM [60, 63] (s.data.toList.drop n) = false) (t6 : beginsM [60, 47] (s.data.toList.drop n) = false) (t7 : beginsM [60] (s.data.toList.drop n) = true) (h60 : (s.data.toList.drop n).head? = some 60) (hsg : signS n (s.data.toList.drop n) = ⟨some (textT [60]), [(141, n)], 1, []⟩) (hn : n < s.size) (hs : s.size ≤ 20000) : Hid (∀ W B m R H T F, RS W B m R s n H T F (.slice none 0 0) [] → H.length ≤ n → T.length ≤ n → F.length ≤ 3 * n → NoText T → Calls Tryz.prog 26 #[.pointer (some ⟨R, 0, none⟩)] W (RoundP B R s n H T F W)) := Lib.hid fun w B m R H T F h0 hH hT hF hNT => by
  have K0 := beginsT_hid R s ⟨#[60, 47]⟩ n false t0 (by omega) (by decide) (by omega) (by decide)
  have K1 := beginsT_hid R s ⟨#[60]⟩ n false t1 (by omega) (by decide) (by omega) (by decide)
  have K2 := begins_hid R s ⟨#[60, 33, 45, 45]⟩ n false t2 (by omega) (by decide) (by omega) (by decide)
  have K3 := begins_hid R s ⟨#[60, 33, 100, 111, 99, 116, 121, 112, 101]⟩ n false t3 (by omega) (by decide) (by omega) (by decide)
  have K4 := begins_hid R s ⟨#[60, 33]⟩ n false t4 (by omega) (by decide) (by omega) (by decide)
  have K5 := begins_hid R s ⟨#[60, 63]⟩ n false t5 (by omega) (by decide) (by omega) (by decide)
  have K6 := begins_hid R s ⟨#[60, 47]⟩ n false t6 (by omega) (by decide) (by omega) (by decide)
  have K7 := begins_hid R s ⟨#[60]⟩ n true t7 (by omega) (by decide) (by omega) (by decide)
  obtain ⟨k, hk⟩ : ∃ k, k = 1 + ((s.data.toList.drop n).drop 1).findIdx (· == 60) := ⟨_, rfl⟩
  have hkl := idx_le (· == (60 : UInt8)) ((s.data.toList.drop n).drop 1)
  rw [List.length_drop, List.length_drop, lsize] at hkl
  obtain ⟨P, hP⟩ := text_of ((s.data.toList.drop n).take k)
  obtain ⟨D, hD⟩ := text_of (decT 0 P.data.toList).1
  obtain ⟨q, hq⟩ : ∃ q, (decT 0 P.data.toList).2 = q := ⟨_, rfl⟩
  have hd : decT 0 P.data.toList = (D.data.toList, q) := by rw [hD, ← hq]
  have hdl := decT_len 0 P.data.toList
  have hPl : P.data.toList.length ≤ k := by rw [hP, List.length_take]; exact Nat.min_le_left _ _
  rw [hd] at hdl
  have C := readText_hid s P D n k q hn hk hP hd hs
  have HRD : Hid (Rd s.data.toList n H T F (n + k) (H ++ D.data.toList) T ((F ++ [((141 : Int), n)]) ++ failM n q)) := Lib.hid (rd_open hNT h60 hsg hk (by rw [← hP]; exact hd))
  have hDl : D.data.toList.length ≤ k := Nat.le_trans hdl.1 hPl
  have hql : (failM n q).length ≤ k := by rw [failM, List.length_map]; exact Nat.le_trans hdl.2 hPl
  have hk1 : 1 ≤ k := by omega
  have CF := fail_hid 141 n
  have hkn : n + k ≤ s.size := by omega
  clear hP hD hq hd hdl hPl hk hkl h60 hsg
  obtain ⟨p, bv, tv, fv, hx⟩ := h0
  have hbw := hx.bw
  have HX := Lib.hid hx
  clear hx t0 t1 t2 t3 t4 t5 t6 t7
  go_enter Tryz.func26, Tryz.ntmps26
  have B0 : Below B w w := Below.refl _ _
  go_wp2_with fail
  (with_reducible refine (K0.out _ _ _ _ _ HX.out.x).mono ?_)
  rintro e wa0 ⟨rfl, bb⟩
  have HX := Lib.hid (HX.out.below bb)
  have B0 := B0.trans (bb.mono (Nat.le_trans hbw B0.size))
  clear bb K0
  go_wp2_with fail
  (with_reducible refine (K1.out _ _ _ _ _ HX.out.x).mono ?_)
  rintro e wa1 ⟨rfl, bb⟩
  have HX := Lib.hid (HX.out.below bb)
  have B0 := B0.trans (bb.mono (Nat.le_trans hbw B0.size))
  clear bb K1
  go_wp2_with fail
  (with_reducible refine (K2.out _ _ _ _ _ HX.out.x).mono ?_)
  rintro e wa2 ⟨rfl, bb⟩
  have HX := Lib.hid (HX.out.below bb)
  have B0 := B0.trans (bb.mono (Nat.le_trans hbw B0.size))
  clear bb K2
  go_wp2_with fail
  (with_reducible refine (K3.out _ _ _ _ _ HX.out.x).mono ?_)
  rintro e wa3 ⟨rfl, bb⟩
  have HX := Lib.hid (HX.out.below bb)
  have B0 := B0.trans (bb.mono (Nat.le_trans hbw B0.size))
  clear bb K3
  go_wp2_with fail
  (with_reducible refine (K4.out _ _ _ _ _ HX.out.x).mono ?_)
  rintro e wa4 ⟨rfl, bb⟩
  have HX := Lib.hid (HX.out.below bb)
  have B0 := B0.trans (bb.mono (Nat.le_trans hbw B0.size))
  clear bb K4
  go_wp2_with fail
  (with_reducible refine (K5.out _ _ _ _ _ HX.out.x).mono ?_)
  rintro e wa5 ⟨rfl, bb⟩
  have HX := Lib.hid (HX.out.below bb)
  have B0 := B0.trans (bb.mono (Nat.le_trans hbw B0.size))
  clear bb K5
  go_wp2_with fail
  (with_reducible refine (K6.out _ _ _ _ _ HX.out.x).mono ?_)
  rintro e wa6 ⟨rfl, bb⟩
  have HX := Lib.hid (HX.out.below bb)
  have B0 := B0.trans (bb.mono (Nat.le_trans hbw B0.size))
  clear bb K6
  go_wp2_with fail
  (with_reducible refine (K7.out _ _ _ _ _ HX.out.x).mono ?_)
  rintro e wa7 ⟨rfl, bb⟩
  have HX := Lib.hid (HX.out.below bb)
  have B0 := B0.trans (bb.mono (Nat.le_trans hbw B0.size))
  clear bb K7
  have d1 := HX.out.x.c1
  go_wp2_with fail
  (with_reducible refine (CF.out _ _ _ _ _ _ _ _ _ _ _ HX.out.form (by omega)).mono ?_)
  rintro e w2 ⟨rfl, h2, k2⟩
  have B0 := B0.trans (HX.out.form.frb k2)
  clear k2 HX d1 CF
  go_wp2_with fail
  (with_reducible refine (C.out _ _ _ _ _ _ _ _ _ h2 (by rw [List.length_append]; simp; omega) (by omega)).mono ?_)
  rintro e w3 ⟨rfl, h3, b3⟩
  have HR : Hid (RoundP B R s n H T F w (.returned (.tuple #[])) w3) := Lib.hid ⟨rfl, B0.trans b3, _, n + k, _, T, _, h3, HRD.out, by omega, hkn, hNT, by rw [List.length_append]; omega, by omega, by simp only [List.length_append, List.length_cons, List.length_nil]; omega⟩
  clear h3 b3 h2 B0 C HRD
  go_wp2
  go_end0
  exact HR.out

set_option maxRecDepth 100000 in
set_option maxHeartbeats 8000000 in
theorem leaf_text (s : ByteArray) (n : Nat) (t0 : (beginsM [60, 47] (s.data.toList.drop n) && (s.data.toList[n + 2]?).any letB) = false) (t1 : (beginsM [60] (s.data.toList.drop n) && (s.data.toList[n + 1]?).any letB) = false) (t2 : beginsM [60, 33, 45, 45] (s.data.toList.drop n) = false) (t3 : beginsM [60, 33, 100, 111, 99, 116, 121, 112, 101] (s.data.toList.drop n) = false) (t4 : beginsM [60, 33] (s.data.toList.drop n) = false) (t5 : beginsM [60, 63] (s.data.toList.drop n) = false) (t6 : beginsM [60, 47] (s.data.toList.drop n) = false) (t7 : beginsM [60] (s.data.toList.drop n) = false) (h60 : (s.data.toList.drop n).head? ≠ some 60) (hn : n < s.size) (hs : s.size ≤ 20000) : Hid (∀ W B m R H T F, RS W B m R s n H T F (.slice none 0 0) [] → H.length ≤ n → T.length ≤ n → F.length ≤ 3 * n → NoText T → Calls Tryz.prog 26 #[.pointer (some ⟨R, 0, none⟩)] W (RoundP B R s n H T F W)) := Lib.hid fun w B m R H T F h0 hH hT hF hNT => by
  have K0 := beginsT_hid R s ⟨#[60, 47]⟩ n false t0 (by omega) (by decide) (by omega) (by decide)
  have K1 := beginsT_hid R s ⟨#[60]⟩ n false t1 (by omega) (by decide) (by omega) (by decide)
  have K2 := begins_hid R s ⟨#[60, 33, 45, 45]⟩ n false t2 (by omega) (by decide) (by omega) (by decide)
  have K3 := begins_hid R s ⟨#[60, 33, 100, 111, 99, 116, 121, 112, 101]⟩ n false t3 (by omega) (by decide) (by omega) (by decide)
  have K4 := begins_hid R s ⟨#[60, 33]⟩ n false t4 (by omega) (by decide) (by omega) (by decide)
  have K5 := begins_hid R s ⟨#[60, 63]⟩ n false t5 (by omega) (by decide) (by omega) (by decide)
  have K6 := begins_hid R s ⟨#[60, 47]⟩ n false t6 (by omega) (by decide) (by omega) (by decide)
  have K7 := begins_hid R s ⟨#[60]⟩ n false t7 (by omega) (by decide) (by omega) (by decide)
  obtain ⟨k, hk⟩ : ∃ k, k = 1 + ((s.data.toList.drop n).drop 1).findIdx (· == 60) := ⟨_, rfl⟩
  have hkl := idx_le (· == (60 : UInt8)) ((s.data.toList.drop n).drop 1)
  rw [List.length_drop, List.length_drop, lsize] at hkl
  obtain ⟨P, hP⟩ := text_of ((s.data.toList.drop n).take k)
  obtain ⟨D, hD⟩ := text_of (decT 0 P.data.toList).1
  obtain ⟨q, hq⟩ : ∃ q, (decT 0 P.data.toList).2 = q := ⟨_, rfl⟩
  have hd : decT 0 P.data.toList = (D.data.toList, q) := by rw [hD, ← hq]
  have hdl := decT_len 0 P.data.toList
  have hPl : P.data.toList.length ≤ k := by rw [hP, List.length_take]; exact Nat.min_le_left _ _
  rw [hd] at hdl
  have C := readText_hid s P D n k q hn hk hP hd hs
  have HRD : Hid (Rd s.data.toList n H T F (n + k) (H ++ D.data.toList) T (F ++ failM n q)) := Lib.hid (rd_text (by rw [lsize]; exact hn) hNT h60 hk (by rw [← hP]; exact hd))
  have hDl : D.data.toList.length ≤ k := Nat.le_trans hdl.1 hPl
  have hql : (failM n q).length ≤ k := by rw [failM, List.length_map]; exact Nat.le_trans hdl.2 hPl
  have hk1 : 1 ≤ k := by omega
  have hkn : n + k ≤ s.size := by omega
  clear hP hD hq hd hdl hPl hk hkl h60
  obtain ⟨p, bv, tv, fv, hx⟩ := h0
  have hbw := hx.bw
  have HX := Lib.hid hx
  clear hx t0 t1 t2 t3 t4 t5 t6 t7
  go_enter Tryz.func26, Tryz.ntmps26
  have B0 : Below B w w := Below.refl _ _
  go_wp2_with fail
  (with_reducible refine (K0.out _ _ _ _ _ HX.out.x).mono ?_)
  rintro e wa0 ⟨rfl, bb⟩
  have HX := Lib.hid (HX.out.below bb)
  have B0 := B0.trans (bb.mono (Nat.le_trans hbw B0.size))
  clear bb K0
  go_wp2_with fail
  (with_reducible refine (K1.out _ _ _ _ _ HX.out.x).mono ?_)
  rintro e wa1 ⟨rfl, bb⟩
  have HX := Lib.hid (HX.out.below bb)
  have B0 := B0.trans (bb.mono (Nat.le_trans hbw B0.size))
  clear bb K1
  go_wp2_with fail
  (with_reducible refine (K2.out _ _ _ _ _ HX.out.x).mono ?_)
  rintro e wa2 ⟨rfl, bb⟩
  have HX := Lib.hid (HX.out.below bb)
  have B0 := B0.trans (bb.mono (Nat.le_trans hbw B0.size))
  clear bb K2
  go_wp2_with fail
  (with_reducible refine (K3.out _ _ _ _ _ HX.out.x).mono ?_)
  rintro e wa3 ⟨rfl, bb⟩
  have HX := Lib.hid (HX.out.below bb)
  have B0 := B0.trans (bb.mono (Nat.le_trans hbw B0.size))
  clear bb K3
  go_wp2_with fail
  (with_reducible refine (K4.out _ _ _ _ _ HX.out.x).mono ?_)
  rintro e wa4 ⟨rfl, bb⟩
  have HX := Lib.hid (HX.out.below bb)
  have B0 := B0.trans (bb.mono (Nat.le_trans hbw B0.size))
  clear bb K4
  go_wp2_with fail
  (with_reducible refine (K5.out _ _ _ _ _ HX.out.x).mono ?_)
  rintro e wa5 ⟨rfl, bb⟩
  have HX := Lib.hid (HX.out.below bb)
  have B0 := B0.trans (bb.mono (Nat.le_trans hbw B0.size))
  clear bb K5
  go_wp2_with fail
  (with_reducible refine (K6.out _ _ _ _ _ HX.out.x).mono ?_)
  rintro e wa6 ⟨rfl, bb⟩
  have HX := Lib.hid (HX.out.below bb)
  have B0 := B0.trans (bb.mono (Nat.le_trans hbw B0.size))
  clear bb K6
  go_wp2_with fail
  (with_reducible refine (K7.out _ _ _ _ _ HX.out.x).mono ?_)
  rintro e wa7 ⟨rfl, bb⟩
  have HX := Lib.hid (HX.out.below bb)
  have B0 := B0.trans (bb.mono (Nat.le_trans hbw B0.size))
  clear bb K7
  have h2 := HX.out.form
  clear HX
  go_wp2_with fail
  (with_reducible refine (C.out _ _ _ _ _ _ _ _ _ h2 (by omega) (by omega)).mono ?_)
  rintro e w3 ⟨rfl, h3, b3⟩
  have HR : Hid (RoundP B R s n H T F w (.returned (.tuple #[])) w3) := Lib.hid ⟨rfl, B0.trans b3, _, n + k, _, T, _, h3, HRD.out, by omega, hkn, hNT, by rw [List.length_append]; omega, by omega, by rw [List.length_append]; omega⟩
  clear h3 b3 h2 B0 C HRD
  go_wp2
  go_end0
  exact HR.out

end Go.Proofs.YtfbhpmafjehojaaGreatDoor

namespace Go.Proofs.YtfbhpmafjehojaaGreatDoor
open Go.RowKit

theorem getD_drop (s : List UInt8) (n k : Nat) : (s.drop n)[k]? = s[n + k]? := List.getElem?_drop
theorem read_hid (s : ByteArray) (n : Nat) (hn : n < s.size) (hs : s.size ≤ 20000) : Hid (∀ W B m R H T F, RS W B m R s n H T F (.slice none 0 0) [] → H.length ≤ n → T.length ≤ n → F.length ≤ 3 * n → NoText T → Calls Tryz.prog 26 #[.pointer (some ⟨R, 0, none⟩)] W (RoundP B R s n H T F W)) := by
  obtain ⟨l, hl⟩ : ∃ l, s.data.toList.drop n = l := ⟨_, rfl⟩
  have g1 : s.data.toList[n + 1]? = l[1]? := by rw [← hl, getD_drop]
  have g2 : s.data.toList[n + 2]? = l[2]? := by rw [← hl, getD_drop]
  have p1 : beginsM [60] l = decide (l[0]? = some 60) := begins_first (by decide) (by decide) l
  have p2 : ∀ z : UInt8, z.toNat < 97 → lowB z = z → beginsM [60, z] l = (decide (l[0]? = some 60) && decide (l[1]? = some z)) := fun z h1 h2 => begins_pair (by decide) (by decide) h1 h2 l
  have p47 := p2 47 (by decide) (by decide)
  have p33 := p2 33 (by decide) (by decide)
  have p63 := p2 63 (by decide) (by decide)
  by_cases h60 : l.head? = some 60
  · have h0 : l[0]? = some 60 := by rw [← head_get]; exact h60
    rw [h0] at p1 p47 p33 p63
    simp only [decide_true, Bool.true_and] at p1 p47 p33 p63
    have hsg := signS_is n l
    by_cases e1 : (l[1]?).any letB = true
    · have h47 : ¬ l[1]? = some 47 := fun e => by rw [e] at e1; exact absurd e1 (by decide)
      rw [if_pos e1] at hsg
      have hlt : n + 1 < s.size := by
        rw [← g1] at e1
        cases hc : s.data.toList[n + 1]? with
        | none => rw [hc] at e1; cases e1
        | some c => exact get_some hc
      exact leaf_start s n (by rw [hl, p47, decide_eq_false h47]; rfl) (by rw [hl, p1, g1, e1]; rfl) (by rw [hl]; exact h60) (by rw [hl]; exact hsg) hlt hn hs
    · rw [if_neg e1] at hsg
      have e1f : (l[1]?).any letB = false := Bool.eq_false_iff.2 e1
      by_cases e2 : l[1]? = some 47 ∧ (l[2]?).any letB = true
      · rw [if_pos e2] at hsg
        have hlt : n + 2 < s.size := by
          have e3 := e2.2
          rw [← g2] at e3
          cases hc : s.data.toList[n + 2]? with
          | none => rw [hc] at e3; cases e3
          | some c => exact get_some hc
        exact leaf_end s n (by rw [hl, p47, decide_eq_true e2.1, g2, e2.2]; rfl) (by rw [hl]; exact h60) (by rw [hl]; exact hsg) hlt hn hs
      · rw [if_neg e2] at hsg
        have t0 : (beginsM [60, 47] l && (s.data.toList[n + 2]?).any letB) = false := by
          rw [p47, g2]
          cases h : decide (l[1]? = some 47) with
          | false => rfl
          | true => rw [Bool.true_and]; exact Bool.eq_false_iff.2 fun h2 => e2 ⟨of_decide_eq_true h, h2⟩
        have t1 : (beginsM [60] l && (s.data.toList[n + 1]?).any letB) = false := by rw [g1, e1f, Bool.and_false]
        have two : ∀ z, l[1]? = some z → n + 2 ≤ s.size := fun z h => by
          rw [← g1] at h
          have := get_some h
          omega
        by_cases e3 : beginsM [60, 33, 45, 45] l = true
        · rw [if_pos e3] at hsg
          have hlen := begins_len e3
          rw [← hl, List.length_drop, lsize] at hlen
          simp only [List.length_cons, List.length_nil] at hlen
          cases hf : findT [45, 45, 62] (s.data.toList.drop (n + 4)) with
          | some i => exact leaf_note_yes s n (by rw [hl]; exact t0) (by rw [hl]; exact t1) (by rw [hl]; exact e3) i (by rw [hl]; exact h60) (by rw [hl]; exact hsg) hf (by omega) hn hs
          | none => exact leaf_note_no s n (by rw [hl]; exact t0) (by rw [hl]; exact t1) (by rw [hl]; exact e3) (by rw [hl]; exact h60) (by rw [hl]; exact hsg) hf (by omega) hn hs
        · rw [if_neg e3] at hsg
          have e3f := Bool.eq_false_iff.2 e3
          by_cases e4 : beginsM [60, 33, 100, 111, 99, 116, 121, 112, 101] l = true
          · rw [if_pos e4] at hsg
            have hlen := begins_len e4
            rw [← hl, List.length_drop, lsize] at hlen
            simp only [List.length_cons, List.length_nil] at hlen
            cases hf : findT [62] (s.data.toList.drop (n + 9)) with
            | some i => exact leaf_doc_yes s n (by rw [hl]; exact t0) (by rw [hl]; exact t1) (by rw [hl]; exact e3f) (by rw [hl]; exact e4) i (by rw [hl]; exact h60) (by rw [hl]; exact hsg) hf (by omega) hn hs
            | none => exact leaf_doc_no s n (by rw [hl]; exact t0) (by rw [hl]; exact t1) (by rw [hl]; exact e3f) (by rw [hl]; exact e4) (by rw [hl]; exact h60) (by rw [hl]; exact hsg) hf (by omega) hn hs
          · rw [if_neg e4] at hsg
            have e4f := Bool.eq_false_iff.2 e4
            by_cases e5 : l[1]? = some 33
            · rw [if_pos (.inl e5)] at hsg
              have t4 : beginsM [60, 33] l = true := by rw [p33, decide_eq_true e5]
              cases hf : findT [62] (s.data.toList.drop (n + 2)) with
              | some i => exact leaf_sign4_yes s n (by rw [hl]; exact t0) (by rw [hl]; exact t1) (by rw [hl]; exact e3f) (by rw [hl]; exact e4f) (by rw [hl]; exact t4) i (by rw [hl]; exact h60) (by rw [hl]; exact hsg) hf (two _ e5) hn hs
              | none => exact leaf_sign4_no s n (by rw [hl]; exact t0) (by rw [hl]; exact t1) (by rw [hl]; exact e3f) (by rw [hl]; exact e4f) (by rw [hl]; exact t4) (by rw [hl]; exact h60) (by rw [hl]; exact hsg) hf (two _ e5) hn hs
            · have t4 : beginsM [60, 33] l = false := by rw [p33, decide_eq_false e5]
              by_cases e6 : l[1]? = some 63
              · rw [if_pos (.inr (.inl e6))] at hsg
                have t5 : beginsM [60, 63] l = true := by rw [p63, decide_eq_true e6]
                cases hf : findT [62] (s.data.toList.drop (n + 2)) with
                | some i => exact leaf_sign5_yes s n (by rw [hl]; exact t0) (by rw [hl]; exact t1) (by rw [hl]; exact e3f) (by rw [hl]; exact e4f) (by rw [hl]; exact t4) (by rw [hl]; exact t5) i (by rw [hl]; exact h60) (by rw [hl]; exact hsg) hf (two _ e6) hn hs
                | none => exact leaf_sign5_no s n (by rw [hl]; exact t0) (by rw [hl]; exact t1) (by rw [hl]; exact e3f) (by rw [hl]; exact e4f) (by rw [hl]; exact t4) (by rw [hl]; exact t5) (by rw [hl]; exact h60) (by rw [hl]; exact hsg) hf (two _ e6) hn hs
              · have t5 : beginsM [60, 63] l = false := by rw [p63, decide_eq_false e6]
                by_cases e7 : l[1]? = some 47
                · rw [if_pos (.inr (.inr e7))] at hsg
                  have t6 : beginsM [60, 47] l = true := by rw [p47, decide_eq_true e7]
                  cases hf : findT [62] (s.data.toList.drop (n + 2)) with
                  | some i => exact leaf_sign6_yes s n (by rw [hl]; exact t0) (by rw [hl]; exact t1) (by rw [hl]; exact e3f) (by rw [hl]; exact e4f) (by rw [hl]; exact t4) (by rw [hl]; exact t5) (by rw [hl]; exact t6) i (by rw [hl]; exact h60) (by rw [hl]; exact hsg) hf (two _ e7) hn hs
                  | none => exact leaf_sign6_no s n (by rw [hl]; exact t0) (by rw [hl]; exact t1) (by rw [hl]; exact e3f) (by rw [hl]; exact e4f) (by rw [hl]; exact t4) (by rw [hl]; exact t5) (by rw [hl]; exact t6) (by rw [hl]; exact h60) (by rw [hl]; exact hsg) hf (two _ e7) hn hs
                · rw [if_neg (by rintro (h | h | h); exact e5 h; exact e6 h; exact e7 h)] at hsg
                  have t6 : beginsM [60, 47] l = false := by rw [p47, decide_eq_false e7]
                  exact leaf_open s n (by rw [hl]; exact t0) (by rw [hl]; exact t1) (by rw [hl]; exact e3f) (by rw [hl]; exact e4f) (by rw [hl]; exact t4) (by rw [hl]; exact t5) (by rw [hl]; exact t6) (by rw [hl]; exact p1) (by rw [hl]; exact h60) (by rw [hl]; exact hsg) hn hs
  · have no : ∀ z, beginsM (60 :: z) l = false := fun z => begins_no h60
    exact leaf_text s n (by rw [hl, no]; rfl) (by rw [hl, no]; rfl) (by rw [hl, no]) (by rw [hl, no]) (by rw [hl, no]) (by rw [hl, no]) (by rw [hl, no]) (by rw [hl, no]) (by rw [hl]; exact h60) hn hs

/-- The program's answer: the document's reader's tokens and Fails, in rows of one's own. -/
def TokP (s : List UInt8) (W : World) (e : Ending) (w' : World) : Prop :=
  ∃ (tv fv : Value) (m : Nat), e = .returned (.tuple #[tv, fv, .int .i64 0]) ∧ OwnT w' W.heap.size m tv (readM s).1 ∧ w'.ownsRow W.heap.size 50 2 fv (readM s).2.length (flC (readM s).2) ∧ Below W.heap.size W w'

set_option maxRecDepth 100000 in
set_option maxHeartbeats 8000000 in
theorem tokens_any (s : ByteArray) (hs : s.size ≤ 20000) (w : World) (hlow : Low w) : Calls Tryz.prog 18 #[.string s] w (TokP s.data.toList w) := by
  have z1 : (s.size : Int) ≤ 20000 := by omega
  have hal := (Below.refl w.heap.size w).alloc (Nat.le_refl _) (.cells #[.string s, .int .i64 0, .pointer none, .slice none 0 0, .slice none 0 0, .slice none 0 0] 67)
  have hv : RV (w.alloc (.cells #[.string s, .int .i64 0, .pointer none, .slice none 0 0, .slice none 0 0, .slice none 0 0] 67)) w.heap.size (w.heap.size + 1) w.heap.size s 0 [] [] [] (.slice none 0 0) [] (.pointer none) (.slice none 0 0) (.slice none 0 0) (.slice none 0 0) :=
    ⟨new_block w _, .inl rfl, World.ownsRow_nil _ _ _ _, fun _ => rfl, OwnT.nil _ _ _, World.ownsRow_nil _ _ _ _, World.ownsRow_nil _ _ _ _, fun _ => Nat.le_refl _, Nat.le_refl _, Nat.lt_succ_self _, by simp, hlow.lowB.on hal⟩
  have HV := Lib.hid (And.intro hv.form hal)
  have CA := fun n => atEnd_hid w.heap.size s n
  clear hv hal hlow
  go_enter Tryz.func18, Tryz.ntmps18
  go_wp2
  generalize w.alloc (.cells #[.string s, .int .i64 0, .pointer none, .slice none 0 0, .slice none 0 0, .slice none 0 0] 67) = w0 at HV ⊢
  generalize hR : w.heap.size = R at HV CA ⊢
  have HR := Lib.hid hR
  clear hR
  go_loopw [] (fun wr => ∃ (n : Nat) (H : List UInt8) (T : List Tk) (F : List Fl) (m : Nat), n ≤ s.size ∧ H.length ≤ n ∧ T.length ≤ n ∧ F.length ≤ 3 * n ∧ Hid (RS wr R m R s n H T F (.slice none 0 0) [] ∧ NoText T ∧ Below R w wr ∧ ∃ f, s.data.toList.length - n < f ∧ readM s.data.toList = readF f [] n (s.data.toList.drop n) (T ++ txtH H) F)) (fun wr => s.size - posOf R wr)
  case atStart => exact ⟨0, [], [], [], R + 1, Nat.zero_le _, Nat.le_refl _, Nat.le_refl _, Nat.le_refl _, Lib.hid ⟨HV.out.1, noText_nil, by rw [← HR.out]; rw [← HR.out] at HV; exact HV.out.2, s.data.toList.length + 2, by omega, rfl⟩⟩
  case round =>
    clear HV
    obtain ⟨n, H, T, F, m, hn, hH, hT, hF, HX⟩ := hrel
    have hpos := Lib.hid HX.out.1.pos
    obtain ⟨p, bv, tv, fv, hx⟩ := HX.out.1
    have HV := Lib.hid hx
    clear hx
    by_cases hend : n = s.size
    · have C := CA n true (decide_eq_true hend)
      have HRM : Hid (readM s.data.toList = (T ++ txtH H, F)) := Lib.hid (by
        obtain ⟨_, _, _, f, hf, he⟩ := HX.out
        rw [he, hend, show s.data.toList.drop s.size = [] by rw [← lsize]; simp]
        cases f with
        | zero => rfl
        | succ f => unfold readF; rw [if_pos ⟨rfl, rfl⟩])
      have HB := Lib.hid HX.out.2.2.1
      have hbw : R ≤ w.heap.size := by rw [HR.out]; exact Nat.le_refl _
      have hb0 := HV.out.bw
      clear HX
      go_wp2_with fail
      (with_reducible refine (C.out _ _ _ _ _ HV.out.x).mono ?_)
      rintro e w1 ⟨rfl, b1⟩
      have HV1 := Lib.hid (HV.out.below b1)
      have B1 := HB.out.trans (b1.mono hb0)
      clear b1 HV HB
      have CT := Lib.hid (tellText_rv w1 R m R s n H T F (.slice none 0 0) [] p bv tv fv HV1.out (by omega))
      go_wp2_with fail
      refine CT.out.mono ?_
      rintro e w2 ⟨rfl, p2, tv2, h2, -, k2⟩
      have B2 := B1.trans (HV1.out.frTb k2)
      have d4 := h2.x.c4
      have d5 := h2.x.c5
      have HE : Hid (OwnT w2 R w2.heap.size tv2 (T ++ txtH H) ∧ w2.ownsRow R 50 2 fv F.length (flC F) ∧ Below R w w2) := Lib.hid ⟨h2.ht, h2.hf, B2⟩
      obtain ⟨ta, tc, rfl⟩ := h2.ht.form
      obtain ⟨fa, fc, rfl⟩ : ∃ a c, fv = .slice a F.length c := by
        rcases rowForms h2.hf with ⟨e1, e2⟩ | ⟨g, c, e1⟩
        · exact ⟨none, 0, by rw [e1, e2]⟩
        · exact ⟨_, _, e1⟩
      clear h2 k2 B2 B1 HV1 CT
      obtain ⟨T2, hT2⟩ : ∃ T2, T ++ txtH H = T2 := ⟨_, rfl⟩
      rw [hT2] at HE HRM d4
      clear hT2
      go_wp2
      go_quiet (fail)
      go_wp2
      go_ret3
      obtain ⟨h1, h2, h3⟩ := HE.out
      refine ⟨_, _, w2.heap.size, rfl, ?_, ?_, ?_⟩
      · rw [HRM.out, HR.out]; exact h1.kp (Kp.of_below (belowN (Below.refl _ _) _) (P := fun _ _ => False)) (fun _ _ _ e => e) fun _ _ _ e => e
      · rw [HRM.out, HR.out]; exact ownsRow_below h2 (belowN (Below.refl _ _) _)
      · rw [HR.out]; exact belowN h3 _
    · have C := CA n false (decide_eq_false hend)
      have CR := read_hid s n (by omega) hs
      have hb0 := HV.out.bw
      have HB := Lib.hid HX.out.2.2.1
      have hNT := HX.out.2.1
      go_wp2_with fail
      (with_reducible refine (C.out _ _ _ _ _ HV.out.x).mono ?_)
      rintro e w1 ⟨rfl, b1⟩
      have h1 := HX.out.1.below b1
      have B1 := HB.out.trans (b1.mono hb0)
      clear b1 HV HB
      go_wp2_with fail
      (with_reducible refine (CR.out _ _ _ _ _ _ _ h1 hH hT hF hNT).mono ?_)
      intro e w2 hr
      obtain ⟨rfl, b2, m', n', H', T', F', h', hrd, hlt, hn', hNT', hH', hT', hF'⟩ := hr
      have HN : Hid (RS w2 R m' R s n' H' T' F' (.slice none 0 0) [] ∧ NoText T' ∧ Below R w w2 ∧ ∃ f, s.data.toList.length - n' < f ∧ readM s.data.toList = readF f [] n' (s.data.toList.drop n') (T' ++ txtH H') F') := Lib.hid ⟨h', hNT', B1.trans b2, by
        obtain ⟨_, _, _, f, hf, he⟩ := HX.out
        obtain ⟨f', hf', he'⟩ := hrd f hf
        exact ⟨f', hf', he.trans he'⟩⟩
      clear h' hNT' B1 b2 hrd HX hNT h1 C CR
      go_wp2
      go_roundw
      case rel => exact ⟨n', H', T', F', m', hn', hH', hT', hF', HN⟩
      case measure =>
        rw [HN.out.1.pos, hpos.out]
        omega
end Go.Proofs.YtfbhpmafjehojaaGreatDoor
