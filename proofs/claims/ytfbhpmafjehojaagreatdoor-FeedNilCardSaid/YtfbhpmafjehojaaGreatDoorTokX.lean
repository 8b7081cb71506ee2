/- The document's reader: a raw name's text. -/
import Derived.Test.YtfbhpmafjehojaaGreatDoorTokW
namespace Go.Proofs.YtfbhpmafjehojaaGreatDoor
open Go.RowKit

set_option maxRecDepth 100000 in
set_option maxHeartbeats 8000000 in
theorem rawQ_area_end (s x P D : ByteArray) (n to' : Nat) (q : List Nat) (hto : n + endM x.data.toList (s.data.toList.drop n) = to') (hn : n ≤ s.size) (hs : s.size ≤ 20000) (hxs : x.size ≤ 20000) (hP : P.data.toList = (s.data.toList.drop n).take (to' - n)) (h : decT 0 P.data.toList = (D.data.toList, q)) (ha : decide (x.data.toList = areaN) = true) (hend : to' = s.size) : Hid (∀ W B m0 Q T F, QS W B m0 Q s n T F x → LastD T 1000000 → T.length ≤ 900000 → F.length ≤ 400000 → Calls Tryz.prog 51 #[.pointer (some ⟨Q, 0, none⟩)] W fun e w' => e = .returned (.tuple #[]) ∧ QS w' B w'.heap.size Q s to' (pushM T (some (textT D.data.toList))) ((F ++ failM n q) ++ [((140 : Int), n)]) ⟨#[]⟩ ∧ Below B W w') := Lib.hid fun w B m0 Q T F h0 hL hl hlF => by
  have CE := endR_hid Q s x n hn (by omega) (by omega)
  rw [hto] at CE
  have hle : n ≤ to' := by omega
  have hle2 : to' ≤ s.size := by omega
  have hDs : D.size ≤ 100000 := by
    have h1 := (decT_len 0 P.data.toList).1
    rw [h, lsize, hP, List.length_take, List.length_drop, lsize] at h1
    omega
  have hql : q.length ≤ 20000 := by
    have := (decT_len 0 P.data.toList).2
    rw [h, hP, List.length_take, List.length_drop, lsize] at this
    simp only at this
    omega
  have g1 := slice_mid s P n to' hle hle2 hP
  have CD := decodeQ_hid s P D q n to' hP hle hle2 hs h
  have hfl : (failM n q).length = q.length := by simp [failM]
  subst hend
  have ha2 : (x.toList == [116, 101, 120, 116, 97, 114, 101, 97]) = true := by rw [text_lit]; exact ha
  have CT := textQ_hid D T (by omega) hL hl
  clear hto hP h hL hDs
  obtain ⟨tv, fv, hv⟩ := h0
  have d4 := hv.q.c4
  have f4 := hv.q.free 4
  have d1 := hv.q.c1
  have HX := Lib.hid (hv.moved (hv.q.set4 ⟨#[]⟩) (hv.q.kset 4 _))
  have B0 : Below B w _ := hv.form.onb (hv.q.kset 4 (.string ⟨#[]⟩))
  have hbw := hv.bw
  clear hv
  go_enter Tryz.func51, Tryz.ntmps51
  go_wp2_with fail
  (with_reducible refine (CE.out _ _ _ _ _ HX.out.q).mono ?_)
  rintro e w1 ⟨rfl, b1⟩
  have HX1 := Lib.hid (HX.out.below b1)
  have B1 := B0.trans (b1.mono HX.out.bw)
  clear b1 d4 f4 d1 CE HX B0
  have d0 := HX1.out.q.c0
  have d1 := HX1.out.q.c1
  go_wp2
  go_quiet (fail)
  have HX2 := Lib.hid (HX1.out.below (belowN (Below.refl w1.heap.size w1) nq))
  have B2 := B1.trans ((belowN (Below.refl w1.heap.size w1) nq).mono HX1.out.bw)
  have d0' := HX2.out.q.c0
  have d1' := HX2.out.q.c1
  clear HX1 B1
  go_wp2_with fail
  (with_reducible refine (CD.out _ _ _ _ _ _ _ _ HX2.out.form (by omega)).mono ?_)
  rintro e w3 ⟨rfl, h3, k3⟩
  have HX3 := Lib.hid h3
  have B3 := B2.trans (HX2.out.form.frb k3)
  clear h3 k3 d0 d1 d0' d1' CD HX2 B2
  go_wp2_with fail
  (with_reducible refine (CT.out _ _ _ _ _ _ _ _ HX3.out).mono ?_)
  rintro e w4 ⟨rfl, h4, b4⟩
  have B4 := B3.trans b4
  obtain ⟨tv4, fv4, h4⟩ := h4
  have HX4 := Lib.hid h4
  clear b4 B3 HX3 CT h4
  have d0 := HX4.out.q.c0
  have d1 := HX4.out.q.c1
  have f1 := HX4.out.q.free 1
  go_wp2_with fail
  have CF := failQ_hid 140 n
  (with_reducible refine (CF.out _ _ _ _ _ _ _ _ _ HX4.out.form (by rw [List.length_append, hfl]; omega)).mono ?_)
  rintro e w5 ⟨rfl, h5, k5⟩
  have B5 := B4.trans (HX4.out.form.frb k5)
  obtain ⟨tv5, fv5, h5⟩ := h5
  have HX5 := Lib.hid h5
  clear k5 h5 B4 HX4 d0 d1 f1 CF
  have d1 := HX5.out.q.c1
  have f1 := HX5.out.q.free 1
  go_wp2
  go_end0
  have q5 := HX5.out
  have q6 := q5.moved (q5.q.set1 s.size) (q5.q.kset 1 _)
  exact ⟨rfl, (q6.up q6.mw (Nat.le_refl _)).form, B5.trans (q5.form.onb (q5.q.kset 1 _))⟩

set_option maxRecDepth 100000 in
set_option maxHeartbeats 8000000 in
theorem rawQ_area_on (s x P D : ByteArray) (n to' : Nat) (q : List Nat) (hto : n + endM x.data.toList (s.data.toList.drop n) = to') (hn : n ≤ s.size) (hs : s.size ≤ 20000) (hxs : x.size ≤ 20000) (hP : P.data.toList = (s.data.toList.drop n).take (to' - n)) (h : decT 0 P.data.toList = (D.data.toList, q)) (ha : decide (x.data.toList = areaN) = true) (hend : to' < s.size) : Hid (∀ W B m0 Q T F, QS W B m0 Q s n T F x → LastD T 1000000 → T.length ≤ 900000 → F.length ≤ 400000 → Calls Tryz.prog 51 #[.pointer (some ⟨Q, 0, none⟩)] W fun e w' => e = .returned (.tuple #[]) ∧ QS w' B w'.heap.size Q s to' (pushM T (some (textT D.data.toList))) (F ++ failM n q) ⟨#[]⟩ ∧ Below B W w') := Lib.hid fun w B m0 Q T F h0 hL hl hlF => by
  have CE := endR_hid Q s x n hn (by omega) (by omega)
  rw [hto] at CE
  have hle : n ≤ to' := by omega
  have hle2 : to' ≤ s.size := by omega
  have hDs : D.size ≤ 100000 := by
    have h1 := (decT_len 0 P.data.toList).1
    rw [h, lsize, hP, List.length_take, List.length_drop, lsize] at h1
    omega
  have hql : q.length ≤ 20000 := by
    have := (decT_len 0 P.data.toList).2
    rw [h, hP, List.length_take, List.length_drop, lsize] at this
    simp only at this
    omega
  have g1 := slice_mid s P n to' hle hle2 hP
  have CD := decodeQ_hid s P D q n to' hP hle hle2 hs h
  have hfl : (failM n q).length = q.length := by simp [failM]
  have gend : ((to' : Int) == (s.size : Int)) = false := by rw [beq_eq_false_iff_ne]; omega
  have ha2 : (x.toList == [116, 101, 120, 116, 97, 114, 101, 97]) = true := by rw [text_lit]; exact ha
  have CT := textQ_hid D T (by omega) hL hl
  clear hto hP h hL hDs hend
  obtain ⟨tv, fv, hv⟩ := h0
  have d4 := hv.q.c4
  have f4 := hv.q.free 4
  have d1 := hv.q.c1
  have HX := Lib.hid (hv.moved (hv.q.set4 ⟨#[]⟩) (hv.q.kset 4 _))
  have B0 : Below B w _ := hv.form.onb (hv.q.kset 4 (.string ⟨#[]⟩))
  have hbw := hv.bw
  clear hv
  go_enter Tryz.func51, Tryz.ntmps51
  go_wp2_with fail
  (with_reducible refine (CE.out _ _ _ _ _ HX.out.q).mono ?_)
  rintro e w1 ⟨rfl, b1⟩
  have HX1 := Lib.hid (HX.out.below b1)
  have B1 := B0.trans (b1.mono HX.out.bw)
  clear b1 d4 f4 d1 CE HX B0
  have d0 := HX1.out.q.c0
  have d1 := HX1.out.q.c1
  go_wp2
  go_quiet (fail)
  have HX2 := Lib.hid (HX1.out.below (belowN (Below.refl w1.heap.size w1) nq))
  have B2 := B1.trans ((belowN (Below.refl w1.heap.size w1) nq).mono HX1.out.bw)
  have d0' := HX2.out.q.c0
  have d1' := HX2.out.q.c1
  clear HX1 B1
  go_wp2_with fail
  (with_reducible refine (CD.out _ _ _ _ _ _ _ _ HX2.out.form (by omega)).mono ?_)
  rintro e w3 ⟨rfl, h3, k3⟩
  have HX3 := Lib.hid h3
  have B3 := B2.trans (HX2.out.form.frb k3)
  clear h3 k3 d0 d1 d0' d1' CD HX2 B2
  go_wp2_with fail
  (with_reducible refine (CT.out _ _ _ _ _ _ _ _ HX3.out).mono ?_)
  rintro e w4 ⟨rfl, h4, b4⟩
  have B4 := B3.trans b4
  obtain ⟨tv4, fv4, h4⟩ := h4
  have HX4 := Lib.hid h4
  clear b4 B3 HX3 CT h4
  have d0 := HX4.out.q.c0
  have d1 := HX4.out.q.c1
  have f1 := HX4.out.q.free 1
  have HX5 := HX4
  have B5 := B4
  go_wp2
  go_end0
  have q5 := HX5.out
  have q6 := q5.moved (q5.q.set1 to') (q5.q.kset 1 _)
  exact ⟨rfl, (q6.up q6.mw (Nat.le_refl _)).form, B5.trans (q5.form.onb (q5.q.kset 1 _))⟩

set_option maxRecDepth 100000 in
set_option maxHeartbeats 8000000 in
theorem rawQ_title_end (s x P D : ByteArray) (n to' : Nat) (q : List Nat) (hto : n + endM x.data.toList (s.data.toList.drop n) = to') (hn : n ≤ s.size) (hs : s.size ≤ 20000) (hxs : x.size ≤ 20000) (hP : P.data.toList = (s.data.toList.drop n).take (to' - n)) (h : decT 0 P.data.toList = (D.data.toList, q)) (ha : decide (x.data.toList = areaN) = false) (ht : decide (x.data.toList = titleN) = true) (hend : to' = s.size) : Hid (∀ W B m0 Q T F, QS W B m0 Q s n T F x → LastD T 1000000 → T.length ≤ 900000 → F.length ≤ 400000 → Calls Tryz.prog 51 #[.pointer (some ⟨Q, 0, none⟩)] W fun e w' => e = .returned (.tuple #[]) ∧ QS w' B w'.heap.size Q s to' (pushM T (some (textT D.data.toList))) ((F ++ failM n q) ++ [((140 : Int), n)]) ⟨#[]⟩ ∧ Below B W w') := Lib.hid fun w B m0 Q T F h0 hL hl hlF => by
  have CE := endR_hid Q s x n hn (by omega) (by omega)
  rw [hto] at CE
  have hle : n ≤ to' := by omega
  have hle2 : to' ≤ s.size := by omega
  have hDs : D.size ≤ 100000 := by
    have h1 := (decT_len 0 P.data.toList).1
    rw [h, lsize, hP, List.length_take, List.length_drop, lsize] at h1
    omega
  have hql : q.length ≤ 20000 := by
    have := (decT_len 0 P.data.toList).2
    rw [h, hP, List.length_take, List.length_drop, lsize] at this
    simp only at this
    omega
  have g1 := slice_mid s P n to' hle hle2 hP
  have CD := decodeQ_hid s P D q n to' hP hle hle2 hs h
  have hfl : (failM n q).length = q.length := by simp [failM]
  subst hend
  have ha2 : (x.toList == [116, 101, 120, 116, 97, 114, 101, 97]) = false := by rw [text_lit]; exact ha
  have ht2 : (x.toList == [116, 105, 116, 108, 101]) = true := by rw [text_lit]; exact ht
  have CT := textQ_hid D T (by omega) hL hl
  clear hto hP h hL hDs
  obtain ⟨tv, fv, hv⟩ := h0
  have d4 := hv.q.c4
  have f4 := hv.q.free 4
  have d1 := hv.q.c1
  have HX := Lib.hid (hv.moved (hv.q.set4 ⟨#[]⟩) (hv.q.kset 4 _))
  have B0 : Below B w _ := hv.form.onb (hv.q.kset 4 (.string ⟨#[]⟩))
  have hbw := hv.bw
  clear hv
  go_enter Tryz.func51, Tryz.ntmps51
  go_wp2_with fail
  (with_reducible refine (CE.out _ _ _ _ _ HX.out.q).mono ?_)
  rintro e w1 ⟨rfl, b1⟩
  have HX1 := Lib.hid (HX.out.below b1)
  have B1 := B0.trans (b1.mono HX.out.bw)
  clear b1 d4 f4 d1 CE HX B0
  have d0 := HX1.out.q.c0
  have d1 := HX1.out.q.c1
  go_wp2
  go_quiet (fail)
  have HX2 := Lib.hid (HX1.out.below (belowN (Below.refl w1.heap.size w1) nq))
  have B2 := B1.trans ((belowN (Below.refl w1.heap.size w1) nq).mono HX1.out.bw)
  have d0' := HX2.out.q.c0
  have d1' := HX2.out.q.c1
  clear HX1 B1
  go_wp2_with fail
  (with_reducible refine (CD.out _ _ _ _ _ _ _ _ HX2.out.form (by omega)).mono ?_)
  rintro e w3 ⟨rfl, h3, k3⟩
  have HX3 := Lib.hid h3
  have B3 := B2.trans (HX2.out.form.frb k3)
  clear h3 k3 d0 d1 d0' d1' CD HX2 B2
  go_wp2_with fail
  (with_reducible refine (CT.out _ _ _ _ _ _ _ _ HX3.out).mono ?_)
  rintro e w4 ⟨rfl, h4, b4⟩
  have B4 := B3.trans b4
  obtain ⟨tv4, fv4, h4⟩ := h4
  have HX4 := Lib.hid h4
  clear b4 B3 HX3 CT h4
  have d0 := HX4.out.q.c0
  have d1 := HX4.out.q.c1
  have f1 := HX4.out.q.free 1
  go_wp2_with fail
  have CF := failQ_hid 140 n
  (with_reducible refine (CF.out _ _ _ _ _ _ _ _ _ HX4.out.form (by rw [List.length_append, hfl]; omega)).mono ?_)
  rintro e w5 ⟨rfl, h5, k5⟩
  have B5 := B4.trans (HX4.out.form.frb k5)
  obtain ⟨tv5, fv5, h5⟩ := h5
  have HX5 := Lib.hid h5
  clear k5 h5 B4 HX4 d0 d1 f1 CF
  have d1 := HX5.out.q.c1
  have f1 := HX5.out.q.free 1
  go_wp2
  go_end0
  have q5 := HX5.out
  have q6 := q5.moved (q5.q.set1 s.size) (q5.q.kset 1 _)
  exact ⟨rfl, (q6.up q6.mw (Nat.le_refl _)).form, B5.trans (q5.form.onb (q5.q.kset 1 _))⟩

set_option maxRecDepth 100000 in
set_option maxHeartbeats 8000000 in
theorem rawQ_title_on (s x P D : ByteArray) (n to' : Nat) (q : List Nat) (hto : n + endM x.data.toList (s.data.toList.drop n) = to') (hn : n ≤ s.size) (hs : s.size ≤ 20000) (hxs : x.size ≤ 20000) (hP : P.data.toList = (s.data.toList.drop n).take (to' - n)) (h : decT 0 P.data.toList = (D.data.toList, q)) (ha : decide (x.data.toList = areaN) = false) (ht : decide (x.data.toList = titleN) = true) (hend : to' < s.size) : Hid (∀ W B m0 Q T F, QS W B m0 Q s n T F x → LastD T 1000000 → T.length ≤ 900000 → F.length ≤ 400000 → Calls Tryz.prog 51 #[.pointer (some ⟨Q, 0, none⟩)] W fun e w' => e = .returned (.tuple #[]) ∧ QS w' B w'.heap.size Q s to' (pushM T (some (textT D.data.toList))) (F ++ failM n q) ⟨#[]⟩ ∧ Below B W w') := Lib.hid fun w B m0 Q T F h0 hL hl hlF => by
  have CE := endR_hid Q s x n hn (by omega) (by omega)
  rw [hto] at CE
  have hle : n ≤ to' := by omega
  have hle2 : to' ≤ s.size := by omega
  have hDs : D.size ≤ 100000 := by
    have h1 := (decT_len 0 P.data.toList).1
    rw [h, lsize, hP, List.length_take, List.length_drop, lsize] at h1
    omega
  have hql : q.length ≤ 20000 := by
    have := (decT_len 0 P.data.toList).2
    rw [h, hP, List.length_take, List.length_drop, lsize] at this
    simp only at this
    omega
  have g1 := slice_mid s P n to' hle hle2 hP
  have CD := decodeQ_hid s P D q n to' hP hle hle2 hs h
  have hfl : (failM n q).length = q.length := by simp [failM]
  have gend : ((to' : Int) == (s.size : Int)) = false := by rw [beq_eq_false_iff_ne]; omega
  have ha2 : (x.toList == [116, 101, 120, 116, 97, 114, 101, 97]) = false := by rw [text_lit]; exact ha
  have ht2 : (x.toList == [116, 105, 116, 108, 101]) = true := by rw [text_lit]; exact ht
  have CT := textQ_hid D T (by omega) hL hl
  clear hto hP h hL hDs hend
  obtain ⟨tv, fv, hv⟩ := h0
  have d4 := hv.q.c4
  have f4 := hv.q.free 4
  have d1 := hv.q.c1
  have HX := Lib.hid (hv.moved (hv.q.set4 ⟨#[]⟩) (hv.q.kset 4 _))
  have B0 : Below B w _ := hv.form.onb (hv.q.kset 4 (.string ⟨#[]⟩))
  have hbw := hv.bw
  clear hv
  go_enter Tryz.func51, Tryz.ntmps51
  go_wp2_with fail
  (with_reducible refine (CE.out _ _ _ _ _ HX.out.q).mono ?_)
  rintro e w1 ⟨rfl, b1⟩
  have HX1 := Lib.hid (HX.out.below b1)
  have B1 := B0.trans (b1.mono HX.out.bw)
  clear b1 d4 f4 d1 CE HX B0
  have d0 := HX1.out.q.c0
  have d1 := HX1.out.q.c1
  go_wp2
  go_quiet (fail)
  have HX2 := Lib.hid (HX1.out.below (belowN (Below.refl w1.heap.size w1) nq))
  have B2 := B1.trans ((belowN (Below.refl w1.heap.size w1) nq).mono HX1.out.bw)
  have d0' := HX2.out.q.c0
  have d1' := HX2.out.q.c1
  clear HX1 B1
  go_wp2_with fail
  (with_reducible refine (CD.out _ _ _ _ _ _ _ _ HX2.out.form (by omega)).mono ?_)
  rintro e w3 ⟨rfl, h3, k3⟩
  have HX3 := Lib.hid h3
  have B3 := B2.trans (HX2.out.form.frb k3)
  clear h3 k3 d0 d1 d0' d1' CD HX2 B2
  go_wp2_with fail
  (with_reducible refine (CT.out _ _ _ _ _ _ _ _ HX3.out).mono ?_)
  rintro e w4 ⟨rfl, h4, b4⟩
  have B4 := B3.trans b4
  obtain ⟨tv4, fv4, h4⟩ := h4
  have HX4 := Lib.hid h4
  clear b4 B3 HX3 CT h4
  have d0 := HX4.out.q.c0
  have d1 := HX4.out.q.c1
  have f1 := HX4.out.q.free 1
  have HX5 := HX4
  have B5 := B4
  go_wp2
  go_end0
  have q5 := HX5.out
  have q6 := q5.moved (q5.q.set1 to') (q5.q.kset 1 _)
  exact ⟨rfl, (q6.up q6.mw (Nat.le_refl _)).form, B5.trans (q5.form.onb (q5.q.kset 1 _))⟩

set_option maxRecDepth 100000 in
set_option maxHeartbeats 8000000 in
theorem rawQ_hard_end (s x D : ByteArray) (n to' : Nat) (hto : n + endM x.data.toList (s.data.toList.drop n) = to') (hn : n ≤ s.size) (hs : s.size ≤ 20000) (hxs : x.size ≤ 20000) (hD : D.data.toList = (s.data.toList.drop n).take (to' - n)) (ha : decide (x.data.toList = areaN) = false) (ht : decide (x.data.toList = titleN) = false) (hend : to' = s.size) : Hid (∀ W B m0 Q T F, QS W B m0 Q s n T F x → LastD T 1000000 → T.length ≤ 900000 → F.length ≤ 400000 → Calls Tryz.prog 51 #[.pointer (some ⟨Q, 0, none⟩)] W fun e w' => e = .returned (.tuple #[]) ∧ QS w' B w'.heap.size Q s to' (pushM T (some (textT D.data.toList))) ((F) ++ [((140 : Int), n)]) ⟨#[]⟩ ∧ Below B W w') := Lib.hid fun w B m0 Q T F h0 hL hl hlF => by
  have CE := endR_hid Q s x n hn (by omega) (by omega)
  rw [hto] at CE
  have hle : n ≤ to' := by omega
  have hle2 : to' ≤ s.size := by omega
  have hDs : D.size ≤ 100000 := by
    rw [← lsize, hD, List.length_take, List.length_drop, lsize]
    omega
  have g1 := slice_mid s D n to' hle hle2 hD
  subst hend
  have ha2 : (x.toList == [116, 101, 120, 116, 97, 114, 101, 97]) = false := by rw [text_lit]; exact ha
  have ht2 : (x.toList == [116, 105, 116, 108, 101]) = false := by rw [text_lit]; exact ht
  have CT := textQ_hid D T (by omega) hL hl
  clear hto hD hL hDs
  obtain ⟨tv, fv, hv⟩ := h0
  have d4 := hv.q.c4
  have f4 := hv.q.free 4
  have d1 := hv.q.c1
  have HX := Lib.hid (hv.moved (hv.q.set4 ⟨#[]⟩) (hv.q.kset 4 _))
  have B0 : Below B w _ := hv.form.onb (hv.q.kset 4 (.string ⟨#[]⟩))
  have hbw := hv.bw
  clear hv
  go_enter Tryz.func51, Tryz.ntmps51
  go_wp2_with fail
  (with_reducible refine (CE.out _ _ _ _ _ HX.out.q).mono ?_)
  rintro e w1 ⟨rfl, b1⟩
  have HX1 := Lib.hid (HX.out.below b1)
  have B1 := B0.trans (b1.mono HX.out.bw)
  clear b1 d4 f4 d1 CE HX B0
  have d0 := HX1.out.q.c0
  have d1 := HX1.out.q.c1
  go_wp2
  go_quiet (fail)
  have HX2 := Lib.hid (HX1.out.below (belowN (Below.refl w1.heap.size w1) nq))
  have B2 := B1.trans ((belowN (Below.refl w1.heap.size w1) nq).mono HX1.out.bw)
  have d0' := HX2.out.q.c0
  have d1' := HX2.out.q.c1
  clear HX1 B1
  have HX3 := Lib.hid HX2.out.form
  have B3 := B2
  clear HX2 B2
  go_wp2_with fail
  (with_reducible refine (CT.out _ _ _ _ _ _ _ _ HX3.out).mono ?_)
  rintro e w4 ⟨rfl, h4, b4⟩
  have B4 := B3.trans b4
  obtain ⟨tv4, fv4, h4⟩ := h4
  have HX4 := Lib.hid h4
  clear d0 d1 d0' d1'
  clear b4 B3 HX3 CT h4
  have d0 := HX4.out.q.c0
  have d1 := HX4.out.q.c1
  have f1 := HX4.out.q.free 1
  go_wp2_with fail
  have CF := failQ_hid 140 n
  (with_reducible refine (CF.out _ _ _ _ _ _ _ _ _ HX4.out.form (by omega)).mono ?_)
  rintro e w5 ⟨rfl, h5, k5⟩
  have B5 := B4.trans (HX4.out.form.frb k5)
  obtain ⟨tv5, fv5, h5⟩ := h5
  have HX5 := Lib.hid h5
  clear k5 h5 B4 HX4 d0 d1 f1 CF
  have d1 := HX5.out.q.c1
  have f1 := HX5.out.q.free 1
  go_wp2
  go_end0
  have q5 := HX5.out
  have q6 := q5.moved (q5.q.set1 s.size) (q5.q.kset 1 _)
  exact ⟨rfl, (q6.up q6.mw (Nat.le_refl _)).form, B5.trans (q5.form.onb (q5.q.kset 1 _))⟩

set_option maxRecDepth 100000 in
set_option maxHeartbeats 8000000 in
theorem rawQ_hard_on (s x D : ByteArray) (n to' : Nat) (hto : n + endM x.data.toList (s.data.toList.drop n) = to') (hn : n ≤ s.size) (hs : s.size ≤ 20000) (hxs : x.size ≤ 20000) (hD : D.data.toList = (s.data.toList.drop n).take (to' - n)) (ha : decide (x.data.toList = areaN) = false) (ht : decide (x.data.toList = titleN) = false) (hend : to' < s.size) : Hid (∀ W B m0 Q T F, QS W B m0 Q s n T F x → LastD T 1000000 → T.length ≤ 900000 → F.length ≤ 400000 → Calls Tryz.prog 51 #[.pointer (some ⟨Q, 0, none⟩)] W fun e w' => e = .returned (.tuple #[]) ∧ QS w' B w'.heap.size Q s to' (pushM T (some (textT D.data.toList))) (F) ⟨#[]⟩ ∧ Below B W w') := Lib.hid fun w B m0 Q T F h0 hL hl hlF => by
  have CE := endR_hid Q s x n hn (by omega) (by omega)
  rw [hto] at CE
  have hle : n ≤ to' := by omega
  have hle2 : to' ≤ s.size := by omega
  have hDs : D.size ≤ 100000 := by
    rw [← lsize, hD, List.length_take, List.length_drop, lsize]
    omega
  have g1 := slice_mid s D n to' hle hle2 hD
  have gend : ((to' : Int) == (s.size : Int)) = false := by rw [beq_eq_false_iff_ne]; omega
  have ha2 : (x.toList == [116, 101, 120, 116, 97, 114, 101, 97]) = false := by rw [text_lit]; exact ha
  have ht2 : (x.toList == [116, 105, 116, 108, 101]) = false := by rw [text_lit]; exact ht
  have CT := textQ_hid D T (by omega) hL hl
  clear hto hD hL hDs hend
  obtain ⟨tv, fv, hv⟩ := h0
  have d4 := hv.q.c4
  have f4 := hv.q.free 4
  have d1 := hv.q.c1
  have HX := Lib.hid (hv.moved (hv.q.set4 ⟨#[]⟩) (hv.q.kset 4 _))
  have B0 : Below B w _ := hv.form.onb (hv.q.kset 4 (.string ⟨#[]⟩))
  have hbw := hv.bw
  clear hv
  go_enter Tryz.func51, Tryz.ntmps51
  go_wp2_with fail
  (with_reducible refine (CE.out _ _ _ _ _ HX.out.q).mono ?_)
  rintro e w1 ⟨rfl, b1⟩
  have HX1 := Lib.hid (HX.out.below b1)
  have B1 := B0.trans (b1.mono HX.out.bw)
  clear b1 d4 f4 d1 CE HX B0
  have d0 := HX1.out.q.c0
  have d1 := HX1.out.q.c1
  go_wp2
  go_quiet (fail)
  have HX2 := Lib.hid (HX1.out.below (belowN (Below.refl w1.heap.size w1) nq))
  have B2 := B1.trans ((belowN (Below.refl w1.heap.size w1) nq).mono HX1.out.bw)
  have d0' := HX2.out.q.c0
  have d1' := HX2.out.q.c1
  clear HX1 B1
  have HX3 := Lib.hid HX2.out.form
  have B3 := B2
  clear HX2 B2
  go_wp2_with fail
  (with_reducible refine (CT.out _ _ _ _ _ _ _ _ HX3.out).mono ?_)
  rintro e w4 ⟨rfl, h4, b4⟩
  have B4 := B3.trans b4
  obtain ⟨tv4, fv4, h4⟩ := h4
  have HX4 := Lib.hid h4
  clear d0 d1 d0' d1'
  clear b4 B3 HX3 CT h4
  have d0 := HX4.out.q.c0
  have d1 := HX4.out.q.c1
  have f1 := HX4.out.q.free 1
  have HX5 := HX4
  have B5 := B4
  go_wp2
  go_end0
  have q5 := HX5.out
  have q6 := q5.moved (q5.q.set1 to') (q5.q.kset 1 _)
  exact ⟨rfl, (q6.up q6.mw (Nat.le_refl _)).form, B5.trans (q5.form.onb (q5.q.kset 1 _))⟩

theorem rawQ_hid (s x : ByteArray) (n : Nat) (hn : n ≤ s.size) (hs : s.size ≤ 20000) (hxs : x.size ≤ 20000) : Hid (∀ W B m0 Q T F, QS W B m0 Q s n T F x → LastD T 1000000 → T.length ≤ 900000 → F.length ≤ 400000 → Calls Tryz.prog 51 #[.pointer (some ⟨Q, 0, none⟩)] W (StepP B Q s n T F ⟨#[]⟩ (rawS x.data.toList n (s.data.toList.drop n)) W)) := Lib.hid fun w B m0 Q T F h0 hL hl hlF => by
  obtain ⟨e, he⟩ : ∃ e, endM x.data.toList (s.data.toList.drop n) = e := ⟨_, rfl⟩
  have hel := endM_le x.data.toList (s.data.toList.drop n)
  have hlen : (s.data.toList.drop n).length = s.size - n := by rw [List.length_drop, lsize]
  rw [he, hlen] at hel
  have hto : n + endM x.data.toList (s.data.toList.drop n) = n + e := by rw [he]
  obtain ⟨P, hP⟩ := text_of ((s.data.toList.drop n).take e)
  have hP2 : P.data.toList = (s.data.toList.drop n).take (n + e - n) := by rw [hP, Nat.add_sub_cancel_left]
  have hsf : softM x.data.toList = (decide (x.data.toList = areaN) || decide (x.data.toList = titleN)) := rfl
  unfold StepP rawS
  rw [he, hlen]
  dsimp only
  cases hb : softM x.data.toList with
  | true =>
    rw [if_pos rfl, ← hP]
    obtain ⟨D, hD⟩ := text_of (decT 0 P.data.toList).1
    obtain ⟨q, hq⟩ : ∃ q, (decT 0 P.data.toList).2 = q := ⟨_, rfl⟩
    have hd : decT 0 P.data.toList = (D.data.toList, q) := by rw [hD, ← hq]
    rw [decL_fail hd]
    dsimp only
    cases ha : decide (x.data.toList = areaN) with
    | true =>
      by_cases hend : n + e = s.size
      · rw [if_pos (show e = s.size - n by omega), ← List.append_assoc]
        exact (rawQ_area_end s x P D n (n + e) q hto hn hs hxs hP2 hd ha hend).out w B m0 Q T F h0 hL hl hlF
      · rw [if_neg (show ¬ e = s.size - n by omega), List.append_nil]
        exact (rawQ_area_on s x P D n (n + e) q hto hn hs hxs hP2 hd ha (by omega)).out w B m0 Q T F h0 hL hl hlF
    | false =>
      rw [hb, ha] at hsf
      have ht := hsf.symm
      rw [Bool.false_or] at ht
      by_cases hend : n + e = s.size
      · rw [if_pos (show e = s.size - n by omega), ← List.append_assoc]
        exact (rawQ_title_end s x P D n (n + e) q hto hn hs hxs hP2 hd ha ht hend).out w B m0 Q T F h0 hL hl hlF
      · rw [if_neg (show ¬ e = s.size - n by omega), List.append_nil]
        exact (rawQ_title_on s x P D n (n + e) q hto hn hs hxs hP2 hd ha ht (by omega)).out w B m0 Q T F h0 hL hl hlF
  | false =>
    rw [if_neg (by decide), ← hP]
    dsimp only
    rw [hb] at hsf
    have hsf := hsf.symm
    rw [Bool.or_eq_false_iff] at hsf
    by_cases hend : n + e = s.size
    · rw [if_pos (show e = s.size - n by omega), List.nil_append]
      exact (rawQ_hard_end s x P n (n + e) hto hn hs hxs hP2 hsf.1 hsf.2 hend).out w B m0 Q T F h0 hL hl hlF
    · rw [if_neg (show ¬ e = s.size - n by omega), List.append_nil, List.append_nil]
      exact (rawQ_hard_on s x P n (n + e) hto hn hs hxs hP2 hsf.1 hsf.2 (by omega)).out w B m0 Q T F h0 hL hl hlF

end Go.Proofs.YtfbhpmafjehojaaGreatDoor
