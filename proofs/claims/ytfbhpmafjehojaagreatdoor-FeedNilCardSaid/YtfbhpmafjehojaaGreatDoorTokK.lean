/- The program's reader: comments and doctypes, a raw name's text. -/
import Derived.Test.YtfbhpmafjehojaaGreatDoorTokJ
namespace Go.Proofs.YtfbhpmafjehojaaGreatDoor
open Go.RowKit

theorem RV.frTb {w w' : World} {B m R : Nat} {s : ByteArray} {n : Nat} {H : List UInt8} {T : List Tk} {F : List Fl} {v0 : Value} {F0 : List Fl} {p bv tv fv : Value} (h : RV w B m R s n H T F v0 F0 p bv tv fv) (k : Kp (frT B R tv) w w') : Below B w w' := k.below (fun k t e => by
  rcases e with rfl | e | e
  · exact h.lo
  · exact e.1
  · obtain ⟨cs, h1, _⟩ := h.ht
    exact (h1.lt k e).1) h.bw
theorem tell_hid : Hid (∀ W B m R s n H T F v0 F0, RS W B m R s n H T F v0 F0 → T.length ≤ 900000 → ∀ (k : Int) (NN DD : ByteArray) av A c, AttrsBy W B W.heap.size av A → Calls Tryz.prog 66 #[.pointer (some ⟨R, 0, none⟩), .agg #[.int .i64 k, .string NN, .string DD, av, .bool c]] W fun e w' => e = .returned (.tuple #[]) ∧ RS w' B w'.heap.size R s n [] (T ++ txtH H ++ [⟨k, NN.data.toList, DD.data.toList, A, c⟩]) F v0 F0 ∧ Below B W w' ∧ ∀ j c fr, m ≤ j → W.heap[j]? = some (.cells c 47 fr) → w'.heap[j]? = some (.cells c 47 fr)) := Lib.hid fun w B m R s n H T F v0 F0 h hl k NN DD av A c ha => by
  obtain ⟨p, bv, tv, fv, h⟩ := h
  refine (tell_rv w B m R s n H T F v0 F0 p bv tv fv h hl k NN DD av A c ha).mono ?_
  rintro e w' ⟨rfl, h2, k2⟩
  refine ⟨rfl, h2, h.frTb k2, fun j c fr hj hh => k2.cells hh fun e => ?_⟩
  rcases e with e | e | e
  · have := h.hi; omega
  · exact absurd e.2 (by decide)
  · obtain ⟨cs, _, t2, _⟩ := h.ht
    have := t2 j e
    omega


set_option maxRecDepth 100000 in
set_option maxHeartbeats 4000000 in
theorem marked_note_yes (s z DD : ByteArray) (n d i : Nat) (hf : findT z.data.toList (s.data.toList.drop (n + d)) = some i) (hD : DD.data.toList = ((s.data.toList.drop (n + d)).take i)) (hn : n + d ≤ s.size) (hz : low z.data.toList = z.data.toList) (hs : s.size ≤ 20000) : Hid (∀ W B m R H T F v0 F0, RS W B m R s n H T F v0 F0 → F.length ≤ 500000 → T.length ≤ 500000 → Calls Tryz.prog 39 #[.pointer (some ⟨R, 0, none⟩), .int .i64 4, .int .i64 (d : Int), .string z] W fun e w' => e = .returned (.tuple #[]) ∧ RS w' B w'.heap.size R s (n + d + i + z.size) [] (T ++ txtH H ++ [⟨4, [], DD.data.toList, [], false⟩]) F v0 F0 ∧ Below B W w') := Lib.hid fun w B m R H T F v0 F0 hr hF hT => by
  obtain ⟨U, hU⟩ := text_of ((s.data.toList.drop n).take d)
  obtain ⟨V, hV⟩ := text_of ((s.data.toList.drop (n + d)).take i)
  have CT := take_hid R s U n d hU hn (by omega)
  have CS := through_yes R s z V (n + d) i hf hV (by omega) hz (by omega)
  obtain rfl : V = DD := text_same (by rw [hV, hD])
  have CE := tell_hid
  have CF := fail_hid 140 n
  obtain ⟨p, bv, tv, fv, hx⟩ := hr
  have hbw := hx.bw
  have d1 := hx.x.c1
  have HX := Lib.hid hx
  clear hf hD hz hU hV hx
  go_enter Tryz.func39, Tryz.ntmps39
  go_wp2_with fail
  (with_reducible refine (CT.out _ _ _ _ _ HX.out.x).mono ?_)
  rintro e w1 ⟨rfl, x1, k1⟩
  have HX1 := Lib.hid (HX.out.moved x1 k1)
  have B1 := HX.out.form.onb k1
  have hm1 := HX1.out.low.low.m
  clear x1 k1 d1 HX
  go_wp2_with fail
  (with_reducible refine (CS.out _ _ _ _ _ hm1 HX1.out.x).mono ?_)
  rintro e w2 ⟨rfl, x2, k2⟩
  have HX2 := Lib.hid (HX1.out.moved x2 k2).form
  have B2 := B1.trans (HX1.out.form.onb k2)
  clear x2 k2 B1 hm1 HX1
  go_wp2_with fail
  (with_reducible refine (CE.out _ _ _ _ _ _ _ _ _ _ _ HX2.out (by omega) _ _ _ _ _ _ (AttrsBy.nil _ _ _)).mono ?_)
  rintro e w5 ⟨rfl, h5, b5, -⟩
  have B5 := B2.trans b5
  clear b5 B2 HX2
  go_wp2
  go_end0
  exact ⟨rfl, h5, B5⟩

set_option maxRecDepth 100000 in
set_option maxHeartbeats 4000000 in
theorem marked_note_no (s z DD : ByteArray) (n d : Nat) (hf : findT z.data.toList (s.data.toList.drop (n + d)) = none) (hD : DD.data.toList = (s.data.toList.drop (n + d))) (hn : n + d ≤ s.size) (hs : s.size ≤ 20000) : Hid (∀ W B m R H T F v0 F0, RS W B m R s n H T F v0 F0 → F.length ≤ 500000 → T.length ≤ 500000 → Calls Tryz.prog 39 #[.pointer (some ⟨R, 0, none⟩), .int .i64 4, .int .i64 (d : Int), .string z] W fun e w' => e = .returned (.tuple #[]) ∧ RS w' B w'.heap.size R s (s.size) [] (T ++ txtH H ++ [⟨4, [], DD.data.toList, [], false⟩]) (F ++ [((140 : Int), n)]) v0 F0 ∧ Below B W w') := Lib.hid fun w B m R H T F v0 F0 hr hF hT => by
  obtain ⟨U, hU⟩ := text_of ((s.data.toList.drop n).take d)
  obtain ⟨V, hV⟩ := text_of (s.data.toList.drop (n + d))
  have CT := take_hid R s U n d hU hn (by omega)
  have CS := through_no R s z V (n + d) hf hV (by omega) (by omega)
  obtain rfl : V = DD := text_same (by rw [hV, hD])
  have CE := tell_hid
  have CF := fail_hid 140 n
  obtain ⟨p, bv, tv, fv, hx⟩ := hr
  have hbw := hx.bw
  have d1 := hx.x.c1
  have HX := Lib.hid hx
  clear hf hD hU hV hx
  go_enter Tryz.func39, Tryz.ntmps39
  go_wp2_with fail
  (with_reducible refine (CT.out _ _ _ _ _ HX.out.x).mono ?_)
  rintro e w1 ⟨rfl, x1, k1⟩
  have HX1 := Lib.hid (HX.out.moved x1 k1)
  have B1 := HX.out.form.onb k1
  have hm1 := HX1.out.low.low.m
  clear x1 k1 d1 HX
  go_wp2_with fail
  (with_reducible refine (CS.out _ _ _ _ _ hm1 HX1.out.x).mono ?_)
  rintro e w2 ⟨rfl, x2, k2⟩
  have HX2 := Lib.hid (HX1.out.moved x2 k2).form
  have B2 := B1.trans (HX1.out.form.onb k2)
  clear x2 k2 B1 hm1 HX1
  go_wp2_with fail
  (with_reducible refine (CF.out _ _ _ _ _ _ _ _ _ _ _ HX2.out (by omega)).mono ?_)
  rintro e w4 ⟨rfl, h4, k4⟩
  have HX4 := Lib.hid h4
  have B4 := B2.trans (HX2.out.frb k4)
  clear h4 k4 B2 HX2
  go_wp2_with fail
  (with_reducible refine (CE.out _ _ _ _ _ _ _ _ _ _ _ HX4.out (by omega) _ _ _ _ _ _ (AttrsBy.nil _ _ _)).mono ?_)
  rintro e w5 ⟨rfl, h5, b5, -⟩
  have B5 := B4.trans b5
  clear b5 B4 HX4
  go_wp2
  go_end0
  exact ⟨rfl, h5, B5⟩

set_option maxRecDepth 100000 in
set_option maxHeartbeats 4000000 in
theorem marked_doc_yes (s z DD : ByteArray) (n d i : Nat) (hf : findT z.data.toList (s.data.toList.drop (n + d)) = some i) (hD : DD.data.toList = trim ((s.data.toList.drop (n + d)).take i)) (hn : n + d ≤ s.size) (hz : low z.data.toList = z.data.toList) (hs : s.size ≤ 20000) : Hid (∀ W B m R H T F v0 F0, RS W B m R s n H T F v0 F0 → F.length ≤ 500000 → T.length ≤ 500000 → Calls Tryz.prog 39 #[.pointer (some ⟨R, 0, none⟩), .int .i64 5, .int .i64 (d : Int), .string z] W fun e w' => e = .returned (.tuple #[]) ∧ RS w' B w'.heap.size R s (n + d + i + z.size) [] (T ++ txtH H ++ [⟨5, [], DD.data.toList, [], false⟩]) F v0 F0 ∧ Below B W w') := Lib.hid fun w B m R H T F v0 F0 hr hF hT => by
  obtain ⟨U, hU⟩ := text_of ((s.data.toList.drop n).take d)
  obtain ⟨V, hV⟩ := text_of ((s.data.toList.drop (n + d)).take i)
  have CT := take_hid R s U n d hU hn (by omega)
  have CS := through_yes R s z V (n + d) i hf hV (by omega) hz (by omega)
  have hVs : V.size ≤ 20000 := by
    rw [← lsize, hV]
    simp only [List.length_take, List.length_drop, lsize]
    omega
  have CM := trim_hid V DD (by rw [hD, hV]) (by omega)
  have CE := tell_hid
  have CF := fail_hid 140 n
  obtain ⟨p, bv, tv, fv, hx⟩ := hr
  have hbw := hx.bw
  have d1 := hx.x.c1
  have HX := Lib.hid hx
  clear hf hD hz hU hV hx
  go_enter Tryz.func39, Tryz.ntmps39
  go_wp2_with fail
  (with_reducible refine (CT.out _ _ _ _ _ HX.out.x).mono ?_)
  rintro e w1 ⟨rfl, x1, k1⟩
  have HX1 := Lib.hid (HX.out.moved x1 k1)
  have B1 := HX.out.form.onb k1
  have hm1 := HX1.out.low.low.m
  clear x1 k1 d1 HX
  go_wp2_with fail
  (with_reducible refine (CS.out _ _ _ _ _ hm1 HX1.out.x).mono ?_)
  rintro e w2 ⟨rfl, x2, k2⟩
  have HX2 := Lib.hid (HX1.out.moved x2 k2).form
  have B2 := B1.trans (HX1.out.form.onb k2)
  clear x2 k2 B1 hm1 HX1
  go_wp2_with fail
  (with_reducible refine (CM.out _).mono ?_)
  rintro e w3 ⟨rfl, b3⟩
  have HX3 := Lib.hid (HX2.out.below b3)
  have B3 := B2.trans (b3.mono (Nat.le_trans hbw B2.size))
  clear b3 B2 HX2
  go_wp2_with fail
  (with_reducible refine (CE.out _ _ _ _ _ _ _ _ _ _ _ HX3.out (by omega) _ _ _ _ _ _ (AttrsBy.nil _ _ _)).mono ?_)
  rintro e w5 ⟨rfl, h5, b5, -⟩
  have B5 := B3.trans b5
  clear b5 B3 HX3
  go_wp2
  go_end0
  exact ⟨rfl, h5, B5⟩

set_option maxRecDepth 100000 in
set_option maxHeartbeats 4000000 in
theorem marked_doc_no (s z DD : ByteArray) (n d : Nat) (hf : findT z.data.toList (s.data.toList.drop (n + d)) = none) (hD : DD.data.toList = trim (s.data.toList.drop (n + d))) (hn : n + d ≤ s.size) (hs : s.size ≤ 20000) : Hid (∀ W B m R H T F v0 F0, RS W B m R s n H T F v0 F0 → F.length ≤ 500000 → T.length ≤ 500000 → Calls Tryz.prog 39 #[.pointer (some ⟨R, 0, none⟩), .int .i64 5, .int .i64 (d : Int), .string z] W fun e w' => e = .returned (.tuple #[]) ∧ RS w' B w'.heap.size R s (s.size) [] (T ++ txtH H ++ [⟨5, [], DD.data.toList, [], false⟩]) (F ++ [((140 : Int), n)]) v0 F0 ∧ Below B W w') := Lib.hid fun w B m R H T F v0 F0 hr hF hT => by
  obtain ⟨U, hU⟩ := text_of ((s.data.toList.drop n).take d)
  obtain ⟨V, hV⟩ := text_of (s.data.toList.drop (n + d))
  have CT := take_hid R s U n d hU hn (by omega)
  have CS := through_no R s z V (n + d) hf hV (by omega) (by omega)
  have hVs : V.size ≤ 20000 := by
    rw [← lsize, hV]
    simp only [List.length_drop, lsize]
    omega
  have CM := trim_hid V DD (by rw [hD, hV]) (by omega)
  have CE := tell_hid
  have CF := fail_hid 140 n
  obtain ⟨p, bv, tv, fv, hx⟩ := hr
  have hbw := hx.bw
  have d1 := hx.x.c1
  have HX := Lib.hid hx
  clear hf hD hU hV hx
  go_enter Tryz.func39, Tryz.ntmps39
  go_wp2_with fail
  (with_reducible refine (CT.out _ _ _ _ _ HX.out.x).mono ?_)
  rintro e w1 ⟨rfl, x1, k1⟩
  have HX1 := Lib.hid (HX.out.moved x1 k1)
  have B1 := HX.out.form.onb k1
  have hm1 := HX1.out.low.low.m
  clear x1 k1 d1 HX
  go_wp2_with fail
  (with_reducible refine (CS.out _ _ _ _ _ hm1 HX1.out.x).mono ?_)
  rintro e w2 ⟨rfl, x2, k2⟩
  have HX2 := Lib.hid (HX1.out.moved x2 k2).form
  have B2 := B1.trans (HX1.out.form.onb k2)
  clear x2 k2 B1 hm1 HX1
  go_wp2_with fail
  (with_reducible refine (CM.out _).mono ?_)
  rintro e w3 ⟨rfl, b3⟩
  have HX3 := Lib.hid (HX2.out.below b3)
  have B3 := B2.trans (b3.mono (Nat.le_trans hbw B2.size))
  clear b3 B2 HX2
  go_wp2_with fail
  (with_reducible refine (CF.out _ _ _ _ _ _ _ _ _ _ _ HX3.out (by omega)).mono ?_)
  rintro e w4 ⟨rfl, h4, k4⟩
  have HX4 := Lib.hid h4
  have B4 := B3.trans (HX3.out.frb k4)
  clear h4 k4 B3 HX3
  go_wp2_with fail
  (with_reducible refine (CE.out _ _ _ _ _ _ _ _ _ _ _ HX4.out (by omega) _ _ _ _ _ _ (AttrsBy.nil _ _ _)).mono ?_)
  rintro e w5 ⟨rfl, h5, b5, -⟩
  have B5 := B4.trans b5
  clear b5 B4 HX4
  go_wp2
  go_end0
  exact ⟨rfl, h5, B5⟩

theorem endTag_hid (s x : ByteArray) (n : Nat) (v : Value) (h : endV s.data.toList x.data.toList n = v) (hn : n ≤ s.size) (hx : low x.data.toList = x.data.toList) (hs : s.size ≤ 1000000) (hxs : x.size ≤ 1000000) : Hid (∀ W, Calls Tryz.prog 96 #[.string s, .int .i64 (n : Int), .string x] W fun e w' => e = .returned v ∧ Below W.heap.size W w') := Lib.hid fun W => by rw [← h]; exact endTag_any s x n hn hx hs hxs W

set_option maxRecDepth 100000 in
set_option maxHeartbeats 4000000 in
theorem raw_closed_code (s x V : ByteArray) (n : Nat) (hc : endM x.data.toList (s.data.toList.drop n) < s.size - n) (hV : V.data.toList = (s.data.toList.drop n).take (endM x.data.toList (s.data.toList.drop n))) (hk : (decide (x.data.toList = scriptN) || decide (x.data.toList = styleN)) = true) (hn : n ≤ s.size) (hx : low x.data.toList = x.data.toList) (hxs : x.size ≤ 20000) (hs : s.size ≤ 20000) : Hid (∀ W B m R H T F v0 F0, RS W B m R s n H T F v0 F0 → F.length ≤ 200000 → H.length ≤ 500000 → Calls Tryz.prog 68 #[.pointer (some ⟨R, 0, none⟩), .string x] W fun e w' => e = .returned (.tuple #[]) ∧ RS w' B m R s (n + endM x.data.toList (s.data.toList.drop n)) (H ++ V.data.toList) T (F) v0 F0 ∧ Below B W w') := Lib.hid fun w B m R H T F v0 F0 hr hF hH => by
  have hle := endM_le x.data.toList (s.data.toList.drop n)
  rw [List.length_drop, lsize] at hle
  obtain ⟨i, hi⟩ : ∃ i, endM x.data.toList (s.data.toList.drop n) = i := ⟨_, rfl⟩
  have CE := endTag_hid s x n (.tuple #[.int .i64 ((n + i : Nat) : Int), .bool true]) (by
    unfold endV
    rw [lsize, if_pos hc, hi]) hn hx (by omega) (by omega)
  rw [hi] at hc hV hle ⊢
  have CT := take_hid R s V n i hV (by omega) (by omega)
  have CK := isCode_hid x true hk
  have hVs : V.size = i := by rw [← lsize, hV, List.length_take, List.length_drop, lsize]; omega
  have CH := hold_hid V
  have CF := fail_hid 140 n
  obtain ⟨p, bv, tv, fv, hx0⟩ := hr
  have hbw := hx0.bw
  have d0 := hx0.x.c0
  have d1 := hx0.x.c1
  have HX := Lib.hid hx0
  have z1 : (n : Int) + (i : Int) - (n : Int) = (i : Int) := by omega
  have z2 : (s.size : Int) - (n : Int) = ((s.size - n : Nat) : Int) := by omega
  have z3 : (s.size : Int) ≤ 20000 := by omega
  have z4 : (n : Int) ≤ 20000 := by omega
  have z5 : (i : Int) ≤ 20000 := by omega
  clear hc hV hi hk hx hx0
  go_enter Tryz.func68, Tryz.ntmps68
  go_wp2_with fail
  (with_reducible refine (CE.out _).mono ?_)
  rintro e w1 ⟨rfl, b1⟩
  have HX1 := Lib.hid (HX.out.below b1)
  have B1 : Below B w w1 := b1.mono hbw
  have d0 := HX1.out.x.c0
  clear b1 HX
  go_wp2_with fail
  (with_reducible refine (CT.out _ _ _ _ _ HX1.out.x).mono ?_)
  rintro e w2 ⟨rfl, x2, k2⟩
  have HX2 := Lib.hid (HX1.out.moved x2 k2).form
  have B2 := B1.trans (HX1.out.form.onb k2)
  clear x2 k2 B1 HX1 d0
  go_wp2_with fail
  (with_reducible refine (CK.out _).mono ?_)
  rintro e w2 ⟨rfl, rfl⟩
  go_wp2_with fail
  (with_reducible refine (CH.out _ _ _ _ _ _ _ _ _ _ _ HX2.out (by omega)).mono ?_)
  rintro e w4 ⟨rfl, h4, k4⟩
  have HX4 := Lib.hid h4
  have B4 := B2.trans (HX2.out.wrb k4)
  clear h4 k4 B2 HX2
  go_wp2
  go_end0
  exact ⟨rfl, HX4.out, B4⟩

set_option maxRecDepth 100000 in
set_option maxHeartbeats 4000000 in
theorem raw_closed_soft (s x V D : ByteArray) (n : Nat) (q : List Nat) (hc : endM x.data.toList (s.data.toList.drop n) < s.size - n) (hV : V.data.toList = (s.data.toList.drop n).take (endM x.data.toList (s.data.toList.drop n))) (h : decT 0 V.data.toList = (D.data.toList, q)) (hk : (decide (x.data.toList = scriptN) || decide (x.data.toList = styleN)) = false) (hn : n ≤ s.size) (hx : low x.data.toList = x.data.toList) (hxs : x.size ≤ 20000) (hs : s.size ≤ 20000) : Hid (∀ W B m R H T F v0 F0, RS W B m R s n H T F v0 F0 → F.length ≤ 200000 → H.length ≤ 500000 → Calls Tryz.prog 68 #[.pointer (some ⟨R, 0, none⟩), .string x] W fun e w' => e = .returned (.tuple #[]) ∧ RS w' B m R s (n + endM x.data.toList (s.data.toList.drop n)) (H ++ D.data.toList) T (F ++ failM n q) v0 F0 ∧ Below B W w') := Lib.hid fun w B m R H T F v0 F0 hr hF hH => by
  have hle := endM_le x.data.toList (s.data.toList.drop n)
  rw [List.length_drop, lsize] at hle
  obtain ⟨i, hi⟩ : ∃ i, endM x.data.toList (s.data.toList.drop n) = i := ⟨_, rfl⟩
  have CE := endTag_hid s x n (.tuple #[.int .i64 ((n + i : Nat) : Int), .bool true]) (by
    unfold endV
    rw [lsize, if_pos hc, hi]) hn hx (by omega) (by omega)
  rw [hi] at hc hV hle ⊢
  have CT := take_hid R s V n i hV (by omega) (by omega)
  have CK := isCode_hid x false hk
  have hVs : V.size = i := by rw [← lsize, hV, List.length_take, List.length_drop, lsize]; omega
  have CD := decoded_hid V D q n h (by omega) (by omega)
  have hDs : D.size ≤ 20000 := by
    have := (decT_len 0 V.data.toList).1
    rw [h, lsize, lsize] at this
    omega
  have hql : q.length ≤ 20000 := by
    have := (decT_len 0 V.data.toList).2
    rw [h, lsize] at this
    simp only at this
    omega
  have CH := hold_hid D
  have CF := fail_hid 140 n
  obtain ⟨p, bv, tv, fv, hx0⟩ := hr
  have hbw := hx0.bw
  have d0 := hx0.x.c0
  have d1 := hx0.x.c1
  have HX := Lib.hid hx0
  have z1 : (n : Int) + (i : Int) - (n : Int) = (i : Int) := by omega
  have z2 : (s.size : Int) - (n : Int) = ((s.size - n : Nat) : Int) := by omega
  have z3 : (s.size : Int) ≤ 20000 := by omega
  have z4 : (n : Int) ≤ 20000 := by omega
  have z5 : (i : Int) ≤ 20000 := by omega
  clear hc hV hi hk hx hx0 h
  go_enter Tryz.func68, Tryz.ntmps68
  go_wp2_with fail
  (with_reducible refine (CE.out _).mono ?_)
  rintro e w1 ⟨rfl, b1⟩
  have HX1 := Lib.hid (HX.out.below b1)
  have B1 : Below B w w1 := b1.mono hbw
  have d0 := HX1.out.x.c0
  clear b1 HX
  go_wp2_with fail
  (with_reducible refine (CT.out _ _ _ _ _ HX1.out.x).mono ?_)
  rintro e w2 ⟨rfl, x2, k2⟩
  have HX2 := Lib.hid (HX1.out.moved x2 k2).form
  have B2 := B1.trans (HX1.out.form.onb k2)
  clear x2 k2 B1 HX1 d0
  go_wp2_with fail
  (with_reducible refine (CK.out _).mono ?_)
  rintro e w2 ⟨rfl, rfl⟩
  go_wp2_with fail
  (with_reducible refine (CD.out _ _ _ _ _ _ _ _ _ _ _ HX2.out (by omega)).mono ?_)
  rintro e w3 ⟨rfl, h3, k3⟩
  have HX3 := Lib.hid h3
  have B3 := B2.trans (HX2.out.frb k3)
  clear h3 k3 B2 HX2
  go_wp2_with fail
  (with_reducible refine (CH.out _ _ _ _ _ _ _ _ _ _ _ HX3.out (by omega)).mono ?_)
  rintro e w4 ⟨rfl, h4, k4⟩
  have HX4 := Lib.hid h4
  have B4 := B3.trans (HX3.out.wrb k4)
  clear h4 k4 B3 HX3
  go_wp2
  go_end0
  exact ⟨rfl, HX4.out, B4⟩

set_option maxRecDepth 100000 in
set_option maxHeartbeats 4000000 in
theorem raw_open_code (s x V : ByteArray) (n : Nat) (hc : ¬ endM x.data.toList (s.data.toList.drop n) < s.size - n) (hV : V.data.toList = (s.data.toList.drop n).take (endM x.data.toList (s.data.toList.drop n))) (hk : (decide (x.data.toList = scriptN) || decide (x.data.toList = styleN)) = true) (hn : n ≤ s.size) (hx : low x.data.toList = x.data.toList) (hxs : x.size ≤ 20000) (hs : s.size ≤ 20000) : Hid (∀ W B m R H T F v0 F0, RS W B m R s n H T F v0 F0 → F.length ≤ 200000 → H.length ≤ 500000 → Calls Tryz.prog 68 #[.pointer (some ⟨R, 0, none⟩), .string x] W fun e w' => e = .returned (.tuple #[]) ∧ RS w' B m R s (n + endM x.data.toList (s.data.toList.drop n)) (H ++ V.data.toList) T (F ++ [((140 : Int), n)]) v0 F0 ∧ Below B W w') := Lib.hid fun w B m R H T F v0 F0 hr hF hH => by
  have hle := endM_le x.data.toList (s.data.toList.drop n)
  rw [List.length_drop, lsize] at hle
  obtain ⟨i, hi⟩ : ∃ i, endM x.data.toList (s.data.toList.drop n) = i := ⟨_, rfl⟩
  have CE := endTag_hid s x n (.tuple #[.int .i64 0, .bool false]) (by
    unfold endV
    rw [lsize, if_neg hc]) hn hx (by omega) (by omega)
  rw [hi] at hc hV hle ⊢
  have CT := take_hid R s V n i hV (by omega) (by omega)
  have CK := isCode_hid x true hk
  have hVs : V.size = i := by rw [← lsize, hV, List.length_take, List.length_drop, lsize]; omega
  have CH := hold_hid V
  have CF := fail_hid 140 n
  obtain ⟨p, bv, tv, fv, hx0⟩ := hr
  have hbw := hx0.bw
  have d0 := hx0.x.c0
  have d1 := hx0.x.c1
  have HX := Lib.hid hx0
  have z1 : (n : Int) + (i : Int) - (n : Int) = (i : Int) := by omega
  have z2 : (s.size : Int) - (n : Int) = ((s.size - n : Nat) : Int) := by omega
  have z3 : (s.size : Int) ≤ 20000 := by omega
  have z4 : (n : Int) ≤ 20000 := by omega
  have z5 : (i : Int) ≤ 20000 := by omega
  have hin : i = s.size - n := by omega
  rw [← hin] at z2
  clear hin
  clear hc hV hi hk hx hx0
  go_enter Tryz.func68, Tryz.ntmps68
  go_wp2_with fail
  (with_reducible refine (CE.out _).mono ?_)
  rintro e w1 ⟨rfl, b1⟩
  have HX1 := Lib.hid (HX.out.below b1)
  have B1 : Below B w w1 := b1.mono hbw
  have d0 := HX1.out.x.c0
  clear b1 HX
  go_wp2_with fail
  (with_reducible refine (CT.out _ _ _ _ _ HX1.out.x).mono ?_)
  rintro e w2 ⟨rfl, x2, k2⟩
  have HX2 := Lib.hid (HX1.out.moved x2 k2).form
  have B2 := B1.trans (HX1.out.form.onb k2)
  clear x2 k2 B1 HX1 d0
  go_wp2_with fail
  (with_reducible refine (CK.out _).mono ?_)
  rintro e w2 ⟨rfl, rfl⟩
  go_wp2_with fail
  (with_reducible refine (CH.out _ _ _ _ _ _ _ _ _ _ _ HX2.out (by omega)).mono ?_)
  rintro e w4 ⟨rfl, h4, k4⟩
  have HX4 := Lib.hid h4
  have B4 := B2.trans (HX2.out.wrb k4)
  clear h4 k4 B2 HX2
  go_wp2_with fail
  (with_reducible refine (CF.out _ _ _ _ _ _ _ _ _ _ _ HX4.out (by omega)).mono ?_)
  rintro e w5 ⟨rfl, h5, k5⟩
  have HX5 := Lib.hid h5
  have B5 := B4.trans (HX4.out.frb k5)
  clear h5 k5 B4 HX4
  go_wp2
  go_end0
  exact ⟨rfl, HX5.out, B5⟩

set_option maxRecDepth 100000 in
set_option maxHeartbeats 4000000 in
theorem raw_open_soft (s x V D : ByteArray) (n : Nat) (q : List Nat) (hc : ¬ endM x.data.toList (s.data.toList.drop n) < s.size - n) (hV : V.data.toList = (s.data.toList.drop n).take (endM x.data.toList (s.data.toList.drop n))) (h : decT 0 V.data.toList = (D.data.toList, q)) (hk : (decide (x.data.toList = scriptN) || decide (x.data.toList = styleN)) = false) (hn : n ≤ s.size) (hx : low x.data.toList = x.data.toList) (hxs : x.size ≤ 20000) (hs : s.size ≤ 20000) : Hid (∀ W B m R H T F v0 F0, RS W B m R s n H T F v0 F0 → F.length ≤ 200000 → H.length ≤ 500000 → Calls Tryz.prog 68 #[.pointer (some ⟨R, 0, none⟩), .string x] W fun e w' => e = .returned (.tuple #[]) ∧ RS w' B m R s (n + endM x.data.toList (s.data.toList.drop n)) (H ++ D.data.toList) T ((F ++ failM n q) ++ [((140 : Int), n)]) v0 F0 ∧ Below B W w') := Lib.hid fun w B m R H T F v0 F0 hr hF hH => by
  have hle := endM_le x.data.toList (s.data.toList.drop n)
  rw [List.length_drop, lsize] at hle
  obtain ⟨i, hi⟩ : ∃ i, endM x.data.toList (s.data.toList.drop n) = i := ⟨_, rfl⟩
  have CE := endTag_hid s x n (.tuple #[.int .i64 0, .bool false]) (by
    unfold endV
    rw [lsize, if_neg hc]) hn hx (by omega) (by omega)
  rw [hi] at hc hV hle ⊢
  have CT := take_hid R s V n i hV (by omega) (by omega)
  have CK := isCode_hid x false hk
  have hVs : V.size = i := by rw [← lsize, hV, List.length_take, List.length_drop, lsize]; omega
  have CD := decoded_hid V D q n h (by omega) (by omega)
  have hDs : D.size ≤ 20000 := by
    have := (decT_len 0 V.data.toList).1
    rw [h, lsize, lsize] at this
    omega
  have hql : q.length ≤ 20000 := by
    have := (decT_len 0 V.data.toList).2
    rw [h, lsize] at this
    simp only at this
    omega
  have CH := hold_hid D
  have CF := fail_hid 140 n
  obtain ⟨p, bv, tv, fv, hx0⟩ := hr
  have hbw := hx0.bw
  have d0 := hx0.x.c0
  have d1 := hx0.x.c1
  have HX := Lib.hid hx0
  have z1 : (n : Int) + (i : Int) - (n : Int) = (i : Int) := by omega
  have z2 : (s.size : Int) - (n : Int) = ((s.size - n : Nat) : Int) := by omega
  have z3 : (s.size : Int) ≤ 20000 := by omega
  have z4 : (n : Int) ≤ 20000 := by omega
  have z5 : (i : Int) ≤ 20000 := by omega
  have hin : i = s.size - n := by omega
  rw [← hin] at z2
  clear hin
  clear hc hV hi hk hx hx0 h
  go_enter Tryz.func68, Tryz.ntmps68
  go_wp2_with fail
  (with_reducible refine (CE.out _).mono ?_)
  rintro e w1 ⟨rfl, b1⟩
  have HX1 := Lib.hid (HX.out.below b1)
  have B1 : Below B w w1 := b1.mono hbw
  have d0 := HX1.out.x.c0
  clear b1 HX
  go_wp2_with fail
  (with_reducible refine (CT.out _ _ _ _ _ HX1.out.x).mono ?_)
  rintro e w2 ⟨rfl, x2, k2⟩
  have HX2 := Lib.hid (HX1.out.moved x2 k2).form
  have B2 := B1.trans (HX1.out.form.onb k2)
  clear x2 k2 B1 HX1 d0
  go_wp2_with fail
  (with_reducible refine (CK.out _).mono ?_)
  rintro e w2 ⟨rfl, rfl⟩
  go_wp2_with fail
  (with_reducible refine (CD.out _ _ _ _ _ _ _ _ _ _ _ HX2.out (by omega)).mono ?_)
  rintro e w3 ⟨rfl, h3, k3⟩
  have HX3 := Lib.hid h3
  have B3 := B2.trans (HX2.out.frb k3)
  clear h3 k3 B2 HX2
  go_wp2_with fail
  (with_reducible refine (CH.out _ _ _ _ _ _ _ _ _ _ _ HX3.out (by omega)).mono ?_)
  rintro e w4 ⟨rfl, h4, k4⟩
  have HX4 := Lib.hid h4
  have B4 := B3.trans (HX3.out.wrb k4)
  clear h4 k4 B3 HX3
  go_wp2_with fail
  (with_reducible refine (CF.out _ _ _ _ _ _ _ _ _ _ _ HX4.out (by rw [List.length_append, failM, List.length_map]; omega)).mono ?_)
  rintro e w5 ⟨rfl, h5, k5⟩
  have HX5 := Lib.hid h5
  have B5 := B4.trans (HX4.out.frb k5)
  clear h5 k5 B4 HX4
  go_wp2
  go_end0
  exact ⟨rfl, HX5.out, B5⟩

end Go.Proofs.YtfbhpmafjehojaaGreatDoor
