/- Texts and policies, both ways. -/
import Derived.Test.YtmlanlagnhnppaaDoorLawHC
import Derived.Test.YtmlanlagnhnppaaDoorRefHH
import Derived.BigQuiet
namespace Go.Proofs.YtmlanlagnhnppaaDoor
open Go.RowKit

theorem commas_le (M : Nat) (L : List (List D)) (h : ∀ ds ∈ L, (pT ds).length ≤ M) : (commas L).length ≤ L.length * (M + 1) := by
  induction L with
  | nil => simp [commas]
  | cons x L ih =>
    have h1 := ih (fun y hy => h y (by simp [hy]))
    have h2 := h x (by simp)
    have e : commas (x :: L) = pT x ++ 44 :: commas L := by unfold commas; simp
    rw [e, List.length_append, List.length_cons, List.length_cons, Nat.add_mul]
    omega
theorem commas_step {L : List (List D)} {k : Nat} (h : k < L.length) : commas (L.take (k + 1)) = commas (L.take k) ++ (pT L[k] ++ [44]) := by
  rw [List.take_succ_eq_append_getElem h]
  unfold commas
  rw [List.flatMap_append]
  simp

set_option maxRecDepth 100000 in
set_option maxHeartbeats 16000000 in
theorem back_law (ds : List D) (dv : Value) (r : Bool) (s : ByteArray) (w : World) (hd : DirsIn w dv ds) (hl : ds.length ≤ 9223372036854775807) (hw : ∀ d ∈ ds, d.w.length ≤ 9223372036854775807) (hm : MaxIn w) : Calls Tryd.prog 5 #[polV dv r, .string s] w fun e w' => e = .returned (.bool true) ∧ Below w.heap.size w w' := by
  obtain ⟨a, c, rfl⟩ := hd.form
  have bA : Below w.heap.size w (w.alloc (.cells #[.slice a ds.length c, .bool r] 29)) := (Below.refl _ _).alloc (Nat.le_refl _) _
  have xA := new_block w (.cells #[.slice a ds.length c, .bool r] 29)
  have CB := big_any ds _ r _ (hd.below bA) hl hw
  rw [show (w.alloc (.cells #[.slice a ds.length c, .bool r] 29)).heap.size = w.heap.size + 1 from (by show (w.heap.push _).size = _; simp)] at CB
  have q0 : (w.alloc (.cells #[.slice a ds.length c, .bool r] 29)).cell? ⟨w.heap.size, 0, none⟩ = some (.slice a ds.length c) := by rw [cell_of xA]; rfl
  have q1 : (w.alloc (.cells #[.slice a ds.length c, .bool r] 29)).cell? ⟨w.heap.size, 1, none⟩ = some (.bool r) := by rw [cell_of xA]; rfl
  unfold polV
  have HCB := Lib.hid CB
  have H1 := Lib.hid (And.intro xA bA)
  have HD := Lib.hid hd
  have HM := Lib.hid hm
  clear bA xA CB hd hw hm
  go_enter Tryd.func5, Tryd.ntmps5
  go_wp2_with fail
  generalize w.alloc (.cells #[.slice a ds.length c, .bool r] 29) = w1 at HCB H1 q0 q1 ⊢
  with_reducible refine HCB.out.mono ?_
  rintro e w2 ⟨b, rfl, hw2, hb⟩
  have b2 : Below w1.heap.size w1 w2 := by rw [← hw2]; exact (Below.refl _ _).alloc (Nat.le_refl _) _
  have x2 : w2.heap[w.heap.size]? = some (.cells #[.slice a ds.length c, .bool r] 29 (0, 0)) := by rw [b2.block _ (lt_of_block H1.out.1)]; exact H1.out.1
  have H2 := Lib.hid (And.intro x2 (H1.out.2.trans (b2.mono H1.out.2.size)))
  have p0 : w2.cell? ⟨w.heap.size, 0, none⟩ = some (.slice a ds.length c) := by rw [cell_of x2]; rfl
  have p1 : w2.cell? ⟨w.heap.size, 1, none⟩ = some (.bool r) := by rw [cell_of x2]; rfl
  clear b2 x2 q0 q1 H1 HCB hw2
  cases b
  case true =>
    clear hb
    go_wp2
    go_ret
    exact ⟨rfl, H2.out.2⟩
  have hsm := hb rfl
  obtain ⟨s1, s2, s3⟩ := small_all hsm
  have HS := Lib.hid hsm
  clear hb hsm
  by_cases hbig : (6000 : Int) < (s.size : Int)
  · go_wp2
    go_ret
    exact ⟨rfl, H2.out.2⟩
  have hs : s.size ≤ 6000 := by omega
  obtain ⟨L, hL⟩ : ∃ L, parseH s.data.toList = L := ⟨_, rfl⟩
  have hPM : polsM r s.data.toList = L.map (fun p => (p, r)) := by rw [← hL]; rfl
  obtain ⟨n, hn0⟩ : ∃ n, L.length = n := ⟨_, rfl⟩
  have hn : n ≤ 10 := by rw [← hn0, ← hL]; exact parseH_length _
  have HN : Hid (L.length = n ∧ (polsM r s.data.toList).length = n) := Lib.hid ⟨hn0, by rw [hPM, List.length_map]; exact hn0⟩
  have HL : Hid ((∀ x ∈ L, (pT x).length ≤ 72024002) ∧ polsM r s.data.toList = L.map (fun p => (p, r))) := Lib.hid ⟨fun x hx => by
    have hx2 : (x, r) ∈ polsM r s.data.toList := by rw [hPM]; exact List.mem_map.2 ⟨x, hx, rfl⟩
    obtain ⟨_, _, _, _, h5⟩ := pols_small hx2
    rw [lsize] at h5
    have : (s.size + 1) * (2 * s.size + 2) ≤ 6001 * 12002 := Nat.mul_le_mul (by omega) (by omega)
    exact Nat.le_trans h5 this, hPM⟩
  have HL2 : Hid (polsM r (commas L) = polsM r s.data.toList) := Lib.hid (by unfold polsM; rw [← hL, parseH_commas])
  clear hL hPM hn0
  have CPS : Hid (∀ W, MaxIn W → Calls Tryd.prog 11 #[.string s, .bool r] W fun e w' => ∃ v, e = .returned v ∧ OwnP w' W.heap.size v (polsM r s.data.toList) ∧ Below W.heap.size W w') := Lib.hid (fun W h => parse_any s (by omega) r W h)
  obtain ⟨T0, ok, CP0, HOK⟩ : ∃ (T : ByteArray) (pr : Bool), Hid (∀ W dv, DirsIn W dv ds → Calls Tryd.prog 17 #[polV dv r] W fun e w' => e = .returned (.tuple #[.string T, .bool pr]) ∧ Below W.heap.size W w') ∧ Hid (pr = true → T.data.toList = pT ds ∧ rightH ds) := by
    by_cases hr : rightH ds
    · obtain ⟨T, hT⟩ := text_of (pT ds)
      exact ⟨T, true, Lib.hid fun W dv h => print_right ds hr dv r W h s1 s2 (by omega) T hT, Lib.hid fun _ => ⟨hT, hr⟩⟩
    · exact ⟨⟨#[]⟩, false, Lib.hid fun W dv h => print_wrong ds hr dv r W h s1 s2, Lib.hid fun h => by cases h⟩
  have CQ : ok = true → Hid (∀ W, MaxIn W → Calls Tryd.prog 11 #[.string T0, .bool r] W fun e w' => ∃ v, e = .returned v ∧ PolsIn w' v [(ds, r)] ∧ Below W.heap.size W w') := fun hok => Lib.hid (fun W h => by
    obtain ⟨e1, e2⟩ := HOK.out hok
    refine (parse_any T0 (by rw [← lsize, e1]; omega) r W h).mono fun e w' hh => ?_
    obtain ⟨v, h1, h2, h3⟩ := hh
    refine ⟨v, h1, ?_, h3⟩
    have := h2.in
    rw [e1] at this
    unfold polsM at this
    rw [parseH_pT e2] at this
    exact this)
  have CALL : Hid (∀ W u v, PolsIn W u [(ds, r)] → PolsIn W v [(ds, r)] → Calls Tryd.prog 10 #[u, v] W fun e w' => e = .returned (.bool true) ∧ Below W.heap.size W w') := Lib.hid (fun W u v h1 h2 => by
    have hb : ∀ p ∈ [(ds, r)], p.1.length ≤ 1000000 ∧ ∀ d ∈ p.1, d.w.length ≤ 1000000 := fun p hp => by
      rw [List.mem_singleton.1 hp]
      exact ⟨s1, fun d hd => (s2 d hd).2.1⟩
    have := refAll_any _ _ u v W h1 h2 (by simp) hb (fun p hp => (hb p hp).2)
    rw [decide_eq_true rfl] at this
    exact this)
  unfold polV at CP0
  generalize hm5 : ds.length = m at *
  clear hm5 hl s1 s2 s3 HS HOK
  go_wp2_with fail
  refine (CP0.out _ _ (HD.out.below H2.out.2)).mono ?_
  rintro e w3 ⟨rfl, b3⟩
  have x3 : w3.heap[w.heap.size]? = some (.cells #[.slice a m c, .bool r] 29 (0, 0)) := by rw [b3.block _ (lt_of_block H2.out.1)]; exact H2.out.1
  have b3' := H2.out.2.trans (b3.mono H2.out.2.size)
  have H3 := Lib.hid (And.intro x3 (And.intro b3' (And.intro (HM.out.below b3') (HD.out.below b3'))))
  clear p0 p1 b3 b3' x3 H2
  cases ok
  case false =>
    have HDR : Hid (∀ n, (w3.drewN n).heap[w.heap.size]? = some (.cells #[.slice a m c, .bool r] 29 (0, 0)) ∧ Below w.heap.size w (w3.drewN n)) := Lib.hid fun n => ⟨H3.out.1, H3.out.2.1.os, H3.out.2.1.tape, H3.out.2.1.output, H3.out.2.1.size, H3.out.2.1.block⟩
    clear CQ CALL H3
    go_wp2_with fail
    go_quiet (fail)
    have x5 := (HDR.out nq).1
    have B5 := (HDR.out nq).2
    clear HDR
    generalize w3.drewN nq = w5 at x5 B5 ⊢
    have H5 := Lib.hid (And.intro x5 (And.intro B5 (HM.out.below B5)))
    have p1 : w5.cell? ⟨w.heap.size, 1, none⟩ = some (.bool r) := by rw [cell_of x5]; rfl
    clear x5 B5 CP0
    go_wp2_with fail
    refine (CPS.out _ H5.out.2.2).mono ?_
    rintro e w6 ⟨v6, rfl, o6, b6⟩
    obtain ⟨a6, c6, rfl⟩ : ∃ a6 c6, v6 = .slice a6 n c6 := by
      obtain ⟨x, y, h⟩ := o6.in.form
      exact ⟨x, y, by rw [h, HN.out.2]⟩
    have x6 : w6.heap[w.heap.size]? = some (.cells #[.slice a m c, .bool r] 29 (0, 0)) := by rw [b6.block _ (lt_of_block H5.out.1)]; exact H5.out.1
    have H6 := Lib.hid (And.intro x6 (And.intro o6.in (H5.out.2.1.trans (b6.mono H5.out.2.1.size))))
    clear p1 x6 o6 b6 CPS H5
    go_wp2
    go_loopw [8, 9] (fun al i wr => ∃ (k : Nat) (A : ByteArray), k ≤ n ∧ i = .int .i64 k ∧ al = .string A ∧ Hid (A.data.toList = commas (L.take k) ∧ Below w6.heap.size w6 wr)) (fun _ i _ => n - (intOf i).toNat)
    case atStart => exact ⟨0, ⟨#[]⟩, Nat.zero_le _, rfl, rfl, Lib.hid ⟨rfl, Below.refl _ _⟩⟩
    case round =>
      obtain ⟨k, A, hk, rfl, rfl, HI⟩ := hrel
      have hAs : A.size ≤ k * 72024003 := by
        rw [← lsize, HI.out.1]
        have h1 := commas_le 72024002 (L.take k) (fun x hx => HL.out.1 x (List.mem_of_mem_take hx))
        rw [List.length_take] at h1
        exact Nat.le_trans h1 (Nat.mul_le_mul_right _ (Nat.min_le_left _ _))
      by_cases hlt : k < n
      · have hlL : k < L.length := by rw [HN.out.1]; exact hlt
        have hlP : k < (polsM r s.data.toList).length := by rw [HN.out.2]; exact hlt
        obtain ⟨B, off, du, rfl, ka, kr, kd⟩ := (H6.out.2.1.below HI.out.2).at hlP
        have e1 : (polsM r s.data.toList)[k] = (L[k], r) := by
          have := HL.out.2
          simp only [this, List.getElem_map]
        have hmem : (L[k], r) ∈ polsM r s.data.toList := by rw [← e1]; exact List.getElem_mem hlP
        rw [e1] at kr kd
        replace kr : wr.cell? ⟨B, off + k * 2 + 1, none⟩ = some (.bool r) := kr
        replace kd : DirsIn wr du L[k] := kd
        obtain ⟨d1, d2, d3, d4, d5⟩ := pols_small hmem
        rw [lsize] at d3 d4 d5
        replace d3 : L[k].length ≤ s.size + 1 := d3
        obtain ⟨T, hT⟩ := text_of (pT L[k])
        have hTs : T.size ≤ 72024002 := by rw [← lsize, hT]; exact HL.out.1 _ (List.getElem_mem hlL)
        have CPK := print_right L[k] d2 du r wr kd (by omega) (fun d hd => by
          obtain ⟨k1, k2, _⟩ := dirR_all (d2.2.1 d hd)
          have k3 := (nameH_all k1).2.1
          exact ⟨by omega, by omega, fun x hx => by have := d4 d hd x hx; omega⟩) (by rw [← hT, lsize]; omega) T hT
        unfold polV at CPK
        have HCPK := Lib.hid CPK
        obtain ⟨ad, cd, rfl⟩ := kd.form
        obtain ⟨R1, hR1⟩ := text_of (A.data.toList ++ T.data.toList)
        obtain ⟨R2, hR2⟩ := text_of (R1.data.toList ++ [44])
        have hA2 : k * 72024003 ≤ 10 * 72024003 := Nat.mul_le_mul_right _ (by omega)
        have hR1s : R1.size = A.size + T.size := by rw [← lsize, hR1, List.length_append, lsize, lsize]
        have ad1 := add_to A T R1 hR1 (by omega)
        have ad2 := add_to R1 ⟨#[44]⟩ R2 (by rw [hR2]) (by show R1.size + 1 ≤ _; omega)
        have HA2 : Hid (R2.data.toList = commas (L.take (k + 1))) := Lib.hid (by rw [hR2, hR1, HI.out.1, hT, commas_step hlL]; simp)
        generalize hld : (L[k]).length = md at *
        clear hld d1 d2 d3 d4 d5 hT hmem e1 kd CPK hR1 hR2 hR1s hlP
        go_wp2_with fail
        refine HCPK.out.mono ?_
        rintro e w8 ⟨rfl, b8⟩
        have HB8 := Lib.hid (HI.out.2.trans (b8.mono HI.out.2.size))
        clear b8 HCPK ka kr HI hlL
        go_wp2
        go_roundw
        case rel => exact ⟨k + 1, R2, by omega, by go_num, rfl, Lib.hid ⟨HA2.out, HB8.out⟩⟩
        case measure => simp [intOf]; omega
      · obtain rfl : k = n := by omega
        have hAe : A.data.toList = commas L := by have := HI.out.1; rwa [List.take_of_length_le (by rw [HN.out.1]; exact Nat.le_refl _)] at this
        have hA2 : A.size ≤ 1000000000 := by
          have : k * 72024003 ≤ 10 * 72024003 := Nat.mul_le_mul_right _ hn
          omega
        have CPA : Hid (∀ W, MaxIn W → Calls Tryd.prog 11 #[.string A, .bool r] W fun e w' => ∃ v, e = .returned v ∧ PolsIn w' v (polsM r s.data.toList) ∧ Below W.heap.size W w') := Lib.hid (fun W h => (parse_any A hA2 r W h).mono fun e w' hh => by
          obtain ⟨v, h1, h2, h3⟩ := hh
          refine ⟨v, h1, ?_, h3⟩
          have := h2.in
          rw [hAe, HL2.out] at this
          exact this)
        have CAL : Hid (∀ W u v, PolsIn W u (polsM r s.data.toList) → PolsIn W v (polsM r s.data.toList) → Calls Tryd.prog 10 #[u, v] W fun e w' => e = .returned (.bool true) ∧ Below W.heap.size W w') := Lib.hid (fun W u v h1 h2 => by
          have hp := pols_words (r := r) (s := s.data.toList) (by rw [lsize]; omega)
          have := refAll_any _ _ u v W h1 h2 (by rw [HN.out.2]; omega) hp (fun p hp2 => (hp p hp2).2)
          rw [decide_eq_true rfl] at this
          exact this)
        have hle : (k : Int) ≤ 10 := by omega
        have bw := H6.out.2.2.trans (HI.out.2.mono H6.out.2.2.size)
        have xr : wr.heap[w.heap.size]? = some (.cells #[.slice a m c, .bool r] 29 (0, 0)) := by rw [HI.out.2.block _ (lt_of_block H6.out.1)]; exact H6.out.1
        have HR := Lib.hid (And.intro xr (And.intro (H6.out.2.1.below HI.out.2) (And.intro bw (HM.out.below bw))))
        clear hAs hAe bw xr HI H6
        go_wp2_with fail
        refine (reads_hid.out _ HR.out.2.2.2).mono ?_
        rintro e w9 ⟨rfl, b9⟩
        have x9 : w9.heap[w.heap.size]? = some (.cells #[.slice a m c, .bool r] 29 (0, 0)) := by rw [b9.block _ (lt_of_block HR.out.1)]; exact HR.out.1
        have H9 := Lib.hid (And.intro (HR.out.2.1.below b9) (And.intro (HR.out.2.2.1.trans (b9.mono HR.out.2.2.1.size)) (HR.out.2.2.2.below b9)))
        have p1 : w9.cell? ⟨w.heap.size, 1, none⟩ = some (.bool r) := by rw [cell_of x9]; rfl
        clear b9 HR x9
        go_wp2_with fail
        refine (CPA.out _ H9.out.2.2).mono ?_
        rintro e w10 ⟨v10, rfl, o10, b10⟩
        have H10 := Lib.hid (And.intro (H9.out.1.below b10) (And.intro o10 (H9.out.2.1.trans (b10.mono H9.out.2.1.size))))
        clear b10 o10 H9 p1
        go_wp2_with fail
        refine (CAL.out _ _ _ H10.out.2.1 H10.out.1).mono ?_
        rintro e w11 ⟨rfl, b11⟩
        have H11 := Lib.hid (H10.out.2.2.trans (b11.mono H10.out.2.2.size))
        clear b11 H10
        go_wp2
        go_ret
        exact ⟨rfl, H11.out⟩

  case true =>
    have HCQ := CQ rfl
    clear CQ
    have p0 : w3.cell? ⟨w.heap.size, 0, none⟩ = some (.slice a m c) := by rw [cell_of H3.out.1]; rfl
    have p1 : w3.cell? ⟨w.heap.size, 1, none⟩ = some (.bool r) := by rw [cell_of H3.out.1]; rfl
    have bN : Below w3.heap.size w3 (w3.alloc (.cells #[.slice a m c, .bool r] 29)) := (Below.refl _ _).alloc (Nat.le_refl _) _
    have p4 : (w3.alloc (.cells #[.slice a m c, .bool r] 29)).cell? ⟨w.heap.size, 1, none⟩ = some (.bool r) := by rw [bN.cell (lt_of_cell p1)]; exact p1
    clear bN
    have MW : Hid (∀ W, Below w3.heap.size w3 W → MaxIn W) := Lib.hid fun W h => H3.out.2.2.1.below h
    go_wp2_with fail
    go_region_with (first
      | (go_at_call 11
         first
           | ((with_reducible refine (HCQ.out _ (MW.out _ (Below.refl _ _).drew)).mono ?_)
              rintro e w4 ⟨v4, rfl, o4, b4⟩
              have K4 : Below w3.heap.size w3 w4 := ((Below.refl w3.heap.size w3).drew).trans b4
              have p2 : w4.cell? ⟨w.heap.size, 0, none⟩ = some (.slice a m c) := by rw [K4.cell (lt_of_cell p0)]; exact p0
              have p3 : w4.cell? ⟨w.heap.size, 1, none⟩ = some (.bool r) := by rw [K4.cell (lt_of_cell p1)]; exact p1
              have Z : Aside (PolsIn w4 v4 [(ds, r)] ∧ Below w3.heap.size w3 w4) := ⟨o4, K4⟩
              clear o4 b4 K4)
           | (have Q1 : Below w3.heap.size w3 (w3.alloc (.cells #[.slice a m c, .bool r] 29)).drew := ((Below.refl w3.heap.size w3).alloc (Nat.le_refl _) (.cells #[.slice a m c, .bool r] 29)).drew
              have Q2 : PolsIn (w3.alloc (.cells #[.slice a m c, .bool r] 29)).drew (.slice (some ⟨w3.heap.size, 0, none⟩) 1 1) [(ds, r)] := (pols_new (W := w3) H3.out.2.2.2 r).below (Below.refl _ _).drew
              (with_reducible refine (HCQ.out _ (MW.out _ Q1)).mono ?_)
              rintro e w4 ⟨v4, rfl, o4, b4⟩
              have Z : Aside (PolsIn w4 v4 [(ds, r)] ∧ PolsIn w4 (.slice (some ⟨w3.heap.size, 0, none⟩) 1 1) [(ds, r)] ∧ Below w3.heap.size w3 w4) := ⟨o4, Q2.below b4, Q1.trans (b4.mono Q1.size)⟩
              clear o4 b4 Q1 Q2))
      | (go_at_call 10
         first
           | (have Q1 := Z.1
              have Q2 := Z.2.1
              have Q3 := Z.2.2
              (with_reducible refine (CALL.out _ _ _ Q1 Q2).mono ?_)
              rintro e w5 ⟨rfl, b5⟩
              have K5 : Aside (Below w3.heap.size w3 w5) := Q3.trans (b5.mono Q3.size)
              clear Q1 Q2 Q3 b5)
           | (have Q1 := Z.1.below ((Below.refl w4.heap.size w4).alloc (Nat.le_refl _) (.cells #[.slice a m c, .bool r] 29))
              have Q2 := pols_new (H3.out.2.2.2.below Z.2) r
              have Q3 := Z.2.alloc Z.2.size (.cells #[.slice a m c, .bool r] 29)
              (with_reducible refine (CALL.out _ _ _ Q1 Q2).mono ?_)
              rintro e w5 ⟨rfl, b5⟩
              have K5 : Aside (Below w3.heap.size w3 w5) := Q3.trans (b5.mono Q3.size)
              clear Q1 Q2 Q3 b5)))
    all_goals
      have K6 : Below w3.heap.size w3 w5 := K5
      have x5 : w5.heap[w.heap.size]? = some (.cells #[.slice a m c, .bool r] 29 (0, 0)) := by rw [K6.block _ (lt_of_block H3.out.1)]; exact H3.out.1
      have B5 := H3.out.2.1.trans (K6.mono H3.out.2.1.size)
      clear K6 K5 Z p0 p1 p4 MW HCQ CALL H3
      try clear p2 p3
      simp only [Act.put, List.getElem_toArray, List.getElem_cons_succ, List.getElem_cons_zero, List.setIfInBounds_toArray, List.set_cons_zero, List.set_cons_succ]
      have H5 := Lib.hid (And.intro x5 (And.intro B5 (HM.out.below B5)))
      have p1 : w5.cell? ⟨w.heap.size, 1, none⟩ = some (.bool r) := by rw [cell_of x5]; rfl
      clear x5 B5 CP0
      go_wp2_with fail
      refine (CPS.out _ H5.out.2.2).mono ?_
      rintro e w6 ⟨v6, rfl, o6, b6⟩
      obtain ⟨a6, c6, rfl⟩ : ∃ a6 c6, v6 = .slice a6 n c6 := by
        obtain ⟨x, y, h⟩ := o6.in.form
        exact ⟨x, y, by rw [h, HN.out.2]⟩
      have x6 : w6.heap[w.heap.size]? = some (.cells #[.slice a m c, .bool r] 29 (0, 0)) := by rw [b6.block _ (lt_of_block H5.out.1)]; exact H5.out.1
      have H6 := Lib.hid (And.intro x6 (And.intro o6.in (H5.out.2.1.trans (b6.mono H5.out.2.1.size))))
      clear p1 x6 o6 b6 CPS H5
      go_wp2
      go_loopw [8, 9] (fun al i wr => ∃ (k : Nat) (A : ByteArray), k ≤ n ∧ i = .int .i64 k ∧ al = .string A ∧ Hid (A.data.toList = commas (L.take k) ∧ Below w6.heap.size w6 wr)) (fun _ i _ => n - (intOf i).toNat)
      case atStart => exact ⟨0, ⟨#[]⟩, Nat.zero_le _, rfl, rfl, Lib.hid ⟨rfl, Below.refl _ _⟩⟩
      case round =>
        obtain ⟨k, A, hk, rfl, rfl, HI⟩ := hrel
        have hAs : A.size ≤ k * 72024003 := by
          rw [← lsize, HI.out.1]
          have h1 := commas_le 72024002 (L.take k) (fun x hx => HL.out.1 x (List.mem_of_mem_take hx))
          rw [List.length_take] at h1
          exact Nat.le_trans h1 (Nat.mul_le_mul_right _ (Nat.min_le_left _ _))
        by_cases hlt : k < n
        · have hlL : k < L.length := by rw [HN.out.1]; exact hlt
          have hlP : k < (polsM r s.data.toList).length := by rw [HN.out.2]; exact hlt
          obtain ⟨B, off, du, rfl, ka, kr, kd⟩ := (H6.out.2.1.below HI.out.2).at hlP
          have e1 : (polsM r s.data.toList)[k] = (L[k], r) := by
            have := HL.out.2
            simp only [this, List.getElem_map]
          have hmem : (L[k], r) ∈ polsM r s.data.toList := by rw [← e1]; exact List.getElem_mem hlP
          rw [e1] at kr kd
          replace kr : wr.cell? ⟨B, off + k * 2 + 1, none⟩ = some (.bool r) := kr
          replace kd : DirsIn wr du L[k] := kd
          obtain ⟨d1, d2, d3, d4, d5⟩ := pols_small hmem
          rw [lsize] at d3 d4 d5
          replace d3 : L[k].length ≤ s.size + 1 := d3
          obtain ⟨T, hT⟩ := text_of (pT L[k])
          have hTs : T.size ≤ 72024002 := by rw [← lsize, hT]; exact HL.out.1 _ (List.getElem_mem hlL)
          have CPK := print_right L[k] d2 du r wr kd (by omega) (fun d hd => by
            obtain ⟨k1, k2, _⟩ := dirR_all (d2.2.1 d hd)
            have k3 := (nameH_all k1).2.1
            exact ⟨by omega, by omega, fun x hx => by have := d4 d hd x hx; omega⟩) (by rw [← hT, lsize]; omega) T hT
          unfold polV at CPK
          have HCPK := Lib.hid CPK
          obtain ⟨ad, cd, rfl⟩ := kd.form
          obtain ⟨R1, hR1⟩ := text_of (A.data.toList ++ T.data.toList)
          obtain ⟨R2, hR2⟩ := text_of (R1.data.toList ++ [44])
          have hA2 : k * 72024003 ≤ 10 * 72024003 := Nat.mul_le_mul_right _ (by omega)
          have hR1s : R1.size = A.size + T.size := by rw [← lsize, hR1, List.length_append, lsize, lsize]
          have ad1 := add_to A T R1 hR1 (by omega)
          have ad2 := add_to R1 ⟨#[44]⟩ R2 (by rw [hR2]) (by show R1.size + 1 ≤ _; omega)
          have HA2 : Hid (R2.data.toList = commas (L.take (k + 1))) := Lib.hid (by rw [hR2, hR1, HI.out.1, hT, commas_step hlL]; simp)
          generalize hld : (L[k]).length = md at *
          clear hld d1 d2 d3 d4 d5 hT hmem e1 kd CPK hR1 hR2 hR1s hlP
          go_wp2_with fail
          refine HCPK.out.mono ?_
          rintro e w8 ⟨rfl, b8⟩
          have HB8 := Lib.hid (HI.out.2.trans (b8.mono HI.out.2.size))
          clear b8 HCPK ka kr HI hlL
          go_wp2
          go_roundw
          case rel => exact ⟨k + 1, R2, by omega, by go_num, rfl, Lib.hid ⟨HA2.out, HB8.out⟩⟩
          case measure => simp [intOf]; omega
        · obtain rfl : k = n := by omega
          have hAe : A.data.toList = commas L := by have := HI.out.1; rwa [List.take_of_length_le (by rw [HN.out.1]; exact Nat.le_refl _)] at this
          have hA2 : A.size ≤ 1000000000 := by
            have : k * 72024003 ≤ 10 * 72024003 := Nat.mul_le_mul_right _ hn
            omega
          have CPA : Hid (∀ W, MaxIn W → Calls Tryd.prog 11 #[.string A, .bool r] W fun e w' => ∃ v, e = .returned v ∧ PolsIn w' v (polsM r s.data.toList) ∧ Below W.heap.size W w') := Lib.hid (fun W h => (parse_any A hA2 r W h).mono fun e w' hh => by
            obtain ⟨v, h1, h2, h3⟩ := hh
            refine ⟨v, h1, ?_, h3⟩
            have := h2.in
            rw [hAe, HL2.out] at this
            exact this)
          have CAL : Hid (∀ W u v, PolsIn W u (polsM r s.data.toList) → PolsIn W v (polsM r s.data.toList) → Calls Tryd.prog 10 #[u, v] W fun e w' => e = .returned (.bool true) ∧ Below W.heap.size W w') := Lib.hid (fun W u v h1 h2 => by
            have hp := pols_words (r := r) (s := s.data.toList) (by rw [lsize]; omega)
            have := refAll_any _ _ u v W h1 h2 (by rw [HN.out.2]; omega) hp (fun p hp2 => (hp p hp2).2)
            rw [decide_eq_true rfl] at this
            exact this)
          have hle : (k : Int) ≤ 10 := by omega
          have bw := H6.out.2.2.trans (HI.out.2.mono H6.out.2.2.size)
          have xr : wr.heap[w.heap.size]? = some (.cells #[.slice a m c, .bool r] 29 (0, 0)) := by rw [HI.out.2.block _ (lt_of_block H6.out.1)]; exact H6.out.1
          have HR := Lib.hid (And.intro xr (And.intro (H6.out.2.1.below HI.out.2) (And.intro bw (HM.out.below bw))))
          clear hAs hAe bw xr HI H6
          go_wp2_with fail
          refine (reads_hid.out _ HR.out.2.2.2).mono ?_
          rintro e w9 ⟨rfl, b9⟩
          have x9 : w9.heap[w.heap.size]? = some (.cells #[.slice a m c, .bool r] 29 (0, 0)) := by rw [b9.block _ (lt_of_block HR.out.1)]; exact HR.out.1
          have H9 := Lib.hid (And.intro (HR.out.2.1.below b9) (And.intro (HR.out.2.2.1.trans (b9.mono HR.out.2.2.1.size)) (HR.out.2.2.2.below b9)))
          have p1 : w9.cell? ⟨w.heap.size, 1, none⟩ = some (.bool r) := by rw [cell_of x9]; rfl
          clear b9 HR x9
          go_wp2_with fail
          refine (CPA.out _ H9.out.2.2).mono ?_
          rintro e w10 ⟨v10, rfl, o10, b10⟩
          have H10 := Lib.hid (And.intro (H9.out.1.below b10) (And.intro o10 (H9.out.2.1.trans (b10.mono H9.out.2.1.size))))
          clear b10 o10 H9 p1
          go_wp2_with fail
          refine (CAL.out _ _ _ H10.out.2.1 H10.out.1).mono ?_
          rintro e w11 ⟨rfl, b11⟩
          have H11 := Lib.hid (H10.out.2.2.trans (b11.mono H10.out.2.2.size))
          clear b11 H10
          go_wp2
          go_ret
          exact ⟨rfl, H11.out⟩

end Go.Proofs.YtmlanlagnhnppaaDoor
