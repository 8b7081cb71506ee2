/- Parse's answer, the document's, for every text; the walk of what a text is parsed as. -/
import Derived.Test.YteoeppmigngkeaaGreatDoorRefH
namespace Go.Proofs.YteoeppmigngkeaaGreatDoor
open Go.RowKit

/-- What the document's Parse answers. -/
def RC (s : ByteArray) (o : Bool) (sc h : ByteArray) (p : Int) (pa q : ByteArray) (n : Int) : Prop :=
  ∀ W, Calls Tryz.prog 6 #[.string s] W fun e w' => e = .returned (.tuple #[uV o sc h p pa q, .int .i64 n]) ∧ Below W.heap.size W w'

theorem right_ranked {o : Bool} {sc h : ByteArray} {p : Int} {pa q : ByteArray} (ho : o = false) (hr : rightM (uM o sc h p pa q) = true) : 0 ≤ p ∧ p ≤ 65535 ∧ pathM pa.data.toList = true := by
  subst ho
  unfold rightM at hr
  rw [Bool.and_eq_true] at hr
  have h1 : rankedM (uM false sc h p pa q) = true := hr.1
  have hK : rankedM (uM false sc h p pa q) = (decide (dfl sc.data.toList ≠ 0) && hostM h.data.toList && decide (0 ≤ p) && decide (p ≤ 65535) && decide (p ≠ (dfl sc.data.toList : Int)) && pathM pa.data.toList && queryM q.data.toList) := rfl
  rw [hK] at h1
  simp only [Bool.and_eq_true, decide_eq_true_eq] at h1
  exact ⟨h1.1.1.1.1.2, h1.1.1.1.2, h1.1.2⟩
theorem right_not (sc h : ByteArray) (p : Int) (pa q : ByteArray) (hx : ¬ (0 ≤ p ∧ p ≤ 65535 ∧ pathM pa.data.toList = true)) : rightM (uM false sc h p pa q) = false := by
  cases hr : rightM (uM false sc h p pa q)
  · rfl
  · exact absurd (right_ranked rfl hr) hx
theorem dfl_small (l : List UInt8) : dfl l ≤ 443 := by
  unfold dfl
  split
  · omega
  · split <;> omega
theorem prt_some {l : List UInt8} {n : Nat} (h : numM l = some n) : prt l = if 65535 < n then -1 else (n : Int) := by unfold prt; rw [h]
theorem prt_none {l : List UInt8} (h : numM l = none) : prt l = -1 := by unfold prt; rw [h]

theorem refParse_to (s : ByteArray) (hs : s.size ≤ 10000) : ∃ (o : Bool) (sc h : ByteArray) (p : Int) (pa q : ByteArray) (n : Int), PA s o sc h p pa q n ∧ Hid (RC s o sc h p pa q n) := by
  obtain ⟨T1, hT1⟩ := text_of (trim s.data.toList)
  have zT1 : T1.size ≤ s.size := by rw [← lsize T1, ← lsize s, hT1]; exact trim_length _
  obtain ⟨L, hL⟩ := text_of (upto (isC 35) T1.data.toList)
  obtain ⟨REST, hREST⟩ := text_of (past (isC 35) T1.data.toList)
  have zL := upto_length (isC 35) T1.data.toList
  rw [← hL, ← hREST, lsize, lsize, lsize] at zL
  obtain ⟨U, hU⟩ := text_of (upto (isC 58) L.data.toList)
  obtain ⟨BH, hBH⟩ := text_of (past (isC 58) L.data.toList)
  have zU := upto_length (isC 58) L.data.toList
  rw [← hU, ← hBH, lsize, lsize, lsize] at zU
  obtain ⟨sc, hsc⟩ := text_of (low U.data.toList)
  have zsc := low_size hsc
  have CT := refTrim_hid s T1 hT1 (by omega)
  have C1 := cut1_hid 35 T1 L REST hL hREST (by omega)
  have C2 := cut1_hid 58 L U BH hU hBH (by omega)
  have C3 := refLower_hid U sc hsc (by omega)
  have hM : parseM s.data.toList = (parseT L.data.toList).filter rightM := by unfold parseM; rw [hL, hT1]
  have wrong : parseM s.data.toList = none → (RC s false ⟨#[]⟩ ⟨#[]⟩ 0 ⟨#[]⟩ ⟨#[]⟩ 50) → ∃ (o : Bool) (sc h : ByteArray) (p : Int) (pa q : ByteArray) (n : Int), PA s o sc h p pa q n ∧ Hid (RC s o sc h p pa q n) := fun h1 h2 =>
    ⟨false, ⟨#[]⟩, ⟨#[]⟩, 0, ⟨#[]⟩, ⟨#[]⟩, 50, .inr ⟨h1, rfl, rfl, rfl, rfl, rfl, rfl, rfl⟩, Lib.hid h2⟩
  have right : ∀ (o : Bool) (sc h : ByteArray) (p : Int) (pa q : ByteArray), parseT L.data.toList = some (uM o sc h p pa q) →
      (rightM (uM o sc h p pa q) = true → RC s o sc h p pa q 0) → (rightM (uM o sc h p pa q) = false → RC s false ⟨#[]⟩ ⟨#[]⟩ 0 ⟨#[]⟩ ⟨#[]⟩ 50) → ∃ (o : Bool) (sc h : ByteArray) (p : Int) (pa q : ByteArray) (n : Int), PA s o sc h p pa q n ∧ Hid (RC s o sc h p pa q n) := fun o sc h p pa q h1 h2 h3 => by
    cases hr : rightM (uM o sc h p pa q)
    · exact wrong (by rw [hM, h1]; simp [hr]) (h3 hr)
    · exact ⟨o, sc, h, p, pa, q, 0, .inl ⟨by rw [hM, h1]; simp [hr], rfl, hr⟩, Lib.hid (h2 hr)⟩
  cases hp : past (isC 58) L.data.toList with
  | nil =>
    have e : parseT L.data.toList = none := by unfold parseT; rw [hp]
    have ge : BH.toList.isEmpty = true := by rw [text_empty, hBH, hp]; rfl
    exact wrong (by rw [hM, e]; rfl) (fun W => rp_none s T1 L REST U BH sc CT C1 C2 C3 ge W)
  | cons c r =>
    have hc : c = 58 := by simpa [isC] using past_head (isC 58) _ _ _ hp
    subst hc
    obtain ⟨L3, hL3⟩ := text_of r
    subst hL3
    have ge : BH.toList.isEmpty = false := by rw [text_empty, hBH, hp]; rfl
    have zB : BH.size = L3.size + 1 := by rw [← lsize BH, hBH, hp, List.length_cons, lsize]
    have s4 := slice_from BH L3 1 (by omega) (by rw [hBH, hp]; rfl)
    obtain ⟨tr, htr⟩ := text_of (trim L3.data.toList)
    have ztr : tr.size ≤ L3.size := by rw [← lsize tr, ← lsize L3, htr]; exact trim_length _
    have CT2 := refTrim_hid L3 tr htr (by omega)
    obtain ⟨d, hd⟩ : ∃ d, dfl sc.data.toList = d := ⟨_, rfl⟩
    have CD := refDefault_hid sc d hd
    have hT : parseT L.data.toList = if dfl sc.data.toList = 0 then some ⟨true, sc.data.toList, [], 0, trim L3.data.toList, []⟩ else if [47, 47].isPrefixOf L3.data.toList then rankU sc.data.toList (L3.data.toList.drop 2) else none := by
      unfold parseT; rw [hp, ← hU, hsc]
    by_cases hd0 : d = 0
    · rw [hd, if_pos hd0, ← htr] at hT
      have gd : ¬ (0 : Int) < (d : Int) := by omega
      exact right true sc ⟨#[]⟩ 0 tr ⟨#[]⟩ hT
        (fun hr W => rp_op1 s T1 L REST U BH sc CT C1 C2 C3 ge L3 tr s4 CT2 d CD gd (refRight_hid true sc ⟨#[]⟩ 0 tr ⟨#[]⟩ true hr (by omega) (by decide) (by omega) (by decide)) W)
        (fun hr W => rp_op0 s T1 L REST U BH sc CT C1 C2 C3 ge L3 tr s4 CT2 d CD gd (refRight_hid true sc ⟨#[]⟩ 0 tr ⟨#[]⟩ false hr (by omega) (by decide) (by omega) (by decide)) W)
    have gd : (0 : Int) < (d : Int) := by omega
    rw [hd, if_neg hd0] at hT
    cases hsl : [47, 47].isPrefixOf L3.data.toList
    · rw [hsl] at hT
      have hr : rightM (uM false sc ⟨#[]⟩ 0 ⟨#[]⟩ ⟨#[]⟩) = false := right_not _ _ _ _ _ (fun h => by have := h.2.2; cases this)
      exact wrong (by rw [hM, hT]; rfl) (fun W => rp_rk0 s T1 L REST U BH sc CT C1 C2 C3 ge L3 tr s4 CT2 d CD gd false sc ⟨#[]⟩ 0 ⟨#[]⟩ ⟨#[]⟩ (refRanked_none sc L3 hsl) (refRight_hid false sc ⟨#[]⟩ 0 ⟨#[]⟩ ⟨#[]⟩ false hr (by omega) (by decide) (by decide) (by decide)) W)
    rw [hsl, if_pos rfl] at hT
    obtain ⟨L4, hL4⟩ := text_of (L3.data.toList.drop 2)
    rw [← hL4] at hT
    have zL4 : L4.size ≤ L3.size := by rw [← lsize L4, hL4, List.length_drop, lsize]; omega
    obtain ⟨ho, hho⟩ := text_of (low (upto (isC 58) (upto isE L4.data.toList)))
    have zho : ho.size ≤ L4.size := by
      rw [← lsize ho, hho, low_length, ← lsize L4]
      have e1 := upto_length isE L4.data.toList
      have e2 := upto_length (isC 58) (upto isE L4.data.toList)
      omega
    obtain ⟨pa1, hpa1⟩ := text_of (if upto (isC 63) (past isE L4.data.toList) = [] then [47] else upto (isC 63) (past isE L4.data.toList))
    obtain ⟨pa, hpa⟩ := text_of (cleanP pa1.data.toList)
    obtain ⟨q, hq⟩ := text_of (past (isC 63) (past isE L4.data.toList))
    have zLF : (past isE L4.data.toList).length ≤ L4.size := by
      have := upto_length isE L4.data.toList
      rw [lsize] at this; omega
    have z63 := upto_length (isC 63) (past isE L4.data.toList)
    have zq : q.size ≤ L4.size := by rw [← lsize q, hq]; omega
    have zpa : pa.size ≤ L4.size + 1 := by
      have e1 := cleanP_length pa1.data.toList
      rw [← hpa, lsize, lsize] at e1
      have e2 : pa1.size ≤ L4.size + 1 := by
        rw [← lsize pa1, hpa1]
        split
        · exact Nat.le_add_left _ _
        · omega
      omega
    obtain ⟨P, hP⟩ : ∃ P : Int, (past (isC 58) (upto isE L4.data.toList) = [] ∧ P = 0) ∨ ∃ c ds, past (isC 58) (upto isE L4.data.toList) = c :: ds ∧ prt ds = P := by
      cases past (isC 58) (upto isE L4.data.toList) with
      | nil => exact ⟨0, .inl ⟨rfl, rfl⟩⟩
      | cons c ds => exact ⟨prt ds, .inr ⟨c, ds, rfl, rfl⟩⟩
    obtain ⟨pr, hpr⟩ : ∃ pr : Int, pr = if P = (d : Int) then 0 else P := ⟨_, rfl⟩
    have CK := refRanked_hid sc L3 L4 ho pa1 pa q d hd hd0 hsl hL4 hho P hP pr hpr hpa1 hpa hq (by omega)
    have yes := fun hr W => rp_rk1 s T1 L REST U BH sc CT C1 C2 C3 ge L3 tr s4 CT2 d CD gd false sc ho pr pa q CK (refRight_hid false sc ho pr pa q true hr (by omega) (by omega) (by omega) (by omega)) W
    have no := fun hr W => rp_rk0 s T1 L REST U BH sc CT C1 C2 C3 ge L3 tr s4 CT2 d CD gd false sc ho pr pa q CK (refRight_hid false sc ho pr pa q false hr (by omega) (by omega) (by omega) (by omega)) W
    have hd9 := dfl_small sc.data.toList
    rw [hd] at hd9
    cases hn : portM (past (isC 58) (upto isE L4.data.toList)) with
    | none =>
      have e : parseT L.data.toList = none := by rw [hT]; unfold rankU; rw [hn]
      have hP1 : P = -1 := by
        rcases hP with ⟨h1, _⟩ | ⟨c, ds, h1, h2⟩
        · rw [h1] at hn; cases hn
        · rw [h1] at hn; rw [← h2]; exact prt_none hn
      have hr : rightM (uM false sc ho pr pa q) = false := right_not _ _ _ _ _ (fun h => by
        have h1 := h.1
        rw [hpr, hP1, if_neg (by omega)] at h1
        omega)
      exact wrong (by rw [hM, e]; rfl) (no hr)
    | some n =>
      have e : parseT L.data.toList = some (uM false sc ho (if n = dfl sc.data.toList then 0 else (n : Int)) pa q) := by
        rw [hT]; unfold rankU; rw [hn]
        unfold uM
        rw [hho, hpa, hpa1, hq]
      rw [hd] at e
      have hPn : P = if 65535 < n then -1 else (n : Int) := by
        rcases hP with ⟨h1, h2⟩ | ⟨c, ds, h1, h2⟩
        · rw [h1] at hn
          have : n = 0 := (Option.some.inj hn).symm
          rw [h2, this]; rfl
        · rw [h1] at hn; rw [← h2]; exact prt_some hn
      by_cases hb : 65535 < n
      · rw [if_pos hb] at hPn
        rw [if_neg (by omega)] at e
        have hr : rightM (uM false sc ho pr pa q) = false := right_not _ _ _ _ _ (fun h => by
          have h1 := h.1
          rw [hpr, hPn, if_neg (by omega)] at h1
          omega)
        have hr2 : rightM (uM false sc ho (n : Int) pa q) = false := right_not _ _ _ _ _ (fun h => by have := h.2.1; omega)
        exact wrong (by rw [hM, e]; simp [hr2]) (no hr)
      · rw [if_neg hb] at hPn
        have e2 : (if n = d then 0 else (n : Int)) = pr := by
          rw [hpr, hPn]
          by_cases h9 : n = d
          · rw [if_pos h9, if_pos (by omega)]
          · rw [if_neg h9, if_neg (by omega)]
        rw [e2] at e
        exact right false sc ho pr pa q e yes no

set_option maxRecDepth 100000 in
set_option maxHeartbeats 4000000 in
theorem parses_walk (s : ByteArray) (hs : ¬ (3000 : Int) < (s.size : Int)) (o : Bool) (sc h : ByteArray) (p : Int) (pa q : ByteArray) (n : Int) (P1 : Hid (PC s o sc h p pa q n)) (P2 : Hid (RC s o sc h p pa q n)) (w : World) (hm : MaxIn w) (ht : TabIn w) : Calls Tryz.prog 3 #[.string s] w fun e w' => e = .returned (.bool true) ∧ Below w.heap.size w w' := by
    have e1 : (sc.toList == sc.toList) = true := by rw [beq_iff_eq]
    have e2 : (h.toList == h.toList) = true := by rw [beq_iff_eq]
    have e3 : (pa.toList == pa.toList) = true := by rw [beq_iff_eq]
    have e4 : (q.toList == q.toList) = true := by rw [beq_iff_eq]
    have hpp : (p == p) = true := by rw [beq_iff_eq]
    have hnn : (n == n) = true := by rw [beq_iff_eq]
    unfold PC RC uV at *
    go_enter Tryz.func3, Tryz.ntmps3
    go_wp2_with fail
    refine (P1.out _ hm ht).mono ?_
    rintro e w1 ⟨rfl, B1⟩
    have m1 := hm.below B1
    have t1 := ht.below B1
    clear hm ht
    go_wp2_with fail
    have xn := BX.made w1 o sc h p pa q
    have m2 := m1.made (.cells #[.bool o, .string sc, .string h, .int .i64 p, .string pa, .string q] 23)
    have t2 := t1.made (.cells #[.bool o, .string sc, .string h, .int .i64 p, .string pa, .string q] 23)
    have B2 := B1.trans (((Below.refl w1.heap.size w1).alloc (Nat.le_refl _) (.cells #[.bool o, .string sc, .string h, .int .i64 p, .string pa, .string q] 23)).mono B1.size)
    clear m1 t1 B1
    generalize w1.heap.size = Ra at xn ⊢
    generalize w1.alloc (.cells #[.bool o, .string sc, .string h, .int .i64 p, .string pa, .string q] 23) = w2 at xn m2 t2 B2  ⊢
    have xRa2 := xn
    clear xn
    refine (P2.out _).mono ?_
    rintro e w3 ⟨rfl, b3⟩
    have m3 := m2.below b3
    have t3 := t2.below b3
    have B3 := B2.trans (b3.mono B2.size)
    have xRa3 := xRa2.below b3
    clear m2 t2 B2 b3 xRa2
    go_wp2_with fail
    have xn := BX.made w3 o sc h p pa q
    have m4 := m3.made (.cells #[.bool o, .string sc, .string h, .int .i64 p, .string pa, .string q] 23)
    have t4 := t3.made (.cells #[.bool o, .string sc, .string h, .int .i64 p, .string pa, .string q] 23)
    have B4 := B3.trans (((Below.refl w3.heap.size w3).alloc (Nat.le_refl _) (.cells #[.bool o, .string sc, .string h, .int .i64 p, .string pa, .string q] 23)).mono B3.size)
    have xRa4 := xRa3.below ((Below.refl w3.heap.size w3).alloc (Nat.le_refl _) (.cells #[.bool o, .string sc, .string h, .int .i64 p, .string pa, .string q] 23))
    clear m3 t3 B3 xRa3
    generalize w3.heap.size = Rb at xn ⊢
    generalize w3.alloc (.cells #[.bool o, .string sc, .string h, .int .i64 p, .string pa, .string q] 23) = w4 at xn m4 t4 B4 xRa4 ⊢
    have xRb4 := xn
    clear xn
    refine (parses_any _ m4 t4).mono ?_
    rintro e w5 ⟨rfl, b5⟩
    have xRa5 := xRa4.below b5
    have xRb5 := xRb4.below b5
    have B5 := B4.trans (b5.mono B4.size)
    clear m4 t4 B4 b5 xRa4 xRb4
    have d0 := xRa5.c0
    have d1 := xRa5.c1
    have d2 := xRa5.c2
    have d3 := xRa5.c3
    have d4 := xRa5.c4
    have d5 := xRa5.c5
    have k0 := xRb5.c0
    have k1 := xRb5.c1
    have k2 := xRb5.c2
    have k3 := xRb5.c3
    have k4 := xRb5.c4
    have k5 := xRb5.c5
    go_wp2
    go_ret
    exact ⟨rfl, B5⟩

set_option maxRecDepth 100000 in
set_option maxHeartbeats 1000000 in
theorem parses_long (s : ByteArray) (w : World) (hs : (3000 : Int) < (s.size : Int)) : Calls Tryz.prog 3 #[.string s] w fun e w' => e = .returned (.bool true) ∧ Below w.heap.size w w' := by
  go_enter Tryz.func3, Tryz.ntmps3
  go_wp2
  go_ret
  exact ⟨rfl, Below.refl _ _⟩

theorem parses_law (s : ByteArray) (w : World) (hm : MaxIn w) (ht : TabIn w) : Calls Tryz.prog 3 #[.string s] w fun e w' => e = .returned (.bool true) ∧ Below w.heap.size w w' := by
  by_cases hs : (3000 : Int) < (s.size : Int)
  · exact parses_long s w hs
  obtain ⟨o, sc, h, p, pa, q, n, hA, P1⟩ := parse_to s (by omega)
  obtain ⟨o2, sc2, h2, p2, pa2, q2, n2, hB, P2⟩ := refParse_to s (by omega)
  rcases hA with ⟨a1, rfl, _⟩ | ⟨a1, rfl, rfl, rfl, rfl, rfl, rfl, rfl⟩
  · rcases hB with ⟨b1, rfl, _⟩ | ⟨b1, _⟩
    · rw [a1] at b1
      obtain ⟨rfl, rfl, rfl, rfl, rfl, rfl⟩ := uM_inj (Option.some.inj b1)
      exact parses_walk s hs o sc h p pa q 0 P1 P2 w hm ht
    · rw [a1] at b1; cases b1
  · rcases hB with ⟨b1, _⟩ | ⟨b1, rfl, rfl, rfl, rfl, rfl, rfl, rfl⟩
    · rw [a1] at b1; cases b1
    · exact parses_walk s hs false ⟨#[]⟩ ⟨#[]⟩ 0 ⟨#[]⟩ ⟨#[]⟩ 50 P1 P2 w hm ht

end Go.Proofs.YteoeppmigngkeaaGreatDoor
