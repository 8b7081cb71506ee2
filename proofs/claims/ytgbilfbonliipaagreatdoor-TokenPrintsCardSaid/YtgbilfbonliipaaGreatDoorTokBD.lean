/- The document's Print. -/
import Derived.Test.YtgbilfbonliipaaGreatDoorTokBC
namespace Go.Proofs.YtgbilfbonliipaaGreatDoor
open Go.RowKit

theorem wA_mem {A : List (List UInt8 × List UInt8)} {y : List UInt8 × List UInt8} (h : y ∈ A) : y.1.length + y.2.length + 5 ≤ wA A := by
  induction A with
  | nil => cases h
  | cons z B ih =>
    simp only [wA, List.map_cons, List.sum_cons] at ih ⊢
    rcases List.mem_cons.1 h with rfl | h
    · omega
    · have := ih h; omega
theorem wA_len (A : List (List UInt8 × List UInt8)) : A.length ≤ wA A := by
  induction A with
  | nil => exact Nat.le_refl _
  | cons y B ih =>
    simp only [wA, List.map_cons, List.sum_cons, List.length_cons] at ih ⊢
    omega

set_option maxRecDepth 100000 in
set_option maxHeartbeats 8000000 in
theorem refStart_hid (k : Int) (N D P : ByteArray) (A : List (List UInt8 × List UInt8)) (c : Bool) (hP : P.data.toList = startT ⟨k, N.data.toList, D.data.toList, A, c⟩) (hw : wT ⟨k, N.data.toList, D.data.toList, A, c⟩ ≤ 100000) : Hid (∀ W av, AtIn W av A → Calls Tryz.prog 34 #[.agg #[.int .i64 k, .string N, .string D, av, .bool c]] W fun e w' => e = .returned (.string P) ∧ Below W.heap.size W w') := Lib.hid fun w av hat => by
  obtain ⟨aa, ac, rfl⟩ := hat.form
  obtain ⟨Z, hZ⟩ := text_of (60 :: N.data.toList)
  have hNs : N.size + wA A ≤ 100000 := by
    unfold wT at hw
    simp only [lsize] at hw
    omega
  have hAl : A.length ≤ 100000 := by have := wA_len A; omega
  have hZs : Z.size = N.size + 1 := by rw [← lsize, hZ, List.length_cons, lsize]
  have a1 := add_to ⟨#[60]⟩ N Z hZ (by show 1 + N.size ≤ _; omega)
  have al1 := (Below.refl w.heap.size w).alloc (Nat.le_refl _) (.cells #[.int .i64 k, .string N, .string D, .slice aa A.length ac, .bool c] 40)
  have hbox := new_block w (.cells #[.int .i64 k, .string N, .string D, .slice aa A.length ac, .bool c] 40)
  have HAT := Lib.hid (hat.below al1)
  have HP := Lib.hid hP
  have HZ : Hid (Z.data.toList ++ (A.drop 0).flatMap attrT = 60 :: N.data.toList ++ A.flatMap attrT) := Lib.hid (by rw [hZ]; rfl)
  have HW := Lib.hid hNs
  have CE := fun (V E : ByteArray) (h1 : E.data.toList = encT V.data.toList) (h2 : V.size ≤ 100000) => refEncode_hid V E h1 h2
  have d1 := cell_of hbox 1
  have d3 := cell_of hbox 3
  have d4 := cell_of hbox 4
  have HB := Lib.hid (And.intro hbox al1)
  clear hat hP hZ hw hbox al1 hZs
  go_enter Tryz.func34, Tryz.ntmps34
  go_wp2
  generalize w.alloc (.cells #[.int .i64 k, .string N, .string D, .slice aa A.length ac, .bool c] 40) = w1 at HAT HB d1 d3 d4 ⊢
  go_loopw [3, 4] (fun tv j wr => ∃ (i n : Nat) (T : ByteArray), j = .int .i64 i ∧ tv = .string T ∧ i ≤ A.length ∧ wr = w1.drewN n ∧ Hid (T.data.toList ++ (A.drop i).flatMap attrT = 60 :: N.data.toList ++ A.flatMap attrT)) (fun _ j _ => A.length - (intOf j).toNat)
  case atStart => exact ⟨0, 0, Z, rfl, rfl, Nat.zero_le _, rfl, HZ⟩
  case round =>
    obtain ⟨i, n, T, rfl, rfl, hi, rfl, HX⟩ := hrel
    have hTs : T.size ≤ 700000 := by
      have e := congrArg List.length HX.out
      have hb := attrs_lenT A
      have h0 := HW.out
      simp only [List.length_append, List.length_cons, lsize] at e
      omega
    by_cases hlt : i < A.length
    · obtain ⟨g, off, rfl, c0, c1⟩ := HAT.out.at hlt
      obtain ⟨X, hX⟩ := text_of A[i].1
      obtain ⟨V, hV⟩ := text_of A[i].2
      rw [strV_of hX] at c0
      rw [strV_of hV] at c1
      have hmem := wA_mem (List.getElem_mem hlt)
      rw [← hX, ← hV, lsize, lsize] at hmem
      have hXV : X.size + V.size ≤ 100000 := by have := HW.out; omega
      obtain ⟨E, hE⟩ := text_of (encT V.data.toList)
      have hEs : E.size ≤ 600000 := by rw [← lsize, hE]; have := (encT_len V.data.toList).2; rw [lsize] at this; omega
      obtain ⟨S1, hS1⟩ := text_of (T.data.toList ++ [32])
      obtain ⟨S2, hS2⟩ := text_of (S1.data.toList ++ X.data.toList)
      obtain ⟨S3, hS3⟩ := text_of (S2.data.toList ++ [61, 34])
      obtain ⟨S4, hS4⟩ := text_of (S3.data.toList ++ E.data.toList)
      obtain ⟨S5, hS5⟩ := text_of (S4.data.toList ++ [34])
      have q1 : S1.size = T.size + 1 := by rw [← lsize, hS1, List.length_append, lsize]; rfl
      have q2 : S2.size = T.size + 1 + X.size := by rw [← lsize, hS2, List.length_append, lsize, lsize, q1]
      have q3 : S3.size = T.size + 1 + X.size + 2 := by rw [← lsize, hS3, List.length_append, lsize, q2]; rfl
      have q4 : S4.size = T.size + 1 + X.size + 2 + E.size := by rw [← lsize, hS4, List.length_append, lsize, lsize, q3]
      have s1 := add_to T ⟨#[32]⟩ S1 hS1 (by show T.size + 1 ≤ _; omega)
      have s2 := add_to S1 X S2 hS2 (by omega)
      have s3 := add_to S2 ⟨#[61, 34]⟩ S3 hS3 (by show S2.size + 2 ≤ _; omega)
      have s4 := add_to S3 E S4 hS4 (by omega)
      have s5 := add_to S4 ⟨#[34]⟩ S5 hS5 (by show S4.size + 1 ≤ _; omega)
      have CEv := CE V E hE (by omega)
      have HST : Hid (S5.data.toList ++ (A.drop (i + 1)).flatMap attrT = 60 :: N.data.toList ++ A.flatMap attrT) := Lib.hid (by
        rw [← HX.out, List.drop_eq_getElem_cons hlt, List.flatMap_cons, hS5, hS4, hS3, hS2, hS1, hE, hV, hX]
        unfold attrT
        simp)
      have zi : (i : Int) < (A.length : Int) := by omega
      clear HX hX hV hmem hE hS1 hS2 hS3 hS4 hS5 q1 q2 q3 q4 hlt
      go_wp2
      go_quiet ((go_at_call 33; exact (CEv.out _).mono fun _ _ h => ⟨h.1, _, h.2⟩))
      go_wp2
      go_roundw
      case rel => exact ⟨i + 1, n + nq, S5, by go_num, rfl, by omega, by first | rfl | simp [World.drewN_drewN], HST⟩
      case measure => simp [intOf]; omega
    · obtain rfl : i = A.length := by omega
      have h4 := HX.out
      rw [List.drop_length, List.flatMap_nil, List.append_nil] at h4
      cases c with
      | true =>
        obtain ⟨S1, hS1⟩ := text_of (T.data.toList ++ [47])
        have q1 : S1.size = T.size + 1 := by rw [← lsize, hS1, List.length_append, lsize]; rfl
        have s1 := add_to T ⟨#[47]⟩ S1 hS1 (by show T.size + 1 ≤ _; omega)
        have s2 := add_to S1 ⟨#[62]⟩ P (by rw [HP.out, hS1, h4]; unfold startT; simp) (by show S1.size + 1 ≤ _; omega)
        clear hS1 q1 h4 HX
        go_wp2
        go_ret
        exact ⟨rfl, belowN HB.out.2 _⟩
      | false =>
        have s2 := add_to T ⟨#[62]⟩ P (by rw [HP.out, h4]; unfold startT; simp) (by show T.size + 1 ≤ _; omega)
        clear h4 HX
        go_wp2
        go_ret
        exact ⟨rfl, belowN HB.out.2 _⟩

def bAt (L : List Tk) : Nat → Option Tk
  | 0 => none
  | j + 1 => L[j]?

set_option maxRecDepth 100000 in
set_option maxHeartbeats 16000000 in
theorem refPrint_hid (L : List Tk) (P : ByteArray) (hP : P.data.toList = printM L) (hw : wL L ≤ 20000000) (hwt : ∀ t ∈ L, wT t ≤ 100000) : Hid (∀ W v, TokIn W v L → Calls Tryz.prog 19 #[v] W fun e w' => e = .returned (.string P) ∧ Below W.heap.size W w') := Lib.hid fun w v hat => by
  obtain ⟨aa, ac, rfl⟩ := hat.form
  have hLl : L.length ≤ 20000000 := Nat.le_trans (wL_len L) hw
  have HAT := Lib.hid hat
  have HP := Lib.hid hP
  have HW := Lib.hid hw
  have HWT := Lib.hid hwt
  have HPF := Lib.hid (printF_len none L)
  clear hat hP hw hwt
  go_enter Tryz.func19, Tryz.ntmps19
  go_wp2
  go_loopw [3, 4, 5] (fun tv j _ wr => ∃ (i : Nat) (T : ByteArray), j = .int .i64 i ∧ tv = .string T ∧ i ≤ L.length ∧ Hid (Below w.heap.size w wr ∧ T.data.toList ++ printF (bAt L i) (L.drop i) = printM L)) (fun _ j _ _ => L.length - (intOf j).toNat)
  case atStart => exact ⟨0, ⟨#[]⟩, rfl, rfl, Nat.zero_le _, Lib.hid ⟨Below.refl _ _, rfl⟩⟩
  case round =>
    obtain ⟨i, T, rfl, rfl, hi, HX⟩ := hrel
    obtain ⟨h3, h4⟩ := HX.out
    have hws := h3.size
    have hTs : T.size ≤ 120000000 := by
      have e := congrArg List.length h4
      have h0 := HW.out
      have h9 := HPF.out
      unfold printM at e
      rw [List.length_append, lsize] at e
      omega
    by_cases hlt : i < L.length
    · have har : TokIn wr (.slice aa L.length ac) L := HAT.out.below h3
      have HAR := Lib.hid har
      obtain ⟨g, off, av, rfl, c0, c1, c2, c3, c4, c5⟩ := har.at hlt
      obtain ⟨N, hN⟩ := text_of L[i].n
      obtain ⟨D, hD⟩ := text_of L[i].d
      rw [strV_of hN] at c1
      rw [strV_of hD] at c2
      obtain ⟨at', ac', rfl⟩ := c5.form
      have hw0 := HWT.out _ (List.getElem_mem hlt)
      obtain ⟨R, hR⟩ := text_of (T.data.toList ++ printT (hardM (bAt L i)) L[i])
      have hstep : R.data.toList ++ printF (bAt L (i + 1)) (L.drop (i + 1)) = printM L := by
        rw [← h4, printF_drop L (bAt L i) hlt, hR, List.append_assoc]
        show _ ++ (_ ++ printF L[i]? _) = _
        rw [List.getElem?_eq_getElem hlt]
      have HST := Lib.hid hstep
      obtain ⟨hard, hhard⟩ : ∃ hard, hardM (bAt L i) = hard := ⟨_, rfl⟩
      rw [hhard] at hR
      obtain ⟨t, ht⟩ : ∃ t, L[i] = t := ⟨_, rfl⟩
      rw [ht] at c0 c3 c4 c5 hN hD hw0 hR
      clear ht
      obtain ⟨tk, tn, td, ta, tc⟩ := t
      subst hN hD
      dsimp only at c0 c3 c4 c5
      have hNDs : N.size + D.size ≤ 100000 := by
        unfold wT at hw0
        simp only [lsize] at hw0
        omega
      have alr := (Below.refl wr.heap.size wr).alloc (Nat.le_refl _) (.cells #[.int .i64 tk, .string N, .string D, .slice at' ta.length ac', .bool tc] 40)
      have hxb := new_block wr (.cells #[.int .i64 tk, .string N, .string D, .slice at' ta.length ac', .bool tc] 40)
      have H5 := Lib.hid (And.intro (h3.trans (alr.mono hws)) (c5.below alr))
      have hz5 : w.heap.size ≤ (wr.alloc (.cells #[.int .i64 tk, .string N, .string D, .slice at' ta.length ac', .bool tc] 40)).heap.size := Nat.le_trans hws alr.size
      have e0 := cell_of hxb 0
      have e1 := cell_of hxb 1
      have e2 := cell_of hxb 2
      have e3 := cell_of hxb 3
      have e4 := cell_of hxb 4
      have HAL := Lib.hid alr
      have zi : (i : Int) < (L.length : Int) := by omega
      have HRX := Lib.hid hR
      have HNX : Hid (∀ wz, Below w.heap.size w wz → Hid (Below w.heap.size w wz ∧ R.data.toList ++ printF (bAt L (i + 1)) (L.drop (i + 1)) = printM L)) := Lib.hid fun wz hz => Lib.hid ⟨hz, HST.out⟩
      clear HX h3 h4 har c5 hstep alr hxb hws
      by_cases k1 : tk = 1
      · subst k1
        cases i with
        | zero =>
          have hh : hard = false := hhard.symm
          subst hh
          have HRQ := Lib.hid hhard
          rw [Nat.zero_mul, Nat.add_zero] at c0 c1 c2 c3 c4
          clear hhard hR
          obtain ⟨E, hE⟩ := text_of (encT D.data.toList)
          have hEs : E.size ≤ 600000 := by rw [← lsize, hE]; have := (encT_len D.data.toList).2; rw [lsize] at this; omega
          have CE := refEncode_hid D E hE (by omega)
          have s1 := add_to T E R (by rw [HRX.out, hE]; rfl) (by omega)
          clear HRX HRQ hE
          go_wp2_with fail
          (with_reducible refine (CE.out _).mono ?_)
          rintro e w5 ⟨rfl, rfl⟩
          go_wp2
          go_roundw
          case rel => exact ⟨_, R, by go_num, rfl, by omega, HNX.out _ H5.out.1⟩
          case measure => simp [intOf]; omega
        | succ j =>
          obtain ⟨g', off', bv, hg', b0, b1, b2, b3, b4, b5⟩ := HAR.out.at (k := j) (by omega)
          cases hg'
          have hbj : bAt L (j + 1) = some L[j] := List.getElem?_eq_getElem (by omega)
          rw [hbj, hardM_some] at hhard
          obtain ⟨PN, hPN⟩ := text_of L[j].n
          rw [strV_of hPN] at b1
          rw [← hPN] at hhard
          obtain ⟨pk, hpk⟩ : ∃ pk, L[j].k = pk := ⟨_, rfl⟩
          rw [hpk] at b0 hhard
          have a0 := (HAL.out.cell (lt_of_cell b0)).trans b0
          have a1 := (HAL.out.cell (lt_of_cell b1)).trans b1
          have zj : (j : Int) < (L.length : Int) := by omega
          have zj0 : (0 : Int) < (j : Int) + 1 := by omega
          have HRQ := Lib.hid hPN
          clear hpk hPN b2 b3 b4 b5 hbj hR
          by_cases p2 : pk = 2
          · subst p2
            obtain ⟨bs, hbs⟩ : ∃ bs, decide (PN.data.toList = scriptN) = bs := ⟨_, rfl⟩
            obtain ⟨bt, hbt⟩ : ∃ bt, decide (PN.data.toList = styleN) = bt := ⟨_, rfl⟩
            have gs : (PN.toList == [115, 99, 114, 105, 112, 116]) = bs := by rw [text_lit]; exact hbs
            have gt : (PN.toList == [115, 116, 121, 108, 101]) = bt := by rw [text_lit]; exact hbt
            rw [hbs, hbt] at hhard
            clear hbs hbt
            cases bs with
            | true =>
              have hh : hard = true := hhard.symm
              subst hh
              clear hhard
              have s1 := add_to T D R (by rw [HRX.out]; rfl) (by omega)
              clear HRX HRQ
              go_wp2
              go_roundw
              case rel => exact ⟨_, R, by go_num, rfl, by omega, HNX.out _ H5.out.1⟩
              case measure => simp [intOf]; omega
            | false =>
              cases bt with
              | true =>
                have hh : hard = true := hhard.symm
                subst hh
                clear hhard
                have s1 := add_to T D R (by rw [HRX.out]; rfl) (by omega)
                clear HRX HRQ
                go_wp2
                go_roundw
                case rel => exact ⟨_, R, by go_num, rfl, by omega, HNX.out _ H5.out.1⟩
                case measure => simp [intOf]; omega
              | false =>
                have hh : hard = false := hhard.symm
                subst hh
                clear hhard
                obtain ⟨E, hE⟩ := text_of (encT D.data.toList)
                have hEs : E.size ≤ 600000 := by rw [← lsize, hE]; have := (encT_len D.data.toList).2; rw [lsize] at this; omega
                have CE := refEncode_hid D E hE (by omega)
                have s1 := add_to T E R (by rw [HRX.out, hE]; rfl) (by omega)
                clear HRX HRQ hE
                go_wp2_with fail
                (with_reducible refine (CE.out _).mono ?_)
                rintro e w5 ⟨rfl, rfl⟩
                go_wp2
                go_roundw
                case rel => exact ⟨_, R, by go_num, rfl, by omega, HNX.out _ H5.out.1⟩
                case measure => simp [intOf]; omega
          · have gk : (pk == 2) = false := beq_eq_false_iff_ne.2 p2
            have hh : hard = false := by rw [← hhard, decide_eq_false p2]; rfl
            subst hh
            clear hhard p2
            obtain ⟨E, hE⟩ := text_of (encT D.data.toList)
            have hEs : E.size ≤ 600000 := by rw [← lsize, hE]; have := (encT_len D.data.toList).2; rw [lsize] at this; omega
            have CE := refEncode_hid D E hE (by omega)
            have s1 := add_to T E R (by rw [HRX.out, hE]; rfl) (by omega)
            clear HRX HRQ hE
            go_wp2_with fail
            (with_reducible refine (CE.out _).mono ?_)
            rintro e w5 ⟨rfl, rfl⟩
            go_wp2
            go_roundw
            case rel => exact ⟨_, R, by go_num, rfl, by omega, HNX.out _ H5.out.1⟩
            case measure => simp [intOf]; omega
      · have n1 : (tk == 1) = false := beq_eq_false_iff_ne.2 k1
        by_cases k2 : tk = 2
        · subst k2
          obtain ⟨E, hE⟩ := text_of (startT ⟨2, N.data.toList, D.data.toList, ta, tc⟩)
          have hEs : E.size ≤ 600000 := by
            rw [← lsize, hE]
            have := printT_len false ⟨2, N.data.toList, D.data.toList, ta, tc⟩
            unfold printT at this
            rw [if_neg (show ¬ ((2 : Int) = 1) by decide), if_pos rfl] at this
            omega
          have CE := refStart_hid 2 N D E ta tc hE hw0
          have s1 := add_to T E R (by rw [HRX.out, hE]; rfl) (by omega)
          clear hE hw0 hR HRX k1
          go_wp2_with fail
          (with_reducible refine (CE.out _ _ H5.out.2).mono ?_)
          rintro e w5 ⟨rfl, b5⟩
          have H6 := Lib.hid (H5.out.1.trans (b5.mono hz5))
          clear b5 H5
          go_wp2
          go_roundw
          case rel => exact ⟨_, R, by go_num, rfl, by omega, HNX.out _ H6.out⟩
          case measure => simp [intOf]; omega
        · have n2 : (tk == 2) = false := beq_eq_false_iff_ne.2 k2
          by_cases k3 : tk = 3
          · subst k3
            obtain ⟨S1, hS1⟩ := text_of (T.data.toList ++ (⟨#[60, 47]⟩ : ByteArray).data.toList)
            have z1 : (⟨#[60, 47]⟩ : ByteArray).size ≤ 10 := by decide
            have z2 : (⟨#[62]⟩ : ByteArray).size ≤ 10 := by decide
            have q1 : S1.size = T.size + (⟨#[60, 47]⟩ : ByteArray).size := by rw [← lsize, hS1, List.length_append, lsize, lsize]
            obtain ⟨S2, hS2⟩ := text_of (S1.data.toList ++ N.data.toList)
            have q2 : S2.size = S1.size + N.size := by rw [← lsize, hS2, List.length_append, lsize, lsize]
            have s1 := add_to T ⟨#[60, 47]⟩ S1 hS1 (by omega)
            have s2 := add_to S1 N S2 hS2 (by omega)
            have s3 := add_to S2 ⟨#[62]⟩ R (by rw [HRX.out, hS2, hS1, List.append_assoc, List.append_assoc]; rfl) (by omega)
            clear hS1 hS2 q1 q2 z1 z2
            clear hR HRX
            go_wp2
            go_roundw
            case rel => exact ⟨_, R, by go_num, rfl, by omega, HNX.out _ H5.out.1⟩
            case measure => simp [intOf]; omega
          · have n3 : (tk == 3) = false := beq_eq_false_iff_ne.2 k3
            by_cases k4 : tk = 4
            · subst k4
              obtain ⟨S1, hS1⟩ := text_of (T.data.toList ++ (⟨#[60, 33, 45, 45]⟩ : ByteArray).data.toList)
              have z1 : (⟨#[60, 33, 45, 45]⟩ : ByteArray).size ≤ 10 := by decide
              have z2 : (⟨#[45, 45, 62]⟩ : ByteArray).size ≤ 10 := by decide
              have q1 : S1.size = T.size + (⟨#[60, 33, 45, 45]⟩ : ByteArray).size := by rw [← lsize, hS1, List.length_append, lsize, lsize]
              obtain ⟨S2, hS2⟩ := text_of (S1.data.toList ++ D.data.toList)
              have q2 : S2.size = S1.size + D.size := by rw [← lsize, hS2, List.length_append, lsize, lsize]
              have s1 := add_to T ⟨#[60, 33, 45, 45]⟩ S1 hS1 (by omega)
              have s2 := add_to S1 D S2 hS2 (by omega)
              have s3 := add_to S2 ⟨#[45, 45, 62]⟩ R (by rw [HRX.out, hS2, hS1, List.append_assoc, List.append_assoc]; rfl) (by omega)
              clear hS1 hS2 q1 q2 z1 z2
              clear hR HRX
              go_wp2
              go_roundw
              case rel => exact ⟨_, R, by go_num, rfl, by omega, HNX.out _ H5.out.1⟩
              case measure => simp [intOf]; omega
            · have n4 : (tk == 4) = false := beq_eq_false_iff_ne.2 k4
              by_cases k5 : tk = 5
              · subst k5
                obtain ⟨S1, hS1⟩ := text_of (T.data.toList ++ (⟨#[60, 33, 100, 111, 99, 116, 121, 112, 101, 32]⟩ : ByteArray).data.toList)
                have z1 : (⟨#[60, 33, 100, 111, 99, 116, 121, 112, 101, 32]⟩ : ByteArray).size ≤ 10 := by decide
                have z2 : (⟨#[62]⟩ : ByteArray).size ≤ 10 := by decide
                have q1 : S1.size = T.size + (⟨#[60, 33, 100, 111, 99, 116, 121, 112, 101, 32]⟩ : ByteArray).size := by rw [← lsize, hS1, List.length_append, lsize, lsize]
                obtain ⟨S2, hS2⟩ := text_of (S1.data.toList ++ D.data.toList)
                have q2 : S2.size = S1.size + D.size := by rw [← lsize, hS2, List.length_append, lsize, lsize]
                have s1 := add_to T ⟨#[60, 33, 100, 111, 99, 116, 121, 112, 101, 32]⟩ S1 hS1 (by omega)
                have s2 := add_to S1 D S2 hS2 (by omega)
                have s3 := add_to S2 ⟨#[62]⟩ R (by rw [HRX.out, hS2, hS1, List.append_assoc, List.append_assoc]; rfl) (by omega)
                clear hS1 hS2 q1 q2 z1 z2
                clear hR HRX
                go_wp2
                go_roundw
                case rel => exact ⟨_, R, by go_num, rfl, by omega, HNX.out _ H5.out.1⟩
                case measure => simp [intOf]; omega
              · have n5 : (tk == 5) = false := beq_eq_false_iff_ne.2 k5
                have hRT : R = T := by
                  refine (text_is (T := R) (l := T.data.toList) ?_).trans (text_is (T := T) rfl).symm
                  rw [hR]
                  unfold printT
                  rw [if_neg k1, if_neg k2, if_neg k3, if_neg k4, if_neg k5]
                  exact List.append_nil _
                subst hRT
                clear hR HRX k1 k2 k3 k4 k5
                go_wp2
                go_roundw
                case rel => exact ⟨_, R, by go_num, rfl, by omega, HNX.out _ H5.out.1⟩
                case measure => simp [intOf]; omega
    · obtain rfl : i = L.length := by omega
      rw [List.drop_length] at h4
      have h4' : T.data.toList = printM L := by rw [← h4]; exact (List.append_nil _).symm
      obtain rfl : T = P := by rw [text_is h4', ← HP.out, ← text_is (T := P) rfl]
      have HB := Lib.hid h3
      clear HX h3 h4 h4'
      go_wp2
      go_ret
      exact ⟨rfl, HB.out⟩

end Go.Proofs.YtgbilfbonliipaaGreatDoor
