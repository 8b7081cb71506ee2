/- The law TokenForms. -/
import Derived.Test.YtgbilfbonliipaaGreatDoorLawTD
namespace Go.Proofs.YtgbilfbonliipaaGreatDoor
open Go.RowKit

set_option maxRecDepth 100000 in
set_option maxHeartbeats 16000000 in
theorem forms_law (s : ByteArray) (w : World) (hw : Low w) : Calls Tryz.prog 7 #[.string s] w fun e w' => e = .returned (.bool true) ∧ Below w.heap.size w w' := by
  by_cases hs : s.size ≤ 2500
  case neg =>
    have z1 : (2500 : Int) < (s.size : Int) := by omega
    clear hs hw
    go_enter Tryz.func7, Tryz.ntmps7
    go_wp2
    go_ret
    exact ⟨rfl, Below.refl _ _⟩
  case pos =>
    have z1 : ¬ (2500 : Int) < (s.size : Int) := by omega
    have CT := Lib.hid (tokens_any s (by omega) w hw)
    have CL := tokensL_hid
    have HW := Lib.hid hw
    have hforms := read_forms s.data.toList
    have hb := (read_bound s.data.toList).1
    rw [lsize] at hb
    obtain ⟨L, F, hread⟩ : ∃ L F, readM s.data.toList = (L, F) := ⟨_, _, rfl⟩
    unfold TokP at CT
    rw [hread] at CT hforms hb
    dsimp only at CT hforms hb
    have hLl : L.length ≤ 110000 := by have := wL_len L; omega
    have HF := Lib.hid hforms
    have HB0 : Hid (∀ t ∈ L, wT t ≤ 110000) := Lib.hid fun t ht => by have := wL_mem ht; omega
    clear hw hs hread hforms hb
    go_enter Tryz.func7, Tryz.ntmps7
    go_wp2_with fail
    refine CT.out.mono ?_
    rintro e w1 ⟨tv, fv, m, rfl, h1, h2, b1⟩
    have H1 := Lib.hid (And.intro (TokIn.of h1) b1)
    obtain ⟨ta, tc, rfl⟩ := h1.form
    obtain ⟨fa, fc, rfl⟩ := (FailIn.of h2).form
    clear h1 h2 b1 CT
    go_wp2
    go_loopw [6] (fun i wr => ∃ k : Nat, i = .int .i64 k ∧ k ≤ L.length ∧ Hid (Below w1.heap.size w1 wr)) (fun i _ => L.length - (intOf i).toNat)
    case atStart => exact ⟨0, rfl, Nat.zero_le _, Lib.hid (Below.refl _ _)⟩
    case round =>
      obtain ⟨k, rfl, hk, HB⟩ := hrel
      by_cases hlt : k < L.length
      · obtain ⟨g, off, av, rfl, c0, c1, c2, c3, c4, c5⟩ := (H1.out.1.below HB.out).at hlt
        obtain ⟨N, hN⟩ := text_of L[k].n
        obtain ⟨D, hD⟩ := text_of L[k].d
        rw [strV_of hN] at c1
        rw [strV_of hD] at c2
        obtain ⟨at', ac', rfl⟩ := c5.form
        have hfo := HF.out.1 _ (List.getElem_mem hlt)
        have hwt := HB0.out _ (List.getElem_mem hlt)
        have hpair : ∀ (_ : 0 < k) (h : k - 1 < L.length), PairOk L[k - 1] L[k] := fun h0 h => HF.out.2 (k - 1) _ _ (List.getElem?_eq_getElem h) (by rw [show k - 1 + 1 = k by omega]; exact List.getElem?_eq_getElem hlt)
        have HPR := Lib.hid hpair
        have HTI := Lib.hid (H1.out.1.below HB.out)
        obtain ⟨t, ht⟩ : ∃ t, L[k] = t := ⟨_, rfl⟩
        rw [ht] at c0 c3 c4 c5 hN hD hfo hwt HPR
        clear ht hpair
        obtain ⟨tk, tn, td, ta2, tc2⟩ := t
        subst hN hD
        obtain ⟨o1, o2, o3, o4, o5⟩ := hfo
        have hwN : N.size ≤ 110000 := by
          unfold wT at hwt
          simp only [lsize] at hwt
          omega
        have hwA : wA ta2 ≤ 110000 := by
          unfold wT at hwt
          simp only at hwt
          omega
        dsimp only at c0 c3 c4 c5 o1 o2 o3 o4 o5
        have CG := great_hid N o2 (by omega)
        have CW := twice_hid ta2 o3 o4 (fun y hy => by have := wA_mem hy; omega) (by omega)
        have C5 := Lib.hid c5
        have zk : (k : Int) < (L.length : Int) := by omega
        have z5 : ¬ (30 : Int) < (ta2.length : Int) := by omega
        have hsz := HB.out.size
        have O1 := Lib.hid o1
        clear o1 o2 o3 o4 o5 hwN hwA hwt c5 c4
        cases k with
        | zero =>
          clear HPR HTI
          rw [Nat.zero_mul, Nat.add_zero] at c0 c1 c2 c3
          by_cases k1 : tk = 1
          · have hd := O1.out k1
            subst k1
            have g0 : (D.toList == []) = false := by
              rw [text_lit]
              exact decide_eq_false hd
            have g1 : D.toList.isEmpty = false := by
              rw [text_empty]
              cases hq : D.data.toList with
              | nil => exact absurd hq hd
              | cons => rfl
            clear hd O1
            go_wp2_with fail
            (with_reducible refine (CG.out _).mono ?_)
            rintro e w2 ⟨rfl, hw2⟩
            subst hw2
            go_wp2_with fail
            (with_reducible refine (CW.out _ _ C5.out).mono ?_)
            rintro e w3 ⟨rfl, b3⟩
            have HB3 := Lib.hid (HB.out.trans (b3.mono hsz))
            have d0 := (b3.cell (lt_of_cell c0)).trans c0
            have d1 := (b3.cell (lt_of_cell c1)).trans c1
            have d3 := (b3.cell (lt_of_cell c3)).trans c3
            clear b3 CG CW
            go_wp2
            go_roundw
            case rel => exact ⟨1, by first | rfl | go_num, by omega, HB3⟩
            case measure => simp [intOf]; omega
          · have n1 : (tk == 1) = false := beq_eq_false_iff_ne.2 k1
            clear k1 O1
            go_wp2_with fail
            (with_reducible refine (CG.out _).mono ?_)
            rintro e w2 ⟨rfl, hw2⟩
            subst hw2
            go_wp2_with fail
            (with_reducible refine (CW.out _ _ C5.out).mono ?_)
            rintro e w3 ⟨rfl, b3⟩
            have HB3 := Lib.hid (HB.out.trans (b3.mono hsz))
            have d0 := (b3.cell (lt_of_cell c0)).trans c0
            have d1 := (b3.cell (lt_of_cell c1)).trans c1
            have d3 := (b3.cell (lt_of_cell c3)).trans c3
            clear b3 CG CW
            go_wp2
            go_roundw
            case rel => exact ⟨1, by first | rfl | go_num, by omega, HB3⟩
            case measure => simp [intOf]; omega
        | succ j =>
          have hpr := HPR.out (by omega) (by omega)
          obtain ⟨g', off', bv, hg', b0, b1, b2, b3, b4, b5⟩ := HTI.out.at (k := j) (by omega)
          cases hg'
          obtain ⟨PN, hPN⟩ := text_of L[j].n
          rw [strV_of hPN] at b1
          have hq : L[j + 1 - 1]'(by omega) = L[j] := rfl
          rw [hq] at hpr
          obtain ⟨u, hu⟩ : ∃ u, L[j] = u := ⟨_, rfl⟩
          rw [hu] at b0 hPN hpr
          obtain ⟨pk, pn, pd, pa, pc⟩ := u
          subst hPN
          dsimp only at b0
          have HQ := Lib.hid hpr
          have a0 := b0
          have a1 := b1
          have zj : (j : Int) < (L.length : Int) := by omega
          have zj0 : (0 : Int) < (j : Int) + 1 := by omega
          clear hu hq hpr b0 b1 b2 b3 b4 b5 HPR HTI
          by_cases k1 : tk = 1
          · have hd := O1.out k1
            have hp1 : pk ≠ 1 := fun e => HQ.out.1 ⟨e, k1⟩
            subst k1
            have g0 : (D.toList == []) = false := by
              rw [text_lit]
              exact decide_eq_false hd
            have g1 : D.toList.isEmpty = false := by
              rw [text_empty]
              cases hq : D.data.toList with
              | nil => exact absurd hq hd
              | cons => rfl
            have gp1 : (pk == 1) = false := beq_eq_false_iff_ne.2 hp1
            clear hd O1 hp1
            by_cases p2 : pk = 2
            · obtain ⟨rb, hrb⟩ : ∃ rb, rawM PN.data.toList = rb := ⟨_, rfl⟩
              have CR := rawP_hid PN rb hrb
              have h2 := HQ.out.2 p2
              subst p2
              cases rb with
              | true =>
                have h3 := h2 hrb
                clear h2 h3 hrb HQ
                go_wp2_with fail
                (with_reducible refine (CG.out _).mono ?_)
                rintro e w2 ⟨rfl, hw2⟩
                subst hw2
                go_wp2_with fail
                (with_reducible refine (CW.out _ _ C5.out).mono ?_)
                rintro e w3 ⟨rfl, b3⟩
                have HB3 := Lib.hid (HB.out.trans (b3.mono hsz))
                have d0 := (b3.cell (lt_of_cell c0)).trans c0
                have d1 := (b3.cell (lt_of_cell c1)).trans c1
                have d3 := (b3.cell (lt_of_cell c3)).trans c3
                have e0 := (b3.cell (lt_of_cell a0)).trans a0
                have e1 := (b3.cell (lt_of_cell a1)).trans a1
                clear b3 CG CW
                go_wp2_with fail
                (with_reducible refine (CR.out _).mono ?_)
                rintro e w4 ⟨rfl, hw4⟩
                subst hw4
                go_wp2_with fail
                go_quiet (fail)
                have HB4 := Lib.hid (belowN HB3.out nq)
                go_wp2
                go_roundw
                case rel => exact ⟨j + 1 + 1, by first | rfl | go_num, by omega, HB4⟩
                case measure => simp [intOf]; omega
              | false =>
                clear h2 hrb HQ
                go_wp2_with fail
                (with_reducible refine (CG.out _).mono ?_)
                rintro e w2 ⟨rfl, hw2⟩
                subst hw2
                go_wp2_with fail
                (with_reducible refine (CW.out _ _ C5.out).mono ?_)
                rintro e w3 ⟨rfl, b3⟩
                have HB3 := Lib.hid (HB.out.trans (b3.mono hsz))
                have d0 := (b3.cell (lt_of_cell c0)).trans c0
                have d1 := (b3.cell (lt_of_cell c1)).trans c1
                have d3 := (b3.cell (lt_of_cell c3)).trans c3
                have e0 := (b3.cell (lt_of_cell a0)).trans a0
                have e1 := (b3.cell (lt_of_cell a1)).trans a1
                clear b3 CG CW
                go_wp2_with fail
                (with_reducible refine (CR.out _).mono ?_)
                rintro e w4 ⟨rfl, hw4⟩
                subst hw4
                go_wp2
                go_roundw
                case rel => exact ⟨j + 1 + 1, by first | rfl | go_num, by omega, HB3⟩
                case measure => simp [intOf]; omega
            · have gp2 : (pk == 2) = false := beq_eq_false_iff_ne.2 p2
              have gp3 : (pk != 2) = true := by rw [bne, gp2]; rfl
              clear p2 HQ
              go_wp2_with fail
              (with_reducible refine (CG.out _).mono ?_)
              rintro e w2 ⟨rfl, hw2⟩
              subst hw2
              go_wp2_with fail
              (with_reducible refine (CW.out _ _ C5.out).mono ?_)
              rintro e w3 ⟨rfl, b3⟩
              have HB3 := Lib.hid (HB.out.trans (b3.mono hsz))
              have d0 := (b3.cell (lt_of_cell c0)).trans c0
              have d1 := (b3.cell (lt_of_cell c1)).trans c1
              have d3 := (b3.cell (lt_of_cell c3)).trans c3
              have e0 := (b3.cell (lt_of_cell a0)).trans a0
              have e1 := (b3.cell (lt_of_cell a1)).trans a1
              clear b3 CG CW
              go_wp2
              go_roundw
              case rel => exact ⟨j + 1 + 1, by first | rfl | go_num, by omega, HB3⟩
              case measure => simp [intOf]; omega
          · have n1 : (tk == 1) = false := beq_eq_false_iff_ne.2 k1
            clear O1
            by_cases p2 : pk = 2
            · obtain ⟨rb, hrb⟩ : ∃ rb, rawM PN.data.toList = rb := ⟨_, rfl⟩
              have CR := rawP_hid PN rb hrb
              have h2 := HQ.out.2 p2
              subst p2
              cases rb with
              | true =>
                have h3 := h2 hrb
                have h4 : tk = 3 ∧ N.data.toList = PN.data.toList := by
                  rcases h3 with h | h
                  · exact absurd h k1
                  · exact h
                obtain ⟨h5, h6⟩ := h4
                subst h5
                obtain rfl : N = PN := (text_is (T := N) h6).trans (text_is (T := PN) rfl).symm
                clear h2 h3 h6 hrb HQ k1
                go_wp2_with fail
                (with_reducible refine (CG.out _).mono ?_)
                rintro e w2 ⟨rfl, hw2⟩
                subst hw2
                go_wp2_with fail
                (with_reducible refine (CW.out _ _ C5.out).mono ?_)
                rintro e w3 ⟨rfl, b3⟩
                have HB3 := Lib.hid (HB.out.trans (b3.mono hsz))
                have d0 := (b3.cell (lt_of_cell c0)).trans c0
                have d1 := (b3.cell (lt_of_cell c1)).trans c1
                have d3 := (b3.cell (lt_of_cell c3)).trans c3
                have e0 := (b3.cell (lt_of_cell a0)).trans a0
                have e1 := (b3.cell (lt_of_cell a1)).trans a1
                clear b3 CG CW
                go_wp2_with fail
                (with_reducible refine (CR.out _).mono ?_)
                rintro e w4 ⟨rfl, hw4⟩
                subst hw4
                go_wp2_with fail
                go_quiet (fail)
                have HB4 := Lib.hid (belowN HB3.out nq)
                go_wp2
                go_roundw
                case rel => exact ⟨j + 1 + 1, by first | rfl | go_num, by omega, HB4⟩
                case measure => simp [intOf]; omega
              | false =>
                clear h2 hrb HQ k1
                go_wp2_with fail
                (with_reducible refine (CG.out _).mono ?_)
                rintro e w2 ⟨rfl, hw2⟩
                subst hw2
                go_wp2_with fail
                (with_reducible refine (CW.out _ _ C5.out).mono ?_)
                rintro e w3 ⟨rfl, b3⟩
                have HB3 := Lib.hid (HB.out.trans (b3.mono hsz))
                have d0 := (b3.cell (lt_of_cell c0)).trans c0
                have d1 := (b3.cell (lt_of_cell c1)).trans c1
                have d3 := (b3.cell (lt_of_cell c3)).trans c3
                have e0 := (b3.cell (lt_of_cell a0)).trans a0
                have e1 := (b3.cell (lt_of_cell a1)).trans a1
                clear b3 CG CW
                go_wp2_with fail
                (with_reducible refine (CR.out _).mono ?_)
                rintro e w4 ⟨rfl, hw4⟩
                subst hw4
                go_wp2
                go_roundw
                case rel => exact ⟨j + 1 + 1, by first | rfl | go_num, by omega, HB3⟩
                case measure => simp [intOf]; omega
            · have gp2 : (pk == 2) = false := beq_eq_false_iff_ne.2 p2
              have gp3 : (pk != 2) = true := by rw [bne, gp2]; rfl
              clear p2 HQ k1
              go_wp2_with fail
              (with_reducible refine (CG.out _).mono ?_)
              rintro e w2 ⟨rfl, hw2⟩
              subst hw2
              go_wp2_with fail
              (with_reducible refine (CW.out _ _ C5.out).mono ?_)
              rintro e w3 ⟨rfl, b3⟩
              have HB3 := Lib.hid (HB.out.trans (b3.mono hsz))
              have d0 := (b3.cell (lt_of_cell c0)).trans c0
              have d1 := (b3.cell (lt_of_cell c1)).trans c1
              have d3 := (b3.cell (lt_of_cell c3)).trans c3
              have e0 := (b3.cell (lt_of_cell a0)).trans a0
              have e1 := (b3.cell (lt_of_cell a1)).trans a1
              clear b3 CG CW
              go_wp2
              go_roundw
              case rel => exact ⟨j + 1 + 1, by first | rfl | go_num, by omega, HB3⟩
              case measure => simp [intOf]; omega
      · obtain rfl : k = L.length := by omega
        have H2 := Lib.hid (H1.out.2.trans (HB.out.mono H1.out.2.size))
        clear HB
        go_wp2_with fail
        (with_reducible refine (CL.out _ (HW.out.below H2.out)).mono ?_)
        rintro e w5 ⟨rfl, b5⟩
        have H3 := Lib.hid (H2.out.trans (b5.mono H2.out.size))
        clear b5 H2
        go_wp2
        go_ret
        exact ⟨rfl, H3.out⟩

end Go.Proofs.YtgbilfbonliipaaGreatDoor
