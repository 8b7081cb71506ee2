/- The walks: what is decoded, and encoded, is the text as it is written; three bytes apart from those behind them; how long what is encoded is. -/
import Derived.Test.YteagchgoiofjgaaDoorLawA
namespace Go.Proofs.YteagchgoiofjgaaDoor
open Go.RowKit

theorem plain_hid (s : ByteArray) (hs : s.size ≤ 1000000000) (T : ByteArray) (hT : T.data.toList = s.data.toList.map plB) : Hid (∀ W, Calls Tryd.prog 16 #[.string s] W fun e w' => e = .returned (.string T) ∧ Below W.heap.size W w') :=
  Lib.hid fun W => plain_any s hs T hT W

set_option maxRecDepth 100000 in
set_option maxHeartbeats 1000000 in
theorem again_law (s : ByteArray) (w : World) : Calls Tryd.prog 6 #[.string s] w fun e w' => e = .returned (.bool true) ∧ Below w.heap.size w w' := by
  by_cases hs : 2000 < s.size
  · have hz : (2000 : Int) < (s.size : Int) := by omega
    clear hs
    go_enter Tryd.func6, Tryd.ntmps6
    go_wp2
    go_ret
    exact ⟨rfl, Below.refl _ _⟩
  · have hz : ¬ (2000 : Int) < (s.size : Int) := by omega
    cases hb : (decM s.data.toList).2 with
    | false =>
      have h1 := dec_false hb
      have C1 := decode_hid s (by omega) ⟨#[]⟩ false (by rw [← hb]; show ([], _) = _; rw [← h1])
      clear hs hb h1
      go_enter Tryd.func6, Tryd.ntmps6
      go_wp2_with fail
      with_reducible refine (C1.out _).mono ?_
      rintro e w1 ⟨rfl, B1⟩
      go_wp2_with fail
      with_reducible refine (codes_any _).mono ?_
      rintro e w2 ⟨rfl, b2⟩
      have B2 := B1.trans (b2.mono B1.size)
      go_wp2
      go_ret
      exact ⟨rfl, B2⟩
    | true =>
      obtain ⟨U, hU⟩ := text_of (decM s.data.toList).1
      have hdec : decM s.data.toList = (U.data.toList, true) := by rw [hU, ← hb]
      have hen := enc_dec _ _ hdec
      rw [lsize] at hen
      have hUs : U.size ≤ 2000 := by
        have h1 := encM_length U.data.toList
        have h2 := congrArg List.length hen
        rw [List.length_append, List.length_map, fill_length, lsize] at h2
        rw [lsize] at h1
        omega
      have C1 := decode_hid s (by omega) U true hdec.symm
      obtain ⟨P, hP⟩ := text_of (s.data.toList.map plB)
      have C2 := plain_hid s (by omega) P hP
      have hPs : P.size = s.size := by rw [← lsize, hP, List.length_map, lsize]
      have CE : Hid (∀ R : ByteArray, R.data.toList = s.data.toList.map plB ++ fill s.size → ∀ W, Calls Tryd.prog 10 #[.string U] W fun e w' => e = .returned (.string R) ∧ Below W.heap.size W w') := Lib.hid fun R hR W => encode_any U (by omega) R (by rw [hR, hen]) W
      have HP := Lib.hid hP
      clear hs hb hU hdec hen hP
      go_enter Tryd.func6, Tryd.ntmps6
      go_wp2_with fail
      with_reducible refine (C1.out _).mono ?_
      rintro e w1 ⟨rfl, B1⟩
      go_wp2_with fail
      with_reducible refine (C2.out _).mono ?_
      rintro e w2 ⟨rfl, b2⟩
      have B2 := B1.trans (b2.mono B1.size)
      clear b2 B1 C1 C2
      have HPS := Lib.hid hPs
      have hP2 : P.size ≤ 2000 := by omega
      clear hPs
      go_wp2
      go_loop [5] (fun o => ∃ (j : Nat) (R : ByteArray), j ≤ (4 - s.size % 4) % 4 ∧ o = .string R ∧ R.size = s.size + j ∧ Hid (R.data.toList = s.data.toList.map plB ++ List.replicate j 61)) (fun o => (4 - Lib.strSize o % 4) % 4)
      case atStart => exact ⟨0, P, Nat.zero_le _, rfl, by rw [HPS.out]; rfl, Lib.hid (by rw [HP.out]; simp)⟩
      case round =>
        obtain ⟨j, R, hj, rfl, hRs, HR⟩ := hrel
        by_cases h4 : R.size % 4 = 0
        · have g4 : ((R.size : Int) % 4 != 0) = false := by rw [bne_eq_false_iff_eq]; omega
          have C3 := Lib.hid (CE.out R (by rw [HR.out]; unfold fill; rw [← pad_at s.size j (by omega) hj]))
          clear hRs h4 CE
          go_wp2_with fail
          with_reducible refine (codes_any _).mono ?_
          rintro e w3 ⟨rfl, b3⟩
          have B3 := B2.trans (b3.mono B2.size)
          clear b3 B2
          go_wp2_with fail
          with_reducible refine (C3.out _).mono ?_
          rintro e w4 ⟨rfl, b4⟩
          have B4 := B3.trans (b4.mono B3.size)
          go_wp2
          go_ret
          exact ⟨rfl, B4⟩
        · have g4 : ((R.size : Int) % 4 != 0) = true := by rw [bne_iff_ne]; omega
          obtain ⟨R2, hR2⟩ := text_of (R.data.toList ++ [61])
          have hadd := add_to R ⟨#[61]⟩ R2 hR2 (by show R.size + 1 ≤ _; omega)
          have HR2 : Hid (R2.data.toList = s.data.toList.map plB ++ List.replicate (j + 1) 61) := Lib.hid (by
            rw [hR2, HR.out, List.append_assoc, ← List.replicate_succ'])
          have hz2 : R2.size = R.size + 1 := by rw [← lsize, hR2, List.length_append, lsize]; rfl
          have HZ := Lib.hid hz2
          have HRS := Lib.hid hRs
          have H4 := Lib.hid h4
          clear hR2 hz2 hRs h4 CE
          go_wp2
          go_round
          case rel => exact ⟨j + 1, R2, by have := HRS.out; have := H4.out; omega, rfl, by rw [HZ.out, HRS.out]; omega, HR2⟩
          case measure =>
            rw [Lib.strSize_string, Lib.strSize_string, HZ.out]
            have := H4.out
            omega

set_option maxRecDepth 100000 in
set_option maxHeartbeats 1000000 in
theorem thirds_law (a b : ByteArray) (w : World) : Calls Tryd.prog 7 #[.string a, .string b] w fun e w' => e = .returned (.bool true) ∧ Below w.heap.size w w' := by
  by_cases hout : 2000 < a.size ∨ 2000 < b.size ∨ a.size % 3 ≠ 0
  · by_cases h1 : (2000 : Int) < (a.size : Int)
    · clear hout
      go_enter Tryd.func7, Tryd.ntmps7
      go_wp2_with fail
      with_reducible refine (codes_any _).mono ?_
      rintro e w1 ⟨rfl, B1⟩
      go_wp2
      go_ret
      exact ⟨rfl, B1⟩
    by_cases h2 : (2000 : Int) < (b.size : Int)
    · clear hout
      go_enter Tryd.func7, Tryd.ntmps7
      go_wp2_with fail
      with_reducible refine (codes_any _).mono ?_
      rintro e w1 ⟨rfl, B1⟩
      go_wp2
      go_ret
      exact ⟨rfl, B1⟩
    · have h3 : ((a.size : Int) % 3 != 0) = true := by rw [bne_iff_ne]; omega
      clear hout
      go_enter Tryd.func7, Tryd.ntmps7
      go_wp2_with fail
      with_reducible refine (codes_any _).mono ?_
      rintro e w1 ⟨rfl, B1⟩
      go_wp2
      go_ret
      exact ⟨rfl, B1⟩
  · have h1 : ¬ (2000 : Int) < (a.size : Int) := by omega
    have h2 : ¬ (2000 : Int) < (b.size : Int) := by omega
    have h3 : ((a.size : Int) % 3 != 0) = false := by rw [bne_eq_false_iff_eq]; omega
    obtain ⟨R, hR⟩ := text_of (a.data.toList ++ b.data.toList)
    have hRs : R.size ≤ 4000 := by rw [← lsize, hR, List.length_append, lsize, lsize]; omega
    obtain ⟨T, hT⟩ := text_of (encM (a.data.toList ++ b.data.toList))
    obtain ⟨T1, hT1⟩ := text_of (encM a.data.toList)
    obtain ⟨T2, hT2⟩ := text_of (encM b.data.toList)
    have hTT : T.data.toList = T1.data.toList ++ T2.data.toList := by rw [hT, hT1, hT2, encM_thirds _ _ (by rw [lsize]; omega)]
    have l1 : T1.size ≤ 10000 := by
      have := encM_length a.data.toList
      rw [← hT1, lsize, lsize] at this; omega
    have l2 : T2.size ≤ 10000 := by
      have := encM_length b.data.toList
      rw [← hT2, lsize, lsize] at this; omega
    have C := encode_hid R (by omega) T (by rw [hT, hR])
    have C1 := encode_hid a (by omega) T1 hT1
    have C2 := encode_hid b (by omega) T2 hT2
    have ad1 := add_to a b R hR (by omega)
    have ad2 := add_to T1 T2 T hTT (by omega)
    clear hout hR hT hT1 hT2 hTT
    go_enter Tryd.func7, Tryd.ntmps7
    go_wp2_with fail
    with_reducible refine (codes_any _).mono ?_
    rintro e w1 ⟨rfl, B1⟩
    go_wp2_with fail
    with_reducible refine (C.out _).mono ?_
    rintro e w2 ⟨rfl, b2⟩
    have B2 := B1.trans (b2.mono B1.size)
    clear b2 B1
    go_wp2_with fail
    with_reducible refine (C1.out _).mono ?_
    rintro e w3 ⟨rfl, b3⟩
    have B3 := B2.trans (b3.mono B2.size)
    clear b3 B2
    go_wp2_with fail
    with_reducible refine (C2.out _).mono ?_
    rintro e w4 ⟨rfl, b4⟩
    have B4 := B3.trans (b4.mono B3.size)
    clear b4 B3
    go_wp2
    go_ret
    exact ⟨rfl, B4⟩

theorem one_of (T : ByteArray) (k : Nat) (h : k < T.size) : (T.extract k (k + 1)).data.toList = [T[k]] := by
  have hk : k < T.data.toList.length := by rw [lsize]; exact h
  rw [Lib.extract_eq, Nat.add_sub_cancel_left]
  have hd : T.data.toList.drop k = T[k] :: T.data.toList.drop (k + 1) := by rw [List.drop_eq_getElem_cons hk]; rfl
  rw [hd]
  rfl
set_option maxRecDepth 100000 in
set_option maxHeartbeats 1000000 in
theorem lengths_law (s : ByteArray) (w : World) : Calls Tryd.prog 8 #[.string s] w fun e w' => e = .returned (.bool true) ∧ Below w.heap.size w w' := by
  by_cases hs : 2000 < s.size
  · have hz : (2000 : Int) < (s.size : Int) := by omega
    clear hs
    go_enter Tryd.func8, Tryd.ntmps8
    go_wp2
    go_ret
    exact ⟨rfl, Below.refl _ _⟩
  · have hz : ¬ (2000 : Int) < (s.size : Int) := by omega
    obtain ⟨T, hT⟩ := text_of (encM s.data.toList)
    have C1 := encode_hid s (by omega) T hT
    have hl := encM_length s.data.toList
    obtain ⟨q1, q2, q3⟩ := encM_counts s.data.toList
    have hat : Hid (∀ j, (h : j < T.size) → (j < (encN s.data.toList).length ∧ T[j] ≠ 61 ∧ formM [T[j]] = true) ∨ ((encN s.data.toList).length ≤ j ∧ T[j] = 61)) := Lib.hid fun j h => by
      refine encM_at s.data.toList j T[j] ?_
      rw [← hT, List.getElem?_eq_getElem (by rw [lsize]; exact h)]; rfl
    rw [← hT, lsize] at hl q1 q2 q3
    rw [lsize] at hl q3
    generalize (encN s.data.toList).length = E at *
    have hlz : ((T.size : Int) == ((s.size : Int) + 2) / 3 * 4) = true := by rw [beq_iff_eq]; omega
    have hTs : T.size ≤ 10000 := by omega
    have HQ : Hid (E ≤ T.size ∧ T.size - E ≤ 2 ∧ (s.size + (T.size - E)) % 3 = 0) := Lib.hid ⟨q1, q2, q3⟩
    clear hs hT hl q1 q2 q3
    go_enter Tryd.func8, Tryd.ntmps8
    go_wp2_with fail
    with_reducible refine (C1.out _).mono ?_
    rintro e w1 ⟨rfl, B1⟩
    clear C1
    go_wp2
    go_loopw [4, 5] (fun n i wr => ∃ k N : Nat, k ≤ T.size ∧ i = .int .i64 k ∧ n = .int .i64 N ∧ N = k - E ∧ Below w.heap.size w wr) (fun _ i _ => T.size - (intOf i).toNat)
    case atStart => exact ⟨0, 0, Nat.zero_le _, rfl, rfl, by omega, B1⟩
    case round =>
      obtain ⟨k, N, hk, rfl, rfl, hN, hb⟩ := hrel
      by_cases hlt : k < T.size
      · rcases hat.out k hlt with ⟨h1, h2, h3⟩ | ⟨h1, h2⟩
        · have g1 : ((T[k].toNat : Int) == 61) = false := by
            rw [beq_eq_false_iff_ne]; exact fun h => h2 (byte_is (d := 61) h)
          have hN0 : N = 0 := by omega
          clear hN
          subst hN0
          have C2 := form_hid (T.extract k (k + 1)) (by rw [← lsize, one_of T k hlt]; simp) true (by rw [one_of T k hlt]; exact h3)
          have hsl0 := slice_lh T k (k + 1) (by omega) (by omega)
          have hsl : ∀ W, (Instr.slice 9 (.string T) (some (.int .i64 (k : Int))) (some (.int .i64 ((k : Int) + 1))) none).run Tryd.prog W = .ok (.string (T.extract k (k + 1))) W := hsl0
          generalize T.extract k (k + 1) = O at *
          clear h2 h3 hsl0
          go_wp2_with fail
          with_reducible refine (C2.out _).mono ?_
          rintro e wr ⟨rfl, rfl⟩
          go_wp2
          go_roundw
          case rel => exact ⟨k + 1, 0, by omega, by go_num, rfl, by omega, hb⟩
          case measure => simp [intOf]; omega
        · have g1 : ((T[k].toNat : Int) == 61) = true := by rw [h2]; rfl
          have HN := Lib.hid hN
          have hN4 : N ≤ 10000 := by omega
          clear h2 hN
          go_wp2
          go_roundw
          case rel => exact ⟨k + 1, N + 1, by omega, by go_num, by go_num, by have := HN.out; omega, hb⟩
          case measure => simp [intOf]; omega
      · obtain rfl : k = T.size := by omega
        obtain ⟨q1, q2, q3⟩ := HQ.out
        have y1 : (N : Int) ≤ 2 := by omega
        have y2 : (((s.size : Int) + (N : Int)) % 3 == 0) = true := by rw [beq_iff_eq]; omega
        clear q1 q2 q3 hN
        go_wp2_with fail
        with_reducible refine (codes_any _).mono ?_
        rintro e w3 ⟨rfl, b3⟩
        have B3 := hb.trans (b3.mono hb.size)
        go_wp2
        go_ret
        exact ⟨rfl, B3⟩

end Go.Proofs.YteagchgoiofjgaaDoor
