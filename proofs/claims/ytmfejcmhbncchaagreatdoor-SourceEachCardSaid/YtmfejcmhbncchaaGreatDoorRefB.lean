/- Schemes, hosts, paths that are clean, what stands behind a scheme that is not ranked: the document's. -/
import Derived.Test.YtmfejcmhbncchaaGreatDoorRefA
namespace Go.Proofs.YtmfejcmhbncchaaGreatDoor
open Go.RowKit

set_option maxRecDepth 100000 in
set_option maxHeartbeats 1000000 in
theorem refScheme_any (s : ByteArray) (hs : s.size ≤ 1099511627776) (w : World) : Calls Tryz.prog 36 #[.string s] w fun e w' => e = .returned (.bool (schM s.data.toList)) ∧ w' = w := by
  by_cases h0 : s.size = 0
  · have hl : s.data.toList = [] := List.length_eq_zero_iff.1 (by rw [lsize]; exact h0)
    have g : s.toList.isEmpty = true := by rw [text_empty, hl]; rfl
    rw [hl]
    clear hl
    go_enter Tryz.func36, Tryz.ntmps36
    go_wp2
    go_ret
    exact ⟨rfl, rfl⟩
  have hpos : 0 < s.size := by omega
  obtain ⟨b0, l0, hbl⟩ : ∃ b l, s.data.toList = b :: l := by
    cases h : s.data.toList with
    | nil => rw [← lsize, h] at hpos; cases hpos
    | cons b l => exact ⟨b, l, rfl⟩
  have g : s.toList.isEmpty = false := by rw [text_empty, hbl]; rfl
  have hb0 : s[0] = b0 := by
    obtain ⟨b, h1, _, h3⟩ := at_b hpos
    rw [hbl] at h1; simp at h1; rw [h3, h1]
  have hlen : l0.length + 1 = s.size := by rw [← lsize s, hbl]; rfl
  have hm : schM s.data.toList = (decide (s.size ≤ 20) && small s[0] && s.data.toList.all schB) := by
    rw [hb0, hbl]
    show (decide (l0.length < 20) && small b0 && (b0 :: l0).all schB) = _
    congr 2
    rw [decide_eq_decide]; omega
  clear hbl hb0 hlen
  by_cases h5 : 20 < (s.size : Int)
  · have e : schM s.data.toList = false := by rw [hm, decide_eq_false (by omega)]; rfl
    rw [e]
    clear hm e
    go_enter Tryz.func36, Tryz.ntmps36
    go_wp2
    go_ret
    exact ⟨rfl, rfl⟩
  rw [decide_eq_true (by omega)] at hm
  cases hsm : small s[0]
  · have C := letter_hid s[0] false hsm
    have e : schM s.data.toList = false := by rw [hm, hsm]; rfl
    rw [e]
    clear hm e hsm
    go_enter Tryz.func36, Tryz.ntmps36
    go_wp2_with (go_at_call 62; refine (C.out _).mono ?_; rintro e w' ⟨rfl, rfl⟩)
    go_ret
    exact ⟨rfl, rfl⟩
  have C0 := letter_hid s[0] true hsm
  rw [hsm] at hm
  have HM : Hid (schM s.data.toList = s.data.toList.all schB) := Lib.hid hm
  clear hm hsm
  go_enter Tryz.func36, Tryz.ntmps36
  go_wp2_with (go_at_call 62; refine (C0.out _).mono ?_; rintro e w' ⟨rfl, rfl⟩)
  clear C0
  go_loop [3, 4] (fun i _ => ∃ k : Nat, k ≤ s.size ∧ i = .int .i64 k ∧ Hid ((s.data.toList.take k).all schB = true)) (fun i _ => s.size - (intOf i).toNat)
  case atStart => exact ⟨0, by omega, rfl, Lib.hid rfl⟩
  case round =>
    obtain ⟨k, hk, rfl, HS⟩ := hrel
    by_cases hlt : k < s.size
    · have hst := all_step schB hlt HS.out
      have hB : schB s[k] = (small s[k] || digit s[k] || s[k] == 43 || s[k] == 45 || s[k] == 46) := rfl
      cases h1 : small s[k]
      · cases h2 : digit s[k]
        · have C1 := letter_hid s[k] false h1
          have C2 := refDigit_hid s[k] false h2
          have e1 := int_beq s[k] 43
          have e2 := int_beq s[k] 45
          have e3 := int_beq s[k] 46
          rw [h1, h2, ← e1, ← e2, ← e3] at hB
          change schB s[k] = (false || false || ((s[k].toNat : Int) == 43) || ((s[k].toNat : Int) == 45) || ((s[k].toNat : Int) == 46)) at hB
          clear e1 e2 e3 h1 h2
          cases g1 : ((s[k].toNat : Int) == 43)
          · cases g2 : ((s[k].toNat : Int) == 45)
            · cases g3 : ((s[k].toNat : Int) == 46)
              · have p1 : ((s[k].toNat : Int) != 43) = true := by simpa using g1
                have p2 : ((s[k].toNat : Int) != 45) = true := by simpa using g2
                have p3 : ((s[k].toNat : Int) != 46) = true := by simpa using g3
                rw [g1, g2, g3] at hB
                have HR : Hid (false = schM s.data.toList) := Lib.hid (by rw [HM.out, hst.2 hB])
                clear hst hB
                go_wp2_with (first | (go_at_call 62; refine (C1.out _).mono ?_; rintro e w' ⟨rfl, rfl⟩) | (go_at_call 63; refine (C2.out _).mono ?_; rintro e w' ⟨rfl, rfl⟩))
                go_ret
                exact ⟨ret_bool HR.out, rfl⟩
              · have p1 : ((s[k].toNat : Int) != 43) = true := by simpa using g1
                have p2 : ((s[k].toNat : Int) != 45) = true := by simpa using g2
                have p3 : ((s[k].toNat : Int) != 46) = false := by simpa using g3
                rw [g1, g2, g3] at hB
                have HR := Lib.hid (hst.1 hB)
                clear hst hB
                go_wp2_with (first | (go_at_call 62; refine (C1.out _).mono ?_; rintro e w' ⟨rfl, rfl⟩) | (go_at_call 63; refine (C2.out _).mono ?_; rintro e w' ⟨rfl, rfl⟩))
                go_round
                case rel => exact ⟨k + 1, by omega, by go_num, HR⟩
                case measure => simp [intOf]; omega
            · have p1 : ((s[k].toNat : Int) != 43) = true := by simpa using g1
              have p2 : ((s[k].toNat : Int) != 45) = false := by simpa using g2
              rw [g1, g2] at hB
              have HR := Lib.hid (hst.1 (by rw [hB]; rfl))
              clear hst hB
              go_wp2_with (first | (go_at_call 62; refine (C1.out _).mono ?_; rintro e w' ⟨rfl, rfl⟩) | (go_at_call 63; refine (C2.out _).mono ?_; rintro e w' ⟨rfl, rfl⟩))
              go_round
              case rel => exact ⟨k + 1, by omega, by go_num, HR⟩
              case measure => simp [intOf]; omega
          · have p1 : ((s[k].toNat : Int) != 43) = false := by simpa using g1
            rw [g1] at hB
            have HR := Lib.hid (hst.1 (by rw [hB]; rfl))
            clear hst hB
            go_wp2_with (first | (go_at_call 62; refine (C1.out _).mono ?_; rintro e w' ⟨rfl, rfl⟩) | (go_at_call 63; refine (C2.out _).mono ?_; rintro e w' ⟨rfl, rfl⟩))
            go_round
            case rel => exact ⟨k + 1, by omega, by go_num, HR⟩
            case measure => simp [intOf]; omega
        · have C1 := letter_hid s[k] false h1
          have C2 := refDigit_hid s[k] true h2
          have HR := Lib.hid (hst.1 (by rw [hB, h1, h2]; rfl))
          clear hst hB h1 h2
          go_wp2_with (first | (go_at_call 62; refine (C1.out _).mono ?_; rintro e w' ⟨rfl, rfl⟩) | (go_at_call 63; refine (C2.out _).mono ?_; rintro e w' ⟨rfl, rfl⟩))
          go_round
          case rel => exact ⟨k + 1, by omega, by go_num, HR⟩
          case measure => simp [intOf]; omega
      · have C1 := letter_hid s[k] true h1
        have HR := Lib.hid (hst.1 (by rw [hB, h1]; rfl))
        clear hst hB h1
        go_wp2_with (go_at_call 62; refine (C1.out _).mono ?_; rintro e w' ⟨rfl, rfl⟩)
        go_round
        case rel => exact ⟨k + 1, by omega, by go_num, HR⟩
        case measure => simp [intOf]; omega
    · obtain rfl : k = s.size := by omega
      have HR : Hid (true = schM s.data.toList) := Lib.hid (by
        have := HS.out
        rw [take_all] at this; rw [HM.out, this])
      go_wp2
      go_ret
      exact ⟨ret_bool HR.out, rfl⟩
theorem refScheme_hid (s : ByteArray) (b : Bool) (h : schM s.data.toList = b) (hs : s.size ≤ 1099511627776) : Hid (∀ W, Calls Tryz.prog 36 #[.string s] W fun e w' => e = .returned (.bool b) ∧ w' = W) :=
  Lib.hid fun W => by rw [← h]; exact refScheme_any s hs W


/-! Hosts. -/
theorem hostR_last (p : Bool) (l : List UInt8) : hostR p (l ++ [46]) = false := by
  induction l generalizing p with
  | nil => simp [hostR, dot]
  | cons b l ih =>
    rw [List.cons_append]
    unfold hostR
    rw [ih true, ih false]
    split <;> simp
/-- Was a point, or nothing, ahead of a place? -/
def pv (l : List UInt8) : Nat → Bool
  | 0 => true
  | k + 1 => (l[k]?.map dot).getD false
theorem pv_succ (s : ByteArray) (k : Nat) (h : k < s.size) : pv s.data.toList (k + 1) = dot s[k] := by
  obtain ⟨b, h1, _, h3⟩ := at_b h
  show (s.data.toList[k]?.map dot).getD false = _
  rw [h1, h3]; rfl
theorem drop_step (s : ByteArray) (k : Nat) (h : k < s.size) : s.data.toList.drop k = s[k] :: s.data.toList.drop (k + 1) := by
  obtain ⟨b, h1, _, h3⟩ := at_b h
  rw [drop_cons h1, h3]

set_option maxRecDepth 100000 in
set_option maxHeartbeats 2000000 in
theorem refHost_any (s : ByteArray) (hs : s.size ≤ 1099511627776) (w : World) : Calls Tryz.prog 64 #[.string s] w fun e w' => e = .returned (.bool (hostM s.data.toList)) ∧ w' = w := by
  have hM : hostM s.data.toList = (decide (s.size ≤ 100) && hostR true s.data.toList) := by rw [hostM_R, lsize]
  by_cases h0 : (s.size : Int) < 1
  · have e : hostM s.data.toList = false := by
      have hl : s.data.toList = [] := List.length_eq_zero_iff.1 (by rw [lsize]; omega)
      rw [hM, hl]; simp [hostR]
    rw [e]
    clear hM e
    go_enter Tryz.func64, Tryz.ntmps64
    go_wp2
    go_ret
    exact ⟨rfl, rfl⟩
  by_cases h1 : 100 < (s.size : Int)
  · have e : hostM s.data.toList = false := by rw [hM, decide_eq_false (by omega)]; rfl
    rw [e]
    clear hM e
    go_enter Tryz.func64, Tryz.ntmps64
    go_wp2
    go_ret
    exact ⟨rfl, rfl⟩
  rw [decide_eq_true (by omega), Bool.true_and] at hM
  have hpos : 0 < s.size := by omega
  obtain ⟨m, hm⟩ : ∃ m, s.size = m + 1 := ⟨s.size - 1, by omega⟩
  have hlm : m < s.size := by omega
  cases g1 : ((s[0].toNat : Int) == 46)
  case true =>
    have e : hostM s.data.toList = false := by
      have h2 : s[0] = 46 := byte_is (d := 46) (by simpa using g1)
      have h3 := drop_step s 0 hpos
      rw [List.drop_zero] at h3
      rw [hM, h3, h2]; rfl
    rw [e]
    clear hM e
    go_enter Tryz.func64, Tryz.ntmps64
    go_wp2
    go_ret
    exact ⟨rfl, rfl⟩
  have hix : (s.size : Int) - 1 = (m : Int) := by omega
  cases g2 : ((s[m].toNat : Int) == 46)
  case true =>
    have e : hostM s.data.toList = false := by
      have h2 : s[m] = 46 := byte_is (d := 46) (by simpa using g2)
      have h3 : s.data.toList = s.data.toList.take m ++ [46] := by
        have := take_snoc hlm
        rw [h2] at this
        rw [← this, List.take_of_length_le (by rw [lsize]; omega)]
      rw [hM, h3, hostR_last]
    rw [e]
    clear hM e
    go_enter Tryz.func64, Tryz.ntmps64
    go_wp2
    go_ret
    exact ⟨rfl, rfl⟩
  have HM := Lib.hid hM
  have HL : Hid (pv s.data.toList s.size = false) := Lib.hid (by
    rw [hm, pv_succ s m hlm]
    have := int_beq s[m] 46
    show (s[m] == 46) = false
    rw [← this]; exact g2)
  have H0 : Hid (dot s[0] = false) := Lib.hid (by
    show (s[0] == 46) = false
    rw [← int_beq s[0] 46]; exact g1)
  clear hM
  go_enter Tryz.func64, Tryz.ntmps64
  go_wp2
  go_loop [3, 4] (fun i _ => ∃ k : Nat, k ≤ s.size ∧ i = .int .i64 k ∧ Hid (hostM s.data.toList = hostR (pv s.data.toList k) (s.data.toList.drop k))) (fun i _ => s.size - (intOf i).toNat)
  case atStart => exact ⟨0, by omega, rfl, Lib.hid HM.out⟩
  case round =>
    obtain ⟨k, hk, rfl, HS⟩ := hrel
    by_cases hlt : k < s.size
    · have hS := HS.out
      rw [drop_step s k hlt] at hS
      have hpv := pv_succ s k hlt
      have hnb : nameB s[k] = (small s[k] || digit s[k] || s[k] == 45) := rfl
      have e45 := int_beq s[k] 45
      have e46 := int_beq s[k] 46
      have hd : dot s[k] = (s[k] == 46) := rfl
      rw [← e45] at hnb
      rw [← e46] at hd
      change nameB s[k] = (small s[k] || digit s[k] || ((s[k].toNat : Int) == 45)) at hnb
      change dot s[k] = ((s[k].toNat : Int) == 46) at hd
      have hR : hostR (pv s.data.toList k) (s[k] :: s.data.toList.drop (k + 1)) = if dot s[k] then !pv s.data.toList k && hostR true (s.data.toList.drop (k + 1)) else nameB s[k] && hostR false (s.data.toList.drop (k + 1)) := rfl
      rw [hR] at hS
      clear hR e45 e46
      cases g4 : ((s[k].toNat : Int) == 46)
      · rw [g4] at hd
        rw [hd, if_neg (by simp)] at hS
        rw [hd] at hpv
        cases h1 : small s[k]
        · cases h2 : digit s[k]
          · have C1 := letter_hid s[k] false h1
            have C2 := refDigit_hid s[k] false h2
            have n2 : ((s[k].toNat : Int) != 46) = true := by rw [bne, g4]; rfl
            cases g3 : ((s[k].toNat : Int) == 45)
            · have n1 : ((s[k].toNat : Int) != 45) = true := by rw [bne, g3]; rfl
              rw [h1, h2, g3] at hnb
              have HR : Hid (false = hostM s.data.toList) := Lib.hid (by rw [hS, hnb]; rfl)
              clear hS hpv hnb hd h1 h2
              go_wp2_with (first | (go_at_call 62; refine (C1.out _).mono ?_; rintro e w' ⟨rfl, rfl⟩) | (go_at_call 63; refine (C2.out _).mono ?_; rintro e w' ⟨rfl, rfl⟩))
              go_ret
              exact ⟨ret_bool HR.out, rfl⟩
            · have n1 : ((s[k].toNat : Int) != 45) = false := by rw [bne, g3]; rfl
              rw [h1, h2, g3] at hnb
              have HR : Hid (hostM s.data.toList = hostR (pv s.data.toList (k + 1)) (s.data.toList.drop (k + 1))) := Lib.hid (by rw [hpv, hS, hnb]; rfl)
              clear hS hpv hnb hd h1 h2
              go_wp2_with (first | (go_at_call 62; refine (C1.out _).mono ?_; rintro e w' ⟨rfl, rfl⟩) | (go_at_call 63; refine (C2.out _).mono ?_; rintro e w' ⟨rfl, rfl⟩))
              go_round
              case rel => exact ⟨k + 1, by omega, by go_num, HR⟩
              case measure => simp [intOf]; omega
          · have C1 := letter_hid s[k] false h1
            have C2 := refDigit_hid s[k] true h2
            rw [h1, h2] at hnb
            have HR : Hid (hostM s.data.toList = hostR (pv s.data.toList (k + 1)) (s.data.toList.drop (k + 1))) := Lib.hid (by rw [hpv, hS, hnb]; rfl)
            clear hS hpv hnb hd h1 h2
            go_wp2_with (first | (go_at_call 62; refine (C1.out _).mono ?_; rintro e w' ⟨rfl, rfl⟩) | (go_at_call 63; refine (C2.out _).mono ?_; rintro e w' ⟨rfl, rfl⟩))
            go_round
            case rel => exact ⟨k + 1, by omega, by go_num, HR⟩
            case measure => simp [intOf]; omega
        · have C1 := letter_hid s[k] true h1
          rw [h1] at hnb
          have HR : Hid (hostM s.data.toList = hostR (pv s.data.toList (k + 1)) (s.data.toList.drop (k + 1))) := Lib.hid (by rw [hpv, hS, hnb]; rfl)
          clear hS hpv hnb hd h1
          go_wp2_with (go_at_call 62; refine (C1.out _).mono ?_; rintro e w' ⟨rfl, rfl⟩)
          go_round
          case rel => exact ⟨k + 1, by omega, by go_num, HR⟩
          case measure => simp [intOf]; omega
      · rw [g4] at hd
        rw [hd, if_pos rfl] at hS
        rw [hd] at hpv
        have hc46 : s[k] = 46 := byte_is (d := 46) (by simpa using g4)
        have C1 := letter_hid s[k] false (by rw [hc46]; rfl)
        have C2 := refDigit_hid s[k] false (by rw [hc46]; rfl)
        have n1 : ((s[k].toNat : Int) != 45) = true := by rw [hc46]; rfl
        have n2 : ((s[k].toNat : Int) != 46) = false := by rw [bne, g4]; rfl
        cases k with
        | zero =>
          exfalso
          have := H0.out
          rw [hd] at this; cases this
        | succ j =>
          have hj : j < s.size := by omega
          rw [pv_succ s j hj] at hS
          have hdj : dot s[j] = ((s[j].toNat : Int) == 46) := (int_beq s[j] 46).symm
          rw [hdj] at hS
          clear hc46 hdj hnb hd
          cases g5 : ((s[j].toNat : Int) == 46)
          · rw [g5] at hS
            have HR : Hid (hostM s.data.toList = hostR (pv s.data.toList (j + 1 + 1)) (s.data.toList.drop (j + 1 + 1))) := Lib.hid (by rw [hpv, hS]; rfl)
            clear hS hpv
            go_wp2_with (first | (go_at_call 62; refine (C1.out _).mono ?_; rintro e w' ⟨rfl, rfl⟩) | (go_at_call 63; refine (C2.out _).mono ?_; rintro e w' ⟨rfl, rfl⟩))
            go_round
            case rel => exact ⟨j + 1 + 1, by omega, by go_num, HR⟩
            case measure => simp [intOf]; omega
          · rw [g5] at hS
            have HR : Hid (false = hostM s.data.toList) := Lib.hid (by rw [hS]; rfl)
            clear hS hpv
            go_wp2_with (first | (go_at_call 62; refine (C1.out _).mono ?_; rintro e w' ⟨rfl, rfl⟩) | (go_at_call 63; refine (C2.out _).mono ?_; rintro e w' ⟨rfl, rfl⟩))
            go_ret
            exact ⟨ret_bool HR.out, rfl⟩
    · obtain rfl : k = s.size := by omega
      have HR : Hid (true = hostM s.data.toList) := Lib.hid (by
        rw [HS.out, HL.out, ← lsize, List.drop_length]; rfl)
      go_wp2
      go_ret
      exact ⟨ret_bool HR.out, rfl⟩
theorem refHost_hid (s : ByteArray) (b : Bool) (h : hostM s.data.toList = b) (hs : s.size ≤ 1099511627776) : Hid (∀ W, Calls Tryz.prog 64 #[.string s] W fun e w' => e = .returned (.bool b) ∧ w' = W) :=
  Lib.hid fun W => by rw [← h]; exact refHost_any s hs W

end Go.Proofs.YtmfejcmhbncchaaGreatDoor
