/- Signs, numbers, schemes, names, queries: the program's. -/
import Derived.Test.YtaldjkbnngeahaaGreatDoorWalkA
namespace Go.Proofs.YtaldjkbnngeahaaGreatDoor
open Go.RowKit

theorem small_any (c : UInt8) (w : World) : Calls Tryz.prog 127 #[.int .u8 (c.toNat : Int)] w fun e w' => e = .returned (.bool (small c)) ∧ w' = w := by
  have hb : c.toNat ≤ 255 := by have := c.toNat_lt; omega
  by_cases h1 : 97 ≤ (c.toNat : Int)
  · by_cases h2 : (c.toNat : Int) ≤ 122
    · have e : small c = true := decide_eq_true ⟨by omega, by omega⟩
      rw [e]
      clear e
      go_enter Tryz.func127, Tryz.ntmps127
      go_wp2
      go_ret
      exact ⟨rfl, rfl⟩
    · have e : small c = false := decide_eq_false (by omega)
      rw [e]
      clear e
      go_enter Tryz.func127, Tryz.ntmps127
      go_wp2
      go_ret
      exact ⟨rfl, rfl⟩
  · have e : small c = false := decide_eq_false (by omega)
    rw [e]
    clear e
    go_enter Tryz.func127, Tryz.ntmps127
    go_wp2
    go_ret
    exact ⟨rfl, rfl⟩
theorem digit_any (c : UInt8) (w : World) : Calls Tryz.prog 128 #[.int .u8 (c.toNat : Int)] w fun e w' => e = .returned (.bool (digit c)) ∧ w' = w := by
  have hb : c.toNat ≤ 255 := by have := c.toNat_lt; omega
  by_cases h1 : 48 ≤ (c.toNat : Int)
  · by_cases h2 : (c.toNat : Int) ≤ 57
    · have e : digit c = true := decide_eq_true ⟨by omega, by omega⟩
      rw [e]
      clear e
      go_enter Tryz.func128, Tryz.ntmps128
      go_wp2
      go_ret
      exact ⟨rfl, rfl⟩
    · have e : digit c = false := decide_eq_false (by omega)
      rw [e]
      clear e
      go_enter Tryz.func128, Tryz.ntmps128
      go_wp2
      go_ret
      exact ⟨rfl, rfl⟩
  · have e : digit c = false := decide_eq_false (by omega)
    rw [e]
    clear e
    go_enter Tryz.func128, Tryz.ntmps128
    go_wp2
    go_ret
    exact ⟨rfl, rfl⟩
theorem small_hid (c : UInt8) (b : Bool) (h : small c = b) : Hid (∀ W, Calls Tryz.prog 127 #[.int .u8 (c.toNat : Int)] W fun e w' => e = .returned (.bool b) ∧ w' = W) := Lib.hid fun W => by rw [← h]; exact small_any c W
theorem digit_hid (c : UInt8) (b : Bool) (h : digit c = b) : Hid (∀ W, Calls Tryz.prog 128 #[.int .u8 (c.toNat : Int)] W fun e w' => e = .returned (.bool b) ∧ w' = W) := Lib.hid fun W => by rw [← h]; exact digit_any c W

theorem at_b {s : ByteArray} {k : Nat} (h : k < s.size) : ∃ b, s.data.toList[k]? = some b ∧ s.data.toList[k]'(by rw [lsize]; exact h) = b ∧ s[k] = b := ⟨s[k], by rw [List.getElem?_eq_getElem (by rw [lsize]; exact h)]; rfl, rfl, rfl⟩
theorem take_snoc {s : ByteArray} {k : Nat} (h : k < s.size) : s.data.toList.take (k + 1) = s.data.toList.take k ++ [s[k]] := by
  rw [List.take_succ_eq_append_getElem (by simpa using h)]; rfl
theorem take_all (s : ByteArray) : s.data.toList.take s.size = s.data.toList := List.take_of_length_le (by rw [lsize]; exact Nat.le_refl _)
theorem all_step {s : ByteArray} {k : Nat} (p : UInt8 → Bool) (h : k < s.size) (h1 : (s.data.toList.take k).all p = true) : (p s[k] = true → (s.data.toList.take (k + 1)).all p = true) ∧ (p s[k] = false → s.data.toList.all p = false) := by
  constructor
  · intro hp
    rw [take_snoc h, List.all_append, h1]; simp [hp]
  · intro hp
    rw [List.all_eq_false]
    exact ⟨s[k], List.getElem_mem (by rw [lsize]; exact h), by rw [hp]; simp⟩
theorem indexByte_mem (l : List UInt8) (c : UInt8) : (l.contains c = true ∧ 0 ≤ Lib.indexByte l c) ∨ (l.contains c = false ∧ Lib.indexByte l c = -1) := by
  induction l with
  | nil => exact .inr ⟨rfl, rfl⟩
  | cons b l ih =>
    unfold Lib.indexByte
    cases hb : (b == c)
    · have hb' : (c == b) = false := by rw [Bool.eq_false_iff] at hb ⊢; intro h; exact hb (by rw [eq_of_beq h]; simp)
      simp only [List.contains_cons, hb', Bool.false_or, Bool.false_eq_true, if_false]
      rcases ih with ⟨h1, h2⟩ | ⟨h1, h2⟩
      · left
        refine ⟨h1, ?_⟩
        rw [if_neg (by simp; omega)]; omega
      · right
        refine ⟨h1, ?_⟩
        rw [h2]; rfl
    · left
      have := eq_of_beq hb
      subst this
      simp
theorem indexByte_hid (t : ByteArray) (c : UInt8) (n : Int) (hn : Lib.indexByte t.data.toList c = n) : Hid (∀ W, Calls Tryz.prog 129 #[.string t, .int .u8 (c.toNat : Int)] W fun e w' => e = .returned (.int .i64 n) ∧ w' = W) :=
  Lib.hid fun W => by
    have h := Tryz.strings_IndexByte t (c.toNat : Int) W
    have e : ((c.toNat : Int)).toNat.toUInt8 = c := by simp
    rw [e] at h
    rw [← hn]
    exact h

set_option maxRecDepth 100000 in
set_option maxHeartbeats 1000000 in
theorem within_any (f : Nat) (t s : ByteArray) (hs : s.size ≤ 1099511627776) (w : World) : Calls Tryz.prog 104 #[.string s, .int .u8 (f : Int), .string t] w fun e w' => e = .returned (.bool (within f t.data.toList s.data.toList)) ∧ w' = w := by
  go_enter Tryz.func104, Tryz.ntmps104
  go_wp2
  go_loop [7, 8, 11] (fun _ _ i => ∃ k : Nat, k ≤ s.size ∧ i = .int .i64 k ∧ Hid ((s.data.toList.take k).all (inB f t.data.toList) = true)) (fun _ _ i => s.size - (intOf i).toNat)
  case atStart => exact ⟨0, by omega, rfl, Lib.hid rfl⟩
  case round =>
    obtain ⟨k, hk, rfl, HS⟩ := hrel
    by_cases hlt : k < s.size
    · obtain ⟨n, hn⟩ : ∃ n, Lib.indexByte t.data.toList s[k] = n := ⟨_, rfl⟩
      have C := indexByte_hid t s[k] n hn
      have hm := indexByte_mem t.data.toList s[k]
      rw [hn] at hm
      have hst := all_step (inB f t.data.toList) hlt HS.out
      have hin : inB f t.data.toList s[k] = (decide (f ≤ s[k].toNat ∧ s[k].toNat ≤ 126) && !t.data.toList.contains s[k]) := rfl
      by_cases h1 : (s[k].toNat : Int) < (f : Int)
      · have HR : Hid (false = within f t.data.toList s.data.toList) := Lib.hid (by
          refine (hst.2 ?_).symm
          rw [hin, decide_eq_false (by omega)]; rfl)
        clear hn hm hst hin
        go_wp2_with (go_at_call 129; refine (C.out _).mono ?_; rintro e w' ⟨rfl, rfl⟩)
        go_ret
        exact ⟨ret_bool HR.out, rfl⟩
      by_cases h2 : 126 < (s[k].toNat : Int)
      · have HR : Hid (false = within f t.data.toList s.data.toList) := Lib.hid (by
          refine (hst.2 ?_).symm
          rw [hin, decide_eq_false (by omega)]; rfl)
        clear hn hm hst hin
        go_wp2_with (go_at_call 129; refine (C.out _).mono ?_; rintro e w' ⟨rfl, rfl⟩)
        go_ret
        exact ⟨ret_bool HR.out, rfl⟩
      rcases hm with ⟨hc, h0⟩ | ⟨hc, h0⟩
      · have HR : Hid (false = within f t.data.toList s.data.toList) := Lib.hid (by
          refine (hst.2 ?_).symm
          rw [hin, hc]; simp)
        clear hn hst hin hc
        go_wp2_with (go_at_call 129; refine (C.out _).mono ?_; rintro e w' ⟨rfl, rfl⟩)
        go_ret
        exact ⟨ret_bool HR.out, rfl⟩
      · have HR := Lib.hid (hst.1 (by rw [hin, hc, decide_eq_true (by omega)]; rfl))
        have hneg : ¬ (0 : Int) ≤ n := by omega
        clear hn hst hin hc h0
        go_wp2_with (go_at_call 129; refine (C.out _).mono ?_; rintro e w' ⟨rfl, rfl⟩)
        go_round
        case rel => exact ⟨k + 1, by omega, by go_num, HR⟩
        case measure => simp [intOf]; omega
    · obtain rfl : k = s.size := by omega
      have HR : Hid (true = within f t.data.toList s.data.toList) := Lib.hid (by
        have := HS.out
        rw [take_all] at this; exact this.symm)
      go_wp2
      go_ret
      exact ⟨ret_bool HR.out, rfl⟩
theorem within_hid (f : Nat) (t s : ByteArray) (b : Bool) (h : within f t.data.toList s.data.toList = b) (hs : s.size ≤ 1099511627776) : Hid (∀ W, Calls Tryz.prog 104 #[.string s, .int .u8 (f : Int), .string t] W fun e w' => e = .returned (.bool b) ∧ w' = W) :=
  Lib.hid fun W => by rw [← h]; exact within_any f t s hs W

theorem text_lit (s : ByteArray) (l : List UInt8) : (s.toList == l) = decide (s.data.toList = l) := by
  rw [ByteArray.toList_eq, Bool.eq_iff_iff]
  simp
set_option maxRecDepth 100000 in
theorem default_any (s : ByteArray) (w : World) : Calls Tryz.prog 99 #[.string s] w fun e w' => e = .returned (.int .i64 (dfl s.data.toList : Int)) ∧ w' = w := by
  have g1 : (s.toList == [104, 116, 116, 112]) = decide (s.data.toList = HTTP) := text_lit _ _
  have g2 : (s.toList == [119, 115]) = decide (s.data.toList = WS) := text_lit _ _
  have g3 : (s.toList == [104, 116, 116, 112, 115]) = decide (s.data.toList = HTTPS) := text_lit _ _
  have g4 : (s.toList == [119, 115, 115]) = decide (s.data.toList = WSS) := text_lit _ _
  have hd : dfl s.data.toList = if s.data.toList = HTTP ∨ s.data.toList = WS then 80 else if s.data.toList = HTTPS ∨ s.data.toList = WSS then 443 else 0 := rfl
  by_cases h1 : s.data.toList = HTTP
  · rw [decide_eq_true h1] at g1
    rw [if_pos (.inl h1)] at hd
    rw [hd]
    clear g2 g3 g4 h1 hd
    go_enter Tryz.func99, Tryz.ntmps99
    go_wp2
    go_ret
    exact ⟨rfl, rfl⟩
  rw [decide_eq_false h1] at g1
  by_cases h2 : s.data.toList = WS
  · rw [decide_eq_true h2] at g2
    rw [if_pos (.inr h2)] at hd
    rw [hd]
    clear g3 g4 h1 h2 hd
    go_enter Tryz.func99, Tryz.ntmps99
    go_wp2
    go_ret
    exact ⟨rfl, rfl⟩
  rw [decide_eq_false h2] at g2
  rw [if_neg (by rintro (h | h); exact h1 h; exact h2 h)] at hd
  by_cases h3 : s.data.toList = HTTPS
  · rw [decide_eq_true h3] at g3
    rw [if_pos (.inl h3)] at hd
    rw [hd]
    clear g4 h1 h2 h3 hd
    go_enter Tryz.func99, Tryz.ntmps99
    go_wp2
    go_ret
    exact ⟨rfl, rfl⟩
  rw [decide_eq_false h3] at g3
  by_cases h4 : s.data.toList = WSS
  · rw [decide_eq_true h4] at g4
    rw [if_pos (.inr h4)] at hd
    rw [hd]
    clear h1 h2 h3 h4 hd
    go_enter Tryz.func99, Tryz.ntmps99
    go_wp2
    go_ret
    exact ⟨rfl, rfl⟩
  · rw [decide_eq_false h4] at g4
    rw [if_neg (by rintro (h | h); exact h3 h; exact h4 h)] at hd
    rw [hd]
    clear h1 h2 h3 h4 hd
    go_enter Tryz.func99, Tryz.ntmps99
    go_wp2
    go_ret
    exact ⟨rfl, rfl⟩
theorem default_hid (s : ByteArray) (n : Nat) (h : dfl s.data.toList = n) : Hid (∀ W, Calls Tryz.prog 99 #[.string s] W fun e w' => e = .returned (.int .i64 (n : Int)) ∧ w' = W) :=
  Lib.hid fun W => by rw [← h]; exact default_any s W

/-! Numbers. -/
/-! Schemes and names. -/
set_option maxRecDepth 100000 in
set_option maxHeartbeats 1000000 in
theorem scheme_any (s : ByteArray) (hs : s.size ≤ 1099511627776) (w : World) : Calls Tryz.prog 103 #[.string s] w fun e w' => e = .returned (.bool (schM s.data.toList)) ∧ w' = w := by
  by_cases h0 : s.size = 0
  · have hl : s.data.toList = [] := List.length_eq_zero_iff.1 (by rw [lsize]; exact h0)
    have g : s.toList.isEmpty = true := by rw [text_empty, hl]; rfl
    rw [hl]
    clear hl
    go_enter Tryz.func103, Tryz.ntmps103
    go_wp2
    go_ret
    exact ⟨rfl, rfl⟩
  have hpos : 0 < s.size := by omega
  obtain ⟨b0, l0, hbl⟩ : ∃ b l, s.data.toList = b :: l := by
    cases h : s.data.toList with
    | nil => rw [← lsize, h] at hpos; cases hpos
    | cons b l => exact ⟨b, l, rfl⟩
  have g : s.toList.isEmpty = false := by rw [text_empty, hbl]; rfl
  have hb0 : s[0] = b0 := by
    obtain ⟨b, h1, _, h3⟩ := at_b hpos
    rw [hbl] at h1; simp at h1; rw [h3, h1]
  have hlen : l0.length + 1 = s.size := by rw [← lsize s, hbl]; rfl
  have hm : schM s.data.toList = (decide (s.size ≤ 20) && small s[0] && s.data.toList.all schB) := by
    rw [hb0, hbl]
    show (decide (l0.length < 20) && small b0 && (b0 :: l0).all schB) = _
    congr 2
    rw [decide_eq_decide]; omega
  clear hbl hb0 hlen
  by_cases h5 : 20 < (s.size : Int)
  · have e : schM s.data.toList = false := by rw [hm, decide_eq_false (by omega)]; rfl
    rw [e]
    clear hm e
    go_enter Tryz.func103, Tryz.ntmps103
    go_wp2
    go_ret
    exact ⟨rfl, rfl⟩
  rw [decide_eq_true (by omega)] at hm
  cases hsm : small s[0]
  · have C := small_hid s[0] false hsm
    have e : schM s.data.toList = false := by rw [hm, hsm]; rfl
    rw [e]
    clear hm e hsm
    go_enter Tryz.func103, Tryz.ntmps103
    go_wp2_with (go_at_call 127; refine (C.out _).mono ?_; rintro e w' ⟨rfl, rfl⟩)
    go_ret
    exact ⟨rfl, rfl⟩
  have C0 := small_hid s[0] true hsm
  rw [hsm] at hm
  have HM : Hid (schM s.data.toList = s.data.toList.all schB) := Lib.hid hm
  clear hm hsm
  go_enter Tryz.func103, Tryz.ntmps103
  go_wp2_with (go_at_call 127; refine (C0.out _).mono ?_; rintro e w' ⟨rfl, rfl⟩)
  clear C0
  go_loop [3, 4, 20] (fun _ _ i => ∃ k : Nat, k ≤ s.size ∧ i = .int .i64 k ∧ Hid ((s.data.toList.take k).all schB = true)) (fun _ _ i => s.size - (intOf i).toNat)
  case atStart => exact ⟨0, by omega, rfl, Lib.hid rfl⟩
  case round =>
    obtain ⟨k, hk, rfl, HS⟩ := hrel
    by_cases hlt : k < s.size
    · have hst := all_step schB hlt HS.out
      have hB : schB s[k] = (small s[k] || digit s[k] || s[k] == 43 || s[k] == 45 || s[k] == 46) := rfl
      cases h1 : small s[k]
      · cases h2 : digit s[k]
        · have C1 := small_hid s[k] false h1
          have C2 := digit_hid s[k] false h2
          have e1 := int_beq s[k] 43
          have e2 := int_beq s[k] 45
          have e3 := int_beq s[k] 46
          rw [h1, h2, ← e1, ← e2, ← e3] at hB
          change schB s[k] = (false || false || ((s[k].toNat : Int) == 43) || ((s[k].toNat : Int) == 45) || ((s[k].toNat : Int) == 46)) at hB
          clear e1 e2 e3 h1 h2
          cases g1 : ((s[k].toNat : Int) == 43)
          · cases g2 : ((s[k].toNat : Int) == 45)
            · cases g3 : ((s[k].toNat : Int) == 46)
              · have p1 : ((s[k].toNat : Int) != 43) = true := by simpa using g1
                have p2 : ((s[k].toNat : Int) != 45) = true := by simpa using g2
                have p3 : ((s[k].toNat : Int) != 46) = true := by simpa using g3
                rw [g1, g2, g3] at hB
                have HR : Hid (false = schM s.data.toList) := Lib.hid (by rw [HM.out, hst.2 hB])
                clear hst hB
                go_wp2_with (first | (go_at_call 127; refine (C1.out _).mono ?_; rintro e w' ⟨rfl, rfl⟩) | (go_at_call 128; refine (C2.out _).mono ?_; rintro e w' ⟨rfl, rfl⟩))
                go_ret
                exact ⟨ret_bool HR.out, rfl⟩
              · have p1 : ((s[k].toNat : Int) != 43) = true := by simpa using g1
                have p2 : ((s[k].toNat : Int) != 45) = true := by simpa using g2
                have p3 : ((s[k].toNat : Int) != 46) = false := by simpa using g3
                rw [g1, g2, g3] at hB
                have HR := Lib.hid (hst.1 hB)
                clear hst hB
                go_wp2_with (first | (go_at_call 127; refine (C1.out _).mono ?_; rintro e w' ⟨rfl, rfl⟩) | (go_at_call 128; refine (C2.out _).mono ?_; rintro e w' ⟨rfl, rfl⟩))
                go_round
                case rel => exact ⟨k + 1, by omega, by go_num, HR⟩
                case measure => simp [intOf]; omega
            · have p1 : ((s[k].toNat : Int) != 43) = true := by simpa using g1
              have p2 : ((s[k].toNat : Int) != 45) = false := by simpa using g2
              rw [g1, g2] at hB
              have HR := Lib.hid (hst.1 (by rw [hB]; rfl))
              clear hst hB
              go_wp2_with (first | (go_at_call 127; refine (C1.out _).mono ?_; rintro e w' ⟨rfl, rfl⟩) | (go_at_call 128; refine (C2.out _).mono ?_; rintro e w' ⟨rfl, rfl⟩))
              go_round
              case rel => exact ⟨k + 1, by omega, by go_num, HR⟩
              case measure => simp [intOf]; omega
          · have p1 : ((s[k].toNat : Int) != 43) = false := by simpa using g1
            rw [g1] at hB
            have HR := Lib.hid (hst.1 (by rw [hB]; rfl))
            clear hst hB
            go_wp2_with (first | (go_at_call 127; refine (C1.out _).mono ?_; rintro e w' ⟨rfl, rfl⟩) | (go_at_call 128; refine (C2.out _).mono ?_; rintro e w' ⟨rfl, rfl⟩))
            go_round
            case rel => exact ⟨k + 1, by omega, by go_num, HR⟩
            case measure => simp [intOf]; omega
        · have C1 := small_hid s[k] false h1
          have C2 := digit_hid s[k] true h2
          have HR := Lib.hid (hst.1 (by rw [hB, h1, h2]; rfl))
          clear hst hB h1 h2
          go_wp2_with (first | (go_at_call 127; refine (C1.out _).mono ?_; rintro e w' ⟨rfl, rfl⟩) | (go_at_call 128; refine (C2.out _).mono ?_; rintro e w' ⟨rfl, rfl⟩))
          go_round
          case rel => exact ⟨k + 1, by omega, by go_num, HR⟩
          case measure => simp [intOf]; omega
      · have C1 := small_hid s[k] true h1
        have HR := Lib.hid (hst.1 (by rw [hB, h1]; rfl))
        clear hst hB h1
        go_wp2_with (go_at_call 127; refine (C1.out _).mono ?_; rintro e w' ⟨rfl, rfl⟩)
        go_round
        case rel => exact ⟨k + 1, by omega, by go_num, HR⟩
        case measure => simp [intOf]; omega
    · obtain rfl : k = s.size := by omega
      have HR : Hid (true = schM s.data.toList) := Lib.hid (by
        have := HS.out
        rw [take_all] at this; rw [HM.out, this])
      go_wp2
      go_ret
      exact ⟨ret_bool HR.out, rfl⟩
theorem scheme_hid (s : ByteArray) (b : Bool) (h : schM s.data.toList = b) (hs : s.size ≤ 1099511627776) : Hid (∀ W, Calls Tryz.prog 103 #[.string s] W fun e w' => e = .returned (.bool b) ∧ w' = W) :=
  Lib.hid fun W => by rw [← h]; exact scheme_any s hs W

set_option maxRecDepth 100000 in
set_option maxHeartbeats 1000000 in
theorem name_any (s : ByteArray) (hs : s.size ≤ 1099511627776) (w : World) : Calls Tryz.prog 125 #[.string s] w fun e w' => e = .returned (.bool (nameM s.data.toList)) ∧ w' = w := by
  have hm : nameM s.data.toList = (!s.data.toList.isEmpty && s.data.toList.all nameB) := rfl
  rw [← text_empty] at hm
  have HM : Hid (nameM s.data.toList = (!s.toList.isEmpty && s.data.toList.all nameB)) := Lib.hid hm
  clear hm
  obtain ⟨ie, hie⟩ : ∃ ie, s.toList.isEmpty = ie := ⟨_, rfl⟩
  rw [hie] at HM
  go_enter Tryz.func125, Tryz.ntmps125
  go_wp2
  go_loop [3, 4, 7] (fun _ _ i => ∃ k : Nat, k ≤ s.size ∧ i = .int .i64 k ∧ Hid ((s.data.toList.take k).all nameB = true)) (fun _ _ i => s.size - (intOf i).toNat)
  case atStart => exact ⟨0, by omega, rfl, Lib.hid rfl⟩
  case round =>
    obtain ⟨k, hk, rfl, HS⟩ := hrel
    by_cases hlt : k < s.size
    · have hst := all_step nameB hlt HS.out
      have hB : nameB s[k] = (small s[k] || digit s[k] || s[k] == 45) := rfl
      cases h1 : small s[k]
      · cases h2 : digit s[k]
        · have C1 := small_hid s[k] false h1
          have C2 := digit_hid s[k] false h2
          have e2 := int_beq s[k] 45
          rw [h1, h2, ← e2] at hB
          change nameB s[k] = (false || false || ((s[k].toNat : Int) == 45)) at hB
          clear e2 h1 h2
          cases g2 : ((s[k].toNat : Int) == 45)
          · rw [g2] at hB
            have HR : Hid (false = nameM s.data.toList) := Lib.hid (by rw [HM.out, hst.2 hB]; simp)
            clear hst hB
            go_wp2_with (first | (go_at_call 127; refine (C1.out _).mono ?_; rintro e w' ⟨rfl, rfl⟩) | (go_at_call 128; refine (C2.out _).mono ?_; rintro e w' ⟨rfl, rfl⟩))
            go_ret
            exact ⟨ret_bool HR.out, rfl⟩
          · rw [g2] at hB
            have HR := Lib.hid (hst.1 (by rw [hB]; rfl))
            clear hst hB
            go_wp2_with (first | (go_at_call 127; refine (C1.out _).mono ?_; rintro e w' ⟨rfl, rfl⟩) | (go_at_call 128; refine (C2.out _).mono ?_; rintro e w' ⟨rfl, rfl⟩))
            go_round
            case rel => exact ⟨k + 1, by omega, by go_num, HR⟩
            case measure => simp [intOf]; omega
        · have C1 := small_hid s[k] false h1
          have C2 := digit_hid s[k] true h2
          have HR := Lib.hid (hst.1 (by rw [hB, h1, h2]; rfl))
          clear hst hB h1 h2
          go_wp2_with (first | (go_at_call 127; refine (C1.out _).mono ?_; rintro e w' ⟨rfl, rfl⟩) | (go_at_call 128; refine (C2.out _).mono ?_; rintro e w' ⟨rfl, rfl⟩))
          go_round
          case rel => exact ⟨k + 1, by omega, by go_num, HR⟩
          case measure => simp [intOf]; omega
      · have C1 := small_hid s[k] true h1
        have HR := Lib.hid (hst.1 (by rw [hB, h1]; rfl))
        clear hst hB h1
        go_wp2_with (go_at_call 127; refine (C1.out _).mono ?_; rintro e w' ⟨rfl, rfl⟩)
        go_round
        case rel => exact ⟨k + 1, by omega, by go_num, HR⟩
        case measure => simp [intOf]; omega
    · obtain rfl : k = s.size := by omega
      have HR : Hid ((!ie) = nameM s.data.toList) := Lib.hid (by
        have := HS.out
        rw [take_all] at this; rw [HM.out, this, Bool.and_true])
      clear HM HS
      go_wp2
      go_ret
      exact ⟨ret_bool HR.out, rfl⟩
theorem name_hid (s : ByteArray) (b : Bool) (h : nameM s.data.toList = b) (hs : s.size ≤ 1099511627776) : Hid (∀ W, Calls Tryz.prog 125 #[.string s] W fun e w' => e = .returned (.bool b) ∧ w' = W) :=
  Lib.hid fun W => by rw [← h]; exact name_any s hs W

set_option maxRecDepth 100000 in
theorem query_any (s : ByteArray) (hs : s.size ≤ 1099511627776) (w : World) : Calls Tryz.prog 102 #[.string s] w fun e w' => e = .returned (.bool (queryM s.data.toList)) ∧ w' = w := by
  by_cases h0 : s.size = 0
  · have hl : s.data.toList = [] := List.length_eq_zero_iff.1 (by rw [lsize]; exact h0)
    have g : s.toList.isEmpty = true := by rw [text_empty, hl]; rfl
    rw [hl]
    clear hl
    go_enter Tryz.func102, Tryz.ntmps102
    go_wp2
    go_ret
    exact ⟨rfl, rfl⟩
  have hpos : 0 < s.size := by omega
  obtain ⟨b0, l0, hbl⟩ : ∃ b l, s.data.toList = b :: l := by
    cases h : s.data.toList with
    | nil => rw [← lsize, h] at hpos; cases hpos
    | cons b l => exact ⟨b, l, rfl⟩
  have g : s.toList.isEmpty = false := by rw [text_empty, hbl]; rfl
  have hb0 : s[0] = b0 := by
    obtain ⟨b, h1, _, h3⟩ := at_b hpos
    rw [hbl] at h1; simp at h1; rw [h3, h1]
  obtain ⟨wi, hwi⟩ : ∃ wi, within 33 [35] s.data.toList = wi := ⟨_, rfl⟩
  have C := within_hid 33 ⟨#[35]⟩ s wi hwi hs
  have hm : queryM s.data.toList = ((s[0] == 63) && wi) := by
    rw [← hwi, hb0, hbl]; rfl
  have e1 := int_beq s[0] 63
  rw [← e1] at hm
  change queryM s.data.toList = (((s[0].toNat : Int) == 63) && wi) at hm
  clear e1 hbl hb0 hwi
  cases g1 : ((s[0].toNat : Int) == 63)
  · rw [g1] at hm
    rw [hm]
    clear hm
    go_enter Tryz.func102, Tryz.ntmps102
    go_wp2_with (go_at_call 104; refine (C.out _).mono ?_; rintro e w' ⟨rfl, rfl⟩)
    go_ret
    exact ⟨rfl, rfl⟩
  · rw [g1] at hm
    rw [hm]
    clear hm
    go_enter Tryz.func102, Tryz.ntmps102
    go_wp2_with (go_at_call 104; refine (C.out _).mono ?_; rintro e w' ⟨rfl, rfl⟩)
    go_ret
    exact ⟨rfl, rfl⟩
theorem query_hid (s : ByteArray) (b : Bool) (h : queryM s.data.toList = b) (hs : s.size ≤ 1099511627776) : Hid (∀ W, Calls Tryz.prog 102 #[.string s] W fun e w' => e = .returned (.bool b) ∧ w' = W) :=
  Lib.hid fun W => by rw [← h]; exact query_any s hs W

end Go.Proofs.YtaldjkbnngeahaaGreatDoor
