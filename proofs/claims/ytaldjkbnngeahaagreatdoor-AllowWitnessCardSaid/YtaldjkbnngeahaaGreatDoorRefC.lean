/- Paths that are clean, what stands behind a scheme that is not ranked, digits, an address' text: the document's. -/
import Derived.Test.YtaldjkbnngeahaaGreatDoorRefZ
import Derived.Test.YtaldjkbnngeahaaGreatDoorWalkY
namespace Go.Proofs.YtaldjkbnngeahaaGreatDoor
open Go.RowKit

set_option maxRecDepth 100000 in
set_option maxHeartbeats 2000000 in
theorem cleanQ_any (s : ByteArray) (hs : s.size ≤ 1000000) (w : World) : Calls Tryz.prog 90 #[.string s] w fun e w' => e = .returned (.bool (pathM s.data.toList)) ∧ Below w.heap.size w w' := by
  have hm : pathM s.data.toList = (!s.data.toList.isEmpty && within 33 [63, 35] s.data.toList && decide (cleanP s.data.toList = s.data.toList)) := rfl
  obtain ⟨wi, hwi⟩ : ∃ wi, within 33 [63, 35] s.data.toList = wi := ⟨_, rfl⟩
  have CV : Hid (∀ W, Calls Tryz.prog 91 #[.string s, .int .u8 63, .int .u8 35] W fun e w' => e = .returned (.bool wi) ∧ w' = W) := visible_hid 63 35 s wi hwi (by omega)
  rw [hwi] at hm
  by_cases h0 : s.size = 0
  · have hl : s.data.toList = [] := List.length_eq_zero_iff.1 (by rw [lsize]; exact h0)
    have g : s.toList.isEmpty = true := by rw [text_empty, hl]; rfl
    have e : pathM s.data.toList = false := by rw [hm, hl]; rfl
    rw [e]
    clear hl hm e hwi
    go_enter Tryz.func90, Tryz.ntmps90
    go_wp2
    go_ret
    exact ⟨rfl, Below.refl _ _⟩
  have hpos : 0 < s.size := by omega
  obtain ⟨b0, r, hr⟩ : ∃ b l, s.data.toList = b :: l := by
    cases h : s.data.toList with
    | nil => rw [← lsize, h] at hpos; cases hpos
    | cons b l => exact ⟨b, l, rfl⟩
  have g : s.toList.isEmpty = false := by rw [text_empty, hr]; rfl
  have hb0 : s[0] = b0 := by
    obtain ⟨b, h1, _, h3⟩ := at_b hpos
    rw [hr] at h1; simp at h1; rw [h3, h1]
  cases hsl : sl b0
  · have g2 : ((s[0].toNat : Int) != 47) = true := by
      have := sl_int s[0]
      rw [hb0, hsl] at this
      rw [hb0, bne, this]; rfl
    have e : pathM s.data.toList = false := by
      have h9 : cleanP s.data.toList = [] := by rw [hr]; simp [cleanP, hsl]
      rw [hm, h9, hr]; simp
    rw [e]
    clear hm e hb0 hr hsl hwi
    go_enter Tryz.func90, Tryz.ntmps90
    go_wp2
    go_ret
    exact ⟨rfl, Below.refl _ _⟩
  have g2 : ((s[0].toNat : Int) != 47) = false := by
    have := sl_int s[0]
    rw [hb0, hsl] at this
    rw [hb0, bne, this]; rfl
  cases wi
  · have e : pathM s.data.toList = false := by rw [hm]; simp
    rw [e]
    clear hm e hb0 hr hsl hwi
    go_enter Tryz.func90, Tryz.ntmps90
    go_wp2_with (go_at_call 91; refine (CV.out _).mono ?_; rintro e w' ⟨rfl, rfl⟩)
    go_ret
    exact ⟨rfl, Below.refl _ _⟩
  have hb47 : b0 = 47 := by simpa [sl] using hsl
  have hdr : s.data.toList.drop 1 = r := by rw [hr]; rfl
  have CP := fun W => refPieces_any s hs hpos W
  rw [hdr] at CP
  obtain ⟨L, hL⟩ : ∃ L, cut sl r = L := ⟨_, rfl⟩
  rw [hL] at CP
  have hM : pathM s.data.toList = L.all (fun x => !dots x) := by
    rw [hm, hr, hb47]
    rw [Bool.eq_iff_iff]
    have := clean_iff r
    rw [hL] at this
    simp [this]
  have HM := Lib.hid hM
  have hLn : L.length ≤ 1000001 := by
    have h2 := cut_length sl r
    have h3 : r.countP sl ≤ r.length := List.countP_le_length
    have h4 : r.length + 1 = s.size := by rw [← lsize s, hr]; rfl
    rw [hL] at h2; omega
  have HCP := Lib.hid CP
  clear hm hwi hb0 hr hsl hb47 hdr CP hL hM
  go_enter Tryz.func90, Tryz.ntmps90
  go_wp2_with (go_at_call 91; refine (CV.out _).mono ?_; rintro e w ⟨rfl, rfl⟩)
  refine (HCP.out _).mono ?_
  rintro e w2 ⟨v2, rfl, hown2, hb2⟩
  obtain ⟨a9, c9, rfl⟩ : ∃ a c, v2 = .slice a L.length c := by
    rcases rowForms hown2 with ⟨rfl, h9⟩ | ⟨g, cap, rfl⟩
    · exact ⟨_, _, by rw [h9]⟩
    · exact ⟨_, _, rfl⟩
  have hcell : Hid (∀ j (h : j < L.length), ∃ g, a9 = some ⟨g, 0, none⟩ ∧ w2.cell? ⟨g, j, none⟩ = some (strV L[j])) := Lib.hid fun j h => by
    rcases rowForms hown2 with ⟨_, h9⟩ | ⟨g, cap, h9⟩
    · omega
    · obtain ⟨rfl, rfl⟩ : a9 = some ⟨g, 0, none⟩ ∧ c9 = cap := by simpa using h9
      refine ⟨g, rfl, ?_⟩
      rw [hown2.cellAt j (by omega)]
      simp [txtCells, List.getElem?_eq_getElem h]
  clear hown2 HCP CV
  go_wp2
  go_loop [4] (fun i => ∃ k : Nat, k ≤ L.length ∧ i = .int .i64 k ∧ Hid ((L.take k).all (fun x => !dots x) = true)) (fun i => L.length - (intOf i).toNat)
  case atStart => exact ⟨0, by omega, rfl, Lib.hid rfl⟩
  case round =>
    obtain ⟨k, hk, rfl, HS⟩ := hrel
    by_cases hlt : k < L.length
    · obtain ⟨gg, rfl, hc⟩ := hcell.out k hlt
      obtain ⟨X, hX⟩ := text_of L[k]
      have hc2 : w2.cell? ⟨gg, k, none⟩ = some (.string X) := by rw [hc, ← hX]; rfl
      have e1 : (X.toList == [46]) = decide (L[k] = [46]) := by rw [text_lit, hX]
      have e2 : (X.toList == [46, 46]) = decide (L[k] = [46, 46]) := by rw [text_lit, hX]
      have hst := all_prefix (fun x => !dots x) L k hlt HS.out
      have hki : (k : Int) < (L.length : Int) := by omega
      by_cases h1 : L[k] = [46]
      · rw [decide_eq_true h1] at e1
        have HR : Hid (false = pathM s.data.toList) := Lib.hid (by rw [HM.out, hst.2 (by rw [h1]; rfl)])
        clear hst h1 hc hX e2
        go_wp2
        go_ret
        exact ⟨ret_bool HR.out, hb2⟩
      by_cases h2 : L[k] = [46, 46]
      · rw [decide_eq_false h1] at e1
        rw [decide_eq_true h2] at e2
        have HR : Hid (false = pathM s.data.toList) := Lib.hid (by rw [HM.out, hst.2 (by rw [h2]; rfl)])
        clear hst h1 h2 hc hX
        go_wp2
        go_ret
        exact ⟨ret_bool HR.out, hb2⟩
      · have hdd : dots L[k] = false := by unfold dots; rw [decide_eq_false]; rintro (h | h); exact h1 h; exact h2 h
        rw [decide_eq_false h1] at e1
        rw [decide_eq_false h2] at e2
        have HR := Lib.hid (hst.1 (by rw [hdd]; rfl))
        clear hst h1 h2 hc hX hdd
        go_wp2
        go_round
        case rel => exact ⟨k + 1, by omega, by go_num, HR⟩
        case measure => simp [intOf]; omega
    · obtain rfl : k = L.length := by omega
      have HR : Hid (true = pathM s.data.toList) := Lib.hid (by
        have := HS.out
        rw [List.take_length] at this; rw [HM.out, this])
      go_wp2
      go_ret
      exact ⟨ret_bool HR.out, hb2⟩
theorem cleanQ_hid (s : ByteArray) (b : Bool) (h : pathM s.data.toList = b) (hs : s.size ≤ 1000000) : Hid (∀ W, Calls Tryz.prog 90 #[.string s] W fun e w' => e = .returned (.bool b) ∧ Below W.heap.size W w') :=
  Lib.hid fun W => by rw [← h]; exact cleanQ_any s hs W

set_option maxRecDepth 100000 in
set_option maxHeartbeats 1000000 in
theorem rest_any (s : ByteArray) (hs : s.size ≤ 1099511627776) (w : World) : Calls Tryz.prog 87 #[.string s] w fun e w' => e = .returned (.bool (within 32 [35] s.data.toList && decide (trim s.data.toList = s.data.toList))) ∧ w' = w := by
  obtain ⟨T, hT⟩ := text_of (trim s.data.toList)
  have CT := refTrim_hid s T hT hs
  have hq := text_eq T s
  rw [hT] at hq
  rw [← hq]
  obtain ⟨tb, htb⟩ : ∃ tb, (T.toList == s.toList) = tb := ⟨_, rfl⟩
  rw [htb]
  clear hq hT
  go_enter Tryz.func87, Tryz.ntmps87
  go_wp2
  go_loop [3] (fun i => ∃ k : Nat, k ≤ s.size ∧ i = .int .i64 k ∧ Hid ((s.data.toList.take k).all (inB 32 [35]) = true)) (fun i => s.size - (intOf i).toNat)
  case atStart => exact ⟨0, by omega, rfl, Lib.hid rfl⟩
  case round =>
    obtain ⟨k, hk, rfl, HS⟩ := hrel
    by_cases hlt : k < s.size
    · have hst := all_step (inB 32 [35]) hlt HS.out
      have hin : inB 32 [35] s[k] = (decide (32 ≤ s[k].toNat ∧ s[k].toNat ≤ 126) && !(s[k] == 35)) := by
        unfold inB
        simp only [List.contains_cons, List.contains_nil, Bool.or_false]
      have e1 := int_beq s[k] 35
      rw [← e1] at hin
      change inB 32 [35] s[k] = (decide (32 ≤ s[k].toNat ∧ s[k].toNat ≤ 126) && !((s[k].toNat : Int) == 35)) at hin
      clear e1
      by_cases h1 : (s[k].toNat : Int) < 32
      · have HR : Hid (false = (within 32 [35] s.data.toList && tb)) := Lib.hid (by
          have : within 32 [35] s.data.toList = false := hst.2 (by rw [hin, decide_eq_false (by omega)]; rfl)
          rw [this]; rfl)
        clear hst hin
        go_wp2
        go_ret
        exact ⟨ret_bool HR.out, rfl⟩
      by_cases h2 : 126 < (s[k].toNat : Int)
      · have HR : Hid (false = (within 32 [35] s.data.toList && tb)) := Lib.hid (by
          have : within 32 [35] s.data.toList = false := hst.2 (by rw [hin, decide_eq_false (by omega)]; rfl)
          rw [this]; rfl)
        clear hst hin
        go_wp2
        go_ret
        exact ⟨ret_bool HR.out, rfl⟩
      rw [decide_eq_true (by omega), Bool.true_and] at hin
      cases g1 : ((s[k].toNat : Int) == 35)
      · rw [g1] at hin
        have HR := Lib.hid (hst.1 hin)
        clear hst hin
        go_wp2
        go_round
        case rel => exact ⟨k + 1, by omega, by go_num, HR⟩
        case measure => simp [intOf]; omega
      · rw [g1] at hin
        have HR : Hid (false = (within 32 [35] s.data.toList && tb)) := Lib.hid (by
          have : within 32 [35] s.data.toList = false := hst.2 hin
          rw [this]; rfl)
        clear hst hin
        go_wp2
        go_ret
        exact ⟨ret_bool HR.out, rfl⟩
    · obtain rfl : k = s.size := by omega
      have HR : Hid (tb = (within 32 [35] s.data.toList && tb)) := Lib.hid (by
        have h9 : within 32 [35] s.data.toList = true := by
          have := HS.out
          rw [take_all] at this; exact this
        rw [h9]; rfl)
      go_wp2_with (go_at_call 113; refine (CT.out _).mono ?_; rintro e w ⟨rfl, rfl⟩)
      go_ret
      exact ⟨ret_bool HR.out, rfl⟩
theorem rest_hid (s : ByteArray) (b : Bool) (h : (within 32 [35] s.data.toList && decide (trim s.data.toList = s.data.toList)) = b) (hs : s.size ≤ 1099511627776) : Hid (∀ W, Calls Tryz.prog 87 #[.string s] W fun e w' => e = .returned (.bool b) ∧ w' = W) :=
  Lib.hid fun W => by rw [← h]; exact rest_any s hs W

/-! Digits. -/
set_option maxRecDepth 100000 in
set_option maxHeartbeats 2000000 in
theorem digits_any (n : Nat) (hn : n ≤ 65535) (T : ByteArray) (hT : T.data.toList = Lib.decDigits n) (w : World) : Calls Tryz.prog 114 #[.int .i64 (n : Int)] w fun e w' => e = .returned (.string T) ∧ w' = w := by
  induction n using Nat.strongRecOn generalizing T w with
  | _ n ih =>
    by_cases h10 : n < 10
    · rw [Lib.decDigits, dif_pos h10] at hT
      have hc : n = 0 ∨ n = 1 ∨ n = 2 ∨ n = 3 ∨ n = 4 ∨ n = 5 ∨ n = 6 ∨ n = 7 ∨ n = 8 ∨ n = 9 := by omega
      clear ih
      rcases hc with rfl | rfl | rfl | rfl | rfl | rfl | rfl | rfl | rfl | rfl
      all_goals
        obtain rfl := text_is hT
        clear hT
        go_enter Tryz.func114, Tryz.ntmps114
        go_wp2
        go_ret
        exact ⟨rfl, rfl⟩
    · rw [Lib.decDigits, dif_neg h10] at hT
      obtain ⟨T1, hT1⟩ := text_of (Lib.decDigits (n / 10))
      obtain ⟨T2, hT2⟩ := text_of (Lib.decDigits (n % 10))
      have e2 : Lib.decDigits (n % 10) = [UInt8.ofNat (48 + n % 10)] := by rw [Lib.decDigits, dif_pos (by omega)]
      have CA : Hid (∀ W, Calls Tryz.prog 114 #[.int .i64 ((n : Int) / 10)] W fun e w' => e = .returned (.string T1) ∧ w' = W) := Lib.hid fun W => by
        have := ih (n / 10) (by omega) (by omega) T1 hT1 W
        rw [Int.natCast_ediv] at this; exact this
      have CB : Hid (∀ W, Calls Tryz.prog 114 #[.int .i64 ((n : Int) % 10)] W fun e w' => e = .returned (.string T2) ∧ w' = W) := Lib.hid fun W => by
        have := ih (n % 10) (by omega) (by omega) T2 hT2 W
        rw [Int.natCast_emod] at this; exact this
      have hadd := add_to T1 T2 T (by rw [hT, hT1, hT2, e2]) (by
        have h1 := dec_len (n / 10)
        have h2 := dec_len (n % 10)
        rw [← hT1, lsize] at h1
        rw [← hT2, lsize] at h2
        omega)
      have hz : ¬ (n : Int) < 10 := by omega
      clear ih hT hT1 hT2 e2 h10
      go_enter Tryz.func114, Tryz.ntmps114
      go_wp2_with fail
      refine (CA.out _).mono ?_
      rintro e w ⟨rfl, rfl⟩
      go_wp2_with fail
      refine (CB.out _).mono ?_
      rintro e w ⟨rfl, rfl⟩
      go_wp2
      go_ret
      exact ⟨rfl, rfl⟩
theorem digits_hid (p : Int) (h0 : 0 ≤ p) (h1 : p ≤ 65535) (T : ByteArray) (hT : T.data.toList = Lib.decDigits p.toNat) : Hid (∀ W, Calls Tryz.prog 114 #[.int .i64 p] W fun e w' => e = .returned (.string T) ∧ w' = W) := Lib.hid fun W => by
  have := digits_any p.toNat (by omega) T hT W
  rw [show ((p.toNat : Nat) : Int) = p by omega] at this
  exact this

end Go.Proofs.YtaldjkbnngeahaaGreatDoor
