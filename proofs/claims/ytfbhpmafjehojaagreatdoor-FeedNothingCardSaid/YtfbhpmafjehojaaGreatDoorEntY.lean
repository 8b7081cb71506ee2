/- The document's digit, number, the first ; and a sign's text. The document's Decode and Encode. -/
import Derived.Test.YtfbhpmafjehojaaGreatDoorEntX
namespace Go.Proofs.YtfbhpmafjehojaaGreatDoor
open Go.RowKit

theorem ret_int {a b : Int} (h : a = b) : Ending.returned (.int .i64 a) = .returned (.int .i64 b) := by rw [h]
theorem index_at (L : ByteArray) (k : Nat) (c : UInt8) (h : L.data.toList[k]? = some c) : ∀ W, (Instr.index 9 (.string L) (.int .i64 (k : Int))).run Tryz.prog W = .ok (.int .u8 (c.toNat : Int)) W := fun W => by
  obtain ⟨hk, hc⟩ := List.getElem?_eq_some_iff.1 h
  rw [lsize] at hk
  have e3 : ∀ (n : Nat) (hn : n < L.size), n = k → L[n] = c := fun n hn hq => by
    subst hq
    exact hc
  rw [run_index_string W 9 L .i64 (k : Int) Tryz.underlying9, dif_pos ⟨by omega, by omega⟩, e3 _ _ (by omega)]
def digI (B : Nat) (c : UInt8) : Int := match digM B c with | some d => (d : Int) | none => -1
theorem digI_yes {B d : Nat} {c : UInt8} (h : digM B c = some d) : digI B c = (d : Int) := by unfold digI; rw [h]
theorem digI_no {B : Nat} {c : UInt8} (h : digM B c = none) : digI B c = -1 := by unfold digI; rw [h]
theorem digI_is (B : Nat) (c : UInt8) : digI B c = if 48 ≤ c.toNat ∧ c.toNat ≤ 57 then (if c.toNat - 48 < B then (c.toNat : Int) - 48 else -1) else if 97 ≤ c.toNat ∧ c.toNat ≤ 102 then (if c.toNat - 87 < B then (c.toNat : Int) - 87 else -1) else if 65 ≤ c.toNat ∧ c.toNat ≤ 70 then (if c.toNat - 55 < B then (c.toNat : Int) - 55 else -1) else -1 := by
  unfold digI digM
  simp only
  repeat' split
  all_goals simp_all
  all_goals omega
def numI (B m : Nat) (l : List UInt8) : Int := match numU B m l with | some n => (n : Int) | none => -1
theorem numI_yes {B m n : Nat} {l : List UInt8} (h : numU B m l = some n) : numI B m l = (n : Int) := by unfold numI; rw [h]
theorem numI_no {B m : Nat} {l : List UInt8} (h : numU B m l = none) : numI B m l = -1 := by unfold numI; rw [h]
theorem numF_go {B : Nat} {n d : Nat} {c : UInt8} {r : List UInt8} (h : digM B c = some d) : numF B n (c :: r) = numF B (n * B + d) r := by
  conv => lhs; unfold numF
  rw [h]
theorem numF_no {B : Nat} {n : Nat} {c : UInt8} {r : List UInt8} (h : digM B c = none) : numF B n (c :: r) = none := by
  unfold numF; rw [h]

set_option maxRecDepth 100000 in
set_option maxHeartbeats 4000000 in
theorem digit10_any (c : UInt8) (w : World) : Calls Tryz.prog 145 #[.int .u8 (c.toNat : Int), .int .i64 10] w fun e w' => e = .returned (.int .i64 (digI 10 c)) ∧ w' = w := by
  have hc := c.toNat_lt
  have HD := Lib.hid (digI_is 10 c)
  go_enter Tryz.func145, Tryz.ntmps145
  go_wp2
  all_goals go_ret
  all_goals refine ⟨ret_int ?_, rfl⟩
  all_goals rw [HD.out]
  all_goals ((repeat' split) <;> omega)
theorem digit10_hid (c : UInt8) (d : Int) (h : digI 10 c = d) : Hid (∀ W, Calls Tryz.prog 145 #[.int .u8 (c.toNat : Int), .int .i64 10] W fun e w' => e = .returned (.int .i64 d) ∧ w' = W) := Lib.hid fun W => by rw [← h]; exact digit10_any c W
set_option maxRecDepth 100000 in
set_option maxHeartbeats 4000000 in
theorem numR10_any (s : ByteArray) (w : World) (hs : s.size ≤ 1000000) : Calls Tryz.prog 131 #[.string s, .int .i64 10, .int .i64 7] w fun e w' => e = .returned (.int .i64 (numI 10 7 s.data.toList)) ∧ w' = w := by
  by_cases hz : s.size < 1 ∨ 7 < s.size
  · have HV : Hid (-1 = numI 10 7 s.data.toList) := Lib.hid (numI_no (by unfold numU; rw [lsize]; exact if_pos hz)).symm
    have z0 : (0 : Int) ≤ (s.size : Int) := by omega
    rcases hz with hz | hz
    · have z1 : (s.size : Int) < 1 := by omega
      clear hz
      go_enter Tryz.func131, Tryz.ntmps131
      go_wp2
      go_ret
      exact ⟨ret_int HV.out, rfl⟩
    · have z1 : ¬ (s.size : Int) < 1 := by omega
      have z2 : (7 : Int) < (s.size : Int) := by omega
      clear hz
      go_enter Tryz.func131, Tryz.ntmps131
      go_wp2
      go_ret
      exact ⟨ret_int HV.out, rfl⟩
  have HU : Hid (numU 10 7 s.data.toList = numF 10 0 s.data.toList) := Lib.hid (by unfold numU; rw [lsize]; exact if_neg hz)
  have z1 : ¬ (s.size : Int) < 1 := by omega
  have z2 : (s.size : Int) ≤ 7 := by omega
  have hm : s.size ≤ 7 := by omega
  clear hz
  go_enter Tryz.func131, Tryz.ntmps131
  go_wp2
  go_loop [7, 8] (fun n i => ∃ (k acc : Nat), k ≤ s.size ∧ i = .int .i64 k ∧ n = .int .i64 acc ∧ Hid (numF 10 0 s.data.toList = numF 10 acc (s.data.toList.drop k)) ∧ Hid (acc + 1 ≤ 10 ^ k)) (fun _ i => s.size - (intOf i).toNat)
  case atStart => exact ⟨0, 0, Nat.zero_le _, rfl, rfl, Lib.hid rfl, Lib.hid (by decide)⟩
  case round =>
    obtain ⟨k, acc, hk, rfl, rfl, HS, HA⟩ := hrel
    by_cases hlt : k < s.size
    · have hkl : k < s.data.toList.length := by rw [lsize]; exact hlt
      have hdr : s.data.toList.drop k = s.data.toList[k] :: s.data.toList.drop (k + 1) := List.drop_eq_getElem_cons hkl
      have hg : s.data.toList[k] = s[k] := rfl
      rw [hg] at hdr
      have hpw : 10 ^ k ≤ 10 ^ 6 := Nat.pow_le_pow_right (by decide) (by omega)
      have hpv : 10 ^ 6 = 1000000 := by decide
      have hab : acc ≤ 999999 := by have := HA.out; omega
      obtain ⟨c, hc⟩ : ∃ c, s[k] = c := ⟨_, rfl⟩
      rw [hc] at hdr
      cases hd : digM 10 c with
      | none =>
        have C := digit10_hid c (-1) (digI_no hd)
        have HV : Hid (-1 = numI 10 7 s.data.toList) := Lib.hid (numI_no (by rw [HU.out, HS.out, hdr, numF_no hd])).symm
        clear hd hdr hg hpw hpv HS HA
        go_wp2_with fail
        refine (C.out _).mono ?_
        rintro e w ⟨rfl, rfl⟩
        go_wp2
        go_ret
        exact ⟨ret_int HV.out, rfl⟩
      | some d =>
        have C := digit10_hid c d (digI_yes hd)
        have hdl := (digM_lt hd).1
        have hz0 : (0 : Int) ≤ (d : Int) := by omega
        have HN : Hid (numF 10 0 s.data.toList = numF 10 (acc * 10 + d) (s.data.toList.drop (k + 1))) := Lib.hid (by rw [HS.out, hdr, numF_go hd])
        have HB : Hid (acc * 10 + d + 1 ≤ 10 ^ (k + 1)) := Lib.hid (by have := HA.out; rw [Nat.pow_succ]; omega)
        clear hd hdr hg hpw hpv HS HA
        go_wp2_with fail
        refine (C.out _).mono ?_
        rintro e w ⟨rfl, rfl⟩
        go_wp2
        go_round
        case rel => exact ⟨k + 1, acc * 10 + d, by omega, by go_num, by first | rfl | (congr 1; omega) | go_num, HN, HB⟩
        case measure => simp [intOf]; omega
    · obtain rfl : k = s.size := by omega
      have HV : Hid ((acc : Int) = numI 10 7 s.data.toList) := Lib.hid (numI_yes (by rw [HU.out, HS.out, show s.data.toList.drop s.size = [] by rw [← lsize]; simp]; rfl)).symm
      clear HS HA
      go_wp2
      go_ret
      exact ⟨ret_int HV.out, rfl⟩
theorem numR10_hid (s : ByteArray) (hs : s.size ≤ 1000000) (n : Int) (h : numI 10 7 s.data.toList = n) : Hid (∀ W, Calls Tryz.prog 131 #[.string s, .int .i64 10, .int .i64 7] W fun e w' => e = .returned (.int .i64 n) ∧ w' = W) := Lib.hid fun W => by rw [← h]; exact numR10_any s W hs

set_option maxRecDepth 100000 in
set_option maxHeartbeats 4000000 in
theorem digit16_any (c : UInt8) (w : World) : Calls Tryz.prog 145 #[.int .u8 (c.toNat : Int), .int .i64 16] w fun e w' => e = .returned (.int .i64 (digI 16 c)) ∧ w' = w := by
  have hc := c.toNat_lt
  have HD := Lib.hid (digI_is 16 c)
  go_enter Tryz.func145, Tryz.ntmps145
  go_wp2
  all_goals go_ret
  all_goals refine ⟨ret_int ?_, rfl⟩
  all_goals rw [HD.out]
  all_goals ((repeat' split) <;> omega)
theorem digit16_hid (c : UInt8) (d : Int) (h : digI 16 c = d) : Hid (∀ W, Calls Tryz.prog 145 #[.int .u8 (c.toNat : Int), .int .i64 16] W fun e w' => e = .returned (.int .i64 d) ∧ w' = W) := Lib.hid fun W => by rw [← h]; exact digit16_any c W
set_option maxRecDepth 100000 in
set_option maxHeartbeats 4000000 in
theorem numR16_any (s : ByteArray) (w : World) (hs : s.size ≤ 1000000) : Calls Tryz.prog 131 #[.string s, .int .i64 16, .int .i64 6] w fun e w' => e = .returned (.int .i64 (numI 16 6 s.data.toList)) ∧ w' = w := by
  by_cases hz : s.size < 1 ∨ 6 < s.size
  · have HV : Hid (-1 = numI 16 6 s.data.toList) := Lib.hid (numI_no (by unfold numU; rw [lsize]; exact if_pos hz)).symm
    have z0 : (0 : Int) ≤ (s.size : Int) := by omega
    rcases hz with hz | hz
    · have z1 : (s.size : Int) < 1 := by omega
      clear hz
      go_enter Tryz.func131, Tryz.ntmps131
      go_wp2
      go_ret
      exact ⟨ret_int HV.out, rfl⟩
    · have z1 : ¬ (s.size : Int) < 1 := by omega
      have z2 : (6 : Int) < (s.size : Int) := by omega
      clear hz
      go_enter Tryz.func131, Tryz.ntmps131
      go_wp2
      go_ret
      exact ⟨ret_int HV.out, rfl⟩
  have HU : Hid (numU 16 6 s.data.toList = numF 16 0 s.data.toList) := Lib.hid (by unfold numU; rw [lsize]; exact if_neg hz)
  have z1 : ¬ (s.size : Int) < 1 := by omega
  have z2 : (s.size : Int) ≤ 6 := by omega
  have hm : s.size ≤ 6 := by omega
  clear hz
  go_enter Tryz.func131, Tryz.ntmps131
  go_wp2
  go_loop [7, 8] (fun n i => ∃ (k acc : Nat), k ≤ s.size ∧ i = .int .i64 k ∧ n = .int .i64 acc ∧ Hid (numF 16 0 s.data.toList = numF 16 acc (s.data.toList.drop k)) ∧ Hid (acc + 1 ≤ 16 ^ k)) (fun _ i => s.size - (intOf i).toNat)
  case atStart => exact ⟨0, 0, Nat.zero_le _, rfl, rfl, Lib.hid rfl, Lib.hid (by decide)⟩
  case round =>
    obtain ⟨k, acc, hk, rfl, rfl, HS, HA⟩ := hrel
    by_cases hlt : k < s.size
    · have hkl : k < s.data.toList.length := by rw [lsize]; exact hlt
      have hdr : s.data.toList.drop k = s.data.toList[k] :: s.data.toList.drop (k + 1) := List.drop_eq_getElem_cons hkl
      have hg : s.data.toList[k] = s[k] := rfl
      rw [hg] at hdr
      have hpw : 16 ^ k ≤ 16 ^ 5 := Nat.pow_le_pow_right (by decide) (by omega)
      have hpv : 16 ^ 5 = 1048576 := by decide
      have hab : acc ≤ 1048575 := by have := HA.out; omega
      obtain ⟨c, hc⟩ : ∃ c, s[k] = c := ⟨_, rfl⟩
      rw [hc] at hdr
      cases hd : digM 16 c with
      | none =>
        have C := digit16_hid c (-1) (digI_no hd)
        have HV : Hid (-1 = numI 16 6 s.data.toList) := Lib.hid (numI_no (by rw [HU.out, HS.out, hdr, numF_no hd])).symm
        clear hd hdr hg hpw hpv HS HA
        go_wp2_with fail
        refine (C.out _).mono ?_
        rintro e w ⟨rfl, rfl⟩
        go_wp2
        go_ret
        exact ⟨ret_int HV.out, rfl⟩
      | some d =>
        have C := digit16_hid c d (digI_yes hd)
        have hdl := (digM_lt hd).1
        have hz0 : (0 : Int) ≤ (d : Int) := by omega
        have HN : Hid (numF 16 0 s.data.toList = numF 16 (acc * 16 + d) (s.data.toList.drop (k + 1))) := Lib.hid (by rw [HS.out, hdr, numF_go hd])
        have HB : Hid (acc * 16 + d + 1 ≤ 16 ^ (k + 1)) := Lib.hid (by have := HA.out; rw [Nat.pow_succ]; omega)
        clear hd hdr hg hpw hpv HS HA
        go_wp2_with fail
        refine (C.out _).mono ?_
        rintro e w ⟨rfl, rfl⟩
        go_wp2
        go_round
        case rel => exact ⟨k + 1, acc * 16 + d, by omega, by go_num, by first | rfl | (congr 1; omega) | go_num, HN, HB⟩
        case measure => simp [intOf]; omega
    · obtain rfl : k = s.size := by omega
      have HV : Hid ((acc : Int) = numI 16 6 s.data.toList) := Lib.hid (numI_yes (by rw [HU.out, HS.out, show s.data.toList.drop s.size = [] by rw [← lsize]; simp]; rfl)).symm
      clear HS HA
      go_wp2
      go_ret
      exact ⟨ret_int HV.out, rfl⟩
theorem numR16_hid (s : ByteArray) (hs : s.size ≤ 1000000) (n : Int) (h : numI 16 6 s.data.toList = n) : Hid (∀ W, Calls Tryz.prog 131 #[.string s, .int .i64 16, .int .i64 6] W fun e w' => e = .returned (.int .i64 n) ∧ w' = W) := Lib.hid fun W => by rw [← h]; exact numR16_any s W hs

/-- What end answers: the place of the first ; among twelve bytes. -/
def endI (l : List UInt8) : Int := match semi (l.take 12) with | some k => (k : Int) | none => -1
theorem semi_past : ∀ (l : List UInt8) (k : Nat), 59 ∉ l.take k → semi l = (semi (l.drop k)).map (· + k)
  | l, 0, _ => by simp
  | [], k + 1, _ => by simp [semi]
  | c :: r, k + 1, h => by
    simp only [List.take_succ_cons, List.mem_cons, not_or] at h
    rw [show semi (c :: r) = if c = 59 then some 0 else (semi r).map (· + 1) from rfl, if_neg (fun e => h.1 e.symm), semi_past r k h.2, List.drop_succ_cons, Option.map_map]
    congr 1
set_option maxRecDepth 100000 in
set_option maxHeartbeats 4000000 in
theorem end_any (s : ByteArray) (w : World) (_hs : s.size ≤ 1000000) : Calls Tryz.prog 109 #[.string s] w fun e w' => e = .returned (.int .i64 (endI s.data.toList)) ∧ w' = w := by
  go_enter Tryz.func109, Tryz.ntmps109
  go_wp2
  go_loop [3] (fun i => ∃ k : Nat, k ≤ s.size ∧ k ≤ 12 ∧ i = .int .i64 k ∧ Hid (59 ∉ s.data.toList.take k)) (fun i => s.size - (intOf i).toNat)
  case atStart => exact ⟨0, Nat.zero_le _, by decide, rfl, Lib.hid (by simp)⟩
  case round =>
    obtain ⟨k, hk, hk12, rfl, HS⟩ := hrel
    by_cases hlt : k < s.size ∧ k < 12
    · obtain ⟨h1, h2⟩ := hlt
      have hkl : k < s.data.toList.length := by rw [lsize]; exact h1
      have htk : s.data.toList.take (k + 1) = s.data.toList.take k ++ [s.data.toList[k]] := List.take_succ_eq_append_getElem hkl
      have hdr : s.data.toList.drop k = s.data.toList[k] :: s.data.toList.drop (k + 1) := List.drop_eq_getElem_cons hkl
      have hg : s.data.toList[k] = s[k] := rfl
      rw [hg] at htk hdr
      have h2i : (k : Int) < 12 := by omega
      by_cases hc : s[k] = 59
      · have g : ((s[k].toNat : Int) == 59) = true := by rw [hc]; rfl
        have HV : Hid ((k : Int) = endI s.data.toList) := Lib.hid (by
          unfold endI
          have e : semi (s.data.toList.take 12) = some k := by
            rw [semi_take, semi_past _ k HS.out, hdr, hc]
            simp [semi]
            exact h2
          rw [e])
        clear htk hdr hg hc HS
        go_wp2
        go_ret
        exact ⟨ret_int HV.out, rfl⟩
      · have g : ((s[k].toNat : Int) == 59) = false := by rw [beq_eq_false_iff_ne]; exact fun h => hc (byte_is (d := 59) h)
        have HN : Hid (59 ∉ s.data.toList.take (k + 1)) := Lib.hid (by
          rw [htk]
          simp only [List.mem_append, List.mem_singleton, not_or]
          exact ⟨HS.out, fun e => hc e.symm⟩)
        clear htk hdr hg hc HS
        go_wp2
        go_round
        case rel => exact ⟨k + 1, by omega, by omega, by go_num, HN⟩
        case measure => simp [intOf]; omega
    · have HV : Hid (-1 = endI s.data.toList) := Lib.hid (by
        unfold endI
        have e : semi (s.data.toList.take 12) = none := by
          apply semi_not
          intro h
          refine HS.out ?_
          by_cases h12 : k < 12
          · have : k = s.size := by omega
            rw [this, ← lsize, List.take_length]
            exact List.mem_of_mem_take h
          · rw [show k = 12 by omega]; exact h
        rw [e])
      by_cases h1 : k < s.size
      · have h2 : ¬ (k : Int) < 12 := by omega
        clear HS hlt
        go_wp2
        go_ret
        exact ⟨ret_int HV.out, rfl⟩
      · clear HS hlt
        go_wp2
        go_ret
        exact ⟨ret_int HV.out, rfl⟩
theorem end_hid (s : ByteArray) (hs : s.size ≤ 1000000) (n : Int) (h : endI s.data.toList = n) : Hid (∀ W, Calls Tryz.prog 109 #[.string s] W fun e w' => e = .returned (.int .i64 n) ∧ w' = W) := Lib.hid fun W => by rw [← h]; exact end_any s W hs

/-- What Sign answers. -/
def SignP (l : List UInt8) (W : World) (e : Ending) (w' : World) : Prop :=
  ∃ (T : ByteArray) (ok bad : Bool), e = .returned (.tuple #[.string T, .bool ok, .bool bad]) ∧ Below W.heap.size W w' ∧ ((signM l = some (T.data.toList, bad) ∧ ok = true) ∨ (signM l = none ∧ ok = false ∧ bad = false))
theorem sign_no {l : List UInt8} {W w' : World} (h : signM l = none) (b : Below W.heap.size W w') : SignP l W (.returned (.tuple #[.string ⟨#[]⟩, .bool false, .bool false])) w' := ⟨⟨#[]⟩, false, false, rfl, b, .inr ⟨h, rfl, rfl⟩⟩
theorem bad_enc : encN 65533 = badT := by decide

set_option maxRecDepth 100000 in
set_option maxHeartbeats 8000000 in
theorem refSign_any (s : ByteArray) (hs : s.size ≤ 1000) (w : World) : Calls Tryz.prog 110 #[.string s] w (SignP s.data.toList w) := by
  obtain ⟨T1, hT1⟩ := text_of (nameM s.data.toList)
  obtain ⟨BT, hBT⟩ := text_of (encN 65533)
  have CBAD : Hid (∀ W, Calls Tryz.prog 56 #[.int .i64 65533] W fun e w' => e = .returned (.string BT) ∧ Below W.heap.size W w') := bytes_hid 65533 BT hBT (by omega)
  have HBT : Hid (BT.data.toList = badT) := Lib.hid (hBT.trans bad_enc)
  clear hBT
  by_cases hne : nameM s.data.toList = []
  · have C1 := refName_hid s T1 hT1 false (decide_eq_false (fun h => h hne))
    obtain rfl : T1 = ⟨#[]⟩ := text_is (hT1.trans hne)
    have HNE := Lib.hid hne
    clear hne hT1
    by_cases ha : s.data.toList.head? = some 35
    · obtain ⟨D, hD⟩ := text_of (s.data.toList.drop 1)
      have hl : s.data.toList = 35 :: D.data.toList := by
        cases hq : s.data.toList with
        | nil => rw [hq] at ha; cases ha
        | cons a r => rw [hq] at ha hD; injection ha with ha; subst ha; rw [hD]; rfl
      have hDs : D.size + 1 = s.size := by rw [← lsize s, hl, ← lsize D]; rfl
      have i0 : ∀ W, (Instr.index 9 (.string s) (.int .i64 0)).run Tryz.prog W = .ok (.int .u8 35) W := index_at s 0 35 (by rw [hl]; rfl)
      have s1 : ∀ W, (Instr.slice 9 (.string s) (some (.int .i64 1)) none none).run Tryz.prog W = .ok (.string D) W := slice_from s D 1 (by omega) hD
      have z1 : ¬ (s.size : Int) < 1 := by omega
      have zs : (s.size : Int) ≤ 1000 := by omega
      obtain ⟨n1, hn1⟩ : ∃ n1, numI 10 7 D.data.toList = n1 := ⟨_, rfl⟩
      have C2 := numR10_hid D (by omega) n1 hn1
      have hnm := num_sharp D.data.toList
      rw [← hl] at hnm
      by_cases hx : D.data.toList.head? = some 120 ∨ D.data.toList.head? = some 88
      · rw [if_pos hx] at hnm
        obtain ⟨E, hE⟩ := text_of (D.data.toList.drop 1)
        have hD1 : 1 ≤ D.size := by
          rw [← lsize]
          cases hq : D.data.toList with
          | nil => rw [hq] at hx; rcases hx with hx | hx <;> cases hx
          | cons a r => simp
        have hEs : E.size + 1 = D.size := by rw [← lsize E, hE, List.length_drop, lsize]; omega
        have s2 : ∀ W, (Instr.slice 9 (.string s) (some (.int .i64 2)) none none).run Tryz.prog W = .ok (.string E) W := slice_from s E 2 (by omega) (by rw [hE, hD, List.drop_drop])
        have z2 : (2 : Int) ≤ (s.size : Int) := by omega
        obtain ⟨n2, hn2⟩ : ∃ n2, numI 16 6 E.data.toList = n2 := ⟨_, rfl⟩
        have C3 := numR16_hid E (by omega) n2 hn2
        have HVN : Hid (n2 = match numM s.data.toList with | some n => (n : Int) | none => -1) := Lib.hid (by rw [← hn2, hnm, ← hE]; rfl)
        clear hn2 hnm hn1 hE hD hDs hEs hD1
        by_cases hx1 : D.data.toList.head? = some 120
        · have i1 : ∀ W, (Instr.index 9 (.string s) (.int .i64 1)).run Tryz.prog W = .ok (.int .u8 120) W := index_at s 1 120 (by
            rw [hl]
            cases hq : D.data.toList with
            | nil => rw [hq] at hx1; cases hx1
            | cons a r => rw [hq] at hx1; injection hx1 with hx1; subst hx1; rfl)
          clear hl hx hx1 ha
          cases hm : numM s.data.toList with
          | none =>
            obtain rfl : n2 = -1 := HVN.out.trans (by rw [hm])
            have HV := Lib.hid (sign_none HNE.out hm)
            clear hm
            go_enter Tryz.func110, Tryz.ntmps110
            go_wp2_with fail
            (with_reducible refine (C1.out _).mono ?_)
            rintro e w1 ⟨rfl, b1⟩
            go_wp2_with fail
            (with_reducible refine (C2.out _).mono ?_)
            rintro e w1 ⟨rfl, rfl⟩
            go_wp2_with fail
            (with_reducible refine (C3.out _).mono ?_)
            rintro e w1 ⟨rfl, rfl⟩
            go_wp2
            go_ret3
            exact sign_no HV.out b1
          | some n =>
            obtain rfl : n2 = (n : Int) := HVN.out.trans (by rw [hm])
            have hn32 := num_lt hm
            by_cases h0 : n = 0
            · subst h0
              have HV := Lib.hid (sign_bad HNE.out hm (.inl rfl))
              clear hm
              go_enter Tryz.func110, Tryz.ntmps110
              go_wp2_with fail
              (with_reducible refine (C1.out _).mono ?_)
              rintro e w1 ⟨rfl, b1⟩
              go_wp2_with fail
              (with_reducible refine (C2.out _).mono ?_)
              rintro e w1 ⟨rfl, rfl⟩
              go_wp2_with fail
              (with_reducible refine (C3.out _).mono ?_)
              rintro e w1 ⟨rfl, rfl⟩
              go_wp2_with fail
              (with_reducible refine (CBAD.out _).mono ?_)
              rintro e w2 ⟨rfl, b2⟩
              go_wp2
              go_ret3
              exact ⟨BT, true, true, rfl, b1.trans (b2.mono b1.size), .inl ⟨by rw [HV.out, HBT.out], rfl⟩⟩
            · have g0 : ((n : Int) == 0) = false := by rw [beq_eq_false_iff_ne]; omega
              have gl : ¬ (n : Int) < 0 := by omega
              by_cases hp : isPt n
              · have CP := point_hid (n : Int) true ((ptB_iff n).2 hp)
                obtain ⟨T, hT⟩ := text_of (encN n)
                have CT := bytes_hid n T hT hp.1
                have HV := Lib.hid (sign_point HNE.out hm h0 hp)
                have HT := Lib.hid hT
                clear hm hT hp h0
                go_enter Tryz.func110, Tryz.ntmps110
                go_wp2_with fail
                (with_reducible refine (C1.out _).mono ?_)
                rintro e w1 ⟨rfl, b1⟩
                go_wp2_with fail
                (with_reducible refine (C2.out _).mono ?_)
                rintro e w1 ⟨rfl, rfl⟩
                go_wp2_with fail
                (with_reducible refine (C3.out _).mono ?_)
                rintro e w1 ⟨rfl, rfl⟩
                go_wp2_with fail
                (with_reducible refine (CP.out _).mono ?_)
                rintro e w3 ⟨rfl, rfl⟩
                go_wp2_with fail
                (with_reducible refine (CT.out _).mono ?_)
                rintro e w2 ⟨rfl, b2⟩
                go_wp2
                go_ret3
                exact ⟨T, true, false, rfl, b1.trans (b2.mono b1.size), .inl ⟨by rw [HV.out, HT.out], rfl⟩⟩
              · have CP := point_hid (n : Int) false (by rw [ptB_dec]; exact decide_eq_false hp)
                have HV := Lib.hid (sign_bad HNE.out hm (.inr hp))
                clear hm hp h0
                go_enter Tryz.func110, Tryz.ntmps110
                go_wp2_with fail
                (with_reducible refine (C1.out _).mono ?_)
                rintro e w1 ⟨rfl, b1⟩
                go_wp2_with fail
                (with_reducible refine (C2.out _).mono ?_)
                rintro e w1 ⟨rfl, rfl⟩
                go_wp2_with fail
                (with_reducible refine (C3.out _).mono ?_)
                rintro e w1 ⟨rfl, rfl⟩
                go_wp2_with fail
                (with_reducible refine (CP.out _).mono ?_)
                rintro e w3 ⟨rfl, rfl⟩
                go_wp2_with fail
                (with_reducible refine (CBAD.out _).mono ?_)
                rintro e w2 ⟨rfl, b2⟩
                go_wp2
                go_ret3
                exact ⟨BT, true, true, rfl, b1.trans (b2.mono b1.size), .inl ⟨by rw [HV.out, HBT.out], rfl⟩⟩
        · have hx2 := hx.resolve_left hx1
          have i1 : ∀ W, (Instr.index 9 (.string s) (.int .i64 1)).run Tryz.prog W = .ok (.int .u8 88) W := index_at s 1 88 (by
            rw [hl]
            cases hq : D.data.toList with
            | nil => rw [hq] at hx2; cases hx2
            | cons a r => rw [hq] at hx2; injection hx2 with hx2; subst hx2; rfl)
          clear hl hx hx1 hx2 ha
          cases hm : numM s.data.toList with
          | none =>
            obtain rfl : n2 = -1 := HVN.out.trans (by rw [hm])
            have HV := Lib.hid (sign_none HNE.out hm)
            clear hm
            go_enter Tryz.func110, Tryz.ntmps110
            go_wp2_with fail
            (with_reducible refine (C1.out _).mono ?_)
            rintro e w1 ⟨rfl, b1⟩
            go_wp2_with fail
            (with_reducible refine (C2.out _).mono ?_)
            rintro e w1 ⟨rfl, rfl⟩
            go_wp2_with fail
            (with_reducible refine (C3.out _).mono ?_)
            rintro e w1 ⟨rfl, rfl⟩
            go_wp2
            go_ret3
            exact sign_no HV.out b1
          | some n =>
            obtain rfl : n2 = (n : Int) := HVN.out.trans (by rw [hm])
            have hn32 := num_lt hm
            by_cases h0 : n = 0
            · subst h0
              have HV := Lib.hid (sign_bad HNE.out hm (.inl rfl))
              clear hm
              go_enter Tryz.func110, Tryz.ntmps110
              go_wp2_with fail
              (with_reducible refine (C1.out _).mono ?_)
              rintro e w1 ⟨rfl, b1⟩
              go_wp2_with fail
              (with_reducible refine (C2.out _).mono ?_)
              rintro e w1 ⟨rfl, rfl⟩
              go_wp2_with fail
              (with_reducible refine (C3.out _).mono ?_)
              rintro e w1 ⟨rfl, rfl⟩
              go_wp2_with fail
              (with_reducible refine (CBAD.out _).mono ?_)
              rintro e w2 ⟨rfl, b2⟩
              go_wp2
              go_ret3
              exact ⟨BT, true, true, rfl, b1.trans (b2.mono b1.size), .inl ⟨by rw [HV.out, HBT.out], rfl⟩⟩
            · have g0 : ((n : Int) == 0) = false := by rw [beq_eq_false_iff_ne]; omega
              have gl : ¬ (n : Int) < 0 := by omega
              by_cases hp : isPt n
              · have CP := point_hid (n : Int) true ((ptB_iff n).2 hp)
                obtain ⟨T, hT⟩ := text_of (encN n)
                have CT := bytes_hid n T hT hp.1
                have HV := Lib.hid (sign_point HNE.out hm h0 hp)
                have HT := Lib.hid hT
                clear hm hT hp h0
                go_enter Tryz.func110, Tryz.ntmps110
                go_wp2_with fail
                (with_reducible refine (C1.out _).mono ?_)
                rintro e w1 ⟨rfl, b1⟩
                go_wp2_with fail
                (with_reducible refine (C2.out _).mono ?_)
                rintro e w1 ⟨rfl, rfl⟩
                go_wp2_with fail
                (with_reducible refine (C3.out _).mono ?_)
                rintro e w1 ⟨rfl, rfl⟩
                go_wp2_with fail
                (with_reducible refine (CP.out _).mono ?_)
                rintro e w3 ⟨rfl, rfl⟩
                go_wp2_with fail
                (with_reducible refine (CT.out _).mono ?_)
                rintro e w2 ⟨rfl, b2⟩
                go_wp2
                go_ret3
                exact ⟨T, true, false, rfl, b1.trans (b2.mono b1.size), .inl ⟨by rw [HV.out, HT.out], rfl⟩⟩
              · have CP := point_hid (n : Int) false (by rw [ptB_dec]; exact decide_eq_false hp)
                have HV := Lib.hid (sign_bad HNE.out hm (.inr hp))
                clear hm hp h0
                go_enter Tryz.func110, Tryz.ntmps110
                go_wp2_with fail
                (with_reducible refine (C1.out _).mono ?_)
                rintro e w1 ⟨rfl, b1⟩
                go_wp2_with fail
                (with_reducible refine (C2.out _).mono ?_)
                rintro e w1 ⟨rfl, rfl⟩
                go_wp2_with fail
                (with_reducible refine (C3.out _).mono ?_)
                rintro e w1 ⟨rfl, rfl⟩
                go_wp2_with fail
                (with_reducible refine (CP.out _).mono ?_)
                rintro e w3 ⟨rfl, rfl⟩
                go_wp2_with fail
                (with_reducible refine (CBAD.out _).mono ?_)
                rintro e w2 ⟨rfl, b2⟩
                go_wp2
                go_ret3
                exact ⟨BT, true, true, rfl, b1.trans (b2.mono b1.size), .inl ⟨by rw [HV.out, HBT.out], rfl⟩⟩
      · rw [if_neg hx] at hnm
        have HVN : Hid (n1 = match numM s.data.toList with | some n => (n : Int) | none => -1) := Lib.hid (by rw [← hn1, hnm]; rfl)
        by_cases h2 : (2 : Int) ≤ (s.size : Int)
        · obtain ⟨c, hc⟩ : ∃ c, s.data.toList[1]? = some c := by
            rw [hl]
            cases hq : D.data.toList with
            | nil => have := lsize D; rw [hq] at this; simp at this; omega
            | cons a r => exact ⟨a, rfl⟩
          have i1 : ∀ W, (Instr.index 9 (.string s) (.int .i64 1)).run Tryz.prog W = .ok (.int .u8 (c.toNat : Int)) W := index_at s 1 c hc
          have hcD : D.data.toList.head? = some c := by
            rw [hl] at hc
            rw [← hc]
            cases D.data.toList <;> rfl
          have g1 : ((c.toNat : Int) == 120) = false := by rw [beq_eq_false_iff_ne]; exact fun h => hx (.inl (by rw [hcD, byte_is (d := 120) h]))
          have g2 : ((c.toNat : Int) == 88) = false := by rw [beq_eq_false_iff_ne]; exact fun h => hx (.inr (by rw [hcD, byte_is (d := 88) h]))
          clear hn1 hnm hl hx hc hcD hD hDs ha
          cases hm : numM s.data.toList with
          | none =>
            obtain rfl : n1 = -1 := HVN.out.trans (by rw [hm])
            have HV := Lib.hid (sign_none HNE.out hm)
            clear hm
            go_enter Tryz.func110, Tryz.ntmps110
            go_wp2_with fail
            (with_reducible refine (C1.out _).mono ?_)
            rintro e w1 ⟨rfl, b1⟩
            go_wp2_with fail
            (with_reducible refine (C2.out _).mono ?_)
            rintro e w1 ⟨rfl, rfl⟩
            go_wp2
            go_ret3
            exact sign_no HV.out b1
          | some n =>
            obtain rfl : n1 = (n : Int) := HVN.out.trans (by rw [hm])
            have hn32 := num_lt hm
            by_cases h0 : n = 0
            · subst h0
              have HV := Lib.hid (sign_bad HNE.out hm (.inl rfl))
              clear hm
              go_enter Tryz.func110, Tryz.ntmps110
              go_wp2_with fail
              (with_reducible refine (C1.out _).mono ?_)
              rintro e w1 ⟨rfl, b1⟩
              go_wp2_with fail
              (with_reducible refine (C2.out _).mono ?_)
              rintro e w1 ⟨rfl, rfl⟩
              go_wp2_with fail
              (with_reducible refine (CBAD.out _).mono ?_)
              rintro e w2 ⟨rfl, b2⟩
              go_wp2
              go_ret3
              exact ⟨BT, true, true, rfl, b1.trans (b2.mono b1.size), .inl ⟨by rw [HV.out, HBT.out], rfl⟩⟩
            · have g0 : ((n : Int) == 0) = false := by rw [beq_eq_false_iff_ne]; omega
              have gl : ¬ (n : Int) < 0 := by omega
              by_cases hp : isPt n
              · have CP := point_hid (n : Int) true ((ptB_iff n).2 hp)
                obtain ⟨T, hT⟩ := text_of (encN n)
                have CT := bytes_hid n T hT hp.1
                have HV := Lib.hid (sign_point HNE.out hm h0 hp)
                have HT := Lib.hid hT
                clear hm hT hp h0
                go_enter Tryz.func110, Tryz.ntmps110
                go_wp2_with fail
                (with_reducible refine (C1.out _).mono ?_)
                rintro e w1 ⟨rfl, b1⟩
                go_wp2_with fail
                (with_reducible refine (C2.out _).mono ?_)
                rintro e w1 ⟨rfl, rfl⟩
                go_wp2_with fail
                (with_reducible refine (CP.out _).mono ?_)
                rintro e w3 ⟨rfl, rfl⟩
                go_wp2_with fail
                (with_reducible refine (CT.out _).mono ?_)
                rintro e w2 ⟨rfl, b2⟩
                go_wp2
                go_ret3
                exact ⟨T, true, false, rfl, b1.trans (b2.mono b1.size), .inl ⟨by rw [HV.out, HT.out], rfl⟩⟩
              · have CP := point_hid (n : Int) false (by rw [ptB_dec]; exact decide_eq_false hp)
                have HV := Lib.hid (sign_bad HNE.out hm (.inr hp))
                clear hm hp h0
                go_enter Tryz.func110, Tryz.ntmps110
                go_wp2_with fail
                (with_reducible refine (C1.out _).mono ?_)
                rintro e w1 ⟨rfl, b1⟩
                go_wp2_with fail
                (with_reducible refine (C2.out _).mono ?_)
                rintro e w1 ⟨rfl, rfl⟩
                go_wp2_with fail
                (with_reducible refine (CP.out _).mono ?_)
                rintro e w3 ⟨rfl, rfl⟩
                go_wp2_with fail
                (with_reducible refine (CBAD.out _).mono ?_)
                rintro e w2 ⟨rfl, b2⟩
                go_wp2
                go_ret3
                exact ⟨BT, true, true, rfl, b1.trans (b2.mono b1.size), .inl ⟨by rw [HV.out, HBT.out], rfl⟩⟩
        · have h2 : (s.size : Int) < 2 := by omega
          clear hn1 hnm hl hx hD hDs ha
          cases hm : numM s.data.toList with
          | none =>
            obtain rfl : n1 = -1 := HVN.out.trans (by rw [hm])
            have HV := Lib.hid (sign_none HNE.out hm)
            clear hm
            go_enter Tryz.func110, Tryz.ntmps110
            go_wp2_with fail
            (with_reducible refine (C1.out _).mono ?_)
            rintro e w1 ⟨rfl, b1⟩
            go_wp2_with fail
            (with_reducible refine (C2.out _).mono ?_)
            rintro e w1 ⟨rfl, rfl⟩
            go_wp2
            go_ret3
            exact sign_no HV.out b1
          | some n =>
            obtain rfl : n1 = (n : Int) := HVN.out.trans (by rw [hm])
            have hn32 := num_lt hm
            by_cases h0 : n = 0
            · subst h0
              have HV := Lib.hid (sign_bad HNE.out hm (.inl rfl))
              clear hm
              go_enter Tryz.func110, Tryz.ntmps110
              go_wp2_with fail
              (with_reducible refine (C1.out _).mono ?_)
              rintro e w1 ⟨rfl, b1⟩
              go_wp2_with fail
              (with_reducible refine (C2.out _).mono ?_)
              rintro e w1 ⟨rfl, rfl⟩
              go_wp2_with fail
              (with_reducible refine (CBAD.out _).mono ?_)
              rintro e w2 ⟨rfl, b2⟩
              go_wp2
              go_ret3
              exact ⟨BT, true, true, rfl, b1.trans (b2.mono b1.size), .inl ⟨by rw [HV.out, HBT.out], rfl⟩⟩
            · have g0 : ((n : Int) == 0) = false := by rw [beq_eq_false_iff_ne]; omega
              have gl : ¬ (n : Int) < 0 := by omega
              by_cases hp : isPt n
              · have CP := point_hid (n : Int) true ((ptB_iff n).2 hp)
                obtain ⟨T, hT⟩ := text_of (encN n)
                have CT := bytes_hid n T hT hp.1
                have HV := Lib.hid (sign_point HNE.out hm h0 hp)
                have HT := Lib.hid hT
                clear hm hT hp h0
                go_enter Tryz.func110, Tryz.ntmps110
                go_wp2_with fail
                (with_reducible refine (C1.out _).mono ?_)
                rintro e w1 ⟨rfl, b1⟩
                go_wp2_with fail
                (with_reducible refine (C2.out _).mono ?_)
                rintro e w1 ⟨rfl, rfl⟩
                go_wp2_with fail
                (with_reducible refine (CP.out _).mono ?_)
                rintro e w3 ⟨rfl, rfl⟩
                go_wp2_with fail
                (with_reducible refine (CT.out _).mono ?_)
                rintro e w2 ⟨rfl, b2⟩
                go_wp2
                go_ret3
                exact ⟨T, true, false, rfl, b1.trans (b2.mono b1.size), .inl ⟨by rw [HV.out, HT.out], rfl⟩⟩
              · have CP := point_hid (n : Int) false (by rw [ptB_dec]; exact decide_eq_false hp)
                have HV := Lib.hid (sign_bad HNE.out hm (.inr hp))
                clear hm hp h0
                go_enter Tryz.func110, Tryz.ntmps110
                go_wp2_with fail
                (with_reducible refine (C1.out _).mono ?_)
                rintro e w1 ⟨rfl, b1⟩
                go_wp2_with fail
                (with_reducible refine (C2.out _).mono ?_)
                rintro e w1 ⟨rfl, rfl⟩
                go_wp2_with fail
                (with_reducible refine (CP.out _).mono ?_)
                rintro e w3 ⟨rfl, rfl⟩
                go_wp2_with fail
                (with_reducible refine (CBAD.out _).mono ?_)
                rintro e w2 ⟨rfl, b2⟩
                go_wp2
                go_ret3
                exact ⟨BT, true, true, rfl, b1.trans (b2.mono b1.size), .inl ⟨by rw [HV.out, HBT.out], rfl⟩⟩
    · have HV := Lib.hid (sign_none HNE.out (num_plain _ ha))
      cases hq : s.data.toList with
      | nil =>
        have z1 : (s.size : Int) < 1 := by rw [← lsize, hq]; decide
        have z0 : (0 : Int) ≤ (s.size : Int) := by omega
        rw [hq] at HV
        clear hq ha
        go_enter Tryz.func110, Tryz.ntmps110
        go_wp2_with fail
        (with_reducible refine (C1.out _).mono ?_)
        rintro e w1 ⟨rfl, b1⟩
        go_wp2
        go_ret3
        exact sign_no HV.out b1
      | cons c r =>
        have z1 : ¬ (s.size : Int) < 1 := by rw [← lsize, hq]; simp; omega
        have i0 : ∀ W, (Instr.index 9 (.string s) (.int .i64 0)).run Tryz.prog W = .ok (.int .u8 (c.toNat : Int)) W := index_at s 0 c (by rw [hq]; rfl)
        have g1 : ((c.toNat : Int) != 35) = true := by
          simp only [bne, Bool.not_eq_true', beq_eq_false_iff_ne]
          exact fun h => ha (by rw [hq, byte_is (d := 35) h]; rfl)
        rw [hq] at HV
        clear hq ha
        go_enter Tryz.func110, Tryz.ntmps110
        go_wp2_with fail
        (with_reducible refine (C1.out _).mono ?_)
        rintro e w1 ⟨rfl, b1⟩
        go_wp2
        go_ret3
        exact sign_no HV.out b1
  · have C1 := refName_hid s T1 hT1 true (decide_eq_true hne)
    have HV : Hid (signM s.data.toList = some (T1.data.toList, false)) := Lib.hid (by rw [sign_name hne, hT1])
    clear hne hT1
    go_enter Tryz.func110, Tryz.ntmps110
    go_wp2_with fail
    (with_reducible refine (C1.out _).mono ?_)
    rintro e w1 ⟨rfl, b1⟩
    go_wp2
    go_ret3
    exact ⟨T1, true, false, rfl, b1, .inl ⟨HV.out, rfl⟩⟩
theorem refSign_hid (s : ByteArray) (hs : s.size ≤ 1000) : Hid (∀ W, Calls Tryz.prog 110 #[.string s] W (SignP s.data.toList W)) := Lib.hid fun W => refSign_any s hs W

end Go.Proofs.YtfbhpmafjehojaaGreatDoor

namespace Go.Proofs.YtfbhpmafjehojaaGreatDoor
open Go.RowKit

theorem semi_38 (r : List UInt8) : semi (38 :: r) = (semi r).map (· + 1) := by
  show (if (38 : UInt8) = 59 then some 0 else (semi r).map (· + 1)) = _
  rw [if_neg (by decide)]
/-- A sign's text at a place, as the document finds it. -/
theorem first_end (r : List UInt8) (h : endI (38 :: r) = -1) : firstM (38 :: r) = none := by
  rw [first_amp]
  cases hs : semi r with
  | none => rfl
  | some j =>
    simp only
    rw [show signM (r.take j) = none from sign_long (by
      rw [List.length_take]
      have hj := (semi_lt hs).1
      by_cases h11 : j < 11
      · exfalso
        unfold endI at h
        rw [semi_take, semi_38, hs] at h
        have h12 : j + 1 < 12 := by omega
        simp [h12] at h
        omega
      · omega)]
    rfl
theorem end_at (r : List UInt8) (h : endI (38 :: r) ≠ -1) : ∃ j, semi r = some j ∧ endI (38 :: r) = ((j + 1 : Nat) : Int) ∧ j < r.length ∧ j < 11 := by
  unfold endI at h ⊢
  rw [semi_take, semi_38] at h ⊢
  cases hs : semi r with
  | none => rw [hs] at h; simp at h
  | some j =>
    rw [hs] at h
    have hj := (semi_lt hs).1
    by_cases h11 : j < 11
    · have h12 : j + 1 < 12 := by omega
      exact ⟨j, rfl, by simp [h12], hj, h11⟩
    · have h12 : ¬ j + 1 < 12 := by omega
      simp [h12] at h
theorem cat_list (a b : ByteArray) : (a ++ b).data.toList = a.data.toList ++ b.data.toList := by simp
theorem add_cat (S T : ByteArray) (hl : S.size + T.size ≤ 9223372036854775807) : ∀ W, (Op.stringOp .add S T).run Tryz.prog W = .ok (.string (S ++ T)) W := add_to S T (S ++ T) (cat_list S T) hl
theorem slice_at1 (L U : ByteArray) (pos K : Nat) (hK : 1 ≤ K) (hj : pos + K ≤ L.size) (h : U.data.toList = (L.data.toList.drop (pos + 1)).take (K - 1)) : ∀ W, (Instr.slice 9 (.string L) (some (.int .i64 ((pos : Int) + 1))) (some (.int .i64 ((pos : Int) + (K : Int)))) none).run Tryz.prog W = .ok (.string U) W := by
  have := slice_mid L U (pos + 1) (pos + K) (by omega) hj (by rw [h, show pos + K - (pos + 1) = K - 1 by omega])
  rw [show ((pos + 1 : Nat) : Int) = (pos : Int) + 1 by omega, show ((pos + K : Nat) : Int) = (pos : Int) + (K : Int) by omega] at this
  exact this
theorem slice_one' (L U : ByteArray) (k : Nat) (c : UInt8) (hk : L.data.toList[k]? = some c) (h : U.data.toList = [c]) : ∀ W, (Instr.slice 9 (.string L) (some (.int .i64 (k : Int))) (some (.int .i64 ((k : Int) + 1))) none).run Tryz.prog W = .ok (.string U) W := by
  obtain ⟨h1, h2⟩ := List.getElem?_eq_some_iff.1 hk
  have hk' : k < L.size := by rw [← lsize]; exact h1
  have := slice_mid L U k (k + 1) (by omega) hk' (by rw [h, List.drop_eq_getElem_cons h1, h2, show k + 1 - k = 1 by omega]; rfl)
  rw [show ((k + 1 : Nat) : Int) = (k : Int) + 1 by omega] at this
  exact this

set_option maxRecDepth 100000 in
set_option maxHeartbeats 8000000 in
theorem refDecode_any (s : ByteArray) (hs : s.size ≤ 100000) (w : World) :
    Calls Tryz.prog 88 #[.string s] w fun e w' => ∃ v, e = .returned (.tuple #[.string ⟨(decT 0 s.data.toList).1.toArray⟩, v]) ∧ w'.ownsRow w.heap.size 50 2 v (decT 0 s.data.toList).2.length (failCs (decT 0 s.data.toList).2) ∧ Below w.heap.size w w' := by
  obtain ⟨i1, hi1, hy0, hy1, hy2⟩ := info_parts Tinfo34
  go_enter Tryz.func88, Tryz.ntmps88
  go_wp2
  go_loopw [4, 5, 6] (fun v u i wr => ∃ (pos : Nat) (O : ByteArray) (facc : List Nat), i = .int .i64 pos ∧ v = .string O ∧ pos ≤ s.size ∧ wr.ownsRow w.heap.size 50 2 u facc.length (failCs facc) ∧ Below w.heap.size w wr ∧ Hid (decT 0 s.data.toList = (O.data.toList ++ (decT pos (s.data.toList.drop pos)).1, facc ++ (decT pos (s.data.toList.drop pos)).2)) ∧ O.size ≤ pos ∧ facc.length ≤ pos) (fun _ _ i _ => s.size - (intOf i).toNat)
  case atStart => exact ⟨0, ⟨#[]⟩, [], rfl, rfl, Nat.zero_le _, World.ownsRow_nil _ _ _ _, Below.refl _ _, Lib.hid rfl, Nat.le_refl _, Nat.le_refl _⟩
  case round =>
    obtain ⟨pos, O, facc, rfl, rfl, hp, hfow, hb, HS, hlo, hlf⟩ := hrel
    by_cases hlt : pos < s.size
    · have hpl : pos < s.data.toList.length := by rw [lsize]; exact hlt
      have hdr := dec_place s.data.toList pos hpl
      obtain ⟨c, hc⟩ : ∃ c, s.data.toList[pos]? = some c := ⟨_, List.getElem?_eq_getElem hpl⟩
      have hg : s.data.toList[pos] = c := by rw [List.getElem?_eq_getElem hpl] at hc; exact Option.some.inj hc
      rw [hg] at hdr
      have i0 := index_at s pos c hc
      obtain ⟨R, hR⟩ := text_of (s.data.toList.drop pos)
      have s1 := slice_from s R pos hp hR
      have hRs : R.size = s.size - pos := by rw [← lsize, hR, List.length_drop, lsize]
      obtain ⟨kk, hkk⟩ : ∃ kk, endI R.data.toList = kk := ⟨_, rfl⟩
      have CE := end_hid R (by omega) kk hkk
      rw [hR, hdr] at hkk
      obtain ⟨U, hU⟩ : ∃ U : ByteArray, U.data.toList = [c] := ⟨⟨#[c]⟩, rfl⟩
      have s2 := slice_one' s U pos c hc hU
      have hUs : U.size = 1 := by rw [← lsize, hU]; rfl
      have a1 := add_cat O U (by omega)
      have HU := Lib.hid hU
      have HDR := Lib.hid hdr
      have hsz := hb.size
      -- where no sign's text begins
      have HPL : Hid (firstM (c :: s.data.toList.drop (pos + 1)) = none → decT 0 s.data.toList = ((O ++ U).data.toList ++ (decT (pos + 1) (s.data.toList.drop (pos + 1))).1, facc ++ (decT (pos + 1) (s.data.toList.drop (pos + 1))).2)) := Lib.hid (fun hn => by
        rw [HS.out, hdr, decT_plain pos c _ hn, cat_list, hU]
        simp)
      have hou : (O ++ U).size ≤ pos + 1 := by rw [← lsize, cat_list, List.length_append, lsize, lsize]; omega
      clear hR hg hpl hU hdr
      by_cases h38 : c = 38
      · subst h38
        have i0 : ∀ W, (Instr.index 9 (.string s) (.int .i64 (pos : Int))).run Tryz.prog W = .ok (.int .u8 38) W := i0
        by_cases hneg : endI (38 :: s.data.toList.drop (pos + 1)) = -1
        · obtain rfl : kk = -1 := hkk.symm.trans hneg
          have HN := Lib.hid (HPL.out (first_end _ hneg))
          clear hneg hkk HPL HS
          go_wp2_with fail
          (with_reducible refine (CE.out _).mono ?_)
          rintro e wr ⟨rfl, rfl⟩
          go_wp2
          go_roundw
          case rel => exact ⟨pos + 1, O ++ U, facc, by go_num, rfl, by omega, hfow, hb, HN, hou, by omega⟩
          case measure => simp [intOf]; omega
        · obtain ⟨j, hj1, hj2, hj3, hj4⟩ := end_at _ hneg
          rw [List.length_drop, lsize] at hj3
          obtain ⟨K, hK⟩ : ∃ K, K = j + 1 := ⟨_, rfl⟩
          rw [← hK] at hj2
          obtain rfl : kk = (K : Int) := hkk.symm.trans hj2
          obtain ⟨I, hI⟩ := text_of ((s.data.toList.drop (pos + 1)).take j)
          have s3 := slice_at1 s I pos K (by omega) (by omega) (by rw [hI, show K - 1 = j by omega])
          have hIs : I.size = j := by rw [← lsize, hI, List.length_take, List.length_drop, lsize]; omega
          have CS := refSign_hid I (by omega)
          have hKj : K ≤ 11 := by omega
          have hKp : pos + K + 1 ≤ s.size := by omega
          have z1 : (0 : Int) < (K : Int) := by omega
          have HF : Hid (firstM (38 :: s.data.toList.drop (pos + 1)) = (signM I.data.toList).map fun p => (p.1, p.2, K + 1)) := Lib.hid (by
            rw [first_amp, hj1]
            simp only
            rw [hI, hK])
          clear hneg hkk hj1 hj2 hj3 hj4 hI hIs hK
          go_wp2_with fail
          (with_reducible refine (CE.out _).mono ?_)
          rintro e wr ⟨rfl, rfl⟩
          go_wp2_with fail
          (with_reducible refine (CS.out _).mono ?_)
          rintro e w1 ⟨T, ok, bad, rfl, b1, hv⟩
          have hfow1 := ownsRow_below hfow b1
          have hb1 := hb.trans (b1.mono hsz)
          have hsz1 := hb1.size
          clear hfow hb b1
          rcases hv with ⟨hn, rfl⟩ | ⟨hn, rfl, rfl⟩
          · have hfm : firstM (38 :: s.data.toList.drop (pos + 1)) = some (T.data.toList, bad, K + 1) := by rw [HF.out, hn]; rfl
            have hl := first_len hfm
            rw [lsize] at hl
            obtain ⟨hk4, hk10, hks, ht1, htk⟩ := hl
            have a2 := add_cat O T (by omega)
            have hot : (O ++ T).size ≤ pos + K + 1 := by rw [← lsize, cat_list, List.length_append, lsize, lsize]; omega
            have HN : Hid (decT 0 s.data.toList = ((O ++ T).data.toList ++ (decT (pos + K + 1) (s.data.toList.drop (pos + K + 1))).1, (facc ++ (if bad = true then [pos] else [])) ++ (decT (pos + K + 1) (s.data.toList.drop (pos + K + 1))).2)) := Lib.hid (by
              rw [← HDR.out] at hfm
              rw [HS.out, decT_sign pos hfm, List.drop_drop, cat_list, show pos + (K + 1) = pos + K + 1 by omega]
              simp)
            clear hn hfm HF HPL HS HDR HU
            cases bad with
            | true =>
              go_wp2_with (at_builtin; refine wpList_append_own _ rfl _ _ 24 rfl w.heap.size 50 i1 (.agg #[.int .i64 0, .int .i64 0]) 2 16 Tryz.underlying24 hi1 hy0 hy1 hy2 rfl (by decide) _ _ _ rfl (hfow1.alloc _) ⟨w1.heap.size, 0, none⟩ 1 1 [.int .i64 130, .int .i64 (pos : Int)] rfl rfl (cells_new w1 [.int .i64 130, .int .i64 (pos : Int)] 50) (fun x hx => by simp at hx; rcases hx with rfl | rfl <;> rfl) (by unfold maxLen; omega) (by omega) (by simp; omega) ?_; intro v5 w5 hfow5 hgrow5 hnil5
                           have hb5 : Below w.heap.size w w5 := Below.grown (hb1.alloc hsz1 _) hgrow5 (by simp; omega) (fun j hj => (hfow1.lt _ hj).1)
                           clear hgrow5 hnil5)
              have hfow7 : w5.ownsRow w.heap.size 50 2 v5 (facc ++ [pos]).length (failCs (facc ++ [pos])) := by rw [failCs_snoc, List.length_append]; exact hfow5
              clear hfow5
              go_roundw
              case rel => exact ⟨pos + K + 1, O ++ T, facc ++ [pos], by go_num, rfl, by omega, hfow7, hb5, HN, hot, by rw [List.length_append]; simp; omega⟩
              case measure => simp [intOf]; omega
            | false =>
              go_wp2
              go_roundw
              case rel => exact ⟨pos + K + 1, O ++ T, facc, by go_num, rfl, by omega, hfow1, hb1, Lib.hid (by simpa using HN.out), hot, by omega⟩
              case measure => simp [intOf]; omega
          · have HN := Lib.hid (HPL.out (by rw [HF.out, hn]; rfl))
            clear hn HF HPL HS HDR HU
            go_wp2
            go_roundw
            case rel => exact ⟨pos + 1, O ++ U, facc, by go_num, rfl, by omega, hfow1, hb1, HN, hou, by omega⟩
            case measure => simp [intOf]; omega
      · have g1 : ((c.toNat : Int) == 38) = false := by rw [beq_eq_false_iff_ne]; exact fun h => h38 (byte_is (d := 38) h)
        have HN := Lib.hid (HPL.out (first_plain c _ h38))
        clear h38 hkk HPL HS
        go_wp2_with fail
        (with_reducible refine (CE.out _).mono ?_)
        rintro e wr ⟨rfl, rfl⟩
        go_wp2
        go_roundw
        case rel => exact ⟨pos + 1, O ++ U, facc, by go_num, rfl, by omega, hfow, hb, HN, hou, by omega⟩
        case measure => simp [intOf]; omega
    · obtain rfl : pos = s.size := by omega
      have HE : Hid (decT 0 s.data.toList = (O.data.toList, facc)) := Lib.hid (by
        rw [HS.out, show s.data.toList.drop s.size = [] by rw [← lsize]; simp, decT_nil]
        simp)
      clear HS
      go_wp2
      go_ret2
      exact ⟨_, by rw [HE.out]; rfl, by rw [HE.out]; exact hfow, hb⟩

end Go.Proofs.YtfbhpmafjehojaaGreatDoor
