/- A text's form: the program's, the document's; a sign's value, a text's head, a text as it is written: the document's. -/
import Derived.Test.YtmfejcmhbncchaaGreatDoorBaseA
namespace Go.Proofs.YtmfejcmhbncchaaGreatDoor
open Go.RowKit

theorem at_someK {s : ByteArray} {k : Nat} (h : k < s.size) : ∃ b, s.data.toList[k]? = some b ∧ s.data.toList[k]'(by rw [lsize]; exact h) = b ∧ s[k] = b := ⟨s[k], by rw [List.getElem?_eq_getElem (by rw [lsize]; exact h)]; rfl, rfl, rfl⟩
/-- A sign of the table at its place. -/
theorem sign_ix (kd : IntKind) (k : Nat) (h : k < 64) : ∀ W, (Instr.index 9 (.string ⟨#[65, 66, 67, 68, 69, 70, 71, 72, 73, 74, 75, 76, 77, 78, 79, 80, 81, 82, 83, 84, 85, 86, 87, 88, 89, 90, 97, 98, 99, 100, 101, 102, 103, 104, 105, 106, 107, 108, 109, 110, 111, 112, 113, 114, 115, 116, 117, 118, 119, 120, 121, 122, 48, 49, 50, 51, 52, 53, 54, 55, 56, 57, 43, 47]⟩) (.int kd (k : Int))).run Tryz.prog W = .ok (.int .u8 ((sgn k).toNat : Int)) W := fun W => by
  rw [run_index_string (P := Tryz.prog) W 9 _ kd k Tryz.underlying9]
  rw [dif_pos (by refine ⟨by omega, ?_⟩; show (k : Int) < 64; omega)]
  congr 2
  have e : sgn k = SG[k]'(by show k < 64; exact h) := by unfold sgn; rw [List.getD_eq_getElem?_getD, List.getElem?_eq_getElem (by show k < 64; exact h)]; rfl
  rw [e]
  congr 1

theorem index_none (l : List UInt8) (c : UInt8) (h : ∀ b ∈ l, b ≠ c) : Lib.indexByte l c = -1 := by
  induction l with
  | nil => rfl
  | cons b l ih =>
    unfold Lib.indexByte
    rw [if_neg (by simpa using h b (by simp)), ih (fun x hx => h x (by simp [hx]))]
    rfl
theorem index_at (l : List UInt8) (c : UInt8) (k : Nat) (h : l[k]? = some c) (h2 : ∀ j, j < k → ∀ b, l[j]? = some b → b ≠ c) : Lib.indexByte l c = (k : Int) := by
  induction l generalizing k with
  | nil => simp at h
  | cons b l ih =>
    unfold Lib.indexByte
    cases k with
    | zero =>
      simp at h
      subst h
      rw [if_pos (by simp)]; rfl
    | succ k =>
      have hb := h2 0 (by omega) b rfl
      rw [if_neg (by simpa using hb)]
      have e := ih k (by simpa using h) (fun j hj x hx => h2 (j + 1) (by omega) x (by simpa using hx))
      rw [e, if_neg (by simp)]
      omega

theorem sgn_get (k : Nat) (h : k < 64) : SG[k]? = some (sgn k) := by
  unfold sgn
  rw [List.getD_eq_getElem?_getD, List.getElem?_eq_getElem (by show k < 64; exact h)]; rfl

set_option maxRecDepth 100000 in
set_option maxHeartbeats 1000000 in
/-- The document's value of a sign. -/
theorem value_any (c : UInt8) (w : World) : Calls Tryz.prog 61 #[.int .u8 (c.toNat : Int)] w fun e w' => e = .returned (.int .i64 (val c)) ∧ w' = w := by
  have hb : c.toNat ≤ 255 := by have := c.toNat_lt; omega
  by_cases h1 : c = 45
  · subst h1
    have HV : Hid (val 45 = 62) := Lib.hid (by decide +kernel)
    go_enter Tryz.func61, Tryz.ntmps61
    go_wp2
    go_ret
    exact ⟨ret_int HV.out.symm, rfl⟩
  by_cases h2 : c = 95
  · subst h2
    have HV : Hid (val 95 = 63) := Lib.hid (by decide +kernel)
    go_enter Tryz.func61, Tryz.ntmps61
    go_wp2
    go_ret
    exact ⟨ret_int HV.out.symm, rfl⟩
  · have HV : Hid (val c = Lib.indexByte SG c) := Lib.hid (by unfold val; rw [plB_id h1 h2])
    have g1 : ((c.toNat : Int) == 45) = false := by
      rw [beq_eq_false_iff_ne]; exact fun h => h1 (byte_is (d := 45) h)
    have g2 : ((c.toNat : Int) == 95) = false := by
      rw [beq_eq_false_iff_ne]; exact fun h => h2 (byte_is (d := 95) h)
    clear h1 h2
    go_enter Tryz.func61, Tryz.ntmps61
    go_wp2
    go_loop [3] (fun i => ∃ k : Nat, k ≤ 64 ∧ i = .int .i64 k ∧ Hid (∀ j, j < k → ∀ b, SG[j]? = some b → b ≠ c)) (fun i => 64 - (intOf i).toNat)
    case atStart => exact ⟨0, by omega, rfl, Lib.hid fun j hj => by omega⟩
    case round =>
      obtain ⟨k, hk, rfl, HS⟩ := hrel
      by_cases hlt : k < 64
      · have ix := sign_ix .i64 k hlt
        by_cases he : sgn k = c
        · have g3 : (((sgn k).toNat : Int) == (c.toNat : Int)) = true := by rw [he]; simp
          have HR : Hid ((k : Int) = val c) := Lib.hid (by rw [HV.out, index_at SG c k (by rw [sgn_get k hlt, he]) HS.out])
          generalize (sgn k).toNat = x at *
          clear he
          go_wp2
          go_ret
          exact ⟨ret_int HR.out, rfl⟩
        · have g3 : (((sgn k).toNat : Int) == (c.toNat : Int)) = false := by
            rw [beq_eq_false_iff_ne]; exact fun h => he (byte_is h)
          have HN : Hid (∀ j, j < k + 1 → ∀ b, SG[j]? = some b → b ≠ c) := Lib.hid fun j hj b hb2 => by
            by_cases e : j = k
            · subst e
              rw [sgn_get j hlt] at hb2
              cases hb2
              exact he
            · exact HS.out j (by omega) b hb2
          generalize (sgn k).toNat = x at *
          clear he
          go_wp2
          go_round
          case rel => exact ⟨k + 1, by omega, by go_num, HN⟩
          case measure => simp [intOf]; omega
      · obtain rfl : k = 64 := by omega
        have HR : Hid (val c = -1) := Lib.hid (by
          rw [HV.out]
          refine index_none SG c fun b hb3 => ?_
          obtain ⟨j, hj, rfl⟩ := List.getElem_of_mem hb3
          exact HS.out j hj _ (List.getElem?_eq_getElem hj))
        go_wp2
        go_ret
        exact ⟨ret_int HR.out.symm, rfl⟩
theorem value_hid (c : UInt8) (n : Int) (h : val c = n) : Hid (∀ W, Calls Tryz.prog 61 #[.int .u8 (c.toNat : Int)] W fun e w' => e = .returned (.int .i64 n) ∧ w' = W) :=
  Lib.hid fun W => by rw [← h]; exact value_any c W

theorem good_take {h : List UInt8} (k : Nat) (hk : k < h.length) (e : 0 ≤ val h[k]) (p : good (h.take k) = true) : good (h.take (k + 1)) = true := by
  rw [List.take_succ_eq_append_getElem hk]
  unfold good at *
  rw [List.all_append, p]
  simpa using e
theorem good_not {h : List UInt8} (k : Nat) (hk : k < h.length) (e : val h[k] < 0) : good h = false := by
  cases hg : good h with
  | false => rfl
  | true =>
    have := good_mem hg h[k] (List.getElem_mem hk)
    omega

set_option maxRecDepth 100000 in
set_option maxHeartbeats 1000000 in
theorem form_any (s : ByteArray) (hs : s.size ≤ 1099511627776) (w : World) : Calls Tryz.prog 54 #[.string s] w fun e w' => e = .returned (.bool (formM s.data.toList)) ∧ w' = w := by
  obtain ⟨T, hT⟩ := text_of (hd s.data.toList)
  have C : Hid (∀ W, Calls Tryz.prog 84 #[.string s] W fun e w' => e = .returned (.string T) ∧ w' = W) := Lib.hid fun W => without_any s T hT (by omega) W
  have hle : T.size ≤ s.size := by rw [← lsize T, ← lsize s, hT]; exact hd_le _
  have hF : formM s.data.toList = (!T.data.toList.isEmpty && decide (s.size - T.size ≤ 2) && good T.data.toList) := by
    unfold formM; rw [← hT, lsize, lsize]
  by_cases h0 : T.data.toList = []
  · have g : T.toList.isEmpty = true := by rw [text_empty, h0]; rfl
    have HF : Hid (formM s.data.toList = false) := Lib.hid (by rw [hF, h0]; rfl)
    clear hT hF h0
    go_enter Tryz.func54, Tryz.ntmps54
    go_wp2_with (go_at_call 84; refine (C.out _).mono ?_; rintro e w' ⟨rfl, rfl⟩)
    go_ret
    exact ⟨ret_bool HF.out.symm, rfl⟩
  have g : T.toList.isEmpty = false := by
    rw [text_empty]
    cases h : T.data.toList with
    | nil => exact absurd h h0
    | cons => rfl
  by_cases h2 : 2 < (s.size : Int) - (T.size : Int)
  · have HF : Hid (formM s.data.toList = false) := Lib.hid (by rw [hF, decide_eq_false (by omega)]; simp)
    clear hT hF h0
    go_enter Tryz.func54, Tryz.ntmps54
    go_wp2_with (go_at_call 84; refine (C.out _).mono ?_; rintro e w' ⟨rfl, rfl⟩)
    go_ret
    exact ⟨ret_bool HF.out.symm, rfl⟩
  · have HF : Hid (formM s.data.toList = good T.data.toList) := Lib.hid (by
      have : T.data.toList.isEmpty = false := by rw [← text_empty]; exact g
      rw [hF, this, decide_eq_true (by omega)]; rfl)
    clear hT hF h0
    go_enter Tryz.func54, Tryz.ntmps54
    go_wp2_with (go_at_call 84; refine (C.out _).mono ?_; rintro e w' ⟨rfl, rfl⟩)
    go_loop [4, 19] (fun _ i => ∃ k : Nat, k ≤ T.size ∧ i = .int .i64 k ∧ Hid (good (T.data.toList.take k) = true)) (fun _ i => T.size - (intOf i).toNat)
    case atStart => exact ⟨0, by omega, rfl, Lib.hid rfl⟩
    case round =>
      obtain ⟨k, hk, rfl, HS⟩ := hrel
      by_cases hlt : k < T.size
      · have hk' : k < T.data.toList.length := by rw [lsize]; exact hlt
        have hg : T.data.toList[k] = T[k] := rfl
        have hn1 := good_take k hk'
        have hn2 := good_not k hk'
        rw [hg] at hn1 hn2
        obtain ⟨n, hn⟩ : ∃ n, val T[k] = n := ⟨_, rfl⟩
        have D := numberK_hid T[k] n hn
        rw [hn] at hn1 hn2
        by_cases hneg : n < 0
        · have HR : Hid (false = formM s.data.toList) := Lib.hid (by rw [HF.out, hn2 hneg])
          clear hn hn1 hn2 hg
          go_wp2_with (go_at_call 85; refine (D.out _).mono ?_; rintro e w' ⟨rfl, rfl⟩)
          go_ret
          exact ⟨ret_bool HR.out, rfl⟩
        · have HR := Lib.hid (hn1 (by omega) HS.out)
          clear hn hn1 hn2 hg
          go_wp2_with (go_at_call 85; refine (D.out _).mono ?_; rintro e w' ⟨rfl, rfl⟩)
          go_round
          case rel => exact ⟨k + 1, by omega, by go_num, HR⟩
          case measure => simp [intOf]; omega
      · obtain rfl : k = T.size := by omega
        have HR : Hid (true = formM s.data.toList) := Lib.hid (by rw [HF.out, ← HS.out, take_all])
        go_wp2
        go_ret
        exact ⟨ret_bool HR.out, rfl⟩

end Go.Proofs.YtmfejcmhbncchaaGreatDoor
