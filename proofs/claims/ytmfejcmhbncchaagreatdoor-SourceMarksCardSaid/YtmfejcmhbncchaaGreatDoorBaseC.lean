/- A text's head, a text's form, a text as it is written: the document's. -/
import Derived.Test.YtmfejcmhbncchaaGreatDoorBaseB
namespace Go.Proofs.YtmfejcmhbncchaaGreatDoor
open Go.RowKit

theorem extract_zero (s : ByteArray) (n : Nat) : (s.extract 0 n).data.toList = s.data.toList.take n := by
  rw [Lib.extract_upto]
theorem last_of_take {l : List UInt8} {n : Nat} (h : n < l.length) : (l.take (n + 1)).getLast? = some l[n] := by
  rw [List.take_succ_eq_append_getElem h, List.getLast?_concat]
theorem slice_upto (s : ByteArray) (n : Nat) (h : n ≤ s.size) : ∀ W, (Instr.slice 9 (.string s) none (some (.int .i64 (n : Int))) none).run Tryz.prog W = .ok (.string (s.extract 0 n)) W := fun W => by
  simp [Instr.slice, run_underlying Tryz.underlying9, Instr.sliceBounds, run_sliceBound, h]

set_option maxRecDepth 100000 in
set_option maxHeartbeats 1000000 in
theorem head_any (s : ByteArray) (hs : s.size ≤ 1099511627776) (w : World) : Calls Tryz.prog 60 #[.string s] w fun e w' => (∃ T : ByteArray, e = .returned (.string T) ∧ Head s.data.toList T.data.toList) ∧ w' = w := by
  have out : Hid (∀ k n : Nat, k ≤ 2 → s.data.toList = s.data.toList.take n ++ List.replicate k 61 → (k = 2 ∨ endless (s.data.toList.take n)) → Head s.data.toList (s.extract 0 n).data.toList) := Lib.hid fun k n h1 h2 h3 => by
    rw [extract_zero]; exact ⟨k, h1, h2, h3⟩
  go_enter Tryz.func60, Tryz.ntmps60
  go_wp2
  go_loop [3, 4] (fun n i => ∃ (k m : Nat), k ≤ 2 ∧ m ≤ s.size ∧ i = .int .i64 k ∧ n = .int .i64 m ∧ Hid (s.data.toList = s.data.toList.take m ++ List.replicate k 61)) (fun n _ => (intOf n).toNat)
  case atStart => exact ⟨0, s.size, by omega, by omega, rfl, rfl, Lib.hid (by rw [take_all]; simp)⟩
  case round =>
    obtain ⟨k, m, hk, hm, rfl, rfl, HS⟩ := hrel
    have hsl := slice_upto s m hm
    by_cases h2 : k < 2
    · have hz2 : (k : Int) < 2 := by omega
      by_cases h0 : m = 0
      · subst h0
        have HO := out.out k 0 hk HS.out (.inr (fun b hb => by simp at hb))
        rw [extract_zero] at HO
        have HO : Hid (Head s.data.toList []) := Lib.hid HO
        go_wp2
        go_ret
        exact ⟨⟨_, rfl, HO.out⟩, rfl⟩
      · obtain ⟨n, rfl⟩ : ∃ n, m = n + 1 := ⟨m - 1, by omega⟩
        have hn : n < s.size := by omega
        have hz : ((n + 1 : Nat) : Int) - 1 = (n : Int) := by omega
        have hp : 0 < ((n + 1 : Nat) : Int) := by omega
        have hlast := last_of_take (l := s.data.toList) (n := n) (by rw [lsize]; exact hn)
        have hg : s.data.toList[n]'(by rw [lsize]; exact hn) = s[n] := rfl
        rw [hg] at hlast
        have htk := take_snoc hn
        generalize hZ : ((n + 1 : Nat) : Int) = z at *
        by_cases he : s[n] = 61
        · have g3 : ((s[n].toNat : Int) == 61) = true := by rw [he]; rfl
          have HN : Hid (s.data.toList = s.data.toList.take n ++ List.replicate (k + 1) 61) := Lib.hid (by
            have := HS.out
            rw [htk, he, List.append_assoc] at this
            rw [List.replicate_succ]
            exact this)
          clear he hlast hg htk
          go_wp2
          go_round
          case rel => exact ⟨k + 1, n, by omega, by omega, by go_num, by rw [← hz], HN⟩
          case measure => simp [intOf]; omega
        · have g3 : ((s[n].toNat : Int) == 61) = false := by
            rw [beq_eq_false_iff_ne]; exact fun h => he (byte_is (d := 61) h)
          have HO := Lib.hid (out.out k (n + 1) hk HS.out (.inr (fun b hb => by rw [hlast] at hb; cases hb; exact he)))
          clear he hlast hg htk
          go_wp2
          go_ret
          exact ⟨⟨_, rfl, HO.out⟩, rfl⟩
    · have hz2 : ¬ (k : Int) < 2 := by omega
      have HO := Lib.hid (out.out k m hk HS.out (.inl (by omega)))
      go_wp2
      go_ret
      exact ⟨⟨_, rfl, HO.out⟩, rfl⟩

set_option maxRecDepth 100000 in
set_option maxHeartbeats 1000000 in
theorem refForm_any (s : ByteArray) (hs : s.size ≤ 1099511627776) (w : World) : Calls Tryz.prog 35 #[.string s] w fun e w' => e = .returned (.bool (formM s.data.toList)) ∧ w' = w := by
  have C := Lib.hid fun W => head_any s hs W
  go_enter Tryz.func35, Tryz.ntmps35
  go_wp2_with fail
  refine (C.out _).mono ?_
  rintro e w' ⟨⟨T, rfl, hH⟩, rfl⟩
  have hle : T.size ≤ s.size := by
    obtain ⟨k, _, h, _⟩ := hH
    have := congrArg List.length h
    rw [List.length_append, lsize, lsize] at this
    omega
  have HF := Lib.hid (head_form hH)
  clear hH
  go_wp2
  go_loop [4] (fun i => ∃ k : Nat, k ≤ T.size ∧ i = .int .i64 k ∧ Hid (good (T.data.toList.take k) = true)) (fun i => T.size - (intOf i).toNat)
  case atStart => exact ⟨0, by omega, rfl, Lib.hid rfl⟩
  case round =>
    obtain ⟨k, hk, rfl, HS⟩ := hrel
    by_cases hlt : k < T.size
    · have hk' : k < T.data.toList.length := by rw [lsize]; exact hlt
      have hg : T.data.toList[k] = T[k] := rfl
      have hn1 := good_take k hk'
      have hn2 := good_not k hk'
      rw [hg] at hn1 hn2
      obtain ⟨n, hn⟩ : ∃ n, val T[k] = n := ⟨_, rfl⟩
      have D := value_hid T[k] n hn
      rw [hn] at hn1 hn2
      by_cases hneg : n < 0
      · have HR : Hid (false = formM s.data.toList) := Lib.hid (by rw [HF.out, hn2 hneg, Bool.and_false])
        clear hn hn1 hn2 hg
        go_wp2_with (go_at_call 61; refine (D.out _).mono ?_; rintro e w' ⟨rfl, rfl⟩)
        go_ret
        exact ⟨ret_bool HR.out, rfl⟩
      · have HR := Lib.hid (hn1 (by omega) HS.out)
        clear hn hn1 hn2 hg
        go_wp2_with (go_at_call 61; refine (D.out _).mono ?_; rintro e w' ⟨rfl, rfl⟩)
        go_round
        case rel => exact ⟨k + 1, by omega, by go_num, HR⟩
        case measure => simp [intOf]; omega
    · obtain rfl : k = T.size := by omega
      have hgd : good T.data.toList = true := by have := HS.out; rw [take_all] at this; exact this
      cases hE : T.toList.isEmpty with
      | true =>
        have HR : Hid (false = formM s.data.toList) := Lib.hid (by rw [HF.out, ← text_empty, hE]; rfl)
        go_wp2
        go_ret
        exact ⟨ret_bool HR.out, rfl⟩
      | false =>
        have HR : Hid (true = formM s.data.toList) := Lib.hid (by rw [HF.out, ← text_empty, hE, hgd]; rfl)
        go_wp2
        go_ret
        exact ⟨ret_bool HR.out, rfl⟩

end Go.Proofs.YtmfejcmhbncchaaGreatDoor
