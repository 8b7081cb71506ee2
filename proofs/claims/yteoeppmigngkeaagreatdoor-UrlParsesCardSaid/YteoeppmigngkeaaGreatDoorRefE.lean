/- What is cut off, a port: the document's. -/
import Derived.Test.YteoeppmigngkeaaGreatDoorRefC
namespace Go.Proofs.YteoeppmigngkeaaGreatDoor
open Go.RowKit

theorem upto_hit (p : UInt8 → Bool) (l : List UInt8) (k : Nat) (b : UInt8) (h : l[k]? = some b) (h0 : (l.take k).all (fun x => !p x) = true) (hb : p b = true) : upto p l = l.take k ∧ past p l = l.drop k := by
  induction l generalizing k with
  | nil => cases h
  | cons a t ih =>
    cases k with
    | zero =>
      have : a = b := by simpa using h
      subst this
      simp [upto, past, hb]
    | succ k =>
      simp only [List.take_succ_cons, List.all_cons, Bool.and_eq_true] at h0
      have := ih k (by simpa using h) h0.2
      have ha : p a = false := by simpa using h0.1
      unfold upto past at *
      simp [ha, this]
theorem upto_none (p : UInt8 → Bool) (l : List UInt8) (h0 : l.all (fun x => !p x) = true) : upto p l = l ∧ past p l = [] := by
  induction l with
  | nil => exact ⟨rfl, rfl⟩
  | cons a t ih =>
    simp only [List.all_cons, Bool.and_eq_true] at h0
    have := ih h0.2
    have ha : p a = false := by simpa using h0.1
    unfold upto past at *
    simp [ha, this]

set_option maxRecDepth 100000 in
set_option maxHeartbeats 2000000 in
theorem cut1_any (L U R : ByteArray) (c : UInt8) (hU : U.data.toList = upto (isC c) L.data.toList) (hR : R.data.toList = past (isC c) L.data.toList) (hL : L.size ≤ 1000000000) (w : World) : Calls Tryz.prog 21 #[.string L, .string ⟨#[c]⟩] w fun e w' => e = .returned (.tuple #[.string U, .string R]) ∧ Below w.heap.size w w' := by
  obtain ⟨P, hP9⟩ : ∃ P, P = isC c := ⟨_, rfl⟩
  have hPd : ∀ b : UInt8, P b = ((b.toNat : Int) == (c.toNat : Int)) := fun b => by rw [hP9, int_beq]; rfl
  rw [← hP9] at hU hR
  clear hP9
  have ix0 : ∀ W, (Instr.index 9 (.string ⟨#[c]⟩) (.int .i64 0)).run Tryz.prog W = .ok (.int .u8 (c.toNat : Int)) W := fun W => by
    rw [run_index_string (P := Tryz.prog) W 9 _ .i64 0 Tryz.underlying9]
    rfl
  have HU := Lib.hid (And.intro hU hR)
  clear hU hR
  go_enter Tryz.func21, Tryz.ntmps21
  go_wp2
  go_loopw [6, 7] (fun i _ wr => ∃ k : Nat, k ≤ L.size ∧ i = .int .i64 k ∧ Hid ((L.data.toList.take k).all (fun x => !P x) = true) ∧ Below w.heap.size w wr) (fun i _ _ => L.size - (intOf i).toNat)
  case atStart => exact ⟨0, by omega, rfl, Lib.hid rfl, Below.refl _ _⟩
  case round =>
    obtain ⟨k, hk, rfl, HS, hbw⟩ := hrel
    by_cases hlt : k < L.size
    · have hst := all_step (fun x => !P x) hlt HS.out
      have hat : L.data.toList[k]? = some L[k] := by
        obtain ⟨b', h1, _, h3⟩ := at_some hlt
        rw [h1, h3]
      have hit := fun (h : P L[k] = true) => upto_hit P L.data.toList k L[k] hat HS.out h
      have hcut : P L[k] = true → U.data.toList = L.data.toList.take k ∧ R.data.toList = L.data.toList.drop k := fun h => ⟨HU.out.1.trans (hit h).1, HU.out.2.trans (hit h).2⟩
      have sls : P L[k] = true → (∀ W, (Instr.slice 9 (.string L) none (some (.int .i64 (k : Int))) none).run Tryz.prog W = .ok (.string U) W) ∧ (∀ W, (Instr.slice 9 (.string L) (some (.int .i64 (k : Int))) none none).run Tryz.prog W = .ok (.string R) W) := fun h => ⟨slice_to L U k hk (hcut h).1, slice_from L R k hk (hcut h).2⟩
      have hP := hPd L[k]
      clear hit hcut hat hPd
      cases g1 : ((L[k].toNat : Int) == (c.toNat : Int))
      · have hpk : P L[k] = false := by rw [hP, g1]
        have HR := Lib.hid (hst.1 (by show (!P L[k]) = true; rw [hpk]; rfl))
        clear hst sls hP hpk
        go_wp2
        refine wp_loop_rounds 2 ?_
        rw [rounds_succ]
        go_wp2
        go_quiet (fail)
        go_wp2
        rw [rounds_succ]
        go_wp2
        go_roundw
        case rel => exact ⟨k + 1, by omega, by go_num, HR, by first | exact belowN hbw _ | exact belowN (belowN hbw _) _⟩
        case measure => simp [intOf]; omega
      · have hpk : P L[k] = true := by rw [hP, g1]
        obtain ⟨s1, s2⟩ := sls hpk
        clear hst sls hP hpk
        go_wp2
        refine wp_loop_rounds 2 ?_
        rw [rounds_succ]
        go_wp2
        go_quiet (fail)
        go_wp2
        go_quiet (fail)
        go_wp2
        go_ret2
        exact ⟨rfl, by first | exact belowN (belowN hbw _) _ | exact belowN (belowN (belowN hbw _) _) _⟩
    · obtain rfl : k = L.size := by omega
      have hn := upto_none P L.data.toList (by have := HS.out; rw [take_all] at this; exact this)
      rw [hn.1, hn.2] at HU
      obtain rfl : U = L := (text_is HU.out.1).trans (text_is rfl).symm
      obtain rfl : R = ⟨#[]⟩ := text_is HU.out.2
      clear hn HU HS
      go_wp2
      go_ret2
      exact ⟨rfl, hbw⟩

set_option maxRecDepth 100000 in
set_option maxHeartbeats 2000000 in
theorem cut2_any (L U R : ByteArray) (hU : U.data.toList = upto isE L.data.toList) (hR : R.data.toList = past isE L.data.toList) (hL : L.size ≤ 1000000000) (w : World) : Calls Tryz.prog 21 #[.string L, .string ⟨#[47, 63]⟩] w fun e w' => e = .returned (.tuple #[.string U, .string R]) ∧ Below w.heap.size w w' := by
  obtain ⟨P, hP9⟩ : ∃ P, P = isE := ⟨_, rfl⟩
  have hPd : ∀ b : UInt8, P b = (((b.toNat : Int) == 47) || ((b.toNat : Int) == 63)) := fun b => by
    have e1 := int_beq b 47
    have e2 := int_beq b 63
    change ((b.toNat : Int) == 47) = (b == 47) at e1
    change ((b.toNat : Int) == 63) = (b == 63) at e2
    rw [hP9, e1, e2]; rfl
  rw [← hP9] at hU hR
  clear hP9
  have ix0 : ∀ W, (Instr.index 9 (.string ⟨#[47, 63]⟩) (.int .i64 0)).run Tryz.prog W = .ok (.int .u8 47) W := fun W => by kernel_rfl
  have ix1 : ∀ W, (Instr.index 9 (.string ⟨#[47, 63]⟩) (.int .i64 1)).run Tryz.prog W = .ok (.int .u8 63) W := fun W => by kernel_rfl
  have HU := Lib.hid (And.intro hU hR)
  clear hU hR
  go_enter Tryz.func21, Tryz.ntmps21
  go_wp2
  go_loopw [6, 7] (fun i _ wr => ∃ k : Nat, k ≤ L.size ∧ i = .int .i64 k ∧ Hid ((L.data.toList.take k).all (fun x => !P x) = true) ∧ Below w.heap.size w wr) (fun i _ _ => L.size - (intOf i).toNat)
  case atStart => exact ⟨0, by omega, rfl, Lib.hid rfl, Below.refl _ _⟩
  case round =>
    obtain ⟨k, hk, rfl, HS, hbw⟩ := hrel
    by_cases hlt : k < L.size
    · have hst := all_step (fun x => !P x) hlt HS.out
      have hat : L.data.toList[k]? = some L[k] := by
        obtain ⟨b', h1, _, h3⟩ := at_some hlt
        rw [h1, h3]
      have hit := fun (h : P L[k] = true) => upto_hit P L.data.toList k L[k] hat HS.out h
      have hcut : P L[k] = true → U.data.toList = L.data.toList.take k ∧ R.data.toList = L.data.toList.drop k := fun h => ⟨HU.out.1.trans (hit h).1, HU.out.2.trans (hit h).2⟩
      have sls : P L[k] = true → (∀ W, (Instr.slice 9 (.string L) none (some (.int .i64 (k : Int))) none).run Tryz.prog W = .ok (.string U) W) ∧ (∀ W, (Instr.slice 9 (.string L) (some (.int .i64 (k : Int))) none none).run Tryz.prog W = .ok (.string R) W) := fun h => ⟨slice_to L U k hk (hcut h).1, slice_from L R k hk (hcut h).2⟩
      have hP := hPd L[k]
      clear hit hcut hat hPd
      cases g1 : ((L[k].toNat : Int) == 47)
      · cases g2 : ((L[k].toNat : Int) == 63)
        · have hpk : P L[k] = false := by rw [hP, g1, g2]; rfl
          have HR := Lib.hid (hst.1 (by show (!P L[k]) = true; rw [hpk]; rfl))
          clear hst sls hP hpk
          go_wp2
          refine wp_loop_rounds 3 ?_
          rw [rounds_succ]
          go_wp2
          go_quiet (fail)
          go_wp2
          rw [rounds_succ]
          go_wp2
          go_quiet (fail)
          go_wp2
          rw [rounds_succ]
          go_wp2
          go_roundw
          case rel => exact ⟨k + 1, by omega, by go_num, HR, by first | exact belowN hbw _ | exact belowN (belowN hbw _) _⟩
          case measure => simp [intOf]; omega
        · have hpk : P L[k] = true := by rw [hP, g1, g2]; rfl
          obtain ⟨s1, s2⟩ := sls hpk
          clear hst sls hP hpk
          go_wp2
          refine wp_loop_rounds 3 ?_
          rw [rounds_succ]
          go_wp2
          go_quiet (fail)
          go_wp2
          rw [rounds_succ]
          go_wp2
          go_quiet (fail)
          go_wp2
          go_quiet (fail)
          go_wp2
          go_ret2
          exact ⟨rfl, by first | exact belowN (belowN hbw _) _ | exact belowN (belowN (belowN hbw _) _) _⟩
      · have hpk : P L[k] = true := by rw [hP, g1]; rfl
        obtain ⟨s1, s2⟩ := sls hpk
        clear hst sls hP hpk
        go_wp2
        refine wp_loop_rounds 3 ?_
        rw [rounds_succ]
        go_wp2
        go_quiet (fail)
        go_wp2
        go_quiet (fail)
        go_wp2
        go_ret2
        exact ⟨rfl, by first | exact belowN (belowN hbw _) _ | exact belowN (belowN (belowN hbw _) _) _⟩
    · obtain rfl : k = L.size := by omega
      have hn := upto_none P L.data.toList (by have := HS.out; rw [take_all] at this; exact this)
      rw [hn.1, hn.2] at HU
      obtain rfl : U = L := (text_is HU.out.1).trans (text_is rfl).symm
      obtain rfl : R = ⟨#[]⟩ := text_is HU.out.2
      clear hn HU HS
      go_wp2
      go_ret2
      exact ⟨rfl, hbw⟩
theorem cut1_hid (c : UInt8) (L U R : ByteArray) (hU : U.data.toList = upto (isC c) L.data.toList) (hR : R.data.toList = past (isC c) L.data.toList) (hL : L.size ≤ 1000000000) : Hid (∀ W, Calls Tryz.prog 21 #[.string L, .string ⟨#[c]⟩] W fun e w' => e = .returned (.tuple #[.string U, .string R]) ∧ Below W.heap.size W w') :=
  Lib.hid fun W => cut1_any L U R c hU hR hL W
theorem cut2_hid (L U R : ByteArray) (hU : U.data.toList = upto isE L.data.toList) (hR : R.data.toList = past isE L.data.toList) (hL : L.size ≤ 1000000000) : Hid (∀ W, Calls Tryz.prog 21 #[.string L, .string ⟨#[47, 63]⟩] W fun e w' => e = .returned (.tuple #[.string U, .string R]) ∧ Below W.heap.size W w') :=
  Lib.hid fun W => cut2_any L U R hU hR hL W

/-- A port's number, the document's. -/
def prt (l : List UInt8) : Int := match numM l with | some n => if 65535 < n then -1 else (n : Int) | none => -1

set_option maxRecDepth 100000 in
set_option maxHeartbeats 1000000 in
theorem port_any (s : ByteArray) (hs : s.size ≤ 1099511627776) (w : World) : Calls Tryz.prog 43 #[.string s] w fun e w' => e = .returned (.int .i64 (prt s.data.toList)) ∧ w' = w := by
  have hm : numM s.data.toList = if s.data.toList = [] ∨ 5 < s.data.toList.length ∨ s.data.toList.all digit = false then none else some (numV s.data.toList) := rfl
  rw [lsize] at hm
  by_cases h0 : s.size = 0
  · have hl : s.data.toList = [] := List.length_eq_zero_iff.1 (by rw [lsize]; exact h0)
    have e : prt s.data.toList = -1 := by unfold prt; rw [hm, if_pos (.inl hl)]
    have g : (s.size : Int) < 1 := by omega
    rw [e]
    clear e hm hl h0
    go_enter Tryz.func43, Tryz.ntmps43
    go_wp2
    go_ret
    exact ⟨rfl, rfl⟩
  have g0 : ¬ (s.size : Int) < 1 := by omega
  have hl0 : s.data.toList ≠ [] := fun h => h0 (by rw [← lsize, h]; rfl)
  by_cases h5 : 5 < (s.size : Int)
  · have e : prt s.data.toList = -1 := by unfold prt; rw [hm, if_pos (.inr (.inl (by omega)))]
    rw [e]
    clear e hm h0 hl0
    go_enter Tryz.func43, Tryz.ntmps43
    go_wp2
    go_ret
    exact ⟨rfl, rfl⟩
  have HM : Hid ((s.data.toList.all digit = false → prt s.data.toList = -1) ∧ (s.data.toList.all digit = true → prt s.data.toList = if 65535 < numV s.data.toList then -1 else (numV s.data.toList : Int))) := Lib.hid (by
    constructor
    · intro h; unfold prt; rw [hm, if_pos (.inr (.inr h))]
    · intro h; unfold prt; rw [hm, if_neg (by rintro (h1 | h1 | h1); exact hl0 h1; omega; rw [h] at h1; cases h1)])
  clear hm h0 hl0
  go_enter Tryz.func43, Tryz.ntmps43
  go_wp2
  go_loop [3, 4] (fun n i => ∃ k m : Nat, k ≤ s.size ∧ i = .int .i64 k ∧ n = .int .i64 m ∧ m ≤ 99999 ∧ Hid (m = numV (s.data.toList.take k) ∧ (s.data.toList.take k).all digit = true)) (fun _ i => s.size - (intOf i).toNat)
  case atStart => exact ⟨0, 0, by omega, rfl, rfl, by omega, Lib.hid ⟨rfl, rfl⟩⟩
  case round =>
    obtain ⟨k, m, hk, rfl, rfl, hm5, HS⟩ := hrel
    by_cases hlt : k < s.size
    · have hst := all_step digit hlt HS.out.2
      have hv := numV_snoc (s.data.toList.take k) s[k]
      rw [← take_snoc hlt, ← HS.out.1] at hv
      cases hd : digit s[k]
      · have C := refDigit_hid s[k] false hd
        have HR : Hid (prt s.data.toList = -1) := Lib.hid (HM.out.1 (hst.2 hd))
        clear hd hst hv
        go_wp2_with (go_at_call 56; refine (C.out _).mono ?_; rintro e w' ⟨rfl, rfl⟩)
        go_ret
        exact ⟨congrArg (fun x => Ending.returned (Value.int .i64 x)) HR.out.symm, rfl⟩
      · have C := refDigit_hid s[k] true hd
        have hall := hst.1 hd
        have hb : 48 ≤ s[k].toNat ∧ s[k].toNat ≤ 57 := by simpa [digit] using hd
        have hlt9 := numV_lt _ hall
        rw [hv, List.length_take, lsize] at hlt9
        have hp := pow_five (k := min (k + 1) s.size) (by omega)
        obtain ⟨m2, hm2⟩ : ∃ m2 : Nat, m2 = m * 10 + (s[k].toNat - 48) := ⟨_, rfl⟩
        rw [← hm2] at hv hlt9
        have hi : 10 * (m : Int) + ((s[k].toNat : Int) - 48) = (m2 : Int) := by omega
        have hm29 : m2 ≤ 99999 := by omega
        have HN := Lib.hid (And.intro hv.symm hall)
        have b1 : (48 : Int) ≤ (s[k].toNat : Int) := by omega
        have b2 : (s[k].toNat : Int) ≤ 57 := by omega
        clear hd hst hv hall hb hlt9 hp hm2 HM
        go_wp2_with (go_at_call 56; refine (C.out _).mono ?_; rintro e w' ⟨rfl, rfl⟩)
        go_round
        case rel => exact ⟨k + 1, m2, by omega, by go_num, by go_num, hm29, HN⟩
        case measure => simp [intOf]; omega
    · obtain rfl : k = s.size := by omega
      have HS2 := HS.out
      rw [take_all] at HS2
      have hv := HM.out.2 HS2.2
      rw [← HS2.1] at hv
      clear HM HS HS2
      by_cases h6 : 65535 < (m : Int)
      · have HR : Hid (prt s.data.toList = -1) := Lib.hid (by rw [hv, if_pos (by omega)])
        clear hv
        go_wp2
        go_ret
        exact ⟨congrArg (fun x => Ending.returned (Value.int .i64 x)) HR.out.symm, rfl⟩
      · have HR : Hid (prt s.data.toList = (m : Int)) := Lib.hid (by rw [hv, if_neg (by omega)])
        clear hv
        go_wp2
        go_ret
        exact ⟨congrArg (fun x => Ending.returned (Value.int .i64 x)) HR.out.symm, rfl⟩
theorem port_hid (s : ByteArray) (n : Int) (h : prt s.data.toList = n) (hs : s.size ≤ 1099511627776) : Hid (∀ W, Calls Tryz.prog 43 #[.string s] W fun e w' => e = .returned (.int .i64 n) ∧ w' = W) :=
  Lib.hid fun W => by rw [← h]; exact port_any s hs W

end Go.Proofs.YteoeppmigngkeaaGreatDoor
