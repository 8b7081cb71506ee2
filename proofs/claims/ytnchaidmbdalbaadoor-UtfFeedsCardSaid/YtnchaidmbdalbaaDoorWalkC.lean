/- The document's own answers: First, Points, Join. -/
import Derived.Test.YtnchaidmbdalbaaDoorWalkA
import Derived.Deep.LoopGhost
import Derived.Deep.RegionWith
import Derived.Lib.Hide
import Derived.Lib.RabinKarpLaws
import Derived.WalkSmall
namespace Go.Proofs.YtnchaidmbdalbaaDoor
open Go.RowKit

theorem nb_get (s : ByteArray) (k : Nat) (h : k < s.size) : nb s.data.toList k = s[k].toNat := by
  simp [nb, List.getD_eq_getElem?_getD, List.getElem?_eq_getElem (show k < s.data.toList.length by simpa using h)]
  rfl

theorem ext0 (s : ByteArray) (j : Nat) : (s.extract 0 j).toList = s.data.toList.take j := by
  rw [ext_win]; simp [Lib.RK.win]

theorem point_bool (n : Int) (b : Bool) (h : ptB n = b) (w : World) : Calls Tryd.prog 29 #[.int .i64 n] w fun e w' => e = .returned (.bool b) ∧ w' = w :=
  (point_any n w).mono fun _ _ ⟨he, hw⟩ => ⟨by rw [he, h], hw.symm⟩

set_option maxRecDepth 100000 in
set_option maxHeartbeats 1000000 in
theorem first_any (s : ByteArray) (w : World) (h0 : 0 < s.size) (hs : s.size ≤ 9223372036854775807) :
    Calls Tryd.prog 26 #[.string s] w fun e w' => e = .returned (.tuple #[.int .i64 (firstL s.data.toList).1, .int .i64 (firstL s.data.toList).2]) ∧ Below w.heap.size w w' := by
  obtain ⟨x0, hx0⟩ : ∃ x0, s[0]'h0 = x0 := ⟨_, rfl⟩
  have l0 := x0.toNat_lt
  have hz0 : (0 : Int) < (s.size : Int) := by omega
  have hnb0 : nb s.data.toList 0 = x0.toNat := by rw [nb_get s 0 h0, hx0]
  have hl0 : s.data.toList.length = s.size := by simp
  have hk4 := leadK_le x0.toNat
  by_cases hk : leadK x0.toNat = 0
  · have e : firstL s.data.toList = (0, 0) := by unfold firstL; rw [hnb0, if_pos (.inl hk)]
    rw [e]
    have g1 : ((leadK x0.toNat : Int) == 0) = true := by simp [hk]
    have HK := Lib.hid hk
    clear hk hnb0 hl0
    go_enter Tryd.func26, Tryd.ntmps26
    go_wp2_with (go_at_call 39; refine (lead_any x0.toNat (by omega) _).mono ?_; rintro e w' ⟨rfl, rfl⟩)
    go_ret2
    exact ⟨rfl, Below.refl _ _⟩
  by_cases hlen : s.size < leadK x0.toNat
  · have e : firstL s.data.toList = (0, 0) := by unfold firstL; rw [hnb0, hl0, if_pos (.inr hlen)]
    rw [e]
    have g1 : ((leadK x0.toNat : Int) == 0) = false := by simp [hk]
    have g2 : (s.size : Int) < (leadK x0.toNat : Int) := by omega
    clear hk hnb0 hl0 hlen
    go_enter Tryd.func26, Tryd.ntmps26
    go_wp2_with (go_at_call 39; refine (lead_any x0.toNat (by omega) _).mono ?_; rintro e w' ⟨rfl, rfl⟩)
    go_ret2
    exact ⟨rfl, Below.refl _ _⟩
  have g1 : ((leadK x0.toNat : Int) == 0) = false := by simp [hk]
  have g2 : ¬ (s.size : Int) < (leadK x0.toNat : Int) := by omega
  have hacc1 : accL s.data.toList 1 = leadN x0.toNat := by rw [accL_one, hnb0]
  have hfirst : firstL s.data.toList = if ptB (accL s.data.toList (leadK x0.toNat) : Nat) = true ∧ encN (accL s.data.toList (leadK x0.toNat)) = s.data.toList.take (leadK x0.toNat) then (accL s.data.toList (leadK x0.toNat), leadK x0.toNat) else (0, 0) := by
    unfold firstL; rw [hnb0, if_neg (by omega)]
  have HF := Lib.hid hfirst
  have HA := Lib.hid hacc1
  have hk1 : 1 ≤ leadK x0.toNat := by omega
  have hks : leadK x0.toNat ≤ s.size := by omega
  have HL := Lib.hid hl0
  have HN := Lib.hid hnb0
  clear hk hnb0 hl0 hlen hacc1 hfirst
  go_enter Tryd.func26, Tryd.ntmps26
  go_wp2_with (go_at_call 39; refine (lead_any x0.toNat (by omega) _).mono ?_; rintro e w' ⟨rfl, rfl⟩)
  generalize leadK x0.toNat = k at *
  go_loop [5, 6] (fun n i => ∃ j : Nat, 1 ≤ j ∧ j ≤ k ∧ i = .int .i64 j ∧ n = .int .i64 (accL s.data.toList j)) (fun _ i => k - (intOf i).toNat)
  case atStart => exact ⟨1, by omega, hk1, rfl, by rw [HA.out]⟩
  case round =>
    obtain ⟨j, hj1, hjk, rfl, rfl⟩ := hrel
    have hb := accL_lt s.data.toList j (by omega)
    by_cases hlt : j < k
    · have hjs : j < s.size := by omega
      obtain ⟨xj, hxj⟩ : ∃ xj, s[j]'hjs = xj := ⟨_, rfl⟩
      have lj := xj.toNat_lt
      have HS : Hid (accL s.data.toList (j + 1) = 64 * accL s.data.toList j + xj.toNat % 64) := by
        rw [accL_succ _ _ hj1, nb_get s j hjs, hxj]; rfl
      go_wp2
      go_round
      case rel => exact ⟨j + 1, by omega, by omega, by go_num, by rw [HS.out]; go_num⟩
      case measure => simp [intOf]; omega
    · obtain rfl : j = k := by omega
      cases hp : ptB (accL s.data.toList j : Nat) with
      | false =>
        have hf : firstL s.data.toList = (0, 0) := by rw [HF.out, if_neg (by rw [hp]; simp)]
        have HE := Lib.hid hf
        have HP := Lib.hid hp
        clear hp hf
        go_wp2_with fail
        go_quiet ((go_at_call 29; exact Calls.quiet_of_same (point_bool _ false HP.out _)))
        go_wp2
        go_ret2
        exact ⟨by rw [HE.out]; rfl, below_drewN (Below.refl _ _) _⟩
      | true =>
        have hpt : accL s.data.toList j ≤ 1114111 := ((ptB_iff _).1 hp).1
        have HP := Lib.hid hp
        clear hp
        go_wp2_with fail
        go_region_with (first | (go_at_call 29; refine (point_bool _ true HP.out _).mono ?_; rintro e w' ⟨rfl, rfl⟩) | (go_at_call 38; refine (bytes_any _ hpt _).mono ?_; rintro e w' ⟨rfl, hb1⟩))
        go_wp2_with fail
        · have ht : (!encN (accL s.data.toList j) == (s.extract 0 j).toList) = true := by assumption
          go_ret2
          refine ⟨?_, ((Below.refl _ _).drew).trans (hb1.mono (Nat.le_refl _))⟩
          rw [HF.out, if_neg (by
            intro hh
            rw [ext0, hh.2] at ht
            simp at ht)]
          rfl
        · have ht : (!encN (accL s.data.toList j) == (s.extract 0 j).toList) = false := by assumption
          go_ret2
          refine ⟨?_, ((Below.refl _ _).drew).trans (hb1.mono (Nat.le_refl _))⟩
          rw [HF.out, if_pos (by
            refine ⟨HP.out, ?_⟩
            rw [ext0] at ht
            simpa using ht)]
          rfl

end Go.Proofs.YtnchaidmbdalbaaDoor
