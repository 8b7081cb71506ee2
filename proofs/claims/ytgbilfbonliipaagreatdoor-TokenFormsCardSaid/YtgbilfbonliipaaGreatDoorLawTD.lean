/- The law TokenForms: names without great letters, none there twice. -/
import Derived.Test.YtgbilfbonliipaaGreatDoorLawTC
namespace Go.Proofs.YtgbilfbonliipaaGreatDoor
open Go.RowKit

theorem low_small {l : List UInt8} (h : low l = l) {i : Nat} {c : UInt8} (hc : l[i]? = some c) : ¬ ((65 : Int) ≤ (c.toNat : Int) ∧ (c.toNat : Int) ≤ 90) := fun hh => by
  have h1 : (low l)[i]? = some (lowB c) := by unfold low; rw [List.getElem?_map, hc]; rfl
  rw [h, hc] at h1
  have h2 := congrArg UInt8.toNat (Option.some.inj h1)
  unfold lowB at h2
  rw [if_pos ⟨by omega, by omega⟩, UInt8.toNat_add] at h2
  have h3 : (32 : UInt8).toNat = 32 := rfl
  omega

set_option maxRecDepth 100000 in
set_option maxHeartbeats 4000000 in
theorem great_hid (N : ByteArray) (h : low N.data.toList = N.data.toList) (hl : N.size ≤ 1000000) : Hid (∀ W, Calls Tryz.prog 21 #[.string N] W fun e w' => e = .returned (.bool false) ∧ w' = W) := Lib.hid fun w => by
  have HN := Lib.hid h
  clear h
  go_enter Tryz.func21, Tryz.ntmps21
  go_wp2
  go_loop [3] (fun i => ∃ k : Nat, i = .int .i64 k ∧ k ≤ N.size) (fun i => N.size - (intOf i).toNat)
  case atStart => exact ⟨0, rfl, Nat.zero_le _⟩
  case round =>
    obtain ⟨k, rfl, hk⟩ := hrel
    cases hc : N.data.toList[k]? with
    | none =>
      have h1 := get_none hc
      have z1 : ¬ (k : Int) < (N.size : Int) := by omega
      clear hc h1
      go_wp2
      go_ret
      exact ⟨rfl, rfl⟩
    | some c =>
      have h1 := get_some hc
      have z1 : (k : Int) < (N.size : Int) := by omega
      have i0 := index_ty Tryz.underlying9 N k c hc
      have hno := low_small HN.out hc
      clear hc
      by_cases h65 : (65 : Int) ≤ (c.toNat : Int)
      · have h90 : ¬ (c.toNat : Int) ≤ 90 := fun e => hno ⟨h65, e⟩
        clear hno
        go_wp2
        go_round
        case rel => exact ⟨k + 1, by go_num, by omega⟩
        case measure => simp [intOf]; omega
      · clear hno
        go_wp2
        go_round
        case rel => exact ⟨k + 1, by go_num, by omega⟩
        case measure => simp [intOf]; omega

set_option maxRecDepth 100000 in
set_option maxHeartbeats 8000000 in
theorem twice_hid (A : List (List UInt8 × List UInt8)) (h1 : ∀ y ∈ A, low y.1 = y.1) (h2 : (A.map Prod.fst).Nodup) (h3 : ∀ y ∈ A, y.1.length ≤ 1000000) (hl : A.length ≤ 1000000) : Hid (∀ W v, AtIn W v A → Calls Tryz.prog 22 #[v] W fun e w' => e = .returned (.bool false) ∧ Below W.heap.size W w') := Lib.hid fun w v hv => by
  obtain ⟨a, c, rfl⟩ := hv.form
  have HV := Lib.hid hv
  have HL := Lib.hid h1
  have HD := Lib.hid h2
  have HS := Lib.hid h3
  clear hv h1 h2 h3
  go_enter Tryz.func22, Tryz.ntmps22
  go_wp2
  go_loopw [3, 4] (fun i _ wr => ∃ k n : Nat, i = .int .i64 k ∧ k ≤ A.length ∧ wr = w.drewN n) (fun i _ _ => A.length - (intOf i).toNat)
  case atStart => exact ⟨0, 0, rfl, Nat.zero_le _, rfl⟩
  case round =>
    obtain ⟨k, n, rfl, hk, rfl⟩ := hrel
    by_cases hlt : k < A.length
    · obtain ⟨B, off, rfl, c0, c1⟩ := HV.out.at hlt
      obtain ⟨X, hX⟩ := text_of A[k].1
      rw [strV_of hX] at c0
      have hmem := List.getElem_mem hlt
      have CG := great_hid X (by rw [hX]; exact HL.out _ hmem) (by rw [← lsize, hX]; exact HS.out _ hmem)
      have HX := Lib.hid hX
      have zk : (k : Int) < (A.length : Int) := by omega
      clear hX c1 hmem
      go_wp2_with fail
      (with_reducible refine (CG.out _).mono ?_)
      rintro e w1 ⟨rfl, hw1⟩
      subst hw1
      clear CG
      go_wp2
      go_loopw [4] (fun j wr => ∃ q m : Nat, j = .int .i64 q ∧ q ≤ k ∧ wr = w.drewN m) (fun j _ => k - (intOf j).toNat)
      case atStart => exact ⟨0, n, rfl, Nat.zero_le _, rfl⟩
      case round =>
        obtain ⟨q, m, rfl, hq, rfl⟩ := hrel
        by_cases hqk : q < k
        · obtain ⟨B', off', hB, d0, d1⟩ := HV.out.at (k := q) (by omega)
          cases hB
          obtain ⟨Y, hY⟩ := text_of A[q].1
          rw [strV_of hY] at d0
          have hne : X.data.toList ≠ Y.data.toList := fun e => by
            have hnd := HD.out
            refine List.pairwise_iff_getElem.1 hnd q k (by rw [List.length_map]; omega) (by rw [List.length_map]; exact hlt) hqk ?_
            rw [List.getElem_map, List.getElem_map, ← HX.out, ← hY, e]
          have g : (X.toList == Y.toList) = false := by rw [text_eq]; exact decide_eq_false hne
          have zq : (q : Int) < (k : Int) := by omega
          have zq2 : (q : Int) < (A.length : Int) := by omega
          clear hY d1 hne
          go_wp2
          go_quiet (fail)
          go_wp2
          go_roundw
          case rel => exact ⟨q + 1, m + nq, by go_num, by omega, by first | rfl | simp [World.drewN_drewN]⟩
          case measure => simp [intOf]; omega
        · obtain rfl : q = k := by omega
          go_wp2
          go_roundw
          case rel => exact ⟨q + 1, m, by go_num, by omega, rfl⟩
          case measure => simp [intOf]; omega
    · obtain rfl : k = A.length := by omega
      go_wp2
      go_ret
      exact ⟨rfl, belowN (Below.refl _ _) _⟩

end Go.Proofs.YtgbilfbonliipaaGreatDoor
