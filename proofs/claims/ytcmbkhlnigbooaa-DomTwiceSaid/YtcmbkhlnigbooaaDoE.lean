/- The document's own: may a node be. -/
import Derived.Test.YtcmbkhlnigbooaaDoZ
namespace Go.Proofs.Ytcmbkhlnigbooaa.Dm
open Go.RowKit

theorem arr_empty (x : Array UInt8) : x.isEmpty = decide (x = #[]) := by
  cases h : x.isEmpty
  · symm
    rw [decide_eq_false_iff_not]
    intro e
    rw [e] at h
    cases h
  · symm
    rw [decide_eq_true_eq]
    exact Array.isEmpty_iff.1 h
theorem text_ext {X Y : ByteArray} (h : X.data.toList = Y.data.toList) : X = Y := ByteArray.ext (Array.toList_inj.1 h)

set_option maxRecDepth 100000 in
set_option maxHeartbeats 4000000 in
theorem may_one (N D : ByteArray) (p : Int) (b s : Bool) (A : List (List UInt8 × List UInt8)) (a : Option Addr) (c : Nat) (kv : Value) (w : World) : Calls Try.prog 44 #[.agg #[.int .i64 1, .string N, .string D, .slice a A.length c, .int .i64 p, kv, .bool b, .bool s]] w fun e w' => e = .returned (.bool (decide (A.length = 0) && !b && !s && decide (N.data.toList = []) && decide (D.data.toList = []))) ∧ Below w.heap.size w w' := by
  have al := (Below.refl w.heap.size w).alloc (Nat.le_refl _) (.cells #[.int .i64 1, .string N, .string D, .slice a A.length c, .int .i64 p, kv, .bool b, .bool s] 42)
  have hbx := new_block w (.cells #[.int .i64 1, .string N, .string D, .slice a A.length c, .int .i64 p, kv, .bool b, .bool s] 42)
  generalize hw1 : w.alloc (.cells #[.int .i64 1, .string N, .string D, .slice a A.length c, .int .i64 p, kv, .bool b, .bool s] 42) = w1 at al hbx
  have e0 := cell_of hbx 0
  have e1 := cell_of hbx 1
  have e2 := cell_of hbx 2
  have e3 := cell_of hbx 3
  have e6 := cell_of hbx 6
  have e7 := cell_of hbx 7
  have HB := Lib.hid al
  clear al hbx
  go_enter Try.func44, Try.ntmps44
  go_wp2
  all_goals go_ret
  all_goals refine ⟨?_, HB.out⟩
  all_goals clear hw1 e0 e1 e2 e3 e6 e7
  all_goals simp_all [ByteArray.toList_eq]
  all_goals first | done | exact arr_empty _

set_option maxRecDepth 100000 in
set_option maxHeartbeats 4000000 in
theorem may_three (N D : ByteArray) (p : Int) (b s : Bool) (A : List (List UInt8 × List UInt8)) (a : Option Addr) (c : Nat) (kv : Value) (w : World) : Calls Try.prog 44 #[.agg #[.int .i64 3, .string N, .string D, .slice a A.length c, .int .i64 p, kv, .bool b, .bool s]] w fun e w' => e = .returned (.bool (decide (A.length = 0) && !b && !s && decide (N.data.toList = []))) ∧ Below w.heap.size w w' := by
  have al := (Below.refl w.heap.size w).alloc (Nat.le_refl _) (.cells #[.int .i64 3, .string N, .string D, .slice a A.length c, .int .i64 p, kv, .bool b, .bool s] 42)
  have hbx := new_block w (.cells #[.int .i64 3, .string N, .string D, .slice a A.length c, .int .i64 p, kv, .bool b, .bool s] 42)
  generalize hw1 : w.alloc (.cells #[.int .i64 3, .string N, .string D, .slice a A.length c, .int .i64 p, kv, .bool b, .bool s] 42) = w1 at al hbx
  have e0 := cell_of hbx 0
  have e1 := cell_of hbx 1
  have e2 := cell_of hbx 2
  have e3 := cell_of hbx 3
  have e6 := cell_of hbx 6
  have e7 := cell_of hbx 7
  have HB := Lib.hid al
  clear al hbx
  go_enter Try.func44, Try.ntmps44
  go_wp2
  all_goals go_ret
  all_goals refine ⟨?_, HB.out⟩
  all_goals clear hw1 e0 e1 e2 e3 e6 e7
  all_goals simp_all [ByteArray.toList_eq]
  all_goals first | done | exact arr_empty _

set_option maxRecDepth 100000 in
set_option maxHeartbeats 4000000 in
theorem may_four (N D : ByteArray) (p : Int) (b s : Bool) (A : List (List UInt8 × List UInt8)) (a : Option Addr) (c : Nat) (kv : Value) (w : World) : Calls Try.prog 44 #[.agg #[.int .i64 4, .string N, .string D, .slice a A.length c, .int .i64 p, kv, .bool b, .bool s]] w fun e w' => e = .returned (.bool (decide (A.length = 0) && !b && !s && decide (N.data.toList = []))) ∧ Below w.heap.size w w' := by
  have al := (Below.refl w.heap.size w).alloc (Nat.le_refl _) (.cells #[.int .i64 4, .string N, .string D, .slice a A.length c, .int .i64 p, kv, .bool b, .bool s] 42)
  have hbx := new_block w (.cells #[.int .i64 4, .string N, .string D, .slice a A.length c, .int .i64 p, kv, .bool b, .bool s] 42)
  generalize hw1 : w.alloc (.cells #[.int .i64 4, .string N, .string D, .slice a A.length c, .int .i64 p, kv, .bool b, .bool s] 42) = w1 at al hbx
  have e0 := cell_of hbx 0
  have e1 := cell_of hbx 1
  have e2 := cell_of hbx 2
  have e3 := cell_of hbx 3
  have e6 := cell_of hbx 6
  have e7 := cell_of hbx 7
  have HB := Lib.hid al
  clear al hbx
  go_enter Try.func44, Try.ntmps44
  go_wp2
  all_goals go_ret
  all_goals refine ⟨?_, HB.out⟩
  all_goals clear hw1 e0 e1 e2 e3 e6 e7
  all_goals simp_all [ByteArray.toList_eq]
  all_goals first | done | exact arr_empty _

set_option maxRecDepth 100000 in
set_option maxHeartbeats 4000000 in
theorem may_none (N D : ByteArray) (p : Int) (b s : Bool) (A : List (List UInt8 × List UInt8)) (a : Option Addr) (c : Nat) (kv : Value) (w : World) (k : Int) (h1 : k ≠ 1) (h2 : k ≠ 2) (h3 : k ≠ 3) (h4 : k ≠ 4) : Calls Try.prog 44 #[.agg #[.int .i64 k, .string N, .string D, .slice a A.length c, .int .i64 p, kv, .bool b, .bool s]] w fun e w' => e = .returned (.bool (false)) ∧ Below w.heap.size w w' := by
  have g1 : (k == 1) = false := by simp [h1]
  have g2 : (k == 2) = false := by simp [h2]
  have g3 : (k == 3) = false := by simp [h3]
  have g4 : (k == 4) = false := by simp [h4]
  have al := (Below.refl w.heap.size w).alloc (Nat.le_refl _) (.cells #[.int .i64 k, .string N, .string D, .slice a A.length c, .int .i64 p, kv, .bool b, .bool s] 42)
  have hbx := new_block w (.cells #[.int .i64 k, .string N, .string D, .slice a A.length c, .int .i64 p, kv, .bool b, .bool s] 42)
  generalize hw1 : w.alloc (.cells #[.int .i64 k, .string N, .string D, .slice a A.length c, .int .i64 p, kv, .bool b, .bool s] 42) = w1 at al hbx
  have e0 := cell_of hbx 0
  have e1 := cell_of hbx 1
  have e2 := cell_of hbx 2
  have e3 := cell_of hbx 3
  have e6 := cell_of hbx 6
  have e7 := cell_of hbx 7
  have HB := Lib.hid al
  clear al hbx
  go_enter Try.func44, Try.ntmps44
  go_wp2
  all_goals go_ret
  all_goals refine ⟨?_, HB.out⟩
  all_goals clear hw1 e0 e1 e2 e3 e6 e7
  all_goals rfl

set_option maxRecDepth 100000 in
set_option maxHeartbeats 4000000 in
theorem may_two0 (N D : ByteArray) (p : Int) (b s : Bool) (A : List (List UInt8 × List UInt8)) (a : Option Addr) (c : Nat) (kv : Value) (w : World) (hA : A = []) : Calls Try.prog 44 #[.agg #[.int .i64 2, .string N, .string D, .slice a A.length c, .int .i64 p, kv, .bool b, .bool s]] w fun e w' => e = .returned (.bool (decide (A.map Prod.fst).Nodup && decide (N.data.toList ≠ []) && decide (D.data.toList = []) && decide (A.length ≤ 30))) ∧ Below w.heap.size w w' := by
  subst hA
  rw [List.length_nil]
  have al := (Below.refl w.heap.size w).alloc (Nat.le_refl _) (.cells #[.int .i64 2, .string N, .string D, .slice a 0 c, .int .i64 p, kv, .bool b, .bool s] 42)
  have hbx := new_block w (.cells #[.int .i64 2, .string N, .string D, .slice a 0 c, .int .i64 p, kv, .bool b, .bool s] 42)
  generalize hw1 : w.alloc (.cells #[.int .i64 2, .string N, .string D, .slice a 0 c, .int .i64 p, kv, .bool b, .bool s] 42) = w1 at al hbx
  have e0 := cell_of hbx 0
  have e1 := cell_of hbx 1
  have e2 := cell_of hbx 2
  have e3 := cell_of hbx 3
  have e6 := cell_of hbx 6
  have e7 := cell_of hbx 7
  have HB := Lib.hid al
  clear al hbx
  go_enter Try.func44, Try.ntmps44
  go_wp2
  all_goals refine wp_loop_rounds 1 ?_
  all_goals rw [rounds_succ]
  all_goals go_wp2
  all_goals go_ret
  all_goals refine ⟨?_, HB.out⟩
  all_goals clear hw1 e0 e1 e2 e3 e6 e7
  all_goals simp_all [ByteArray.toList_eq]
  all_goals first | done | exact arr_empty _

set_option maxRecDepth 100000 in
set_option maxHeartbeats 4000000 in
theorem may_two (N D : ByteArray) (p : Int) (b s : Bool) (A : List (List UInt8 × List UInt8)) (a : Option Addr) (c : Nat) (kv : Value) (w : World) (ha : AtIn w (.slice a A.length c) A) (hl : A.length ≤ 1000) (h0 : A ≠ []) : Calls Try.prog 44 #[.agg #[.int .i64 2, .string N, .string D, .slice a A.length c, .int .i64 p, kv, .bool b, .bool s]] w fun e w' => e = .returned (.bool (decide (A.map Prod.fst).Nodup && decide (N.data.toList ≠ []) && decide (D.data.toList = []) && decide (A.length ≤ 30))) ∧ Below w.heap.size w w' := by
  have al := (Below.refl w.heap.size w).alloc (Nat.le_refl _) (.cells #[.int .i64 2, .string N, .string D, .slice a A.length c, .int .i64 p, kv, .bool b, .bool s] 42)
  have hbx := new_block w (.cells #[.int .i64 2, .string N, .string D, .slice a A.length c, .int .i64 p, kv, .bool b, .bool s] 42)
  generalize hw1 : w.alloc (.cells #[.int .i64 2, .string N, .string D, .slice a A.length c, .int .i64 p, kv, .bool b, .bool s] 42) = w1 at al hbx
  have e0 := cell_of hbx 0
  have e1 := cell_of hbx 1
  have e2 := cell_of hbx 2
  have e3 := cell_of hbx 3
  have e6 := cell_of hbx 6
  have e7 := cell_of hbx 7
  have HA := Lib.hid (ha.below al)
  have H1 := Lib.hid al
  have g0 : ¬ ((A.length : Int) = 0) := by
    have := List.length_pos_iff.2 h0
    omega
  have g00 : ((A.length : Int) == 0) = false := by simp; exact h0
  have z30 : decide ((A.length : Int) ≤ 30) = decide (A.length ≤ 30) := by
    by_cases h : A.length ≤ 30
    · rw [decide_eq_true h, decide_eq_true (by omega)]
    · rw [decide_eq_false h, decide_eq_false (by omega)]
  have HZ := Lib.hid z30
  clear al hbx ha z30
  go_enter Try.func44, Try.ntmps44
  go_wp2
  go_loopw [4] (fun i wr => ∃ u n : Nat, i = .int .i64 u ∧ u ≤ A.length ∧ Hid (Unlike A u) ∧ wr = w1.drewN n) (fun i _ => A.length - (intOf i).toNat)
  case atStart => exact ⟨0, 0, rfl, Nat.zero_le _, Lib.hid (fun p q hq h => absurd h (Nat.not_lt_zero _)), rfl⟩
  case round =>
    obtain ⟨u, n, rfl, hu, HU, rfl⟩ := hrel
    by_cases hlt : u < A.length
    · obtain ⟨B, off, rfl, c0, -⟩ := HA.out.at hlt
      obtain ⟨X, hX⟩ := text_of A[u].1
      rw [strV_of hX] at c0
      have zu : (u : Int) < (A.length : Int) := by omega
      have HX := Lib.hid hX
      clear hX
      go_wp2
      go_hide hQ
      go_loopw [5] (fun j wr => ∃ v n : Nat, j = .int .i64 v ∧ v ≤ u ∧ Hid (∀ q (h : q < A.length), q < v → A[q].1 ≠ A[u].1) ∧ wr = w1.drewN n) (fun j _ => u - (intOf j).toNat)
      case atStart => exact ⟨0, n, rfl, Nat.zero_le _, Lib.hid (fun q _ h => absurd h (Nat.not_lt_zero _)), rfl⟩
      case round =>
        obtain ⟨v, n, rfl, hv, HV, rfl⟩ := hrel
        by_cases hlv : v < u
        · obtain ⟨B', off', hB, d0, -⟩ := HA.out.at (show v < A.length by omega)
          cases hB
          obtain ⟨Y, hY⟩ := text_of A[v].1
          rw [strV_of hY] at d0
          have zv : (v : Int) < (u : Int) := by omega
          have zv2 : (v : Int) < (A.length : Int) := by omega
          by_cases he : X = Y
          · have HN : Hid (¬ (A.map Prod.fst).Nodup) := Lib.hid (like_nodup hlt hlv (by rw [← hY, ← HX.out, he]))
            subst he
            have ze : (X.toList == X.toList) = true := by simp
            clear hY
            go_wp2_with fail
            go_quiet (fail)
            go_wp2
            subst hQ
            go_wp2
            go_ret
            exact ⟨by rw [decide_eq_false HN.out]; rfl, belowN (belowN H1.out _) _⟩
          · have ze : (X.toList == Y.toList) = false := by
              rw [text_lit]
              exact decide_eq_false fun h => he (text_ext (h.trans (ByteArray.toList_eq Y)))
            have HV2 : Hid (∀ q (h : q < A.length), q < v + 1 → A[q].1 ≠ A[u].1) := Lib.hid fun q h hq => by
              by_cases e : q = v
              · subst e
                rw [← hY, ← HX.out]
                intro h
                exact he (text_ext h.symm)
              · exact HV.out q h (by omega)
            clear he hY HV
            go_wp2_with fail
            go_quiet (fail)
            go_wp2
            go_roundw
            case rel => exact ⟨v + 1, n + nq, by go_num, by omega, HV2, rfl⟩
            case measure => simp [intOf]; omega
        · obtain rfl : v = u := by omega
          have zv : ¬ (v : Int) < (v : Int) := by omega
          have HU2 : Hid (Unlike A (v + 1)) := Lib.hid fun p q hq h hp => by
            by_cases e : q = v
            · subst e; exact HV.out p (by omega) hp
            · exact HU.out p q hq (by omega) hp
          clear HU HV
          go_wp2_with fail
          subst hQ
          go_wp2
          go_roundw
          case rel => exact ⟨v + 1, n, by go_num, by omega, HU2, rfl⟩
          case measure => simp [intOf]; omega
    · obtain rfl : u = A.length := by omega
      have hnd : decide (A.map Prod.fst).Nodup = true := decide_eq_true (unlike_nodup HU.out)
      clear HU
      go_wp2
      all_goals go_ret
      all_goals refine ⟨?_, belowN H1.out _⟩
      all_goals rw [hnd]
      all_goals have hz := HZ.out
      all_goals clear hw1 e0 e1 e2 e3 e6 e7 hnd HZ g0 g00
      all_goals simp_all [ByteArray.toList_eq, arr_empty]

end Go.Proofs.Ytcmbkhlnigbooaa.Dm
