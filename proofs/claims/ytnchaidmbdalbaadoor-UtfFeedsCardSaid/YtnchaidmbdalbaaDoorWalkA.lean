/- The small functions that only reckon with numbers. -/
import Derived.Test.YtnchaidmbdalbaaDoorProg
import Derived.Test.YtnchaidmbdalbaaDoorPureB
import Derived.WalkKit
import Derived.WalkSpells
import Derived.WalkLawsBesides
import Derived.BigQuiet
import Derived.Deep.QuietTactic
import Derived.Outline
import Derived.Lib.SlBytesRow
import Derived.Lib.SlBytesConst
namespace Go.Proofs.YtnchaidmbdalbaaDoor
open Go.RowKit


theorem ret_bool {a b : Bool} (h : a = b) : Ending.returned (.bool a) = .returned (.bool b) := by rw [h]
theorem isPoint_any (n : Int) (w : World) : Calls Tryd.prog 27 #[.int .i64 n] w fun e w' => e = .returned (.bool (ptB n)) ∧ w = w' := by
  go_enter Tryd.func27, Tryd.ntmps27
  go_wp2
  all_goals go_ret
  all_goals refine ⟨ret_bool ?_, rfl⟩
  all_goals (unfold ptB; rw [Bool.eq_iff_iff]; simp only [Bool.or_eq_true, decide_eq_true_eq, Bool.false_eq_true, false_iff, true_iff]; omega)

theorem point_any (n : Int) (w : World) : Calls Tryd.prog 29 #[.int .i64 n] w fun e w' => e = .returned (.bool (ptB n)) ∧ w = w' := by
  go_enter Tryd.func29, Tryd.ntmps29
  go_wp2
  all_goals go_ret
  all_goals refine ⟨ret_bool ?_, rfl⟩
  all_goals (unfold ptB; rw [Bool.eq_iff_iff]; simp only [Bool.or_eq_true, decide_eq_true_eq, Bool.false_eq_true, false_iff, true_iff]; omega)

theorem ret_two {a b c d : Int} (h : a = c) (h2 : b = d) : Ending.returned (.tuple #[.int .i64 a, .int .i64 b]) = .returned (.tuple #[.int .i64 c, .int .i64 d]) := by rw [h, h2]

set_option maxRecDepth 100000 in
theorem lead_any (c : Nat) (hc : c < 256) (w : World) : Calls Tryd.prog 39 #[.int .u8 c] w fun e w' => e = .returned (.tuple #[.int .i64 (leadK c), .int .i64 (leadN c)]) ∧ w = w' := by
  go_enter Tryd.func39, Tryd.ntmps39
  go_wp2
  all_goals go_ret2
  all_goals refine ⟨ret_two ?_ ?_, rfl⟩
  all_goals (first | unfold leadK | unfold leadN)
  all_goals ((repeat' split) <;> omega)

/-- 'string(b)' of a new row of bytes. -/
theorem conv_new (w : World) (zs : List Int) (l : List UInt8) (n : Nat) (hn : n = l.length) (hl : l.map (fun b => (b.toNat : Int)) = zs) (c : Nat) (C : Array Value) (hC : C = (zs.map (Value.int .u8)).toArray) :
    (convert 22 9 (.slice (some ⟨w.heap.size, 0, none⟩) n c)).run Tryd.prog (w.alloc (.cells C 5)) = .ok (.string ⟨l.toArray⟩) (w.alloc (.cells C 5)) := by
  subst hn
  refine run_convert_bytes_back (P := Tryd.prog) _ 22 9 5 ⟨w.heap.size, 0, none⟩ c l Tryd.underlying22 Tryd.underlying5 Tryd.underlying9 (fun j hj => ?_)
  have e : (⟨w.heap.size, 0, none⟩ : Addr).add j = ⟨w.heap.size, j, none⟩ := by simp [Addr.add]; omega
  rw [e, World.cell?_alloc_mark, hC, ← hl]
  simp [List.getElem?_eq_getElem hj]

theorem enc1 {n : Nat} (h : n ≤ 127) : encN n = [n.toUInt8] := if_pos h
theorem enc2 {n : Nat} (h1 : ¬ n ≤ 127) (h : n ≤ 2047) : encN n = [(192 + n / 64).toUInt8, (128 + n % 64).toUInt8] := by unfold encN; rw [if_neg h1, if_pos h]
theorem enc3 {n : Nat} (h1 : ¬ n ≤ 127) (h2 : ¬ n ≤ 2047) (h : n ≤ 65535) : encN n = [(224 + n / 4096).toUInt8, (128 + n / 64 % 64).toUInt8, (128 + n % 64).toUInt8] := by unfold encN; rw [if_neg h1, if_neg h2, if_pos h]
theorem enc4 {n : Nat} (h1 : ¬ n ≤ 127) (h2 : ¬ n ≤ 2047) (h3 : ¬ n ≤ 65535) : encN n = [(240 + n / 262144).toUInt8, (128 + n / 4096 % 64).toUInt8, (128 + n / 64 % 64).toUInt8, (128 + n % 64).toUInt8] := by unfold encN; rw [if_neg h1, if_neg h2, if_neg h3]
theorem u8i {n : Nat} (h : n < 256) : ((n.toUInt8).toNat : Int) = (n : Int) := by rw [u8_toNat h]

set_option maxRecDepth 100000 in
theorem bytes_any (n : Nat) (hn : n ≤ 1114111) (w : World) : Calls Tryd.prog 38 #[.int .i64 n] w fun e w' => e = .returned (.string ⟨(encN n).toArray⟩) ∧ Below w.heap.size w w' := by
  by_cases h1 : n ≤ 127
  · have hc := conv_new w [(n : Int)] (encN n) 1 (by rw [enc1 h1]; rfl) (by rw [enc1 h1]; simp only [List.map_cons, List.map_nil]; rw [u8i (by omega)]) 1 _ rfl
    have e1 : ((n : Int) ≤ 127) := by omega
    simp only [List.map_cons, List.map_nil] at hc
    go_enter Tryd.func38, Tryd.ntmps38
    go_wp2
    go_ret
    exact ⟨rfl, (Below.refl _ _).alloc (Nat.le_refl _) _⟩
  by_cases h2 : n ≤ 2047
  · have hc := conv_new w [(192 + n / 64 : Int), (128 + n % 64 : Int)] (encN n) 2 (by rw [enc2 h1 h2]; rfl) (by rw [enc2 h1 h2]; simp only [List.map_cons, List.map_nil]; rw [u8i (by omega), u8i (by omega)]; simp) 2 _ rfl
    have e1 : ¬ ((n : Int) ≤ 127) := by omega
    have e2 : ((n : Int) ≤ 2047) := by omega
    simp only [List.map_cons, List.map_nil] at hc
    go_enter Tryd.func38, Tryd.ntmps38
    go_wp2
    go_ret
    exact ⟨rfl, (Below.refl _ _).alloc (Nat.le_refl _) _⟩
  by_cases h3 : n ≤ 65535
  · have hc := conv_new w [(224 + n / 4096 : Int), (128 + n / 64 % 64 : Int), (128 + n % 64 : Int)] (encN n) 3 (by rw [enc3 h1 h2 h3]; rfl) (by rw [enc3 h1 h2 h3]; simp only [List.map_cons, List.map_nil]; rw [u8i (by omega), u8i (by omega), u8i (by omega)]; simp) 3 _ rfl
    have e1 : ¬ ((n : Int) ≤ 127) := by omega
    have e2 : ¬ ((n : Int) ≤ 2047) := by omega
    have e3 : ((n : Int) ≤ 65535) := by omega
    simp only [List.map_cons, List.map_nil] at hc
    go_enter Tryd.func38, Tryd.ntmps38
    go_wp2
    go_ret
    exact ⟨rfl, (Below.refl _ _).alloc (Nat.le_refl _) _⟩
  · have hc := conv_new w [(240 + n / 262144 : Int), (128 + n / 4096 % 64 : Int), (128 + n / 64 % 64 : Int), (128 + n % 64 : Int)] (encN n) 4 (by rw [enc4 h1 h2 h3]; rfl) (by rw [enc4 h1 h2 h3]; simp only [List.map_cons, List.map_nil]; rw [u8i (by omega), u8i (by omega), u8i (by omega), u8i (by omega)]; simp) 4 _ rfl
    have e1 : ¬ ((n : Int) ≤ 127) := by omega
    have e2 : ¬ ((n : Int) ≤ 2047) := by omega
    have e3 : ¬ ((n : Int) ≤ 65535) := by omega
    simp only [List.map_cons, List.map_nil] at hc
    go_enter Tryd.func38, Tryd.ntmps38
    go_wp2
    go_ret
    exact ⟨rfl, (Below.refl _ _).alloc (Nat.le_refl _) _⟩

end Go.Proofs.YtnchaidmbdalbaaDoor
