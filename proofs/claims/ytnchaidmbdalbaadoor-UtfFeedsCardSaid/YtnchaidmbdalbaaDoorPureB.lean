/- The document's own way to find a code point's bytes, and that it is the way of a range. -/
import Derived.Test.YtnchaidmbdalbaaDoorPure
namespace Go.Proofs.YtnchaidmbdalbaaDoor

/-- How many bytes one has that begins so, and what its first byte says of it. -/
def leadK (c : Nat) : Nat := if c < 128 then 1 else if c < 192 then 0 else if c < 224 then 2 else if c < 240 then 3 else if c < 248 then 4 else 0
def leadN (c : Nat) : Nat := if c < 128 then c else if c < 192 then 0 else if c < 224 then c - 192 else if c < 240 then c - 224 else if c < 248 then c - 240 else 0
/-- The number behind i bytes (i at least 1). -/
def accL (l : List UInt8) : Nat → Nat
  | 0 => 0
  | 1 => leadN (nb l 0)
  | i + 2 => 64 * accL l (i + 1) + nb l (i + 1) % 64
theorem accL_one (l : List UInt8) : accL l 1 = leadN (nb l 0) := rfl
theorem accL_succ (l : List UInt8) (i : Nat) (h : 1 ≤ i) : accL l (i + 1) = 64 * accL l i + nb l i % 64 := by
  obtain ⟨j, rfl⟩ : ∃ j, i = j + 1 := ⟨i - 1, by omega⟩
  rfl
theorem leadN_lt (c : Nat) : leadN c < 128 := by
  unfold leadN
  repeat' split
  all_goals omega
theorem accL_lt (l : List UInt8) (i : Nat) (h : i ≤ 4) : accL l i < 33554432 := by
  have h1 := leadN_lt (nb l 0)
  have h2 : accL l 2 = 64 * leadN (nb l 0) + nb l 1 % 64 := rfl
  have h3 : accL l 3 = 64 * accL l 2 + nb l 2 % 64 := rfl
  have h4 : accL l 4 = 64 * accL l 3 + nb l 3 % 64 := rfl
  match i, h with
  | 0, _ => simp [accL]
  | 1, _ => rw [accL_one]; omega
  | 2, _ => omega
  | 3, _ => omega
  | 4, _ => omega
def ptB (n : Int) : Bool := decide (0 ≤ n ∧ n ≤ 1114111 ∧ (n < 55296 ∨ 57343 < n))
theorem ptB_iff (n : Nat) : ptB (n : Int) = true ↔ isPt n := by
  unfold ptB isPt; simp only [decide_eq_true_eq]; omega

/-- First: the code point whose bytes a text begins with, and how many they are. -/
def firstL (l : List UInt8) : Nat × Nat :=
  if leadK (nb l 0) = 0 ∨ l.length < leadK (nb l 0) then (0, 0)
  else if ptB (accL l (leadK (nb l 0)) : Nat) = true ∧ encN (accL l (leadK (nb l 0))) = l.take (leadK (nb l 0)) then (accL l (leadK (nb l 0)), leadK (nb l 0))
  else (0, 0)

/-- A code point's bytes say how many they are, and it. -/
theorem lead_enc (c : Nat) (hc : isPt c) (x : List UInt8) : leadK (nb (encN c ++ x) 0) = (encN c).length ∧ accL (encN c ++ x) (encN c).length = c := by
  unfold isPt at hc
  by_cases h1 : c ≤ 127
  · rw [show encN c = [c.toUInt8] from if_pos h1]
    simp only [List.cons_append, List.nil_append, nb_cons0, List.length_cons, List.length_nil, Nat.zero_add, accL]
    rw [u8_toNat (by omega)]
    unfold leadK leadN
    rw [if_pos (by omega), if_pos (by omega)]
    exact ⟨rfl, rfl⟩
  · by_cases h2 : c ≤ 2047
    · rw [show encN c = [(192 + c / 64).toUInt8, (128 + c % 64).toUInt8] by unfold encN; rw [if_neg h1, if_pos h2]]
      simp only [List.cons_append, List.nil_append, nb_cons0, nb_cons1, List.length_cons, List.length_nil, Nat.zero_add, Nat.reduceAdd, accL]
      rw [u8_toNat (by omega), u8_toNat (by omega)]
      unfold leadK leadN
      rw [if_neg (by omega), if_neg (by omega), if_pos (by omega), if_neg (by omega), if_neg (by omega), if_pos (by omega)]
      exact ⟨rfl, by omega⟩
    · by_cases h3 : c ≤ 65535
      · rw [show encN c = [(224 + c / 4096).toUInt8, (128 + c / 64 % 64).toUInt8, (128 + c % 64).toUInt8] by unfold encN; rw [if_neg h1, if_neg h2, if_pos h3]]
        simp only [List.cons_append, List.nil_append, nb_cons0, nb_cons1, nb_cons2, List.length_cons, List.length_nil, Nat.zero_add, Nat.reduceAdd, accL]
        rw [u8_toNat (by omega), u8_toNat (by omega), u8_toNat (by omega)]
        unfold leadK leadN
        rw [if_neg (by omega), if_neg (by omega), if_neg (by omega), if_pos (by omega), if_neg (by omega), if_neg (by omega), if_neg (by omega), if_pos (by omega)]
        exact ⟨rfl, by omega⟩
      · rw [show encN c = [(240 + c / 262144).toUInt8, (128 + c / 4096 % 64).toUInt8, (128 + c / 64 % 64).toUInt8, (128 + c % 64).toUInt8] by unfold encN; rw [if_neg h1, if_neg h2, if_neg h3]]
        simp only [List.cons_append, List.nil_append, nb_cons0, nb_cons1, nb_cons2, nb_cons3, List.length_cons, List.length_nil, Nat.zero_add, Nat.reduceAdd, accL]
        rw [u8_toNat (by omega), u8_toNat (by omega), u8_toNat (by omega), u8_toNat (by omega)]
        unfold leadK leadN
        rw [if_neg (by omega), if_neg (by omega), if_neg (by omega), if_neg (by omega), if_pos (by omega), if_neg (by omega), if_neg (by omega), if_neg (by omega), if_neg (by omega), if_pos (by omega)]
        exact ⟨rfl, by omega⟩

theorem leadK_le (c : Nat) : leadK c ≤ 4 := by
  unfold leadK
  repeat' split
  all_goals omega

theorem firstL_dec (l : List UInt8) (h : l ≠ []) : ((firstL l).2 = 0 ∧ (firstL l).1 = 0 ∧ decL l = (65533, 1)) ∨ (1 ≤ (firstL l).2 ∧ decL l = firstL l) := by
  rcases decL_cases l h with e | ⟨h1, h2, h3, h4⟩
  · -- a bad byte: First finds none
    unfold firstL
    by_cases hk : leadK (nb l 0) = 0 ∨ l.length < leadK (nb l 0)
    · rw [if_pos hk]; exact .inl ⟨rfl, rfl, e⟩
    · rw [if_neg hk]
      by_cases hp : ptB (accL l (leadK (nb l 0)) : Nat) = true ∧ encN (accL l (leadK (nb l 0))) = l.take (leadK (nb l 0))
      · rw [if_pos hp]
        right
        have hpt := (ptB_iff _).1 hp.1
        have e2 := decL_enc _ hpt (l.drop (leadK (nb l 0)))
        have hlen : (encN (accL l (leadK (nb l 0)))).length = leadK (nb l 0) := by rw [hp.2]; simp; omega
        rw [hp.2, List.take_append_drop] at e2
        rw [← hp.2, hlen] at e2
        exact ⟨by simp only; omega, e2⟩
      · rw [if_neg hp]; exact .inl ⟨rfl, rfl, e⟩
  · right
    have hsplit : l = encN (decL l).1 ++ l.drop (decL l).2 := by rw [h3, List.take_append_drop]
    obtain ⟨q1, q2⟩ := lead_enc _ h1 (l.drop (decL l).2)
    rw [← hsplit, ← h4] at q1 q2
    have hpos := encN_length (decL l).1
    have e : firstL l = decL l := by
      unfold firstL
      rw [q1, if_neg (by omega), q2, if_pos ⟨(ptB_iff _).2 h1, h3⟩]
    rw [e]
    exact ⟨by omega, rfl⟩

end Go.Proofs.YtnchaidmbdalbaaDoor
