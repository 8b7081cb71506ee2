/- Signs, numbers, schemes, names, queries: the program's. -/
import Derived.Test.YtmlanlagnhnppaaDoorWalkA
namespace Go.Proofs.YtmlanlagnhnppaaDoor
open Go.RowKit

theorem at_b {s : ByteArray} {k : Nat} (h : k < s.size) : ∃ b, s.data.toList[k]? = some b ∧ s.data.toList[k]'(by rw [lsize]; exact h) = b ∧ s[k] = b := ⟨s[k], by rw [List.getElem?_eq_getElem (by rw [lsize]; exact h)]; rfl, rfl, rfl⟩
theorem take_snoc {s : ByteArray} {k : Nat} (h : k < s.size) : s.data.toList.take (k + 1) = s.data.toList.take k ++ [s[k]] := by
  rw [List.take_succ_eq_append_getElem (by simpa using h)]; rfl
theorem take_all (s : ByteArray) : s.data.toList.take s.size = s.data.toList := List.take_of_length_le (by rw [lsize]; exact Nat.le_refl _)
theorem all_step {s : ByteArray} {k : Nat} (p : UInt8 → Bool) (h : k < s.size) (h1 : (s.data.toList.take k).all p = true) : (p s[k] = true → (s.data.toList.take (k + 1)).all p = true) ∧ (p s[k] = false → s.data.toList.all p = false) := by
  constructor
  · intro hp
    rw [take_snoc h, List.all_append, h1]; simp [hp]
  · intro hp
    rw [List.all_eq_false]
    exact ⟨s[k], List.getElem_mem (by rw [lsize]; exact h), by rw [hp]; simp⟩
theorem indexByte_mem (l : List UInt8) (c : UInt8) : (l.contains c = true ∧ 0 ≤ Lib.indexByte l c) ∨ (l.contains c = false ∧ Lib.indexByte l c = -1) := by
  induction l with
  | nil => exact .inr ⟨rfl, rfl⟩
  | cons b l ih =>
    unfold Lib.indexByte
    cases hb : (b == c)
    · have hb' : (c == b) = false := by rw [Bool.eq_false_iff] at hb ⊢; intro h; exact hb (by rw [eq_of_beq h]; simp)
      simp only [List.contains_cons, hb', Bool.false_or, Bool.false_eq_true, if_false]
      rcases ih with ⟨h1, h2⟩ | ⟨h1, h2⟩
      · left
        refine ⟨h1, ?_⟩
        rw [if_neg (by simp; omega)]; omega
      · right
        refine ⟨h1, ?_⟩
        rw [h2]; rfl
    · left
      have := eq_of_beq hb
      subst this
      simp
theorem indexByte_hid (t : ByteArray) (c : UInt8) (n : Int) (hn : Lib.indexByte t.data.toList c = n) : Hid (∀ W, Calls Tryd.prog 78 #[.string t, .int .u8 (c.toNat : Int)] W fun e w' => e = .returned (.int .i64 n) ∧ w' = W) :=
  Lib.hid fun W => by
    have h := Tryd.strings_IndexByte t (c.toNat : Int) W
    have e : ((c.toNat : Int)).toNat.toUInt8 = c := by simp
    rw [e] at h
    rw [← hn]
    exact h

theorem text_lit (s : ByteArray) (l : List UInt8) : (s.toList == l) = decide (s.data.toList = l) := by
  rw [ByteArray.toList_eq, Bool.eq_iff_iff]
  simp
/-! Numbers. -/
def numP (l : List UInt8) : Nat × Bool := match numM l with | some n => (n, true) | none => (0, false)
theorem numV_snoc (l : List UInt8) (b : UInt8) : numV (l ++ [b]) = numV l * 10 + (b.toNat - 48) := by simp [numV]
theorem numV_lt (l : List UInt8) (h : l.all digit = true) : numV l < 10 ^ l.length := by
  induction l using list_snoc with
  | nil => exact Nat.one_pos
  | append_singleton l b ih =>
    rw [List.all_append, Bool.and_eq_true] at h
    have h1 := ih h.1
    have h2 : 48 ≤ b.toNat ∧ b.toNat ≤ 57 := by simpa [digit] using h.2
    rw [numV_snoc, List.length_append, List.length_singleton, Nat.pow_succ]
    omega
theorem pow_five {k : Nat} (h : k ≤ 5) : 10 ^ k ≤ 100000 := Nat.pow_le_pow_right (n := 10) (by decide) h

/-! Schemes and names. -/
end Go.Proofs.YtmlanlagnhnppaaDoor
