/- The first of some bytes in a text (the library's IndexAny at any text): bytes that are none of a text of code points, too. -/
import Derived.Test.YtaldjkbnngeahaaGreatDoorWalkD
import Derived.Laws.Runes
import Derived.Laws.RangeString
import Derived.Laws.RangeAny
import Derived.Lib.OthersKept
import Derived.Shelf.Strings.IndexAny
namespace Go.Proofs.YtaldjkbnngeahaaGreatDoor
open Go.RowKit Go.Lib

theorem valid_hid (x : Nat) (b : Bool) (h : Lib.validRune (x : Int) = b) : Hid (∀ W, Calls Tryz.prog 212 #[.int .i32 (x : Int)] W fun e w' => e = .returned (.bool b) ∧ w' = W) := Lib.hid fun W => by
  rw [← h]; exact Tryz.utf8_ValidRune (x : Int) W

theorem enc_of (x : Nat) (h1 : 128 ≤ x) (hv : Lib.validRune (x : Int) = true) : ∃ E : ByteArray, 2 ≤ E.size ∧ E.size ≤ 4 ∧ (∀ h : E.size - 1 < E.size, 128 ≤ (E[E.size - 1]'h).toNat) ∧ ∀ W, (convert 21 9 (.int .i32 (x : Int))).run Tryz.prog W = .ok (.string E) W := by
  have hvv : Utf8.valid (x : Int) = true := by
    unfold Lib.validRune at hv
    unfold Utf8.valid
    simp at hv ⊢
    omega
  obtain ⟨e1, e2, e3⟩ := encode_facts (x : Int) hvv (by omega)
  exact ⟨_, e1, e2, e3, fun W => run_convert_int_string W 21 9 .i32 (x : Int) (by rw [Tryz.underlying21]; rfl) Tryz.underlying9⟩

theorem index_cut (cs : List UInt8) (p : UInt8 → Bool) (hp : ∀ b, cs.contains b = p b) (l : List UInt8) : (Lib.indexAny l cs = -1 ∧ upto p l = l ∧ past p l = []) ∨ ∃ k : Nat, k < l.length ∧ Lib.indexAny l cs = k ∧ upto p l = l.take k ∧ past p l = l.drop k := by
  induction l with
  | nil => exact .inl ⟨rfl, rfl, rfl⟩
  | cons b l ih =>
    unfold Lib.indexAny
    rw [hp b]
    cases hb : p b
    · have e1 : upto p (b :: l) = b :: upto p l := by unfold upto; rw [List.takeWhile_cons, hb]; rfl
      have e2 : past p (b :: l) = past p l := by unfold past; rw [List.dropWhile_cons, hb]; rfl
      rw [e1, e2]
      rcases ih with ⟨h1, h2, h3⟩ | ⟨k, h0, h1, h2, h3⟩
      · refine .inl ⟨?_, by rw [h2], h3⟩
        rw [h1]; rfl
      · refine .inr ⟨k + 1, by simp; omega, ?_, by rw [h2]; rfl, by rw [h3]; rfl⟩
        rw [h1]
        simp only [Bool.false_eq_true, if_false]
        rw [if_neg (by simp)]; rfl
    · refine .inr ⟨0, by simp, by simp, ?_, ?_⟩
      · unfold upto; rw [List.takeWhile_cons, hb]; rfl
      · unfold past; rw [List.dropWhile_cons, hb]; rfl
end Go.Proofs.YtaldjkbnngeahaaGreatDoor
