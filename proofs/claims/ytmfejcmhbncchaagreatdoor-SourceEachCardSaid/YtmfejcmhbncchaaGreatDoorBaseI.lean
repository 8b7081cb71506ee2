/- Decode: the document's. -/
import Derived.Test.YtmfejcmhbncchaaGreatDoorBaseH
namespace Go.Proofs.YtmfejcmhbncchaaGreatDoor
open Go.RowKit

theorem slice_eight (g N c P : Nat) (h : P + 8 ≤ c) : ∀ W, (Instr.slice 88 (.slice (some ⟨g, 0, none⟩) N c) (some (.int .i64 (P : Int))) (some (.int .i64 ((P : Int) + 8))) none).run Tryz.prog W = .ok (.slice (some ⟨g, P, none⟩) 8 (c - P)) W := fun W => by
  have e : ((P : Int) + 8) = ((P + 8 : Nat) : Int) := rfl
  rw [e]
  have key : ∀ Q : Nat, Q = P + 8 → (Instr.slice 88 (.slice (some ⟨g, 0, none⟩) N c) (some (.int .i64 (P : Int))) (some (.int .i64 (Q : Int))) none).run Tryz.prog W = .ok (.slice (some ⟨g, P, none⟩) (Q - P) (c - P)) W := fun Q hQ => by
    have h1 : Q ≤ c := by omega
    have h2 : P ≤ Q := by omega
    have h3 : c ≠ P := by omega
    simp [Instr.slice, run_underlying Tryz.underlying88, Instr.sliceBounds, run_sliceBound, h1, h2, h3, Addr.add]
    exact fun h => h.symm
  have := key (P + 8) rfl
  rw [Nat.add_sub_cancel_left] at this
  exact this
theorem slice_tailK (g N c P : Nat) (h : P ≤ N) (_ : N ≤ c) (o : Nat) (ho : o = if c = P then 0 else P) : ∀ W, (Instr.slice 88 (.slice (some ⟨g, 0, none⟩) N c) (some (.int .i64 (P : Int))) none none).run Tryz.prog W = .ok (.slice (some ⟨g, o, none⟩) (N - P) (c - P)) W := fun W => by
  subst ho
  by_cases h3 : c = P
  · simp [Instr.slice, run_underlying Tryz.underlying88, Instr.sliceBounds, run_sliceBound, h, h3]
  · simp [Instr.slice, run_underlying Tryz.underlying88, Instr.sliceBounds, run_sliceBound, h, h3, Addr.add]
    exact fun h => h.symm
theorem flat8_piece (E : List Nat) (r : List Bool) (k x : Nat) (h : E[k]? = some x) : flat 8 E ++ r = flat 8 (E.take k) ++ (bitsN 8 x ++ (flat 8 (E.drop (k + 1)) ++ r)) := by
  have hk := List.getElem?_eq_some_iff.1 h
  have hd : E.drop k = x :: E.drop (k + 1) := by rw [List.drop_eq_getElem_cons hk.1, hk.2]
  rw [← List.append_assoc (bitsN 8 x), ← flat_cons, ← hd, ← List.append_assoc, ← flat_append, List.take_append_drop]
theorem head_hid (s : ByteArray) (hs : s.size ≤ 1099511627776) : Hid (∀ W, Calls Tryz.prog 60 #[.string s] W fun e w' => (∃ T : ByteArray, e = .returned (.string T) ∧ Head s.data.toList T.data.toList) ∧ w' = W) :=
  Lib.hid fun W => head_any s hs W
theorem refForm_hid (s : ByteArray) (hs : s.size ≤ 1099511627776) (b : Bool) (hb : formM s.data.toList = b) : Hid (∀ W, Calls Tryz.prog 35 #[.string s] W fun e w' => e = .returned (.bool b) ∧ w' = W) :=
  Lib.hid fun W => by rw [← hb]; exact refForm_any s hs W

end Go.Proofs.YtmfejcmhbncchaaGreatDoor
