/- What is cut off: the rest of a text behind a pointer; an address' parts. -/
import Derived.Test.YthnogdodlhkldaaGreatDoorWalkX
namespace Go.Proofs.YthnogdodlhkldaaGreatDoor
open Go.RowKit

theorem below_frozen {B : Nat} {a w : World} (h : Below B a w) {p : Addr} (hp : p.block < B) : w.frozen? p = a.frozen? p := by
  unfold World.frozen?
  rw [h.block _ hp]
theorem slice_to (L U : ByteArray) (k : Nat) (hk : k ≤ L.size) (h : U.data.toList = L.data.toList.take k) : ∀ W, (Instr.slice 9 (.string L) none (some (.int .i64 (k : Int))) none).run Tryz.prog W = .ok (.string U) W := fun W => by
  have e : L.extract 0 k = U := cut_run L U 0 k (by omega) hk (by simpa using h)
  have hz : ¬ L.size < k := by omega
  simp [Instr.slice, go_sem, e, hz]
theorem slice_from (L R : ByteArray) (k : Nat) (hk : k ≤ L.size) (h : R.data.toList = L.data.toList.drop k) : ∀ W, (Instr.slice 9 (.string L) (some (.int .i64 (k : Int))) none none).run Tryz.prog W = .ok (.string R) W := fun W => by
  have e : L.extract k L.size = R := cut_run L R k L.size hk (Nat.le_refl _) (by rw [h, List.take_of_length_le]; rw [List.length_drop, lsize]; exact Nat.le_refl _)
  have hz : ¬ L.size < k := by omega
  simp [Instr.slice, go_sem, e, hz]

/-! An address. -/
theorem size_setCell (w : World) (p : Addr) (u : Value) : (w.setCell p u).heap.size = w.heap.size := by
  simp only [World.setCell, Array.size_modify]

theorem low_size {U T : ByteArray} (h : T.data.toList = low U.data.toList) : T.size = U.size := by rw [← lsize, h, low_length, lsize]

/-- A text behind a pointer. -/
def CL (w : World) (P : Nat) (x : ByteArray) : Prop := w.cell? ⟨P, 0, none⟩ = some (.string x) ∧ w.frozen? ⟨P, 0, none⟩ = false
theorem CL.lt {w : World} {P : Nat} {x : ByteArray} (c : CL w P x) : P < w.heap.size := lt_of_cell c.1
theorem CL.below {w w' : World} {P : Nat} {x : ByteArray} (c : CL w P x) (hb : Below w.heap.size w w') : CL w' P x := ⟨by rw [hb.cell c.lt]; exact c.1, by rw [below_frozen hb c.lt]; exact c.2⟩
theorem CL.set {w : World} {P : Nat} {x : ByteArray} (c : CL w P x) (y : ByteArray) : CL (w.setCell ⟨P, 0, none⟩ (.string y)) P y := ⟨World.cell?_setCell_same _ _ _ c.1, by rw [World.frozen?_setCell]; exact c.2⟩
theorem CL.made (w : World) (x : ByteArray) (t : TypeId) : CL (w.alloc (.cells #[.string x] t)) w.heap.size x := ⟨by rw [cell_of (new_block w _)]; rfl, open_of (new_block w _) 0⟩

end Go.Proofs.YthnogdodlhkldaaGreatDoor
