/- What the laws of chain share: blocks, facts. -/
import Derived.Test.YthnogdodlhkldaaGreatDoorChH
namespace Go.Proofs.YthnogdodlhkldaaGreatDoor
open Go.RowKit

theorem DirsIn.drew {w : World} {v : Value} {ds : List D} (h : DirsIn w v ds) : DirsIn w.drew v ds := h
theorem PolsIn.drew {w : World} {v : Value} {ps : List (List D × Bool)} (h : PolsIn w v ps) : PolsIn w.drew v ps := h
theorem TextsIn.drew {w : World} {v : Value} {p : List (List UInt8)} (h : TextsIn w v p) : TextsIn w.drew v p := h
theorem TextsIn.made {w : World} {v : Value} {p : List (List UInt8)} (h : TextsIn w v p) (x : Obj) : TextsIn (w.alloc x) v p := h.below ((Below.refl _ _).alloc (Nat.le_refl _) _)
/-- A cell that is read. -/
def CellIs (w : World) (a : Addr) (v : Value) : Prop := w.cell? a = some v
theorem CellIs.below {w w' : World} {a : Addr} {v : Value} (h : CellIs w a v) (hb : Below w.heap.size w w') : CellIs w' a v := by
  unfold CellIs at *
  rw [hb.cell (lt_of_cell h)]; exact h
theorem CellIs.drew {w : World} {a : Addr} {v : Value} (h : CellIs w a v) : CellIs w.drew a v := h
theorem PX.row {w : World} {R : Nat} {v : Value} {r : Bool} {ds : List D} (x : PX w R v r) (h : DirsIn w v ds) : PolsIn w (.slice (some ⟨R, 0, none⟩) 1 1) [(ds, r)] := by
  refine .inr ⟨R, 0, 1, rfl, fun j hj => ?_⟩
  obtain rfl : j = 0 := by simpa using hj
  exact ⟨⟨v, x.c0, h⟩, x.c1⟩
theorem prpBlocks (w : World) (v : Value) (r : Bool) (rk : Int) (rt : ByteArray) (o : Bool) (s2 h2 : ByteArray) (p : Int) (pa2 q2 : ByteArray) (mv : Bool) (rn : ByteArray) (pr : Bool) (o3 : Bool) (s3 h3 : ByteArray) (p3 : Int) (pa3 q3 : ByteArray) : PX (((w.alloc (.cells #[v, .bool r] 24)).alloc (.cells #[.int .i64 rk, .string rt, .bool o, .string s2, .string h2, .int .i64 p, .string pa2, .string q2, .bool mv, .string rn, .bool pr, .bool o3, .string s3, .string h3, .int .i64 p3, .string pa3, .string q3] 42)).alloc (.cells #[v, .bool r] 24)) w.heap.size v r ∧ RX (((w.alloc (.cells #[v, .bool r] 24)).alloc (.cells #[.int .i64 rk, .string rt, .bool o, .string s2, .string h2, .int .i64 p, .string pa2, .string q2, .bool mv, .string rn, .bool pr, .bool o3, .string s3, .string h3, .int .i64 p3, .string pa3, .string q3] 42)).alloc (.cells #[v, .bool r] 24)) (w.heap.size + 1) rk rt o s2 h2 p pa2 q2 mv rn pr o3 s3 h3 p3 pa3 q3 ∧ PX (((w.alloc (.cells #[v, .bool r] 24)).alloc (.cells #[.int .i64 rk, .string rt, .bool o, .string s2, .string h2, .int .i64 p, .string pa2, .string q2, .bool mv, .string rn, .bool pr, .bool o3, .string s3, .string h3, .int .i64 p3, .string pa3, .string q3] 42)).alloc (.cells #[v, .bool r] 24)) (w.heap.size + 1 + 1) v r ∧ Below w.heap.size w (((w.alloc (.cells #[v, .bool r] 24)).alloc (.cells #[.int .i64 rk, .string rt, .bool o, .string s2, .string h2, .int .i64 p, .string pa2, .string q2, .bool mv, .string rn, .bool pr, .bool o3, .string s3, .string h3, .int .i64 p3, .string pa3, .string q3] 42)).alloc (.cells #[v, .bool r] 24)) := by
  have a1 : Below (w.alloc (.cells #[v, .bool r] 24)).heap.size (w.alloc (.cells #[v, .bool r] 24)) (((w.alloc (.cells #[v, .bool r] 24)).alloc (.cells #[.int .i64 rk, .string rt, .bool o, .string s2, .string h2, .int .i64 p, .string pa2, .string q2, .bool mv, .string rn, .bool pr, .bool o3, .string s3, .string h3, .int .i64 p3, .string pa3, .string q3] 42)).alloc (.cells #[v, .bool r] 24)) := ((Below.refl _ _).alloc (Nat.le_refl _) _).alloc (by simp) _
  have x1 := (PX.made w v r).below a1
  have x2 := (RX.made (w.alloc (.cells #[v, .bool r] 24)) rk rt o s2 h2 p pa2 q2 mv rn pr o3 s3 h3 p3 pa3 q3).below ((Below.refl _ _).alloc (Nat.le_refl _) (.cells #[v, .bool r] 24))
  have x3 := PX.made ((w.alloc (.cells #[v, .bool r] 24)).alloc (.cells #[.int .i64 rk, .string rt, .bool o, .string s2, .string h2, .int .i64 p, .string pa2, .string q2, .bool mv, .string rn, .bool pr, .bool o3, .string s3, .string h3, .int .i64 p3, .string pa3, .string q3] 42)) v r
  rw [World.size_alloc] at x2
  rw [World.size_alloc, World.size_alloc] at x3
  exact ⟨x1, x2, x3, ((Below.refl _ _).alloc (Nat.le_refl _) _).trans (a1.mono (by simp))⟩

end Go.Proofs.YthnogdodlhkldaaGreatDoor
