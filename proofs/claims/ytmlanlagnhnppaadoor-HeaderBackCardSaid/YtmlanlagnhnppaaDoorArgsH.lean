/- The rows' arguments: texts, bools, policies; the library's variable off the world's shape; a world for the witness, which holds the listed tables. -/
import Derived.Test.YtmlanlagnhnppaaDoorRows
import Derived.Test.YtmlanlagnhnppaaDoorReads
import Derived.ProofKit
import Derived.OpenShut
import Derived.Carry
import Derived.ChangeMaps5
import Derived.Shelf.Vars
import Derived.Lib.LaidU8
import Derived.Lib.SmallJoins
import Derived.Deep.SlicePairs
import Derived.SliceStrings
namespace Go.Proofs.YtmlanlagnhnppaaDoor
open Go.ChangeShapes Go.WideShapes Go.ChangeAt Go.RowKit
set_option maxRecDepth 100000

theorem own : ownKnob Tryd.prog.godebug = none := by kernel_rfl
theorem laidOut : laidOutB Tryd.prog = true := by kernel_rfl
theorem maxIn_of {W : World} (h : W.ShapedOpen Tryd.prog) : MaxIn W :=
  cell_of_shapedOpen_int (zero := #[.int .i64 0]) (t := 3) h (of_decide_eq_true (by kernel_rfl)) (by kernel_rfl) rfl (by kernel_rfl) (by kernel_rfl) Tryd.underlying3
theorem arg_string {H : Type} {enc : TypeId × Value → H} {W : World} {v : Value} {d : DataW H} {p : List MemPlace} {base : Nat} (hok : Value.okWide Tryd.prog W .any base 9 v) (_ : DataW.Trod enc Tryd.prog W 0 (fun _ => true) true 9 v d p) : ∃ s : ByteArray, v = .string s :=
  okWide_string Tryd.underlying9 hok
theorem arg_bool {H : Type} {enc : TypeId × Value → H} {W : World} {v : Value} {d : DataW H} {p : List MemPlace} {base : Nat} (hok : Value.okWide Tryd.prog W .any base 4 v) (_ : DataW.Trod enc Tryd.prog W 0 (fun _ => true) true 4 v d p) : ∃ b : Bool, v = .bool b :=
  okWide_bool Tryd.underlying4 hok
/-- A list off what holds at each place. -/
theorem list_of {α : Type} {P : Nat → α → Prop} : ∀ (n : Nat), (∀ i, i < n → ∃ x, P i x) → ∃ l : List α, l.length = n ∧ ∀ i, (h : i < l.length) → P i l[i]
  | 0, _ => ⟨[], rfl, fun i h => by cases h⟩
  | n + 1, h => by
    obtain ⟨l, h1, h2⟩ := list_of n (fun i hi => h i (by omega))
    obtain ⟨x, hx⟩ := h n (by omega)
    refine ⟨l ++ [x], by simp [h1], fun i hi => ?_⟩
    by_cases hlt : i < l.length
    · rw [List.getElem_append_left hlt]; exact h2 i hlt
    · have e : i = l.length := by simp at hi; omega
      subst e
      rw [List.getElem_append_right (Nat.le_refl _)]
      simpa [h1] using hx
theorem add_none (b off j : Nat) : (⟨b, off, none⟩ : Addr).add j = ⟨b, off + j, none⟩ := by unfold Addr.add; split <;> simp_all
theorem texts_of {H : Type} {enc : TypeId × Value → H} {W : World} {v : Value} {n : Nat} {y : DataW H × List MemPlace} (hf : DataW.trod enc Tryd.prog W 0 (fun _ => true) true n 32 [v] = some y) : ∃ q : List (List UInt8), TextsIn W v q ∧ q.length ≤ 9223372036854775807 := by
  rcases open_strings Tryd.underlying32 Tryd.underlying9 (by kernel_rfl) hf with ⟨hcs, _⟩ | ⟨a, len0, cap0, ss, hcs, _, hl, hm, hz, hx, hcell, _⟩
  · cases hcs
    exact ⟨[], .inl ⟨⟨_, _, rfl⟩, rfl⟩, by simp⟩
  · cases hcs
    simp only [if_true] at hz
    unfold maxLen at hm
    by_cases h0 : len0 = 0
    · subst h0
      exact ⟨[], .inl ⟨⟨_, _, rfl⟩, rfl⟩, by simp⟩
    · obtain ⟨b, off, spot⟩ := a
      have hspot : spot = none := by simpa [Addr.add] using World.cell?_spot (hcell 0 (by omega))
      subst hspot
      refine ⟨(ss.take len0).map fun t => t.data.toList, .inr ⟨b, off, cap0, ?_, fun j hj => ?_⟩, by simp; omega⟩
      · rw [List.length_map, List.length_take, Nat.min_eq_left (by omega)]
      · have hj' : j < len0 := by simp at hj; omega
        have h := hcell j (by omega)
        rw [add_none] at h
        rw [h]
        have hj2 : j < ss.length := by omega
        simp [strV, List.getD, List.getElem?_eq_getElem hj2]
/-- What a policy's argument bears. -/
def PolArg (W : World) (x : List D × Value × Bool) : Prop := DirsIn W x.2.1 x.1 ∧ x.1.length ≤ 9223372036854775807 ∧ ∀ d ∈ x.1, d.w.length ≤ 9223372036854775807
theorem dirs_of {H : Type} {enc : TypeId × Value → H} {W : World} {v : Value} {n : Nat} {y : DataW H × List MemPlace} (hf : DataW.trod enc Tryd.prog W 0 (fun _ => true) true n 27 [v] = some y) : ∃ ds : List D, DirsIn W v ds ∧ ds.length ≤ 9223372036854775807 ∧ ∀ d ∈ ds, d.w.length ≤ 9223372036854775807 := by
  rcases Go.Deep.open_slice_pairs Tryd.underlying27 Tryd.underlying42 (by kernel_rfl) rfl rfl (by kernel_rfl) (by kernel_rfl) hf with ⟨hcs, _⟩ | ⟨a, len, cap, m, k, V0, V1, D0, D1, P0, P1, hcs, _, hl, hm, hmm, _, hi⟩
  · cases hcs
    exact ⟨[], .inl ⟨⟨_, _, rfl⟩, rfl⟩, by simp, by simp⟩
  · cases hcs
    simp only [if_true] at hmm
    unfold maxLen at hm
    by_cases h0 : len = 0
    · subst h0
      exact ⟨[], .inl ⟨⟨_, _, rfl⟩, rfl⟩, by simp, by simp⟩
    · obtain ⟨b, off, spot⟩ := a
      have hspot : spot = none := by simpa [Addr.add] using World.cell?_spot (hi 0 (by omega)).1
      subst hspot
      obtain ⟨ds, h1, h2⟩ := list_of (α := D) (P := fun i d => V0 i = strV d.n ∧ TextsIn W (V1 i) d.w ∧ d.w.length ≤ 9223372036854775807) len (fun i hlt => by
        obtain ⟨_, _, k2, k3⟩ := hi i (by omega)
        obtain ⟨s, e, _⟩ := DataW.trod_string Tryd.underlying9 k2
        obtain ⟨q, hq, hq2⟩ := texts_of k3
        exact ⟨⟨s.data.toList, q⟩, by have := (List.cons.inj e).1; rw [this]; rfl, hq, hq2⟩)
      refine ⟨ds, .inr ⟨b, off, cap, by rw [h1], fun j hj => ?_⟩, by omega, fun d hd => ?_⟩
      · obtain ⟨k0, k1, _⟩ := hi j (by omega)
        rw [add_none] at k0 k1
        obtain ⟨e1, e2, _⟩ := h2 j hj
        exact ⟨by rw [k0, e1], V1 j, by rw [Nat.add_assoc]; exact k1, e2⟩
      · obtain ⟨j, hj, rfl⟩ := List.getElem_of_mem hd
        exact (h2 j hj).2.2
theorem arg_policy {H : Type} {enc : TypeId × Value → H} {W : World} {v : Value} {d : DataW H} {p : List MemPlace} {base : Nat} (hok : Value.okWide Tryd.prog W .any base 29 v) (hj : DataW.Trod enc Tryd.prog W 0 (fun _ => true) true 29 v d p) : ∃ x : {x : List D × Value × Bool // PolArg W x}, v = polV x.1.2.1 x.1.2.2 := by
  obtain ⟨v0, v1, y0, y1, n, rfl, _, _, h0, h1⟩ := Go.Joins.open_agg2 Tryd.underlying29 (by kernel_rfl) (by kernel_rfl) hok hj
  obtain ⟨r, e1, _⟩ := DataW.trod_bool Tryd.underlying4 h1
  cases e1
  obtain ⟨ds, k1, k2, k3⟩ := dirs_of h0
  exact ⟨⟨(ds, v0, r), k1, k2, k3⟩, rfl⟩

/-- A WORLD FOR THE WITNESS: the settled one, the tables holding what their texts lay. -/
def setC (C : Array Value) : Obj → Obj
  | .cells _ t frozen => .cells C t frozen
  | o => o
noncomputable def laidWorld (os : Os) : World :=
  { World.holding Tryd.prog os ⟨#[], #[], []⟩ with heap := (((World.holding Tryd.prog os ⟨#[], #[], []⟩).heap.modify 1 (setC (Go.Pinned.utf8FirstZ.map fun (n : Nat) => Value.int .u8 n).toArray)).modify 2 (setC ((List.range 16).flatMap fun i => [Value.int .u8 (Lib.accLo i), Value.int .u8 (Lib.accHi i)]).toArray)) }

end Go.Proofs.YtmlanlagnhnppaaDoor
