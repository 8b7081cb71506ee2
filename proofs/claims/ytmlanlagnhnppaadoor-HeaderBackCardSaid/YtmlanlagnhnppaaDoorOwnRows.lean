/- Rows of directives, of policies, that a function makes itself: what is in them lies in other blocks than the row that grows. -/
import Derived.Test.YtmlanlagnhnppaaDoorRefHE
namespace Go.Proofs.YtmlanlagnhnppaaDoor
open Go.RowKit

/-- A row of texts that lies in a block from lo on, and not in ob. -/
def TextsBy (w : World) (lo : Nat) (ob : Option Nat) (u : Value) (ts : List (List UInt8)) : Prop :=
  ((∃ a c, u = .slice a 0 c) ∧ ts = []) ∨ ∃ B off cap, u = .slice (some ⟨B, off, none⟩) ts.length cap ∧ B < w.heap.size ∧ (lo ≤ B ∧ some B ≠ ob) ∧ ∀ j, (h : j < ts.length) → w.cell? ⟨B, off + j, none⟩ = some (strV ts[j])
theorem TextsBy.in {w : World} {lo : Nat} {ob : Option Nat} {u : Value} {ts : List (List UInt8)} (h : TextsBy w lo ob u ts) : TextsIn w u ts := by
  rcases h with h | ⟨B, off, cap, h1, _, _, h2⟩
  · exact .inl h
  · exact .inr ⟨B, off, cap, h1, h2⟩
theorem TextsBy.below {w w' : World} {lo : Nat} {ob : Option Nat} {u : Value} {ts : List (List UInt8)} (h : TextsBy w lo ob u ts) (hb : Below w.heap.size w w') : TextsBy w' lo ob u ts := by
  rcases h with h | ⟨B, off, cap, h1, h2, h3, h4⟩
  · exact .inl h
  · exact .inr ⟨B, off, cap, h1, Nat.lt_of_lt_of_le h2 hb.size, h3, fun j hj => by rw [hb.cell h2]; exact h4 j hj⟩
theorem TextsBy.of_row {w : World} {base : Nat} {lo : Nat} {ob : Option Nat} {u : Value} {ts : List (List UInt8)} (h : w.ownsRow base 9 1 u ts.length (txtCells ts)) (hlo : lo ≤ base) (hob : ∀ k, ob = some k → k < base) : TextsBy w lo ob u ts := by
  rcases h.2 with ⟨h1, h2⟩ | ⟨g, cap, cur, hv, hg, hh, _⟩
  · exact .inl ⟨⟨_, _, h1⟩, List.length_eq_zero_iff.1 h2⟩
  · refine .inr ⟨g, 0, cap, hv, lt_of_block hh, ⟨Nat.le_trans hlo hg, fun e => by have := hob g e.symm; omega⟩, fun j hj => ?_⟩
    subst hv
    rw [Nat.zero_add, h.cellAt j (by omega)]
    simp [txtCells, List.getElem?_eq_getElem hj]
/-- The row of block ob has grown. -/
theorem TextsBy.step {w w' : World} {lo : Nat} {ob ob' : Option Nat} {u : Value} {ts : List (List UInt8)} (h : TextsBy w lo ob u ts) (hg : w.grownBy w' ob) (ho : ob' = ob ∨ ob' = some w.heap.size) : TextsBy w' lo ob' u ts := by
  rcases h with h | ⟨B, off, cap, h1, h2, h3, h4⟩
  · exact .inl h
  · refine .inr ⟨B, off, cap, h1, Nat.lt_of_lt_of_le h2 hg.size, ⟨h3.1, ?_⟩, fun j hj => hg.cell (h4 j hj) h3.2⟩
    rcases ho with rfl | rfl
    · exact h3.2
    · intro e
      have := Option.some.inj e
      omega

def DRow (w : World) (lo : Nat) (ob : Option Nat) (ds : List D) (cs : List Value) : Prop := cs.length = ds.length * 2 ∧ ∀ j, (h : j < ds.length) → cs[j * 2]? = some (strV ds[j].n) ∧ ∃ u, cs[j * 2 + 1]? = some u ∧ TextsBy w lo ob u ds[j].w
theorem DRow.nil (w : World) (lo : Nat) (ob : Option Nat) : DRow w lo ob [] [] := ⟨rfl, fun j h => by cases h⟩
theorem DRow.below {w w' : World} {lo : Nat} {ob : Option Nat} {ds : List D} {cs : List Value} (h : DRow w lo ob ds cs) (hb : Below w.heap.size w w') : DRow w' lo ob ds cs :=
  ⟨h.1, fun j hj => by obtain ⟨k1, u, k2, k3⟩ := h.2 j hj; exact ⟨k1, u, k2, k3.below hb⟩⟩
theorem DRow.step {w w' : World} {lo : Nat} {ob ob' : Option Nat} {ds : List D} {cs : List Value} (h : DRow w lo ob ds cs) (hg : w.grownBy w' ob) (ho : ob' = ob ∨ ob' = some w.heap.size) : DRow w' lo ob' ds cs :=
  ⟨h.1, fun j hj => by obtain ⟨k1, u, k2, k3⟩ := h.2 j hj; exact ⟨k1, u, k2, k3.step hg ho⟩⟩
theorem DRow.snoc {w : World} {lo : Nat} {ob : Option Nat} {ds : List D} {cs : List Value} (h : DRow w lo ob ds cs) (d : D) (u : Value) (hu : TextsBy w lo ob u d.w) : DRow w lo ob (ds ++ [d]) (cs ++ [strV d.n, u]) := by
  refine ⟨by simp [h.1]; omega, fun j hj => ?_⟩
  have hl := h.1
  by_cases hlt : j < ds.length
  · obtain ⟨k1, v, k2, k3⟩ := h.2 j hlt
    rw [List.getElem_append_left hlt, List.getElem?_append_left (by omega), List.getElem?_append_left (by omega)]
    exact ⟨k1, v, k2, k3⟩
  · have e : j = ds.length := by simp at hj; omega
    subst e
    rw [List.getElem_append_right (Nat.le_refl _), List.getElem?_append_right (by omega), List.getElem?_append_right (by omega), hl]
    simp only [Nat.sub_self, List.getElem_cons_zero]
    rw [show ds.length * 2 + 1 - ds.length * 2 = 1 by omega]
    exact ⟨rfl, u, rfl, hu⟩
/-- Directives in a row of one's own. -/
def OwnD (w : World) (base : Nat) (v : Value) (ds : List D) : Prop := ∃ cs, w.ownsRow base 42 2 v ds.length cs ∧ DRow w base v.ownBlock ds cs
theorem OwnD.nil (w : World) (base : Nat) : OwnD w base (.slice none 0 0) [] := ⟨[], World.ownsRow_nil w base _ 2, DRow.nil w _ _⟩
theorem OwnD.below {w w' : World} {base : Nat} {v : Value} {ds : List D} (h : OwnD w base v ds) (hb : Below w.heap.size w w') : OwnD w' base v ds := by
  obtain ⟨cs, h1, h2⟩ := h
  exact ⟨cs, ownsRow_below h1 hb, h2.below hb⟩
theorem OwnD.in {w : World} {base : Nat} {v : Value} {ds : List D} (h : OwnD w base v ds) : DirsIn w v ds := by
  obtain ⟨cs, h1, h2, h3⟩ := h
  rcases h1.2 with ⟨e1, e2⟩ | ⟨g, cap, cur, hv, hg, hh, _⟩
  · exact .inl ⟨⟨_, _, e1⟩, List.length_eq_zero_iff.1 e2⟩
  · subst hv
    refine .inr ⟨g, 0, cap, rfl, fun j hj => ?_⟩
    obtain ⟨k1, u, k2, k3⟩ := h3 j hj
    rw [Nat.zero_add, h1.cellAt (j * 2) (by omega), h1.cellAt (j * 2 + 1) (by omega)]
    exact ⟨k1, u, k2, k3.in⟩
/-- One directive appended: what wpList_append_own_at gives. -/
theorem OwnD.grow {w w' : World} {base : Nat} {v v' : Value} {ds : List D} {cs : List Value} (d : D) (u : Value) (h : DRow w base v.ownBlock ds cs) (hu : TextsBy w base v.ownBlock u d.w) (hown : w'.ownsRow base 42 2 v' (ds.length + 1) (cs ++ [strV d.n, u])) (hg : w.grownBy w' v.ownBlock) (ho : v'.ownBlock = v.ownBlock ∨ v'.ownBlock = some w.heap.size) : OwnD w' base v' (ds ++ [d]) :=
  ⟨cs ++ [strV d.n, u], by rw [List.length_append]; exact hown, (h.snoc d u hu).step hg ho⟩

/-! Policies: a row of directives that lies, with all in it, in no block ob. -/
def DirsBy (w : World) (lo : Nat) (ob : Option Nat) (v : Value) (ds : List D) : Prop :=
  ((∃ a c, v = .slice a 0 c) ∧ ds = []) ∨ ∃ B off cap, v = .slice (some ⟨B, off, none⟩) ds.length cap ∧ B < w.heap.size ∧ (lo ≤ B ∧ some B ≠ ob) ∧ ∀ j, (h : j < ds.length) → w.cell? ⟨B, off + j * 2, none⟩ = some (strV ds[j].n) ∧ ∃ u, w.cell? ⟨B, off + j * 2 + 1, none⟩ = some u ∧ TextsBy w lo ob u ds[j].w
theorem DirsBy.in {w : World} {lo : Nat} {ob : Option Nat} {v : Value} {ds : List D} (h : DirsBy w lo ob v ds) : DirsIn w v ds := by
  rcases h with h | ⟨B, off, cap, h1, _, _, h2⟩
  · exact .inl h
  · exact .inr ⟨B, off, cap, h1, fun j hj => by obtain ⟨k1, u, k2, k3⟩ := h2 j hj; exact ⟨k1, u, k2, k3.in⟩⟩
theorem DirsBy.below {w w' : World} {lo : Nat} {ob : Option Nat} {v : Value} {ds : List D} (h : DirsBy w lo ob v ds) (hb : Below w.heap.size w w') : DirsBy w' lo ob v ds := by
  rcases h with h | ⟨B, off, cap, h1, h2, h3, h4⟩
  · exact .inl h
  · refine .inr ⟨B, off, cap, h1, Nat.lt_of_lt_of_le h2 hb.size, h3, fun j hj => ?_⟩
    obtain ⟨k1, u, k2, k3⟩ := h4 j hj
    exact ⟨by rw [hb.cell h2]; exact k1, u, by rw [hb.cell h2]; exact k2, k3.below hb⟩
theorem DirsBy.step {w w' : World} {lo : Nat} {ob ob' : Option Nat} {v : Value} {ds : List D} (h : DirsBy w lo ob v ds) (hg : w.grownBy w' ob) (ho : ob' = ob ∨ ob' = some w.heap.size) : DirsBy w' lo ob' v ds := by
  rcases h with h | ⟨B, off, cap, h1, h2, h3, h4⟩
  · exact .inl h
  · refine .inr ⟨B, off, cap, h1, Nat.lt_of_lt_of_le h2 hg.size, ⟨h3.1, ?_⟩, fun j hj => ?_⟩
    · rcases ho with rfl | rfl
      · exact h3.2
      · intro e
        have := Option.some.inj e
        omega
    · obtain ⟨k1, u, k2, k3⟩ := h4 j hj
      exact ⟨hg.cell k1 h3.2, u, hg.cell k2 h3.2, k3.step hg ho⟩

/-! Stores below what is one's own. -/
theorem cell_far (w : World) (p q : Addr) (u : Value) (h : q.block ≠ p.block) : (w.setCell p u).cell? q = w.cell? q := World.cell?_of_block (Below.heap_setCell w p u q.block h)
theorem TextsBy.set {w : World} {lo : Nat} {ob : Option Nat} {u : Value} {ts : List (List UInt8)} (h : TextsBy w lo ob u ts) {p : Addr} (hp : p.block < lo) (x : Value) : TextsBy (w.setCell p x) lo ob u ts := by
  rcases h with h | ⟨B, off, cap, h1, h2, h3, h4⟩
  · exact .inl h
  · exact .inr ⟨B, off, cap, h1, by simpa [World.setCell] using h2, h3, fun j hj => by rw [cell_far _ _ _ _ (by have := h3.1; show B ≠ p.block; omega)]; exact h4 j hj⟩
theorem DRow.set {w : World} {lo : Nat} {ob : Option Nat} {ds : List D} {cs : List Value} (h : DRow w lo ob ds cs) {p : Addr} (hp : p.block < lo) (x : Value) : DRow (w.setCell p x) lo ob ds cs :=
  ⟨h.1, fun j hj => by obtain ⟨k1, u, k2, k3⟩ := h.2 j hj; exact ⟨k1, u, k2, k3.set hp x⟩⟩
theorem OwnD.set {w : World} {base : Nat} {v : Value} {ds : List D} (h : OwnD w base v ds) {p : Addr} (hp : p.block < base) (x : Value) : OwnD (w.setCell p x) base v ds := by
  obtain ⟨cs, h1, h2⟩ := h
  exact ⟨cs, ownsRow_setCell_below h1 hp x, h2.set hp x⟩

end Go.Proofs.YtmlanlagnhnppaaDoor
