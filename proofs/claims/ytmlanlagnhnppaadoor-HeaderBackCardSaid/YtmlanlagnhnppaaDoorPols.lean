/- Rows of policies of one's own, and what keeps them: steps that leave cells, and whatever lies low, as they lay. -/
import Derived.Test.YtmlanlagnhnppaaDoorHdF
namespace Go.Proofs.YtmlanlagnhnppaaDoor
open Go.RowKit

/-- Cells, and whatever lies below lo, lie as they lay. -/
structure Keeps (lo : Nat) (A B : World) : Prop where
  os : B.os = A.os
  tape : B.tape = A.tape
  output : B.output = A.output
  size : A.heap.size ≤ B.heap.size
  same : ∀ (k : Nat) (o : Obj), A.heap[k]? = some o → (k < lo ∨ o.isCells = true) → B.heap[k]? = some o
theorem Keeps.of_below {lo : Nat} {A B : World} (h : Below A.heap.size A B) : Keeps lo A B := ⟨h.os, h.tape, h.output, h.size, fun k _ hk _ => (h.block k (lt_of_block hk)).trans hk⟩
theorem Keeps.putObj {lo : Nat} {A : World} {l : Nat} {o : Obj} (hl : A.heap[l]? = some o) (ho : o.isCells = false) (hlo : lo ≤ l) (o' : Obj) : Keeps lo A (A.putObj l o') :=
  ⟨rfl, rfl, rfl, by rw [World.putObj_size]; exact Nat.le_refl _, fun k x hk hx => by
    rw [World.putObj_heap_other (fun e => by
      subst e
      rw [hl] at hk
      cases hk
      rcases hx with hx | hx
      · omega
      · rw [ho] at hx; cases hx)]
    exact hk⟩
theorem Keeps.low {lo b : Nat} {w A B : World} (h : Below b w A) (k : Keeps lo A B) (hb : b ≤ lo) (hs : b ≤ A.heap.size) : Below b w B :=
  ⟨k.os.trans h.os, k.tape.trans h.tape, k.output.trans h.output, Nat.le_trans h.size k.size, fun j hj => by
    have h1 : A.heap[j]? = some (A.heap[j]'(by omega)) := Array.getElem?_eq_getElem (by omega)
    rw [k.same j _ h1 (.inl (by omega)), ← h1]
    exact h.block j hj⟩
theorem Keeps.cell {lo : Nat} {A B : World} (k : Keeps lo A B) {a : Addr} {v : Value} (h : A.cell? a = some v) : B.cell? a = some v := by
  obtain ⟨o, h1, h2⟩ := cells_of_cell h
  rw [World.cell?_of_block ((k.same _ _ h1 (.inr h2)).trans h1.symm)]
  exact h
theorem Keeps.row {lo : Nat} {A B : World} (k : Keeps lo A B) {base : Nat} {e : TypeId} {size : Nat} {v : Value} {n : Nat} {xs : List Value} (h : A.ownsRow base e size v n xs) : B.ownsRow base e size v n xs := by
  refine ⟨h.1, ?_⟩
  rcases h.2 with h2 | ⟨g, cap, cur, h1, h2, h3, h4⟩
  · exact .inl h2
  · exact .inr ⟨g, cap, cur, h1, h2, k.same _ _ h3 (.inr rfl), h4⟩
theorem TextsBy.keeps {lo lo' : Nat} {A B : World} (k : Keeps lo' A B) {ob : Option Nat} {u : Value} {ts : List (List UInt8)} (h : TextsBy A lo ob u ts) : TextsBy B lo ob u ts := by
  rcases h with h | ⟨b, off, cap, h1, h2, h3, h4⟩
  · exact .inl h
  · exact .inr ⟨b, off, cap, h1, Nat.lt_of_lt_of_le h2 k.size, h3, fun j hj => k.cell (h4 j hj)⟩
theorem DRow.keeps {lo lo' : Nat} {A B : World} (k : Keeps lo' A B) {ob : Option Nat} {ds : List D} {cs : List Value} (h : DRow A lo ob ds cs) : DRow B lo ob ds cs :=
  ⟨h.1, fun j hj => by obtain ⟨k1, u, k2, k3⟩ := h.2 j hj; exact ⟨k1, u, k2, k3.keeps k⟩⟩
theorem DirsBy.keeps {lo lo' : Nat} {A B : World} (k : Keeps lo' A B) {ob : Option Nat} {v : Value} {ds : List D} (h : DirsBy A lo ob v ds) : DirsBy B lo ob v ds := by
  rcases h with h | ⟨b, off, cap, h1, h2, h3, h4⟩
  · exact .inl h
  · refine .inr ⟨b, off, cap, h1, Nat.lt_of_lt_of_le h2 k.size, h3, fun j hj => ?_⟩
    obtain ⟨k1, u, k2, k3⟩ := h4 j hj
    exact ⟨k.cell k1, u, k.cell k2, k3.keeps k⟩
theorem Gat.keeps {A B : World} {R Pb lo lo' : Nat} {r : Bool} {ns : List (List UInt8)} {v : Value} {cs : List Value} (h : Gat A R Pb lo r ns v cs) (k : Keeps lo' A B) (hl : R + 3 ≤ lo') : Gat B R Pb lo r ns v cs where
  pbox := k.same _ _ h.pbox (.inr rfl)
  mbox := k.same _ _ h.mbox (.inr rfl)
  seen := by
    obtain ⟨es, clock, hm⟩ := h.seen.isMap
    exact h.seen.kept ((k.same _ _ hm (.inl (by omega))).trans hm.symm)
  pol := k.same _ _ h.pol (.inr rfl)
  row := k.row h.row
  hR := h.hR
  hP := h.hP
  apart := h.apart
theorem Gat.up {A : World} {R Pb lo lo' : Nat} {r : Bool} {ns : List (List UInt8)} {cs : List Value} (h : Gat A R Pb lo r ns (.slice none 0 0) cs) (hl : lo ≤ lo') : Gat A R Pb lo' r ns (.slice none 0 0) cs where
  pbox := h.pbox
  mbox := h.mbox
  seen := h.seen
  pol := h.pol
  row := by
    refine ⟨h.row.1, ?_⟩
    rcases h.row.2 with h2 | ⟨g, cap, cur, h1, _⟩
    · exact .inl h2
    · cases h1
  hR := Nat.le_trans h.hR hl
  hP := Nat.lt_of_lt_of_le h.hP hl
  apart := h.apart
/-- A row of directives when the closure has taken one in. -/
theorem TextsBy.turn {A B : World} {Pb M lo : Nat} {ob ob' : Option Nat} (t : Turn Pb M ob A B) (hP : Pb < lo) (hM : M < lo) (ho : ob' = ob ∨ ∃ k, ob' = some k ∧ A.heap.size ≤ k) {u : Value} {ts : List (List UInt8)} (h : TextsBy A lo ob u ts) : TextsBy B lo ob' u ts := by
  rcases h with h | ⟨b, off, cap, h1, h2, h3, h4⟩
  · exact .inl h
  · refine .inr ⟨b, off, cap, h1, Nat.lt_of_lt_of_le h2 t.size, ⟨h3.1, ?_⟩, fun j hj => ?_⟩
    · rcases ho with rfl | ⟨k, rfl, hk⟩
      · exact h3.2
      · intro e
        have := Option.some.inj e
        omega
    · rw [World.cell?_of_block (t.block b h2 (by omega) (by omega) h3.2)]
      exact h4 j hj
theorem DRow.turn {A B : World} {Pb M lo : Nat} {ob ob' : Option Nat} (t : Turn Pb M ob A B) (hP : Pb < lo) (hM : M < lo) (ho : ob' = ob ∨ ∃ k, ob' = some k ∧ A.heap.size ≤ k) {ds : List D} {cs : List Value} (h : DRow A lo ob ds cs) : DRow B lo ob' ds cs :=
  ⟨h.1, fun j hj => by obtain ⟨k1, u, k2, k3⟩ := h.2 j hj; exact ⟨k1, u, k2, k3.turn t hP hM ho⟩⟩
theorem TextsBy.of_own {w : World} {base lo : Nat} {ob : Option Nat} {u : Value} {ts : List (List UInt8)} (h : w.ownsRow base 9 1 u ts.length (txtCells ts)) (hlo : lo ≤ base) (hob : ∀ k, ob = some k → ∃ cs t fr, w.heap[k]? = some (.cells cs t fr) ∧ t ≠ 9) : TextsBy w lo ob u ts := by
  rcases h.2 with ⟨h1, h2⟩ | ⟨g, cap, cur, hv, hg, hh, _⟩
  · exact .inl ⟨⟨_, _, h1⟩, List.length_eq_zero_iff.1 h2⟩
  · refine .inr ⟨g, 0, cap, hv, lt_of_block hh, ⟨Nat.le_trans hlo hg, fun e => ?_⟩, fun j hj => ?_⟩
    · obtain ⟨cs, t, fr, h1, h2⟩ := hob g e.symm
      rw [hh] at h1
      cases h1
      exact h2 rfl
    · subst hv
      rw [Nat.zero_add, h.cellAt j (by omega)]
      simp [txtCells, List.getElem?_eq_getElem hj]

/-! Policies. -/
def PRow (w : World) (lo : Nat) (ob : Option Nat) (ps : List (List D × Bool)) (cs : List Value) : Prop := cs.length = ps.length * 2 ∧ ∀ j, (h : j < ps.length) → ∃ u, cs[j * 2]? = some u ∧ cs[j * 2 + 1]? = some (.bool ps[j].2) ∧ DirsBy w lo ob u ps[j].1
theorem PRow.nil (w : World) (lo : Nat) (ob : Option Nat) : PRow w lo ob [] [] := ⟨rfl, fun j h => by cases h⟩
theorem PRow.keeps {lo lo' : Nat} {A B : World} (k : Keeps lo' A B) {ob : Option Nat} {ps : List (List D × Bool)} {cs : List Value} (h : PRow A lo ob ps cs) : PRow B lo ob ps cs :=
  ⟨h.1, fun j hj => by obtain ⟨u, k1, k2, k3⟩ := h.2 j hj; exact ⟨u, k1, k2, k3.keeps k⟩⟩
theorem PRow.step {w w' : World} {lo : Nat} {ob ob' : Option Nat} {ps : List (List D × Bool)} {cs : List Value} (h : PRow w lo ob ps cs) (hg : w.grownBy w' ob) (ho : ob' = ob ∨ ob' = some w.heap.size) : PRow w' lo ob' ps cs :=
  ⟨h.1, fun j hj => by obtain ⟨u, k1, k2, k3⟩ := h.2 j hj; exact ⟨u, k1, k2, k3.step hg ho⟩⟩
theorem PRow.snoc {w : World} {lo : Nat} {ob : Option Nat} {ps : List (List D × Bool)} {cs : List Value} (h : PRow w lo ob ps cs) (p : List D × Bool) (u : Value) (hu : DirsBy w lo ob u p.1) : PRow w lo ob (ps ++ [p]) (cs ++ [u, .bool p.2]) := by
  refine ⟨by simp [h.1]; omega, fun j hj => ?_⟩
  have hl := h.1
  by_cases hlt : j < ps.length
  · obtain ⟨v, k1, k2, k3⟩ := h.2 j hlt
    refine ⟨v, ?_, ?_, ?_⟩
    · rw [List.getElem?_append_left (by omega)]; exact k1
    · rw [List.getElem?_append_left (by omega), List.getElem_append_left hlt]; exact k2
    · rw [List.getElem_append_left hlt]; exact k3
  · have e : j = ps.length := by simp at hj; omega
    subst e
    refine ⟨u, ?_, ?_, ?_⟩
    · rw [List.getElem?_append_right (by omega), hl, Nat.sub_self]; rfl
    · rw [List.getElem?_append_right (by omega), hl, show ps.length * 2 + 1 - ps.length * 2 = 1 by omega, List.getElem_append_right (Nat.le_refl _)]
      simp
    · rw [List.getElem_append_right (Nat.le_refl _)]
      simpa using hu
def OwnP (w : World) (base : Nat) (v : Value) (ps : List (List D × Bool)) : Prop := ∃ cs, w.ownsRow base 29 2 v ps.length cs ∧ PRow w base v.ownBlock ps cs
theorem OwnP.keeps {base lo' : Nat} {A B : World} (k : Keeps lo' A B) {v : Value} {ps : List (List D × Bool)} (h : OwnP A base v ps) : OwnP B base v ps := by
  obtain ⟨cs, h1, h2⟩ := h
  exact ⟨cs, k.row h1, h2.keeps k⟩
theorem OwnP.below {base : Nat} {A B : World} {v : Value} {ps : List (List D × Bool)} (h : OwnP A base v ps) (hb : Below A.heap.size A B) : OwnP B base v ps := h.keeps (Keeps.of_below (lo := 0) hb)
theorem OwnP.in {w : World} {base : Nat} {v : Value} {ps : List (List D × Bool)} (h : OwnP w base v ps) : PolsIn w v ps := by
  obtain ⟨cs, h1, h2, h3⟩ := h
  rcases h1.2 with ⟨e1, e2⟩ | ⟨g, cap, cur, hv, hg, hh, _⟩
  · exact .inl ⟨⟨_, _, e1⟩, List.length_eq_zero_iff.1 e2⟩
  · subst hv
    refine .inr ⟨g, 0, cap, rfl, fun j hj => ?_⟩
    obtain ⟨u, k1, k2, k3⟩ := h3 j hj
    rw [Nat.zero_add, h1.cellAt (j * 2) (by omega), h1.cellAt (j * 2 + 1) (by omega)]
    exact ⟨⟨u, k1, k3.in⟩, k2⟩
theorem OwnP.grow {w w' : World} {base : Nat} {v v' : Value} {ps : List (List D × Bool)} {cs : List Value} (p : List D × Bool) (u : Value) (h : PRow w base v.ownBlock ps cs) (hu : DirsBy w base v.ownBlock u p.1) (hown : w'.ownsRow base 29 2 v' (ps.length + 1) (cs ++ [u, .bool p.2])) (hg : w.grownBy w' v.ownBlock) (ho : v'.ownBlock = v.ownBlock ∨ v'.ownBlock = some w.heap.size) : OwnP w' base v' (ps ++ [p]) :=
  ⟨cs ++ [u, .bool p.2], by rw [List.length_append]; exact hown, (h.snoc p u hu).step hg ho⟩
/-- Directives of one's own, all made behind ob. -/
theorem OwnD.by {w : World} {base : Nat} {v : Value} {ds : List D} (h : OwnD w base v ds) {lo : Nat} (hlo : lo ≤ base) {ob : Option Nat} (hob : ∀ k, ob = some k → k < base) : DirsBy w lo ob v ds := by
  obtain ⟨cs, h1, h2⟩ := h
  rcases h1.2 with ⟨e1, e2⟩ | ⟨g, cap, cur, hv, hg, hh, _⟩
  · exact .inl ⟨⟨_, _, e1⟩, List.length_eq_zero_iff.1 e2⟩
  · subst hv
    refine .inr ⟨g, 0, cap, rfl, lt_of_block hh, ⟨by omega, fun e => by have := hob g e.symm; omega⟩, fun j hj => ?_⟩
    obtain ⟨k1, u, k2, k3⟩ := h2.2 j hj
    rw [Nat.zero_add, h1.cellAt (j * 2) (by have := h2.1; omega), h1.cellAt (j * 2 + 1) (by have := h2.1; omega)]
    refine ⟨k1, u, k2, ?_⟩
    rcases k3 with k3 | ⟨b, off, cap2, a1, a2, a3, a4⟩
    · exact .inl k3
    · exact .inr ⟨b, off, cap2, a1, a2, ⟨by omega, fun e => by have := hob b e.symm; have := a3.1; omega⟩, a4⟩
theorem TinfoPol : (Tryd.prog.info? 29).map (fun i => (i.zero, i.size, i.bytes)) = some (some (.agg #[.slice none 0 0, .bool false]), 2, 32) := by kernel_rfl

end Go.Proofs.YtmlanlagnhnppaaDoor
