/- A map of names that a call makes: what it answers of a name, and a name stored. -/
import Derived.Test.YtmlanlagnhnppaaDoorOwnRows
import Derived.Maps.OwnOps
import Derived.Maps.OwnIn
import Derived.Carry
import Derived.Deep.AppendLies
import Derived.Deep.RegionLaw
namespace Go.Proofs.YtmlanlagnhnppaaDoor
open Go.RowKit

/-- The names, each with true. -/
def seenD (ns : List (List UInt8)) : DataW Unit := ns.foldl (fun D n => D.put (.string n) (.lit (.bool true))) (.map [])
theorem seenD_snoc (ns : List (List UInt8)) (n : List UInt8) : seenD (ns ++ [n]) = (seenD ns).put (.string n) (.lit (.bool true)) := by simp [seenD]
theorem put_isMap {D : DataW Unit} (h : Maps.IsMap D) (k : Lit) (d : DataW Unit) : Maps.IsMap (D.put k d) := by
  obtain ⟨es, rfl⟩ := h
  exact ⟨_, rfl⟩
theorem seenD_isMap (ns : List (List UInt8)) : Maps.IsMap (seenD ns) := by
  unfold seenD
  have h : ∀ (ns : List (List UInt8)) (D : DataW Unit), Maps.IsMap D → Maps.IsMap (ns.foldl (fun D n => D.put (.string n) (.lit (.bool true))) D) := by
    intro ns
    induction ns with
    | nil => intro D h; exact h
    | cons n ns ih => intro D h; exact ih _ (put_isMap h _ _)
  exact h ns _ ⟨[], rfl⟩
theorem seenD_at (n : List UInt8) (ns : List (List UInt8)) : (seenD ns).atKey (.string n) (.lit (.bool false)) = .lit (.bool (decide (n ∈ ns))) := by
  have h : ∀ (k : Nat) (ns : List (List UInt8)), ns.length = k → (seenD ns).atKey (.string n) (.lit (.bool false)) = .lit (.bool (decide (n ∈ ns))) := by
    intro k
    induction k with
    | zero =>
      intro ns h
      rw [List.length_eq_zero_iff.1 h]
      rfl
    | succ k ih =>
      intro ns h
      rcases List.eq_nil_or_concat ns with rfl | ⟨L, m, rfl⟩
      · cases h
      · rw [List.concat_eq_append] at h ⊢
        rw [seenD_snoc]
        by_cases e : n = m
        · subst e
          rw [Maps.atKey_put_same (k := .string n) (seenD_isMap L) (show WideAt.IsKeyLit (.string n) from trivial), decide_eq_true (by simp)]
        · rw [Maps.atKey_put_other (by intro h; cases h; exact e rfl), ih L (by simpa using h)]
          congr 3
          simp [e]
  exact h ns.length ns rfl

/-- The block of a map of names. -/
def Seen (w : World) (M : Nat) (ns : List (List UInt8)) : Prop := w.ownsMap Tryd.prog 9 (plainElem Tryd.prog 4) M ns.length (seenD ns)
theorem Seen.kept {w w' : World} {M : Nat} {ns : List (List UInt8)} (h : Seen w M ns) (hb : w'.heap[M]? = w.heap[M]?) : Seen w' M ns := by
  obtain ⟨es, clock, k1, k2⟩ := h
  exact ⟨es, clock, hb.trans k1, k2⟩
theorem Seen.lt {w : World} {M : Nat} {ns : List (List UInt8)} (h : Seen w M ns) : M < w.heap.size := World.ownsMap.lt h
theorem Seen.isMap {w : World} {M : Nat} {ns : List (List UInt8)} (h : Seen w M ns) : ∃ es clock, w.heap[M]? = some (.map es clock) := by
  obtain ⟨es, clock, k1, _⟩ := h
  exact ⟨es, clock, k1⟩
set_option maxRecDepth 100000 in
/-- Is a name there? -/
theorem Seen.look {w : World} {M : Nat} {ns : List (List UInt8)} (h : Seen w M ns) (N : ByteArray) (hN : N.size ≤ 1099511627776) : (Instr.lookup 60 (.map (some M)) (.string N) false).run Tryd.prog w = .ok (.bool (decide (N.data.toList ∈ ns))) w := by
  obtain ⟨v, ps, hrun, hv⟩ := World.ownsMap.lookup h (Maps.string_keyed Tryd.underlying9) Tryd.underlying60 (z := .bool false) (by kernel_rfl) (plainElem_bool Tryd.underlying4 false) (WideMaps.keyOf_string_mk Tryd.underlying9 (s := N) (by unfold maxLen; omega))
  rw [seenD_at] at hv
  have : v = .bool (decide (N.data.toList ∈ ns)) := by
    unfold plainElem at hv
    rw [Tryd.underlying4] at hv
    cases v <;> simp only [reduceCtorEq, Option.some.injEq, Prod.mk.injEq, DataW.lit.injEq, Lit.bool.injEq] at hv
    rw [hv.1]
  rw [hrun, this]
/-- A name stored. -/
theorem Seen.store {w : World} {M : Nat} {ns : List (List UInt8)} (h : Seen w M ns) (N : ByteArray) (hN : N.size ≤ 1099511627776) (hl : ns.length ≤ 1099511627776) : ∃ w', (Instr.mapUpdate 60 (.map (some M)) (.string N) (.bool true)).run Tryd.prog w = .ok () w' ∧ Seen w' M (ns ++ [N.data.toList]) ∧ w.grownBy w' (some M) := by
  obtain ⟨w', k1, k2, k3⟩ := World.ownsMap.update h (Maps.string_keyed Tryd.underlying9) Tryd.underlying60 (by unfold maxLen; omega) (WideMaps.keyOf_string_mk Tryd.underlying9 (s := N) (by unfold maxLen; omega)) (plainElem_bool Tryd.underlying4 true)
  refine ⟨w', k1, ?_, k3⟩
  unfold Seen
  rw [seenD_snoc, List.length_append]
  exact k2
theorem seen_new (w : World) : Seen (w.alloc (.map #[] 0)) w.heap.size [] := World.ownsMap_made w _ _ _

end Go.Proofs.YtmlanlagnhnppaaDoor
