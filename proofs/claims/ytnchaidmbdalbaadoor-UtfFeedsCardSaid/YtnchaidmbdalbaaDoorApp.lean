/- What is appended from an argument; and two rows that are the same. -/
import Derived.Test.YtnchaidmbdalbaaDoorArgs
namespace Go.Proofs.YtnchaidmbdalbaaDoor
open Go.ChangeShapes Go.WideShapes Go.ChangeAt Go.RowKit

theorem nil_app22 {w : World} {base : Nat} {v : Value} {n : Nat} {xs : List Value} (hown : w.ownsRow base 5 1 v n xs) (ty : TypeId) (c : Nat) : (Builtin.append_ #[22, 22] ty #[v, .slice none 0 c]).run Tryd.prog w = .ok v w := by
  obtain ⟨i0, hi, hz0, hz1, hz2⟩ := info_parts Tinfo5
  rcases hown.2 with ⟨rfl, rfl⟩ | ⟨g, cap, cur, rfl, _, _, hnc, _⟩
  · simp [Builtin.append_, run_underlying Tryd.underlying22, sizeOf, typeInfo, hi, Builtin.lenOf, Builtin.firstCells]
  · simp [Builtin.append_, run_underlying Tryd.underlying22, sizeOf, typeInfo, hi, Builtin.lenOf, Builtin.firstCells, hnc, storeCells]
/-- append(own, x...) where x came in. -/
theorem wpList_append_in22 {w : World} {ops : Array Oper} {rest : List Oper} {o : Oper} {a : Act} {Q : Exit → Act → World → Prop} (hgd : o.guard = none) (s x : Operand)
    (ho : o.op = .call { callee := .builtin .append, args := #[s, x], argTypes := #[22, 22] }) (base : Nat) (v0 : Value) (n : Nat) (xs : List Value)
    (hs : a.eval s = v0) (hown : w.ownsRow base 5 1 v0 n xs) (u : Value) (l : List UInt8) (hx : a.eval x = u) (hin : BytesIn w u l)
    (h63 : n + l.length ≤ 1099511627776) (hbase : base ≤ w.heap.size)
    (h : ∀ v' w', w'.ownsRow base 5 1 v' (n + l.length) (xs ++ Lib.byteCells l) → w.grownBy w' v0.ownBlock → wpList Tryd.prog ops Q rest (a.put o.dst v') w') : wpList Tryd.prog ops Q (o :: rest) a w := by
  obtain ⟨i0, hi, hz0, hz1, hz2⟩ := info_parts Tinfo5
  have via : ∀ (ad : Addr) (c : Nat), u = .slice (some ad) l.length c → (∀ j v, (Lib.byteCells l)[j]? = some v → w.cell? (ad.add j) = some v) → wpList Tryd.prog ops Q (o :: rest) a w := fun ad c hu hc => by
    refine wpList_append_own w hgd s x 22 ho base 5 i0 (.int .u8 0) 1 1 Tryd.underlying22 hi hz0 hz1 hz2 rfl (by decide) _ n xs hs hown ad l.length c (Lib.byteCells l) (by rw [hx, hu]) (by simp [Lib.byteCells_length]) hc (fun v hv => ?_) (by unfold maxLen; omega) (by omega) hbase ?_
    · obtain ⟨b, _, rfl⟩ := List.mem_map.1 hv
      rfl
    · intro v' w' h1 h2 _
      exact h v' w' h1 h2
  rcases hin with ⟨⟨a0, c0, rfl⟩, rfl⟩ | ⟨B, off, cap, rfl, hc⟩
  · cases a0 with
    | none =>
      refine wpList_plain hgd fun K hK => ?_
      have hrun := nil_app22 hown o.type c0
      unfold Oper.wp execOp
      simp only [ho, resolve, invoke, builtin, Sem.run_bind, Sem.run_pure, Result.andThen_ok, List.map_toArray, List.map_cons, List.map_nil, hs, hx, hrun]
      exact hK _ _ (h _ _ (by simpa [Lib.byteCells] using hown) (World.grownBy.refl w _))
    | some ad => exact via ad c0 rfl (fun j v hj => by simp [Lib.byteCells] at hj)
  · refine via ⟨B, off, none⟩ cap rfl (fun j v hj => ?_)
    have hj' : j < l.length := by
      have := (List.getElem?_eq_some_iff.1 hj).1
      simpa [Lib.byteCells] using this
    have e : (⟨B, off, none⟩ : Addr).add j = ⟨B, off + j, none⟩ := by unfold Addr.add; split <;> simp_all
    rw [e, hc j hj']
    simp [Lib.byteCells, List.getElem?_eq_getElem hj'] at hj
    rw [← hj]

def intCells (p : List Int) : List Value := p.map fun x => Value.int .i64 x
theorem intCells_length (p : List Int) : (intCells p).length = p.length := by simp [intCells]
theorem intsIn_row {w : World} {base : Nat} {v : Value} {p : List Int} (h : w.ownsRow base 3 1 v p.length (intCells p)) : IntsIn w v p := by
  rcases rowForms h with ⟨h1, h2⟩ | ⟨g, cap, rfl⟩
  · exact .inl ⟨⟨_, _, h1⟩, List.length_eq_zero_iff.1 h2⟩
  · refine .inr ⟨g, 0, cap, rfl, fun j hj => ?_⟩
    rw [Nat.zero_add, h.cellAt j (by omega)]
    simp [intCells, List.getElem?_eq_getElem hj]

theorem nil_app27 {w : World} {base : Nat} {v : Value} {n : Nat} {xs : List Value} (hown : w.ownsRow base 3 1 v n xs) (ty : TypeId) (c : Nat) : (Builtin.append_ #[27, 27] ty #[v, .slice none 0 c]).run Tryd.prog w = .ok v w := by
  obtain ⟨i0, hi, hz0, hz1, hz2⟩ := info_parts Tinfo3
  rcases hown.2 with ⟨rfl, rfl⟩ | ⟨g, cap, cur, rfl, _, _, hnc, _⟩
  · simp [Builtin.append_, run_underlying Tryd.underlying27, sizeOf, typeInfo, hi, Builtin.lenOf, Builtin.firstCells]
  · simp [Builtin.append_, run_underlying Tryd.underlying27, sizeOf, typeInfo, hi, Builtin.lenOf, Builtin.firstCells, hnc, storeCells]
/-- append(own, x...) where x came in. -/
theorem wpList_append_in27 {w : World} {ops : Array Oper} {rest : List Oper} {o : Oper} {a : Act} {Q : Exit → Act → World → Prop} (hgd : o.guard = none) (s x : Operand)
    (ho : o.op = .call { callee := .builtin .append, args := #[s, x], argTypes := #[27, 27] }) (base : Nat) (v0 : Value) (n : Nat) (xs : List Value)
    (hs : a.eval s = v0) (hown : w.ownsRow base 3 1 v0 n xs) (u : Value) (l : List Int) (hx : a.eval x = u) (hin : IntsIn w u l)
    (h63 : n + l.length ≤ 1099511627776) (hbase : base ≤ w.heap.size)
    (h : ∀ v' w', w'.ownsRow base 3 1 v' (n + l.length) (xs ++ intCells l) → w.grownBy w' v0.ownBlock → wpList Tryd.prog ops Q rest (a.put o.dst v') w') : wpList Tryd.prog ops Q (o :: rest) a w := by
  obtain ⟨i0, hi, hz0, hz1, hz2⟩ := info_parts Tinfo3
  have via : ∀ (ad : Addr) (c : Nat), u = .slice (some ad) l.length c → (∀ j v, (intCells l)[j]? = some v → w.cell? (ad.add j) = some v) → wpList Tryd.prog ops Q (o :: rest) a w := fun ad c hu hc => by
    refine wpList_append_own w hgd s x 27 ho base 3 i0 (.int .i64 0) 1 8 Tryd.underlying27 hi hz0 hz1 hz2 rfl (by decide) _ n xs hs hown ad l.length c (intCells l) (by rw [hx, hu]) (by simp [intCells_length]) hc (fun v hv => ?_) (by unfold maxLen; omega) (by omega) hbase ?_
    · obtain ⟨b, _, rfl⟩ := List.mem_map.1 hv
      rfl
    · intro v' w' h1 h2 _
      exact h v' w' h1 h2
  rcases hin with ⟨⟨a0, c0, rfl⟩, rfl⟩ | ⟨B, off, cap, rfl, hc⟩
  · cases a0 with
    | none =>
      refine wpList_plain hgd fun K hK => ?_
      have hrun := nil_app27 hown o.type c0
      unfold Oper.wp execOp
      simp only [ho, resolve, invoke, builtin, Sem.run_bind, Sem.run_pure, Result.andThen_ok, List.map_toArray, List.map_cons, List.map_nil, hs, hx, hrun]
      exact hK _ _ (h _ _ (by simpa [intCells] using hown) (World.grownBy.refl w _))
    | some ad => exact via ad c0 rfl (fun j v hj => by simp [intCells] at hj)
  · refine via ⟨B, off, none⟩ cap rfl (fun j v hj => ?_)
    have hj' : j < l.length := by
      have := (List.getElem?_eq_some_iff.1 hj).1
      simpa [intCells] using this
    have e : (⟨B, off, none⟩ : Addr).add j = ⟨B, off + j, none⟩ := by unfold Addr.add; split <;> simp_all
    rw [e, hc j hj']
    simp [intCells, List.getElem?_eq_getElem hj'] at hj
    rw [← hj]

theorem belowN {B : Nat} {a w : World} (h : Below B a w) (n : Nat) : Below B a (w.drewN n) := h.trans ⟨rfl, rfl, rfl, Nat.le_refl _, fun _ _ => rfl⟩
theorem ints_same (p : List Int) (u v : Value) (w : World) (hp : IntsIn w u p) (hq : IntsIn w v p) (hl : p.length ≤ 9223372036854775807) :
    Calls Tryd.prog 13 #[u, v] w fun e w' => e = .returned (.bool true) ∧ Below w.heap.size w w' :=
  (ints_any p p u v w hp hq hl hl).mono fun e w' ⟨he, n, hw⟩ => ⟨by rw [he]; unfold eqL; rw [decide_eq_true rfl], by rw [hw]; exact belowN (Below.refl _ _) n⟩

end Go.Proofs.YtnchaidmbdalbaaDoor
