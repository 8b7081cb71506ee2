/- Rows of texts that came in, appended; those that are too big to be looked at: the document's. -/
import Derived.Test.YtmfejcmhbncchaaGreatDoorWalkC
import Derived.Deep.LoopGhost
namespace Go.Proofs.YtmfejcmhbncchaaGreatDoor
open Go.RowKit

theorem nil_app {w : World} {base : Nat} {v : Value} {n : Nat} {xs : List Value} (hown : w.ownsRow base 9 1 v n xs) (ty : TypeId) (c : Nat) : (Builtin.append_ #[36, 36] ty #[v, .slice none 0 c]).run Tryz.prog w = .ok v w := by
  obtain ⟨i0, hi, hz0, hz1, hz2⟩ := info_parts Tinfo9
  rcases hown.2 with ⟨rfl, rfl⟩ | ⟨g, cap, cur, rfl, _, _, hnc, _⟩
  · simp [Builtin.append_, run_underlying Tryz.underlying36, sizeOf, typeInfo, hi, Builtin.lenOf, Builtin.firstCells]
  · simp [Builtin.append_, run_underlying Tryz.underlying36, sizeOf, typeInfo, hi, Builtin.lenOf, Builtin.firstCells, hnc, storeCells]
/-- append(own, x...) where x came in. -/
theorem wpList_append_in {w : World} {ops : Array Oper} {rest : List Oper} {o : Oper} {a : Act} {Q : Exit → Act → World → Prop} (hgd : o.guard = none) (s x : Operand)
    (ho : o.op = .call { callee := .builtin .append, args := #[s, x], argTypes := #[36, 36] }) (base : Nat) (v0 : Value) (n : Nat) (xs : List Value)
    (hs : a.eval s = v0) (hown : w.ownsRow base 9 1 v0 n xs) (u : Value) (l : List (List UInt8)) (hx : a.eval x = u) (hin : TextsIn w u l)
    (h63 : n + l.length ≤ 1099511627776) (hbase : base ≤ w.heap.size)
    (h : ∀ v' w', w'.ownsRow base 9 1 v' (n + l.length) (xs ++ txtCells l) → w.grownBy w' v0.ownBlock → wpList Tryz.prog ops Q rest (a.put o.dst v') w') : wpList Tryz.prog ops Q (o :: rest) a w := by
  obtain ⟨i0, hi, hz0, hz1, hz2⟩ := info_parts Tinfo9
  have via : ∀ (ad : Addr) (c : Nat), u = .slice (some ad) l.length c → (∀ j v, (txtCells l)[j]? = some v → w.cell? (ad.add j) = some v) → wpList Tryz.prog ops Q (o :: rest) a w := fun ad c hu hc => by
    refine wpList_append_own w hgd s x 36 ho base 9 i0 (.string ⟨#[]⟩) 1 16 Tryz.underlying36 hi hz0 hz1 hz2 rfl (by decide) _ n xs hs hown ad l.length c (txtCells l) (by rw [hx, hu]) (by simp [txtCells]) hc (fun v hv => ?_) (by unfold maxLen; omega) (by omega) hbase ?_
    · obtain ⟨b, _, rfl⟩ := List.mem_map.1 hv
      rfl
    · intro v' w' h1 h2 _
      exact h v' w' h1 h2
  rcases hin with ⟨⟨a0, c0, rfl⟩, rfl⟩ | ⟨B, off, cap, rfl, hc⟩
  · cases a0 with
    | none =>
      refine wpList_plain hgd fun K hK => ?_
      have hrun := nil_app hown o.type c0
      unfold Oper.wp execOp
      simp only [ho, resolve, invoke, builtin, Sem.run_bind, Sem.run_pure, Result.andThen_ok, List.map_toArray, List.map_cons, List.map_nil, hs, hx, hrun]
      exact hK _ _ (h _ _ (by simpa [txtCells] using hown) (World.grownBy.refl w _))
    | some ad => exact via ad c0 rfl (fun j v hj => by simp [txtCells] at hj)
  · refine via ⟨B, off, none⟩ cap rfl (fun j v hj => ?_)
    have hj' : j < l.length := by
      have := (List.getElem?_eq_some_iff.1 hj).1
      simpa [txtCells] using this
    have e : (⟨B, off, none⟩ : Addr).add j = ⟨B, off + j, none⟩ := by unfold Addr.add; split <;> simp_all
    rw [e, hc j hj']
    simp [txtCells, List.getElem?_eq_getElem hj'] at hj
    rw [← hj]

theorem textsIn_new (W : World) (p : List (List UInt8)) (C : Array Value) (hC : C = (txtCells p).toArray) (n : Nat) (hn : n = p.length) (c : Nat) : TextsIn (W.alloc (.cells C 9)) (.slice (some ⟨W.heap.size, 0, none⟩) n c) p := by
  subst hn hC
  refine .inr ⟨_, 0, c, rfl, fun j hj => ?_⟩
  rw [Nat.zero_add, World.cell?_alloc_mark]
  simp [txtCells, List.getElem?_eq_getElem hj]

def BigPost (M L : Nat) (p : List (List UInt8)) (w : World) (e : Ending) (w' : World) : Prop := ∃ b, e = .returned (.bool b) ∧ w = w' ∧ (b = false → p.length ≤ M ∧ ∀ t ∈ p, t.length ≤ L)
set_option maxRecDepth 100000 in
/-- Too great to be looked at? -/
theorem refBig_any (M L : Nat) (hM : M ≤ 1000000) (p : List (List UInt8)) (v : Value) (w : World) (hp : TextsIn w v p) (hl : p.length ≤ 9223372036854775807) : Calls Tryz.prog 16 #[v, .int .i64 (M : Int), .int .i64 (L : Int)] w (BigPost M L p w) := by
  obtain ⟨a, c, rfl⟩ := hp.form
  by_cases h20 : M < p.length
  · have hz : (M : Int) < (p.length : Int) := by omega
    clear hp h20
    go_enter Tryz.func16, Tryz.ntmps16
    go_wp2
    go_ret
    exact ⟨true, rfl, rfl, fun h => by cases h⟩
  · have hz : ¬ (M : Int) < (p.length : Int) := by omega
    have hp20 : p.length ≤ M := by omega
    have hcell : Hid (∀ j, (h : j < p.length) → ∃ B off, a = some ⟨B, off, none⟩ ∧ w.cell? ⟨B, off + j, none⟩ = some (strV p[j])) := Lib.hid fun j h => by
      rcases hp with ⟨_, h2⟩ | ⟨B, off, cap, h1, h2⟩
      · subst h2; simp at h
      · cases h1
        exact ⟨B, off, rfl, h2 j h⟩
    clear hp h20
    go_enter Tryz.func16, Tryz.ntmps16
    go_wp2
    go_loop [7] (fun i => ∃ k : Nat, k ≤ p.length ∧ i = .int .i64 k ∧ Hid (∀ j, (h : j < p.length) → j < k → (p[j]).length ≤ L)) (fun i => p.length - (intOf i).toNat)
    case atStart => exact ⟨0, Nat.zero_le _, rfl, fun j _ h => absurd h (Nat.not_lt_zero _)⟩
    case round =>
      obtain ⟨k, hk, rfl, HS⟩ := hrel
      by_cases hlt : k < p.length
      · obtain ⟨B, off, rfl, hc⟩ := hcell.out k hlt
        have HN : Hid (p[k].length ≤ L → ∀ j, (h : j < p.length) → j < k + 1 → (p[j]).length ≤ L) := fun h1 j hj hjk => by
          by_cases e : j = k
          · subst e; exact h1
          · exact HS.out j hj (by omega)
        obtain ⟨T, hT⟩ := text_of p[k]
        have hc2 : w.cell? ⟨B, off + k, none⟩ = some (.string T) := by rw [hc, text_is hT]; rfl
        have hTs : T.size = p[k].length := by rw [← hT]; simp
        rw [← hTs] at HN
        clear hc hT hTs
        by_cases hg : L < T.size
        · have hz2 : (L : Int) < (T.size : Int) := by omega
          go_wp2
          go_ret
          exact ⟨true, rfl, rfl, fun h => by cases h⟩
        · have hz2 : ¬ (L : Int) < (T.size : Int) := by omega
          have HM := Lib.hid (HN.out (by omega))
          clear hg
          go_wp2
          go_round
          case rel => exact ⟨k + 1, by omega, by go_num, HM⟩
          case measure => simp [intOf]; omega
      · obtain rfl : k = p.length := by omega
        go_wp2
        go_ret
        exact ⟨false, rfl, rfl, fun _ => ⟨hp20, fun t ht => by obtain ⟨j, hj, rfl⟩ := List.getElem_of_mem ht; exact HS.out j hj hj⟩⟩

end Go.Proofs.YtmfejcmhbncchaaGreatDoor
