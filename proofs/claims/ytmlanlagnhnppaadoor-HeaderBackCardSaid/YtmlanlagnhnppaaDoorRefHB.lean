/- Rows of texts that came in, appended; rows of directives; a name found: the document's. -/
import Derived.Test.YtmlanlagnhnppaaDoorRefHA
import Derived.Deep.LoopGhost
namespace Go.Proofs.YtmlanlagnhnppaaDoor
open Go.RowKit

theorem textsIn_new (W : World) (p : List (List UInt8)) (C : Array Value) (hC : C = (txtCells p).toArray) (n : Nat) (hn : n = p.length) (c : Nat) : TextsIn (W.alloc (.cells C 9)) (.slice (some ⟨W.heap.size, 0, none⟩) n c) p := by
  subst hn hC
  refine .inr ⟨_, 0, c, rfl, fun j hj => ?_⟩
  rw [Nat.zero_add, World.cell?_alloc_mark]
  simp [txtCells, List.getElem?_eq_getElem hj]

def BigPost (M L : Nat) (p : List (List UInt8)) (w : World) (e : Ending) (w' : World) : Prop := ∃ b, e = .returned (.bool b) ∧ w = w' ∧ (b = false → p.length ≤ M ∧ ∀ t ∈ p, t.length ≤ L)
set_option maxRecDepth 100000 in
/-- Too great to be looked at? -/
theorem refBig_any (M L : Nat) (hM : M ≤ 1000000) (p : List (List UInt8)) (v : Value) (w : World) (hp : TextsIn w v p) (hl : p.length ≤ 9223372036854775807) : Calls Tryd.prog 27 #[v, .int .i64 (M : Int), .int .i64 (L : Int)] w (BigPost M L p w) := by
  obtain ⟨a, c, rfl⟩ := hp.form
  by_cases h20 : M < p.length
  · have hz : (M : Int) < (p.length : Int) := by omega
    clear hp h20
    go_enter Tryd.func27, Tryd.ntmps27
    go_wp2
    go_ret
    exact ⟨true, rfl, rfl, fun h => by cases h⟩
  · have hz : ¬ (M : Int) < (p.length : Int) := by omega
    have hp20 : p.length ≤ M := by omega
    have hcell : Hid (∀ j, (h : j < p.length) → ∃ B off, a = some ⟨B, off, none⟩ ∧ w.cell? ⟨B, off + j, none⟩ = some (strV p[j])) := Lib.hid fun j h => by
      rcases hp with ⟨_, h2⟩ | ⟨B, off, cap, h1, h2⟩
      · subst h2; simp at h
      · cases h1
        exact ⟨B, off, rfl, h2 j h⟩
    clear hp h20
    go_enter Tryd.func27, Tryd.ntmps27
    go_wp2
    go_loop [7] (fun i => ∃ k : Nat, k ≤ p.length ∧ i = .int .i64 k ∧ Hid (∀ j, (h : j < p.length) → j < k → (p[j]).length ≤ L)) (fun i => p.length - (intOf i).toNat)
    case atStart => exact ⟨0, Nat.zero_le _, rfl, fun j _ h => absurd h (Nat.not_lt_zero _)⟩
    case round =>
      obtain ⟨k, hk, rfl, HS⟩ := hrel
      by_cases hlt : k < p.length
      · obtain ⟨B, off, rfl, hc⟩ := hcell.out k hlt
        have HN : Hid (p[k].length ≤ L → ∀ j, (h : j < p.length) → j < k + 1 → (p[j]).length ≤ L) := fun h1 j hj hjk => by
          by_cases e : j = k
          · subst e; exact h1
          · exact HS.out j hj (by omega)
        obtain ⟨T, hT⟩ := text_of p[k]
        have hc2 : w.cell? ⟨B, off + k, none⟩ = some (.string T) := by rw [hc, text_is hT]; rfl
        have hTs : T.size = p[k].length := by rw [← hT]; simp
        rw [← hTs] at HN
        clear hc hT hTs
        by_cases hg : L < T.size
        · have hz2 : (L : Int) < (T.size : Int) := by omega
          go_wp2
          go_ret
          exact ⟨true, rfl, rfl, fun h => by cases h⟩
        · have hz2 : ¬ (L : Int) < (T.size : Int) := by omega
          have HM := Lib.hid (HN.out (by omega))
          clear hg
          go_wp2
          go_round
          case rel => exact ⟨k + 1, by omega, by go_num, HM⟩
          case measure => simp [intOf]; omega
      · obtain rfl : k = p.length := by omega
        go_wp2
        go_ret
        exact ⟨false, rfl, rfl, fun _ => ⟨hp20, fun t ht => by obtain ⟨j, hj, rfl⟩ := List.getElem_of_mem ht; exact HS.out j hj hj⟩⟩

theorem nil_app {w : World} {base : Nat} {v : Value} {n : Nat} {xs : List Value} (hown : w.ownsRow base 9 1 v n xs) (ty : TypeId) (c : Nat) : (Builtin.append_ #[32, 32] ty #[v, .slice none 0 c]).run Tryd.prog w = .ok v w := by
  obtain ⟨i0, hi, hz0, hz1, hz2⟩ := info_parts Tinfo9
  rcases hown.2 with ⟨rfl, rfl⟩ | ⟨g, cap, cur, rfl, _, _, hnc, _⟩
  · simp [Builtin.append_, run_underlying Tryd.underlying32, sizeOf, typeInfo, hi, Builtin.lenOf, Builtin.firstCells]
  · simp [Builtin.append_, run_underlying Tryd.underlying32, sizeOf, typeInfo, hi, Builtin.lenOf, Builtin.firstCells, hnc, storeCells]
/-- append(own, x...) where x came in. -/
theorem wpList_append_in {w : World} {ops : Array Oper} {rest : List Oper} {o : Oper} {a : Act} {Q : Exit → Act → World → Prop} (hgd : o.guard = none) (s x : Operand)
    (ho : o.op = .call { callee := .builtin .append, args := #[s, x], argTypes := #[32, 32] }) (base : Nat) (v0 : Value) (n : Nat) (xs : List Value)
    (hs : a.eval s = v0) (hown : w.ownsRow base 9 1 v0 n xs) (u : Value) (l : List (List UInt8)) (hx : a.eval x = u) (hin : TextsIn w u l)
    (h63 : n + l.length ≤ 1099511627776) (hbase : base ≤ w.heap.size)
    (h : ∀ v' w', w'.ownsRow base 9 1 v' (n + l.length) (xs ++ txtCells l) → w.grownBy w' v0.ownBlock → wpList Tryd.prog ops Q rest (a.put o.dst v') w') : wpList Tryd.prog ops Q (o :: rest) a w := by
  obtain ⟨i0, hi, hz0, hz1, hz2⟩ := info_parts Tinfo9
  have via : ∀ (ad : Addr) (c : Nat), u = .slice (some ad) l.length c → (∀ j v, (txtCells l)[j]? = some v → w.cell? (ad.add j) = some v) → wpList Tryd.prog ops Q (o :: rest) a w := fun ad c hu hc => by
    refine wpList_append_own w hgd s x 32 ho base 9 i0 (.string ⟨#[]⟩) 1 16 Tryd.underlying32 hi hz0 hz1 hz2 rfl (by decide) _ n xs hs hown ad l.length c (txtCells l) (by rw [hx, hu]) (by simp [txtCells]) hc (fun v hv => ?_) (by unfold maxLen; omega) (by omega) hbase ?_
    · obtain ⟨b, _, rfl⟩ := List.mem_map.1 hv
      rfl
    · intro v' w' h1 h2 _
      exact h v' w' h1 h2
  rcases hin with ⟨⟨a0, c0, rfl⟩, rfl⟩ | ⟨B, off, cap, rfl, hc⟩
  · cases a0 with
    | none =>
      refine wpList_plain hgd fun K hK => ?_
      have hrun := nil_app hown o.type c0
      unfold Oper.wp execOp
      simp only [ho, resolve, invoke, builtin, Sem.run_bind, Sem.run_pure, Result.andThen_ok, List.map_toArray, List.map_cons, List.map_nil, hs, hx, hrun]
      exact hK _ _ (h _ _ (by simpa [txtCells] using hown) (World.grownBy.refl w _))
    | some ad => exact via ad c0 rfl (fun j v hj => by simp [txtCells] at hj)
  · refine via ⟨B, off, none⟩ cap rfl (fun j v hj => ?_)
    have hj' : j < l.length := by
      have := (List.getElem?_eq_some_iff.1 hj).1
      simpa [txtCells] using this
    have e : (⟨B, off, none⟩ : Addr).add j = ⟨B, off + j, none⟩ := by unfold Addr.add; split <;> simp_all
    rw [e, hc j hj']
    simp [txtCells, List.getElem?_eq_getElem hj'] at hj
    rw [← hj]

def TextsPost (p : List (List UInt8)) (w : World) (e : Ending) (w' : World) : Prop := ∃ v, e = .returned v ∧ TextsIn w' v p ∧ Below w.heap.size w w'
set_option maxRecDepth 100000 in
theorem refOwn_any (p : List (List UInt8)) (v : Value) (w : World) (hp : TextsIn w v p) (hl : p.length ≤ 1000000) : Calls Tryd.prog 28 #[v] w (TextsPost p w) := by
  have hown := World.ownsRow_nil w w.heap.size 9 1
  have HO := Lib.hid hown
  have HP := Lib.hid hp
  clear hown hp
  go_enter Tryd.func28, Tryd.ntmps28
  go_wp2_with (at_builtin; refine wpList_append_in rfl _ _ rfl w.heap.size _ 0 [] rfl HO.out _ p rfl HP.out (by omega) (Nat.le_refl _) ?_; intro v1 w1 hown1 hgr1
               have X : Aside (TextsIn w1 v1 p ∧ Below w.heap.size w w1) := ⟨TextsIn.of_row (by rw [Nat.zero_add] at hown1; exact hown1), Below.grown (Below.refl _ _) hgr1 (Nat.le_refl _) (fun k hk => by cases hk)⟩
               clear hown1 hgr1)
  go_ret
  exact ⟨_, rfl, X.out.1, X.out.2⟩


/-! Directives, in memory: two cells each. -/
def DirsIn (w : World) (v : Value) (ds : List D) : Prop :=
  ((∃ a c, v = .slice a 0 c) ∧ ds = []) ∨ ∃ B off cap, v = .slice (some ⟨B, off, none⟩) ds.length cap ∧ ∀ j, (h : j < ds.length) → w.cell? ⟨B, off + j * 2, none⟩ = some (strV ds[j].n) ∧ ∃ u, w.cell? ⟨B, off + j * 2 + 1, none⟩ = some u ∧ TextsIn w u ds[j].w
theorem DirsIn.below {w w' : World} {v : Value} {ds : List D} (h : DirsIn w v ds) (hb : Below w.heap.size w w') : DirsIn w' v ds := by
  rcases h with h | ⟨B, off, cap, h2, h3⟩
  · exact .inl h
  · refine .inr ⟨B, off, cap, h2, fun j hj => ?_⟩
    obtain ⟨k1, u, k2, k3⟩ := h3 j hj
    exact ⟨by rw [hb.cell (lt_of_cell k1)]; exact k1, u, by rw [hb.cell (lt_of_cell k2)]; exact k2, k3.below hb⟩
theorem DirsIn.form {w : World} {v : Value} {ds : List D} (h : DirsIn w v ds) : ∃ a c, v = .slice a ds.length c := by
  rcases h with ⟨⟨a, c, rfl⟩, rfl⟩ | ⟨B, off, cap, rfl, _⟩
  · exact ⟨_, _, rfl⟩
  · exact ⟨_, _, rfl⟩
/-- One directive's cells. -/
theorem DirsIn.at {w : World} {a : Option Addr} {n c : Nat} {ds : List D} (h : DirsIn w (.slice a n c) ds) {j : Nat} (hj : j < ds.length) : ∃ B off u, a = some ⟨B, off, none⟩ ∧ w.cell? ⟨B, off + j * 2, none⟩ = some (strV ds[j].n) ∧ w.cell? ⟨B, off + j * 2 + 1, none⟩ = some u ∧ TextsIn w u ds[j].w := by
  rcases h with ⟨_, h2⟩ | ⟨B, off, cap, h2, h3⟩
  · subst h2; simp at hj
  · cases h2
    obtain ⟨k1, u, k2, k3⟩ := h3 j hj
    exact ⟨B, off, u, rfl, k1, k2, k3⟩
/-- A policy as a value. -/
def polV (d : Value) (r : Bool) : Value := .agg #[d, .bool r]

theorem find_at {ds : List D} {t : List UInt8} {k : Nat} (hk : k < ds.length) (h : ∀ j, (h : j < ds.length) → j < k → ds[j].n ≠ t) (h2 : ds[k].n = t) : ds.find? (fun d => d.n == t) = some ds[k] := by
  rw [List.find?_eq_some_iff_getElem]
  exact ⟨by simp [h2], k, hk, rfl, fun j hj => by simpa using h j (by omega) hj⟩

set_option maxRecDepth 100000 in
set_option maxHeartbeats 2000000 in
theorem refFind_any (ds : List D) (dv : Value) (r : Bool) (name : ByteArray) (w : World) (hd : DirsIn w dv ds) (hl : ds.length ≤ 1000000) (hws : ∀ d ∈ ds, d.w.length ≤ 1000000) (hn : name.size ≤ 1099511627776) :
    Calls Tryd.prog 16 #[polV dv r, .string name] w fun e w' => Below w.heap.size w w' ∧ ((findM ds name.data.toList = none ∧ e = .returned (.tuple #[.slice none 0 0, .bool false])) ∨ ∃ ws v, findM ds name.data.toList = some ws ∧ e = .returned (.tuple #[v, .bool true]) ∧ TextsIn w' v ws) := by
  obtain ⟨T, hT⟩ := text_of (low name.data.toList)
  have CL := refLower_hid name T hT hn
  have HF : Hid (findM ds name.data.toList = (ds.find? (fun d => d.n == T.data.toList)).map D.w) := Lib.hid (by unfold findM; rw [hT])
  obtain ⟨a, c, rfl⟩ := hd.form
  unfold polV
  clear hT
  go_enter Tryd.func16, Tryd.ntmps16
  go_wp2_with fail
  have x1 := new_block w (.cells #[.slice a ds.length c, .bool r] 29)
  have B1 : Below w.heap.size w (w.alloc (.cells #[.slice a ds.length c, .bool r] 29)) := (Below.refl _ _).alloc (Nat.le_refl _) _
  have d1 := hd.below B1
  generalize hR : w.heap.size = R at x1 B1 ⊢
  have HR := Lib.hid hR
  clear hR
  generalize w.alloc (.cells #[.slice a ds.length c, .bool r] 29) = w1 at x1 B1 d1 ⊢
  refine (CL.out _).mono ?_
  rintro e w2 ⟨rfl, b2⟩
  have x2 : w2.heap[R]? = some (.cells #[.slice a ds.length c, .bool r] 29) := by rw [b2.block R (lt_of_block x1)]; exact x1
  have HD := Lib.hid (d1.below b2)
  have B2 := B1.trans (b2.mono (Nat.le_of_lt (lt_of_block x1)))
  have c0 : w2.cell? ⟨R, 0, none⟩ = some (.slice a ds.length c) := by rw [cell_of x2]; rfl
  clear x1 B1 d1 b2 x2 hd CL
  go_wp2
  go_loop [7] (fun i => ∃ k : Nat, k ≤ ds.length ∧ i = .int .i64 k ∧ Hid (∀ j, (h : j < ds.length) → j < k → ds[j].n ≠ T.data.toList)) (fun i => ds.length - (intOf i).toNat)
  case atStart => exact ⟨0, Nat.zero_le _, rfl, fun j _ h => absurd h (Nat.not_lt_zero _)⟩
  case round =>
    obtain ⟨k, hk, rfl, HS⟩ := hrel
    by_cases hlt : k < ds.length
    · obtain ⟨B, off, u, rfl, k1, k2, k3⟩ := HD.out.at hlt
      have g1 : ((⟨ds[k].n.toArray⟩ : ByteArray).toList == T.toList) = decide (ds[k].n = T.data.toList) := text_eq _ _
      have hw := hws _ (List.getElem_mem hlt)
      have HW : Hid (ds[k].n = T.data.toList → ds.find? (fun d => d.n == T.data.toList) = some ds[k]) := Lib.hid fun h => find_at hlt HS.out h
      have HN : Hid (ds[k].n ≠ T.data.toList → ∀ j, (h : j < ds.length) → j < k + 1 → ds[j].n ≠ T.data.toList) := Lib.hid fun h j hj hjk => by
        by_cases e : j = k
        · subst e; exact h
        · exact HS.out j hj (by omega)
      unfold strV at k1
      generalize ds[k] = d at *
      obtain ⟨X, hX⟩ : ∃ X : ByteArray, X = ⟨d.n.toArray⟩ := ⟨_, rfl⟩
      rw [← hX] at k1 g1
      clear HD hX
      by_cases he : d.n = T.data.toList
      · rw [decide_eq_true he] at g1
        have HG : Hid (findM ds name.data.toList = some d.w) := Lib.hid (by rw [HF.out, HW.out he]; rfl)
        have CO := refOwn_any d.w u w2 k3 hw
        unfold TextsPost at CO
        have HCO := Lib.hid CO
        clear he HW HN HS HF k3 hw CO
        go_wp2_with (go_at_call 28; refine HCO.out.mono ?_; rintro e w3 ⟨v, rfl, t3, b3⟩)
        go_ret2
        exact ⟨by rw [HR.out]; exact B2.trans (b3.mono (by have := B2.size; rw [HR.out] at this; omega)), .inr ⟨d.w, v, HG.out, rfl, t3⟩⟩
      · rw [decide_eq_false he] at g1
        have HM := Lib.hid (HN.out he)
        clear he HW HN HS k3 hw
        go_wp2
        go_round
        case rel => exact ⟨k + 1, by omega, by go_num, HM⟩
        case measure => simp [intOf]; omega
    · obtain rfl : k = ds.length := by omega
      have HG : Hid (findM ds name.data.toList = none) := Lib.hid (by
        rw [HF.out, List.find?_eq_none.2 (fun x hx => ?_)]
        · rfl
        · obtain ⟨j, hj, rfl⟩ := List.getElem_of_mem hx
          simpa using HS.out j hj hj)
      clear HF HS HD
      go_wp2
      go_ret2
      exact ⟨by rw [HR.out]; exact B2, .inl ⟨HG.out, rfl⟩⟩

end Go.Proofs.YtmlanlagnhnppaaDoor
