/- Rows of texts: Big, Own, Join, Texts; the program's Of. -/
import Derived.Test.YtmdpilpghcapbaaWalkC
namespace Go.Proofs.Ytmdpilpghcapbaa
open Go.RowKit

theorem Tinfo9 : (Try.prog.info? 9).map (fun i => (i.zero, i.size, i.bytes)) = some (some (.string ⟨#[]⟩), 1, 16) := by kernel_rfl
def strV (t : List UInt8) : Value := .string ⟨t.toArray⟩
/-- A slice of texts that reads as this list. -/
def TextsIn (w : World) (v : Value) (ts : List (List UInt8)) : Prop :=
  ((∃ a c, v = .slice a 0 c) ∧ ts = []) ∨ ∃ B off cap, v = .slice (some ⟨B, off, none⟩) ts.length cap ∧ ∀ j, (h : j < ts.length) → w.cell? ⟨B, off + j, none⟩ = some (strV ts[j])
theorem TextsIn.below {w w' : World} {v : Value} {p : List (List UInt8)} (h : TextsIn w v p) (hb : Below w.heap.size w w') : TextsIn w' v p := by
  rcases h with h | ⟨B, off, cap, h1, h2⟩
  · exact .inl h
  · exact .inr ⟨B, off, cap, h1, fun j hj => by rw [hb.cell (lt_of_cell (h2 j hj))]; exact h2 j hj⟩
theorem TextsIn.form {w : World} {v : Value} {p : List (List UInt8)} (h : TextsIn w v p) : ∃ a c, v = .slice a p.length c := by
  rcases h with ⟨⟨a, c, rfl⟩, rfl⟩ | ⟨B, off, cap, rfl, _⟩
  · exact ⟨_, _, rfl⟩
  · exact ⟨_, _, rfl⟩
def txtCells (p : List (List UInt8)) : List Value := p.map strV
theorem txtCells_length (p : List (List UInt8)) : (txtCells p).length = p.length := by simp [txtCells]
theorem TextsIn.of_row {w : World} {base : Nat} {v : Value} {p : List (List UInt8)} (h : w.ownsRow base 9 1 v p.length (txtCells p)) : TextsIn w v p := by
  rcases rowForms h with ⟨h1, h2⟩ | ⟨g, cap, rfl⟩
  · exact .inl ⟨⟨_, _, h1⟩, List.length_eq_zero_iff.1 h2⟩
  · refine .inr ⟨g, 0, cap, rfl, fun j hj => ?_⟩
    rw [Nat.zero_add, h.cellAt j (by omega)]
    simp [txtCells, List.getElem?_eq_getElem hj]
theorem textsIn_new (W : World) (p : List (List UInt8)) (C : Array Value) (hC : C = (txtCells p).toArray) (n : Nat) (hn : n = p.length) (c : Nat) : TextsIn (W.alloc (.cells C 9)) (.slice (some ⟨W.heap.size, 0, none⟩) n c) p := by
  subst hn hC
  refine .inr ⟨_, 0, c, rfl, fun j hj => ?_⟩
  rw [Nat.zero_add, World.cell?_alloc_mark]
  simp [txtCells, List.getElem?_eq_getElem hj]

def BigPost (p : List (List UInt8)) (w : World) (e : Ending) (w' : World) : Prop := ∃ b, e = .returned (.bool b) ∧ w = w' ∧ (b = false → p.length ≤ 20 ∧ ∀ t ∈ p, t.length ≤ 500)
set_option maxRecDepth 100000 in
/-- Too great to be looked at? -/
theorem big_any (p : List (List UInt8)) (v : Value) (w : World) (hp : TextsIn w v p) (hl : p.length ≤ 9223372036854775807) : Calls Try.prog 9 #[v, .int .i64 20, .int .i64 500] w (BigPost p w) := by
  obtain ⟨a, c, rfl⟩ := hp.form
  by_cases h20 : 20 < p.length
  · have hz : (20 : Int) < (p.length : Int) := by omega
    clear hp h20
    go_enter Try.func9, Try.ntmps9
    go_wp2
    go_ret
    exact ⟨true, rfl, rfl, fun h => by cases h⟩
  · have hz : ¬ (20 : Int) < (p.length : Int) := by omega
    have hp20 : p.length ≤ 20 := by omega
    have hcell : Hid (∀ j, (h : j < p.length) → ∃ B off, a = some ⟨B, off, none⟩ ∧ w.cell? ⟨B, off + j, none⟩ = some (strV p[j])) := Lib.hid fun j h => by
      rcases hp with ⟨_, h2⟩ | ⟨B, off, cap, h1, h2⟩
      · subst h2; simp at h
      · cases h1
        exact ⟨B, off, rfl, h2 j h⟩
    clear hp h20
    go_enter Try.func9, Try.ntmps9
    go_wp2
    go_loop [7] (fun i => ∃ k : Nat, k ≤ p.length ∧ i = .int .i64 k ∧ Hid (∀ j, (h : j < p.length) → j < k → (p[j]).length ≤ 500)) (fun i => p.length - (intOf i).toNat)
    case atStart => exact ⟨0, Nat.zero_le _, rfl, fun j _ h => absurd h (Nat.not_lt_zero _)⟩
    case round =>
      obtain ⟨k, hk, rfl, HS⟩ := hrel
      by_cases hlt : k < p.length
      · obtain ⟨B, off, rfl, hc⟩ := hcell.out k hlt
        have HN : Hid (p[k].length ≤ 500 → ∀ j, (h : j < p.length) → j < k + 1 → (p[j]).length ≤ 500) := fun h1 j hj hjk => by
          by_cases e : j = k
          · subst e; exact h1
          · exact HS.out j hj (by omega)
        obtain ⟨T, hT⟩ := text_of p[k]
        have hc2 : w.cell? ⟨B, off + k, none⟩ = some (.string T) := by rw [hc, text_is hT]; rfl
        have hTs : T.size = p[k].length := by rw [← hT]; simp
        rw [← hTs] at HN
        clear hc hT hTs
        by_cases hg : 500 < T.size
        · have hz2 : (500 : Int) < (T.size : Int) := by omega
          go_wp2
          go_ret
          exact ⟨true, rfl, rfl, fun h => by cases h⟩
        · have hz2 : ¬ (500 : Int) < (T.size : Int) := by omega
          have HM := Lib.hid (HN.out (by omega))
          clear hg
          go_wp2
          go_round
          case rel => exact ⟨k + 1, by omega, by go_num, HM⟩
          case measure => simp [intOf]; omega
      · obtain rfl : k = p.length := by omega
        go_wp2
        go_ret
        exact ⟨false, rfl, rfl, fun _ => ⟨hp20, fun t ht => by obtain ⟨j, hj, rfl⟩ := List.getElem_of_mem ht; exact HS.out j hj hj⟩⟩

theorem nil_app {w : World} {base : Nat} {v : Value} {n : Nat} {xs : List Value} (hown : w.ownsRow base 9 1 v n xs) (ty : TypeId) (c : Nat) : (Builtin.append_ #[22, 22] ty #[v, .slice none 0 c]).run Try.prog w = .ok v w := by
  obtain ⟨i0, hi, hz0, hz1, hz2⟩ := info_parts Tinfo9
  rcases hown.2 with ⟨rfl, rfl⟩ | ⟨g, cap, cur, rfl, _, _, hnc, _⟩
  · simp [Builtin.append_, run_underlying Try.underlying22, sizeOf, typeInfo, hi, Builtin.lenOf, Builtin.firstCells]
  · simp [Builtin.append_, run_underlying Try.underlying22, sizeOf, typeInfo, hi, Builtin.lenOf, Builtin.firstCells, hnc, storeCells]
/-- append(own, x...) where x came in. -/
theorem wpList_append_in {w : World} {ops : Array Oper} {rest : List Oper} {o : Oper} {a : Act} {Q : Exit → Act → World → Prop} (hgd : o.guard = none) (s x : Operand)
    (ho : o.op = .call { callee := .builtin .append, args := #[s, x], argTypes := #[22, 22] }) (base : Nat) (v0 : Value) (n : Nat) (xs : List Value)
    (hs : a.eval s = v0) (hown : w.ownsRow base 9 1 v0 n xs) (u : Value) (l : List (List UInt8)) (hx : a.eval x = u) (hin : TextsIn w u l)
    (h63 : n + l.length ≤ 1099511627776) (hbase : base ≤ w.heap.size)
    (h : ∀ v' w', w'.ownsRow base 9 1 v' (n + l.length) (xs ++ txtCells l) → w.grownBy w' v0.ownBlock → wpList Try.prog ops Q rest (a.put o.dst v') w') : wpList Try.prog ops Q (o :: rest) a w := by
  obtain ⟨i0, hi, hz0, hz1, hz2⟩ := info_parts Tinfo9
  have via : ∀ (ad : Addr) (c : Nat), u = .slice (some ad) l.length c → (∀ j v, (txtCells l)[j]? = some v → w.cell? (ad.add j) = some v) → wpList Try.prog ops Q (o :: rest) a w := fun ad c hu hc => by
    refine wpList_append_own w hgd s x 22 ho base 9 i0 (.string ⟨#[]⟩) 1 16 Try.underlying22 hi hz0 hz1 hz2 rfl (by decide) _ n xs hs hown ad l.length c (txtCells l) (by rw [hx, hu]) (by simp [txtCells_length]) hc (fun v hv => ?_) (by unfold maxLen; omega) (by omega) hbase ?_
    · obtain ⟨b, _, rfl⟩ := List.mem_map.1 hv
      rfl
    · intro v' w' h1 h2 _
      exact h v' w' h1 h2
  rcases hin with ⟨⟨a0, c0, rfl⟩, rfl⟩ | ⟨B, off, cap, rfl, hc⟩
  · cases a0 with
    | none =>
      refine wpList_plain hgd fun K hK => ?_
      have hrun := nil_app hown o.type c0
      unfold Oper.wp execOp
      simp only [ho, resolve, invoke, builtin, Sem.run_bind, Sem.run_pure, Result.andThen_ok, List.map_toArray, List.map_cons, List.map_nil, hs, hx, hrun]
      exact hK _ _ (h _ _ (by simpa [txtCells] using hown) (World.grownBy.refl w _))
    | some ad => exact via ad c0 rfl (fun j v hj => by simp [txtCells] at hj)
  · refine via ⟨B, off, none⟩ cap rfl (fun j v hj => ?_)
    have hj' : j < l.length := by
      have := (List.getElem?_eq_some_iff.1 hj).1
      simpa [txtCells] using this
    have e : (⟨B, off, none⟩ : Addr).add j = ⟨B, off + j, none⟩ := by unfold Addr.add; split <;> simp_all
    rw [e, hc j hj']
    simp [txtCells, List.getElem?_eq_getElem hj'] at hj
    rw [← hj]

def TextsPost (p : List (List UInt8)) (w : World) (e : Ending) (w' : World) : Prop := ∃ v, e = .returned v ∧ TextsIn w' v p ∧ Below w.heap.size w w'
set_option maxRecDepth 100000 in
theorem own_any (p : List (List UInt8)) (v : Value) (w : World) (hp : TextsIn w v p) (hl : p.length ≤ 1000000) : Calls Try.prog 10 #[v] w (TextsPost p w) := by
  have hown := World.ownsRow_nil w w.heap.size 9 1
  have HO := Lib.hid hown
  have HP := Lib.hid hp
  clear hown hp
  go_enter Try.func10, Try.ntmps10
  go_wp2_with (at_builtin; refine wpList_append_in rfl _ _ rfl w.heap.size _ 0 [] rfl HO.out _ p rfl HP.out (by omega) (Nat.le_refl _) ?_; intro v1 w1 hown1 hgr1
               have X : Aside (TextsIn w1 v1 p ∧ Below w.heap.size w w1) := ⟨TextsIn.of_row (by rw [Nat.zero_add] at hown1; exact hown1), Below.grown (Below.refl _ _) hgr1 (Nat.le_refl _) (fun k hk => by cases hk)⟩
               clear hown1 hgr1)
  go_ret
  exact ⟨_, rfl, X.out.1, X.out.2⟩

theorem len_le (p : List (List UInt8)) (h20 : p.length ≤ 20) (h5 : ∀ t ∈ p, t.length ≤ 500) : p.flatten.length ≤ 10000 := by
  have : ∀ q : List (List UInt8), (∀ t ∈ q, t.length ≤ 500) → q.flatten.length ≤ 500 * q.length := by
    intro q hq
    induction q with
    | nil => simp
    | cons a q ih =>
      have h1 := hq a (by simp)
      have h2 := ih (fun t ht => hq t (by simp [ht]))
      simp only [List.flatten_cons, List.length_append, List.length_cons]; omega
  have := this p h5
  omega
theorem flat_take (p : List (List UInt8)) (k : Nat) (h : k < p.length) : (p.take (k + 1)).flatten = (p.take k).flatten ++ p[k] := by
  rw [List.take_succ_eq_append_getElem h, List.flatten_append, List.flatten_cons, List.flatten_nil, List.append_nil]
theorem flat_le (p : List (List UInt8)) (k : Nat) : (p.take k).flatten.length ≤ p.flatten.length := by
  have h := congrArg List.length (congrArg List.flatten (List.take_append_drop k p))
  rw [List.flatten_append, List.length_append] at h
  omega
theorem flat_le2 (p : List (List UInt8)) (k : Nat) (h : k < p.length) : (p.take k).flatten.length + p[k].length ≤ p.flatten.length := by
  have h1 := flat_le p (k + 1)
  rw [flat_take p k h, List.length_append] at h1
  exact h1

set_option maxRecDepth 100000 in
set_option maxHeartbeats 1000000 in
theorem join_any (p : List (List UInt8)) (v : Value) (w : World) (J : ByteArray) (hJ : J.data.toList = p.flatten) (hp : TextsIn w v p) (hl : p.length ≤ 1000000) (hf : p.flatten.length ≤ 1000000) : Calls Try.prog 14 #[v] w fun e w' => e = .returned (.string J) ∧ w = w' := by
  obtain ⟨a, c, rfl⟩ := hp.form
  have hcell : Hid (∀ j, (h : j < p.length) → ∃ B off, a = some ⟨B, off, none⟩ ∧ w.cell? ⟨B, off + j, none⟩ = some (strV p[j])) := Lib.hid fun j h => by
    rcases hp with ⟨_, h2⟩ | ⟨B, off, cap, h1, h2⟩
    · subst h2; simp at h
    · cases h1
      exact ⟨B, off, rfl, h2 j h⟩
  have HJ := Lib.hid hJ
  clear hp hJ
  go_enter Try.func14, Try.ntmps14
  go_wp2
  go_loop [3, 4] (fun s i => ∃ (k : Nat) (S : ByteArray), k ≤ p.length ∧ i = .int .i64 k ∧ s = .string S ∧ Hid (S.data.toList = (p.take k).flatten)) (fun _ i => p.length - (intOf i).toNat)
  case atStart => exact ⟨0, ⟨#[]⟩, Nat.zero_le _, rfl, rfl, Lib.hid rfl⟩
  case round =>
    obtain ⟨k, S, hk, rfl, rfl, HS⟩ := hrel
    by_cases hlt : k < p.length
    · obtain ⟨B, off, rfl, hc⟩ := hcell.out k hlt
      obtain ⟨T, hT⟩ := text_of p[k]
      have hc2 : w.cell? ⟨B, off + k, none⟩ = some (.string T) := by rw [hc, text_is hT]; rfl
      obtain ⟨R, hR⟩ := text_of (S.data.toList ++ T.data.toList)
      have HN : Hid (R.data.toList = (p.take (k + 1)).flatten) := Lib.hid (by rw [hR, HS.out, hT, flat_take p k hlt])
      have hadd := add_to S T R hR (by
        have := flat_le2 p k hlt
        rw [← HS.out, ← hT, lsize, lsize] at this; omega)
      clear hc hT hR
      go_wp2
      go_round
      case rel => exact ⟨k + 1, R, by omega, by go_num, rfl, HN⟩
      case measure => simp [intOf]; omega
    · obtain rfl : k = p.length := by omega
      have HE : Hid (S = J) := Lib.hid (by
        apply ByteArray.ext
        apply Array.toList_inj.1
        rw [HS.out, HJ.out, List.take_length])
      go_wp2
      go_ret
      exact ⟨congrArg (fun x => Ending.returned (Value.string x)) HE.out, rfl⟩

theorem mark_hid (R : Nat) (l : List UInt8) (hl : l.length ≤ 1099511627776) (M : ByteArray) (hM : M.data.toList = markL l) : Hid (∀ W, MkAt W R l → Calls Try.prog 17 #[.pointer (some ⟨R, 0, none⟩)] W fun e w' => e = .returned (.string M) ∧ Below W.heap.size W w') :=
  Lib.hid fun W h => by rw [text_is hM]; exact mark_any R l W h hl

set_option maxRecDepth 100000 in
set_option maxHeartbeats 1000000 in
/-- The program's Of. -/
theorem of_any (p : List (List UInt8)) (v : Value) (w : World) (M : ByteArray) (hM : M.data.toList = markL p.flatten) (hp : TextsIn w v p) (hl : p.length ≤ 1000000) (hf : p.flatten.length ≤ 1000000) : Calls Try.prog 12 #[v] w fun e w' => e = .returned (.string M) ∧ Below w.heap.size w w' := by
  obtain ⟨a, c, rfl⟩ := hp.form
  have hcell : Hid (∀ j, (h : j < p.length) → ∃ B off, a = some ⟨B, off, none⟩ ∧ B < w.heap.size ∧ w.cell? ⟨B, off + j, none⟩ = some (strV p[j])) := Lib.hid fun j h => by
    rcases hp with ⟨_, h2⟩ | ⟨B, off, cap, h1, h2⟩
    · subst h2; simp at h
    · cases h1
      exact ⟨B, off, rfl, lt_of_cell (h2 j h), h2 j h⟩
  have CM := mark_hid w.heap.size p.flatten (by omega) M hM
  clear hp hM
  go_enter Try.func12, Try.ntmps12
  go_wp2_with fail
  refine (new_any _).mono ?_
  rintro e w1 ⟨rfl, hk1, B1⟩
  have H1 := Lib.hid hk1
  have hgr1 := hk1.lt
  clear hk1
  go_wp2
  go_loopw [9] (fun i wr => ∃ k : Nat, k ≤ p.length ∧ i = .int .i64 k ∧ Below w.heap.size w wr ∧ Hid (MkAt wr w.heap.size (p.take k).flatten)) (fun i _ => p.length - (intOf i).toNat)
  case atStart => exact ⟨0, Nat.zero_le _, rfl, B1, H1⟩
  case round =>
    obtain ⟨k, hk, rfl, hb, HS⟩ := hrel
    by_cases hlt : k < p.length
    · obtain ⟨B, off, rfl, hB, hc⟩ := hcell.out k hlt
      obtain ⟨T, hT⟩ := text_of p[k]
      have hc2 : wr.cell? ⟨B, off + k, none⟩ = some (.string T) := by rw [hb.cell hB, hc, text_is hT]; rfl
      have hle : (p.take k).flatten.length + T.size ≤ 1099511627776 := by
        have := flat_le2 p k hlt
        rw [← hT, lsize] at this; omega
      have HN : Hid ((p.take k).flatten ++ T.data.toList = (p.take (k + 1)).flatten) := Lib.hid (by rw [hT, flat_take p k hlt])
      have C := Lib.hid (add_any w.heap.size w.heap.size (p.take k).flatten T w wr hb (Nat.le_refl _) HS.out hle)
      clear hc hT hle B1 H1
      go_wp2_with fail
      refine C.out.mono ?_
      rintro e w2 ⟨rfl, B2, hk2, _⟩
      have HK : Hid (MkAt w2 w.heap.size (p.take (k + 1)).flatten) := by rw [← HN.out]; exact Lib.hid hk2
      clear hk2
      go_wp2
      go_roundw
      case rel => exact ⟨k + 1, by omega, by go_num, B2, HK⟩
      case measure => simp [intOf]; omega
    · obtain rfl : k = p.length := by omega
      have HK : Hid (MkAt wr w.heap.size p.flatten) := by have := HS.out; rw [List.take_length] at this; exact Lib.hid this
      clear HS B1 H1
      go_wp2_with fail
      refine (CM.out _ HK.out).mono ?_
      rintro e w2 ⟨rfl, b2⟩
      have B2 := hb.trans (b2.mono hb.size)
      clear b2
      go_wp2
      go_ret
      exact ⟨rfl, B2⟩

end Go.Proofs.Ytmdpilpghcapbaa
