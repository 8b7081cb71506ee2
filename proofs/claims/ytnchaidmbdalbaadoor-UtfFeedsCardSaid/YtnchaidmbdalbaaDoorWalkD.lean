/- The document's own answers: Points and Join. -/
import Derived.Test.YtnchaidmbdalbaaDoorWalkC
namespace Go.Proofs.YtnchaidmbdalbaaDoor
open Go.RowKit

theorem Tinfo3 : (Tryd.prog.info? 3).map (fun i => (i.zero, i.size, i.bytes)) = some (some (.int .i64 0), 1, 8) := by kernel_rfl
theorem Tinfo5 : (Tryd.prog.info? 5).map (fun i => (i.zero, i.size, i.bytes)) = some (some (.int .u8 0), 1, 1) := by kernel_rfl

theorem lt_of_block {w : World} {g : Nat} {o : Obj} (h : w.heap[g]? = some o) : g < w.heap.size := by
  rcases Nat.lt_or_ge g w.heap.size with h' | h'
  · exact h'
  · simp [Array.getElem?_eq_none h'] at h
theorem ownsRow_below {w w' : World} {base : Nat} {e : TypeId} {size : Nat} {v : Value} {n : Nat} {xs : List Value} (h : w.ownsRow base e size v n xs) (hb : Below w.heap.size w w') : w'.ownsRow base e size v n xs := by
  obtain ⟨h1, h2⟩ := h
  refine ⟨h1, ?_⟩
  rcases h2 with h2 | ⟨g, cap, cur, a, b, c, d⟩
  · exact .inl h2
  · exact .inr ⟨g, cap, cur, a, b, by rw [hb.block g (lt_of_block c)]; exact c, d⟩

def ptCells (p : List Nat) : List Value := p.map fun (c : Nat) => Value.int .i64 (c : Int)
theorem ptCells_snoc (p : List Nat) (c : Nat) : ptCells (p ++ [c]) = ptCells p ++ [.int .i64 (c : Int)] := by simp [ptCells]
theorem ptCells_length (p : List Nat) : (ptCells p).length = p.length := by simp [ptCells]

theorem extract_drop (s : ByteArray) (pos : Nat) : (s.extract pos s.size).data.toList = s.data.toList.drop pos := by
  rw [Lib.extract_data, List.take_of_length_le (by simp)]
theorem size_drop (s : ByteArray) (pos : Nat) : (s.extract pos s.size).size = s.size - pos := by
  simp

set_option maxRecDepth 100000 in
set_option maxHeartbeats 1000000 in
theorem refPoints_any (s : ByteArray) (w : World) (hs : s.size ≤ 1099511627776) :
    Calls Tryd.prog 15 #[.string s] w fun e w' => ∃ v, e = .returned v ∧ w'.ownsRow w.heap.size 3 1 v (pts s.data.toList).length (ptCells (pts s.data.toList)) ∧ Below w.heap.size w w' := by
  obtain ⟨i0, hi, hz0, hz1, hz2⟩ := info_parts Tinfo3
  go_enter Tryd.func15, Tryd.ntmps15
  go_wp2
  go_loopw [3, 4] (fun v i wr => ∃ (pos : Nat) (acc : List Nat), i = .int .i64 pos ∧ pos ≤ s.size ∧ wr.ownsRow w.heap.size 3 1 v acc.length (ptCells acc) ∧ Below w.heap.size w wr ∧ Hid (pts s.data.toList = acc ++ pts (s.data.toList.drop pos)) ∧ acc.length ≤ pos) (fun _ i _ => s.size - (intOf i).toNat)
  case atStart => exact ⟨0, [], rfl, Nat.zero_le _, World.ownsRow_nil w w.heap.size 3 1, Below.refl _ _, rfl, Nat.le_refl _⟩
  case round =>
    obtain ⟨pos, acc, rfl, hp, hown, hbw, HS, hlen⟩ := hrel
    by_cases hlt : pos < s.size
    · have hne : s.data.toList.drop pos ≠ [] := by
        intro h
        have := congrArg List.length h
        simp at this; omega
      have hsz := size_drop s pos
      have hw := width_pos _ hne
      have hld : (s.data.toList.drop pos).length = s.size - pos := by simp
      have hH : Hid (pts s.data.toList = (acc ++ [(decL (s.data.toList.drop pos)).1]) ++ pts (s.data.toList.drop (pos + (decL (s.data.toList.drop pos)).2))) := by
        show _ = _
        rw [HS.out, pts_cons _ hne, List.drop_drop]
        simp
      have hb1 : 0 < (s.extract pos s.size).size := by omega
      have hb2 : (s.extract pos s.size).size ≤ 9223372036854775807 := by omega
      have c1 := first_any (s.extract pos s.size)
      rw [extract_drop] at c1
      have hcase := firstL_dec _ hne
      generalize hD : decL (s.data.toList.drop pos) = D at *
      obtain ⟨c, k⟩ := D
      simp only at hw hH
      have hk1 := hw.1
      have hk2 : pos + k ≤ s.size := by omega
      clear hw hld hsz hD HS
      rcases hcase with ⟨f1, f2, f3⟩ | ⟨f1, f2⟩
      · obtain ⟨rfl, rfl⟩ : c = 65533 ∧ k = 1 := by simpa using f3
        generalize firstL (s.data.toList.drop pos) = F at *
        obtain ⟨F1, F2⟩ := F
        simp only at f1 f2
        subst f1 f2
        clear f3 hne
        go_wp2_with (first
          | (go_at_call 26; refine (c1 _ hb1 hb2).mono ?_; rintro e w1 ⟨rfl, hb⟩
             have hown1 := ownsRow_below hown hb
             have hbw1 := hbw.trans (hb.mono hbw.size)
             clear hown hbw hb c1)
          | (at_builtin; refine wpList_append_own _ rfl _ _ 27 rfl w.heap.size 3 i0 (.int .i64 0) 1 8 Tryd.underlying27 hi hz0 hz1 hz2 rfl (by decide) _ _ _ rfl (hown1.alloc _) ⟨w1.heap.size, 0, none⟩ 1 1 [.int .i64 65533] rfl rfl (cell_one_new _ _ _) (fun x hx => by simp at hx; subst hx; rfl) (by unfold maxLen; omega) (by omega) (by have := hbw1.size; simp; omega) ?_; intro v' w3 hown' hgrow3 hnil3
             have hbw3 : Below w.heap.size w w3 := Below.grown (hbw1.alloc (by have := hbw1.size; omega) _) hgrow3 (by have := hbw1.size; simp; omega) (fun j hj => by have := (hown1.lt _ hj).1; omega)
             have X : Aside (w3.ownsRow w.heap.size 3 1 v' (acc.length + 1) (ptCells acc ++ [.int .i64 65533]) ∧ Below w.heap.size w w3) := ⟨hown', hbw3⟩
             clear hown' hgrow3 hnil3))
        go_roundw
        case rel => exact ⟨pos + 1, acc ++ [65533], by go_num, hk2, by rw [ptCells_snoc, List.length_append]; exact X.out.1, X.out.2, hH, by simp; omega⟩
        case measure => simp [intOf]; omega
      · have hk0 : ((k : Int) == 0) = false := by simp; omega
        rw [← f2] at c1
        clear f1 f2 hne
        go_wp2_with (first
          | (go_at_call 26; refine (c1 _ hb1 hb2).mono ?_; rintro e w1 ⟨rfl, hb⟩
             have hown1 := ownsRow_below hown hb
             have hbw1 := hbw.trans (hb.mono hbw.size)
             clear hown hbw hb c1)
          | (at_builtin; refine wpList_append_own _ rfl _ _ 27 rfl w.heap.size 3 i0 (.int .i64 0) 1 8 Tryd.underlying27 hi hz0 hz1 hz2 rfl (by decide) _ _ _ rfl (hown1.alloc _) ⟨w1.heap.size, 0, none⟩ 1 1 [.int .i64 c] rfl rfl (cell_one_new _ _ _) (fun x hx => by simp at hx; subst hx; rfl) (by unfold maxLen; omega) (by omega) (by have := hbw1.size; simp; omega) ?_; intro v' w3 hown' hgrow3 hnil3
             have hbw3 : Below w.heap.size w w3 := Below.grown (hbw1.alloc (by have := hbw1.size; omega) _) hgrow3 (by have := hbw1.size; simp; omega) (fun j hj => by have := (hown1.lt _ hj).1; omega)
             have X : Aside (w3.ownsRow w.heap.size 3 1 v' (acc.length + 1) (ptCells acc ++ [.int .i64 c]) ∧ Below w.heap.size w w3) := ⟨hown', hbw3⟩
             clear hown' hgrow3 hnil3))
        go_roundw
        case rel => exact ⟨pos + k, acc ++ [c], by go_num, hk2, by rw [ptCells_snoc, List.length_append]; exact X.out.1, X.out.2, hH, by simp; omega⟩
        case measure => simp [intOf]; omega
    · obtain rfl : pos = s.size := by omega
      have e : pts s.data.toList = acc := by
        rw [HS.out, List.drop_of_length_le (by simp), pts_nil, List.append_nil]
      have HE := Lib.hid e
      clear e
      go_wp2
      go_ret
      exact ⟨_, rfl, by rw [HE.out]; exact hown, hbw⟩

theorem rowForms {w : World} {base size n : Nat} {e : TypeId} {v : Value} {xs : List Value} (h : w.ownsRow base e size v n xs) : (v = .slice none 0 0 ∧ n = 0) ∨ ∃ g cap, v = .slice (some ⟨g, 0, none⟩) n cap := by
  rcases h.2 with h2 | ⟨g, cap, cur, a, _⟩
  · exact .inl h2
  · exact .inr ⟨g, cap, a⟩
theorem bsize (l : List UInt8) : (⟨l.toArray⟩ : ByteArray).size = l.length := by
  show l.toArray.size = _
  simp
/-- A slice of ints that reads as this list. -/
def IntsIn (w : World) (v : Value) (p : List Int) : Prop :=
  ((∃ a c, v = .slice a 0 c) ∧ p = []) ∨ ∃ B off cap, v = .slice (some ⟨B, off, none⟩) p.length cap ∧ ∀ j, (h : j < p.length) → w.cell? ⟨B, off + j, none⟩ = some (.int .i64 p[j])
theorem lt_of_cell {w : World} {a : Addr} {v : Value} (hc : w.cell? a = some v) : a.block < w.heap.size := by
  rcases Nat.lt_or_ge a.block w.heap.size with h' | h'
  · exact h'
  · simp [World.cell?, Array.getElem?_eq_none h'] at hc
theorem IntsIn.below {w w' : World} {v : Value} {p : List Int} (h : IntsIn w v p) (hb : Below w.heap.size w w') : IntsIn w' v p := by
  rcases h with h | ⟨B, off, cap, h1, h2⟩
  · exact .inl h
  · exact .inr ⟨B, off, cap, h1, fun j hj => by rw [hb.cell (lt_of_cell (h2 j hj))]; exact h2 j hj⟩
theorem IntsIn.of_row {w : World} {base : Nat} {v : Value} {p : List Nat} (h : w.ownsRow base 3 1 v p.length (ptCells p)) : IntsIn w v (p.map fun (c : Nat) => (c : Int)) := by
  rcases rowForms h with ⟨h1, h2⟩ | ⟨g, cap, rfl⟩
  · exact .inl ⟨⟨_, _, h1⟩, by rw [List.length_eq_zero_iff.1 h2]; rfl⟩
  · refine .inr ⟨g, 0, cap, by simp, fun j hj => ?_⟩
    have hj' : j < p.length := by simpa using hj
    rw [Nat.zero_add, h.cellAt j (by omega)]
    simp [ptCells, List.getElem?_eq_getElem hj']

theorem conv_row {w : World} {base : Nat} {v : Value} {n : Nat} {l : List UInt8} (h : w.ownsRow base 5 1 v n (Lib.byteCells l)) :
    (convert 22 9 v).run Tryd.prog w = .ok (.string ⟨l.toArray⟩) w := by
  have hl : l.length = n := by have := h.1; simpa [Lib.byteCells_length] using this
  rcases rowForms h with ⟨rfl, h2⟩ | ⟨g, cap, rfl⟩
  · have e : l = [] := List.length_eq_zero_iff.1 (by omega)
    rw [e]
    exact run_convert_bytes_nil (P := Tryd.prog) w 22 5 Tryd.underlying22 Tryd.underlying5 0 0 9 Tryd.underlying9
  · subst hl
    refine run_convert_bytes_back (P := Tryd.prog) w 22 9 5 ⟨g, 0, none⟩ cap l Tryd.underlying22 Tryd.underlying5 Tryd.underlying9 (fun j hj => ?_)
    have e : (⟨g, 0, none⟩ : Addr).add j = ⟨g, j, none⟩ := by simp [Addr.add]; omega
    rw [e, h.cellAt j (by omega)]
    simp [Lib.byteCells, List.getElem?_eq_getElem hj]

theorem byteCells_append (a b : List UInt8) : Lib.byteCells (a ++ b) = Lib.byteCells a ++ Lib.byteCells b := by simp [Lib.byteCells]
theorem take_snoc (p : List Nat) (k : Nat) (h : k < p.length) : p.take (k + 1) = p.take k ++ [p[k]] := by
  rw [List.take_succ_eq_append_getElem h]
theorem encs_snoc (p : List Nat) (c : Nat) : encs (p ++ [c]) = encs p ++ encN c := by rw [encs_append, encs_cons, encs_nil, List.append_nil]

set_option maxRecDepth 100000 in
set_option maxHeartbeats 1000000 in
/-- Join: the bytes of code points. -/
theorem join_any (p : List Nat) (hp : ∀ c ∈ p, c ≤ 1114111) (v : Value) (w : World) (hlen : p.length ≤ 1099511627776) (hv : IntsIn w v (p.map fun (c : Nat) => (c : Int))) :
    Calls Tryd.prog 24 #[v] w fun e w' => e = .returned (.string ⟨(encs p).toArray⟩) ∧ Below w.heap.size w w' := by
  obtain ⟨i0, hi, hz0, hz1, hz2⟩ := info_parts Tinfo5
  rcases hv with ⟨⟨a0, c0, rfl⟩, hp0⟩ | ⟨B, off, cap, rfl, hc⟩
  · obtain rfl : p = [] := List.map_eq_nil_iff.1 hp0
    clear hp hp0 hlen
    have hconv := conv_row (l := []) (World.ownsRow_nil w 0 5 1)
    go_enter Tryd.func24, Tryd.ntmps24
    go_wp2
    refine wp_loop_rounds 1 ?_
    rw [rounds_succ]
    go_wp2
    go_ret
    exact ⟨rfl, Below.refl _ _⟩
  simp only [List.length_map] at hc ⊢
  go_enter Tryd.func24, Tryd.ntmps24
  go_wp2
  go_loopw [3, 4] (fun o i wr => ∃ k : Nat, i = .int .i64 k ∧ k ≤ p.length ∧ wr.ownsRow w.heap.size 5 1 o (encs (p.take k)).length (Lib.byteCells (encs (p.take k))) ∧ Below w.heap.size w wr) (fun _ i _ => p.length - (intOf i).toNat)
  case atStart => exact ⟨0, rfl, Nat.zero_le _, World.ownsRow_nil w w.heap.size 5 1, Below.refl _ _⟩
  case round =>
    obtain ⟨k, rfl, hk, hown, hbw⟩ := hrel
    by_cases hlt : k < p.length
    · have hcell : wr.cell? ⟨B, off + k, none⟩ = some (.int .i64 (p[k] : Nat)) := by
        have := hc k hlt
        rw [hbw.cell (lt_of_cell this), this]
        simp
      have hpk : p[k] ≤ 1114111 := hp _ (List.getElem_mem hlt)
      have hH : Hid (encs (p.take (k + 1)) = encs (p.take k) ++ encN p[k]) := by
        show _ = _
        rw [take_snoc p k hlt, encs_snoc]
      have hlen2 := (encs_len_le (p.take k)).2
      have hlen3 : (p.take k).length ≤ k := List.length_take_le _ _
      have hlen4 := encN_length p[k]
      generalize p[k] = c at *
      generalize encs (p.take k) = A at *
      go_wp2_with (first
        | (go_at_call 38; refine (bytes_any c hpk _).mono ?_; rintro e w1 ⟨rfl, hb⟩
           have hown1 := ownsRow_below hown hb
           have hbw1 := hbw.trans (hb.mono hbw.size)
           clear hown hbw hb hcell)
        | (at_builtin; go_loud (refine Lib.wpList_append_own_string _ rfl _ _ 22 9 rfl w.heap.size 5 i0 Tryd.underlying22 Tryd.underlying9 hi hz0 hz1 hz2 _ _ _ rfl hown1 ⟨(encN c).toArray⟩ rfl (by rw [bsize]; unfold maxLen; omega) (by rw [bsize]; omega) hbw1.size ?_); intro v' w3 hown' hgrow3 hnil3
           rw [bsize] at hown'
           have hbw3 : Below w.heap.size w w3 := Below.grown hbw1 hgrow3 hbw1.size (fun j hj => (hown1.lt _ hj).1)
           have X : Aside (w3.ownsRow w.heap.size 5 1 v' (A.length + (encN c).length) (Lib.byteCells A ++ Lib.byteCells (encN c)) ∧ Below w.heap.size w w3) := ⟨hown', hbw3⟩
           clear hown' hgrow3 hnil3))
      go_roundw
      case rel => exact ⟨k + 1, by go_num, by omega, by rw [hH.out, byteCells_append, List.length_append]; exact X.out.1, X.out.2⟩
      case measure => simp [intOf]; omega
    · obtain rfl : k = p.length := by omega
      rw [List.take_length] at hown
      have hconv := conv_row hown
      go_wp2
      go_ret
      exact ⟨rfl, hbw⟩

end Go.Proofs.YtnchaidmbdalbaaDoor
