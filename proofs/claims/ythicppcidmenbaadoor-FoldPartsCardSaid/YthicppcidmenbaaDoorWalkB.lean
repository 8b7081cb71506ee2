/- Small letters: the program's text and the document's; trimmed texts, the document's; two texts that are the same. -/
import Derived.Test.YthicppcidmenbaaDoorWalkA
import Derived.OwnWalk
namespace Go.Proofs.YthicppcidmenbaaDoor
open Go.RowKit

theorem Tinfo5 : (Tryd.prog.info? 5).map (fun i => (i.zero, i.size, i.bytes)) = some (some (.int .u8 0), 1, 1) := by kernel_rfl
theorem Tinfo9 : (Tryd.prog.info? 9).map (fun i => (i.zero, i.size, i.bytes)) = some (some (.string ⟨#[]⟩), 1, 16) := by kernel_rfl

theorem lt_of_block {w : World} {g : Nat} {o : Obj} (h : w.heap[g]? = some o) : g < w.heap.size := by
  rcases Nat.lt_or_ge g w.heap.size with h' | h'
  · exact h'
  · simp [Array.getElem?_eq_none h'] at h
theorem ownsRow_below {w w' : World} {base : Nat} {e : TypeId} {size : Nat} {v : Value} {n : Nat} {xs : List Value} (h : w.ownsRow base e size v n xs) (hb : Below w.heap.size w w') : w'.ownsRow base e size v n xs := by
  obtain ⟨h1, h2⟩ := h
  refine ⟨h1, ?_⟩
  rcases h2 with h2 | ⟨g, cap, cur, a, b, c, d⟩
  · exact .inl h2
  · exact .inr ⟨g, cap, cur, a, b, by rw [hb.block g (lt_of_block c)]; exact c, d⟩
theorem rowForms {w : World} {base size n : Nat} {e : TypeId} {v : Value} {xs : List Value} (h : w.ownsRow base e size v n xs) : (v = .slice none 0 0 ∧ n = 0) ∨ ∃ g cap, v = .slice (some ⟨g, 0, none⟩) n cap := by
  rcases h.2 with h2 | ⟨g, cap, cur, a, _⟩
  · exact .inl h2
  · exact .inr ⟨g, cap, a⟩
theorem bsize (l : List UInt8) : (⟨l.toArray⟩ : ByteArray).size = l.length := by
  show l.toArray.size = _
  simp
theorem lsize (s : ByteArray) : s.data.toList.length = s.size := by simp
theorem lt_of_cell {w : World} {a : Addr} {v : Value} (hc : w.cell? a = some v) : a.block < w.heap.size := by
  rcases Nat.lt_or_ge a.block w.heap.size with h' | h'
  · exact h'
  · simp [World.cell?, Array.getElem?_eq_none h'] at hc

/-- A row of bytes that may be written. -/
structure RowAt (w : World) (g : Nat) (l : List UInt8) : Prop where
  cell : ∀ j b, l[j]? = some b → w.cell? ⟨g, j, none⟩ = some (.int .u8 (b.toNat : Int))
  free : ∀ j, j < l.length → w.frozen? ⟨g, j, none⟩ = false
theorem RowAt.set {w : World} {g : Nat} {l : List UInt8} (h : RowAt w g l) {k : Nat} (hk : k < l.length) (b : UInt8) : RowAt (w.setCell ⟨g, k, none⟩ (.int .u8 (b.toNat : Int))) g (l.set k b) := by
  refine ⟨fun j c hj => ?_, fun j hj => by rw [World.frozen?_setCell]; exact h.free j (by simpa using hj)⟩
  rw [List.getElem?_set] at hj
  by_cases e : k = j
  · subst e
    rw [if_pos rfl, if_pos hk] at hj
    cases hj
    exact World.cell?_setCell_same _ _ _ (h.cell k l[k] (by rw [List.getElem?_eq_getElem hk]))
  · rw [if_neg e] at hj
    rw [World.cell?_setCell_other _ _ _ _ (by intro h; cases h; exact e rfl)]
    exact h.cell j c hj
theorem rowAt_world (w : World) (s : ByteArray) : RowAt (Lib.bytesWorld w 5 s) w.heap.size s.data.toList := by
  refine ⟨fun j b hj => ?_, fun j hj => ?_⟩
  · rw [Lib.bytesWorld_cell w 5 s j (get_of hj).2]
    simp only [List.getD_eq_getElem?_getD, hj, Option.getD_some]
  · have hg := Lib.bytesWorld_at_new w 5 s
    have hsz : j < (Lib.bytesCells w 5 s).size := by
      rw [lsize] at hj
      simp [Lib.bytesCells]; omega
    unfold World.frozen?
    rw [hg]
    simp
    omega
theorem below_bytesWorld (w : World) (s : ByteArray) : Below w.heap.size w (Lib.bytesWorld w 5 s) := by
  refine ⟨?_, ?_, ?_, by rw [Lib.bytesWorld_size]; omega, fun k hk => Lib.bytesWorld_at_old w 5 s k hk⟩
  · simp [Lib.bytesWorld, World.freeze, World.alloc, World.drew, -World.alloc_eq, -World.drew_eq]
  · simp [Lib.bytesWorld, World.freeze, World.alloc, World.drew, -World.alloc_eq, -World.drew_eq]
  · simp [Lib.bytesWorld, World.freeze, World.alloc, World.drew, -World.alloc_eq, -World.drew_eq]
theorem RowAt.conv {w : World} {g : Nat} {l : List UInt8} (h : RowAt w g l) (n cap : Nat) (hn : n = l.length) : (convert 32 9 (.slice (some ⟨g, 0, none⟩) n cap)).run Tryd.prog w = .ok (.string ⟨l.toArray⟩) w := by
  subst hn
  refine run_convert_bytes_back (P := Tryd.prog) w 32 9 5 ⟨g, 0, none⟩ cap l Tryd.underlying32 Tryd.underlying5 Tryd.underlying9 (fun j hj => ?_)
  have e : (⟨g, 0, none⟩ : Addr).add j = ⟨g, j, none⟩ := by simp [Addr.add]; omega
  rw [e]
  exact h.cell j _ (by rw [List.getElem?_eq_getElem hj])

/-- The first k letters small, the others as they were. -/
def mix (l : List UInt8) (k : Nat) : List UInt8 := low (l.take k) ++ l.drop k
theorem mix_length (l : List UInt8) (k : Nat) : (mix l k).length = l.length := by
  simp only [mix, low, List.length_append, List.length_map, List.length_take, List.length_drop]; omega
theorem mix_zero (l : List UInt8) : mix l 0 = l := by simp [mix, low]
theorem mix_all (l : List UInt8) : mix l l.length = low l := by simp [mix]
theorem mix_at (l : List UInt8) (k : Nat) (b : UInt8) (h : l[k]? = some b) : (mix l k)[k]? = some b := by
  have hk := (List.getElem?_eq_some_iff.1 h).1
  unfold mix
  rw [List.getElem?_append_right (by simp [low]; omega)]
  simp only [low, List.length_map, List.length_take, List.getElem?_drop]
  rw [← h]; congr 1; omega
theorem mix_succ (l : List UInt8) (k : Nat) (b : UInt8) (h : l[k]? = some b) : mix l (k + 1) = (mix l k).set k (lowB b) := by
  have hk := List.getElem?_eq_some_iff.1 h
  have hl : (low (l.take k)).length = k := by have := hk.1; simp [low]; omega
  unfold mix
  rw [List.set_append_right _ _ (by omega), hl, Nat.sub_self, drop_cons h, List.set_cons_zero]
  rw [List.take_add_one, h]
  simp [low]
theorem set_self {l : List UInt8} {k : Nat} {b : UInt8} (h : l[k]? = some b) : l.set k b = l := by
  apply List.ext_getElem?
  intro j
  rw [List.getElem?_set]
  split
  · rename_i e
    subst e
    rw [if_pos (List.getElem?_eq_some_iff.1 h).1, h]
  · rfl
theorem lowB_great {b : UInt8} (h : 65 ≤ (b.toNat : Int)) (h2 : (b.toNat : Int) ≤ 90) : ((lowB b).toNat : Int) = (b.toNat : Int) + 32 := by
  unfold lowB
  rw [if_pos ⟨by omega, by omega⟩, UInt8.toNat_add]
  simp; omega
theorem lowB_other {b : UInt8} (h : ¬ (65 ≤ (b.toNat : Int) ∧ (b.toNat : Int) ≤ 90)) : lowB b = b := by
  unfold lowB
  rw [if_neg (by omega)]

set_option maxRecDepth 100000 in
set_option maxHeartbeats 1000000 in
theorem lower_any (s : ByteArray) (w : World) (hs : s.size ≤ 1099511627776) :
    Calls Tryd.prog 8 #[.string s] w fun e w' => e = .returned (.string ⟨(low s.data.toList).toArray⟩) ∧ Below w.heap.size w w' := by
  have hconv := Lib.run_convert_string_bytes (P := Tryd.prog) w 9 32 5 s Tryd.underlying9 Tryd.underlying32 Tryd.underlying5
  have hrow := rowAt_world w s
  have hbel := below_bytesWorld w s
  have hsz := Lib.bytesWorld_size w 5 s
  generalize Lib.bytesWorld w 5 s = W at hconv hrow hbel hsz
  generalize grownCap w s.size 0 5 = cap at hconv
  have HZ : w.heap.size < W.heap.size := by omega
  clear hsz
  have hll := lsize s
  generalize hL : s.data.toList = l at *
  generalize s.size = n at *
  have HN := Lib.hid hll
  have HL := Lib.hid hL
  clear hll hL
  go_enter Tryd.func8, Tryd.ntmps8
  go_wp2
  go_loopw [4, 5, 10] (fun _ _ i wr => ∃ k : Nat, i = .int .i64 k ∧ k ≤ n ∧ RowAt wr w.heap.size (mix l k) ∧ Below w.heap.size w wr) (fun _ _ i _ => n - (intOf i).toNat)
  case atStart => exact ⟨0, rfl, Nat.zero_le _, by rw [mix_zero]; exact hrow, hbel⟩
  case round =>
    obtain ⟨k, rfl, hk, hr, hb⟩ := hrel
    clear hrow hbel hconv
    by_cases hlt : k < n
    · obtain ⟨b, hb1⟩ : ∃ b, l[k]? = some b := ⟨l[k]'(by rw [HN.out]; exact hlt), List.getElem?_eq_getElem _⟩
      have hcell := hr.cell k b (mix_at l k b hb1)
      have hfree := hr.free k (by rw [mix_length, HN.out]; exact hlt)
      have hset := hr.set (k := k) (by rw [mix_length, HN.out]; exact hlt) (lowB b)
      rw [← mix_succ l k b hb1] at hset
      have hsame : lowB b = b → RowAt wr w.heap.size (mix l (k + 1)) := fun e => by
        rw [mix_succ l k b hb1, e, set_self (mix_at l k b hb1)]; exact hr
      have HS := Lib.hid hset
      have HM := Lib.hid hsame
      clear hset hsame
      have hbs := hb.setCell (p := ⟨w.heap.size, k, none⟩) (Nat.le_refl _) (.int .u8 ((lowB b).toNat : Int))
      by_cases hg : 65 ≤ (b.toNat : Int) ∧ (b.toNat : Int) ≤ 90
      · obtain ⟨hg1, hg2⟩ := hg
        have e := lowB_great hg1 hg2
        rw [e] at HS hbs
        clear e
        go_wp2
        go_roundw
        case rel => exact ⟨k + 1, by go_num, by omega, HS.out, hbs⟩
        case measure => simp [intOf]; omega
      · have e := HM.out (lowB_other hg)
        by_cases hg1 : 65 ≤ (b.toNat : Int)
        all_goals
          go_wp2
          go_roundw
          case rel => exact ⟨k + 1, by go_num, by omega, e, hb⟩
          case measure => simp [intOf]; omega
    · obtain rfl : k = n := by omega
      have hc := RowAt.conv hr k cap (by rw [mix_length, HN.out])
      have hml : mix l k = low l := by rw [← HN.out, mix_all]
      rw [hml] at hc
      clear HN HL hr hml
      go_wp2
      go_ret
      exact ⟨rfl, hb⟩


theorem conv_row {w : World} {base : Nat} {v : Value} {n : Nat} {l : List UInt8} (h : w.ownsRow base 5 1 v n (Lib.byteCells l)) :
    (convert 32 9 v).run Tryd.prog w = .ok (.string ⟨l.toArray⟩) w := by
  have hl : l.length = n := by have := h.1; simpa [Lib.byteCells_length] using this
  rcases rowForms h with ⟨rfl, h2⟩ | ⟨g, cap, rfl⟩
  · have e : l = [] := List.length_eq_zero_iff.1 (by omega)
    rw [e]
    exact run_convert_bytes_nil (P := Tryd.prog) w 32 5 Tryd.underlying32 Tryd.underlying5 0 0 9 Tryd.underlying9
  · subst hl
    refine run_convert_bytes_back (P := Tryd.prog) w 32 9 5 ⟨g, 0, none⟩ cap l Tryd.underlying32 Tryd.underlying5 Tryd.underlying9 (fun j hj => ?_)
    have e : (⟨g, 0, none⟩ : Addr).add j = ⟨g, j, none⟩ := by simp [Addr.add]; omega
    rw [e, h.cellAt j (by omega)]
    simp [Lib.byteCells, List.getElem?_eq_getElem hj]
theorem byteCells_append (a b : List UInt8) : Lib.byteCells (a ++ b) = Lib.byteCells a ++ Lib.byteCells b := by simp [Lib.byteCells]
theorem byteCells_one (b : UInt8) : Lib.byteCells [b] = [.int .u8 (b.toNat : Int)] := by simp [Lib.byteCells]

set_option maxRecDepth 100000 in
set_option maxHeartbeats 1000000 in
theorem refLower_any (s : ByteArray) (w : World) (hs : s.size ≤ 1099511627776) :
    Calls Tryd.prog 9 #[.string s] w fun e w' => e = .returned (.string ⟨(low s.data.toList).toArray⟩) ∧ Below w.heap.size w w' := by
  obtain ⟨i0, hi, hz0, hz1, hz2⟩ := info_parts Tinfo5
  go_enter Tryd.func9, Tryd.ntmps9
  go_wp2
  go_loopw [3, 4, 5] (fun v i _ wr => ∃ k : Nat, i = .int .i64 k ∧ k ≤ s.size ∧ wr.ownsRow w.heap.size 5 1 v k (Lib.byteCells ((low s.data.toList).take k)) ∧ Below w.heap.size w wr) (fun _ i _ _ => s.size - (intOf i).toNat)
  case atStart => exact ⟨0, rfl, Nat.zero_le _, World.ownsRow_nil w w.heap.size 5 1, Below.refl _ _⟩
  case round =>
    obtain ⟨k, rfl, hk, hown, hbw⟩ := hrel
    by_cases hlt : k < s.size
    · obtain ⟨b, hb1, _, rfl⟩ := at_some hlt
      have hH : Hid (Lib.byteCells ((low s.data.toList).take (k + 1)) = Lib.byteCells ((low s.data.toList).take k) ++ [.int .u8 ((lowB s[k]).toNat : Int)]) := by
        show _ = _
        rw [take_low _ k _ hb1, byteCells_append, byteCells_one]
      clear hb1
      have hlo := lowB_other (b := s[k])
      have hgr := lowB_great (b := s[k])
      generalize Lib.byteCells ((low s.data.toList).take k) = A at *
      by_cases hg : 65 ≤ (s[k].toNat : Int) ∧ (s[k].toNat : Int) ≤ 90
      · obtain ⟨hg1, hg2⟩ := hg
        have e := hgr hg1 hg2
        rw [e] at hH
        clear e hlo hgr
        go_wp2_with (at_builtin; refine wpList_append_own _ rfl _ _ 32 rfl w.heap.size 5 i0 (.int .u8 0) 1 1 Tryd.underlying32 hi hz0 hz1 hz2 rfl (by decide) _ _ _ rfl (hown.alloc _) ⟨wr.heap.size, 0, none⟩ 1 1 [.int .u8 ((s[k].toNat : Int) + 32)] rfl rfl (cell_one_new _ _ _) (fun x hx => by simp at hx; subst hx; rfl) (by unfold maxLen; omega) (by omega) (by have := hbw.size; simp; omega) ?_; intro v' w3 hown' hgrow3 hnil3
                     have hbw3 : Below w.heap.size w w3 := Below.grown (hbw.alloc (by have := hbw.size; omega) _) hgrow3 (by have := hbw.size; simp; omega) (fun j hj => by have := (hown.lt _ hj).1; omega)
                     have X : Aside (w3.ownsRow w.heap.size 5 1 v' (k + 1) (A ++ [.int .u8 ((s[k].toNat : Int) + 32)]) ∧ Below w.heap.size w w3) := ⟨hown', hbw3⟩
                     clear hown' hgrow3 hnil3)
        go_roundw
        case rel => exact ⟨k + 1, by go_num, by omega, by rw [hH.out]; exact X.out.1, X.out.2⟩
        case measure => simp [intOf]; omega
      · have e := hlo hg
        rw [e] at hH
        clear e hlo hgr
        by_cases hg1 : 65 ≤ (s[k].toNat : Int)
        all_goals
          go_wp2_with (at_builtin; refine wpList_append_own _ rfl _ _ 32 rfl w.heap.size 5 i0 (.int .u8 0) 1 1 Tryd.underlying32 hi hz0 hz1 hz2 rfl (by decide) _ _ _ rfl (hown.alloc _) ⟨wr.heap.size, 0, none⟩ 1 1 [.int .u8 (s[k].toNat : Int)] rfl rfl (cell_one_new _ _ _) (fun x hx => by simp at hx; subst hx; rfl) (by unfold maxLen; omega) (by omega) (by have := hbw.size; simp; omega) ?_; intro v' w3 hown' hgrow3 hnil3
                       have hbw3 : Below w.heap.size w w3 := Below.grown (hbw.alloc (by have := hbw.size; omega) _) hgrow3 (by have := hbw.size; simp; omega) (fun j hj => by have := (hown.lt _ hj).1; omega)
                       have X : Aside (w3.ownsRow w.heap.size 5 1 v' (k + 1) (A ++ [.int .u8 (s[k].toNat : Int)]) ∧ Below w.heap.size w w3) := ⟨hown', hbw3⟩
                       clear hown' hgrow3 hnil3)
          go_roundw
          case rel => exact ⟨k + 1, by go_num, by omega, by rw [hH.out]; exact X.out.1, X.out.2⟩
          case measure => simp [intOf]; omega
    · obtain rfl : k = s.size := by omega
      rw [List.take_of_length_le (by rw [low_length, lsize]; exact Nat.le_refl _)] at hown
      have hconv := conv_row hown
      go_wp2
      go_ret
      exact ⟨rfl, hbw⟩

end Go.Proofs.YthicppcidmenbaaDoor
