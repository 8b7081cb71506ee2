/- Ground: texts, blocks, rows of bytes; code points' bytes (the program's and the document's). The table of signs, in memory; what a name stands for: the program's Name and the document's. The library's ParseUint, at bases 10 and 16, of at most eight bytes; the number between & and ;: the program's. The library's ParseUint at base 10, of at most eight bytes. The library's ParseUint at base 16, of at most eight bytes. The number between & and ;: the program's. A sign's text at a text's beginning: the program's first. -/
import Derived.Test.YtgbilfbonliipaaGreatDoorProg
import Derived.Test.YtgbilfbonliipaaGreatDoorPureE
import Derived.Test.YtgbilfbonliipaaGreatDoorShelf
import Derived.WalkKit
import Derived.WalkSpells
import Derived.WalkLawsBesides
import Derived.BigQuiet
import Derived.Deep.QuietTactic
import Derived.Deep.LoopGhost
import Derived.Outline
import Derived.Lib.SlBytesRow
import Derived.Lib.SlBytesConst
import Derived.Lib.ConvBytes
import Derived.Lib.SmallJoins
import Derived.Lib.Hide
import Derived.OwnWalk
import Derived.Deep.MidRow
import Derived.Laws.Closers25
import Derived.Laws.Closers25b
namespace Go.Proofs.YtgbilfbonliipaaGreatDoor
open Go.RowKit

theorem ret_bool {a b : Bool} (h : a = b) : Ending.returned (.bool a) = .returned (.bool b) := by rw [h]
theorem text_of (l : List UInt8) : ∃ T : ByteArray, T.data.toList = l := ⟨⟨l.toArray⟩, rfl⟩
theorem text_is {T : ByteArray} {l : List UInt8} (h : T.data.toList = l) : T = ⟨l.toArray⟩ := by
  apply ByteArray.ext
  apply Array.toList_inj.1
  rw [h]
theorem text_same {T U : ByteArray} (h : T.data.toList = U.data.toList) : T = U := (text_is h).trans (text_is rfl).symm
theorem text_eq (s t : ByteArray) : (s.toList == t.toList) = decide (s.data.toList = t.data.toList) := by
  rw [ByteArray.toList_eq, ByteArray.toList_eq, Bool.eq_iff_iff]
  simp
theorem text_lit (s : ByteArray) (l : List UInt8) : (s.toList == l) = decide (s.data.toList = l) := by
  rw [ByteArray.toList_eq, Bool.eq_iff_iff]
  simp
theorem text_empty (s : ByteArray) : s.toList.isEmpty = s.data.toList.isEmpty := by rw [ByteArray.toList_eq]
theorem byte_is {c d : UInt8} (h : (c.toNat : Int) = (d.toNat : Int)) : c = d := by
  apply UInt8.toNat_inj.1
  omega
theorem cell_of {w : World} {b : Nat} {c : Array Value} {t : TypeId} {fr : Nat × Nat} (h : w.heap[b]? = some (.cells c t fr)) (j : Nat) : w.cell? ⟨b, j, none⟩ = c[j]? := by
  simp [World.cell?, h]
theorem open_of {w : World} {b : Nat} {c : Array Value} {t : TypeId} (h : w.heap[b]? = some (.cells c t (0, 0))) (j : Nat) : w.frozen? ⟨b, j, none⟩ = false := by
  simp [World.frozen?, h]
theorem new_block (w : World) (o : Obj) : (w.alloc o).heap[w.heap.size]? = some o := by
  show (w.heap.push o)[w.heap.size]? = some o
  simp
theorem belowN {B : Nat} {a w : World} (h : Below B a w) (n : Nat) : Below B a (w.drewN n) := h.trans ⟨rfl, rfl, rfl, Nat.le_refl _, fun _ _ => rfl⟩
theorem extract_toList (s : ByteArray) (i j : Nat) : (s.extract i j).data.toList = (s.data.toList.drop i).take (j - i) := Lib.extract_data s i j
theorem lsize (s : ByteArray) : s.data.toList.length = s.size := by simp
theorem bsize (l : List UInt8) : (⟨l.toArray⟩ : ByteArray).size = l.length := by
  show l.toArray.size = _
  simp
theorem add_to (S T R : ByteArray) (h : R.data.toList = S.data.toList ++ T.data.toList) (hl : S.size + T.size ≤ 9223372036854775807) : ∀ W, (Op.stringOp .add S T).run Tryz.prog W = .ok (.string R) W := fun W => by
  rw [run_string_add_sum (P := Tryz.prog) W S T hl]
  congr 2
  apply ByteArray.ext
  apply Array.toList_inj.1
  rw [h]
  simp
theorem cut_run (s T : ByteArray) (i j : Nat) (_hij : i ≤ j) (_hj : j ≤ s.size) (h : T.data.toList = (s.data.toList.drop i).take (j - i)) : s.extract i j = T := by
  apply ByteArray.ext
  apply Array.toList_inj.1
  rw [extract_toList, h]
theorem slice_to (L U : ByteArray) (k : Nat) (hk : k ≤ L.size) (h : U.data.toList = L.data.toList.take k) : ∀ W, (Instr.slice 9 (.string L) none (some (.int .i64 (k : Int))) none).run Tryz.prog W = .ok (.string U) W := fun W => by
  have e : L.extract 0 k = U := cut_run L U 0 k (by omega) hk (by simpa using h)
  have hz : ¬ L.size < k := by omega
  simp [Instr.slice, go_sem, e, hz]
theorem slice_from (L R : ByteArray) (k : Nat) (hk : k ≤ L.size) (h : R.data.toList = L.data.toList.drop k) : ∀ W, (Instr.slice 9 (.string L) (some (.int .i64 (k : Int))) none none).run Tryz.prog W = .ok (.string R) W := fun W => by
  have e : L.extract k L.size = R := cut_run L R k L.size hk (Nat.le_refl _) (by rw [h, List.take_of_length_le]; rw [List.length_drop, lsize]; exact Nat.le_refl _)
  have hz : ¬ L.size < k := by omega
  simp [Instr.slice, go_sem, e, hz]
theorem slice_mid (L U : ByteArray) (i j : Nat) (hij : i ≤ j) (hj : j ≤ L.size) (h : U.data.toList = (L.data.toList.drop i).take (j - i)) : ∀ W, (Instr.slice 9 (.string L) (some (.int .i64 (i : Int))) (some (.int .i64 (j : Int))) none).run Tryz.prog W = .ok (.string U) W := fun W => by
  have e : L.extract i j = U := cut_run L U i j hij hj h
  simp [Instr.slice, go_sem, e, hj, hij]

theorem Tinfo5 : (Tryz.prog.info? 5).map (fun i => (i.zero, i.size, i.bytes)) = some (some (.int .u8 0), 1, 1) := by kernel_rfl
theorem Tinfo3 : (Tryz.prog.info? 3).map (fun i => (i.zero, i.size, i.bytes)) = some (some (.int .i64 0), 1, 8) := by kernel_rfl
theorem lt_of_block {w : World} {g : Nat} {o : Obj} (h : w.heap[g]? = some o) : g < w.heap.size := by
  rcases Nat.lt_or_ge g w.heap.size with h' | h'
  · exact h'
  · simp [Array.getElem?_eq_none h'] at h
theorem lt_of_cell {w : World} {a : Addr} {v : Value} (hc : w.cell? a = some v) : a.block < w.heap.size := by
  rcases Nat.lt_or_ge a.block w.heap.size with h' | h'
  · exact h'
  · simp [World.cell?, Array.getElem?_eq_none h'] at hc
theorem ownsRow_below {w w' : World} {base : Nat} {e : TypeId} {size : Nat} {v : Value} {n : Nat} {xs : List Value} (h : w.ownsRow base e size v n xs) (hb : Below w.heap.size w w') : w'.ownsRow base e size v n xs := by
  obtain ⟨h1, h2⟩ := h
  refine ⟨h1, ?_⟩
  rcases h2 with h2 | ⟨g, cap, cur, a, b, c, d⟩
  · exact .inl h2
  · exact .inr ⟨g, cap, cur, a, b, by rw [hb.block g (lt_of_block c)]; exact c, d⟩
theorem rowForms {w : World} {base size n : Nat} {e : TypeId} {v : Value} {xs : List Value} (h : w.ownsRow base e size v n xs) : (v = .slice none 0 0 ∧ n = 0) ∨ ∃ g cap, v = .slice (some ⟨g, 0, none⟩) n cap := by
  rcases h.2 with h2 | ⟨g, cap, cur, a, _⟩
  · exact .inl h2
  · exact .inr ⟨g, cap, a⟩
theorem byteCells_append (a b : List UInt8) : Lib.byteCells (a ++ b) = Lib.byteCells a ++ Lib.byteCells b := by simp [Lib.byteCells]
theorem byteCells_one (b : UInt8) : Lib.byteCells [b] = [.int .u8 (b.toNat : Int)] := by simp [Lib.byteCells]
/-- 'string(b)' of a row of one's own. -/
theorem conv_row {w : World} {base : Nat} {v : Value} {n : Nat} {l : List UInt8} (h : w.ownsRow base 5 1 v n (Lib.byteCells l)) :
    (convert 46 9 v).run Tryz.prog w = .ok (.string ⟨l.toArray⟩) w := by
  have hl : l.length = n := by have := h.1; simpa [Lib.byteCells_length] using this
  rcases rowForms h with ⟨rfl, h2⟩ | ⟨g, cap, rfl⟩
  · have e : l = [] := List.length_eq_zero_iff.1 (by omega)
    rw [e]
    exact run_convert_bytes_nil (P := Tryz.prog) w 46 5 Tryz.underlying46 Tryz.underlying5 0 0 9 Tryz.underlying9
  · subst hl
    refine run_convert_bytes_back (P := Tryz.prog) w 46 9 5 ⟨g, 0, none⟩ cap l Tryz.underlying46 Tryz.underlying5 Tryz.underlying9 (fun j hj => ?_)
    have e : (⟨g, 0, none⟩ : Addr).add j = ⟨g, j, none⟩ := by simp [Addr.add]; omega
    rw [e, h.cellAt j (by omega)]
    simp [Lib.byteCells, List.getElem?_eq_getElem hj]
/-- 'string(b)' of a new row of bytes. -/
theorem conv_new (w : World) (zs : List Int) (l : List UInt8) (n : Nat) (hn : n = l.length) (hl : l.map (fun b => (b.toNat : Int)) = zs) (c : Nat) (C : Array Value) (hC : C = (zs.map (Value.int .u8)).toArray) :
    (convert 46 9 (.slice (some ⟨w.heap.size, 0, none⟩) n c)).run Tryz.prog (w.alloc (.cells C 5)) = .ok (.string ⟨l.toArray⟩) (w.alloc (.cells C 5)) := by
  subst hn
  refine run_convert_bytes_back (P := Tryz.prog) _ 46 9 5 ⟨w.heap.size, 0, none⟩ c l Tryz.underlying46 Tryz.underlying5 Tryz.underlying9 (fun j hj => ?_)
  have e : (⟨w.heap.size, 0, none⟩ : Addr).add j = ⟨w.heap.size, j, none⟩ := by simp [Addr.add]; omega
  rw [e, World.cell?_alloc_mark, hC, ← hl]
  simp [List.getElem?_eq_getElem hj]

/-! ### code points -/
theorem isPoint_any (n : Int) (w : World) : Calls Tryz.prog 105 #[.int .i64 n] w fun e w' => e = .returned (.bool (ptB n)) ∧ w' = w := by
  go_enter Tryz.func105, Tryz.ntmps105
  go_wp2
  all_goals go_ret
  all_goals refine ⟨ret_bool ?_, rfl⟩
  all_goals (unfold ptB; rw [Bool.eq_iff_iff]; simp only [Bool.or_eq_true, decide_eq_true_eq, Bool.false_eq_true, false_iff, true_iff]; omega)
theorem isPoint_hid (n : Int) (b : Bool) (h : ptB n = b) : Hid (∀ W, Calls Tryz.prog 105 #[.int .i64 n] W fun e w' => e = .returned (.bool b) ∧ w' = W) := Lib.hid fun W => by rw [← h]; exact isPoint_any n W
theorem point_any (n : Int) (w : World) : Calls Tryz.prog 127 #[.int .i64 n] w fun e w' => e = .returned (.bool (ptB n)) ∧ w' = w := by
  go_enter Tryz.func127, Tryz.ntmps127
  go_wp2
  all_goals go_ret
  all_goals refine ⟨ret_bool ?_, rfl⟩
  all_goals (unfold ptB; rw [Bool.eq_iff_iff]; simp only [Bool.or_eq_true, decide_eq_true_eq, Bool.false_eq_true, false_iff, true_iff]; omega)
theorem point_hid (n : Int) (b : Bool) (h : ptB n = b) : Hid (∀ W, Calls Tryz.prog 127 #[.int .i64 n] W fun e w' => e = .returned (.bool b) ∧ w' = W) := Lib.hid fun W => by rw [← h]; exact point_any n W

theorem enc1 {n : Nat} (h : n ≤ 127) : encN n = [n.toUInt8] := if_pos h
theorem enc2 {n : Nat} (h1 : ¬ n ≤ 127) (h : n ≤ 2047) : encN n = [(192 + n / 64).toUInt8, (128 + n % 64).toUInt8] := by unfold encN; rw [if_neg h1, if_pos h]
theorem enc3 {n : Nat} (h1 : ¬ n ≤ 127) (h2 : ¬ n ≤ 2047) (h : n ≤ 65535) : encN n = [(224 + n / 4096).toUInt8, (128 + n / 64 % 64).toUInt8, (128 + n % 64).toUInt8] := by unfold encN; rw [if_neg h1, if_neg h2, if_pos h]
theorem enc4 {n : Nat} (h1 : ¬ n ≤ 127) (h2 : ¬ n ≤ 2047) (h3 : ¬ n ≤ 65535) : encN n = [(240 + n / 262144).toUInt8, (128 + n / 4096 % 64).toUInt8, (128 + n / 64 % 64).toUInt8, (128 + n % 64).toUInt8] := by unfold encN; rw [if_neg h1, if_neg h2, if_neg h3]
theorem u8i {n : Nat} (h : n < 256) : ((n.toUInt8).toNat : Int) = (n : Int) := by rw [u8_toNat h]

set_option maxRecDepth 100000 in
theorem bytes_any (n : Nat) (hn : n ≤ 1114111) (w : World) : Calls Tryz.prog 128 #[.int .i64 n] w fun e w' => e = .returned (.string ⟨(encN n).toArray⟩) ∧ Below w.heap.size w w' := by
  by_cases h1 : n ≤ 127
  · have hc := conv_new w [(n : Int)] (encN n) 1 (by rw [enc1 h1]; rfl) (by rw [enc1 h1]; simp only [List.map_cons, List.map_nil]; rw [u8i (by omega)]) 1 _ rfl
    have e1 : ((n : Int) ≤ 127) := by omega
    simp only [List.map_cons, List.map_nil] at hc
    go_enter Tryz.func128, Tryz.ntmps128
    go_wp2
    go_ret
    exact ⟨rfl, (Below.refl _ _).alloc (Nat.le_refl _) _⟩
  by_cases h2 : n ≤ 2047
  · have hc := conv_new w [(192 + n / 64 : Int), (128 + n % 64 : Int)] (encN n) 2 (by rw [enc2 h1 h2]; rfl) (by rw [enc2 h1 h2]; simp only [List.map_cons, List.map_nil]; rw [u8i (by omega), u8i (by omega)]; simp) 2 _ rfl
    have e1 : ¬ ((n : Int) ≤ 127) := by omega
    have e2 : ((n : Int) ≤ 2047) := by omega
    simp only [List.map_cons, List.map_nil] at hc
    go_enter Tryz.func128, Tryz.ntmps128
    go_wp2
    go_ret
    exact ⟨rfl, (Below.refl _ _).alloc (Nat.le_refl _) _⟩
  by_cases h3 : n ≤ 65535
  · have hc := conv_new w [(224 + n / 4096 : Int), (128 + n / 64 % 64 : Int), (128 + n % 64 : Int)] (encN n) 3 (by rw [enc3 h1 h2 h3]; rfl) (by rw [enc3 h1 h2 h3]; simp only [List.map_cons, List.map_nil]; rw [u8i (by omega), u8i (by omega), u8i (by omega)]; simp) 3 _ rfl
    have e1 : ¬ ((n : Int) ≤ 127) := by omega
    have e2 : ¬ ((n : Int) ≤ 2047) := by omega
    have e3 : ((n : Int) ≤ 65535) := by omega
    simp only [List.map_cons, List.map_nil] at hc
    go_enter Tryz.func128, Tryz.ntmps128
    go_wp2
    go_ret
    exact ⟨rfl, (Below.refl _ _).alloc (Nat.le_refl _) _⟩
  · have hc := conv_new w [(240 + n / 262144 : Int), (128 + n / 4096 % 64 : Int), (128 + n / 64 % 64 : Int), (128 + n % 64 : Int)] (encN n) 4 (by rw [enc4 h1 h2 h3]; rfl) (by rw [enc4 h1 h2 h3]; simp only [List.map_cons, List.map_nil]; rw [u8i (by omega), u8i (by omega), u8i (by omega), u8i (by omega)]; simp) 4 _ rfl
    have e1 : ¬ ((n : Int) ≤ 127) := by omega
    have e2 : ¬ ((n : Int) ≤ 2047) := by omega
    have e3 : ¬ ((n : Int) ≤ 65535) := by omega
    simp only [List.map_cons, List.map_nil] at hc
    go_enter Tryz.func128, Tryz.ntmps128
    go_wp2
    go_ret
    exact ⟨rfl, (Below.refl _ _).alloc (Nat.le_refl _) _⟩
theorem bytes_hid (n : Nat) (T : ByteArray) (hT : T.data.toList = encN n) (hn : n ≤ 1114111) : Hid (∀ W, Calls Tryz.prog 128 #[.int .i64 n] W fun e w' => e = .returned (.string T) ∧ Below W.heap.size W w') := Lib.hid fun W => by
  rw [text_is hT]; exact bytes_any n hn W

theorem runeCells_eq {c : Nat} (h : isPt c) : Lib.runeCells (c : Int) = Lib.byteCells (encN c) := by
  rw [← encodeRune_eq h, Lib.byteCells_encodeRune]

set_option maxRecDepth 100000 in
set_option maxHeartbeats 1000000 in
/-- The text of a row of one code point. -/
theorem textOne_any (c : Nat) (hp : isPt c) (T : ByteArray) (hT : T.data.toList = encN c) (g : Nat) (w : World) (hc : w.cell? ⟨g, 0, none⟩ = some (.int .i64 (c : Int))) :
    Calls Tryz.prog 86 #[.slice (some ⟨g, 0, none⟩) 1 1] w fun e w' => e = .returned (.tuple #[.string T, .int .i64 0]) ∧ Below w.heap.size w w' := by
  obtain ⟨i0, hi, hz0, hz1, hz2⟩ := info_parts Tinfo5
  have C := isPoint_hid (c : Int) true ((ptB_iff c).2 hp)
  have hpt0 : c ≤ 1114111 := hp.1
  have HR := Lib.hid (runeCells_eq hp)
  have HT := Lib.hid hT
  clear hp hT
  go_enter Tryz.func86, Tryz.ntmps86
  go_wp2_with (at_make; refine wpList_make_own _ rfl _ _ 46 rfl w.heap.size 5 i0 (.int .u8 0) 1 Tryz.underlying46 hi hz0 hz1 .i64 .i64 _ 1 rfl rfl rfl (by rw [hz2]; omega) (by unfold maxLen; omega) (Nat.le_refl _) ?_; intro w0 hown0 hgrow0)
  have hbw0 : Below w.heap.size w w0 := Below.grown (Below.refl _ _) hgrow0 (Nat.le_refl _) (fun j hj => by cases hj)
  have hc0 : w0.cell? ⟨g, 0, none⟩ = some (.int .i64 (c : Int)) := by rw [hbw0.cell (lt_of_cell hc), hc]
  clear hc
  refine wp_loop_rounds 2 ?_
  rw [rounds_succ]
  go_wp2_with fail
  refine (C.out _).mono ?_
  rintro e w' ⟨rfl, rfl⟩
  go_wp2_with fail
  refine (Tryz.utf8_AppendRune_plain w.heap.size _ _ _ (c : Int) (by omega) (by omega) _ hown0 (by omega) (hbw0.size)).mono ?_
  rintro e w3 ⟨v', rfl, hown3, o3, hgrow3⟩
  have hbw3 : Below w.heap.size w w3 := Below.grown (hbw0.alloc hbw0.size _) hgrow3 (by have := hbw0.size; simp; omega) (fun j hj => (hown0.lt _ hj).1)
  rw [HR.out] at hown3
  have hconv := conv_row (l := encN c) hown3
  clear hown3 hgrow3
  go_wp2_with fail
  rw [rounds_succ]
  go_wp2
  go_ret2
  exact ⟨congrArg (fun x => Ending.returned (.tuple #[.string x, .int .i64 0])) (text_is HT.out).symm, hbw3⟩

set_option maxRecDepth 100000 in
set_option maxHeartbeats 1000000 in
/-- A number that is no code point has none. -/
theorem textNo_any (n : Int) (hp : ptB n = false) (g : Nat) (w : World) (hc : w.cell? ⟨g, 0, none⟩ = some (.int .i64 n)) :
    Calls Tryz.prog 86 #[.slice (some ⟨g, 0, none⟩) 1 1] w fun e w' => e = .returned (.tuple #[.string ⟨#[]⟩, .int .i64 1]) ∧ Below w.heap.size w w' := by
  obtain ⟨i0, hi, hz0, hz1, hz2⟩ := info_parts Tinfo5
  have C := isPoint_hid n false hp
  clear hp
  go_enter Tryz.func86, Tryz.ntmps86
  go_wp2_with (at_make; refine wpList_make_own _ rfl _ _ 46 rfl w.heap.size 5 i0 (.int .u8 0) 1 Tryz.underlying46 hi hz0 hz1 .i64 .i64 _ 1 rfl rfl rfl (by rw [hz2]; omega) (by unfold maxLen; omega) (Nat.le_refl _) ?_; intro w0 hown0 hgrow0)
  have hbw0 : Below w.heap.size w w0 := Below.grown (Below.refl _ _) hgrow0 (Nat.le_refl _) (fun j hj => by cases hj)
  have hc0 : w0.cell? ⟨g, 0, none⟩ = some (.int .i64 n) := by rw [hbw0.cell (lt_of_cell hc), hc]
  clear hc
  refine wp_loop_rounds 1 ?_
  rw [rounds_succ]
  go_wp2_with fail
  refine (C.out _).mono ?_
  rintro e w' ⟨rfl, rfl⟩
  go_wp2
  go_ret2
  exact ⟨rfl, hbw0⟩

set_option maxRecDepth 100000 in
/-- What point answers. -/
theorem pointT_any (n : Nat) (T : ByteArray) (hT : T.data.toList = if n = 0 ∨ ¬ isPt n then [] else encN n) (w : World) :
    Calls Tryz.prog 57 #[.int .i64 (n : Int)] w fun e w' => e = .returned (.string T) ∧ Below w.heap.size w w' := by
  by_cases h0 : n = 0
  · subst h0
    rw [if_pos (.inl rfl)] at hT
    obtain rfl : T = ⟨#[]⟩ := text_is hT
    go_enter Tryz.func57, Tryz.ntmps57
    go_wp2
    go_ret
    exact ⟨rfl, Below.refl _ _⟩
  have g : ((n : Int) == 0) = false := by rw [beq_eq_false_iff_ne]; omega
  by_cases hp : isPt n
  · rw [if_neg (by rintro (h | h); exact h0 h; exact h hp)] at hT
    have HT := Lib.hid hT
    have HP := Lib.hid hp
    clear hT hp h0
    go_enter Tryz.func57, Tryz.ntmps57
    go_wp2_with fail
    refine (textOne_any n HP.out T HT.out _ _ (by simp [World.cell?_alloc_mark])).mono ?_
    rintro e w' ⟨rfl, b1⟩
    go_wp2
    go_ret
    exact ⟨rfl, ((Below.refl _ _).alloc (Nat.le_refl _) _).trans (b1.mono (by simp))⟩
  · rw [if_pos (.inr hp)] at hT
    obtain rfl : T = ⟨#[]⟩ := text_is hT
    have HP : Hid (ptB (n : Int) = false) := Lib.hid (by rw [ptB_dec, decide_eq_false hp])
    clear hT hp h0
    go_enter Tryz.func57, Tryz.ntmps57
    go_wp2_with fail
    refine (textNo_any (n : Int) HP.out _ _ (by simp [World.cell?_alloc_mark])).mono ?_
    rintro e w' ⟨rfl, b1⟩
    go_wp2
    go_ret
    exact ⟨rfl, ((Below.refl _ _).alloc (Nat.le_refl _) _).trans (b1.mono (by simp))⟩
theorem pointT_hid (n : Nat) (T : ByteArray) (hT : T.data.toList = if n = 0 ∨ ¬ isPt n then [] else encN n) : Hid (∀ W, Calls Tryz.prog 57 #[.int .i64 (n : Int)] W fun e w' => e = .returned (.string T) ∧ Below W.heap.size W w') := Lib.hid fun W => pointT_any n T hT W

end Go.Proofs.YtgbilfbonliipaaGreatDoor

namespace Go.Proofs.YtgbilfbonliipaaGreatDoor
open Go.RowKit

/-- The project's own table: each name, what it stands for, whether it is written, one behind the other. -/
def SL : List Value := [.string ⟨#[97, 109, 112]⟩, .string ⟨#[38]⟩, .bool true, .string ⟨#[108, 116]⟩, .string ⟨#[60]⟩, .bool true, .string ⟨#[103, 116]⟩, .string ⟨#[62]⟩, .bool true, .string ⟨#[113, 117, 111, 116]⟩, .string ⟨#[34]⟩, .bool true, .string ⟨#[97, 112, 111, 115]⟩, .string ⟨#[39]⟩, .bool true, .string ⟨#[110, 98, 115, 112]⟩, .string ⟨#[194, 160]⟩, .bool false, .string ⟨#[99, 111, 108, 111, 110]⟩, .string ⟨#[58]⟩, .bool false, .string ⟨#[108, 112, 97, 114]⟩, .string ⟨#[40]⟩, .bool false, .string ⟨#[114, 112, 97, 114]⟩, .string ⟨#[41]⟩, .bool false, .string ⟨#[116, 97, 98]⟩, .string ⟨#[9]⟩, .bool false]
def SignsIn (w : World) : Prop := ∀ j, j < 30 → w.cell? ⟨0, j, none⟩ = SL[j]?
theorem SignsIn.below {w w' : World} (h : SignsIn w) (hb : Below w.heap.size w w') : SignsIn w' := fun j hj => by
  have e := h j hj
  have : ∃ v, SL[j]? = some v := ⟨_, List.getElem?_eq_getElem (show j < SL.length from hj)⟩
  obtain ⟨v, hv⟩ := this
  rw [hv] at e ⊢
  rw [hb.cell (lt_of_cell e)]; exact e
theorem SignsIn.range {w : World} (h : SignsIn w) : w.rangeAt 0 0 SL := fun j v hv => by
  obtain ⟨hj, _⟩ := List.getElem?_eq_some_iff.1 hv
  rw [Nat.zero_add, h j hj, hv]
theorem SignsIn.made {w : World} (h : SignsIn w) (x : Obj) : SignsIn (w.alloc x) := h.below ((Below.refl _ _).alloc (Nat.le_refl _) _)

theorem sidx0 {TA : Value} (h : TA = .agg SL.toArray) : ∀ w, (Instr.index 103 TA (.int .i64 0)).run Tryz.prog w = .ok (.agg #[.string ⟨#[97, 109, 112]⟩, .string ⟨#[38]⟩, .bool true]) w := by subst h; intro w; kernel_rfl
theorem sidx1 {TA : Value} (h : TA = .agg SL.toArray) : ∀ w, (Instr.index 103 TA (.int .i64 1)).run Tryz.prog w = .ok (.agg #[.string ⟨#[108, 116]⟩, .string ⟨#[60]⟩, .bool true]) w := by subst h; intro w; kernel_rfl
theorem sidx2 {TA : Value} (h : TA = .agg SL.toArray) : ∀ w, (Instr.index 103 TA (.int .i64 2)).run Tryz.prog w = .ok (.agg #[.string ⟨#[103, 116]⟩, .string ⟨#[62]⟩, .bool true]) w := by subst h; intro w; kernel_rfl
theorem sidx3 {TA : Value} (h : TA = .agg SL.toArray) : ∀ w, (Instr.index 103 TA (.int .i64 3)).run Tryz.prog w = .ok (.agg #[.string ⟨#[113, 117, 111, 116]⟩, .string ⟨#[34]⟩, .bool true]) w := by subst h; intro w; kernel_rfl
theorem sidx4 {TA : Value} (h : TA = .agg SL.toArray) : ∀ w, (Instr.index 103 TA (.int .i64 4)).run Tryz.prog w = .ok (.agg #[.string ⟨#[97, 112, 111, 115]⟩, .string ⟨#[39]⟩, .bool true]) w := by subst h; intro w; kernel_rfl
theorem sidx5 {TA : Value} (h : TA = .agg SL.toArray) : ∀ w, (Instr.index 103 TA (.int .i64 5)).run Tryz.prog w = .ok (.agg #[.string ⟨#[110, 98, 115, 112]⟩, .string ⟨#[194, 160]⟩, .bool false]) w := by subst h; intro w; kernel_rfl
theorem sidx6 {TA : Value} (h : TA = .agg SL.toArray) : ∀ w, (Instr.index 103 TA (.int .i64 6)).run Tryz.prog w = .ok (.agg #[.string ⟨#[99, 111, 108, 111, 110]⟩, .string ⟨#[58]⟩, .bool false]) w := by subst h; intro w; kernel_rfl
theorem sidx7 {TA : Value} (h : TA = .agg SL.toArray) : ∀ w, (Instr.index 103 TA (.int .i64 7)).run Tryz.prog w = .ok (.agg #[.string ⟨#[108, 112, 97, 114]⟩, .string ⟨#[40]⟩, .bool false]) w := by subst h; intro w; kernel_rfl
theorem sidx8 {TA : Value} (h : TA = .agg SL.toArray) : ∀ w, (Instr.index 103 TA (.int .i64 8)).run Tryz.prog w = .ok (.agg #[.string ⟨#[114, 112, 97, 114]⟩, .string ⟨#[41]⟩, .bool false]) w := by subst h; intro w; kernel_rfl
theorem sidx9 {TA : Value} (h : TA = .agg SL.toArray) : ∀ w, (Instr.index 103 TA (.int .i64 9)).run Tryz.prog w = .ok (.agg #[.string ⟨#[116, 97, 98]⟩, .string ⟨#[9]⟩, .bool false]) w := by subst h; intro w; kernel_rfl
theorem lit_text (s : ByteArray) (l : List UInt8) : (l == s.toList) = decide (s.data.toList = l) := by
  rw [← text_lit, Bool.eq_iff_iff]
  simp only [beq_iff_eq]
  exact ⟨fun h => h.symm, fun h => h.symm⟩
theorem ret_tb {S T : ByteArray} {a b : Bool} (h : S = T) (h2 : a = b) : Ending.returned (.tuple #[.string S, .bool a]) = .returned (.tuple #[.string T, .bool b]) := by rw [h, h2]

set_option maxRecDepth 100000 in
set_option maxHeartbeats 4000000 in
theorem nameP_any (s T : ByteArray) (hT : T.data.toList = nameM s.data.toList) (r : Bool) (hr : decide (nameM s.data.toList ≠ []) = r) (w : World) (hk : SignsIn w) :
    Calls Tryz.prog 55 #[.string s] w fun e w' => e = .returned (.tuple #[.string T, .bool r]) ∧ Below w.heap.size w w' := by
  have HG := Lib.hid hk.range
  clear hk
  have HT := Lib.hid hT
  have HR := Lib.hid hr
  clear hT hr
  go_enter Tryz.func55, Tryz.ntmps55
  go_wp2_with (refine wpList_load_mid (by rfl) 103 _ (by rfl) 0 0 (by rfl) SL _ HG.out Tryz.underlying103 (by rfl) (by kernel_rfl) ?_)
  generalize hTA : Value.agg SL.toArray = TA
  have HIX : Hid (TA = .agg SL.toArray) := Lib.hid hTA.symm
  clear hTA
  go_loopw [7] (fun i wr => ∃ j : Nat, j ≤ 10 ∧ i = .int .i64 j ∧ Hid (nameM s.data.toList = lookM (tabM.drop j) s.data.toList) ∧ Below w.heap.size w wr) (fun i _ => 10 - (intOf i).toNat)
  case atStart => exact ⟨0, by decide, rfl, Lib.hid rfl, Below.refl _ _⟩
  case round =>
    obtain ⟨j, hj, rfl, HN, hb⟩ := hrel
    obtain rfl | rfl | rfl | rfl | rfl | rfl | rfl | rfl | rfl | rfl | rfl : j = 0 ∨ j = 1 ∨ j = 2 ∨ j = 3 ∨ j = 4 ∨ j = 5 ∨ j = 6 ∨ j = 7 ∨ j = 8 ∨ j = 9 ∨ j = 10 := by omega
    · have ix := sidx0 HIX.out
      have g := lit_text s [97, 109, 112]
      have g2 := text_lit s [97, 109, 112]
      by_cases h : s.data.toList = [97, 109, 112]
      · rw [decide_eq_true h] at g g2
        have HV : Hid (nameM s.data.toList = [38]) := Lib.hid (by rw [HN.out, h]; rfl)
        have HS : Hid ((⟨#[38]⟩ : ByteArray) = T) := Lib.hid (by rw [text_is HT.out, HV.out])
        have HB : Hid (true = r) := Lib.hid (by rw [← HR.out, HV.out]; rfl)
        clear h HN
        go_wp2
        go_ret2
        exact ⟨ret_tb HS.out HB.out, hb.alloc hb.size _⟩
      · rw [decide_eq_false h] at g g2
        have HN2 : Hid (nameM s.data.toList = lookM (tabM.drop 1) s.data.toList) := Lib.hid (by
          rw [HN.out]
          exact if_neg (fun e => h e.symm))
        clear h HN
        go_wp2
        go_roundw
        case rel => exact ⟨1, by decide, rfl, HN2, hb.alloc hb.size _⟩
        case measure => decide
    · have ix := sidx1 HIX.out
      have g := lit_text s [108, 116]
      have g2 := text_lit s [108, 116]
      by_cases h : s.data.toList = [108, 116]
      · rw [decide_eq_true h] at g g2
        have HV : Hid (nameM s.data.toList = [60]) := Lib.hid (by rw [HN.out, h]; rfl)
        have HS : Hid ((⟨#[60]⟩ : ByteArray) = T) := Lib.hid (by rw [text_is HT.out, HV.out])
        have HB : Hid (true = r) := Lib.hid (by rw [← HR.out, HV.out]; rfl)
        clear h HN
        go_wp2
        go_ret2
        exact ⟨ret_tb HS.out HB.out, hb.alloc hb.size _⟩
      · rw [decide_eq_false h] at g g2
        have HN2 : Hid (nameM s.data.toList = lookM (tabM.drop 2) s.data.toList) := Lib.hid (by
          rw [HN.out]
          exact if_neg (fun e => h e.symm))
        clear h HN
        go_wp2
        go_roundw
        case rel => exact ⟨2, by decide, rfl, HN2, hb.alloc hb.size _⟩
        case measure => decide
    · have ix := sidx2 HIX.out
      have g := lit_text s [103, 116]
      have g2 := text_lit s [103, 116]
      by_cases h : s.data.toList = [103, 116]
      · rw [decide_eq_true h] at g g2
        have HV : Hid (nameM s.data.toList = [62]) := Lib.hid (by rw [HN.out, h]; rfl)
        have HS : Hid ((⟨#[62]⟩ : ByteArray) = T) := Lib.hid (by rw [text_is HT.out, HV.out])
        have HB : Hid (true = r) := Lib.hid (by rw [← HR.out, HV.out]; rfl)
        clear h HN
        go_wp2
        go_ret2
        exact ⟨ret_tb HS.out HB.out, hb.alloc hb.size _⟩
      · rw [decide_eq_false h] at g g2
        have HN2 : Hid (nameM s.data.toList = lookM (tabM.drop 3) s.data.toList) := Lib.hid (by
          rw [HN.out]
          exact if_neg (fun e => h e.symm))
        clear h HN
        go_wp2
        go_roundw
        case rel => exact ⟨3, by decide, rfl, HN2, hb.alloc hb.size _⟩
        case measure => decide
    · have ix := sidx3 HIX.out
      have g := lit_text s [113, 117, 111, 116]
      have g2 := text_lit s [113, 117, 111, 116]
      by_cases h : s.data.toList = [113, 117, 111, 116]
      · rw [decide_eq_true h] at g g2
        have HV : Hid (nameM s.data.toList = [34]) := Lib.hid (by rw [HN.out, h]; rfl)
        have HS : Hid ((⟨#[34]⟩ : ByteArray) = T) := Lib.hid (by rw [text_is HT.out, HV.out])
        have HB : Hid (true = r) := Lib.hid (by rw [← HR.out, HV.out]; rfl)
        clear h HN
        go_wp2
        go_ret2
        exact ⟨ret_tb HS.out HB.out, hb.alloc hb.size _⟩
      · rw [decide_eq_false h] at g g2
        have HN2 : Hid (nameM s.data.toList = lookM (tabM.drop 4) s.data.toList) := Lib.hid (by
          rw [HN.out]
          exact if_neg (fun e => h e.symm))
        clear h HN
        go_wp2
        go_roundw
        case rel => exact ⟨4, by decide, rfl, HN2, hb.alloc hb.size _⟩
        case measure => decide
    · have ix := sidx4 HIX.out
      have g := lit_text s [97, 112, 111, 115]
      have g2 := text_lit s [97, 112, 111, 115]
      by_cases h : s.data.toList = [97, 112, 111, 115]
      · rw [decide_eq_true h] at g g2
        have HV : Hid (nameM s.data.toList = [39]) := Lib.hid (by rw [HN.out, h]; rfl)
        have HS : Hid ((⟨#[39]⟩ : ByteArray) = T) := Lib.hid (by rw [text_is HT.out, HV.out])
        have HB : Hid (true = r) := Lib.hid (by rw [← HR.out, HV.out]; rfl)
        clear h HN
        go_wp2
        go_ret2
        exact ⟨ret_tb HS.out HB.out, hb.alloc hb.size _⟩
      · rw [decide_eq_false h] at g g2
        have HN2 : Hid (nameM s.data.toList = lookM (tabM.drop 5) s.data.toList) := Lib.hid (by
          rw [HN.out]
          exact if_neg (fun e => h e.symm))
        clear h HN
        go_wp2
        go_roundw
        case rel => exact ⟨5, by decide, rfl, HN2, hb.alloc hb.size _⟩
        case measure => decide
    · have ix := sidx5 HIX.out
      have g := lit_text s [110, 98, 115, 112]
      have g2 := text_lit s [110, 98, 115, 112]
      by_cases h : s.data.toList = [110, 98, 115, 112]
      · rw [decide_eq_true h] at g g2
        have HV : Hid (nameM s.data.toList = [194, 160]) := Lib.hid (by rw [HN.out, h]; rfl)
        have HS : Hid ((⟨#[194, 160]⟩ : ByteArray) = T) := Lib.hid (by rw [text_is HT.out, HV.out])
        have HB : Hid (true = r) := Lib.hid (by rw [← HR.out, HV.out]; rfl)
        clear h HN
        go_wp2
        go_ret2
        exact ⟨ret_tb HS.out HB.out, hb.alloc hb.size _⟩
      · rw [decide_eq_false h] at g g2
        have HN2 : Hid (nameM s.data.toList = lookM (tabM.drop 6) s.data.toList) := Lib.hid (by
          rw [HN.out]
          exact if_neg (fun e => h e.symm))
        clear h HN
        go_wp2
        go_roundw
        case rel => exact ⟨6, by decide, rfl, HN2, hb.alloc hb.size _⟩
        case measure => decide
    · have ix := sidx6 HIX.out
      have g := lit_text s [99, 111, 108, 111, 110]
      have g2 := text_lit s [99, 111, 108, 111, 110]
      by_cases h : s.data.toList = [99, 111, 108, 111, 110]
      · rw [decide_eq_true h] at g g2
        have HV : Hid (nameM s.data.toList = [58]) := Lib.hid (by rw [HN.out, h]; rfl)
        have HS : Hid ((⟨#[58]⟩ : ByteArray) = T) := Lib.hid (by rw [text_is HT.out, HV.out])
        have HB : Hid (true = r) := Lib.hid (by rw [← HR.out, HV.out]; rfl)
        clear h HN
        go_wp2
        go_ret2
        exact ⟨ret_tb HS.out HB.out, hb.alloc hb.size _⟩
      · rw [decide_eq_false h] at g g2
        have HN2 : Hid (nameM s.data.toList = lookM (tabM.drop 7) s.data.toList) := Lib.hid (by
          rw [HN.out]
          exact if_neg (fun e => h e.symm))
        clear h HN
        go_wp2
        go_roundw
        case rel => exact ⟨7, by decide, rfl, HN2, hb.alloc hb.size _⟩
        case measure => decide
    · have ix := sidx7 HIX.out
      have g := lit_text s [108, 112, 97, 114]
      have g2 := text_lit s [108, 112, 97, 114]
      by_cases h : s.data.toList = [108, 112, 97, 114]
      · rw [decide_eq_true h] at g g2
        have HV : Hid (nameM s.data.toList = [40]) := Lib.hid (by rw [HN.out, h]; rfl)
        have HS : Hid ((⟨#[40]⟩ : ByteArray) = T) := Lib.hid (by rw [text_is HT.out, HV.out])
        have HB : Hid (true = r) := Lib.hid (by rw [← HR.out, HV.out]; rfl)
        clear h HN
        go_wp2
        go_ret2
        exact ⟨ret_tb HS.out HB.out, hb.alloc hb.size _⟩
      · rw [decide_eq_false h] at g g2
        have HN2 : Hid (nameM s.data.toList = lookM (tabM.drop 8) s.data.toList) := Lib.hid (by
          rw [HN.out]
          exact if_neg (fun e => h e.symm))
        clear h HN
        go_wp2
        go_roundw
        case rel => exact ⟨8, by decide, rfl, HN2, hb.alloc hb.size _⟩
        case measure => decide
    · have ix := sidx8 HIX.out
      have g := lit_text s [114, 112, 97, 114]
      have g2 := text_lit s [114, 112, 97, 114]
      by_cases h : s.data.toList = [114, 112, 97, 114]
      · rw [decide_eq_true h] at g g2
        have HV : Hid (nameM s.data.toList = [41]) := Lib.hid (by rw [HN.out, h]; rfl)
        have HS : Hid ((⟨#[41]⟩ : ByteArray) = T) := Lib.hid (by rw [text_is HT.out, HV.out])
        have HB : Hid (true = r) := Lib.hid (by rw [← HR.out, HV.out]; rfl)
        clear h HN
        go_wp2
        go_ret2
        exact ⟨ret_tb HS.out HB.out, hb.alloc hb.size _⟩
      · rw [decide_eq_false h] at g g2
        have HN2 : Hid (nameM s.data.toList = lookM (tabM.drop 9) s.data.toList) := Lib.hid (by
          rw [HN.out]
          exact if_neg (fun e => h e.symm))
        clear h HN
        go_wp2
        go_roundw
        case rel => exact ⟨9, by decide, rfl, HN2, hb.alloc hb.size _⟩
        case measure => decide
    · have ix := sidx9 HIX.out
      have g := lit_text s [116, 97, 98]
      have g2 := text_lit s [116, 97, 98]
      by_cases h : s.data.toList = [116, 97, 98]
      · rw [decide_eq_true h] at g g2
        have HV : Hid (nameM s.data.toList = [9]) := Lib.hid (by rw [HN.out, h]; rfl)
        have HS : Hid ((⟨#[9]⟩ : ByteArray) = T) := Lib.hid (by rw [text_is HT.out, HV.out])
        have HB : Hid (true = r) := Lib.hid (by rw [← HR.out, HV.out]; rfl)
        clear h HN
        go_wp2
        go_ret2
        exact ⟨ret_tb HS.out HB.out, hb.alloc hb.size _⟩
      · rw [decide_eq_false h] at g g2
        have HN2 : Hid (nameM s.data.toList = lookM (tabM.drop 10) s.data.toList) := Lib.hid (by
          rw [HN.out]
          exact if_neg (fun e => h e.symm))
        clear h HN
        go_wp2
        go_roundw
        case rel => exact ⟨10, by decide, rfl, HN2, hb.alloc hb.size _⟩
        case measure => decide
    · have HV : Hid (nameM s.data.toList = []) := Lib.hid (by rw [HN.out]; rfl)
      have HS : Hid ((⟨#[]⟩ : ByteArray) = T) := Lib.hid (by rw [text_is HT.out, HV.out])
      have HB : Hid (false = r) := Lib.hid (by rw [← HR.out, HV.out]; rfl)
      clear HN
      go_wp2
      go_ret2
      exact ⟨ret_tb HS.out HB.out, hb⟩
theorem nameP_hid (s T : ByteArray) (hT : T.data.toList = nameM s.data.toList) (r : Bool) (hr : decide (nameM s.data.toList ≠ []) = r) : Hid (∀ W, SignsIn W → Calls Tryz.prog 55 #[.string s] W fun e w' => e = .returned (.tuple #[.string T, .bool r]) ∧ Below W.heap.size W w') := Lib.hid fun W hk => nameP_any s T hT r hr W hk

set_option maxRecDepth 100000 in
set_option maxHeartbeats 4000000 in
theorem refName_any (s T : ByteArray) (hT : T.data.toList = nameM s.data.toList) (r : Bool) (hr : decide (nameM s.data.toList ≠ []) = r) (w : World) :
    Calls Tryz.prog 125 #[.string s] w fun e w' => e = .returned (.tuple #[.string T, .bool r]) ∧ Below w.heap.size w w' := by
  obtain ⟨NB, hNB⟩ := text_of (encN 160)
  have CB := bytes_hid 160 NB hNB (by omega)
  have HNB : Hid (NB.data.toList = [194, 160]) := Lib.hid (by rw [hNB]; decide)
  clear hNB
  have HT := Lib.hid hT
  have HR := Lib.hid hr
  clear hT hr
  have g0 := text_lit s [97, 109, 112]
  by_cases h0 : s.data.toList = [97, 109, 112]
  · rw [decide_eq_true h0] at g0
    have HV : Hid (nameM s.data.toList = [38]) := Lib.hid (by rw [h0]; rfl)
    have HS : Hid ((⟨#[38]⟩ : ByteArray) = T) := Lib.hid (by rw [text_is HT.out, HV.out])
    have HB : Hid (true = r) := Lib.hid (by rw [← HR.out, HV.out]; rfl)
    clear h0
    go_enter Tryz.func125, Tryz.ntmps125
    go_wp2
    go_ret2
    exact ⟨ret_tb HS.out HB.out, Below.refl _ _⟩
  rw [decide_eq_false h0] at g0
  have g1 := text_lit s [108, 116]
  by_cases h1 : s.data.toList = [108, 116]
  · rw [decide_eq_true h1] at g1
    have HV : Hid (nameM s.data.toList = [60]) := Lib.hid (by rw [h1]; rfl)
    have HS : Hid ((⟨#[60]⟩ : ByteArray) = T) := Lib.hid (by rw [text_is HT.out, HV.out])
    have HB : Hid (true = r) := Lib.hid (by rw [← HR.out, HV.out]; rfl)
    clear h1
    go_enter Tryz.func125, Tryz.ntmps125
    go_wp2
    go_ret2
    exact ⟨ret_tb HS.out HB.out, Below.refl _ _⟩
  rw [decide_eq_false h1] at g1
  have g2 := text_lit s [103, 116]
  by_cases h2 : s.data.toList = [103, 116]
  · rw [decide_eq_true h2] at g2
    have HV : Hid (nameM s.data.toList = [62]) := Lib.hid (by rw [h2]; rfl)
    have HS : Hid ((⟨#[62]⟩ : ByteArray) = T) := Lib.hid (by rw [text_is HT.out, HV.out])
    have HB : Hid (true = r) := Lib.hid (by rw [← HR.out, HV.out]; rfl)
    clear h2
    go_enter Tryz.func125, Tryz.ntmps125
    go_wp2
    go_ret2
    exact ⟨ret_tb HS.out HB.out, Below.refl _ _⟩
  rw [decide_eq_false h2] at g2
  have g3 := text_lit s [113, 117, 111, 116]
  by_cases h3 : s.data.toList = [113, 117, 111, 116]
  · rw [decide_eq_true h3] at g3
    have HV : Hid (nameM s.data.toList = [34]) := Lib.hid (by rw [h3]; rfl)
    have HS : Hid ((⟨#[34]⟩ : ByteArray) = T) := Lib.hid (by rw [text_is HT.out, HV.out])
    have HB : Hid (true = r) := Lib.hid (by rw [← HR.out, HV.out]; rfl)
    clear h3
    go_enter Tryz.func125, Tryz.ntmps125
    go_wp2
    go_ret2
    exact ⟨ret_tb HS.out HB.out, Below.refl _ _⟩
  rw [decide_eq_false h3] at g3
  have g4 := text_lit s [97, 112, 111, 115]
  by_cases h4 : s.data.toList = [97, 112, 111, 115]
  · rw [decide_eq_true h4] at g4
    have HV : Hid (nameM s.data.toList = [39]) := Lib.hid (by rw [h4]; rfl)
    have HS : Hid ((⟨#[39]⟩ : ByteArray) = T) := Lib.hid (by rw [text_is HT.out, HV.out])
    have HB : Hid (true = r) := Lib.hid (by rw [← HR.out, HV.out]; rfl)
    clear h4
    go_enter Tryz.func125, Tryz.ntmps125
    go_wp2
    go_ret2
    exact ⟨ret_tb HS.out HB.out, Below.refl _ _⟩
  rw [decide_eq_false h4] at g4
  have g5 := text_lit s [110, 98, 115, 112]
  by_cases h5 : s.data.toList = [110, 98, 115, 112]
  · rw [decide_eq_true h5] at g5
    have HV : Hid (nameM s.data.toList = [194, 160]) := Lib.hid (by rw [h5]; rfl)
    have HS : Hid (NB = T) := Lib.hid (by rw [text_is HT.out, text_is HNB.out, HV.out])
    have HB : Hid (true = r) := Lib.hid (by rw [← HR.out, HV.out]; rfl)
    clear h5
    go_enter Tryz.func125, Tryz.ntmps125
    go_wp2_with fail
    refine (CB.out _).mono ?_
    rintro e w' ⟨rfl, b1⟩
    go_wp2
    go_ret2
    exact ⟨ret_tb HS.out HB.out, b1⟩
  rw [decide_eq_false h5] at g5
  have g6 := text_lit s [99, 111, 108, 111, 110]
  by_cases h6 : s.data.toList = [99, 111, 108, 111, 110]
  · rw [decide_eq_true h6] at g6
    have HV : Hid (nameM s.data.toList = [58]) := Lib.hid (by rw [h6]; rfl)
    have HS : Hid ((⟨#[58]⟩ : ByteArray) = T) := Lib.hid (by rw [text_is HT.out, HV.out])
    have HB : Hid (true = r) := Lib.hid (by rw [← HR.out, HV.out]; rfl)
    clear h6
    go_enter Tryz.func125, Tryz.ntmps125
    go_wp2
    go_ret2
    exact ⟨ret_tb HS.out HB.out, Below.refl _ _⟩
  rw [decide_eq_false h6] at g6
  have g7 := text_lit s [108, 112, 97, 114]
  by_cases h7 : s.data.toList = [108, 112, 97, 114]
  · rw [decide_eq_true h7] at g7
    have HV : Hid (nameM s.data.toList = [40]) := Lib.hid (by rw [h7]; rfl)
    have HS : Hid ((⟨#[40]⟩ : ByteArray) = T) := Lib.hid (by rw [text_is HT.out, HV.out])
    have HB : Hid (true = r) := Lib.hid (by rw [← HR.out, HV.out]; rfl)
    clear h7
    go_enter Tryz.func125, Tryz.ntmps125
    go_wp2
    go_ret2
    exact ⟨ret_tb HS.out HB.out, Below.refl _ _⟩
  rw [decide_eq_false h7] at g7
  have g8 := text_lit s [114, 112, 97, 114]
  by_cases h8 : s.data.toList = [114, 112, 97, 114]
  · rw [decide_eq_true h8] at g8
    have HV : Hid (nameM s.data.toList = [41]) := Lib.hid (by rw [h8]; rfl)
    have HS : Hid ((⟨#[41]⟩ : ByteArray) = T) := Lib.hid (by rw [text_is HT.out, HV.out])
    have HB : Hid (true = r) := Lib.hid (by rw [← HR.out, HV.out]; rfl)
    clear h8
    go_enter Tryz.func125, Tryz.ntmps125
    go_wp2
    go_ret2
    exact ⟨ret_tb HS.out HB.out, Below.refl _ _⟩
  rw [decide_eq_false h8] at g8
  have g9 := text_lit s [116, 97, 98]
  by_cases h9 : s.data.toList = [116, 97, 98]
  · rw [decide_eq_true h9] at g9
    have HV : Hid (nameM s.data.toList = [9]) := Lib.hid (by rw [h9]; rfl)
    have HS : Hid ((⟨#[9]⟩ : ByteArray) = T) := Lib.hid (by rw [text_is HT.out, HV.out])
    have HB : Hid (true = r) := Lib.hid (by rw [← HR.out, HV.out]; rfl)
    clear h9
    go_enter Tryz.func125, Tryz.ntmps125
    go_wp2
    go_ret2
    exact ⟨ret_tb HS.out HB.out, Below.refl _ _⟩
  rw [decide_eq_false h9] at g9
  have HV : Hid (nameM s.data.toList = []) := Lib.hid (by
    unfold nameM tabM lookM
    simp only [lookM]
    rw [if_neg (fun e => h0 e.symm), if_neg (fun e => h1 e.symm), if_neg (fun e => h2 e.symm), if_neg (fun e => h3 e.symm), if_neg (fun e => h4 e.symm), if_neg (fun e => h5 e.symm), if_neg (fun e => h6 e.symm), if_neg (fun e => h7 e.symm), if_neg (fun e => h8 e.symm), if_neg (fun e => h9 e.symm)])
  have HS : Hid ((⟨#[]⟩ : ByteArray) = T) := Lib.hid (by rw [text_is HT.out, HV.out])
  have HB : Hid (false = r) := Lib.hid (by rw [← HR.out, HV.out]; rfl)
  clear h0 h1 h2 h3 h4 h5 h6 h7 h8 h9
  go_enter Tryz.func125, Tryz.ntmps125
  go_wp2
  go_ret2
  exact ⟨ret_tb HS.out HB.out, Below.refl _ _⟩
theorem refName_hid (s T : ByteArray) (hT : T.data.toList = nameM s.data.toList) (r : Bool) (hr : decide (nameM s.data.toList ≠ []) = r) : Hid (∀ W, Calls Tryz.prog 125 #[.string s] W fun e w' => e = .returned (.tuple #[.string T, .bool r]) ∧ Below W.heap.size W w') := Lib.hid fun W => refName_any s T hT r hr W

end Go.Proofs.YtgbilfbonliipaaGreatDoor

namespace Go.Proofs.YtgbilfbonliipaaGreatDoor
open Go.RowKit

theorem byte_all {p : UInt8 → Prop} (h : ∀ n : Fin 256, p (UInt8.ofNat n.val)) (b : UInt8) : p b := by
  have := h ⟨b.toNat, b.toNat_lt⟩
  simpa using this
/-- A letter made small. -/
def lowI (c : UInt8) : Int := ((c ||| 32).toNat : Int)
theorem lowI_bits (c : UInt8) : bits .or .u8 (c.toNat : Int) 32 = lowI c := by
  revert c; exact byte_all (by decide +kernel)
theorem low_hid (c : UInt8) (L : Int) (h : lowI c = L) : Hid (∀ W, Calls Tryz.prog 129 #[.int .u8 (c.toNat : Int)] W fun e w' => e = .returned (.int .u8 L) ∧ w' = W) := Lib.hid fun W => by
  rw [← h, ← lowI_bits]
  exact Tryz.internal_strconv_lower _ W
theorem low95_hid : Hid (∀ W, Calls Tryz.prog 129 #[.int .u8 95] W fun e w' => e = .returned (.int .u8 127) ∧ w' = W) := Lib.hid fun W => by
  have h := Tryz.internal_strconv_lower 95 W
  rw [show bits .or .u8 95 32 = 127 by decide +kernel] at h
  exact h
theorem low95 : ((95 : UInt8).toNat : Int) = 95 := rfl
theorem dig_digit (B : Nat) (hB : 10 ≤ B) (c : UInt8) (h0 : 48 ≤ c.toNat) (h1 : c.toNat ≤ 57) : digM B c = some (c.toNat - 48) := by
  unfold digM
  simp only
  rw [if_pos ⟨h0, h1⟩, if_pos (by omega)]
theorem dig_ten (c : UInt8) (h : ¬ (48 ≤ c.toNat ∧ c.toNat ≤ 57)) : digM 10 c = none := by
  unfold digM
  simp only
  rw [if_neg h]
  repeat' split
  all_goals first
    | rfl
    | (exfalso; omega)
theorem dig_low (c : UInt8) : (48 ≤ c.toNat ∧ c.toNat ≤ 57) ∨ (97 ≤ lowI c ∧ lowI c ≤ 102 ∧ digM 16 c = some (lowI c - 87).toNat) ∨ (¬ (97 ≤ lowI c ∧ lowI c ≤ 102) ∧ digM 16 c = none) := by
  revert c; exact byte_all (by decide +kernel)

def parseV (B : Nat) (l : List UInt8) : Value := match numD B l with
  | some n => .tuple #[.int .u64 (n : Int), .nilIface]
  | none => .tuple #[.int .u64 0, .iface 135 (.int .i64 2)]
theorem parseV_yes {B n : Nat} {l : List UInt8} (h : numD B l = some n) : parseV B l = .tuple #[.int .u64 (n : Int), .nilIface] := by unfold parseV; rw [h]
theorem parseV_no {B : Nat} {l : List UInt8} (h : numD B l = none) : parseV B l = .tuple #[.int .u64 0, .iface 135 (.int .i64 2)] := by unfold parseV; rw [h]
theorem numF_step {B : Nat} {n d : Nat} {c : UInt8} {r : List UInt8} (h : digM B c = some d) : numF B n (c :: r) = numF B (n * B + d) r := by
  conv => lhs; unfold numF
  rw [h]
theorem numF_stop {B : Nat} {n : Nat} {c : UInt8} {r : List UInt8} (h : digM B c = none) : numF B n (c :: r) = none := by
  unfold numF; rw [h]

end Go.Proofs.YtgbilfbonliipaaGreatDoor

namespace Go.Proofs.YtgbilfbonliipaaGreatDoor
open Go.RowKit

set_option maxHeartbeats 8000000 in
set_option maxRecDepth 100000 in
theorem parse10_any (t : ByteArray) (ht : t.size ≤ 8) (w : World) :
    Calls Tryz.prog 103 #[.string t, .int .i64 10, .int .i64 32] w fun e w' => e = .returned (parseV 10 t.data.toList) ∧ Below w.heap.size w w' := by
  by_cases h0 : t.size = 0
  · have e : t.data.toList = [] := List.length_eq_zero_iff.1 (by rw [lsize]; exact h0)
    obtain rfl : t = ⟨#[]⟩ := text_is e
    rw [parseV_no (B := 10) (l := []) (by rfl)]
    clear h0 e ht
    go_enter Tryz.func103, Tryz.ntmps103
    go_wp2
    go_ret2
    exact ⟨rfl, Below.refl _ _⟩
  have hemp : t.toList.isEmpty = false := by
    rw [text_empty]
    cases hq : t.data.toList with
    | nil => exact absurd (by rw [← lsize, hq]; rfl) h0
    | cons a r => rfl
  have hcv := Lib.run_convert_string_bytes (P := Tryz.prog) w 9 46 5 t (u := .string) Tryz.underlying9 Tryz.underlying46 Tryz.underlying5
  have hB : ∀ j, j < t.size → (Lib.bytesWorld w 5 t).cell? ⟨w.heap.size, j, none⟩ = some (.int .u8 (t.data.toList.getD j 0).toNat) := fun j hj => Lib.bytesWorld_cell w 5 t j hj
  have hbb := Lib.bytesWorld_below w 5 t
  obtain ⟨W1, hW1⟩ : ∃ W1, W1 = Lib.bytesWorld w 5 t := ⟨_, rfl⟩
  rw [← hW1] at hcv hB hbb
  clear hW1
  obtain ⟨bs, hL⟩ : ∃ bs, bs = t.data.toList := ⟨_, rfl⟩
  have hLn : bs.length = t.size := by rw [hL, lsize]
  rw [← hL] at hB ⊢
  clear hL
  have HNE : Hid (numD 10 bs = numF 10 0 bs) := Lib.hid (if_neg (fun h => h0 (by rw [← hLn, h]; rfl)))
  have HB := Lib.hid hB
  have HLn := Lib.hid hLn
  have hmv : IntKind.u64.wrap (IntKind.u64.wrap 4294967296 - 1) = 4294967295 := by
    rw [IntKind.wrap_u64, IntKind.wrap_u64]
    decide
  clear hB hLn
  go_enter Tryz.func103, Tryz.ntmps103
  go_wp2
  go_loop [12, 13, 101] (fun vu vn vi => ∃ (k acc : Nat) (a : Int), vu = .bool false ∧ vn = .int .u64 a ∧ vi = .int .i64 k ∧ k ≤ t.size ∧ Hid (a = (acc : Int) ∧ acc + 1 ≤ 10 ^ k ∧ numF 10 0 bs = numF 10 acc (bs.drop k)))
    (fun _ _ vi => t.size - (intOf vi).toNat)
  case atStart => exact ⟨0, 0, 0, rfl, rfl, rfl, by omega, rfl, by decide, rfl⟩
  case round =>
    obtain ⟨k, acc, a, rfl, rfl, rfl, hk, hh⟩ := hrel
    obtain ⟨ha, hacc, hdec⟩ := hh.out
    clear hh
    have a0 : 0 ≤ a := by omega
    by_cases hkn : k < t.size
    · have hpw : 10 ^ k ≤ 10 ^ 7 := Nat.pow_le_pow_right (by decide) (by omega)
      have hpw8 : 10 ^ (k + 1) = 10 ^ k * 10 := Nat.pow_succ _ _
      have hacc7 : acc ≤ 9999999 := by
        have : 10 ^ 7 = 10000000 := by decide
        omega
      have a1 : a ≤ 9999999 := by omega
      have hLn := HLn.out
      have hc := HB.out k hkn
      have hdrop : bs.drop k = bs[k]'(by omega) :: bs.drop (k + 1) := List.drop_eq_getElem_cons (by omega)
      have hget : bs.getD k 0 = bs[k]'(by omega) := by simp [List.getD, List.getElem?_eq_getElem (show k < bs.length by omega)]
      rw [hdrop] at hdec
      rw [hget] at hc
      generalize bs[k]'(by omega) = c at hc hdec
      have hc256 : c.toNat < 256 := c.toNat_lt
      clear hdrop hget hLn
      by_cases hdig : 48 ≤ c.toNat ∧ c.toNat ≤ 57
      · obtain ⟨hd0, hd1⟩ := hdig
        have hs := dig_digit 10 (by decide) c hd0 hd1
        have HN : Hid (a * 10 + ((c.toNat : Int) - 48) = ((acc * 10 + (c.toNat - 48) : Nat) : Int) ∧ acc * 10 + (c.toNat - 48) + 1 ≤ 10 ^ (k + 1) ∧ numF 10 0 bs = numF 10 (acc * 10 + (c.toNat - 48)) (bs.drop (k + 1))) := Lib.hid ⟨by omega, by rw [hpw8]; omega, by rw [hdec, numF_step hs]⟩
        clear hacc hacc7 hdec ha hs hpw hpw8
        go_wp2
        refine ⟨⟨k + 1, acc * 10 + (c.toNat - 48), a * 10 + ((c.toNat : Int) - 48), rfl, (by first | rfl | (congr 1; omega)), (by first | rfl | (congr 1; omega)), by omega, HN⟩, by simp [intOf]; omega⟩
      · have HV : Hid (parseV 10 bs = .tuple #[.int .u64 0, .iface 135 (.int .i64 2)]) := Lib.hid (parseV_no (by rw [HNE.out, hdec, numF_stop (dig_ten c hdig)]))
        clear hacc hacc7 hdec ha hpw hpw8
        by_cases h95 : c = 95
        · subst h95
          have C := low95_hid
          clear hdig
          go_wp2_with (go_at_call 129; refine (C.out _).mono ?_; rintro e w' ⟨rfl, rfl⟩)
          go_ret2
          exact ⟨by rw [HV.out]; rfl, hbb⟩
        · have g95 : ((c.toNat : Int) == 95) = false := by rw [beq_eq_false_iff_ne]; exact fun h => h95 (byte_is (d := 95) h)
          obtain ⟨L, hL⟩ : ∃ L, lowI c = L := ⟨_, rfl⟩
          have C := low_hid c L hL
          have hv0 : 0 ≤ L := by rw [← hL]; unfold lowI; omega
          have hv1 : L ≤ 255 := by rw [← hL]; unfold lowI; have := (c ||| 32).toNat_lt; omega
          clear hL h95
          go_wp2_with (go_at_call 129; refine (C.out _).mono ?_; rintro e w' ⟨rfl, rfl⟩)
          all_goals go_ret2
          all_goals exact ⟨by rw [HV.out]; rfl, hbb⟩
    · have hkk : k = t.size := by omega
      subst hkk
      have HV : Hid (parseV 10 bs = .tuple #[.int .u64 a, .nilIface]) := Lib.hid (by
        rw [ha]
        exact parseV_yes (by rw [HNE.out, hdec, List.drop_eq_nil_of_le (by rw [HLn.out]; exact Nat.le_refl _)]; rfl))
      clear hacc hdec ha
      go_wp2
      go_ret2
      exact ⟨by rw [HV.out]; rfl, hbb⟩
end Go.Proofs.YtgbilfbonliipaaGreatDoor

namespace Go.Proofs.YtgbilfbonliipaaGreatDoor
open Go.RowKit

set_option maxHeartbeats 8000000 in
set_option maxRecDepth 100000 in
theorem parse16_any (t : ByteArray) (ht : t.size ≤ 8) (w : World) :
    Calls Tryz.prog 103 #[.string t, .int .i64 16, .int .i64 32] w fun e w' => e = .returned (parseV 16 t.data.toList) ∧ Below w.heap.size w w' := by
  by_cases h0 : t.size = 0
  · have e : t.data.toList = [] := List.length_eq_zero_iff.1 (by rw [lsize]; exact h0)
    obtain rfl : t = ⟨#[]⟩ := text_is e
    rw [parseV_no (B := 16) (l := []) (by rfl)]
    clear h0 e ht
    go_enter Tryz.func103, Tryz.ntmps103
    go_wp2
    go_ret2
    exact ⟨rfl, Below.refl _ _⟩
  have hemp : t.toList.isEmpty = false := by
    rw [text_empty]
    cases hq : t.data.toList with
    | nil => exact absurd (by rw [← lsize, hq]; rfl) h0
    | cons a r => rfl
  have hcv := Lib.run_convert_string_bytes (P := Tryz.prog) w 9 46 5 t (u := .string) Tryz.underlying9 Tryz.underlying46 Tryz.underlying5
  have hB : ∀ j, j < t.size → (Lib.bytesWorld w 5 t).cell? ⟨w.heap.size, j, none⟩ = some (.int .u8 (t.data.toList.getD j 0).toNat) := fun j hj => Lib.bytesWorld_cell w 5 t j hj
  have hbb := Lib.bytesWorld_below w 5 t
  obtain ⟨W1, hW1⟩ : ∃ W1, W1 = Lib.bytesWorld w 5 t := ⟨_, rfl⟩
  rw [← hW1] at hcv hB hbb
  clear hW1
  obtain ⟨bs, hL⟩ : ∃ bs, bs = t.data.toList := ⟨_, rfl⟩
  have hLn : bs.length = t.size := by rw [hL, lsize]
  rw [← hL] at hB ⊢
  clear hL
  have HNE : Hid (numD 16 bs = numF 16 0 bs) := Lib.hid (if_neg (fun h => h0 (by rw [← hLn, h]; rfl)))
  have HB := Lib.hid hB
  have HLn := Lib.hid hLn
  have hmv : IntKind.u64.wrap (IntKind.u64.wrap 4294967296 - 1) = 4294967295 := by
    rw [IntKind.wrap_u64, IntKind.wrap_u64]
    decide
  clear hB hLn
  go_enter Tryz.func103, Tryz.ntmps103
  go_wp2
  go_loop [12, 13, 101] (fun vu vn vi => ∃ (k acc : Nat) (a : Int), vu = .bool false ∧ vn = .int .u64 a ∧ vi = .int .i64 k ∧ k ≤ t.size ∧ Hid (a = (acc : Int) ∧ acc + 1 ≤ 16 ^ k ∧ numF 16 0 bs = numF 16 acc (bs.drop k)))
    (fun _ _ vi => t.size - (intOf vi).toNat)
  case atStart => exact ⟨0, 0, 0, rfl, rfl, rfl, by omega, rfl, by decide, rfl⟩
  case round =>
    obtain ⟨k, acc, a, rfl, rfl, rfl, hk, hh⟩ := hrel
    obtain ⟨ha, hacc, hdec⟩ := hh.out
    clear hh
    have a0 : 0 ≤ a := by omega
    by_cases hkn : k < t.size
    · have hpw : 16 ^ k ≤ 16 ^ 7 := Nat.pow_le_pow_right (by decide) (by omega)
      have hpw8 : 16 ^ (k + 1) = 16 ^ k * 16 := Nat.pow_succ _ _
      have hacc7 : acc ≤ 268435455 := by
        have : 16 ^ 7 = 268435456 := by decide
        omega
      have a1 : a ≤ 268435455 := by omega
      have hLn := HLn.out
      have hc := HB.out k hkn
      have hdrop : bs.drop k = bs[k]'(by omega) :: bs.drop (k + 1) := List.drop_eq_getElem_cons (by omega)
      have hget : bs.getD k 0 = bs[k]'(by omega) := by simp [List.getD, List.getElem?_eq_getElem (show k < bs.length by omega)]
      rw [hdrop] at hdec
      rw [hget] at hc
      generalize bs[k]'(by omega) = c at hc hdec
      have hc256 : c.toNat < 256 := c.toNat_lt
      clear hdrop hget hLn
      by_cases hdig : 48 ≤ c.toNat ∧ c.toNat ≤ 57
      · obtain ⟨hd0, hd1⟩ := hdig
        have hs := dig_digit 16 (by decide) c hd0 hd1
        have HN : Hid (a * 16 + ((c.toNat : Int) - 48) = ((acc * 16 + (c.toNat - 48) : Nat) : Int) ∧ acc * 16 + (c.toNat - 48) + 1 ≤ 16 ^ (k + 1) ∧ numF 16 0 bs = numF 16 (acc * 16 + (c.toNat - 48)) (bs.drop (k + 1))) := Lib.hid ⟨by omega, by rw [hpw8]; omega, by rw [hdec, numF_step hs]⟩
        clear hacc hacc7 hdec ha hs hpw hpw8
        go_wp2
        refine ⟨⟨k + 1, acc * 16 + (c.toNat - 48), a * 16 + ((c.toNat : Int) - 48), rfl, (by first | rfl | (congr 1; omega)), (by first | rfl | (congr 1; omega)), by omega, HN⟩, by simp [intOf]; omega⟩
      · rcases dig_low c with h | ⟨h1, h2, h3⟩ | ⟨h1, h3⟩
        · exact absurd h hdig
        · have g95 : ((c.toNat : Int) == 95) = false := by
            rw [beq_eq_false_iff_ne]
            intro h
            have h := byte_is (d := 95) h
            subst h
            exact absurd h2 (by decide)
          obtain ⟨L, hL⟩ : ∃ L, lowI c = L := ⟨_, rfl⟩
          have C := low_hid c L hL
          rw [hL] at h1 h2 h3
          have HN : Hid (a * 16 + (L - 97 + 10) = ((acc * 16 + (L - 87).toNat : Nat) : Int) ∧ acc * 16 + (L - 87).toNat + 1 ≤ 16 ^ (k + 1) ∧ numF 16 0 bs = numF 16 (acc * 16 + (L - 87).toNat) (bs.drop (k + 1))) := Lib.hid ⟨by omega, by rw [hpw8]; omega, by rw [hdec, numF_step h3]⟩
          clear hacc hacc7 hdec ha hpw hpw8 hL h3
          go_wp2_with (go_at_call 129; refine (C.out _).mono ?_; rintro e w' ⟨rfl, rfl⟩)
          all_goals refine ⟨⟨k + 1, acc * 16 + (L - 87).toNat, a * 16 + (L - 97 + 10), rfl, (by first | rfl | (congr 1; omega)), (by first | rfl | (congr 1; omega)), by omega, HN⟩, by simp [intOf]; omega⟩
        · have HV : Hid (parseV 16 bs = .tuple #[.int .u64 0, .iface 135 (.int .i64 2)]) := Lib.hid (parseV_no (by rw [HNE.out, hdec, numF_stop h3]))
          clear hacc hacc7 hdec ha hpw hpw8 h3
          by_cases h95 : c = 95
          · subst h95
            have C := low95_hid
            clear hdig h1
            go_wp2_with (go_at_call 129; refine (C.out _).mono ?_; rintro e w' ⟨rfl, rfl⟩)
            go_ret2
            exact ⟨by rw [HV.out]; rfl, hbb⟩
          have g95 : ((c.toNat : Int) == 95) = false := by rw [beq_eq_false_iff_ne]; exact fun h => h95 (byte_is (d := 95) h)
          obtain ⟨L, hL⟩ : ∃ L, lowI c = L := ⟨_, rfl⟩
          have C := low_hid c L hL
          rw [hL] at h1
          have hv0 : 0 ≤ L := by rw [← hL]; unfold lowI; omega
          have hv1 : L ≤ 255 := by rw [← hL]; unfold lowI; have := (c ||| 32).toNat_lt; omega
          clear hL h95
          by_cases h97 : 97 ≤ L
          · have h102 : 102 < L := by omega
            clear h1
            go_wp2_with (go_at_call 129; refine (C.out _).mono ?_; rintro e w' ⟨rfl, rfl⟩)
            all_goals go_ret2
            all_goals exact ⟨by rw [HV.out]; rfl, hbb⟩
          · clear h1
            go_wp2_with (go_at_call 129; refine (C.out _).mono ?_; rintro e w' ⟨rfl, rfl⟩)
            all_goals go_ret2
            all_goals exact ⟨by rw [HV.out]; rfl, hbb⟩
    · have hkk : k = t.size := by omega
      subst hkk
      have HV : Hid (parseV 16 bs = .tuple #[.int .u64 a, .nilIface]) := Lib.hid (by
        rw [ha]
        exact parseV_yes (by rw [HNE.out, hdec, List.drop_eq_nil_of_le (by rw [HLn.out]; exact Nat.le_refl _)]; rfl))
      clear hacc hdec ha
      go_wp2
      go_ret2
      exact ⟨by rw [HV.out]; rfl, hbb⟩
end Go.Proofs.YtgbilfbonliipaaGreatDoor

namespace Go.Proofs.YtgbilfbonliipaaGreatDoor
open Go.RowKit

def IfaceV (v : Value) : Prop := v = .nilIface ∨ ∃ te pe, v = .iface te pe
/-- The library's own error lies, and holds an interface's value. -/
def SynIn (w : World) : Prop := ∃ v, w.cell? ⟨2, 0, none⟩ = some v ∧ IfaceV v
theorem SynIn.below {w w' : World} (h : SynIn w) (hb : Below w.heap.size w w') : SynIn w' := by
  obtain ⟨v, h1, h2⟩ := h
  exact ⟨v, by rw [hb.cell (lt_of_cell h1)]; exact h1, h2⟩
def ParseP (B : Nat) (l : List UInt8) (W : World) (e : Ending) (w' : World) : Prop :=
  ∃ v : Value, e = .returned v ∧ Below W.heap.size W w' ∧ ((∃ n : Nat, numD B l = some n ∧ v = .tuple #[.int .u64 (n : Int), .nilIface]) ∨ (numD B l = none ∧ ∃ N, v = .tuple #[.int .u64 0, .iface 137 (.pointer (some ⟨N, 0, none⟩))]))

set_option maxRecDepth 100000 in
theorem parseU10_any (t : ByteArray) (ht : t.size ≤ 8) (w : World) (hs : SynIn w) :
    Calls Tryz.prog 85 #[.string t, .int .i64 10, .int .i64 32] w (ParseP 10 t.data.toList w) := by
  have C := Lib.hid (parse10_any t ht)
  have HS := Lib.hid hs
  clear hs
  cases hn : numD 10 t.data.toList with
  | some n =>
    have HP : Hid (parseV 10 t.data.toList = .tuple #[.int .u64 (n : Int), .nilIface]) := Lib.hid (parseV_yes hn)
    have HN := Lib.hid hn
    clear hn
    go_enter Tryz.func85, Tryz.ntmps85
    go_wp2_with fail
    refine (C.out _).mono ?_
    rintro e w1 ⟨rfl, b1⟩
    rw [HP.out]
    go_wp2
    go_ret2
    exact ⟨_, rfl, b1, .inl ⟨n, HN.out, rfl⟩⟩
  | none =>
    have HP : Hid (parseV 10 t.data.toList = .tuple #[.int .u64 0, .iface 135 (.int .i64 2)]) := Lib.hid (parseV_no hn)
    have HN := Lib.hid hn
    clear hn
    go_enter Tryz.func85, Tryz.ntmps85
    go_wp2_with fail
    refine (C.out _).mono ?_
    rintro e w1 ⟨rfl, b1⟩
    rw [HP.out]
    obtain ⟨ev, hv, hev⟩ := HS.out.below b1
    have CE := Lib.hid (Tryz.strconv_toError_syntax ⟨#[80, 97, 114, 115, 101, 85, 105, 110, 116]⟩ t 10 32 ev w1 (by omega) hv hev)
    clear hv hev
    go_wp2_with fail
    refine CE.out.mono ?_
    rintro e w2 ⟨N, rfl, _, _, b2⟩
    go_wp2
    go_ret2
    exact ⟨_, rfl, b1.trans (b2.mono b1.size), .inr ⟨HN.out, N, rfl⟩⟩

set_option maxRecDepth 100000 in
theorem parseU16_any (t : ByteArray) (ht : t.size ≤ 8) (w : World) (hs : SynIn w) :
    Calls Tryz.prog 85 #[.string t, .int .i64 16, .int .i64 32] w (ParseP 16 t.data.toList w) := by
  have C := Lib.hid (parse16_any t ht)
  have HS := Lib.hid hs
  clear hs
  cases hn : numD 16 t.data.toList with
  | some n =>
    have HP : Hid (parseV 16 t.data.toList = .tuple #[.int .u64 (n : Int), .nilIface]) := Lib.hid (parseV_yes hn)
    have HN := Lib.hid hn
    clear hn
    go_enter Tryz.func85, Tryz.ntmps85
    go_wp2_with fail
    refine (C.out _).mono ?_
    rintro e w1 ⟨rfl, b1⟩
    rw [HP.out]
    go_wp2
    go_ret2
    exact ⟨_, rfl, b1, .inl ⟨n, HN.out, rfl⟩⟩
  | none =>
    have HP : Hid (parseV 16 t.data.toList = .tuple #[.int .u64 0, .iface 135 (.int .i64 2)]) := Lib.hid (parseV_no hn)
    have HN := Lib.hid hn
    clear hn
    go_enter Tryz.func85, Tryz.ntmps85
    go_wp2_with fail
    refine (C.out _).mono ?_
    rintro e w1 ⟨rfl, b1⟩
    rw [HP.out]
    obtain ⟨ev, hv, hev⟩ := HS.out.below b1
    have CE := Lib.hid (Tryz.strconv_toError_syntax ⟨#[80, 97, 114, 115, 101, 85, 105, 110, 116]⟩ t 16 32 ev w1 (by omega) hv hev)
    clear hv hev
    go_wp2_with fail
    refine CE.out.mono ?_
    rintro e w2 ⟨N, rfl, _, _, b2⟩
    go_wp2
    go_ret2
    exact ⟨_, rfl, b1.trans (b2.mono b1.size), .inr ⟨HN.out, N, rfl⟩⟩

theorem pre_one (l : List UInt8) (c : UInt8) : Lib.hasPrefix l [c] = decide (l.head? = some c) ∧ Lib.trimPrefix l [c] = if l.head? = some c then l.drop 1 else l := by
  cases l with
  | nil => exact ⟨rfl, rfl⟩
  | cons a r =>
    unfold Lib.trimPrefix Lib.hasPrefix
    by_cases h : a = c
    · subst h; simp
    · have h2 : (c == a) = false := by rw [beq_eq_false_iff_ne]; exact fun e => h e.symm
      have h3 : [c].isPrefixOf (a :: r) = false := by simp only [List.isPrefixOf, h2, Bool.false_and]
      have h4 : ¬ (a :: r).head? = some c := fun e => h (Option.some.inj e)
      rw [h3, decide_eq_false h4, if_neg h4]
      exact ⟨rfl, rfl⟩
theorem cutP_hid (s T : ByteArray) (c : UInt8) (r : Bool) (hr : decide (s.data.toList.head? = some c) = r) (hT : T.data.toList = if s.data.toList.head? = some c then s.data.toList.drop 1 else s.data.toList) :
    Hid (∀ W, Calls Tryz.prog 53 #[.string s, .string ⟨#[c]⟩] W fun e w' => e = .returned (.tuple #[.string T, .bool r]) ∧ w' = W) := Lib.hid fun W => by
  have h := Tryz.strings_CutPrefix s ⟨#[c]⟩ W
  rw [show (⟨#[c]⟩ : ByteArray).data.toList = [c] from rfl, (pre_one _ c).1, (pre_one _ c).2, hr, ← hT] at h
  rw [text_is (T := T) rfl]
  exact h
theorem hasP_hid (s : ByteArray) (c : UInt8) (r : Bool) (hr : decide (s.data.toList.head? = some c) = r) :
    Hid (∀ W, Calls Tryz.prog 84 #[.string s, .string ⟨#[c]⟩] W fun e w' => e = .returned (.bool r) ∧ w' = W) := Lib.hid fun W => by
  have h := Tryz.strings_HasPrefix s ⟨#[c]⟩ W
  rw [show (⟨#[c]⟩ : ByteArray).data.toList = [c] from rfl, (pre_one _ c).1, hr] at h
  exact h

/-- What number answers, of a text of at most eight bytes. -/
def NumP (l : List UInt8) (W : World) (e : Ending) (w' : World) : Prop :=
  ∃ (n : Int) (b : Bool), e = .returned (.tuple #[.int .i64 n, .bool b]) ∧ Below W.heap.size W w' ∧ ((∃ m : Nat, numM l = some m ∧ n = (m : Int) ∧ b = true) ∨ (numM l = none ∧ b = false))
theorem ret_nb {S T : Int} {a b : Bool} (h : S = T) (h2 : a = b) : Ending.returned (.tuple #[.int .i64 S, .bool a]) = .returned (.tuple #[.int .i64 T, .bool b]) := by rw [h, h2]
theorem numD_lt8 {B n : Nat} {l : List UInt8} (hB : B ≤ 16) (h : numD B l = some n) (hl : l.length ≤ 8) : n < 4294967296 := by
  unfold numD at h
  split at h
  · cases h
  · have := numF_lt B l 0 n 0 h (by simp)
    have h1 : B ^ (0 + l.length) ≤ 16 ^ (0 + l.length) := Nat.pow_le_pow_left hB _
    have h2 : (16 : Nat) ^ (0 + l.length) ≤ 16 ^ 8 := Nat.pow_le_pow_right (by decide) (by omega)
    have h3 : (16 : Nat) ^ 8 = 4294967296 := by decide
    omega
theorem numM_is (l : List UInt8) (hl : l.length ≤ 8) (D : List UInt8) (t x X : Bool) (hD : D = if l.head? = some 35 then l.drop 1 else l) (ht : decide (l.head? = some 35) = t) (hx : decide (D.head? = some 120) = x) (hX : decide (D.head? = some 88) = X) :
    numM l = if t = true then (if x = true ∨ X = true then numD 16 (D.drop 1) else numD 10 D) else none := by
  subst ht hx hX
  simp only [decide_eq_true_eq]
  by_cases h : l.head? = some 35
  · rw [if_pos h] at hD ⊢
    cases l with
    | nil => cases h
    | cons a r =>
      injection h with h
      subst h
      have e : D = r := hD
      subst e
      rw [num_sharp]
      simp only [List.length_cons] at hl
      by_cases hc : D.head? = some 120 ∨ D.head? = some 88
      · rw [if_pos hc, if_pos hc, numU_eq _ _ _ (by
          cases D with
          | nil => simp
          | cons y z => simp at hl ⊢; omega)]
      · rw [if_neg hc, if_neg hc, numU_eq _ _ _ (by omega)]
  · rw [if_neg h, num_plain _ h]


set_option maxRecDepth 100000 in
set_option maxHeartbeats 4000000 in
theorem number_any (s : ByteArray) (hs : s.size ≤ 8) (w : World) (hsyn : SynIn w) : Calls Tryz.prog 56 #[.string s] w (NumP s.data.toList w) := by
  obtain ⟨D, hD⟩ := text_of (if s.data.toList.head? = some 35 then s.data.toList.drop 1 else s.data.toList)
  obtain ⟨t, ht⟩ : ∃ t, decide (s.data.toList.head? = some 35) = t := ⟨_, rfl⟩
  obtain ⟨x, hx⟩ : ∃ x, decide (D.data.toList.head? = some 120) = x := ⟨_, rfl⟩
  obtain ⟨X, hX⟩ : ∃ X, decide (D.data.toList.head? = some 88) = X := ⟨_, rfl⟩
  have CC := cutP_hid s D 35 t ht hD
  have HM := Lib.hid (numM_is s.data.toList (by rw [lsize]; exact hs) D.data.toList t x X hD ht hx hX)
  have hDs : D.size ≤ 8 := by
    rw [← lsize, hD]
    split
    · rw [List.length_drop, lsize]; omega
    · rw [lsize]; exact hs
  have HS := Lib.hid hsyn
  clear hD ht hsyn
  cases x with
  | true =>
    have CH1 := hasP_hid D 120 true hx
    obtain ⟨E, hE⟩ := text_of (D.data.toList.drop 1)
    have hEs : E.size ≤ 8 := by rw [← lsize, hE, List.length_drop, lsize]; omega
    have hD1 : 1 ≤ D.size := by
      rw [← lsize]
      cases hq : D.data.toList with
      | nil => rw [hq] at hx; cases hx
      | cons a r => simp
    have s1 : ∀ W, (Instr.slice 9 (.string D) (some (.int .i64 1)) none none).run Tryz.prog W = .ok (.string E) W := slice_from D E 1 hD1 hE
    have CU := Lib.hid fun W hW => parseU16_any E hEs W hW
    have HM2 : Hid (numM s.data.toList = if t = true then numD 16 E.data.toList else none) := Lib.hid (by rw [HM.out, hE]; simp)
    clear hx hX HM hE
    have hlt := fun n (h : numD 16 E.data.toList = some n) => numD_lt8 (by decide) h (by rw [lsize]; omega)
    have HLT := Lib.hid hlt
    clear hlt
    go_enter Tryz.func56, Tryz.ntmps56
    go_wp2_with fail
    (with_reducible refine (CC.out _).mono ?_)
    rintro e w ⟨rfl, rfl⟩
    go_wp2_with fail
    (with_reducible refine (CH1.out _).mono ?_)
    rintro e w ⟨rfl, rfl⟩
    go_wp2_with fail
    (with_reducible refine (CU.out _ HS.out).mono ?_)
    rintro e w1 ⟨v, rfl, b1, hv⟩
    rcases hv with ⟨n, hn, rfl⟩ | ⟨hn, N, rfl⟩
    · have hn32 := HLT.out n hn
      have HN := Lib.hid hn
      clear hn
      cases t with
      | true =>
        have HR : Hid (numM s.data.toList = some n) := Lib.hid (by rw [HM2.out, HN.out]; rfl)
        clear HM2 HN
        go_wp2_with fail
        go_quiet (fail)
        go_wp2
        go_ret2
        exact ⟨(n : Int), true, rfl, belowN b1 _, .inl ⟨n, HR.out, rfl, rfl⟩⟩
      | false =>
        have HR : Hid (numM s.data.toList = none) := Lib.hid (by rw [HM2.out]; rfl)
        clear HM2 HN
        go_wp2_with fail
        go_quiet (fail)
        go_wp2
        go_ret2
        exact ⟨(n : Int), false, rfl, belowN b1 _, .inr ⟨HR.out, rfl⟩⟩
    · have HR : Hid (numM s.data.toList = none) := Lib.hid (by rw [HM2.out, hn]; cases t <;> rfl)
      clear hn HM2
      cases t with
      | true =>
        go_wp2_with fail
        go_quiet (fail)
        go_wp2
        go_ret2
        exact ⟨0, false, rfl, belowN b1 _, .inr ⟨HR.out, rfl⟩⟩
      | false =>
        go_wp2_with fail
        go_quiet (fail)
        go_wp2
        go_ret2
        exact ⟨0, false, rfl, belowN b1 _, .inr ⟨HR.out, rfl⟩⟩
  | false =>
  have CH1 := hasP_hid D 120 false hx
  cases X with
  | true =>
    have CH2 := hasP_hid D 88 true hX
    obtain ⟨E, hE⟩ := text_of (D.data.toList.drop 1)
    have hEs : E.size ≤ 8 := by rw [← lsize, hE, List.length_drop, lsize]; omega
    have hD1 : 1 ≤ D.size := by
      rw [← lsize]
      cases hq : D.data.toList with
      | nil => rw [hq] at hX; cases hX
      | cons a r => simp
    have s1 : ∀ W, (Instr.slice 9 (.string D) (some (.int .i64 1)) none none).run Tryz.prog W = .ok (.string E) W := slice_from D E 1 hD1 hE
    have CU := Lib.hid fun W hW => parseU16_any E hEs W hW
    have HM2 : Hid (numM s.data.toList = if t = true then numD 16 E.data.toList else none) := Lib.hid (by rw [HM.out, hE]; simp)
    clear hx hX HM hE
    have hlt := fun n (h : numD 16 E.data.toList = some n) => numD_lt8 (by decide) h (by rw [lsize]; omega)
    have HLT := Lib.hid hlt
    clear hlt
    go_enter Tryz.func56, Tryz.ntmps56
    go_wp2_with fail
    (with_reducible refine (CC.out _).mono ?_)
    rintro e w ⟨rfl, rfl⟩
    go_wp2_with fail
    (with_reducible refine (CH1.out _).mono ?_)
    rintro e w ⟨rfl, rfl⟩
    go_wp2_with fail
    (with_reducible refine (CH2.out _).mono ?_)
    rintro e w ⟨rfl, rfl⟩
    go_wp2_with fail
    (with_reducible refine (CU.out _ HS.out).mono ?_)
    rintro e w1 ⟨v, rfl, b1, hv⟩
    rcases hv with ⟨n, hn, rfl⟩ | ⟨hn, N, rfl⟩
    · have hn32 := HLT.out n hn
      have HN := Lib.hid hn
      clear hn
      cases t with
      | true =>
        have HR : Hid (numM s.data.toList = some n) := Lib.hid (by rw [HM2.out, HN.out]; rfl)
        clear HM2 HN
        go_wp2_with fail
        go_quiet (fail)
        go_wp2
        go_ret2
        exact ⟨(n : Int), true, rfl, belowN b1 _, .inl ⟨n, HR.out, rfl, rfl⟩⟩
      | false =>
        have HR : Hid (numM s.data.toList = none) := Lib.hid (by rw [HM2.out]; rfl)
        clear HM2 HN
        go_wp2_with fail
        go_quiet (fail)
        go_wp2
        go_ret2
        exact ⟨(n : Int), false, rfl, belowN b1 _, .inr ⟨HR.out, rfl⟩⟩
    · have HR : Hid (numM s.data.toList = none) := Lib.hid (by rw [HM2.out, hn]; cases t <;> rfl)
      clear hn HM2
      cases t with
      | true =>
        go_wp2_with fail
        go_quiet (fail)
        go_wp2
        go_ret2
        exact ⟨0, false, rfl, belowN b1 _, .inr ⟨HR.out, rfl⟩⟩
      | false =>
        go_wp2_with fail
        go_quiet (fail)
        go_wp2
        go_ret2
        exact ⟨0, false, rfl, belowN b1 _, .inr ⟨HR.out, rfl⟩⟩
  | false =>
    have CH2 := hasP_hid D 88 false hX
    obtain ⟨E, hE⟩ : ∃ E, D = E := ⟨_, rfl⟩
    have hEs : E.size ≤ 8 := by rw [← hE]; omega
    have CU := Lib.hid fun W hW => parseU10_any D (by omega) W hW
    have HM2 : Hid (numM s.data.toList = if t = true then numD 10 D.data.toList else none) := Lib.hid (by rw [HM.out]; simp)
    clear hx hX HM hE hEs
    have hlt := fun n (h : numD 10 D.data.toList = some n) => numD_lt8 (by decide) h (by rw [lsize]; omega)
    have HLT := Lib.hid hlt
    clear hlt
    go_enter Tryz.func56, Tryz.ntmps56
    go_wp2_with fail
    (with_reducible refine (CC.out _).mono ?_)
    rintro e w ⟨rfl, rfl⟩
    go_wp2_with fail
    (with_reducible refine (CH1.out _).mono ?_)
    rintro e w ⟨rfl, rfl⟩
    go_wp2_with fail
    (with_reducible refine (CH2.out _).mono ?_)
    rintro e w ⟨rfl, rfl⟩
    go_wp2_with fail
    (with_reducible refine (CU.out _ HS.out).mono ?_)
    rintro e w1 ⟨v, rfl, b1, hv⟩
    rcases hv with ⟨n, hn, rfl⟩ | ⟨hn, N, rfl⟩
    · have hn32 := HLT.out n hn
      have HN := Lib.hid hn
      clear hn
      cases t with
      | true =>
        have HR : Hid (numM s.data.toList = some n) := Lib.hid (by rw [HM2.out, HN.out]; rfl)
        clear HM2 HN
        go_wp2_with fail
        go_quiet (fail)
        go_wp2
        go_ret2
        exact ⟨(n : Int), true, rfl, belowN b1 _, .inl ⟨n, HR.out, rfl, rfl⟩⟩
      | false =>
        have HR : Hid (numM s.data.toList = none) := Lib.hid (by rw [HM2.out]; rfl)
        clear HM2 HN
        go_wp2_with fail
        go_quiet (fail)
        go_wp2
        go_ret2
        exact ⟨(n : Int), false, rfl, belowN b1 _, .inr ⟨HR.out, rfl⟩⟩
    · have HR : Hid (numM s.data.toList = none) := Lib.hid (by rw [HM2.out, hn]; cases t <;> rfl)
      clear hn HM2
      cases t with
      | true =>
        go_wp2_with fail
        go_quiet (fail)
        go_wp2
        go_ret2
        exact ⟨0, false, rfl, belowN b1 _, .inr ⟨HR.out, rfl⟩⟩
      | false =>
        go_wp2_with fail
        go_quiet (fail)
        go_wp2
        go_ret2
        exact ⟨0, false, rfl, belowN b1 _, .inr ⟨HR.out, rfl⟩⟩
theorem number_hid (s : ByteArray) (hs : s.size ≤ 8) : Hid (∀ W, SynIn W → Calls Tryz.prog 56 #[.string s] W (NumP s.data.toList W)) := Lib.hid fun W h => number_any s hs W h

end Go.Proofs.YtgbilfbonliipaaGreatDoor

namespace Go.Proofs.YtgbilfbonliipaaGreatDoor
open Go.RowKit

def MaxIn (w : World) : Prop := ∃ m, w.cell? ⟨1, 0, none⟩ = some (.int .i64 m)
theorem MaxIn.below {w w' : World} (h : MaxIn w) (hb : Below w.heap.size w w') : MaxIn w' := by
  obtain ⟨m, hm⟩ := h
  exact ⟨m, by rw [hb.cell (lt_of_cell hm)]; exact hm⟩
/-- What lies below, and is read. -/
structure Low (w : World) : Prop where
  m : MaxIn w
  s : SignsIn w
  e : SynIn w
theorem Low.below {w w' : World} (h : Low w) (hb : Below w.heap.size w w') : Low w' := ⟨h.m.below hb, h.s.below hb, h.e.below hb⟩
theorem Low.made {w : World} (h : Low w) (x : Obj) : Low (w.alloc x) := h.below ((Below.refl _ _).alloc (Nat.le_refl _) _)

theorem index_semi : ∀ l : List UInt8, (semi l = none ∧ Lib.index l [59] = -1) ∨ ∃ k : Nat, semi l = some k ∧ Lib.index l [59] = (k : Int)
  | [] => .inl ⟨rfl, rfl⟩
  | c :: r => by
    unfold semi Lib.index
    by_cases hc : c = 59
    · subst hc
      rw [if_pos (by simp)]
      exact .inr ⟨0, rfl, rfl⟩
    · have h2 : ¬ [59].isPrefixOf (c :: r) = true := by
        simp only [List.isPrefixOf, Bool.and_true, beq_iff_eq]
        exact fun e => hc e.symm
      rw [if_neg h2, if_neg hc]
      rcases index_semi r with ⟨h3, h4⟩ | ⟨k, h3, h4⟩
      · rw [h3, h4]; exact .inl ⟨rfl, rfl⟩
      · rw [h3, h4]
        refine .inr ⟨k + 1, rfl, ?_⟩
        rw [if_neg (by simp)]
        simp
theorem cut_semi_no (l : List UInt8) (h : semi l = none) : Lib.cut l [59] = (l, [], false) := by
  unfold Lib.cut
  rcases index_semi l with ⟨_, h2⟩ | ⟨k, h1, _⟩
  · rw [h2]; rfl
  · rw [h] at h1; cases h1
theorem cut_semi_at (l : List UInt8) (k : Nat) (h : semi l = some k) : Lib.cut l [59] = (l.take k, l.drop (k + 1), true) := by
  unfold Lib.cut
  rcases index_semi l with ⟨h1, _⟩ | ⟨j, h1, h2⟩
  · rw [h] at h1; cases h1
  · rw [h] at h1
    injection h1 with h1
    subst h1
    rw [h2, if_pos (by omega)]
    simp
theorem cutS_hid (L A R : ByteArray) (r : Bool) (h : Lib.cut L.data.toList [59] = (A.data.toList, R.data.toList, r)) (hL : L.size ≤ 1000000) : Hid (∀ W, MaxIn W → Calls Tryz.prog 54 #[.string L, .string ⟨#[59]⟩] W fun e w' => e = .returned (.tuple #[.string A, .string R, .bool r]) ∧ Below W.heap.size W w') := Lib.hid fun W hm => by
  obtain ⟨m, hm⟩ := hm
  have C := Tryz.strings_Cut L ⟨#[59]⟩ m W (by omega) hm
  rw [show (⟨#[59]⟩ : ByteArray).data.toList = [59] from rfl, h] at C
  simp only [] at C
  rw [← text_is (T := A) rfl, ← text_is (T := R) rfl] at C
  exact C.mono fun e w' ⟨h1, n, h2⟩ => ⟨h1, by rw [h2]; exact belowN (Below.refl _ _) n⟩

theorem semi_take : ∀ (r : List UInt8) (m : Nat), semi (r.take m) = (semi r).bind fun k => if k < m then some k else none
  | [], m => by simp [semi]
  | c :: r, 0 => by
    cases h : semi (c :: r) <;> simp [semi]
  | c :: r, m + 1 => by
    rw [List.take_succ_cons]
    unfold semi
    by_cases hc : c = 59
    · rw [if_pos hc, if_pos hc]; simp
    · rw [if_neg hc, if_neg hc, semi_take r m]
      cases semi r with
      | none => rfl
      | some k =>
        by_cases hk : k < m
        · simp [hk]
        · simp [hk]
/-- The first nine bytes tell it. -/
theorem first_nine (r : List UInt8) : firstM (38 :: r) = match semi (r.take 9) with
    | some k => (signM (r.take k)).map fun p => (p.1, p.2, k + 2)
    | none => none := by
  rw [first_amp, semi_take]
  cases hs : semi r with
  | none => rfl
  | some k =>
    by_cases hk : k < 9
    · simp [hk]
    · have h8 : signM (r.take k) = none := sign_long (by
        have := (semi_lt hs).1
        rw [List.length_take]; omega)
      simp [hk, h8]

/-- What first answers. -/
def FirstP (l : List UInt8) (W : World) (e : Ending) (w' : World) : Prop :=
  ∃ (T : ByteArray) (k : Nat), e = .returned (.tuple #[.string T, .int .i64 (k : Int)]) ∧ Below W.heap.size W w' ∧ ((firstM l = none ∧ k = 0 ∧ T = ⟨#[]⟩) ∨ ∃ t b, firstM l = some (t, b, k) ∧ T.data.toList = if b = true then [] else t)
theorem first_no {l : List UInt8} {W w' : World} (h : firstM l = none) (b : Below W.heap.size W w') : FirstP l W (.returned (.tuple #[.string ⟨#[]⟩, .int .i64 0])) w' := ⟨⟨#[]⟩, 0, rfl, b, .inl ⟨h, rfl, rfl⟩⟩

set_option maxRecDepth 100000 in
set_option maxHeartbeats 4000000 in
theorem first_any (s : ByteArray) (hs : s.size ≤ 1000000) (w : World) (hlow : Low w) : Calls Tryz.prog 35 #[.string s] w (FirstP s.data.toList w) := by
  obtain ⟨D, hD⟩ := text_of (if s.data.toList.head? = some 38 then s.data.toList.drop 1 else s.data.toList)
  have HLow := Lib.hid hlow
  clear hlow
  by_cases ha : s.data.toList.head? = some 38
  · have CC := cutP_hid s D 38 true (decide_eq_true ha) hD
    rw [if_pos ha] at hD
    have hl : s.data.toList = 38 :: D.data.toList := by
      cases hq : s.data.toList with
      | nil => rw [hq] at ha; cases ha
      | cons a r => rw [hq] at ha hD; injection ha with ha; subst ha; rw [hD]; rfl
    have hDs : D.size + 1 = s.size := by rw [← lsize s, hl, ← lsize D]; rfl
    have hf := first_nine D.data.toList
    rw [← hl] at hf
    obtain ⟨M, hM⟩ := text_of (D.data.toList.take 9)
    obtain ⟨m, hm⟩ : ∃ m : Nat, m = min D.size 9 := ⟨_, rfl⟩
    have hMt : M.data.toList = D.data.toList.take m := by
      rw [hM, hm]
      by_cases h9 : D.size ≤ 9
      · rw [Nat.min_eq_left h9, ← lsize D, List.take_length, List.take_of_length_le (by rw [lsize]; exact h9)]
      · rw [Nat.min_eq_right (by omega)]
    have hmD : m ≤ D.size := by rw [hm]; exact Nat.min_le_left _ _
    have hm9 : m ≤ 9 := by rw [hm]; exact Nat.min_le_right _ _
    have hMs : M.size = m := by rw [← lsize, hMt, List.length_take, lsize]; omega
    have s1 := slice_to D M m hmD hMt
    have hmin : min (D.size : Int) 9 = (m : Int) := by rw [hm]; omega
    rw [← hM] at hf
    cases hsm : semi M.data.toList with
    | none =>
      have C2 := cutS_hid M M ⟨#[]⟩ false (cut_semi_no _ hsm) (by omega)
      rw [hsm] at hf
      have HF := Lib.hid hf
      clear hf hsm hl hD ha hM hMt hm hMs hm9
      go_enter Tryz.func35, Tryz.ntmps35
      go_wp2_with fail
      refine (CC.out _).mono ?_
      rintro e w ⟨rfl, rfl⟩
      go_wp2_with fail
      refine (C2.out _ HLow.out.m).mono ?_
      rintro e w1 ⟨rfl, b1⟩
      go_wp2
      go_ret2
      exact first_no HF.out b1
    | some k =>
      obtain ⟨I, hI⟩ := text_of (M.data.toList.take k)
      obtain ⟨R, hR⟩ := text_of (M.data.toList.drop (k + 1))
      have C2 := cutS_hid M I R true (by rw [cut_semi_at _ _ hsm, hI, hR]) (by omega)
      rw [hsm] at hf
      obtain ⟨hk, _, _⟩ := semi_lt hsm
      rw [lsize] at hk
      have hIs : I.size = k := by rw [← lsize, hI, List.length_take, lsize]; omega
      have hID : I.data.toList = D.data.toList.take k := by
        rw [hI, hMt, List.take_take, Nat.min_eq_left (by omega)]
      simp only at hf
      rw [← hID] at hf
      have hk8 : k ≤ 8 := by omega
      have hz1 : (1 : Int) + (I.size : Int) + 1 = ((k + 2 : Nat) : Int) := by omega
      obtain ⟨T1, hT1⟩ := text_of (nameM I.data.toList)
      obtain ⟨r, hr⟩ : ∃ r, decide (nameM I.data.toList ≠ []) = r := ⟨_, rfl⟩
      have C3 := nameP_hid I T1 hT1 r hr
      have C4 := number_hid I (by omega)
      have hI0 : 0 ≤ (I.size : Int) := by omega
      have hI8 : (I.size : Int) ≤ 8 := by omega
      cases r with
      | true =>
        have hne := of_decide_eq_true hr
        rw [sign_name hne] at hf
        have HF : Hid (firstM s.data.toList = some (nameM I.data.toList, false, k + 2)) := Lib.hid hf
        have HT := Lib.hid hT1
        have HZ := Lib.hid hz1
        clear hf hsm hl hD ha hM hMt hm hMs hm9 hI hR hID hr hne hT1 hz1 hIs hk
        go_enter Tryz.func35, Tryz.ntmps35
        go_wp2_with fail
        refine (CC.out _).mono ?_
        rintro e w ⟨rfl, rfl⟩
        go_wp2_with fail
        refine (C2.out _ HLow.out.m).mono ?_
        rintro e w1 ⟨rfl, b1⟩
        go_wp2_with fail
        refine (C3.out _ (HLow.out.below b1).s).mono ?_
        rintro e w2 ⟨rfl, b2⟩
        go_wp2
        go_ret2
        exact ⟨T1, k + 2, by rw [← HZ.out]; rfl, b1.trans (b2.mono b1.size), .inr ⟨_, _, HF.out, HT.out⟩⟩
      | false =>
        have hne : nameM I.data.toList = [] := by simpa using of_decide_eq_false hr
        obtain rfl : T1 = ⟨#[]⟩ := text_is (hT1.trans hne)
        have HNE := Lib.hid hne
        have HF := Lib.hid hf
        have HZ := Lib.hid hz1
        clear hf hsm hl hD ha hM hMt hm hMs hm9 hI hR hID hr hne hT1 hz1 hIs hk
        go_enter Tryz.func35, Tryz.ntmps35
        go_wp2_with fail
        refine (CC.out _).mono ?_
        rintro e w ⟨rfl, rfl⟩
        go_wp2_with fail
        refine (C2.out _ HLow.out.m).mono ?_
        rintro e w1 ⟨rfl, b1⟩
        go_wp2_with fail
        refine (C3.out _ (HLow.out.below b1).s).mono ?_
        rintro e w2 ⟨rfl, b2⟩
        have B2 := b1.trans (b2.mono b1.size)
        go_wp2_with fail
        refine (C4.out _ (HLow.out.below B2).e).mono ?_
        rintro e w3 ⟨n, b, rfl, b3, hv⟩
        have B3 := B2.trans (b3.mono B2.size)
        rcases hv with ⟨N, hn, rfl, rfl⟩ | ⟨hn, rfl⟩
        · obtain ⟨T, hT⟩ := text_of (if N = 0 ∨ ¬ isPt N then [] else encN N)
          have C5 := pointT_hid N T hT
          have HV : Hid (∃ t b, firstM s.data.toList = some (t, b, k + 2) ∧ T.data.toList = if b = true then [] else t) := Lib.hid (by
            by_cases h0 : N = 0 ∨ ¬ isPt N
            · exact ⟨badT, true, by rw [HF.out, sign_bad HNE.out hn h0]; rfl, by rw [hT, if_pos h0]; rfl⟩
            · refine ⟨encN N, false, ?_, by rw [hT, if_neg h0]; rfl⟩
              rw [HF.out, sign_point HNE.out hn (fun e => h0 (.inl e)) (Classical.byContradiction fun g => h0 (.inr g))]
              rfl)
          clear hn hT HF HNE
          go_wp2_with fail
          refine (C5.out _).mono ?_
          rintro e w4 ⟨rfl, b4⟩
          go_wp2
          go_ret2
          exact ⟨T, k + 2, by rw [← HZ.out]; rfl, B3.trans (b4.mono B3.size), .inr HV.out⟩
        · have HV : Hid (firstM s.data.toList = none) := Lib.hid (by rw [HF.out, sign_none HNE.out hn]; rfl)
          clear hn HF HNE
          go_wp2
          go_ret2
          exact first_no HV.out B3
  · have CC := cutP_hid s D 38 false (decide_eq_false ha) hD
    have HF : Hid (firstM s.data.toList = none) := Lib.hid (by
      cases hq : s.data.toList with
      | nil => rfl
      | cons a r => exact first_plain a r (fun e => ha (by rw [hq, e]; rfl)))
    clear ha hD
    go_enter Tryz.func35, Tryz.ntmps35
    go_wp2_with fail
    refine (CC.out _).mono ?_
    rintro e w ⟨rfl, rfl⟩
    go_wp2
    go_ret2
    exact first_no HF.out (Below.refl _ _)
theorem first_hid (s : ByteArray) (hs : s.size ≤ 1000000) : Hid (∀ W, Low W → Calls Tryz.prog 35 #[.string s] W (FirstP s.data.toList W)) := Lib.hid fun W h => first_any s hs W h

end Go.Proofs.YtgbilfbonliipaaGreatDoor
