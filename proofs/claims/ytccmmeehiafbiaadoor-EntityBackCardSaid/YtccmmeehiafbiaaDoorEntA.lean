/- Ground: texts, blocks, rows of bytes; code points' bytes (the program's and the document's). -/
import Derived.Test.YtccmmeehiafbiaaDoorProg
import Derived.Test.YtccmmeehiafbiaaDoorPureE
import Derived.Test.YtccmmeehiafbiaaDoorShelf
import Derived.WalkKit
import Derived.WalkSpells
import Derived.WalkLawsBesides
import Derived.BigQuiet
import Derived.Deep.QuietTactic
import Derived.Deep.LoopGhost
import Derived.Outline
import Derived.Lib.SlBytesRow
import Derived.Lib.SlBytesConst
import Derived.Lib.ConvBytes
import Derived.Lib.SmallJoins
import Derived.Lib.Hide
import Derived.OwnWalk
namespace Go.Proofs.YtccmmeehiafbiaaDoor
open Go.RowKit

theorem ret_bool {a b : Bool} (h : a = b) : Ending.returned (.bool a) = .returned (.bool b) := by rw [h]
theorem text_of (l : List UInt8) : ∃ T : ByteArray, T.data.toList = l := ⟨⟨l.toArray⟩, rfl⟩
theorem text_is {T : ByteArray} {l : List UInt8} (h : T.data.toList = l) : T = ⟨l.toArray⟩ := by
  apply ByteArray.ext
  apply Array.toList_inj.1
  rw [h]
theorem text_same {T U : ByteArray} (h : T.data.toList = U.data.toList) : T = U := (text_is h).trans (text_is rfl).symm
theorem text_eq (s t : ByteArray) : (s.toList == t.toList) = decide (s.data.toList = t.data.toList) := by
  rw [ByteArray.toList_eq, ByteArray.toList_eq, Bool.eq_iff_iff]
  simp
theorem text_lit (s : ByteArray) (l : List UInt8) : (s.toList == l) = decide (s.data.toList = l) := by
  rw [ByteArray.toList_eq, Bool.eq_iff_iff]
  simp
theorem text_empty (s : ByteArray) : s.toList.isEmpty = s.data.toList.isEmpty := by rw [ByteArray.toList_eq]
theorem byte_is {c d : UInt8} (h : (c.toNat : Int) = (d.toNat : Int)) : c = d := by
  apply UInt8.toNat_inj.1
  omega
theorem cell_of {w : World} {b : Nat} {c : Array Value} {t : TypeId} {fr : Nat × Nat} (h : w.heap[b]? = some (.cells c t fr)) (j : Nat) : w.cell? ⟨b, j, none⟩ = c[j]? := by
  simp [World.cell?, h]
theorem open_of {w : World} {b : Nat} {c : Array Value} {t : TypeId} (h : w.heap[b]? = some (.cells c t (0, 0))) (j : Nat) : w.frozen? ⟨b, j, none⟩ = false := by
  simp [World.frozen?, h]
theorem new_block (w : World) (o : Obj) : (w.alloc o).heap[w.heap.size]? = some o := by
  show (w.heap.push o)[w.heap.size]? = some o
  simp
theorem belowN {B : Nat} {a w : World} (h : Below B a w) (n : Nat) : Below B a (w.drewN n) := h.trans ⟨rfl, rfl, rfl, Nat.le_refl _, fun _ _ => rfl⟩
theorem extract_toList (s : ByteArray) (i j : Nat) : (s.extract i j).data.toList = (s.data.toList.drop i).take (j - i) := Lib.extract_data s i j
theorem lsize (s : ByteArray) : s.data.toList.length = s.size := by simp
theorem bsize (l : List UInt8) : (⟨l.toArray⟩ : ByteArray).size = l.length := by
  show l.toArray.size = _
  simp
theorem add_to (S T R : ByteArray) (h : R.data.toList = S.data.toList ++ T.data.toList) (hl : S.size + T.size ≤ 9223372036854775807) : ∀ W, (Op.stringOp .add S T).run Tryd.prog W = .ok (.string R) W := fun W => by
  rw [run_string_add_sum (P := Tryd.prog) W S T hl]
  congr 2
  apply ByteArray.ext
  apply Array.toList_inj.1
  rw [h]
  simp
theorem cut_run (s T : ByteArray) (i j : Nat) (_hij : i ≤ j) (_hj : j ≤ s.size) (h : T.data.toList = (s.data.toList.drop i).take (j - i)) : s.extract i j = T := by
  apply ByteArray.ext
  apply Array.toList_inj.1
  rw [extract_toList, h]
theorem slice_to (L U : ByteArray) (k : Nat) (hk : k ≤ L.size) (h : U.data.toList = L.data.toList.take k) : ∀ W, (Instr.slice 9 (.string L) none (some (.int .i64 (k : Int))) none).run Tryd.prog W = .ok (.string U) W := fun W => by
  have e : L.extract 0 k = U := cut_run L U 0 k (by omega) hk (by simpa using h)
  have hz : ¬ L.size < k := by omega
  simp [Instr.slice, go_sem, e, hz]
theorem slice_from (L R : ByteArray) (k : Nat) (hk : k ≤ L.size) (h : R.data.toList = L.data.toList.drop k) : ∀ W, (Instr.slice 9 (.string L) (some (.int .i64 (k : Int))) none none).run Tryd.prog W = .ok (.string R) W := fun W => by
  have e : L.extract k L.size = R := cut_run L R k L.size hk (Nat.le_refl _) (by rw [h, List.take_of_length_le]; rw [List.length_drop, lsize]; exact Nat.le_refl _)
  have hz : ¬ L.size < k := by omega
  simp [Instr.slice, go_sem, e, hz]
theorem slice_mid (L U : ByteArray) (i j : Nat) (hij : i ≤ j) (hj : j ≤ L.size) (h : U.data.toList = (L.data.toList.drop i).take (j - i)) : ∀ W, (Instr.slice 9 (.string L) (some (.int .i64 (i : Int))) (some (.int .i64 (j : Int))) none).run Tryd.prog W = .ok (.string U) W := fun W => by
  have e : L.extract i j = U := cut_run L U i j hij hj h
  simp [Instr.slice, go_sem, e, hj, hij]

theorem Tinfo5 : (Tryd.prog.info? 5).map (fun i => (i.zero, i.size, i.bytes)) = some (some (.int .u8 0), 1, 1) := by kernel_rfl
theorem Tinfo3 : (Tryd.prog.info? 3).map (fun i => (i.zero, i.size, i.bytes)) = some (some (.int .i64 0), 1, 8) := by kernel_rfl
theorem lt_of_block {w : World} {g : Nat} {o : Obj} (h : w.heap[g]? = some o) : g < w.heap.size := by
  rcases Nat.lt_or_ge g w.heap.size with h' | h'
  · exact h'
  · simp [Array.getElem?_eq_none h'] at h
theorem lt_of_cell {w : World} {a : Addr} {v : Value} (hc : w.cell? a = some v) : a.block < w.heap.size := by
  rcases Nat.lt_or_ge a.block w.heap.size with h' | h'
  · exact h'
  · simp [World.cell?, Array.getElem?_eq_none h'] at hc
theorem ownsRow_below {w w' : World} {base : Nat} {e : TypeId} {size : Nat} {v : Value} {n : Nat} {xs : List Value} (h : w.ownsRow base e size v n xs) (hb : Below w.heap.size w w') : w'.ownsRow base e size v n xs := by
  obtain ⟨h1, h2⟩ := h
  refine ⟨h1, ?_⟩
  rcases h2 with h2 | ⟨g, cap, cur, a, b, c, d⟩
  · exact .inl h2
  · exact .inr ⟨g, cap, cur, a, b, by rw [hb.block g (lt_of_block c)]; exact c, d⟩
theorem rowForms {w : World} {base size n : Nat} {e : TypeId} {v : Value} {xs : List Value} (h : w.ownsRow base e size v n xs) : (v = .slice none 0 0 ∧ n = 0) ∨ ∃ g cap, v = .slice (some ⟨g, 0, none⟩) n cap := by
  rcases h.2 with h2 | ⟨g, cap, cur, a, _⟩
  · exact .inl h2
  · exact .inr ⟨g, cap, a⟩
theorem byteCells_append (a b : List UInt8) : Lib.byteCells (a ++ b) = Lib.byteCells a ++ Lib.byteCells b := by simp [Lib.byteCells]
theorem byteCells_one (b : UInt8) : Lib.byteCells [b] = [.int .u8 (b.toNat : Int)] := by simp [Lib.byteCells]
/-- 'string(b)' of a row of one's own. -/
theorem conv_row {w : World} {base : Nat} {v : Value} {n : Nat} {l : List UInt8} (h : w.ownsRow base 5 1 v n (Lib.byteCells l)) :
    (convert 35 9 v).run Tryd.prog w = .ok (.string ⟨l.toArray⟩) w := by
  have hl : l.length = n := by have := h.1; simpa [Lib.byteCells_length] using this
  rcases rowForms h with ⟨rfl, h2⟩ | ⟨g, cap, rfl⟩
  · have e : l = [] := List.length_eq_zero_iff.1 (by omega)
    rw [e]
    exact run_convert_bytes_nil (P := Tryd.prog) w 35 5 Tryd.underlying35 Tryd.underlying5 0 0 9 Tryd.underlying9
  · subst hl
    refine run_convert_bytes_back (P := Tryd.prog) w 35 9 5 ⟨g, 0, none⟩ cap l Tryd.underlying35 Tryd.underlying5 Tryd.underlying9 (fun j hj => ?_)
    have e : (⟨g, 0, none⟩ : Addr).add j = ⟨g, j, none⟩ := by simp [Addr.add]; omega
    rw [e, h.cellAt j (by omega)]
    simp [Lib.byteCells, List.getElem?_eq_getElem hj]
/-- 'string(b)' of a new row of bytes. -/
theorem conv_new (w : World) (zs : List Int) (l : List UInt8) (n : Nat) (hn : n = l.length) (hl : l.map (fun b => (b.toNat : Int)) = zs) (c : Nat) (C : Array Value) (hC : C = (zs.map (Value.int .u8)).toArray) :
    (convert 35 9 (.slice (some ⟨w.heap.size, 0, none⟩) n c)).run Tryd.prog (w.alloc (.cells C 5)) = .ok (.string ⟨l.toArray⟩) (w.alloc (.cells C 5)) := by
  subst hn
  refine run_convert_bytes_back (P := Tryd.prog) _ 35 9 5 ⟨w.heap.size, 0, none⟩ c l Tryd.underlying35 Tryd.underlying5 Tryd.underlying9 (fun j hj => ?_)
  have e : (⟨w.heap.size, 0, none⟩ : Addr).add j = ⟨w.heap.size, j, none⟩ := by simp [Addr.add]; omega
  rw [e, World.cell?_alloc_mark, hC, ← hl]
  simp [List.getElem?_eq_getElem hj]

/-! ### code points -/
theorem isPoint_any (n : Int) (w : World) : Calls Tryd.prog 37 #[.int .i64 n] w fun e w' => e = .returned (.bool (ptB n)) ∧ w' = w := by
  go_enter Tryd.func37, Tryd.ntmps37
  go_wp2
  all_goals go_ret
  all_goals refine ⟨ret_bool ?_, rfl⟩
  all_goals (unfold ptB; rw [Bool.eq_iff_iff]; simp only [Bool.or_eq_true, decide_eq_true_eq, Bool.false_eq_true, false_iff, true_iff]; omega)
theorem isPoint_hid (n : Int) (b : Bool) (h : ptB n = b) : Hid (∀ W, Calls Tryd.prog 37 #[.int .i64 n] W fun e w' => e = .returned (.bool b) ∧ w' = W) := Lib.hid fun W => by rw [← h]; exact isPoint_any n W
theorem point_any (n : Int) (w : World) : Calls Tryd.prog 26 #[.int .i64 n] w fun e w' => e = .returned (.bool (ptB n)) ∧ w' = w := by
  go_enter Tryd.func26, Tryd.ntmps26
  go_wp2
  all_goals go_ret
  all_goals refine ⟨ret_bool ?_, rfl⟩
  all_goals (unfold ptB; rw [Bool.eq_iff_iff]; simp only [Bool.or_eq_true, decide_eq_true_eq, Bool.false_eq_true, false_iff, true_iff]; omega)
theorem point_hid (n : Int) (b : Bool) (h : ptB n = b) : Hid (∀ W, Calls Tryd.prog 26 #[.int .i64 n] W fun e w' => e = .returned (.bool b) ∧ w' = W) := Lib.hid fun W => by rw [← h]; exact point_any n W

theorem enc1 {n : Nat} (h : n ≤ 127) : encN n = [n.toUInt8] := if_pos h
theorem enc2 {n : Nat} (h1 : ¬ n ≤ 127) (h : n ≤ 2047) : encN n = [(192 + n / 64).toUInt8, (128 + n % 64).toUInt8] := by unfold encN; rw [if_neg h1, if_pos h]
theorem enc3 {n : Nat} (h1 : ¬ n ≤ 127) (h2 : ¬ n ≤ 2047) (h : n ≤ 65535) : encN n = [(224 + n / 4096).toUInt8, (128 + n / 64 % 64).toUInt8, (128 + n % 64).toUInt8] := by unfold encN; rw [if_neg h1, if_neg h2, if_pos h]
theorem enc4 {n : Nat} (h1 : ¬ n ≤ 127) (h2 : ¬ n ≤ 2047) (h3 : ¬ n ≤ 65535) : encN n = [(240 + n / 262144).toUInt8, (128 + n / 4096 % 64).toUInt8, (128 + n / 64 % 64).toUInt8, (128 + n % 64).toUInt8] := by unfold encN; rw [if_neg h1, if_neg h2, if_neg h3]
theorem u8i {n : Nat} (h : n < 256) : ((n.toUInt8).toNat : Int) = (n : Int) := by rw [u8_toNat h]

set_option maxRecDepth 100000 in
theorem bytes_any (n : Nat) (hn : n ≤ 1114111) (w : World) : Calls Tryd.prog 20 #[.int .i64 n] w fun e w' => e = .returned (.string ⟨(encN n).toArray⟩) ∧ Below w.heap.size w w' := by
  by_cases h1 : n ≤ 127
  · have hc := conv_new w [(n : Int)] (encN n) 1 (by rw [enc1 h1]; rfl) (by rw [enc1 h1]; simp only [List.map_cons, List.map_nil]; rw [u8i (by omega)]) 1 _ rfl
    have e1 : ((n : Int) ≤ 127) := by omega
    simp only [List.map_cons, List.map_nil] at hc
    go_enter Tryd.func20, Tryd.ntmps20
    go_wp2
    go_ret
    exact ⟨rfl, (Below.refl _ _).alloc (Nat.le_refl _) _⟩
  by_cases h2 : n ≤ 2047
  · have hc := conv_new w [(192 + n / 64 : Int), (128 + n % 64 : Int)] (encN n) 2 (by rw [enc2 h1 h2]; rfl) (by rw [enc2 h1 h2]; simp only [List.map_cons, List.map_nil]; rw [u8i (by omega), u8i (by omega)]; simp) 2 _ rfl
    have e1 : ¬ ((n : Int) ≤ 127) := by omega
    have e2 : ((n : Int) ≤ 2047) := by omega
    simp only [List.map_cons, List.map_nil] at hc
    go_enter Tryd.func20, Tryd.ntmps20
    go_wp2
    go_ret
    exact ⟨rfl, (Below.refl _ _).alloc (Nat.le_refl _) _⟩
  by_cases h3 : n ≤ 65535
  · have hc := conv_new w [(224 + n / 4096 : Int), (128 + n / 64 % 64 : Int), (128 + n % 64 : Int)] (encN n) 3 (by rw [enc3 h1 h2 h3]; rfl) (by rw [enc3 h1 h2 h3]; simp only [List.map_cons, List.map_nil]; rw [u8i (by omega), u8i (by omega), u8i (by omega)]; simp) 3 _ rfl
    have e1 : ¬ ((n : Int) ≤ 127) := by omega
    have e2 : ¬ ((n : Int) ≤ 2047) := by omega
    have e3 : ((n : Int) ≤ 65535) := by omega
    simp only [List.map_cons, List.map_nil] at hc
    go_enter Tryd.func20, Tryd.ntmps20
    go_wp2
    go_ret
    exact ⟨rfl, (Below.refl _ _).alloc (Nat.le_refl _) _⟩
  · have hc := conv_new w [(240 + n / 262144 : Int), (128 + n / 4096 % 64 : Int), (128 + n / 64 % 64 : Int), (128 + n % 64 : Int)] (encN n) 4 (by rw [enc4 h1 h2 h3]; rfl) (by rw [enc4 h1 h2 h3]; simp only [List.map_cons, List.map_nil]; rw [u8i (by omega), u8i (by omega), u8i (by omega), u8i (by omega)]; simp) 4 _ rfl
    have e1 : ¬ ((n : Int) ≤ 127) := by omega
    have e2 : ¬ ((n : Int) ≤ 2047) := by omega
    have e3 : ¬ ((n : Int) ≤ 65535) := by omega
    simp only [List.map_cons, List.map_nil] at hc
    go_enter Tryd.func20, Tryd.ntmps20
    go_wp2
    go_ret
    exact ⟨rfl, (Below.refl _ _).alloc (Nat.le_refl _) _⟩
theorem bytes_hid (n : Nat) (T : ByteArray) (hT : T.data.toList = encN n) (hn : n ≤ 1114111) : Hid (∀ W, Calls Tryd.prog 20 #[.int .i64 n] W fun e w' => e = .returned (.string T) ∧ Below W.heap.size W w') := Lib.hid fun W => by
  rw [text_is hT]; exact bytes_any n hn W

theorem runeCells_eq {c : Nat} (h : isPt c) : Lib.runeCells (c : Int) = Lib.byteCells (encN c) := by
  rw [← encodeRune_eq h, Lib.byteCells_encodeRune]

set_option maxRecDepth 100000 in
set_option maxHeartbeats 1000000 in
/-- The text of a row of one code point. -/
theorem textOne_any (c : Nat) (hp : isPt c) (T : ByteArray) (hT : T.data.toList = encN c) (g : Nat) (w : World) (hc : w.cell? ⟨g, 0, none⟩ = some (.int .i64 (c : Int))) :
    Calls Tryd.prog 31 #[.slice (some ⟨g, 0, none⟩) 1 1] w fun e w' => e = .returned (.tuple #[.string T, .int .i64 0]) ∧ Below w.heap.size w w' := by
  obtain ⟨i0, hi, hz0, hz1, hz2⟩ := info_parts Tinfo5
  have C := isPoint_hid (c : Int) true ((ptB_iff c).2 hp)
  have hpt0 : c ≤ 1114111 := hp.1
  have HR := Lib.hid (runeCells_eq hp)
  have HT := Lib.hid hT
  clear hp hT
  go_enter Tryd.func31, Tryd.ntmps31
  go_wp2_with (at_make; refine wpList_make_own _ rfl _ _ 35 rfl w.heap.size 5 i0 (.int .u8 0) 1 Tryd.underlying35 hi hz0 hz1 .i64 .i64 _ 1 rfl rfl rfl (by rw [hz2]; omega) (by unfold maxLen; omega) (Nat.le_refl _) ?_; intro w0 hown0 hgrow0)
  have hbw0 : Below w.heap.size w w0 := Below.grown (Below.refl _ _) hgrow0 (Nat.le_refl _) (fun j hj => by cases hj)
  have hc0 : w0.cell? ⟨g, 0, none⟩ = some (.int .i64 (c : Int)) := by rw [hbw0.cell (lt_of_cell hc), hc]
  clear hc
  refine wp_loop_rounds 2 ?_
  rw [rounds_succ]
  go_wp2_with fail
  refine (C.out _).mono ?_
  rintro e w' ⟨rfl, rfl⟩
  go_wp2_with fail
  refine (Tryd.utf8_AppendRune_plain w.heap.size _ _ _ (c : Int) (by omega) (by omega) _ hown0 (by omega) (hbw0.size)).mono ?_
  rintro e w3 ⟨v', rfl, hown3, o3, hgrow3⟩
  have hbw3 : Below w.heap.size w w3 := Below.grown (hbw0.alloc hbw0.size _) hgrow3 (by have := hbw0.size; simp; omega) (fun j hj => (hown0.lt _ hj).1)
  rw [HR.out] at hown3
  have hconv := conv_row (l := encN c) hown3
  clear hown3 hgrow3
  go_wp2_with fail
  rw [rounds_succ]
  go_wp2
  go_ret2
  exact ⟨congrArg (fun x => Ending.returned (.tuple #[.string x, .int .i64 0])) (text_is HT.out).symm, hbw3⟩

set_option maxRecDepth 100000 in
set_option maxHeartbeats 1000000 in
/-- A number that is no code point has none. -/
theorem textNo_any (n : Int) (hp : ptB n = false) (g : Nat) (w : World) (hc : w.cell? ⟨g, 0, none⟩ = some (.int .i64 n)) :
    Calls Tryd.prog 31 #[.slice (some ⟨g, 0, none⟩) 1 1] w fun e w' => e = .returned (.tuple #[.string ⟨#[]⟩, .int .i64 1]) ∧ Below w.heap.size w w' := by
  obtain ⟨i0, hi, hz0, hz1, hz2⟩ := info_parts Tinfo5
  have C := isPoint_hid n false hp
  clear hp
  go_enter Tryd.func31, Tryd.ntmps31
  go_wp2_with (at_make; refine wpList_make_own _ rfl _ _ 35 rfl w.heap.size 5 i0 (.int .u8 0) 1 Tryd.underlying35 hi hz0 hz1 .i64 .i64 _ 1 rfl rfl rfl (by rw [hz2]; omega) (by unfold maxLen; omega) (Nat.le_refl _) ?_; intro w0 hown0 hgrow0)
  have hbw0 : Below w.heap.size w w0 := Below.grown (Below.refl _ _) hgrow0 (Nat.le_refl _) (fun j hj => by cases hj)
  have hc0 : w0.cell? ⟨g, 0, none⟩ = some (.int .i64 n) := by rw [hbw0.cell (lt_of_cell hc), hc]
  clear hc
  refine wp_loop_rounds 1 ?_
  rw [rounds_succ]
  go_wp2_with fail
  refine (C.out _).mono ?_
  rintro e w' ⟨rfl, rfl⟩
  go_wp2
  go_ret2
  exact ⟨rfl, hbw0⟩

set_option maxRecDepth 100000 in
/-- What point answers. -/
theorem pointT_any (n : Nat) (T : ByteArray) (hT : T.data.toList = if n = 0 ∨ ¬ isPt n then [] else encN n) (w : World) :
    Calls Tryd.prog 24 #[.int .i64 (n : Int)] w fun e w' => e = .returned (.string T) ∧ Below w.heap.size w w' := by
  by_cases h0 : n = 0
  · subst h0
    rw [if_pos (.inl rfl)] at hT
    obtain rfl : T = ⟨#[]⟩ := text_is hT
    go_enter Tryd.func24, Tryd.ntmps24
    go_wp2
    go_ret
    exact ⟨rfl, Below.refl _ _⟩
  have g : ((n : Int) == 0) = false := by rw [beq_eq_false_iff_ne]; omega
  by_cases hp : isPt n
  · rw [if_neg (by rintro (h | h); exact h0 h; exact h hp)] at hT
    have HT := Lib.hid hT
    have HP := Lib.hid hp
    clear hT hp h0
    go_enter Tryd.func24, Tryd.ntmps24
    go_wp2_with fail
    refine (textOne_any n HP.out T HT.out _ _ (by simp [World.cell?_alloc_mark])).mono ?_
    rintro e w' ⟨rfl, b1⟩
    go_wp2
    go_ret
    exact ⟨rfl, ((Below.refl _ _).alloc (Nat.le_refl _) _).trans (b1.mono (by simp))⟩
  · rw [if_pos (.inr hp)] at hT
    obtain rfl : T = ⟨#[]⟩ := text_is hT
    have HP : Hid (ptB (n : Int) = false) := Lib.hid (by rw [ptB_dec, decide_eq_false hp])
    clear hT hp h0
    go_enter Tryd.func24, Tryd.ntmps24
    go_wp2_with fail
    refine (textNo_any (n : Int) HP.out _ _ (by simp [World.cell?_alloc_mark])).mono ?_
    rintro e w' ⟨rfl, b1⟩
    go_wp2
    go_ret
    exact ⟨rfl, ((Below.refl _ _).alloc (Nat.le_refl _) _).trans (b1.mono (by simp))⟩
theorem pointT_hid (n : Nat) (T : ByteArray) (hT : T.data.toList = if n = 0 ∨ ¬ isPt n then [] else encN n) : Hid (∀ W, Calls Tryd.prog 24 #[.int .i64 (n : Int)] W fun e w' => e = .returned (.string T) ∧ Below W.heap.size W w') := Lib.hid fun W => pointT_any n T hT W

end Go.Proofs.YtccmmeehiafbiaaDoor
