/- Ground: texts, blocks, rows of bytes; code points' bytes (the program's and the document's). The table of signs, in memory; what a name stands for: the program's Name and the document's. -/
import Derived.WalkKit
import Derived.WalkSpells
import Derived.WalkLawsBesides
import Derived.BigQuiet
import Derived.Deep.QuietTactic
import Derived.Deep.LoopGhost
import Derived.Outline
import Derived.Lib.SlBytesRow
import Derived.Lib.SlBytesConst
import Derived.Lib.ConvBytes
import Derived.Lib.SmallJoins
import Derived.Lib.Hide
import Derived.OwnWalk
import Derived.Deep.MidRow
import Derived.Test.YtfbhpmafjehojaaGreatDoorShelf
import Derived.Test.YtfbhpmafjehojaaGreatDoorTkZ
namespace Go.Proofs.YtfbhpmafjehojaaGreatDoor
open Go.RowKit

theorem ret_bool {a b : Bool} (h : a = b) : Ending.returned (.bool a) = .returned (.bool b) := by rw [h]
theorem text_of (l : List UInt8) : ∃ T : ByteArray, T.data.toList = l := ⟨⟨l.toArray⟩, rfl⟩
theorem text_is {T : ByteArray} {l : List UInt8} (h : T.data.toList = l) : T = ⟨l.toArray⟩ := by
  apply ByteArray.ext
  apply Array.toList_inj.1
  rw [h]
theorem text_same {T U : ByteArray} (h : T.data.toList = U.data.toList) : T = U := (text_is h).trans (text_is rfl).symm
theorem text_eq (s t : ByteArray) : (s.toList == t.toList) = decide (s.data.toList = t.data.toList) := by
  rw [ByteArray.toList_eq, ByteArray.toList_eq, Bool.eq_iff_iff]
  simp
theorem text_lit (s : ByteArray) (l : List UInt8) : (s.toList == l) = decide (s.data.toList = l) := by
  rw [ByteArray.toList_eq, Bool.eq_iff_iff]
  simp
theorem text_empty (s : ByteArray) : s.toList.isEmpty = s.data.toList.isEmpty := by rw [ByteArray.toList_eq]
theorem byte_is {c d : UInt8} (h : (c.toNat : Int) = (d.toNat : Int)) : c = d := by
  apply UInt8.toNat_inj.1
  omega
theorem cell_of {w : World} {b : Nat} {c : Array Value} {t : TypeId} {fr : Nat × Nat} (h : w.heap[b]? = some (.cells c t fr)) (j : Nat) : w.cell? ⟨b, j, none⟩ = c[j]? := by
  simp [World.cell?, h]
theorem open_of {w : World} {b : Nat} {c : Array Value} {t : TypeId} (h : w.heap[b]? = some (.cells c t (0, 0))) (j : Nat) : w.frozen? ⟨b, j, none⟩ = false := by
  simp [World.frozen?, h]
theorem new_block (w : World) (o : Obj) : (w.alloc o).heap[w.heap.size]? = some o := by
  show (w.heap.push o)[w.heap.size]? = some o
  simp
theorem belowN {B : Nat} {a w : World} (h : Below B a w) (n : Nat) : Below B a (w.drewN n) := h.trans ⟨rfl, rfl, rfl, Nat.le_refl _, fun _ _ => rfl⟩
theorem extract_toList (s : ByteArray) (i j : Nat) : (s.extract i j).data.toList = (s.data.toList.drop i).take (j - i) := Lib.extract_data s i j
theorem lsize (s : ByteArray) : s.data.toList.length = s.size := by simp
theorem bsize (l : List UInt8) : (⟨l.toArray⟩ : ByteArray).size = l.length := by
  show l.toArray.size = _
  simp
theorem add_to (S T R : ByteArray) (h : R.data.toList = S.data.toList ++ T.data.toList) (hl : S.size + T.size ≤ 9223372036854775807) : ∀ W, (Op.stringOp .add S T).run Tryz.prog W = .ok (.string R) W := fun W => by
  rw [run_string_add_sum (P := Tryz.prog) W S T hl]
  congr 2
  apply ByteArray.ext
  apply Array.toList_inj.1
  rw [h]
  simp
theorem cut_run (s T : ByteArray) (i j : Nat) (_hij : i ≤ j) (_hj : j ≤ s.size) (h : T.data.toList = (s.data.toList.drop i).take (j - i)) : s.extract i j = T := by
  apply ByteArray.ext
  apply Array.toList_inj.1
  rw [extract_toList, h]
theorem slice_to (L U : ByteArray) (k : Nat) (hk : k ≤ L.size) (h : U.data.toList = L.data.toList.take k) : ∀ W, (Instr.slice 9 (.string L) none (some (.int .i64 (k : Int))) none).run Tryz.prog W = .ok (.string U) W := fun W => by
  have e : L.extract 0 k = U := cut_run L U 0 k (by omega) hk (by simpa using h)
  have hz : ¬ L.size < k := by omega
  simp [Instr.slice, go_sem, e, hz]
theorem slice_from (L R : ByteArray) (k : Nat) (hk : k ≤ L.size) (h : R.data.toList = L.data.toList.drop k) : ∀ W, (Instr.slice 9 (.string L) (some (.int .i64 (k : Int))) none none).run Tryz.prog W = .ok (.string R) W := fun W => by
  have e : L.extract k L.size = R := cut_run L R k L.size hk (Nat.le_refl _) (by rw [h, List.take_of_length_le]; rw [List.length_drop, lsize]; exact Nat.le_refl _)
  have hz : ¬ L.size < k := by omega
  simp [Instr.slice, go_sem, e, hz]
theorem slice_mid (L U : ByteArray) (i j : Nat) (hij : i ≤ j) (hj : j ≤ L.size) (h : U.data.toList = (L.data.toList.drop i).take (j - i)) : ∀ W, (Instr.slice 9 (.string L) (some (.int .i64 (i : Int))) (some (.int .i64 (j : Int))) none).run Tryz.prog W = .ok (.string U) W := fun W => by
  have e : L.extract i j = U := cut_run L U i j hij hj h
  simp [Instr.slice, go_sem, e, hj, hij]

theorem Tinfo5 : (Tryz.prog.info? 5).map (fun i => (i.zero, i.size, i.bytes)) = some (some (.int .u8 0), 1, 1) := by kernel_rfl
theorem Tinfo3 : (Tryz.prog.info? 3).map (fun i => (i.zero, i.size, i.bytes)) = some (some (.int .i64 0), 1, 8) := by kernel_rfl
theorem lt_of_block {w : World} {g : Nat} {o : Obj} (h : w.heap[g]? = some o) : g < w.heap.size := by
  rcases Nat.lt_or_ge g w.heap.size with h' | h'
  · exact h'
  · simp [Array.getElem?_eq_none h'] at h
theorem lt_of_cell {w : World} {a : Addr} {v : Value} (hc : w.cell? a = some v) : a.block < w.heap.size := by
  rcases Nat.lt_or_ge a.block w.heap.size with h' | h'
  · exact h'
  · simp [World.cell?, Array.getElem?_eq_none h'] at hc
theorem ownsRow_below {w w' : World} {base : Nat} {e : TypeId} {size : Nat} {v : Value} {n : Nat} {xs : List Value} (h : w.ownsRow base e size v n xs) (hb : Below w.heap.size w w') : w'.ownsRow base e size v n xs := by
  obtain ⟨h1, h2⟩ := h
  refine ⟨h1, ?_⟩
  rcases h2 with h2 | ⟨g, cap, cur, a, b, c, d⟩
  · exact .inl h2
  · exact .inr ⟨g, cap, cur, a, b, by rw [hb.block g (lt_of_block c)]; exact c, d⟩
theorem rowForms {w : World} {base size n : Nat} {e : TypeId} {v : Value} {xs : List Value} (h : w.ownsRow base e size v n xs) : (v = .slice none 0 0 ∧ n = 0) ∨ ∃ g cap, v = .slice (some ⟨g, 0, none⟩) n cap := by
  rcases h.2 with h2 | ⟨g, cap, cur, a, _⟩
  · exact .inl h2
  · exact .inr ⟨g, cap, a⟩
theorem byteCells_append (a b : List UInt8) : Lib.byteCells (a ++ b) = Lib.byteCells a ++ Lib.byteCells b := by simp [Lib.byteCells]
theorem byteCells_one (b : UInt8) : Lib.byteCells [b] = [.int .u8 (b.toNat : Int)] := by simp [Lib.byteCells]
/-- 'string(b)' of a row of one's own. -/
theorem conv_row {w : World} {base : Nat} {v : Value} {n : Nat} {l : List UInt8} (h : w.ownsRow base 5 1 v n (Lib.byteCells l)) :
    (convert 22 9 v).run Tryz.prog w = .ok (.string ⟨l.toArray⟩) w := by
  have hl : l.length = n := by have := h.1; simpa [Lib.byteCells_length] using this
  rcases rowForms h with ⟨rfl, h2⟩ | ⟨g, cap, rfl⟩
  · have e : l = [] := List.length_eq_zero_iff.1 (by omega)
    rw [e]
    exact run_convert_bytes_nil (P := Tryz.prog) w 22 5 Tryz.underlying22 Tryz.underlying5 0 0 9 Tryz.underlying9
  · subst hl
    refine run_convert_bytes_back (P := Tryz.prog) w 22 9 5 ⟨g, 0, none⟩ cap l Tryz.underlying22 Tryz.underlying5 Tryz.underlying9 (fun j hj => ?_)
    have e : (⟨g, 0, none⟩ : Addr).add j = ⟨g, j, none⟩ := by simp [Addr.add]; omega
    rw [e, h.cellAt j (by omega)]
    simp [Lib.byteCells, List.getElem?_eq_getElem hj]
/-- 'string(b)' of a new row of bytes. -/
theorem conv_new (w : World) (zs : List Int) (l : List UInt8) (n : Nat) (hn : n = l.length) (hl : l.map (fun b => (b.toNat : Int)) = zs) (c : Nat) (C : Array Value) (hC : C = (zs.map (Value.int .u8)).toArray) :
    (convert 22 9 (.slice (some ⟨w.heap.size, 0, none⟩) n c)).run Tryz.prog (w.alloc (.cells C 5)) = .ok (.string ⟨l.toArray⟩) (w.alloc (.cells C 5)) := by
  subst hn
  refine run_convert_bytes_back (P := Tryz.prog) _ 22 9 5 ⟨w.heap.size, 0, none⟩ c l Tryz.underlying22 Tryz.underlying5 Tryz.underlying9 (fun j hj => ?_)
  have e : (⟨w.heap.size, 0, none⟩ : Addr).add j = ⟨w.heap.size, j, none⟩ := by simp [Addr.add]; omega
  rw [e, World.cell?_alloc_mark, hC, ← hl]
  simp [List.getElem?_eq_getElem hj]

/-! ### code points -/
theorem isPoint_any (n : Int) (w : World) : Calls Tryz.prog 156 #[.int .i64 n] w fun e w' => e = .returned (.bool (ptB n)) ∧ w' = w := by
  go_enter Tryz.func156, Tryz.ntmps156
  go_wp2
  all_goals go_ret
  all_goals refine ⟨ret_bool ?_, rfl⟩
  all_goals (unfold ptB; rw [Bool.eq_iff_iff]; simp only [Bool.or_eq_true, decide_eq_true_eq, Bool.false_eq_true, false_iff, true_iff]; omega)
theorem isPoint_hid (n : Int) (b : Bool) (h : ptB n = b) : Hid (∀ W, Calls Tryz.prog 156 #[.int .i64 n] W fun e w' => e = .returned (.bool b) ∧ w' = W) := Lib.hid fun W => by rw [← h]; exact isPoint_any n W
theorem point_any (n : Int) (w : World) : Calls Tryz.prog 90 #[.int .i64 n] w fun e w' => e = .returned (.bool (ptB n)) ∧ w' = w := by
  go_enter Tryz.func90, Tryz.ntmps90
  go_wp2
  all_goals go_ret
  all_goals refine ⟨ret_bool ?_, rfl⟩
  all_goals (unfold ptB; rw [Bool.eq_iff_iff]; simp only [Bool.or_eq_true, decide_eq_true_eq, Bool.false_eq_true, false_iff, true_iff]; omega)
theorem point_hid (n : Int) (b : Bool) (h : ptB n = b) : Hid (∀ W, Calls Tryz.prog 90 #[.int .i64 n] W fun e w' => e = .returned (.bool b) ∧ w' = W) := Lib.hid fun W => by rw [← h]; exact point_any n W

theorem enc1 {n : Nat} (h : n ≤ 127) : encN n = [n.toUInt8] := if_pos h
theorem enc2 {n : Nat} (h1 : ¬ n ≤ 127) (h : n ≤ 2047) : encN n = [(192 + n / 64).toUInt8, (128 + n % 64).toUInt8] := by unfold encN; rw [if_neg h1, if_pos h]
theorem enc3 {n : Nat} (h1 : ¬ n ≤ 127) (h2 : ¬ n ≤ 2047) (h : n ≤ 65535) : encN n = [(224 + n / 4096).toUInt8, (128 + n / 64 % 64).toUInt8, (128 + n % 64).toUInt8] := by unfold encN; rw [if_neg h1, if_neg h2, if_pos h]
theorem enc4 {n : Nat} (h1 : ¬ n ≤ 127) (h2 : ¬ n ≤ 2047) (h3 : ¬ n ≤ 65535) : encN n = [(240 + n / 262144).toUInt8, (128 + n / 4096 % 64).toUInt8, (128 + n / 64 % 64).toUInt8, (128 + n % 64).toUInt8] := by unfold encN; rw [if_neg h1, if_neg h2, if_neg h3]
theorem u8i {n : Nat} (h : n < 256) : ((n.toUInt8).toNat : Int) = (n : Int) := by rw [u8_toNat h]

set_option maxRecDepth 100000 in
theorem bytes_any (n : Nat) (hn : n ≤ 1114111) (w : World) : Calls Tryz.prog 56 #[.int .i64 n] w fun e w' => e = .returned (.string ⟨(encN n).toArray⟩) ∧ Below w.heap.size w w' := by
  by_cases h1 : n ≤ 127
  · have hc := conv_new w [(n : Int)] (encN n) 1 (by rw [enc1 h1]; rfl) (by rw [enc1 h1]; simp only [List.map_cons, List.map_nil]; rw [u8i (by omega)]) 1 _ rfl
    have e1 : ((n : Int) ≤ 127) := by omega
    simp only [List.map_cons, List.map_nil] at hc
    go_enter Tryz.func56, Tryz.ntmps56
    go_wp2
    go_ret
    exact ⟨rfl, (Below.refl _ _).alloc (Nat.le_refl _) _⟩
  by_cases h2 : n ≤ 2047
  · have hc := conv_new w [(192 + n / 64 : Int), (128 + n % 64 : Int)] (encN n) 2 (by rw [enc2 h1 h2]; rfl) (by rw [enc2 h1 h2]; simp only [List.map_cons, List.map_nil]; rw [u8i (by omega), u8i (by omega)]; simp) 2 _ rfl
    have e1 : ¬ ((n : Int) ≤ 127) := by omega
    have e2 : ((n : Int) ≤ 2047) := by omega
    simp only [List.map_cons, List.map_nil] at hc
    go_enter Tryz.func56, Tryz.ntmps56
    go_wp2
    go_ret
    exact ⟨rfl, (Below.refl _ _).alloc (Nat.le_refl _) _⟩
  by_cases h3 : n ≤ 65535
  · have hc := conv_new w [(224 + n / 4096 : Int), (128 + n / 64 % 64 : Int), (128 + n % 64 : Int)] (encN n) 3 (by rw [enc3 h1 h2 h3]; rfl) (by rw [enc3 h1 h2 h3]; simp only [List.map_cons, List.map_nil]; rw [u8i (by omega), u8i (by omega), u8i (by omega)]; simp) 3 _ rfl
    have e1 : ¬ ((n : Int) ≤ 127) := by omega
    have e2 : ¬ ((n : Int) ≤ 2047) := by omega
    have e3 : ((n : Int) ≤ 65535) := by omega
    simp only [List.map_cons, List.map_nil] at hc
    go_enter Tryz.func56, Tryz.ntmps56
    go_wp2
    go_ret
    exact ⟨rfl, (Below.refl _ _).alloc (Nat.le_refl _) _⟩
  · have hc := conv_new w [(240 + n / 262144 : Int), (128 + n / 4096 % 64 : Int), (128 + n / 64 % 64 : Int), (128 + n % 64 : Int)] (encN n) 4 (by rw [enc4 h1 h2 h3]; rfl) (by rw [enc4 h1 h2 h3]; simp only [List.map_cons, List.map_nil]; rw [u8i (by omega), u8i (by omega), u8i (by omega), u8i (by omega)]; simp) 4 _ rfl
    have e1 : ¬ ((n : Int) ≤ 127) := by omega
    have e2 : ¬ ((n : Int) ≤ 2047) := by omega
    have e3 : ¬ ((n : Int) ≤ 65535) := by omega
    simp only [List.map_cons, List.map_nil] at hc
    go_enter Tryz.func56, Tryz.ntmps56
    go_wp2
    go_ret
    exact ⟨rfl, (Below.refl _ _).alloc (Nat.le_refl _) _⟩
theorem bytes_hid (n : Nat) (T : ByteArray) (hT : T.data.toList = encN n) (hn : n ≤ 1114111) : Hid (∀ W, Calls Tryz.prog 56 #[.int .i64 n] W fun e w' => e = .returned (.string T) ∧ Below W.heap.size W w') := Lib.hid fun W => by
  rw [text_is hT]; exact bytes_any n hn W

theorem runeCells_eq {c : Nat} (h : isPt c) : Lib.runeCells (c : Int) = Lib.byteCells (encN c) := by
  rw [← encodeRune_eq h, Lib.byteCells_encodeRune]

set_option maxRecDepth 100000 in
set_option maxHeartbeats 1000000 in
/-- The text of a row of one code point. -/
theorem textOne_any (c : Nat) (hp : isPt c) (T : ByteArray) (hT : T.data.toList = encN c) (g : Nat) (w : World) (hc : w.cell? ⟨g, 0, none⟩ = some (.int .i64 (c : Int))) :
    Calls Tryz.prog 152 #[.slice (some ⟨g, 0, none⟩) 1 1] w fun e w' => e = .returned (.tuple #[.string T, .int .i64 0]) ∧ Below w.heap.size w w' := by
  obtain ⟨i0, hi, hz0, hz1, hz2⟩ := info_parts Tinfo5
  have C := isPoint_hid (c : Int) true ((ptB_iff c).2 hp)
  have hpt0 : c ≤ 1114111 := hp.1
  have HR := Lib.hid (runeCells_eq hp)
  have HT := Lib.hid hT
  clear hp hT
  go_enter Tryz.func152, Tryz.ntmps152
  go_wp2_with (at_make; refine wpList_make_own _ rfl _ _ 22 rfl w.heap.size 5 i0 (.int .u8 0) 1 Tryz.underlying22 hi hz0 hz1 .i64 .i64 _ 1 rfl rfl rfl (by rw [hz2]; omega) (by unfold maxLen; omega) (Nat.le_refl _) ?_; intro w0 hown0 hgrow0)
  have hbw0 : Below w.heap.size w w0 := Below.grown (Below.refl _ _) hgrow0 (Nat.le_refl _) (fun j hj => by cases hj)
  have hc0 : w0.cell? ⟨g, 0, none⟩ = some (.int .i64 (c : Int)) := by rw [hbw0.cell (lt_of_cell hc), hc]
  clear hc
  refine wp_loop_rounds 2 ?_
  rw [rounds_succ]
  go_wp2_with fail
  refine (C.out _).mono ?_
  rintro e w' ⟨rfl, rfl⟩
  go_wp2_with fail
  refine (Tryz.utf8_AppendRune_plain w.heap.size _ _ _ (c : Int) (by omega) (by omega) _ hown0 (by omega) (hbw0.size)).mono ?_
  rintro e w3 ⟨v', rfl, hown3, o3, hgrow3⟩
  have hbw3 : Below w.heap.size w w3 := Below.grown (hbw0.alloc hbw0.size _) hgrow3 (by have := hbw0.size; simp; omega) (fun j hj => (hown0.lt _ hj).1)
  rw [HR.out] at hown3
  have hconv := conv_row (l := encN c) hown3
  clear hown3 hgrow3
  go_wp2_with fail
  rw [rounds_succ]
  go_wp2
  go_ret2
  exact ⟨congrArg (fun x => Ending.returned (.tuple #[.string x, .int .i64 0])) (text_is HT.out).symm, hbw3⟩

set_option maxRecDepth 100000 in
set_option maxHeartbeats 1000000 in
/-- A number that is no code point has none. -/
theorem textNo_any (n : Int) (hp : ptB n = false) (g : Nat) (w : World) (hc : w.cell? ⟨g, 0, none⟩ = some (.int .i64 n)) :
    Calls Tryz.prog 152 #[.slice (some ⟨g, 0, none⟩) 1 1] w fun e w' => e = .returned (.tuple #[.string ⟨#[]⟩, .int .i64 1]) ∧ Below w.heap.size w w' := by
  obtain ⟨i0, hi, hz0, hz1, hz2⟩ := info_parts Tinfo5
  have C := isPoint_hid n false hp
  clear hp
  go_enter Tryz.func152, Tryz.ntmps152
  go_wp2_with (at_make; refine wpList_make_own _ rfl _ _ 22 rfl w.heap.size 5 i0 (.int .u8 0) 1 Tryz.underlying22 hi hz0 hz1 .i64 .i64 _ 1 rfl rfl rfl (by rw [hz2]; omega) (by unfold maxLen; omega) (Nat.le_refl _) ?_; intro w0 hown0 hgrow0)
  have hbw0 : Below w.heap.size w w0 := Below.grown (Below.refl _ _) hgrow0 (Nat.le_refl _) (fun j hj => by cases hj)
  have hc0 : w0.cell? ⟨g, 0, none⟩ = some (.int .i64 n) := by rw [hbw0.cell (lt_of_cell hc), hc]
  clear hc
  refine wp_loop_rounds 1 ?_
  rw [rounds_succ]
  go_wp2_with fail
  refine (C.out _).mono ?_
  rintro e w' ⟨rfl, rfl⟩
  go_wp2
  go_ret2
  exact ⟨rfl, hbw0⟩

set_option maxRecDepth 100000 in
/-- What point answers. -/
theorem pointT_any (n : Nat) (T : ByteArray) (hT : T.data.toList = if n = 0 ∨ ¬ isPt n then [] else encN n) (w : World) :
    Calls Tryz.prog 144 #[.int .i64 (n : Int)] w fun e w' => e = .returned (.string T) ∧ Below w.heap.size w w' := by
  by_cases h0 : n = 0
  · subst h0
    rw [if_pos (.inl rfl)] at hT
    obtain rfl : T = ⟨#[]⟩ := text_is hT
    go_enter Tryz.func144, Tryz.ntmps144
    go_wp2
    go_ret
    exact ⟨rfl, Below.refl _ _⟩
  have g : ((n : Int) == 0) = false := by rw [beq_eq_false_iff_ne]; omega
  by_cases hp : isPt n
  · rw [if_neg (by rintro (h | h); exact h0 h; exact h hp)] at hT
    have HT := Lib.hid hT
    have HP := Lib.hid hp
    clear hT hp h0
    go_enter Tryz.func144, Tryz.ntmps144
    go_wp2_with fail
    refine (textOne_any n HP.out T HT.out _ _ (by simp [World.cell?_alloc_mark])).mono ?_
    rintro e w' ⟨rfl, b1⟩
    go_wp2
    go_ret
    exact ⟨rfl, ((Below.refl _ _).alloc (Nat.le_refl _) _).trans (b1.mono (by simp))⟩
  · rw [if_pos (.inr hp)] at hT
    obtain rfl : T = ⟨#[]⟩ := text_is hT
    have HP : Hid (ptB (n : Int) = false) := Lib.hid (by rw [ptB_dec, decide_eq_false hp])
    clear hT hp h0
    go_enter Tryz.func144, Tryz.ntmps144
    go_wp2_with fail
    refine (textNo_any (n : Int) HP.out _ _ (by simp [World.cell?_alloc_mark])).mono ?_
    rintro e w' ⟨rfl, b1⟩
    go_wp2
    go_ret
    exact ⟨rfl, ((Below.refl _ _).alloc (Nat.le_refl _) _).trans (b1.mono (by simp))⟩
theorem pointT_hid (n : Nat) (T : ByteArray) (hT : T.data.toList = if n = 0 ∨ ¬ isPt n then [] else encN n) : Hid (∀ W, Calls Tryz.prog 144 #[.int .i64 (n : Int)] W fun e w' => e = .returned (.string T) ∧ Below W.heap.size W w') := Lib.hid fun W => pointT_any n T hT W

end Go.Proofs.YtfbhpmafjehojaaGreatDoor

namespace Go.Proofs.YtfbhpmafjehojaaGreatDoor
open Go.RowKit

/-- The project's own table: each name, what it stands for, whether it is written, one behind the other. -/
def SL : List Value := [.string ⟨#[97, 109, 112]⟩, .string ⟨#[38]⟩, .bool true, .string ⟨#[108, 116]⟩, .string ⟨#[60]⟩, .bool true, .string ⟨#[103, 116]⟩, .string ⟨#[62]⟩, .bool true, .string ⟨#[113, 117, 111, 116]⟩, .string ⟨#[34]⟩, .bool true, .string ⟨#[97, 112, 111, 115]⟩, .string ⟨#[39]⟩, .bool true, .string ⟨#[110, 98, 115, 112]⟩, .string ⟨#[194, 160]⟩, .bool false, .string ⟨#[99, 111, 108, 111, 110]⟩, .string ⟨#[58]⟩, .bool false, .string ⟨#[108, 112, 97, 114]⟩, .string ⟨#[40]⟩, .bool false, .string ⟨#[114, 112, 97, 114]⟩, .string ⟨#[41]⟩, .bool false, .string ⟨#[116, 97, 98]⟩, .string ⟨#[9]⟩, .bool false]
def SignsIn (w : World) : Prop := ∀ j, j < 30 → w.cell? ⟨3, j, none⟩ = SL[j]?
theorem SignsIn.below {w w' : World} (h : SignsIn w) (hb : Below w.heap.size w w') : SignsIn w' := fun j hj => by
  have e := h j hj
  have : ∃ v, SL[j]? = some v := ⟨_, List.getElem?_eq_getElem (show j < SL.length from hj)⟩
  obtain ⟨v, hv⟩ := this
  rw [hv] at e ⊢
  rw [hb.cell (lt_of_cell e)]; exact e
theorem SignsIn.range {w : World} (h : SignsIn w) : w.rangeAt 3 0 SL := fun j v hv => by
  obtain ⟨hj, _⟩ := List.getElem?_eq_some_iff.1 hv
  rw [Nat.zero_add, h j hj, hv]
theorem SignsIn.made {w : World} (h : SignsIn w) (x : Obj) : SignsIn (w.alloc x) := h.below ((Below.refl _ _).alloc (Nat.le_refl _) _)

theorem sidx0 {TA : Value} (h : TA = .agg SL.toArray) : ∀ w, (Instr.index 174 TA (.int .i64 0)).run Tryz.prog w = .ok (.agg #[.string ⟨#[97, 109, 112]⟩, .string ⟨#[38]⟩, .bool true]) w := by subst h; intro w; kernel_rfl
theorem sidx1 {TA : Value} (h : TA = .agg SL.toArray) : ∀ w, (Instr.index 174 TA (.int .i64 1)).run Tryz.prog w = .ok (.agg #[.string ⟨#[108, 116]⟩, .string ⟨#[60]⟩, .bool true]) w := by subst h; intro w; kernel_rfl
theorem sidx2 {TA : Value} (h : TA = .agg SL.toArray) : ∀ w, (Instr.index 174 TA (.int .i64 2)).run Tryz.prog w = .ok (.agg #[.string ⟨#[103, 116]⟩, .string ⟨#[62]⟩, .bool true]) w := by subst h; intro w; kernel_rfl
theorem sidx3 {TA : Value} (h : TA = .agg SL.toArray) : ∀ w, (Instr.index 174 TA (.int .i64 3)).run Tryz.prog w = .ok (.agg #[.string ⟨#[113, 117, 111, 116]⟩, .string ⟨#[34]⟩, .bool true]) w := by subst h; intro w; kernel_rfl
theorem sidx4 {TA : Value} (h : TA = .agg SL.toArray) : ∀ w, (Instr.index 174 TA (.int .i64 4)).run Tryz.prog w = .ok (.agg #[.string ⟨#[97, 112, 111, 115]⟩, .string ⟨#[39]⟩, .bool true]) w := by subst h; intro w; kernel_rfl
theorem sidx5 {TA : Value} (h : TA = .agg SL.toArray) : ∀ w, (Instr.index 174 TA (.int .i64 5)).run Tryz.prog w = .ok (.agg #[.string ⟨#[110, 98, 115, 112]⟩, .string ⟨#[194, 160]⟩, .bool false]) w := by subst h; intro w; kernel_rfl
theorem sidx6 {TA : Value} (h : TA = .agg SL.toArray) : ∀ w, (Instr.index 174 TA (.int .i64 6)).run Tryz.prog w = .ok (.agg #[.string ⟨#[99, 111, 108, 111, 110]⟩, .string ⟨#[58]⟩, .bool false]) w := by subst h; intro w; kernel_rfl
theorem sidx7 {TA : Value} (h : TA = .agg SL.toArray) : ∀ w, (Instr.index 174 TA (.int .i64 7)).run Tryz.prog w = .ok (.agg #[.string ⟨#[108, 112, 97, 114]⟩, .string ⟨#[40]⟩, .bool false]) w := by subst h; intro w; kernel_rfl
theorem sidx8 {TA : Value} (h : TA = .agg SL.toArray) : ∀ w, (Instr.index 174 TA (.int .i64 8)).run Tryz.prog w = .ok (.agg #[.string ⟨#[114, 112, 97, 114]⟩, .string ⟨#[41]⟩, .bool false]) w := by subst h; intro w; kernel_rfl
theorem sidx9 {TA : Value} (h : TA = .agg SL.toArray) : ∀ w, (Instr.index 174 TA (.int .i64 9)).run Tryz.prog w = .ok (.agg #[.string ⟨#[116, 97, 98]⟩, .string ⟨#[9]⟩, .bool false]) w := by subst h; intro w; kernel_rfl
theorem lit_text (s : ByteArray) (l : List UInt8) : (l == s.toList) = decide (s.data.toList = l) := by
  rw [← text_lit, Bool.eq_iff_iff]
  simp only [beq_iff_eq]
  exact ⟨fun h => h.symm, fun h => h.symm⟩
theorem ret_tb {S T : ByteArray} {a b : Bool} (h : S = T) (h2 : a = b) : Ending.returned (.tuple #[.string S, .bool a]) = .returned (.tuple #[.string T, .bool b]) := by rw [h, h2]

set_option maxRecDepth 100000 in
set_option maxHeartbeats 4000000 in
theorem nameP_any (s T : ByteArray) (hT : T.data.toList = nameM s.data.toList) (r : Bool) (hr : decide (nameM s.data.toList ≠ []) = r) (w : World) (hk : SignsIn w) :
    Calls Tryz.prog 142 #[.string s] w fun e w' => e = .returned (.tuple #[.string T, .bool r]) ∧ Below w.heap.size w w' := by
  have HG := Lib.hid hk.range
  clear hk
  have HT := Lib.hid hT
  have HR := Lib.hid hr
  clear hT hr
  go_enter Tryz.func142, Tryz.ntmps142
  go_wp2_with (refine wpList_load_mid (by rfl) 174 _ (by rfl) 3 0 (by rfl) SL _ HG.out Tryz.underlying174 (by rfl) (by kernel_rfl) ?_)
  generalize hTA : Value.agg SL.toArray = TA
  have HIX : Hid (TA = .agg SL.toArray) := Lib.hid hTA.symm
  clear hTA
  go_loopw [7] (fun i wr => ∃ j : Nat, j ≤ 10 ∧ i = .int .i64 j ∧ Hid (nameM s.data.toList = lookM (tabM.drop j) s.data.toList) ∧ Below w.heap.size w wr) (fun i _ => 10 - (intOf i).toNat)
  case atStart => exact ⟨0, by decide, rfl, Lib.hid rfl, Below.refl _ _⟩
  case round =>
    obtain ⟨j, hj, rfl, HN, hb⟩ := hrel
    obtain rfl | rfl | rfl | rfl | rfl | rfl | rfl | rfl | rfl | rfl | rfl : j = 0 ∨ j = 1 ∨ j = 2 ∨ j = 3 ∨ j = 4 ∨ j = 5 ∨ j = 6 ∨ j = 7 ∨ j = 8 ∨ j = 9 ∨ j = 10 := by omega
    · have ix := sidx0 HIX.out
      have g := lit_text s [97, 109, 112]
      have g2 := text_lit s [97, 109, 112]
      by_cases h : s.data.toList = [97, 109, 112]
      · rw [decide_eq_true h] at g g2
        have HV : Hid (nameM s.data.toList = [38]) := Lib.hid (by rw [HN.out, h]; rfl)
        have HS : Hid ((⟨#[38]⟩ : ByteArray) = T) := Lib.hid (by rw [text_is HT.out, HV.out])
        have HB : Hid (true = r) := Lib.hid (by rw [← HR.out, HV.out]; rfl)
        clear h HN
        go_wp2
        go_ret2
        exact ⟨ret_tb HS.out HB.out, hb.alloc hb.size _⟩
      · rw [decide_eq_false h] at g g2
        have HN2 : Hid (nameM s.data.toList = lookM (tabM.drop 1) s.data.toList) := Lib.hid (by
          rw [HN.out]
          exact if_neg (fun e => h e.symm))
        clear h HN
        go_wp2
        go_roundw
        case rel => exact ⟨1, by decide, rfl, HN2, hb.alloc hb.size _⟩
        case measure => decide
    · have ix := sidx1 HIX.out
      have g := lit_text s [108, 116]
      have g2 := text_lit s [108, 116]
      by_cases h : s.data.toList = [108, 116]
      · rw [decide_eq_true h] at g g2
        have HV : Hid (nameM s.data.toList = [60]) := Lib.hid (by rw [HN.out, h]; rfl)
        have HS : Hid ((⟨#[60]⟩ : ByteArray) = T) := Lib.hid (by rw [text_is HT.out, HV.out])
        have HB : Hid (true = r) := Lib.hid (by rw [← HR.out, HV.out]; rfl)
        clear h HN
        go_wp2
        go_ret2
        exact ⟨ret_tb HS.out HB.out, hb.alloc hb.size _⟩
      · rw [decide_eq_false h] at g g2
        have HN2 : Hid (nameM s.data.toList = lookM (tabM.drop 2) s.data.toList) := Lib.hid (by
          rw [HN.out]
          exact if_neg (fun e => h e.symm))
        clear h HN
        go_wp2
        go_roundw
        case rel => exact ⟨2, by decide, rfl, HN2, hb.alloc hb.size _⟩
        case measure => decide
    · have ix := sidx2 HIX.out
      have g := lit_text s [103, 116]
      have g2 := text_lit s [103, 116]
      by_cases h : s.data.toList = [103, 116]
      · rw [decide_eq_true h] at g g2
        have HV : Hid (nameM s.data.toList = [62]) := Lib.hid (by rw [HN.out, h]; rfl)
        have HS : Hid ((⟨#[62]⟩ : ByteArray) = T) := Lib.hid (by rw [text_is HT.out, HV.out])
        have HB : Hid (true = r) := Lib.hid (by rw [← HR.out, HV.out]; rfl)
        clear h HN
        go_wp2
        go_ret2
        exact ⟨ret_tb HS.out HB.out, hb.alloc hb.size _⟩
      · rw [decide_eq_false h] at g g2
        have HN2 : Hid (nameM s.data.toList = lookM (tabM.drop 3) s.data.toList) := Lib.hid (by
          rw [HN.out]
          exact if_neg (fun e => h e.symm))
        clear h HN
        go_wp2
        go_roundw
        case rel => exact ⟨3, by decide, rfl, HN2, hb.alloc hb.size _⟩
        case measure => decide
    · have ix := sidx3 HIX.out
      have g := lit_text s [113, 117, 111, 116]
      have g2 := text_lit s [113, 117, 111, 116]
      by_cases h : s.data.toList = [113, 117, 111, 116]
      · rw [decide_eq_true h] at g g2
        have HV : Hid (nameM s.data.toList = [34]) := Lib.hid (by rw [HN.out, h]; rfl)
        have HS : Hid ((⟨#[34]⟩ : ByteArray) = T) := Lib.hid (by rw [text_is HT.out, HV.out])
        have HB : Hid (true = r) := Lib.hid (by rw [← HR.out, HV.out]; rfl)
        clear h HN
        go_wp2
        go_ret2
        exact ⟨ret_tb HS.out HB.out, hb.alloc hb.size _⟩
      · rw [decide_eq_false h] at g g2
        have HN2 : Hid (nameM s.data.toList = lookM (tabM.drop 4) s.data.toList) := Lib.hid (by
          rw [HN.out]
          exact if_neg (fun e => h e.symm))
        clear h HN
        go_wp2
        go_roundw
        case rel => exact ⟨4, by decide, rfl, HN2, hb.alloc hb.size _⟩
        case measure => decide
    · have ix := sidx4 HIX.out
      have g := lit_text s [97, 112, 111, 115]
      have g2 := text_lit s [97, 112, 111, 115]
      by_cases h : s.data.toList = [97, 112, 111, 115]
      · rw [decide_eq_true h] at g g2
        have HV : Hid (nameM s.data.toList = [39]) := Lib.hid (by rw [HN.out, h]; rfl)
        have HS : Hid ((⟨#[39]⟩ : ByteArray) = T) := Lib.hid (by rw [text_is HT.out, HV.out])
        have HB : Hid (true = r) := Lib.hid (by rw [← HR.out, HV.out]; rfl)
        clear h HN
        go_wp2
        go_ret2
        exact ⟨ret_tb HS.out HB.out, hb.alloc hb.size _⟩
      · rw [decide_eq_false h] at g g2
        have HN2 : Hid (nameM s.data.toList = lookM (tabM.drop 5) s.data.toList) := Lib.hid (by
          rw [HN.out]
          exact if_neg (fun e => h e.symm))
        clear h HN
        go_wp2
        go_roundw
        case rel => exact ⟨5, by decide, rfl, HN2, hb.alloc hb.size _⟩
        case measure => decide
    · have ix := sidx5 HIX.out
      have g := lit_text s [110, 98, 115, 112]
      have g2 := text_lit s [110, 98, 115, 112]
      by_cases h : s.data.toList = [110, 98, 115, 112]
      · rw [decide_eq_true h] at g g2
        have HV : Hid (nameM s.data.toList = [194, 160]) := Lib.hid (by rw [HN.out, h]; rfl)
        have HS : Hid ((⟨#[194, 160]⟩ : ByteArray) = T) := Lib.hid (by rw [text_is HT.out, HV.out])
        have HB : Hid (true = r) := Lib.hid (by rw [← HR.out, HV.out]; rfl)
        clear h HN
        go_wp2
        go_ret2
        exact ⟨ret_tb HS.out HB.out, hb.alloc hb.size _⟩
      · rw [decide_eq_false h] at g g2
        have HN2 : Hid (nameM s.data.toList = lookM (tabM.drop 6) s.data.toList) := Lib.hid (by
          rw [HN.out]
          exact if_neg (fun e => h e.symm))
        clear h HN
        go_wp2
        go_roundw
        case rel => exact ⟨6, by decide, rfl, HN2, hb.alloc hb.size _⟩
        case measure => decide
    · have ix := sidx6 HIX.out
      have g := lit_text s [99, 111, 108, 111, 110]
      have g2 := text_lit s [99, 111, 108, 111, 110]
      by_cases h : s.data.toList = [99, 111, 108, 111, 110]
      · rw [decide_eq_true h] at g g2
        have HV : Hid (nameM s.data.toList = [58]) := Lib.hid (by rw [HN.out, h]; rfl)
        have HS : Hid ((⟨#[58]⟩ : ByteArray) = T) := Lib.hid (by rw [text_is HT.out, HV.out])
        have HB : Hid (true = r) := Lib.hid (by rw [← HR.out, HV.out]; rfl)
        clear h HN
        go_wp2
        go_ret2
        exact ⟨ret_tb HS.out HB.out, hb.alloc hb.size _⟩
      · rw [decide_eq_false h] at g g2
        have HN2 : Hid (nameM s.data.toList = lookM (tabM.drop 7) s.data.toList) := Lib.hid (by
          rw [HN.out]
          exact if_neg (fun e => h e.symm))
        clear h HN
        go_wp2
        go_roundw
        case rel => exact ⟨7, by decide, rfl, HN2, hb.alloc hb.size _⟩
        case measure => decide
    · have ix := sidx7 HIX.out
      have g := lit_text s [108, 112, 97, 114]
      have g2 := text_lit s [108, 112, 97, 114]
      by_cases h : s.data.toList = [108, 112, 97, 114]
      · rw [decide_eq_true h] at g g2
        have HV : Hid (nameM s.data.toList = [40]) := Lib.hid (by rw [HN.out, h]; rfl)
        have HS : Hid ((⟨#[40]⟩ : ByteArray) = T) := Lib.hid (by rw [text_is HT.out, HV.out])
        have HB : Hid (true = r) := Lib.hid (by rw [← HR.out, HV.out]; rfl)
        clear h HN
        go_wp2
        go_ret2
        exact ⟨ret_tb HS.out HB.out, hb.alloc hb.size _⟩
      · rw [decide_eq_false h] at g g2
        have HN2 : Hid (nameM s.data.toList = lookM (tabM.drop 8) s.data.toList) := Lib.hid (by
          rw [HN.out]
          exact if_neg (fun e => h e.symm))
        clear h HN
        go_wp2
        go_roundw
        case rel => exact ⟨8, by decide, rfl, HN2, hb.alloc hb.size _⟩
        case measure => decide
    · have ix := sidx8 HIX.out
      have g := lit_text s [114, 112, 97, 114]
      have g2 := text_lit s [114, 112, 97, 114]
      by_cases h : s.data.toList = [114, 112, 97, 114]
      · rw [decide_eq_true h] at g g2
        have HV : Hid (nameM s.data.toList = [41]) := Lib.hid (by rw [HN.out, h]; rfl)
        have HS : Hid ((⟨#[41]⟩ : ByteArray) = T) := Lib.hid (by rw [text_is HT.out, HV.out])
        have HB : Hid (true = r) := Lib.hid (by rw [← HR.out, HV.out]; rfl)
        clear h HN
        go_wp2
        go_ret2
        exact ⟨ret_tb HS.out HB.out, hb.alloc hb.size _⟩
      · rw [decide_eq_false h] at g g2
        have HN2 : Hid (nameM s.data.toList = lookM (tabM.drop 9) s.data.toList) := Lib.hid (by
          rw [HN.out]
          exact if_neg (fun e => h e.symm))
        clear h HN
        go_wp2
        go_roundw
        case rel => exact ⟨9, by decide, rfl, HN2, hb.alloc hb.size _⟩
        case measure => decide
    · have ix := sidx9 HIX.out
      have g := lit_text s [116, 97, 98]
      have g2 := text_lit s [116, 97, 98]
      by_cases h : s.data.toList = [116, 97, 98]
      · rw [decide_eq_true h] at g g2
        have HV : Hid (nameM s.data.toList = [9]) := Lib.hid (by rw [HN.out, h]; rfl)
        have HS : Hid ((⟨#[9]⟩ : ByteArray) = T) := Lib.hid (by rw [text_is HT.out, HV.out])
        have HB : Hid (true = r) := Lib.hid (by rw [← HR.out, HV.out]; rfl)
        clear h HN
        go_wp2
        go_ret2
        exact ⟨ret_tb HS.out HB.out, hb.alloc hb.size _⟩
      · rw [decide_eq_false h] at g g2
        have HN2 : Hid (nameM s.data.toList = lookM (tabM.drop 10) s.data.toList) := Lib.hid (by
          rw [HN.out]
          exact if_neg (fun e => h e.symm))
        clear h HN
        go_wp2
        go_roundw
        case rel => exact ⟨10, by decide, rfl, HN2, hb.alloc hb.size _⟩
        case measure => decide
    · have HV : Hid (nameM s.data.toList = []) := Lib.hid (by rw [HN.out]; rfl)
      have HS : Hid ((⟨#[]⟩ : ByteArray) = T) := Lib.hid (by rw [text_is HT.out, HV.out])
      have HB : Hid (false = r) := Lib.hid (by rw [← HR.out, HV.out]; rfl)
      clear HN
      go_wp2
      go_ret2
      exact ⟨ret_tb HS.out HB.out, hb⟩
theorem nameP_hid (s T : ByteArray) (hT : T.data.toList = nameM s.data.toList) (r : Bool) (hr : decide (nameM s.data.toList ≠ []) = r) : Hid (∀ W, SignsIn W → Calls Tryz.prog 142 #[.string s] W fun e w' => e = .returned (.tuple #[.string T, .bool r]) ∧ Below W.heap.size W w') := Lib.hid fun W hk => nameP_any s T hT r hr W hk

set_option maxRecDepth 100000 in
set_option maxHeartbeats 4000000 in
theorem refName_any (s T : ByteArray) (hT : T.data.toList = nameM s.data.toList) (r : Bool) (hr : decide (nameM s.data.toList ≠ []) = r) (w : World) :
    Calls Tryz.prog 130 #[.string s] w fun e w' => e = .returned (.tuple #[.string T, .bool r]) ∧ Below w.heap.size w w' := by
  obtain ⟨NB, hNB⟩ := text_of (encN 160)
  have CB := bytes_hid 160 NB hNB (by omega)
  have HNB : Hid (NB.data.toList = [194, 160]) := Lib.hid (by rw [hNB]; decide)
  clear hNB
  have HT := Lib.hid hT
  have HR := Lib.hid hr
  clear hT hr
  have g0 := text_lit s [97, 109, 112]
  by_cases h0 : s.data.toList = [97, 109, 112]
  · rw [decide_eq_true h0] at g0
    have HV : Hid (nameM s.data.toList = [38]) := Lib.hid (by rw [h0]; rfl)
    have HS : Hid ((⟨#[38]⟩ : ByteArray) = T) := Lib.hid (by rw [text_is HT.out, HV.out])
    have HB : Hid (true = r) := Lib.hid (by rw [← HR.out, HV.out]; rfl)
    clear h0
    go_enter Tryz.func130, Tryz.ntmps130
    go_wp2
    go_ret2
    exact ⟨ret_tb HS.out HB.out, Below.refl _ _⟩
  rw [decide_eq_false h0] at g0
  have g1 := text_lit s [108, 116]
  by_cases h1 : s.data.toList = [108, 116]
  · rw [decide_eq_true h1] at g1
    have HV : Hid (nameM s.data.toList = [60]) := Lib.hid (by rw [h1]; rfl)
    have HS : Hid ((⟨#[60]⟩ : ByteArray) = T) := Lib.hid (by rw [text_is HT.out, HV.out])
    have HB : Hid (true = r) := Lib.hid (by rw [← HR.out, HV.out]; rfl)
    clear h1
    go_enter Tryz.func130, Tryz.ntmps130
    go_wp2
    go_ret2
    exact ⟨ret_tb HS.out HB.out, Below.refl _ _⟩
  rw [decide_eq_false h1] at g1
  have g2 := text_lit s [103, 116]
  by_cases h2 : s.data.toList = [103, 116]
  · rw [decide_eq_true h2] at g2
    have HV : Hid (nameM s.data.toList = [62]) := Lib.hid (by rw [h2]; rfl)
    have HS : Hid ((⟨#[62]⟩ : ByteArray) = T) := Lib.hid (by rw [text_is HT.out, HV.out])
    have HB : Hid (true = r) := Lib.hid (by rw [← HR.out, HV.out]; rfl)
    clear h2
    go_enter Tryz.func130, Tryz.ntmps130
    go_wp2
    go_ret2
    exact ⟨ret_tb HS.out HB.out, Below.refl _ _⟩
  rw [decide_eq_false h2] at g2
  have g3 := text_lit s [113, 117, 111, 116]
  by_cases h3 : s.data.toList = [113, 117, 111, 116]
  · rw [decide_eq_true h3] at g3
    have HV : Hid (nameM s.data.toList = [34]) := Lib.hid (by rw [h3]; rfl)
    have HS : Hid ((⟨#[34]⟩ : ByteArray) = T) := Lib.hid (by rw [text_is HT.out, HV.out])
    have HB : Hid (true = r) := Lib.hid (by rw [← HR.out, HV.out]; rfl)
    clear h3
    go_enter Tryz.func130, Tryz.ntmps130
    go_wp2
    go_ret2
    exact ⟨ret_tb HS.out HB.out, Below.refl _ _⟩
  rw [decide_eq_false h3] at g3
  have g4 := text_lit s [97, 112, 111, 115]
  by_cases h4 : s.data.toList = [97, 112, 111, 115]
  · rw [decide_eq_true h4] at g4
    have HV : Hid (nameM s.data.toList = [39]) := Lib.hid (by rw [h4]; rfl)
    have HS : Hid ((⟨#[39]⟩ : ByteArray) = T) := Lib.hid (by rw [text_is HT.out, HV.out])
    have HB : Hid (true = r) := Lib.hid (by rw [← HR.out, HV.out]; rfl)
    clear h4
    go_enter Tryz.func130, Tryz.ntmps130
    go_wp2
    go_ret2
    exact ⟨ret_tb HS.out HB.out, Below.refl _ _⟩
  rw [decide_eq_false h4] at g4
  have g5 := text_lit s [110, 98, 115, 112]
  by_cases h5 : s.data.toList = [110, 98, 115, 112]
  · rw [decide_eq_true h5] at g5
    have HV : Hid (nameM s.data.toList = [194, 160]) := Lib.hid (by rw [h5]; rfl)
    have HS : Hid (NB = T) := Lib.hid (by rw [text_is HT.out, text_is HNB.out, HV.out])
    have HB : Hid (true = r) := Lib.hid (by rw [← HR.out, HV.out]; rfl)
    clear h5
    go_enter Tryz.func130, Tryz.ntmps130
    go_wp2_with fail
    refine (CB.out _).mono ?_
    rintro e w' ⟨rfl, b1⟩
    go_wp2
    go_ret2
    exact ⟨ret_tb HS.out HB.out, b1⟩
  rw [decide_eq_false h5] at g5
  have g6 := text_lit s [99, 111, 108, 111, 110]
  by_cases h6 : s.data.toList = [99, 111, 108, 111, 110]
  · rw [decide_eq_true h6] at g6
    have HV : Hid (nameM s.data.toList = [58]) := Lib.hid (by rw [h6]; rfl)
    have HS : Hid ((⟨#[58]⟩ : ByteArray) = T) := Lib.hid (by rw [text_is HT.out, HV.out])
    have HB : Hid (true = r) := Lib.hid (by rw [← HR.out, HV.out]; rfl)
    clear h6
    go_enter Tryz.func130, Tryz.ntmps130
    go_wp2
    go_ret2
    exact ⟨ret_tb HS.out HB.out, Below.refl _ _⟩
  rw [decide_eq_false h6] at g6
  have g7 := text_lit s [108, 112, 97, 114]
  by_cases h7 : s.data.toList = [108, 112, 97, 114]
  · rw [decide_eq_true h7] at g7
    have HV : Hid (nameM s.data.toList = [40]) := Lib.hid (by rw [h7]; rfl)
    have HS : Hid ((⟨#[40]⟩ : ByteArray) = T) := Lib.hid (by rw [text_is HT.out, HV.out])
    have HB : Hid (true = r) := Lib.hid (by rw [← HR.out, HV.out]; rfl)
    clear h7
    go_enter Tryz.func130, Tryz.ntmps130
    go_wp2
    go_ret2
    exact ⟨ret_tb HS.out HB.out, Below.refl _ _⟩
  rw [decide_eq_false h7] at g7
  have g8 := text_lit s [114, 112, 97, 114]
  by_cases h8 : s.data.toList = [114, 112, 97, 114]
  · rw [decide_eq_true h8] at g8
    have HV : Hid (nameM s.data.toList = [41]) := Lib.hid (by rw [h8]; rfl)
    have HS : Hid ((⟨#[41]⟩ : ByteArray) = T) := Lib.hid (by rw [text_is HT.out, HV.out])
    have HB : Hid (true = r) := Lib.hid (by rw [← HR.out, HV.out]; rfl)
    clear h8
    go_enter Tryz.func130, Tryz.ntmps130
    go_wp2
    go_ret2
    exact ⟨ret_tb HS.out HB.out, Below.refl _ _⟩
  rw [decide_eq_false h8] at g8
  have g9 := text_lit s [116, 97, 98]
  by_cases h9 : s.data.toList = [116, 97, 98]
  · rw [decide_eq_true h9] at g9
    have HV : Hid (nameM s.data.toList = [9]) := Lib.hid (by rw [h9]; rfl)
    have HS : Hid ((⟨#[9]⟩ : ByteArray) = T) := Lib.hid (by rw [text_is HT.out, HV.out])
    have HB : Hid (true = r) := Lib.hid (by rw [← HR.out, HV.out]; rfl)
    clear h9
    go_enter Tryz.func130, Tryz.ntmps130
    go_wp2
    go_ret2
    exact ⟨ret_tb HS.out HB.out, Below.refl _ _⟩
  rw [decide_eq_false h9] at g9
  have HV : Hid (nameM s.data.toList = []) := Lib.hid (by
    unfold nameM tabM lookM
    simp only [lookM]
    rw [if_neg (fun e => h0 e.symm), if_neg (fun e => h1 e.symm), if_neg (fun e => h2 e.symm), if_neg (fun e => h3 e.symm), if_neg (fun e => h4 e.symm), if_neg (fun e => h5 e.symm), if_neg (fun e => h6 e.symm), if_neg (fun e => h7 e.symm), if_neg (fun e => h8 e.symm), if_neg (fun e => h9 e.symm)])
  have HS : Hid ((⟨#[]⟩ : ByteArray) = T) := Lib.hid (by rw [text_is HT.out, HV.out])
  have HB : Hid (false = r) := Lib.hid (by rw [← HR.out, HV.out]; rfl)
  clear h0 h1 h2 h3 h4 h5 h6 h7 h8 h9
  go_enter Tryz.func130, Tryz.ntmps130
  go_wp2
  go_ret2
  exact ⟨ret_tb HS.out HB.out, Below.refl _ _⟩
theorem refName_hid (s T : ByteArray) (hT : T.data.toList = nameM s.data.toList) (r : Bool) (hr : decide (nameM s.data.toList ≠ []) = r) : Hid (∀ W, Calls Tryz.prog 130 #[.string s] W fun e w' => e = .returned (.tuple #[.string T, .bool r]) ∧ Below W.heap.size W w') := Lib.hid fun W => refName_any s T hT r hr W

end Go.Proofs.YtfbhpmafjehojaaGreatDoor
