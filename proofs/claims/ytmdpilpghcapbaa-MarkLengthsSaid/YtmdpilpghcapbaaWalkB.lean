/- The Maker: what it keeps; New, reckoned, Count, Mark, Add. -/
import Derived.Test.YtmdpilpghcapbaaWalkA
namespace Go.Proofs.Ytmdpilpghcapbaa
open Go.RowKit

theorem lt_of_cell {w : World} {a : Addr} {v : Value} (hc : w.cell? a = some v) : a.block < w.heap.size := by
  rcases Nat.lt_or_ge a.block w.heap.size with h' | h'
  · exact h'
  · simp [World.cell?, Array.getElem?_eq_none h'] at hc
theorem lt_of_block {w : World} {g : Nat} {o : Obj} (h : w.heap[g]? = some o) : g < w.heap.size := by
  rcases Nat.lt_or_ge g w.heap.size with h' | h'
  · exact h'
  · simp [Array.getElem?_eq_none h'] at h
theorem cell_of {w : World} {b : Nat} {c : Array Value} {t : TypeId} {fr : Nat × Nat} (h : w.heap[b]? = some (.cells c t fr)) (j : Nat) : w.cell? ⟨b, j, none⟩ = c[j]? := by
  simp [World.cell?, h]
theorem open_of {w : World} {b : Nat} {c : Array Value} {t : TypeId} (h : w.heap[b]? = some (.cells c t (0, 0))) (j : Nat) : w.frozen? ⟨b, j, none⟩ = false := by
  simp [World.frozen?, h]

/-- A fact that the walk is not to look into. -/
structure Aside (p : Prop) : Prop where
  out : p
/-- A Maker at block R to which l was added. -/
def MkAt (w : World) (R : Nat) (l : List UInt8) : Prop := ∃ a b : Nat, w.heap[R]? = some (.cells #[.int .u64 (a : Int), .int .u64 (b : Int), .int .i64 (l.length : Int)] 44 (0, 0)) ∧ (l ≠ [] → a = rx l ∧ b = ry l)
theorem MkAt.lt {w : World} {R : Nat} {l : List UInt8} (h : MkAt w R l) : R < w.heap.size := by
  obtain ⟨a, b, h, _⟩ := h
  exact lt_of_block h
theorem MkAt.below {w w' : World} {R : Nat} {l : List UInt8} (h : MkAt w R l) (hb : Below w.heap.size w w') : MkAt w' R l := by
  have hl := h.lt
  obtain ⟨a, b, h, h2⟩ := h
  exact ⟨a, b, by rw [hb.block R hl]; exact h, h2⟩

theorem new_block (w : World) (o : Obj) : (w.alloc o).heap[w.heap.size]? = some o := by
  show (w.heap.push o)[w.heap.size]? = some o
  simp

set_option maxRecDepth 100000 in
theorem new_any (w : World) : Calls Try.prog 16 #[] w fun e w' => e = .returned (.pointer (some ⟨w.heap.size, 0, none⟩)) ∧ MkAt w' w.heap.size [] ∧ Below w.heap.size w w' := by
  go_enter Try.func16, Try.ntmps16
  go_wp2
  go_ret
  exact ⟨rfl, ⟨0, 0, new_block _ _, fun h => absurd rfl h⟩, (Below.refl _ _).alloc (Nat.le_refl _) _⟩

set_option maxRecDepth 100000 in
theorem reckoned_any (R : Nat) (l : List UInt8) (w : World) (hR : MkAt w R l) : Calls Try.prog 21 #[.pointer (some ⟨R, 0, none⟩)] w fun e w' => e = .returned (.agg #[.int .u64 (rx l : Nat), .int .u64 (ry l : Nat)]) ∧ Below w.heap.size w w' := by
  have hlt := hR.lt
  obtain ⟨a, b, hc, hab⟩ := hR
  have c0 := cell_of hc 0
  have c1 := cell_of hc 1
  have c2 := cell_of hc 2
  simp only [List.getElem?_toArray, List.getElem?_cons_zero, List.getElem?_cons_succ] at c0 c1 c2
  have hne : R ≠ w.heap.size := by omega
  by_cases hl : l = []
  · subst hl
    clear hab hc
    go_enter Try.func21, Try.ntmps21
    go_wp2
    exact bodyPost_ret (v := .agg #[.int .u64 7, .int .u64 11]) (by simp [results, Try.results21, go_sem]) rfl ⟨rfl, (Below.refl _ _).alloc (Nat.le_refl _) _⟩
  · obtain ⟨rfl, rfl⟩ := hab hl
    have hz : ((l.length : Int) == 0) = false := by simpa using hl
    clear hab hc hl
    go_enter Try.func21, Try.ntmps21
    go_wp2
    exact bodyPost_ret (v := .agg #[.int .u64 (rx l : Nat), .int .u64 (ry l : Nat)]) (by simp [results, Try.results21, go_sem]) rfl ⟨rfl, (Below.refl _ _).alloc (Nat.le_refl _) _⟩

set_option maxRecDepth 100000 in
theorem count_any (R : Nat) (l : List UInt8) (w : World) (hR : MkAt w R l) : Calls Try.prog 18 #[.pointer (some ⟨R, 0, none⟩)] w fun e w' => e = .returned (.int .i64 (l.length : Int)) ∧ w = w' := by
  obtain ⟨a, b, hc, _⟩ := hR
  have c2 := cell_of hc 2
  simp only [List.getElem?_toArray, List.getElem?_cons_zero, List.getElem?_cons_succ] at c2
  clear hc
  go_enter Try.func18, Try.ntmps18
  go_wp2
  go_ret
  exact ⟨rfl, rfl⟩

set_option maxRecDepth 100000 in
theorem count_nil (w : World) : Calls Try.prog 18 #[.pointer none] w fun e w' => e = .returned (.int .i64 0) ∧ w = w' := by
  go_enter Try.func18, Try.ntmps18
  go_wp2
  go_ret
  exact ⟨rfl, rfl⟩
set_option maxRecDepth 100000 in
theorem mark_nil (w : World) : Calls Try.prog 17 #[.pointer none] w fun e w' => e = .returned (.string ⟨#[]⟩) ∧ w = w' := by
  go_enter Try.func17, Try.ntmps17
  go_wp2
  go_ret
  exact ⟨rfl, rfl⟩
set_option maxRecDepth 100000 in
theorem add_nil (s : ByteArray) (w : World) : Calls Try.prog 19 #[.pointer none, .string s] w fun e w' => e = .returned (.int .i64 3) ∧ w = w' := by
  go_enter Try.func19, Try.ntmps19
  go_wp2
  go_ret
  exact ⟨rfl, rfl⟩

theorem belowN {B : Nat} {a w : World} (h : Below B a w) (n : Nat) : Below B a (w.drewN n) := h.trans ⟨rfl, rfl, rfl, Nat.le_refl _, fun _ _ => rfl⟩
theorem Tinfo5 : (Try.prog.info? 5).map (fun i => (i.zero, i.size, i.bytes)) = some (some (.int .u8 0), 1, 1) := by kernel_rfl
/-- The first k of a mark's four numbers, four bytes each. -/
def rowOf (x y n k : Nat) : List UInt8 := (([x, y, x * y % 1000000007, n % 1000000007].take k).map four).flatten

theorem idx0 (a b c d : Int) (w : World) : (Instr.index 47 (.agg #[.int .u64 a, .int .u64 b, .int .u64 c, .int .u64 d]) (.int .i64 0)).run Try.prog w = .ok (.int .u64 a) w := by kernel_rfl
theorem idx1 (a b c d : Int) (w : World) : (Instr.index 47 (.agg #[.int .u64 a, .int .u64 b, .int .u64 c, .int .u64 d]) (.int .i64 1)).run Try.prog w = .ok (.int .u64 b) w := by kernel_rfl
theorem idx2 (a b c d : Int) (w : World) : (Instr.index 47 (.agg #[.int .u64 a, .int .u64 b, .int .u64 c, .int .u64 d]) (.int .i64 2)).run Try.prog w = .ok (.int .u64 c) w := by kernel_rfl
theorem idx3 (a b c d : Int) (w : World) : (Instr.index 47 (.agg #[.int .u64 a, .int .u64 b, .int .u64 c, .int .u64 d]) (.int .i64 3)).run Try.prog w = .ok (.int .u64 d) w := by kernel_rfl
theorem rowForms {w : World} {base size n : Nat} {e : TypeId} {v : Value} {xs : List Value} (h : w.ownsRow base e size v n xs) : (v = .slice none 0 0 ∧ n = 0) ∨ ∃ g cap, v = .slice (some ⟨g, 0, none⟩) n cap := by
  rcases h.2 with h2 | ⟨g, cap, cur, a, _⟩
  · exact .inl h2
  · exact .inr ⟨g, cap, a⟩
theorem conv_row {w : World} {base : Nat} {v : Value} {n : Nat} {l : List UInt8} (h : w.ownsRow base 5 1 v n (Lib.byteCells l)) :
    (convert 46 9 v).run Try.prog w = .ok (.string ⟨l.toArray⟩) w := by
  have hl : l.length = n := by have := h.1; simpa [Lib.byteCells_length] using this
  rcases rowForms h with ⟨rfl, h2⟩ | ⟨g, cap, rfl⟩
  · have e : l = [] := List.length_eq_zero_iff.1 (by omega)
    rw [e]
    exact run_convert_bytes_nil (P := Try.prog) w 46 5 Try.underlying46 Try.underlying5 0 0 9 Try.underlying9
  · subst hl
    refine run_convert_bytes_back (P := Try.prog) w 46 9 5 ⟨g, 0, none⟩ cap l Try.underlying46 Try.underlying5 Try.underlying9 (fun j hj => ?_)
    have e : (⟨g, 0, none⟩ : Addr).add j = ⟨g, j, none⟩ := by simp [Addr.add]; omega
    rw [e, h.cellAt j (by omega)]
    simp [Lib.byteCells, List.getElem?_eq_getElem hj]
theorem rowOf_succ (x y n k z : Nat) (h : [x, y, x * y % 1000000007, n % 1000000007][k]? = some z) : rowOf x y n (k + 1) = rowOf x y n k ++ four z := by
  unfold rowOf
  rw [List.take_add_one, h]
  simp
theorem byteCells_append (a b : List UInt8) : Lib.byteCells (a ++ b) = Lib.byteCells a ++ Lib.byteCells b := by simp [Lib.byteCells]
theorem byteCells_four (n : Nat) (hn : n ≤ 1000000006) (z : Int) (hz : (n : Int) = z) : Lib.byteCells (four n) = [.int .u8 (z / 16777216), .int .u8 (z / 65536 % 256), .int .u8 (z / 256 % 256), .int .u8 (z % 256)] := by
  subst hz
  have h := congrArg (List.map (Value.int .u8)) (four_ints n hn)
  rw [List.map_map] at h
  exact h
theorem row_step {x y n z : Nat} (k : Nat) (hz : z ≤ 1000000006) (h : [x, y, x * y % 1000000007, n % 1000000007][k]? = some z) {zi : Int} (hzi : (z : Int) = zi) {W : World} {b : Nat} {v : Value}
    (ho : W.ownsRow b 5 1 v (4 * k + 4) (Lib.byteCells (rowOf x y n k) ++ [.int .u8 (zi / 16777216), .int .u8 (zi / 65536 % 256), .int .u8 (zi / 256 % 256), .int .u8 (zi % 256)])) : W.ownsRow b 5 1 v (4 * (k + 1)) (Lib.byteCells (rowOf x y n (k + 1))) := by
  rw [rowOf_succ x y n k z h, byteCells_append, byteCells_four z hz zi hzi]
  exact ho
theorem four_new (w : World) (a b c d : Value) (j : Nat) (u : Value) (h : [a, b, c, d][j]? = some u) : (w.alloc (.cells #[a, b, c, d] 5)).cell? ((⟨w.heap.size, 0, none⟩ : Addr).add j) = some u := by
  have e : (⟨w.heap.size, 0, none⟩ : Addr).add j = ⟨w.heap.size, j, none⟩ := by simp [Addr.add]; omega
  rw [e, World.cell?_alloc_mark, ← h]
  simp
theorem rec_hid (R : Nat) (l : List UInt8) : Hid (∀ W, MkAt W R l → Calls Try.prog 21 #[.pointer (some ⟨R, 0, none⟩)] W fun e w' => e = .returned (.agg #[.int .u64 (rx l : Nat), .int .u64 (ry l : Nat)]) ∧ Below W.heap.size W w') :=
  Lib.hid fun W h => reckoned_any R l W h

set_option maxRecDepth 100000 in
set_option maxHeartbeats 1000000 in
theorem mark_any (R : Nat) (l : List UInt8) (w : World) (hR : MkAt w R l) (hl : l.length ≤ 1099511627776) : Calls Try.prog 17 #[.pointer (some ⟨R, 0, none⟩)] w fun e w' => e = .returned (.string ⟨(markL l).toArray⟩) ∧ Below w.heap.size w w' := by
  have hlt := hR.lt
  have hx := rx_lt l
  have hy := ry_lt l
  have HR := Lib.hid hR
  have H1 := rec_hid R l
  clear hR
  generalize hX : rx l = x at *
  generalize hY : ry l = y at *
  have HX := Lib.hid hX
  have HY := Lib.hid hY
  clear hX hY
  go_enter Try.func17, Try.ntmps17
  go_wp2_with fail
  refine (H1.out _ HR.out).mono ?_
  rintro e w1 ⟨rfl, B1⟩
  have hc2 : w1.cell? ⟨R, 2, none⟩ = some (.int .i64 (l.length : Int)) := by
    obtain ⟨a, b, hc, _⟩ := HR.out.below B1
    exact cell_of hc 2
  have hlt1 : R < w1.heap.size := by have := B1.size; omega
  have hm := mul_lt x y hx hy
  have hmz : (x : Int) * (y : Int) ≤ 1000000012000000036 := by rw [← Int.natCast_mul]; omega
  have hmz0 : 0 ≤ (x : Int) * (y : Int) := by rw [← Int.natCast_mul]; omega
  have hne1 : R ≠ w1.heap.size := by omega
  have hne2 : R ≠ w1.heap.size + 1 := by omega
  go_wp2
  go_quiet (fail)
  have hc3 : ((w1.alloc (.cells #[.int .u64 (x : Int), .int .u64 (y : Int)] 42)).drewN nq).cell? ⟨R, 2, none⟩ = some (.int .i64 (l.length : Int)) := by
    show (w1.alloc (.cells #[.int .u64 (x : Int), .int .u64 (y : Int)] 42)).cell? ⟨R, 2, none⟩ = _
    rw [World.cell?_alloc_lt _ _ _ hlt1]; exact hc2
  have B2 : Below w.heap.size w ((w1.alloc (.cells #[.int .u64 (x : Int), .int .u64 (y : Int)] 42)).drewN nq) := belowN (B1.alloc B1.size _) nq
  generalize (w1.alloc (.cells #[.int .u64 (x : Int), .int .u64 (y : Int)] 42)).drewN nq = w2 at *
  obtain ⟨i0, hi, hz0, hz1, hz2⟩ := info_parts Tinfo5
  obtain ⟨W3, hmk, hown, hgr⟩ := run_make_own (P := Try.prog) w2 w.heap.size 46 5 i0 _ 1 Try.underlying46 hi hz0 hz1 .i64 .i64 16 (by rw [hz2]; decide) (by unfold maxLen; decide) B2.size
  have hmk2 : (Instr.makeSlice 46 (.int .i64 0) (.int .i64 16)).run Try.prog w2 = .ok (.slice (some ⟨w2.heap.size, 0, none⟩) 0 16) W3 := hmk
  have B3 : Below w.heap.size w W3 := B2.grown hgr B2.size (fun k hk => by cases hk)
  have hc4 : W3.cell? ⟨R, 2, none⟩ = some (.int .i64 (l.length : Int)) := by
    rw [(Below.grown (Below.refl w2.heap.size w2) hgr (Nat.le_refl _) (fun k hk => by cases hk)).cell (lt_of_cell hc3)]; exact hc3
  generalize hv : (Value.slice (some ⟨w2.heap.size, 0, none⟩) 0 16) = v0 at hmk2 hown
  have HV := Lib.hid hv
  clear hmk hc3 hc2 B2 B1 hgr hv hlt hlt1 hne1 hne2
  go_wp2
  go_loopw [6, 31] (fun v i wr => ∃ k : Nat, k ≤ 4 ∧ i = .int .i64 k ∧ wr.ownsRow w.heap.size 5 1 v (4 * k) (Lib.byteCells (rowOf x y l.length k)) ∧ Below w.heap.size w wr) (fun _ i _ => 4 - (intOf i).toNat)
  case atStart => exact ⟨0, by decide, rfl, hown, B3⟩
  case round =>
    obtain ⟨k, hk, rfl, hown, hb⟩ := hrel
    have hend := conv_row (w := wr) (base := w.heap.size) (v := u6) (n := 16) (l := rowOf x y l.length 4)
    have HEND := Lib.hid hend
    clear hend
    obtain rfl | rfl | rfl | rfl | rfl : k = 0 ∨ k = 1 ∨ k = 2 ∨ k = 3 ∨ k = 4 := by omega
    · have ix := fun c d => idx0 x y c d
      have HA : Hid (∀ (v' : Value) (W : World), W.ownsRow w.heap.size 5 1 v' (4 * 0 + 4) (Lib.byteCells (rowOf x y l.length 0) ++ [.int .u8 ((x : Int) / 16777216), .int .u8 ((x : Int) / 65536 % 256), .int .u8 ((x : Int) / 256 % 256), .int .u8 ((x : Int) % 256)]) → W.ownsRow w.heap.size 5 1 v' (4 * 1) (Lib.byteCells (rowOf x y l.length 1))) := Lib.hid fun v' W h => row_step (z := x) 0 (by exact hx) rfl rfl h
      clear HEND
      go_wp2_with (at_builtin; refine wpList_append_own _ rfl _ _ 46 rfl w.heap.size 5 i0 (.int .u8 0) 1 1 Try.underlying46 hi hz0 hz1 hz2 rfl (by decide) _ _ _ rfl (hown.alloc _) ⟨wr.heap.size, 0, none⟩ 4 4 [.int .u8 ((x : Int) / 16777216), .int .u8 ((x : Int) / 65536 % 256), .int .u8 ((x : Int) / 256 % 256), .int .u8 ((x : Int) % 256)] rfl rfl (fun j u hj => four_new _ _ _ _ _ j u hj) (fun u hu => by simp at hu; rcases hu with rfl | rfl | rfl | rfl <;> rfl) (by unfold maxLen; omega) (by omega) (by have := hb.size; simp; omega) ?_; intro v' w5 hown' hgrow5 hnil5
                   have hb5 : Below w.heap.size w w5 := Below.grown (hb.alloc hb.size _) hgrow5 (by have := hb.size; simp; omega) (fun j hj => by have := (hown.lt _ hj).1; omega)
                   have X : Aside (w5.ownsRow w.heap.size 5 1 v' (4 * 0 + 4) (Lib.byteCells (rowOf x y l.length 0) ++ [.int .u8 ((x : Int) / 16777216), .int .u8 ((x : Int) / 65536 % 256), .int .u8 ((x : Int) / 256 % 256), .int .u8 ((x : Int) % 256)]) ∧ Below w.heap.size w w5) := ⟨hown', hb5⟩
                   clear hown' hgrow5 hnil5)
      go_roundw
      case rel => exact ⟨1, by decide, rfl, HA.out _ _ X.out.1, X.out.2⟩
      case measure => decide
    · have ix := fun c d => idx1 x y c d
      have HA : Hid (∀ (v' : Value) (W : World), W.ownsRow w.heap.size 5 1 v' (4 * 1 + 4) (Lib.byteCells (rowOf x y l.length 1) ++ [.int .u8 ((y : Int) / 16777216), .int .u8 ((y : Int) / 65536 % 256), .int .u8 ((y : Int) / 256 % 256), .int .u8 ((y : Int) % 256)]) → W.ownsRow w.heap.size 5 1 v' (4 * 2) (Lib.byteCells (rowOf x y l.length 2))) := Lib.hid fun v' W h => row_step (z := y) 1 (by exact hy) rfl rfl h
      clear HEND
      go_wp2_with (at_builtin; refine wpList_append_own _ rfl _ _ 46 rfl w.heap.size 5 i0 (.int .u8 0) 1 1 Try.underlying46 hi hz0 hz1 hz2 rfl (by decide) _ _ _ rfl (hown.alloc _) ⟨wr.heap.size, 0, none⟩ 4 4 [.int .u8 ((y : Int) / 16777216), .int .u8 ((y : Int) / 65536 % 256), .int .u8 ((y : Int) / 256 % 256), .int .u8 ((y : Int) % 256)] rfl rfl (fun j u hj => four_new _ _ _ _ _ j u hj) (fun u hu => by simp at hu; rcases hu with rfl | rfl | rfl | rfl <;> rfl) (by unfold maxLen; omega) (by omega) (by have := hb.size; simp; omega) ?_; intro v' w5 hown' hgrow5 hnil5
                   have hb5 : Below w.heap.size w w5 := Below.grown (hb.alloc hb.size _) hgrow5 (by have := hb.size; simp; omega) (fun j hj => by have := (hown.lt _ hj).1; omega)
                   have X : Aside (w5.ownsRow w.heap.size 5 1 v' (4 * 1 + 4) (Lib.byteCells (rowOf x y l.length 1) ++ [.int .u8 ((y : Int) / 16777216), .int .u8 ((y : Int) / 65536 % 256), .int .u8 ((y : Int) / 256 % 256), .int .u8 ((y : Int) % 256)]) ∧ Below w.heap.size w w5) := ⟨hown', hb5⟩
                   clear hown' hgrow5 hnil5)
      go_roundw
      case rel => exact ⟨2, by decide, rfl, HA.out _ _ X.out.1, X.out.2⟩
      case measure => decide
    · have ix := fun c d => idx2 x y c d
      have HA : Hid (∀ (v' : Value) (W : World), W.ownsRow w.heap.size 5 1 v' (4 * 2 + 4) (Lib.byteCells (rowOf x y l.length 2) ++ [.int .u8 (((x : Int) * (y : Int) % 1000000007) / 16777216), .int .u8 (((x : Int) * (y : Int) % 1000000007) / 65536 % 256), .int .u8 (((x : Int) * (y : Int) % 1000000007) / 256 % 256), .int .u8 (((x : Int) * (y : Int) % 1000000007) % 256)]) → W.ownsRow w.heap.size 5 1 v' (4 * 3) (Lib.byteCells (rowOf x y l.length 3))) := Lib.hid fun v' W h => row_step (z := (x * y % 1000000007)) 2 (by omega) rfl (by rw [Int.natCast_emod, Int.natCast_mul]; rfl) h
      clear HEND
      go_wp2_with (at_builtin; refine wpList_append_own _ rfl _ _ 46 rfl w.heap.size 5 i0 (.int .u8 0) 1 1 Try.underlying46 hi hz0 hz1 hz2 rfl (by decide) _ _ _ rfl (hown.alloc _) ⟨wr.heap.size, 0, none⟩ 4 4 [.int .u8 (((x : Int) * (y : Int) % 1000000007) / 16777216), .int .u8 (((x : Int) * (y : Int) % 1000000007) / 65536 % 256), .int .u8 (((x : Int) * (y : Int) % 1000000007) / 256 % 256), .int .u8 (((x : Int) * (y : Int) % 1000000007) % 256)] rfl rfl (fun j u hj => four_new _ _ _ _ _ j u hj) (fun u hu => by simp at hu; rcases hu with rfl | rfl | rfl | rfl <;> rfl) (by unfold maxLen; omega) (by omega) (by have := hb.size; simp; omega) ?_; intro v' w5 hown' hgrow5 hnil5
                   have hb5 : Below w.heap.size w w5 := Below.grown (hb.alloc hb.size _) hgrow5 (by have := hb.size; simp; omega) (fun j hj => by have := (hown.lt _ hj).1; omega)
                   have X : Aside (w5.ownsRow w.heap.size 5 1 v' (4 * 2 + 4) (Lib.byteCells (rowOf x y l.length 2) ++ [.int .u8 (((x : Int) * (y : Int) % 1000000007) / 16777216), .int .u8 (((x : Int) * (y : Int) % 1000000007) / 65536 % 256), .int .u8 (((x : Int) * (y : Int) % 1000000007) / 256 % 256), .int .u8 (((x : Int) * (y : Int) % 1000000007) % 256)]) ∧ Below w.heap.size w w5) := ⟨hown', hb5⟩
                   clear hown' hgrow5 hnil5)
      go_roundw
      case rel => exact ⟨3, by decide, rfl, HA.out _ _ X.out.1, X.out.2⟩
      case measure => decide
    · have ix := fun c d => idx3 x y c d
      have HA : Hid (∀ (v' : Value) (W : World), W.ownsRow w.heap.size 5 1 v' (4 * 3 + 4) (Lib.byteCells (rowOf x y l.length 3) ++ [.int .u8 (((l.length : Int) % 1000000007) / 16777216), .int .u8 (((l.length : Int) % 1000000007) / 65536 % 256), .int .u8 (((l.length : Int) % 1000000007) / 256 % 256), .int .u8 (((l.length : Int) % 1000000007) % 256)]) → W.ownsRow w.heap.size 5 1 v' (4 * 4) (Lib.byteCells (rowOf x y l.length 4))) := Lib.hid fun v' W h => row_step (z := (l.length % 1000000007)) 3 (by omega) rfl (by rw [Int.natCast_emod]; rfl) h
      clear HEND
      go_wp2_with (at_builtin; refine wpList_append_own _ rfl _ _ 46 rfl w.heap.size 5 i0 (.int .u8 0) 1 1 Try.underlying46 hi hz0 hz1 hz2 rfl (by decide) _ _ _ rfl (hown.alloc _) ⟨wr.heap.size, 0, none⟩ 4 4 [.int .u8 (((l.length : Int) % 1000000007) / 16777216), .int .u8 (((l.length : Int) % 1000000007) / 65536 % 256), .int .u8 (((l.length : Int) % 1000000007) / 256 % 256), .int .u8 (((l.length : Int) % 1000000007) % 256)] rfl rfl (fun j u hj => four_new _ _ _ _ _ j u hj) (fun u hu => by simp at hu; rcases hu with rfl | rfl | rfl | rfl <;> rfl) (by unfold maxLen; omega) (by omega) (by have := hb.size; simp; omega) ?_; intro v' w5 hown' hgrow5 hnil5
                   have hb5 : Below w.heap.size w w5 := Below.grown (hb.alloc hb.size _) hgrow5 (by have := hb.size; simp; omega) (fun j hj => by have := (hown.lt _ hj).1; omega)
                   have X : Aside (w5.ownsRow w.heap.size 5 1 v' (4 * 3 + 4) (Lib.byteCells (rowOf x y l.length 3) ++ [.int .u8 (((l.length : Int) % 1000000007) / 16777216), .int .u8 (((l.length : Int) % 1000000007) / 65536 % 256), .int .u8 (((l.length : Int) % 1000000007) / 256 % 256), .int .u8 (((l.length : Int) % 1000000007) % 256)]) ∧ Below w.heap.size w w5) := ⟨hown', hb5⟩
                   clear hown' hgrow5 hnil5)
      go_roundw
      case rel => exact ⟨4, by decide, rfl, HA.out _ _ X.out.1, X.out.2⟩
      case measure => decide
    · have hc := HEND.out hown
      have HF : Hid ((⟨(rowOf x y l.length 4).toArray⟩ : ByteArray) = ⟨(markL l).toArray⟩) := Lib.hid (by rw [← HX.out, ← HY.out]; rfl)
      clear HEND hown
      go_wp2
      go_ret
      exact ⟨congrArg (fun x => Ending.returned (Value.string x)) HF.out, hb⟩

end Go.Proofs.Ytmdpilpghcapbaa
