/- One step, four bytes, the document's mark. The Maker: what it keeps; New, reckoned, Count, Mark, Add. Add: what stands behind what was added. Rows of texts: Big, Own, Join, Texts; the program's Of. -/
import Derived.Test.YthnogdodlhkldaaGreatDoorProg
import Derived.Test.YthnogdodlhkldaaGreatDoorPureA
import Derived.Test.YthnogdodlhkldaaGreatDoorWalkX
import Derived.WalkKit
import Derived.WalkSpells
import Derived.WalkLawsBesides
import Derived.BigQuiet
import Derived.Deep.QuietTactic
import Derived.Outline
import Derived.Lib.SlBytesRow
import Derived.Lib.SlBytesConst
import Derived.Lib.ConvBytes
import Derived.Lib.SmallJoins
import Derived.Lib.Hide
import Derived.OwnWalk
namespace Go.Proofs.YthnogdodlhkldaaGreatDoor
open Go.RowKit

theorem step_257 (n : Nat) (b : UInt8) (w : World) (hn : n ≤ 1000000006) :
    Calls Tryz.prog 83 #[.int .u64 (n : Int), .int .u64 257, .int .u8 (b.toNat : Int)] w fun e w' => e = .returned (.int .u64 (stp 257 n b : Nat)) ∧ w = w' := by
  have hb : b.toNat ≤ 255 := by have := b.toNat_lt; omega
  have hs : (stp 257 n b : Int) = ((n : Int) * 257 + (b.toNat : Int) + 1) % 1000000007 := by unfold stp; omega
  generalize stp 257 n b = r at *
  generalize b.toNat = c at *
  have HS := Lib.hid hs
  clear hs
  go_enter Tryz.func83, Tryz.ntmps83
  go_wp2
  go_ret
  exact ⟨ret_int HS.out.symm, rfl⟩
theorem step_65539 (n : Nat) (b : UInt8) (w : World) (hn : n ≤ 1000000006) :
    Calls Tryz.prog 83 #[.int .u64 (n : Int), .int .u64 65539, .int .u8 (b.toNat : Int)] w fun e w' => e = .returned (.int .u64 (stp 65539 n b : Nat)) ∧ w = w' := by
  have hb : b.toNat ≤ 255 := by have := b.toNat_lt; omega
  have hs : (stp 65539 n b : Int) = ((n : Int) * 65539 + (b.toNat : Int) + 1) % 1000000007 := by unfold stp; omega
  generalize stp 65539 n b = r at *
  generalize b.toNat = c at *
  have HS := Lib.hid hs
  clear hs
  go_enter Tryz.func83, Tryz.ntmps83
  go_wp2
  go_ret
  exact ⟨ret_int HS.out.symm, rfl⟩

theorem four_ints (n : Nat) (hn : n ≤ 1000000006) : (fourM n).map (fun b => (b.toNat : Int)) = [(n : Int) / 16777216, (n : Int) / 65536 % 256, (n : Int) / 256 % 256, (n : Int) % 256] := by
  simp only [fourM, List.map_cons, List.map_nil, List.cons.injEq, and_true, Nat.toUInt8_eq, UInt8.toNat_ofNat']
  omega
end Go.Proofs.YthnogdodlhkldaaGreatDoor

namespace Go.Proofs.YthnogdodlhkldaaGreatDoor
open Go.RowKit

/-- A fact that the walk is not to look into. -/
structure AsideM (p : Prop) : Prop where
  out : p
/-- A Maker at block R to which l was added. -/
def MkAt (w : World) (R : Nat) (l : List UInt8) : Prop := ∃ a b : Nat, w.heap[R]? = some (.cells #[.int .u64 (a : Int), .int .u64 (b : Int), .int .i64 (l.length : Int)] 124 (0, 0)) ∧ (l ≠ [] → a = rx l ∧ b = ry l)
theorem MkAt.lt {w : World} {R : Nat} {l : List UInt8} (h : MkAt w R l) : R < w.heap.size := by
  obtain ⟨a, b, h, _⟩ := h
  exact lt_of_block h
theorem MkAt.below {w w' : World} {R : Nat} {l : List UInt8} (h : MkAt w R l) (hb : Below w.heap.size w w') : MkAt w' R l := by
  have hl := h.lt
  obtain ⟨a, b, h, h2⟩ := h
  exact ⟨a, b, by rw [hb.block R hl]; exact h, h2⟩

set_option maxRecDepth 100000 in
theorem newM_any (w : World) : Calls Tryz.prog 54 #[] w fun e w' => e = .returned (.pointer (some ⟨w.heap.size, 0, none⟩)) ∧ MkAt w' w.heap.size [] ∧ Below w.heap.size w w' := by
  go_enter Tryz.func54, Tryz.ntmps54
  go_wp2
  go_ret
  exact ⟨rfl, ⟨0, 0, new_block _ _, fun h => absurd rfl h⟩, (Below.refl _ _).alloc (Nat.le_refl _) _⟩

set_option maxRecDepth 100000 in
theorem reckoned_any (R : Nat) (l : List UInt8) (w : World) (hR : MkAt w R l) : Calls Tryz.prog 82 #[.pointer (some ⟨R, 0, none⟩)] w fun e w' => e = .returned (.agg #[.int .u64 (rx l : Nat), .int .u64 (ry l : Nat)]) ∧ Below w.heap.size w w' := by
  have hlt := hR.lt
  obtain ⟨a, b, hc, hab⟩ := hR
  have c0 := cell_of hc 0
  have c1 := cell_of hc 1
  have c2 := cell_of hc 2
  simp only [List.getElem?_toArray, List.getElem?_cons_zero, List.getElem?_cons_succ] at c0 c1 c2
  have hne : R ≠ w.heap.size := by omega
  by_cases hl : l = []
  · subst hl
    clear hab hc
    go_enter Tryz.func82, Tryz.ntmps82
    go_wp2
    exact bodyPost_ret (v := .agg #[.int .u64 7, .int .u64 11]) (by simp [results, Tryz.results82, go_sem]) rfl ⟨rfl, (Below.refl _ _).alloc (Nat.le_refl _) _⟩
  · obtain ⟨rfl, rfl⟩ := hab hl
    have hz : ((l.length : Int) == 0) = false := by simpa using hl
    clear hab hc hl
    go_enter Tryz.func82, Tryz.ntmps82
    go_wp2
    exact bodyPost_ret (v := .agg #[.int .u64 (rx l : Nat), .int .u64 (ry l : Nat)]) (by simp [results, Tryz.results82, go_sem]) rfl ⟨rfl, (Below.refl _ _).alloc (Nat.le_refl _) _⟩

/-- The first k of a mark's fourM numbers, four bytes each. -/
def rowOf (x y n k : Nat) : List UInt8 := (([x, y, x * y % 1000000007, n % 1000000007].take k).map fourM).flatten

theorem idx0 (a b c d : Int) (w : World) : (Instr.index 127 (.agg #[.int .u64 a, .int .u64 b, .int .u64 c, .int .u64 d]) (.int .i64 0)).run Tryz.prog w = .ok (.int .u64 a) w := by kernel_rfl
theorem idx1 (a b c d : Int) (w : World) : (Instr.index 127 (.agg #[.int .u64 a, .int .u64 b, .int .u64 c, .int .u64 d]) (.int .i64 1)).run Tryz.prog w = .ok (.int .u64 b) w := by kernel_rfl
theorem idx2 (a b c d : Int) (w : World) : (Instr.index 127 (.agg #[.int .u64 a, .int .u64 b, .int .u64 c, .int .u64 d]) (.int .i64 2)).run Tryz.prog w = .ok (.int .u64 c) w := by kernel_rfl
theorem idx3 (a b c d : Int) (w : World) : (Instr.index 127 (.agg #[.int .u64 a, .int .u64 b, .int .u64 c, .int .u64 d]) (.int .i64 3)).run Tryz.prog w = .ok (.int .u64 d) w := by kernel_rfl
theorem conv_rowM {w : World} {base : Nat} {v : Value} {n : Nat} {l : List UInt8} (h : w.ownsRow base 5 1 v n (Lib.byteCells l)) :
    (convert 85 9 v).run Tryz.prog w = .ok (.string ⟨l.toArray⟩) w := by
  have hl : l.length = n := by have := h.1; simpa [Lib.byteCells_length] using this
  rcases rowForms h with ⟨rfl, h2⟩ | ⟨g, cap, rfl⟩
  · have e : l = [] := List.length_eq_zero_iff.1 (by omega)
    rw [e]
    exact run_convert_bytes_nil (P := Tryz.prog) w 85 5 Tryz.underlying85 Tryz.underlying5 0 0 9 Tryz.underlying9
  · subst hl
    refine run_convert_bytes_back (P := Tryz.prog) w 85 9 5 ⟨g, 0, none⟩ cap l Tryz.underlying85 Tryz.underlying5 Tryz.underlying9 (fun j hj => ?_)
    have e : (⟨g, 0, none⟩ : Addr).add j = ⟨g, j, none⟩ := by simp [Addr.add]; omega
    rw [e, h.cellAt j (by omega)]
    simp [Lib.byteCells, List.getElem?_eq_getElem hj]
theorem rowOf_succ (x y n k z : Nat) (h : [x, y, x * y % 1000000007, n % 1000000007][k]? = some z) : rowOf x y n (k + 1) = rowOf x y n k ++ fourM z := by
  unfold rowOf
  rw [List.take_add_one, h]
  simp
theorem byteCells_appendM (a b : List UInt8) : Lib.byteCells (a ++ b) = Lib.byteCells a ++ Lib.byteCells b := by simp [Lib.byteCells]
theorem byteCells_four (n : Nat) (hn : n ≤ 1000000006) (z : Int) (hz : (n : Int) = z) : Lib.byteCells (fourM n) = [.int .u8 (z / 16777216), .int .u8 (z / 65536 % 256), .int .u8 (z / 256 % 256), .int .u8 (z % 256)] := by
  subst hz
  have h := congrArg (List.map (Value.int .u8)) (four_ints n hn)
  rw [List.map_map] at h
  exact h
theorem row_step {x y n z : Nat} (k : Nat) (hz : z ≤ 1000000006) (h : [x, y, x * y % 1000000007, n % 1000000007][k]? = some z) {zi : Int} (hzi : (z : Int) = zi) {W : World} {b : Nat} {v : Value}
    (ho : W.ownsRow b 5 1 v (4 * k + 4) (Lib.byteCells (rowOf x y n k) ++ [.int .u8 (zi / 16777216), .int .u8 (zi / 65536 % 256), .int .u8 (zi / 256 % 256), .int .u8 (zi % 256)])) : W.ownsRow b 5 1 v (4 * (k + 1)) (Lib.byteCells (rowOf x y n (k + 1))) := by
  rw [rowOf_succ x y n k z h, byteCells_appendM, byteCells_four z hz zi hzi]
  exact ho
theorem four_new (w : World) (a b c d : Value) (j : Nat) (u : Value) (h : [a, b, c, d][j]? = some u) : (w.alloc (.cells #[a, b, c, d] 5)).cell? ((⟨w.heap.size, 0, none⟩ : Addr).add j) = some u := by
  have e : (⟨w.heap.size, 0, none⟩ : Addr).add j = ⟨w.heap.size, j, none⟩ := by simp [Addr.add]; omega
  rw [e, World.cell?_alloc_mark, ← h]
  simp
theorem rec_hid (R : Nat) (l : List UInt8) : Hid (∀ W, MkAt W R l → Calls Tryz.prog 82 #[.pointer (some ⟨R, 0, none⟩)] W fun e w' => e = .returned (.agg #[.int .u64 (rx l : Nat), .int .u64 (ry l : Nat)]) ∧ Below W.heap.size W w') :=
  Lib.hid fun W h => reckoned_any R l W h

set_option maxRecDepth 100000 in
set_option maxHeartbeats 1000000 in
theorem markM_any (R : Nat) (l : List UInt8) (w : World) (hR : MkAt w R l) (hl : l.length ≤ 1099511627776) : Calls Tryz.prog 56 #[.pointer (some ⟨R, 0, none⟩)] w fun e w' => e = .returned (.string ⟨(markL l).toArray⟩) ∧ Below w.heap.size w w' := by
  have hlt := hR.lt
  have hx := rx_lt l
  have hy := ry_lt l
  have HR := Lib.hid hR
  have H1 := rec_hid R l
  clear hR
  generalize hX : rx l = x at *
  generalize hY : ry l = y at *
  have HX := Lib.hid hX
  have HY := Lib.hid hY
  clear hX hY
  go_enter Tryz.func56, Tryz.ntmps56
  go_wp2_with fail
  refine (H1.out _ HR.out).mono ?_
  rintro e w1 ⟨rfl, B1⟩
  have hc2 : w1.cell? ⟨R, 2, none⟩ = some (.int .i64 (l.length : Int)) := by
    obtain ⟨a, b, hc, _⟩ := HR.out.below B1
    exact cell_of hc 2
  have hlt1 : R < w1.heap.size := by have := B1.size; omega
  have hm := mul_lt x y hx hy
  have hmz : (x : Int) * (y : Int) ≤ 1000000012000000036 := by rw [← Int.natCast_mul]; omega
  have hmz0 : 0 ≤ (x : Int) * (y : Int) := by rw [← Int.natCast_mul]; omega
  have hne1 : R ≠ w1.heap.size := by omega
  have hne2 : R ≠ w1.heap.size + 1 := by omega
  go_wp2
  go_quiet (fail)
  have hc3 : ((w1.alloc (.cells #[.int .u64 (x : Int), .int .u64 (y : Int)] 122)).drewN nq).cell? ⟨R, 2, none⟩ = some (.int .i64 (l.length : Int)) := by
    show (w1.alloc (.cells #[.int .u64 (x : Int), .int .u64 (y : Int)] 122)).cell? ⟨R, 2, none⟩ = _
    rw [World.cell?_alloc_lt _ _ _ hlt1]; exact hc2
  have B2 : Below w.heap.size w ((w1.alloc (.cells #[.int .u64 (x : Int), .int .u64 (y : Int)] 122)).drewN nq) := belowN (B1.alloc B1.size _) nq
  generalize (w1.alloc (.cells #[.int .u64 (x : Int), .int .u64 (y : Int)] 122)).drewN nq = w2 at *
  obtain ⟨i0, hi, hz0, hz1, hz2⟩ := info_parts Tinfo5
  obtain ⟨W3, hmk, hown, hgr⟩ := run_make_own (P := Tryz.prog) w2 w.heap.size 85 5 i0 _ 1 Tryz.underlying85 hi hz0 hz1 .i64 .i64 16 (by rw [hz2]; decide) (by unfold maxLen; decide) B2.size
  have hmk2 : (Instr.makeSlice 85 (.int .i64 0) (.int .i64 16)).run Tryz.prog w2 = .ok (.slice (some ⟨w2.heap.size, 0, none⟩) 0 16) W3 := hmk
  have B3 : Below w.heap.size w W3 := B2.grown hgr B2.size (fun k hk => by cases hk)
  have hc4 : W3.cell? ⟨R, 2, none⟩ = some (.int .i64 (l.length : Int)) := by
    rw [(Below.grown (Below.refl w2.heap.size w2) hgr (Nat.le_refl _) (fun k hk => by cases hk)).cell (lt_of_cell hc3)]; exact hc3
  generalize hv : (Value.slice (some ⟨w2.heap.size, 0, none⟩) 0 16) = v0 at hmk2 hown
  have HV := Lib.hid hv
  clear hmk hc3 hc2 B2 B1 hgr hv hlt hlt1 hne1 hne2
  go_wp2
  go_loopw [6, 31] (fun v i wr => ∃ k : Nat, k ≤ 4 ∧ i = .int .i64 k ∧ wr.ownsRow w.heap.size 5 1 v (4 * k) (Lib.byteCells (rowOf x y l.length k)) ∧ Below w.heap.size w wr) (fun _ i _ => 4 - (intOf i).toNat)
  case atStart => exact ⟨0, by decide, rfl, hown, B3⟩
  case round =>
    obtain ⟨k, hk, rfl, hown, hb⟩ := hrel
    have hend := conv_rowM (w := wr) (base := w.heap.size) (v := u6) (n := 16) (l := rowOf x y l.length 4)
    have HEND := Lib.hid hend
    clear hend
    obtain rfl | rfl | rfl | rfl | rfl : k = 0 ∨ k = 1 ∨ k = 2 ∨ k = 3 ∨ k = 4 := by omega
    · have ix := fun c d => idx0 x y c d
      have HA : Hid (∀ (v' : Value) (W : World), W.ownsRow w.heap.size 5 1 v' (4 * 0 + 4) (Lib.byteCells (rowOf x y l.length 0) ++ [.int .u8 ((x : Int) / 16777216), .int .u8 ((x : Int) / 65536 % 256), .int .u8 ((x : Int) / 256 % 256), .int .u8 ((x : Int) % 256)]) → W.ownsRow w.heap.size 5 1 v' (4 * 1) (Lib.byteCells (rowOf x y l.length 1))) := Lib.hid fun v' W h => row_step (z := x) 0 (by exact hx) rfl rfl h
      clear HEND
      go_wp2_with (at_builtin; refine wpList_append_own _ rfl _ _ 85 rfl w.heap.size 5 i0 (.int .u8 0) 1 1 Tryz.underlying85 hi hz0 hz1 hz2 rfl (by decide) _ _ _ rfl (hown.alloc _) ⟨wr.heap.size, 0, none⟩ 4 4 [.int .u8 ((x : Int) / 16777216), .int .u8 ((x : Int) / 65536 % 256), .int .u8 ((x : Int) / 256 % 256), .int .u8 ((x : Int) % 256)] rfl rfl (fun j u hj => four_new _ _ _ _ _ j u hj) (fun u hu => by simp at hu; rcases hu with rfl | rfl | rfl | rfl <;> rfl) (by unfold maxLen; omega) (by omega) (by have := hb.size; simp; omega) ?_; intro v' w5 hown' hgrow5 hnil5
                   have hb5 : Below w.heap.size w w5 := Below.grown (hb.alloc hb.size _) hgrow5 (by have := hb.size; simp; omega) (fun j hj => by have := (hown.lt _ hj).1; omega)
                   have X : AsideM (w5.ownsRow w.heap.size 5 1 v' (4 * 0 + 4) (Lib.byteCells (rowOf x y l.length 0) ++ [.int .u8 ((x : Int) / 16777216), .int .u8 ((x : Int) / 65536 % 256), .int .u8 ((x : Int) / 256 % 256), .int .u8 ((x : Int) % 256)]) ∧ Below w.heap.size w w5) := ⟨hown', hb5⟩
                   clear hown' hgrow5 hnil5)
      go_roundw
      case rel => exact ⟨1, by decide, rfl, HA.out _ _ X.out.1, X.out.2⟩
      case measure => decide
    · have ix := fun c d => idx1 x y c d
      have HA : Hid (∀ (v' : Value) (W : World), W.ownsRow w.heap.size 5 1 v' (4 * 1 + 4) (Lib.byteCells (rowOf x y l.length 1) ++ [.int .u8 ((y : Int) / 16777216), .int .u8 ((y : Int) / 65536 % 256), .int .u8 ((y : Int) / 256 % 256), .int .u8 ((y : Int) % 256)]) → W.ownsRow w.heap.size 5 1 v' (4 * 2) (Lib.byteCells (rowOf x y l.length 2))) := Lib.hid fun v' W h => row_step (z := y) 1 (by exact hy) rfl rfl h
      clear HEND
      go_wp2_with (at_builtin; refine wpList_append_own _ rfl _ _ 85 rfl w.heap.size 5 i0 (.int .u8 0) 1 1 Tryz.underlying85 hi hz0 hz1 hz2 rfl (by decide) _ _ _ rfl (hown.alloc _) ⟨wr.heap.size, 0, none⟩ 4 4 [.int .u8 ((y : Int) / 16777216), .int .u8 ((y : Int) / 65536 % 256), .int .u8 ((y : Int) / 256 % 256), .int .u8 ((y : Int) % 256)] rfl rfl (fun j u hj => four_new _ _ _ _ _ j u hj) (fun u hu => by simp at hu; rcases hu with rfl | rfl | rfl | rfl <;> rfl) (by unfold maxLen; omega) (by omega) (by have := hb.size; simp; omega) ?_; intro v' w5 hown' hgrow5 hnil5
                   have hb5 : Below w.heap.size w w5 := Below.grown (hb.alloc hb.size _) hgrow5 (by have := hb.size; simp; omega) (fun j hj => by have := (hown.lt _ hj).1; omega)
                   have X : AsideM (w5.ownsRow w.heap.size 5 1 v' (4 * 1 + 4) (Lib.byteCells (rowOf x y l.length 1) ++ [.int .u8 ((y : Int) / 16777216), .int .u8 ((y : Int) / 65536 % 256), .int .u8 ((y : Int) / 256 % 256), .int .u8 ((y : Int) % 256)]) ∧ Below w.heap.size w w5) := ⟨hown', hb5⟩
                   clear hown' hgrow5 hnil5)
      go_roundw
      case rel => exact ⟨2, by decide, rfl, HA.out _ _ X.out.1, X.out.2⟩
      case measure => decide
    · have ix := fun c d => idx2 x y c d
      have HA : Hid (∀ (v' : Value) (W : World), W.ownsRow w.heap.size 5 1 v' (4 * 2 + 4) (Lib.byteCells (rowOf x y l.length 2) ++ [.int .u8 (((x : Int) * (y : Int) % 1000000007) / 16777216), .int .u8 (((x : Int) * (y : Int) % 1000000007) / 65536 % 256), .int .u8 (((x : Int) * (y : Int) % 1000000007) / 256 % 256), .int .u8 (((x : Int) * (y : Int) % 1000000007) % 256)]) → W.ownsRow w.heap.size 5 1 v' (4 * 3) (Lib.byteCells (rowOf x y l.length 3))) := Lib.hid fun v' W h => row_step (z := (x * y % 1000000007)) 2 (by omega) rfl (by rw [Int.natCast_emod, Int.natCast_mul]; rfl) h
      clear HEND
      go_wp2_with (at_builtin; refine wpList_append_own _ rfl _ _ 85 rfl w.heap.size 5 i0 (.int .u8 0) 1 1 Tryz.underlying85 hi hz0 hz1 hz2 rfl (by decide) _ _ _ rfl (hown.alloc _) ⟨wr.heap.size, 0, none⟩ 4 4 [.int .u8 (((x : Int) * (y : Int) % 1000000007) / 16777216), .int .u8 (((x : Int) * (y : Int) % 1000000007) / 65536 % 256), .int .u8 (((x : Int) * (y : Int) % 1000000007) / 256 % 256), .int .u8 (((x : Int) * (y : Int) % 1000000007) % 256)] rfl rfl (fun j u hj => four_new _ _ _ _ _ j u hj) (fun u hu => by simp at hu; rcases hu with rfl | rfl | rfl | rfl <;> rfl) (by unfold maxLen; omega) (by omega) (by have := hb.size; simp; omega) ?_; intro v' w5 hown' hgrow5 hnil5
                   have hb5 : Below w.heap.size w w5 := Below.grown (hb.alloc hb.size _) hgrow5 (by have := hb.size; simp; omega) (fun j hj => by have := (hown.lt _ hj).1; omega)
                   have X : AsideM (w5.ownsRow w.heap.size 5 1 v' (4 * 2 + 4) (Lib.byteCells (rowOf x y l.length 2) ++ [.int .u8 (((x : Int) * (y : Int) % 1000000007) / 16777216), .int .u8 (((x : Int) * (y : Int) % 1000000007) / 65536 % 256), .int .u8 (((x : Int) * (y : Int) % 1000000007) / 256 % 256), .int .u8 (((x : Int) * (y : Int) % 1000000007) % 256)]) ∧ Below w.heap.size w w5) := ⟨hown', hb5⟩
                   clear hown' hgrow5 hnil5)
      go_roundw
      case rel => exact ⟨3, by decide, rfl, HA.out _ _ X.out.1, X.out.2⟩
      case measure => decide
    · have ix := fun c d => idx3 x y c d
      have HA : Hid (∀ (v' : Value) (W : World), W.ownsRow w.heap.size 5 1 v' (4 * 3 + 4) (Lib.byteCells (rowOf x y l.length 3) ++ [.int .u8 (((l.length : Int) % 1000000007) / 16777216), .int .u8 (((l.length : Int) % 1000000007) / 65536 % 256), .int .u8 (((l.length : Int) % 1000000007) / 256 % 256), .int .u8 (((l.length : Int) % 1000000007) % 256)]) → W.ownsRow w.heap.size 5 1 v' (4 * 4) (Lib.byteCells (rowOf x y l.length 4))) := Lib.hid fun v' W h => row_step (z := (l.length % 1000000007)) 3 (by omega) rfl (by rw [Int.natCast_emod]; rfl) h
      clear HEND
      go_wp2_with (at_builtin; refine wpList_append_own _ rfl _ _ 85 rfl w.heap.size 5 i0 (.int .u8 0) 1 1 Tryz.underlying85 hi hz0 hz1 hz2 rfl (by decide) _ _ _ rfl (hown.alloc _) ⟨wr.heap.size, 0, none⟩ 4 4 [.int .u8 (((l.length : Int) % 1000000007) / 16777216), .int .u8 (((l.length : Int) % 1000000007) / 65536 % 256), .int .u8 (((l.length : Int) % 1000000007) / 256 % 256), .int .u8 (((l.length : Int) % 1000000007) % 256)] rfl rfl (fun j u hj => four_new _ _ _ _ _ j u hj) (fun u hu => by simp at hu; rcases hu with rfl | rfl | rfl | rfl <;> rfl) (by unfold maxLen; omega) (by omega) (by have := hb.size; simp; omega) ?_; intro v' w5 hown' hgrow5 hnil5
                   have hb5 : Below w.heap.size w w5 := Below.grown (hb.alloc hb.size _) hgrow5 (by have := hb.size; simp; omega) (fun j hj => by have := (hown.lt _ hj).1; omega)
                   have X : AsideM (w5.ownsRow w.heap.size 5 1 v' (4 * 3 + 4) (Lib.byteCells (rowOf x y l.length 3) ++ [.int .u8 (((l.length : Int) % 1000000007) / 16777216), .int .u8 (((l.length : Int) % 1000000007) / 65536 % 256), .int .u8 (((l.length : Int) % 1000000007) / 256 % 256), .int .u8 (((l.length : Int) % 1000000007) % 256)]) ∧ Below w.heap.size w w5) := ⟨hown', hb5⟩
                   clear hown' hgrow5 hnil5)
      go_roundw
      case rel => exact ⟨4, by decide, rfl, HA.out _ _ X.out.1, X.out.2⟩
      case measure => decide
    · have hc := HEND.out hown
      have HF : Hid ((⟨(rowOf x y l.length 4).toArray⟩ : ByteArray) = ⟨(markL l).toArray⟩) := Lib.hid (by rw [← HX.out, ← HY.out]; rfl)
      clear HEND hown
      go_wp2
      go_ret
      exact ⟨congrArg (fun x => Ending.returned (Value.string x)) HF.out, hb⟩

end Go.Proofs.YthnogdodlhkldaaGreatDoor

namespace Go.Proofs.YthnogdodlhkldaaGreatDoor
open Go.RowKit

theorem step_257_hid (n : Nat) (b : UInt8) (r : Nat) (hn : n ≤ 1000000006) (hr : stp 257 n b = r) : Hid (∀ W, Calls Tryz.prog 83 #[.int .u64 (n : Int), .int .u64 257, .int .u8 (b.toNat : Int)] W fun e w' => e = .returned (.int .u64 (r : Int)) ∧ W = w') :=
  Lib.hid fun W => by rw [← hr]; exact step_257 n b W hn
theorem step_65539_hid (n : Nat) (b : UInt8) (r : Nat) (hn : n ≤ 1000000006) (hr : stp 65539 n b = r) : Hid (∀ W, Calls Tryz.prog 83 #[.int .u64 (n : Int), .int .u64 65539, .int .u8 (b.toNat : Int)] W fun e w' => e = .returned (.int .u64 (r : Int)) ∧ W = w') :=
  Lib.hid fun W => by rw [← hr]; exact step_65539 n b W hn
theorem fold_take {s : ByteArray} {k : Nat} (h : k < s.size) (l : List UInt8) : l ++ s.data.toList.take (k + 1) = (l ++ s.data.toList.take k) ++ [s[k]] := by
  rw [take_snoc h, List.append_assoc]

set_option maxRecDepth 100000 in
set_option maxHeartbeats 1000000 in
theorem addM_any (R B : Nat) (l : List UInt8) (s : ByteArray) (w0 w : World) (hB : Below B w0 w) (hBR : B ≤ R) (hR : MkAt w R l) (hl : l.length + s.size ≤ 1099511627776) :
    Calls Tryz.prog 55 #[.pointer (some ⟨R, 0, none⟩), .string s] w fun e w' => e = .returned (.int .i64 0) ∧ Below B w0 w' ∧ MkAt w' R (l ++ s.data.toList) ∧ w.heap.size ≤ w'.heap.size := by
  have hlt := hR.lt
  have hx0 := rx_lt l
  have hy0 := ry_lt l
  have HR := Lib.hid hR
  have H1 := rec_hid R l
  clear hR
  obtain ⟨x0, hX⟩ : ∃ x, x = rx l := ⟨_, rfl⟩
  obtain ⟨y0, hY⟩ : ∃ y, y = ry l := ⟨_, rfl⟩
  rw [← hX, ← hY] at H1
  rw [← hX] at hx0
  rw [← hY] at hy0
  have HX := Lib.hid hX
  have HY := Lib.hid hY
  clear hX hY
  go_enter Tryz.func55, Tryz.ntmps55
  go_wp2_with fail
  refine (H1.out _ HR.out).mono ?_
  rintro e w1 ⟨rfl, B1⟩
  go_wp2
  go_quiet (fail)
  have hgr : w.heap.size ≤ ((w1.alloc (.cells #[.int .u64 (x0 : Int), .int .u64 (y0 : Int)] 122)).drewN nq).heap.size := by
    show w.heap.size ≤ (w1.alloc (.cells #[.int .u64 (x0 : Int), .int .u64 (y0 : Int)] 122)).heap.size
    have := B1.size; simp; omega
  have hb2 : Below B w0 ((w1.alloc (.cells #[.int .u64 (x0 : Int), .int .u64 (y0 : Int)] 122)).drewN nq) :=
    hB.trans ((belowN (B1.alloc B1.size _) nq).mono (by omega))
  have hk2 := HR.out.below (belowN (B1.alloc B1.size (.cells #[.int .u64 (x0 : Int), .int .u64 (y0 : Int)] 122)) nq)
  generalize (w1.alloc (.cells #[.int .u64 (x0 : Int), .int .u64 (y0 : Int)] 122)).drewN nq = w2 at *
  obtain ⟨a, b, hblk, _⟩ := hk2
  have c0 := cell_of hblk 0
  have c1 := cell_of hblk 1
  have c2 := cell_of hblk 2
  have f0 := open_of hblk 0
  have f1 := open_of hblk 1
  have f2 := open_of hblk 2
  simp only [List.getElem?_toArray, List.getElem?_cons_zero, List.getElem?_cons_succ] at c0 c1 c2
  have HBLK := Lib.hid hblk
  clear hblk B1 hlt
  go_wp2
  go_loop [6, 7, 19] (fun x y i => ∃ k a b : Nat, k ≤ s.size ∧ i = .int .i64 k ∧ x = .int .u64 a ∧ y = .int .u64 b ∧ a ≤ 1000000006 ∧ b ≤ 1000000006 ∧ Hid (a = rx (l ++ s.data.toList.take k) ∧ b = ry (l ++ s.data.toList.take k))) (fun _ _ i => s.size - (intOf i).toNat)
  case atStart => exact ⟨0, x0, y0, Nat.zero_le _, rfl, rfl, rfl, hx0, hy0, Lib.hid ⟨by rw [HX.out]; simp, by rw [HY.out]; simp⟩⟩
  case round =>
    obtain ⟨k, p, q, hk, rfl, rfl, rfl, hp, hq, HS⟩ := hrel
    by_cases hlt : k < s.size
    · have hsn := fold_take hlt l
      have HN : Hid (stp 257 p s[k] = rx (l ++ s.data.toList.take (k + 1)) ∧ stp 65539 q s[k] = ry (l ++ s.data.toList.take (k + 1))) := Lib.hid (by
        rw [hsn, rx_snoc, ry_snoc, ← HS.out.1, ← HS.out.2]; exact ⟨rfl, rfl⟩)
      have hx2 := stp_lt 257 p s[k]
      have hy2 := stp_lt 65539 q s[k]
      have C1 := step_257_hid p s[k] _ hp rfl
      have C2 := step_65539_hid q s[k] _ hq rfl
      generalize stp 257 p s[k] = p2 at *
      generalize stp 65539 q s[k] = q2 at *
      clear hsn HS
      go_wp2_with (first
        | (go_at_call 83; (with_reducible refine (C1.out _).mono ?_); rintro e w' ⟨rfl, rfl⟩)
        | (go_at_call 83; (with_reducible refine (C2.out _).mono ?_); rintro e w' ⟨rfl, rfl⟩))
      go_round
      case rel => exact ⟨k + 1, p2, q2, by omega, by go_num, rfl, rfl, hx2, hy2, HN⟩
      case measure => simp [intOf]; omega
    · obtain rfl : k = s.size := by omega
      have HF : Hid (p = rx (l ++ s.data.toList) ∧ q = ry (l ++ s.data.toList)) := Lib.hid (by
        have := HS.out
        rw [List.take_of_length_le (by simp)] at this; exact this)
      clear HS
      go_wp2
      go_ret
      refine ⟨rfl, ((hb2.setCell hBR _).setCell hBR _).setCell hBR _, ⟨p, q, ?_, fun _ => HF.out⟩, ?_⟩
      · rw [heap_setCell_same _ R 2 _ 124 _ _ (heap_setCell_same _ R 1 _ 124 _ _ (heap_setCell_same _ R 0 _ 124 _ _ HBLK.out)), List.length_append, lsize]
        simp
      · simp only [World.setCell, Array.size_modify]; exact hgr

end Go.Proofs.YthnogdodlhkldaaGreatDoor

namespace Go.Proofs.YthnogdodlhkldaaGreatDoor
open Go.RowKit

theorem flat_takeM (p : List (List UInt8)) (k : Nat) (h : k < p.length) : (p.take (k + 1)).flatten = (p.take k).flatten ++ p[k] := by
  rw [List.take_succ_eq_append_getElem h, List.flatten_append, List.flatten_cons, List.flatten_nil, List.append_nil]
theorem flat_le (p : List (List UInt8)) (k : Nat) : (p.take k).flatten.length ≤ p.flatten.length := by
  have h := congrArg List.length (congrArg List.flatten (List.take_append_drop k p))
  rw [List.flatten_append, List.length_append] at h
  omega
theorem flat_le2 (p : List (List UInt8)) (k : Nat) (h : k < p.length) : (p.take k).flatten.length + p[k].length ≤ p.flatten.length := by
  have h1 := flat_le p (k + 1)
  rw [flat_takeM p k h, List.length_append] at h1
  exact h1

set_option maxRecDepth 100000 in
set_option maxHeartbeats 1000000 in
theorem mark_hid (R : Nat) (l : List UInt8) (hl : l.length ≤ 1099511627776) (M : ByteArray) (hM : M.data.toList = markL l) : Hid (∀ W, MkAt W R l → Calls Tryz.prog 56 #[.pointer (some ⟨R, 0, none⟩)] W fun e w' => e = .returned (.string M) ∧ Below W.heap.size W w') :=
  Lib.hid fun W h => by rw [text_is hM]; exact markM_any R l W h hl

/-- The program's Of. -/
theorem of_any (p : List (List UInt8)) (v : Value) (w : World) (M : ByteArray) (hM : M.data.toList = markL p.flatten) (hp : TextsIn w v p) (hl : p.length ≤ 1000000) (hf : p.flatten.length ≤ 1000000) : Calls Tryz.prog 31 #[v] w fun e w' => e = .returned (.string M) ∧ Below w.heap.size w w' := by
  obtain ⟨a, c, rfl⟩ := hp.form
  have hcell : Hid (∀ j, (h : j < p.length) → ∃ B off, a = some ⟨B, off, none⟩ ∧ B < w.heap.size ∧ w.cell? ⟨B, off + j, none⟩ = some (strV p[j])) := Lib.hid fun j h => by
    rcases hp with ⟨_, h2⟩ | ⟨B, off, cap, h1, h2⟩
    · subst h2; simp at h
    · cases h1
      exact ⟨B, off, rfl, lt_of_cell (h2 j h), h2 j h⟩
  have CM := mark_hid w.heap.size p.flatten (by omega) M hM
  clear hp hM
  go_enter Tryz.func31, Tryz.ntmps31
  go_wp2_with fail
  refine (newM_any _).mono ?_
  rintro e w1 ⟨rfl, hk1, B1⟩
  have H1 := Lib.hid hk1
  have hgr1 := hk1.lt
  clear hk1
  go_wp2
  go_loopw [9] (fun i wr => ∃ k : Nat, k ≤ p.length ∧ i = .int .i64 k ∧ Below w.heap.size w wr ∧ Hid (MkAt wr w.heap.size (p.take k).flatten)) (fun i _ => p.length - (intOf i).toNat)
  case atStart => exact ⟨0, Nat.zero_le _, rfl, B1, H1⟩
  case round =>
    obtain ⟨k, hk, rfl, hb, HS⟩ := hrel
    by_cases hlt : k < p.length
    · obtain ⟨B, off, rfl, hB, hc⟩ := hcell.out k hlt
      obtain ⟨T, hT⟩ := text_of p[k]
      have hc2 : wr.cell? ⟨B, off + k, none⟩ = some (.string T) := by rw [hb.cell hB, hc, text_is hT]; rfl
      have hle : (p.take k).flatten.length + T.size ≤ 1099511627776 := by
        have := flat_le2 p k hlt
        rw [← hT, lsize] at this; omega
      have HN : Hid ((p.take k).flatten ++ T.data.toList = (p.take (k + 1)).flatten) := Lib.hid (by rw [hT, flat_takeM p k hlt])
      have C := Lib.hid (addM_any w.heap.size w.heap.size (p.take k).flatten T w wr hb (Nat.le_refl _) HS.out hle)
      clear hc hT hle B1 H1
      go_wp2_with fail
      refine C.out.mono ?_
      rintro e w2 ⟨rfl, B2, hk2, _⟩
      have HK : Hid (MkAt w2 w.heap.size (p.take (k + 1)).flatten) := by rw [← HN.out]; exact Lib.hid hk2
      clear hk2
      go_wp2
      go_roundw
      case rel => exact ⟨k + 1, by omega, by go_num, B2, HK⟩
      case measure => simp [intOf]; omega
    · obtain rfl : k = p.length := by omega
      have HK : Hid (MkAt wr w.heap.size p.flatten) := by have := HS.out; rw [List.take_length] at this; exact Lib.hid this
      clear HS B1 H1
      go_wp2_with fail
      refine (CM.out _ HK.out).mono ?_
      rintro e w2 ⟨rfl, b2⟩
      have B2 := hb.trans (b2.mono hb.size)
      clear b2
      go_wp2
      go_ret
      exact ⟨rfl, B2⟩

end Go.Proofs.YthnogdodlhkldaaGreatDoor
