/- The Reader: what it keeps; Feed and End. The Reader's End; New. -/
import Derived.Test.YtfbhpmafjehojaaGreatDoorUWX
namespace Go.Proofs.YtfbhpmafjehojaaGreatDoor.U1
open Go.RowKit

/-- A Reader's cells, and what stands behind them in the block. -/
def rdCells (ks : List UInt8) (n : Nat) (X : List Value) : Array Value := (Lib.byteCells ks ++ Value.int .i64 (n : Int) :: X).toArray
/-- A Reader at the head of block R: three bytes, and how many of them are kept. -/
def RdAt (w : World) (R : Nat) (ks : List UInt8) (n : Nat) (T : TypeId) (X : List Value) : Prop := ks.length = 3 ∧ n ≤ 3 ∧ w.heap[R]? = some (.cells (rdCells ks n X) T (0, 0))
theorem cell_of {w : World} {b : Nat} {c : Array Value} {t : TypeId} {fr : Nat × Nat} (h : w.heap[b]? = some (.cells c t fr)) (j : Nat) : w.cell? ⟨b, j, none⟩ = c[j]? := by
  simp [World.cell?, h]
theorem RdAt.cnt {w : World} {R : Nat} {ks : List UInt8} {n : Nat} {T : TypeId} {X : List Value} (h : RdAt w R ks n T X) : w.cell? ⟨R, 3, none⟩ = some (.int .i64 (n : Int)) := by
  obtain ⟨h1, _, h2⟩ := h
  rw [cell_of h2]
  have : (Lib.byteCells ks).length = 3 := by rw [Lib.byteCells_length, h1]
  simp only [rdCells, List.getElem?_toArray]
  rw [List.getElem?_append_right (by omega), this]
  rfl
theorem RdAt.bytes {w : World} {R : Nat} {ks : List UInt8} {n : Nat} {T : TypeId} {X : List Value} (h : RdAt w R ks n T X) (c : Nat) : BytesIn w (.slice (some ⟨R, 0, none⟩) n c) (ks.take n) := by
  obtain ⟨h1, hn, h2⟩ := h
  have hl : (ks.take n).length = n := by simp; omega
  refine .inr ⟨R, 0, c, by rw [hl], fun j hj => ?_⟩
  have hj' : j < ks.length := by rw [hl] at hj; omega
  rw [cell_of h2]
  have hj2 : j < (Lib.byteCells ks).length := by rw [Lib.byteCells_length]; exact hj'
  rw [Nat.zero_add, rdCells]
  simp only [List.getElem?_toArray]
  rw [List.getElem?_append_left hj2]
  simp [Lib.byteCells, List.getElem?_eq_getElem hj']

set_option maxRecDepth 100000 in
theorem untold_any (R n : Nat) (hn : n ≤ 3) (w : World) (hc : w.cell? ⟨R, 3, none⟩ = some (.int .i64 (n : Int))) :
    Calls Tryz.prog 58 #[.pointer (some ⟨R, 0, none⟩)] w fun e w' => e = .returned (.slice (some ⟨R, 0, none⟩) n 3) ∧ ∃ m, w' = w.drewN m := by
  have hn3 : (n : Int) ≤ 3 := by omega
  go_enter Tryz.func58, Tryz.ntmps58
  go_wp2
  go_quiet (fail)
  go_wp2
  go_ret
  exact ⟨rfl, _, rfl⟩

theorem below_of_drewN {w w' : World} {q : Nat} (h : Below (w.drewN q).heap.size (w.drewN q) w') : Below w.heap.size w w' := ⟨h.os, h.tape, h.output, h.size, h.block⟩
theorem below_of_drew {w w' : World} (h : Below w.drew.heap.size w.drew w') : Below w.heap.size w w' := ⟨h.os, h.tape, h.output, h.size, h.block⟩
theorem rd_set (X : List UInt8) (h : X.length = 3) (n m : Nat) (Y : List Value) : (rdCells X n Y).setIfInBounds 3 (.int .i64 (m : Int)) = rdCells X m Y := by
  match X, h with
  | [a, b, c], _ => simp [rdCells, Lib.byteCells]

set_option maxRecDepth 100000 in
set_option maxHeartbeats 2000000 in
/-- Feed. -/
theorem feed_any (R n : Nat) (T : TypeId) (X : List Value) (ks m : List UInt8) (v : Value) (w0 w : World) (B : Nat) (hB : Below B w0 w) (hBR : B ≤ R) (hR : RdAt w R ks n T X) (hv : BytesIn w v m) (hm : m.length ≤ 549755813888) (hT : Lib.Utf8Tabs 0 1 w) :
    Calls Tryz.prog 34 #[.pointer (some ⟨R, 0, none⟩), v] w fun e w' => e = .returned (.tuple #[.string ⟨(told (ks.take n ++ m)).toArray⟩, .int .i64 0]) ∧ Below B w0 w' ∧
      (∀ b, b < w.heap.size → b ≠ R → w'.heap[b]? = w.heap[b]?) ∧ w.heap.size ≤ w'.heap.size ∧ ∃ ks', RdAt w' R ks' (rest (ks.take n ++ m)).length T X ∧ ks'.take (rest (ks.take n ++ m)).length = rest (ks.take n ++ m) := by
  have hn := hR.2.1
  have hcnt := hR.cnt
  have hun := fun (W : World) (h : W.cell? ⟨R, 3, none⟩ = some (.int .i64 (n : Int))) => untold_any R n hn W h
  have hl : (ks.take n).length ≤ 3 := by simp; omega
  have htell := fun (W : World) (h : Lib.Utf8Tabs 0 1 W) => tell_any ⟨(ks.take n ++ m).toArray⟩ W (by rw [bsize, List.length_append]; omega) h
  simp only at htell
  have hrl := rest_len (ks.take n ++ m)
  have hcb := fun k => conv_in (w := w.drewN k) hv
  have hcb1 := conv_in (w := w.drew) hv
  have hck := fun k => conv_in (w := w.drewN k) (hR.bytes (c := 3))
  have hck1 := conv_in (w := w.drew) (hR.bytes (c := 3))
  have hap : ((⟨(ks.take n).toArray⟩ : ByteArray) ++ ⟨m.toArray⟩) = ⟨(ks.take n ++ m).toArray⟩ := by
    apply ByteArray.ext
    apply Array.toList_inj.1
    simp
  have hadd := fun (W : World) => run_string_add_sum (P := Tryz.prog) W ⟨(ks.take n).toArray⟩ ⟨m.toArray⟩ (by rw [bsize, bsize]; omega)
  simp only [hap] at hadd
  generalize rest (ks.take n ++ m) = rs at *
  generalize told (ks.take n ++ m) = ts at *
  have HT := Lib.hid htell
  have HU := Lib.hid hun
  have HA := Lib.hid hap
  clear htell hun hap hl
  go_enter Tryz.func34, Tryz.ntmps34
  go_wp2
  go_region_with (first
    | (go_at_call 58; refine (HU.out _ (by exact hcnt)).mono ?_; rintro e w1 ⟨rfl, q, rfl⟩)
    | (go_at_call 28; refine (HT.out _ (by exact hT)).mono ?_; rintro e w2 ⟨rfl, hb2⟩))
  all_goals
    have hb : Below w.heap.size w w2 := by first | exact below_of_drewN hb2 | exact below_of_drew hb2
    have hlt : R < w.heap.size := lt_of_block hR.2.2
    have hB2 : Below B w0 w2 := hB.trans (hb.mono (by omega))
    have hg2 : w2.heap[R]? = some (.cells (rdCells ks n X) T (0, 0)) := by rw [hb.block R hlt]; exact hR.2.2
    have hks : ks.length = 3 := hR.1
    have hsz : (rdCells ks n X).size = 4 + X.length := by
      simp only [rdCells, List.size_toArray, List.length_append, List.length_cons, Lib.byteCells_length, hks]
      omega
    have hcopy := fun ty => Lib.run_copy_row_string (P := Tryz.prog) w2 22 9 ty 5 R 0 3 3 ⟨rs.toArray⟩ (rdCells ks n X) T Tryz.underlying22 (by kernel_rfl) hg2 (by rw [bsize]; exact hrl) (by rw [bsize, hsz]; omega)
    have hnew : ((rdCells ks n X).toList.take 0 ++ Lib.byteCells (⟨rs.toArray⟩ : ByteArray).data.toList ++ (rdCells ks n X).toList.drop (0 + (⟨rs.toArray⟩ : ByteArray).size)).toArray = rdCells (rs ++ ks.drop rs.length) n X := by
      rw [bsize]
      simp only [List.take_zero, List.nil_append, Nat.zero_add, rdCells, Lib.byteCells]
      rw [List.drop_append_of_le_length (by rw [List.length_map, hks]; exact hrl)]
      simp
    rw [hnew, bsize] at hcopy
    obtain ⟨w3, hw3⟩ : ∃ w3, w3 = w2.setRow R (rdCells (rs ++ ks.drop rs.length) n X) := ⟨_, rfl⟩
    have hg3 : w3.heap[R]? = some (.cells (rdCells (rs ++ ks.drop rs.length) n X) T (0, 0)) := by rw [hw3]; exact setRow_heap w2 R _ _ T (0, 0) hg2
    have ho3 : ∀ b, b ≠ R → w3.heap[b]? = w2.heap[b]? := fun b h => by rw [hw3]; exact setRow_other w2 R b _ h
    have hs3 : w3.heap.size = w2.heap.size := by rw [hw3]; exact size_setRow w2 R _
    have hB3 : Below B w0 w3 := by rw [hw3]; exact below_setRow hB2 hBR _
    rw [← hw3] at hcopy
    have hkl : (rs ++ ks.drop rs.length).length = 3 := by simp [hks]; omega
    have hR3 : RdAt w3 R (rs ++ ks.drop rs.length) n T X := ⟨hkl, hn, hg3⟩
    have hc3 := hR3.cnt
    have hf3 := frozen_of_row w3 R 3 _ T hg3
    have hfin := heap_setCell_same w3 R 3 _ T (.int .i64 (rs.length : Int)) hg3
    have HH : Hid (Below B w0 (w3.setCell ⟨R, 3, none⟩ (.int .i64 (rs.length : Int))) ∧ (∀ b, b < w.heap.size → b ≠ R → (w3.setCell ⟨R, 3, none⟩ (.int .i64 (rs.length : Int))).heap[b]? = w.heap[b]?) ∧ w.heap.size ≤ (w3.setCell ⟨R, 3, none⟩ (.int .i64 (rs.length : Int))).heap.size ∧ ∃ ks', RdAt (w3.setCell ⟨R, 3, none⟩ (.int .i64 (rs.length : Int))) R ks' rs.length T X ∧ ks'.take rs.length = rs) := by
      have hsc : (w3.setCell ⟨R, 3, none⟩ (.int .i64 (rs.length : Int))).heap.size = w3.heap.size := by simp [World.setCell]
      refine ⟨hB3.setCell hBR _, fun b h1 h2 => by rw [Below.heap_setCell _ _ _ _ h2, ho3 b h2, hb.block b h1], by rw [hsc, hs3]; exact hb.size, rs ++ ks.drop rs.length, ⟨hkl, hrl, ?_⟩, by simp⟩
      rw [hfin, rd_set _ hkl]
    clear hw3 hcb hcb1 hck hck1 hadd HA HT HU hT hv hb2 hb hR hg2 hg3 ho3 hs3 hB3 hB2 hR3 hfin hnew hsz hks hkl hB
    go_wp2
    go_ret2
    exact ⟨rfl, HH.out⟩

end Go.Proofs.YtfbhpmafjehojaaGreatDoor.U1

namespace Go.Proofs.YtfbhpmafjehojaaGreatDoor.U1
open Go.RowKit

set_option maxRecDepth 100000 in
set_option maxHeartbeats 2000000 in
/-- End. -/
theorem end_any (R n : Nat) (T : TypeId) (X : List Value) (ks : List UInt8) (w0 w : World) (B : Nat) (hB : Below B w0 w) (hBR : B ≤ R) (hR : RdAt w R ks n T X) (hT : Lib.Utf8Tabs 0 1 w) :
    Calls Tryz.prog 35 #[.pointer (some ⟨R, 0, none⟩)] w fun e w' => e = .returned (.tuple #[.string ⟨(dec (ks.take n)).toArray⟩, .int .i64 0]) ∧ Below B w0 w' ∧
      (∀ b, b < w.heap.size → b ≠ R → w'.heap[b]? = w.heap[b]?) ∧ w.heap.size ≤ w'.heap.size ∧ ∃ ks', RdAt w' R ks' 0 T X := by
  have hn := hR.2.1
  have hcnt := hR.cnt
  have hlt : R < w.heap.size := lt_of_block hR.2.2
  have hun := untold_any R n hn w hcnt
  have hd := fun (W : World) (h1 : BytesIn W (.slice (some ⟨R, 0, none⟩) n 3) (ks.take n)) (h2 : Lib.Utf8Tabs 0 1 W) => decode_any (ks.take n) _ W (by simp; omega) h1 h2
  go_enter Tryz.func35, Tryz.ntmps35
  go_wp2_with fail
  refine hun.mono ?_
  rintro e w1 ⟨rfl, q, rfl⟩
  go_wp2_with fail
  refine (hd _ (hR.bytes (w := w.drewN q) 3) hT).mono ?_
  rintro e w2 ⟨rfl, hb2⟩
  have hb : Below w.heap.size w w2 := below_of_drewN hb2
  have hB2 : Below B w0 w2 := hB.trans (hb.mono (by omega))
  have hg2 : w2.heap[R]? = some (.cells (rdCells ks n X) T (0, 0)) := by rw [hb.block R hlt]; exact hR.2.2
  have hR2 : RdAt w2 R ks n T X := ⟨hR.1, hn, hg2⟩
  obtain ⟨x0, x1, x2, hx⟩ : ∃ x0 x1 x2, ks = [x0, x1, x2] := by
    match ks, hR.1 with
    | [x0, x1, x2], _ => exact ⟨_, _, _, rfl⟩
  have hc0 : w2.cell? ⟨R, 0, none⟩ = some (.int .u8 (x0.toNat : Int)) := by rw [cell_of hg2, hx]; rfl
  have hc1 : w2.cell? ⟨R, 1, none⟩ = some (.int .u8 (x1.toNat : Int)) := by rw [cell_of hg2, hx]; rfl
  have hc2 : w2.cell? ⟨R, 2, none⟩ = some (.int .u8 (x2.toNat : Int)) := by rw [cell_of hg2, hx]; rfl
  have hc3 : w2.cell? ⟨R, 3, none⟩ = some (.int .i64 (n : Int)) := hR2.cnt
  have hf0 := frozen_of_row w2 R 0 _ T hg2
  have hf1 := frozen_of_row w2 R 1 _ T hg2
  have hf2 := frozen_of_row w2 R 2 _ T hg2
  have hf3 := frozen_of_row w2 R 3 _ T hg2
  have h1 := heap_setCell_same w2 R 0 _ T (.int .u8 0) hg2
  have h2 := heap_setCell_same _ R 1 _ T (.int .u8 0) h1
  have h3 := heap_setCell_same _ R 2 _ T (.int .u8 0) h2
  have h4 := heap_setCell_same _ R 3 _ T (.int .i64 0) h3
  have HH : Hid (Below B w0 ((((w2.setCell ⟨R, 0, none⟩ (.int .u8 0)).setCell ⟨R, 1, none⟩ (.int .u8 0)).setCell ⟨R, 2, none⟩ (.int .u8 0)).setCell ⟨R, 3, none⟩ (.int .i64 0)) ∧
      (∀ b, b < w.heap.size → b ≠ R → ((((w2.setCell ⟨R, 0, none⟩ (.int .u8 0)).setCell ⟨R, 1, none⟩ (.int .u8 0)).setCell ⟨R, 2, none⟩ (.int .u8 0)).setCell ⟨R, 3, none⟩ (.int .i64 0)).heap[b]? = w.heap[b]?) ∧
      w.heap.size ≤ ((((w2.setCell ⟨R, 0, none⟩ (.int .u8 0)).setCell ⟨R, 1, none⟩ (.int .u8 0)).setCell ⟨R, 2, none⟩ (.int .u8 0)).setCell ⟨R, 3, none⟩ (.int .i64 0)).heap.size ∧
      ∃ ks', RdAt ((((w2.setCell ⟨R, 0, none⟩ (.int .u8 0)).setCell ⟨R, 1, none⟩ (.int .u8 0)).setCell ⟨R, 2, none⟩ (.int .u8 0)).setCell ⟨R, 3, none⟩ (.int .i64 0)) R ks' 0 T X) := by
    refine ⟨(((hB2.setCell hBR _).setCell hBR _).setCell hBR _).setCell hBR _, fun b g1 g2 => ?_, ?_, [0, 0, 0], rfl, Nat.zero_le _, ?_⟩
    · rw [Below.heap_setCell _ _ _ _ g2, Below.heap_setCell _ _ _ _ g2, Below.heap_setCell _ _ _ _ g2, Below.heap_setCell _ _ _ _ g2, hb.block b g1]
    · have := hb.size
      simpa [World.setCell] using this
    · rw [h4, hx]
      simp [rdCells, Lib.byteCells]
  clear h1 h2 h3 h4 hd hun hB hBR hR hT hcnt hg2 hR2 hB2 hb hb2 hx
  go_wp2
  go_ret2
  exact ⟨rfl, HH.out⟩

end Go.Proofs.YtfbhpmafjehojaaGreatDoor.U1
