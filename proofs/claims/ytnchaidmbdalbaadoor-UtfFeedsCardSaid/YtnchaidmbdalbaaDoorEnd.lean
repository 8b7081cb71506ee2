/- The Reader's End; New. -/
import Derived.Test.YtnchaidmbdalbaaDoorFeed
namespace Go.Proofs.YtnchaidmbdalbaaDoor
open Go.RowKit

set_option maxRecDepth 100000 in
theorem new_any (w : World) : Calls Tryd.prog 18 #[] w fun e w' => e = .returned (.pointer (some ⟨w.heap.size, 0, none⟩)) ∧ w' = w.alloc (.cells (rdCells [0, 0, 0] 0) 52) := by
  go_enter Tryd.func18, Tryd.ntmps18
  go_wp2
  go_ret
  exact ⟨rfl, rfl⟩

set_option maxRecDepth 100000 in
set_option maxHeartbeats 2000000 in
/-- End. -/
theorem end_any (R n : Nat) (ks : List UInt8) (w0 w : World) (B : Nat) (hB : Below B w0 w) (hBR : B ≤ R) (hR : RdAt w R ks n) (hT : Lib.Utf8Tabs 0 1 w) :
    Calls Tryd.prog 21 #[.pointer (some ⟨R, 0, none⟩)] w fun e w' => e = .returned (.tuple #[.string ⟨(dec (ks.take n)).toArray⟩, .int .i64 0]) ∧ Below B w0 w' ∧
      (∀ b, b < w.heap.size → b ≠ R → w'.heap[b]? = w.heap[b]?) ∧ w.heap.size ≤ w'.heap.size ∧ ∃ ks', RdAt w' R ks' 0 := by
  have hn := hR.2.1
  have hcnt := hR.cnt
  have hlt : R < w.heap.size := lt_of_block hR.2.2
  have hun := untold_any R n hn w hcnt
  have hd := fun (W : World) (h1 : BytesIn W (.slice (some ⟨R, 0, none⟩) n 3) (ks.take n)) (h2 : Lib.Utf8Tabs 0 1 W) => decode_any (ks.take n) _ W (by simp; omega) h1 h2
  go_enter Tryd.func21, Tryd.ntmps21
  go_wp2_with fail
  refine hun.mono ?_
  rintro e w1 ⟨rfl, q, rfl⟩
  go_wp2_with fail
  refine (hd _ (hR.bytes (w := w.drewN q) 3) hT).mono ?_
  rintro e w2 ⟨rfl, hb2⟩
  have hb : Below w.heap.size w w2 := below_of_drewN hb2
  have hB2 : Below B w0 w2 := hB.trans (hb.mono (by omega))
  have hg2 : w2.heap[R]? = some (.cells (rdCells ks n) 52 (0, 0)) := by rw [hb.block R hlt]; exact hR.2.2
  have hR2 : RdAt w2 R ks n := ⟨hR.1, hn, hg2⟩
  obtain ⟨x0, x1, x2, hx⟩ : ∃ x0 x1 x2, ks = [x0, x1, x2] := by
    match ks, hR.1 with
    | [x0, x1, x2], _ => exact ⟨_, _, _, rfl⟩
  have hc0 : w2.cell? ⟨R, 0, none⟩ = some (.int .u8 (x0.toNat : Int)) := by rw [cell_of hg2, hx]; rfl
  have hc1 : w2.cell? ⟨R, 1, none⟩ = some (.int .u8 (x1.toNat : Int)) := by rw [cell_of hg2, hx]; rfl
  have hc2 : w2.cell? ⟨R, 2, none⟩ = some (.int .u8 (x2.toNat : Int)) := by rw [cell_of hg2, hx]; rfl
  have hc3 : w2.cell? ⟨R, 3, none⟩ = some (.int .i64 (n : Int)) := hR2.cnt
  have hf0 := frozen_of_row w2 R 0 _ 52 hg2
  have hf1 := frozen_of_row w2 R 1 _ 52 hg2
  have hf2 := frozen_of_row w2 R 2 _ 52 hg2
  have hf3 := frozen_of_row w2 R 3 _ 52 hg2
  have h1 := heap_setCell_same w2 R 0 _ 52 (.int .u8 0) hg2
  have h2 := heap_setCell_same _ R 1 _ 52 (.int .u8 0) h1
  have h3 := heap_setCell_same _ R 2 _ 52 (.int .u8 0) h2
  have h4 := heap_setCell_same _ R 3 _ 52 (.int .i64 0) h3
  have HH : Hid (Below B w0 ((((w2.setCell ⟨R, 0, none⟩ (.int .u8 0)).setCell ⟨R, 1, none⟩ (.int .u8 0)).setCell ⟨R, 2, none⟩ (.int .u8 0)).setCell ⟨R, 3, none⟩ (.int .i64 0)) ∧
      (∀ b, b < w.heap.size → b ≠ R → ((((w2.setCell ⟨R, 0, none⟩ (.int .u8 0)).setCell ⟨R, 1, none⟩ (.int .u8 0)).setCell ⟨R, 2, none⟩ (.int .u8 0)).setCell ⟨R, 3, none⟩ (.int .i64 0)).heap[b]? = w.heap[b]?) ∧
      w.heap.size ≤ ((((w2.setCell ⟨R, 0, none⟩ (.int .u8 0)).setCell ⟨R, 1, none⟩ (.int .u8 0)).setCell ⟨R, 2, none⟩ (.int .u8 0)).setCell ⟨R, 3, none⟩ (.int .i64 0)).heap.size ∧
      ∃ ks', RdAt ((((w2.setCell ⟨R, 0, none⟩ (.int .u8 0)).setCell ⟨R, 1, none⟩ (.int .u8 0)).setCell ⟨R, 2, none⟩ (.int .u8 0)).setCell ⟨R, 3, none⟩ (.int .i64 0)) R ks' 0) := by
    refine ⟨(((hB2.setCell hBR _).setCell hBR _).setCell hBR _).setCell hBR _, fun b g1 g2 => ?_, ?_, [0, 0, 0], rfl, Nat.zero_le _, ?_⟩
    · rw [Below.heap_setCell _ _ _ _ g2, Below.heap_setCell _ _ _ _ g2, Below.heap_setCell _ _ _ _ g2, Below.heap_setCell _ _ _ _ g2, hb.block b g1]
    · have := hb.size
      simpa [World.setCell] using this
    · rw [h4, hx]
      rfl
  clear h1 h2 h3 h4 hd hun hB hBR hR hT hcnt hg2 hR2 hB2 hb hb2 hx
  go_wp2
  go_ret2
  exact ⟨rfl, HH.out⟩

end Go.Proofs.YtnchaidmbdalbaaDoor
