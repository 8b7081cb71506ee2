/- Add: what stands behind what was added. -/
import Derived.Test.YtmdpilpghcapbaaWalkB
namespace Go.Proofs.Ytmdpilpghcapbaa
open Go.RowKit

theorem heap_setCell_same (w : World) (R j : Nat) (c : Array Value) (t : TypeId) (fr : Nat × Nat) (u : Value) (h : w.heap[R]? = some (.cells c t fr)) : (w.setCell ⟨R, j, none⟩ u).heap[R]? = some (.cells (c.setIfInBounds j u) t fr) := by
  simp only [World.setCell, Array.getElem?_modify, h]
  simp
theorem step_257_hid (n : Nat) (b : UInt8) (r : Nat) (hn : n ≤ 1000000006) (hr : stp 257 n b = r) : Hid (∀ W, Calls Try.prog 22 #[.int .u64 (n : Int), .int .u64 257, .int .u8 (b.toNat : Int)] W fun e w' => e = .returned (.int .u64 (r : Int)) ∧ W = w') :=
  Lib.hid fun W => by rw [← hr]; exact step_257 n b W hn
theorem step_65539_hid (n : Nat) (b : UInt8) (r : Nat) (hn : n ≤ 1000000006) (hr : stp 65539 n b = r) : Hid (∀ W, Calls Try.prog 22 #[.int .u64 (n : Int), .int .u64 65539, .int .u8 (b.toNat : Int)] W fun e w' => e = .returned (.int .u64 (r : Int)) ∧ W = w') :=
  Lib.hid fun W => by rw [← hr]; exact step_65539 n b W hn
theorem fold_take {s : ByteArray} {k : Nat} (h : k < s.size) (l : List UInt8) : l ++ s.data.toList.take (k + 1) = (l ++ s.data.toList.take k) ++ [s[k]] := by
  rw [take_snoc h, List.append_assoc]

set_option maxRecDepth 100000 in
set_option maxHeartbeats 1000000 in
theorem add_any (R B : Nat) (l : List UInt8) (s : ByteArray) (w0 w : World) (hB : Below B w0 w) (hBR : B ≤ R) (hR : MkAt w R l) (hl : l.length + s.size ≤ 1099511627776) :
    Calls Try.prog 19 #[.pointer (some ⟨R, 0, none⟩), .string s] w fun e w' => e = .returned (.int .i64 0) ∧ Below B w0 w' ∧ MkAt w' R (l ++ s.data.toList) ∧ w.heap.size ≤ w'.heap.size := by
  have hlt := hR.lt
  have hx0 := rx_lt l
  have hy0 := ry_lt l
  have HR := Lib.hid hR
  have H1 := rec_hid R l
  clear hR
  obtain ⟨x0, hX⟩ : ∃ x, x = rx l := ⟨_, rfl⟩
  obtain ⟨y0, hY⟩ : ∃ y, y = ry l := ⟨_, rfl⟩
  rw [← hX, ← hY] at H1
  rw [← hX] at hx0
  rw [← hY] at hy0
  have HX := Lib.hid hX
  have HY := Lib.hid hY
  clear hX hY
  go_enter Try.func19, Try.ntmps19
  go_wp2_with fail
  refine (H1.out _ HR.out).mono ?_
  rintro e w1 ⟨rfl, B1⟩
  go_wp2
  go_quiet (fail)
  have hgr : w.heap.size ≤ ((w1.alloc (.cells #[.int .u64 (x0 : Int), .int .u64 (y0 : Int)] 42)).drewN nq).heap.size := by
    show w.heap.size ≤ (w1.alloc (.cells #[.int .u64 (x0 : Int), .int .u64 (y0 : Int)] 42)).heap.size
    have := B1.size; simp; omega
  have hb2 : Below B w0 ((w1.alloc (.cells #[.int .u64 (x0 : Int), .int .u64 (y0 : Int)] 42)).drewN nq) :=
    hB.trans ((belowN (B1.alloc B1.size _) nq).mono (by omega))
  have hk2 := HR.out.below (belowN (B1.alloc B1.size (.cells #[.int .u64 (x0 : Int), .int .u64 (y0 : Int)] 42)) nq)
  generalize (w1.alloc (.cells #[.int .u64 (x0 : Int), .int .u64 (y0 : Int)] 42)).drewN nq = w2 at *
  obtain ⟨a, b, hblk, _⟩ := hk2
  have c0 := cell_of hblk 0
  have c1 := cell_of hblk 1
  have c2 := cell_of hblk 2
  have f0 := open_of hblk 0
  have f1 := open_of hblk 1
  have f2 := open_of hblk 2
  simp only [List.getElem?_toArray, List.getElem?_cons_zero, List.getElem?_cons_succ] at c0 c1 c2
  have HBLK := Lib.hid hblk
  clear hblk B1 hlt
  go_wp2
  go_loop [6, 7, 19] (fun x y i => ∃ k a b : Nat, k ≤ s.size ∧ i = .int .i64 k ∧ x = .int .u64 a ∧ y = .int .u64 b ∧ a ≤ 1000000006 ∧ b ≤ 1000000006 ∧ Hid (a = rx (l ++ s.data.toList.take k) ∧ b = ry (l ++ s.data.toList.take k))) (fun _ _ i => s.size - (intOf i).toNat)
  case atStart => exact ⟨0, x0, y0, Nat.zero_le _, rfl, rfl, rfl, hx0, hy0, Lib.hid ⟨by rw [HX.out]; simp, by rw [HY.out]; simp⟩⟩
  case round =>
    obtain ⟨k, p, q, hk, rfl, rfl, rfl, hp, hq, HS⟩ := hrel
    by_cases hlt : k < s.size
    · have hsn := fold_take hlt l
      have HN : Hid (stp 257 p s[k] = rx (l ++ s.data.toList.take (k + 1)) ∧ stp 65539 q s[k] = ry (l ++ s.data.toList.take (k + 1))) := Lib.hid (by
        rw [hsn, rx_snoc, ry_snoc, ← HS.out.1, ← HS.out.2]; exact ⟨rfl, rfl⟩)
      have hx2 := stp_lt 257 p s[k]
      have hy2 := stp_lt 65539 q s[k]
      have C1 := step_257_hid p s[k] _ hp rfl
      have C2 := step_65539_hid q s[k] _ hq rfl
      generalize stp 257 p s[k] = p2 at *
      generalize stp 65539 q s[k] = q2 at *
      clear hsn HS
      go_wp2_with (first
        | (go_at_call 22; (with_reducible refine (C1.out _).mono ?_); rintro e w' ⟨rfl, rfl⟩)
        | (go_at_call 22; (with_reducible refine (C2.out _).mono ?_); rintro e w' ⟨rfl, rfl⟩))
      go_round
      case rel => exact ⟨k + 1, p2, q2, by omega, by go_num, rfl, rfl, hx2, hy2, HN⟩
      case measure => simp [intOf]; omega
    · obtain rfl : k = s.size := by omega
      have HF : Hid (p = rx (l ++ s.data.toList) ∧ q = ry (l ++ s.data.toList)) := Lib.hid (by
        have := HS.out
        rw [List.take_of_length_le (by simp)] at this; exact this)
      clear HS
      go_wp2
      go_ret
      refine ⟨rfl, ((hb2.setCell hBR _).setCell hBR _).setCell hBR _, ⟨p, q, ?_, fun _ => HF.out⟩, ?_⟩
      · rw [heap_setCell_same _ R 2 _ 44 _ _ (heap_setCell_same _ R 1 _ 44 _ _ (heap_setCell_same _ R 0 _ 44 _ _ HBLK.out)), List.length_append, lsize]
        simp
      · simp only [World.setCell, Array.size_modify]; exact hgr

end Go.Proofs.Ytmdpilpghcapbaa
