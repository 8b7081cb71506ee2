/- A directive of a part: the document's. -/
import Derived.Test.YtmlanlagnhnppaaDoorRefHG
namespace Go.Proofs.YtmlanlagnhnppaaDoor
open Go.RowKit

/-- A part's directive: name, words, and whether it has a name. -/
def dirP (s : List UInt8) : List UInt8 × List (List UInt8) × Bool := match words s with | [] => ([], [], false) | n :: ws => (low n, (ws.take 200).filter wordH, nameH (low n))
theorem dirP_some {s : List UInt8} {d : D} (h : dirM s = some d) : dirP s = (d.n, d.w, true) := by
  unfold dirM at h
  unfold dirP
  split at h
  · cases h
  · rename_i n ws hw
    rw [hw]
    split at h
    · rename_i hn
      obtain rfl := Option.some.inj h
      show (low n, _, nameH (low n)) = _
      rw [hn]
    · cases h
theorem dirP_none {s : List UInt8} (h : dirM s = none) : (dirP s).2.2 = false := by
  unfold dirM at h
  unfold dirP
  split at h
  · rename_i hw; rw [hw]
  · rename_i n ws hw
    rw [hw]
    split at h
    · cases h
    · rename_i hn; simpa using hn
def keptW (ws : List (List UInt8)) (k : Nat) : List (List UInt8) := (ws.take k).filter wordH
theorem keptW_succ {ws : List (List UInt8)} {k : Nat} (h : k < ws.length) : keptW ws (k + 1) = if wordH ws[k] = true then keptW ws k ++ [ws[k]] else keptW ws k := by
  unfold keptW
  rw [List.take_succ_eq_append_getElem h, List.filter_append]
  split
  · rename_i hw; simp [hw]
  · rename_i hw; simp [hw]

theorem ownsRow_base {w : World} {b base : Nat} {e : TypeId} {size : Nat} {v : Value} {n : Nat} {xs : List Value} (h : w.ownsRow base e size v n xs) (hb : b ≤ base) : w.ownsRow b e size v n xs := by
  refine ⟨h.1, ?_⟩
  rcases h.2 with h | ⟨g, cap, cur, h1, h2, h3⟩
  · exact .inl h
  · exact .inr ⟨g, cap, cur, h1, Nat.le_trans hb h2, h3⟩
theorem keptW_all (ws : List (List UInt8)) (h : ws.length ≤ 200) : keptW ws ws.length = keptW ws 200 := by
  unfold keptW; rw [List.take_length, List.take_of_length_le h]

set_option maxRecDepth 100000 in
set_option maxHeartbeats 8000000 in
theorem refDir_none (s : ByteArray) (hs : s.size ≤ 1000000000) (hw : words s.data.toList = []) (w : World) : Calls Tryd.prog 26 #[.string s] w fun e w' => e = .returned (.tuple #[.agg #[.string ⟨#[]⟩, .slice none 0 0], .bool false]) ∧ Below w.heap.size w w' := by
  have CW := fun W => refWords_any s W (by omega)
  rw [hw] at CW
  have HCW := Lib.hid CW
  clear CW hw
  go_enter Tryd.func26, Tryd.ntmps26
  go_wp2_with fail
  have x1 := new_block w (.cells #[.string ⟨#[]⟩, .slice none 0 0] 42)
  have B1 : Below w.heap.size w (w.alloc (.cells #[.string ⟨#[]⟩, .slice none 0 0] 42)) := (Below.refl _ _).alloc (Nat.le_refl _) _
  generalize hR : w.heap.size = R at x1 B1 ⊢
  have HR := Lib.hid hR
  clear hR
  generalize w.alloc (.cells #[.string ⟨#[]⟩, .slice none 0 0] 42) = w1 at x1 B1 ⊢
  refine (HCW.out _).mono ?_
  rintro e w2 ⟨v, rfl, tv, b2⟩
  obtain ⟨a, c, rfl⟩ := tv.form
  have x2 : w2.heap[R]? = some (.cells #[.string ⟨#[]⟩, .slice none 0 0] 42) := by rw [b2.block R (lt_of_block x1)]; exact x1
  have B2 := B1.trans (b2.mono (Nat.le_of_lt (lt_of_block x1)))
  have q0 : w2.cell? ⟨R, 0, none⟩ = some (.string ⟨#[]⟩) := by rw [cell_of x2]; rfl
  have q1 : w2.cell? ⟨R, 1, none⟩ = some (.slice none 0 0) := by rw [cell_of x2]; rfl
  have f0 := open_of x2 0
  have f1 := open_of x2 1
  have bz : Below R w ((w2.setCell ⟨R, 0, none⟩ (.string ⟨#[]⟩)).setCell ⟨R, 1, none⟩ (.slice none 0 0)) := (B2.setCell (Nat.le_refl _) _).setCell (Nat.le_refl _) _
  have ez := heap_setCell_same _ R 1 _ _ _ (.slice none 0 0) (heap_setCell_same _ R 0 _ _ _ (.string ⟨#[]⟩) x2)
  have HZ := Lib.hid (And.intro bz ez)
  clear x1 B1 b2 tv HCW x2 B2 bz ez
  go_wp2
  obtain ⟨bz, ez⟩ := HZ.out
  clear q0 q1 f0 f1
  generalize (w2.setCell ⟨R, 0, none⟩ (.string ⟨#[]⟩)).setCell ⟨R, 1, none⟩ (.slice none 0 0) = wz at bz ez ⊢
  have z0 : wz.cell? ⟨R, 0, none⟩ = some (.string ⟨#[]⟩) := by rw [cell_of ez]; rfl
  have z1 : wz.cell? ⟨R, 1, none⟩ = some (.slice none 0 0) := by rw [cell_of ez]; rfl
  exact bodyPost_ret (v := .tuple #[.agg #[.string ⟨#[]⟩, .slice none 0 0], .bool false]) (by simp [results, Tryd.results26, go_sem, z0, z1]) rfl ⟨rfl, by rw [HR.out]; exact bz⟩

set_option maxRecDepth 100000 in
set_option maxHeartbeats 8000000 in
theorem refDir_some (s : ByteArray) (hs : s.size ≤ 1000000000) (n : List UInt8) (ws : List (List UInt8)) (hw : words s.data.toList = n :: ws) (N : ByteArray) (hN : N.data.toList = low n) (w : World) : Calls Tryd.prog 26 #[.string s] w fun e w' => ∃ u, e = .returned (.tuple #[.agg #[.string N, u], .bool (nameH (low n))]) ∧ w'.ownsRow w.heap.size 9 1 u (keptW ws 200).length (txtCells (keptW ws 200)) ∧ Below w.heap.size w w' := by
  have CW := fun W => refWords_any s W (by omega)
  have hwt := words_total s.data.toList
  have hwl : ∀ x ∈ n :: ws, x.length ≤ 1000000000 := fun x hx => by
    have h1 := mem_len (n :: ws) x hx
    rw [hw, lsize] at hwt
    omega
  have hcnt : ws.length ≤ 1000000000 := by
    rw [hw, lsize] at hwt
    have := hwt.2
    rw [List.length_cons] at this
    omega
  rw [hw] at CW
  have HCW := Lib.hid CW
  obtain ⟨X, hX⟩ := text_of n
  have CL := refLower_hid X N (by rw [hX]; exact hN) (by rw [← lsize, hX]; have := hwl n (by simp); omega)
  obtain ⟨nb, hnb⟩ : ∃ b, nameH (low n) = b := ⟨_, rfl⟩
  rw [hnb]
  have CN := refName_hid N nb (by rw [hN]; exact hnb)
  have HX : Hid (strV n = .string X) := Lib.hid (by rw [text_is hX]; rfl)
  have hwl2 : ∀ j, (h : j < ws.length) → ws[j].length ≤ 1000000000 := fun j h => hwl _ (List.mem_cons_of_mem _ (List.getElem_mem h))
  have HWL := Lib.hid hwl2
  clear CW hw hwt hwl hX hN hnb hwl2
  obtain ⟨i0, hi, hz0, hz1, hz2⟩ := info_parts Tinfo9
  go_enter Tryd.func26, Tryd.ntmps26
  go_wp2_with fail
  have x1 := new_block w (.cells #[.string ⟨#[]⟩, .slice none 0 0] 42)
  have B1 : Below w.heap.size w (w.alloc (.cells #[.string ⟨#[]⟩, .slice none 0 0] 42)) := (Below.refl _ _).alloc (Nat.le_refl _) _
  generalize hR : w.heap.size = R at x1 B1 ⊢
  have HR := Lib.hid hR
  clear hR
  generalize w.alloc (.cells #[.string ⟨#[]⟩, .slice none 0 0] 42) = w1 at x1 B1 ⊢
  refine (HCW.out _).mono ?_
  rintro e w2 ⟨v, rfl, tv, b2⟩
  have x2 : w2.heap[R]? = some (.cells #[.string ⟨#[]⟩, .slice none 0 0] 42) := by rw [b2.block R (lt_of_block x1)]; exact x1
  have B2 := B1.trans (b2.mono (Nat.le_of_lt (lt_of_block x1)))
  rcases tv with ⟨_, h0⟩ | ⟨Bv, off, cap, rfl, tc⟩
  · cases h0
  have k0 : w2.cell? ⟨Bv, off, none⟩ = some (.string X) := by
    have := tc 0 (by simp)
    rw [Nat.add_zero] at this
    rw [this]
    exact congrArg some HX.out
  have hln : (n :: ws).length = ws.length + 1 := rfl
  rw [hln]
  have HTC : Hid (∀ j, (h : j < ws.length) → w2.cell? ⟨Bv, off + (j + 1), none⟩ = some (strV ws[j])) := Lib.hid fun j h => by
    have := tc (j + 1) (by rw [List.length_cons]; omega)
    exact this
  have g0 : (((ws.length + 1 : Nat) : Int) == 0) = false := by rw [beq_eq_false_iff_ne]; omega
  clear x1 B1 b2 HCW tc hln
  go_wp2_with fail
  refine (CL.out _).mono ?_
  rintro e w3 ⟨rfl, b3⟩
  have x3 : w3.heap[R]? = some (.cells #[.string ⟨#[]⟩, .slice none 0 0] 42) := by rw [b3.block R (lt_of_block x2)]; exact x2
  have B3 := B2.trans (b3.mono (Nat.le_of_lt (lt_of_block x2)))
  have HTC3 : Hid (∀ j, (h : j < ws.length) → w3.cell? ⟨Bv, off + (j + 1), none⟩ = some (strV ws[j])) := Lib.hid fun j h => by
    have := HTC.out j h
    rw [b3.cell (lt_of_cell this)]; exact this
  clear k0 x2 B2 b3 HTC CL
  go_wp2
  have xd := new_block w3 (.cells #[.string N, .slice none 0 0] 42)
  have bd : Below w3.heap.size w3 (w3.alloc (.cells #[.string N, .slice none 0 0] 42)) := (Below.refl _ _).alloc (Nat.le_refl _) _
  have hsd : (w3.alloc (.cells #[.string N, .slice none 0 0] 42)).heap.size = w3.heap.size + 1 := by show (w3.heap.push _).size = _; simp
  have hRd : R < w3.heap.size := lt_of_block x3
  generalize hDd : w3.heap.size = Dd at xd bd hsd hRd ⊢
  have HDd := Lib.hid hDd
  generalize w3.alloc (.cells #[.string N, .slice none 0 0] 42) = w4 at xd bd hsd ⊢
  have x4 : w4.heap[R]? = some (.cells #[.string ⟨#[]⟩, .slice none 0 0] 42) := by rw [bd.block R hRd]; exact x3
  have B4 : Below R w w4 := B3.trans (bd.mono (Nat.le_of_lt hRd))
  have HTC4 : Hid (∀ j, (h : j < ws.length) → w4.cell? ⟨Bv, off + (j + 1), none⟩ = some (strV ws[j]) ∧ Bv < Dd) := Lib.hid fun j h => by
    have := HTC3.out j h
    have hb : Bv < Dd := by have := lt_of_cell this; rw [hDd] at this; exact this
    exact ⟨by rw [bd.cell hb]; exact this, hb⟩
  have own0 := World.ownsRow_nil w4 (Dd + 1) 9 1
  clear hDd x3 B3 HTC3 bd
  have HBASE := Lib.hid (And.intro x4 (And.intro B4 hRd))
  clear x4 B4
  go_loopw [6] (fun i wr => ∃ (k : Nat) (u : Value), k ≤ ws.length ∧ k ≤ 200 ∧ i = .int .i64 (k + 1 : Nat) ∧ wr.heap[Dd]? = some (.cells #[.string N, u] 42) ∧ wr.ownsRow (Dd + 1) 9 1 u (keptW ws k).length (txtCells (keptW ws k)) ∧ Below Dd w4 wr) (fun i _ => ws.length + 1 - (intOf i).toNat)
  case atStart => exact ⟨0, _, Nat.zero_le _, Nat.zero_le _, rfl, xd, own0, Below.refl _ _⟩
  case round =>
    obtain ⟨k, u, hk, hk2, rfl, xd, hown, hb⟩ := hrel
    obtain ⟨x4, B4, hRd⟩ := HBASE.out
    obtain ⟨a5, c5, hu5⟩ := (TextsIn.of_row hown).form
    obtain ⟨L5, hL5⟩ : ∃ L, (keptW ws k).length = L := ⟨_, rfl⟩
    rw [hL5] at hu5
    subst hu5
    have HL5 := Lib.hid hL5
    clear hL5
    have HBR : Hid (wr.heap[R]? = some (.cells #[.string ⟨#[]⟩, .slice none 0 0] 42)) := Lib.hid (by rw [hb.block R hRd]; exact x4)
    have d0 : wr.cell? ⟨Dd, 0, none⟩ = some (.string N) := by rw [cell_of xd]; rfl
    have d1 : wr.cell? ⟨Dd, 1, none⟩ = some (.slice a5 L5 c5) := by rw [cell_of xd]; rfl
    have HXD := Lib.hid xd
    have HO := Lib.hid hown
    have HB := Lib.hid hb
    clear x4 B4 xd hown hb own0
    by_cases hlt : k < ws.length
    case neg =>
      obtain rfl : k = ws.length := by omega
      have e0 := open_of HBR.out 0
      have e1 := open_of HBR.out 1
      have r0 : wr.cell? ⟨R, 0, none⟩ = some (.string ⟨#[]⟩) := by rw [cell_of HBR.out]; rfl
      have r1 : wr.cell? ⟨R, 1, none⟩ = some (.slice none 0 0) := by rw [cell_of HBR.out]; rfl
      have ez := heap_setCell_same _ R 1 _ _ _ (.slice a5 L5 c5) (heap_setCell_same _ R 0 _ _ _ (.string N) HBR.out)
      have HE := Lib.hid ez
      clear ez
      have e0' : wr.drew.frozen? ⟨R, 0, none⟩ = false := open_of HBR.out 0
      have e1' : wr.drew.frozen? ⟨R, 1, none⟩ = false := open_of HBR.out 1
      have r0' : wr.drew.cell? ⟨R, 0, none⟩ = some (.string ⟨#[]⟩) := r0
      have r1' : wr.drew.cell? ⟨R, 1, none⟩ = some (.slice none 0 0) := r1
      go_wp2_with fail
      go_region_with ((go_at_call 45; (with_reducible refine (CN.out _).mono ?_); rintro e w' ⟨rfl, rfl⟩))
      all_goals
        have HKW : Hid (keptW ws 200 = keptW ws ws.length) := Lib.hid ((keptW_all ws (by omega)).symm)
        go_wp2
        have oz := ownsRow_base (b := R) (ownsRow_setCell_below (ownsRow_setCell_below HO.out (a := ⟨R, 0, none⟩) (by have := HBASE.out.2.2; show R < Dd + 1; omega) (.string N)) (a := ⟨R, 1, none⟩) (by have := HBASE.out.2.2; show R < Dd + 1; omega) (.slice a5 L5 c5)) (by have := HBASE.out.2.2; omega)
        have bz : Below R w ((wr.setCell ⟨R, 0, none⟩ (.string N)).setCell ⟨R, 1, none⟩ (.slice a5 L5 c5)) := (((HBASE.out.2.1.trans (HB.out.mono (by have := HBASE.out.2.2; omega))).setCell (Nat.le_refl _) _).setCell (Nat.le_refl _) _)
        have z0 : ((wr.setCell ⟨R, 0, none⟩ (.string N)).setCell ⟨R, 1, none⟩ (.slice a5 L5 c5)).drew.cell? ⟨R, 0, none⟩ = some (.string N) := by
          show ((wr.setCell ⟨R, 0, none⟩ (.string N)).setCell ⟨R, 1, none⟩ (.slice a5 L5 c5)).cell? ⟨R, 0, none⟩ = some (.string N)
          rw [cell_of HE.out]; rfl
        have z1 : ((wr.setCell ⟨R, 0, none⟩ (.string N)).setCell ⟨R, 1, none⟩ (.slice a5 L5 c5)).drew.cell? ⟨R, 1, none⟩ = some (.slice a5 L5 c5) := by
          show ((wr.setCell ⟨R, 0, none⟩ (.string N)).setCell ⟨R, 1, none⟩ (.slice a5 L5 c5)).cell? ⟨R, 1, none⟩ = some (.slice a5 L5 c5)
          rw [cell_of HE.out]; rfl
        have OZ : Hid (((wr.setCell ⟨R, 0, none⟩ (.string N)).setCell ⟨R, 1, none⟩ (.slice a5 L5 c5)).drew.ownsRow R 9 1 (.slice a5 L5 c5) (keptW ws ws.length).length (txtCells (keptW ws ws.length))) := Lib.hid oz
        have BZ := Lib.hid bz.drew
        clear oz bz e0 e1 r0 r1 e0' e1' r0' r1' d0 d1 HE
        generalize ((wr.setCell ⟨R, 0, none⟩ (.string N)).setCell ⟨R, 1, none⟩ (.slice a5 L5 c5)).drew = wz at z0 z1 OZ BZ ⊢
        exact bodyPost_ret (v := .tuple #[.agg #[.string N, .slice a5 L5 c5], .bool nb]) (by simp [results, Tryd.results26, go_sem, z0, z1]) rfl ⟨_, rfl, by rw [HR.out, HKW.out]; exact OZ.out, by rw [HR.out]; exact BZ.out⟩
    by_cases h200 : k < 200
    case neg =>
      obtain rfl : k = 200 := by omega
      have e0 := open_of HBR.out 0
      have e1 := open_of HBR.out 1
      have r0 : wr.cell? ⟨R, 0, none⟩ = some (.string ⟨#[]⟩) := by rw [cell_of HBR.out]; rfl
      have r1 : wr.cell? ⟨R, 1, none⟩ = some (.slice none 0 0) := by rw [cell_of HBR.out]; rfl
      have ez := heap_setCell_same _ R 1 _ _ _ (.slice a5 L5 c5) (heap_setCell_same _ R 0 _ _ _ (.string N) HBR.out)
      have HE := Lib.hid ez
      clear ez
      have e0' : wr.drew.frozen? ⟨R, 0, none⟩ = false := open_of HBR.out 0
      have e1' : wr.drew.frozen? ⟨R, 1, none⟩ = false := open_of HBR.out 1
      have r0' : wr.drew.cell? ⟨R, 0, none⟩ = some (.string ⟨#[]⟩) := r0
      have r1' : wr.drew.cell? ⟨R, 1, none⟩ = some (.slice none 0 0) := r1
      go_wp2_with fail
      go_region_with ((go_at_call 45; (with_reducible refine (CN.out _).mono ?_); rintro e w' ⟨rfl, rfl⟩))
      all_goals
        go_wp2
        have oz := ownsRow_base (b := R) (ownsRow_setCell_below (ownsRow_setCell_below HO.out (a := ⟨R, 0, none⟩) (by have := HBASE.out.2.2; show R < Dd + 1; omega) (.string N)) (a := ⟨R, 1, none⟩) (by have := HBASE.out.2.2; show R < Dd + 1; omega) (.slice a5 L5 c5)) (by have := HBASE.out.2.2; omega)
        have bz : Below R w ((wr.setCell ⟨R, 0, none⟩ (.string N)).setCell ⟨R, 1, none⟩ (.slice a5 L5 c5)) := (((HBASE.out.2.1.trans (HB.out.mono (by have := HBASE.out.2.2; omega))).setCell (Nat.le_refl _) _).setCell (Nat.le_refl _) _)
        have z0 : ((wr.setCell ⟨R, 0, none⟩ (.string N)).setCell ⟨R, 1, none⟩ (.slice a5 L5 c5)).drew.cell? ⟨R, 0, none⟩ = some (.string N) := by
          show ((wr.setCell ⟨R, 0, none⟩ (.string N)).setCell ⟨R, 1, none⟩ (.slice a5 L5 c5)).cell? ⟨R, 0, none⟩ = some (.string N)
          rw [cell_of HE.out]; rfl
        have z1 : ((wr.setCell ⟨R, 0, none⟩ (.string N)).setCell ⟨R, 1, none⟩ (.slice a5 L5 c5)).drew.cell? ⟨R, 1, none⟩ = some (.slice a5 L5 c5) := by
          show ((wr.setCell ⟨R, 0, none⟩ (.string N)).setCell ⟨R, 1, none⟩ (.slice a5 L5 c5)).cell? ⟨R, 1, none⟩ = some (.slice a5 L5 c5)
          rw [cell_of HE.out]; rfl
        have OZ : Hid (((wr.setCell ⟨R, 0, none⟩ (.string N)).setCell ⟨R, 1, none⟩ (.slice a5 L5 c5)).drew.ownsRow R 9 1 (.slice a5 L5 c5) (keptW ws 200).length (txtCells (keptW ws 200))) := Lib.hid oz
        have BZ := Lib.hid bz.drew
        clear oz bz e0 e1 r0 r1 e0' e1' r0' r1' d0 d1 HE
        generalize ((wr.setCell ⟨R, 0, none⟩ (.string N)).setCell ⟨R, 1, none⟩ (.slice a5 L5 c5)).drew = wz at z0 z1 OZ BZ ⊢
        exact bodyPost_ret (v := .tuple #[.agg #[.string N, .slice a5 L5 c5], .bool nb]) (by simp [results, Tryd.results26, go_sem, z0, z1]) rfl ⟨_, rfl, by rw [HR.out]; exact OZ.out, by rw [HR.out]; exact BZ.out⟩
    obtain ⟨kx, hBv⟩ := HTC4.out k hlt
    have hxl := HWL.out k hlt
    have HK := Lib.hid (keptW_succ hlt)
    generalize ws[k] = x at *
    unfold strV at kx
    obtain ⟨Y, hY⟩ : ∃ Y : ByteArray, Y = ⟨x.toArray⟩ := ⟨_, rfl⟩
    rw [← hY] at kx
    have hYx : Y.data.toList = x := by rw [hY]
    have ky : wr.cell? ⟨Bv, off + (k + 1), none⟩ = some (.string Y) := by rw [HB.out.cell hBv]; exact kx
    obtain ⟨wb, hwb⟩ : ∃ b, wordH x = b := ⟨_, rfl⟩
    have CW := refWord_hid Y wb (by rw [hYx]; exact hwb) (by rw [← lsize, hYx]; omega)
    have HY := Lib.hid hY
    rw [hwb] at HK
    clear hY hYx hxl kx hwb
    have hix : ((k + 1 : Nat) : Int) < ((ws.length + 1 : Nat) : Int) := by omega
    cases wb
    · have HM : Hid (keptW ws (k + 1) = keptW ws k) := Lib.hid (by rw [HK.out]; rfl)
      go_wp2_with (go_at_call 44; (with_reducible refine (CW.out _).mono ?_); rintro e w' ⟨rfl, rfl⟩)
      go_roundw
      case rel => exact ⟨k + 1, _, by omega, by omega, by go_num, HXD.out, by rw [HM.out]; exact HO.out, HB.out⟩
      case measure => simp [intOf]; omega
    · have HM : Hid (keptW ws (k + 1) = keptW ws k ++ [x]) := Lib.hid (by rw [HK.out]; rfl)
      have hl5 : L5 ≤ ws.length := by
        have := HL5.out
        have h2 := List.length_filter_le wordH (ws.take k)
        rw [List.length_take] at h2
        unfold keptW at this
        omega
      have f1 : wr.drew.frozen? ⟨Dd, 1, none⟩ = false := open_of HXD.out 1
      have hDl : Dd < wr.heap.size := lt_of_block HXD.out
      have hsz : Dd + 1 ≤ wr.drew.heap.size := hDl
      have OD : Hid (wr.drew.ownsRow (Dd + 1) 9 1 (.slice a5 L5 c5) L5 (txtCells (keptW ws k))) := Lib.hid (by have := HO.out; rw [HL5.out] at this; exact this)
      go_wp2_with (go_at_call 44; (with_reducible refine (CW.out _).mono ?_); rintro e wr ⟨rfl, rfl⟩)
      have hk0 : (0 : Int) ≤ (k : Int) + 1 := by omega
      go_region_law ((refine step_append_lies _ (by rfl) (.tmp 34) (.tmp 39) 32 (by rfl) (Dd + 1) 9 i0 (.string ⟨#[]⟩) 1 16 Tryd.underlying32 hi hz0 hz1 hz2 rfl (by decide) _ _ _ (by rfl) (OD.out.alloc _) ⟨wr.heap.size, 0, none⟩ 1 1 [.string Y] (by rfl) rfl (World.news_of_block (new_block _ _)) (by intro q hq; simp at hq; subst hq; rfl) (by decide) (by unfold maxLen; omega) (by omega) (by have := hsz; simp at this ⊢; omega) _ rfl ?_
                      intro g cap6 w6 hown6 hgrow6 hat6 hlt6
                      have y6 : w6.heap[Dd]? = some (.cells #[.string N, .slice a5 L5 c5] 42) := by
                        rw [hgrow6.block Dd (by have := hDl; simp; omega) (fun e => by have := (OD.out.lt Dd e.symm).1; omega)]
                        exact (Below.heap_alloc wr.drew _ Dd hDl).trans HXD.out
                      have s6 : w6.cell? ⟨Dd, 1, none⟩ = some (.slice a5 L5 c5) := by rw [cell_of y6]; rfl
                      have t6 : w6.frozen? ⟨Dd, 1, none⟩ = false := open_of y6 1))
      all_goals
        have z6 := heap_setCell_same _ Dd 1 _ _ _ (.slice (some ⟨g, 0, none⟩) (L5 + 1) cap6) y6
        have o6 := ownsRow_setCell_below hown6 (a := ⟨Dd, 1, none⟩) (Nat.lt_succ_self Dd) (.slice (some ⟨g, 0, none⟩) (L5 + 1) cap6)
        have b6 : Below Dd w4 (w6.setCell ⟨Dd, 1, none⟩ (.slice (some ⟨g, 0, none⟩) (L5 + 1) cap6)) := (Below.grown ((HB.out.drew).alloc (Nat.le_of_lt hDl) _) hgrow6 (by have := hDl; simp; omega) (fun q hq => by have := (OD.out.lt q hq).1; omega)).setCell (Nat.le_refl _) _
        have HZ6 := Lib.hid (And.intro z6 (And.intro o6 b6))
        clear z6 o6 b6 y6 s6 t6 hown6 hgrow6 hat6 hlt6 f1 d0 d1 ky
        go_wp2
        go_roundw
        case rel =>
          refine ⟨k + 1, _, by omega, by omega, by go_num, HZ6.out.1, ?_, HZ6.out.2.2⟩
          have e1 : (keptW ws (k + 1)).length = L5 + 1 := by rw [HM.out, List.length_append, HL5.out]; rfl
          have e2 : txtCells (keptW ws (k + 1)) = txtCells (keptW ws k) ++ [.string Y] := by rw [HM.out, txtCells_snoc, HY.out]; rfl
          rw [e1, e2]
          exact HZ6.out.2.1
        case measure => simp [intOf]; omega

end Go.Proofs.YtmlanlagnhnppaaDoor
