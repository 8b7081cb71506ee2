/- A policy in memory of its own: the document's. -/
import Derived.Test.YtmlanlagnhnppaaDoorOwnRows
import Derived.Deep.AppendLies
import Derived.Deep.RegionLaw
import Derived.Shelf.Strings.FieldsFuncAny
namespace Go.Proofs.YtmlanlagnhnppaaDoor
open Go.RowKit

theorem TinfoD : (Tryd.prog.info? 42).map (fun i => (i.zero, i.size, i.bytes)) = some (some (.agg #[.string ⟨#[]⟩, .slice none 0 0]), 2, 40) := by kernel_rfl
set_option maxRecDepth 100000 in
/-- Texts in a row of their own. -/
theorem refOwn_row (p : List (List UInt8)) (v : Value) (w : World) (hp : TextsIn w v p) (hl : p.length ≤ 1000000) : Calls Tryd.prog 28 #[v] w fun e w' => ∃ u, e = .returned u ∧ w'.ownsRow w.heap.size 9 1 u p.length (txtCells p) ∧ Below w.heap.size w w' := by
  have hown := World.ownsRow_nil w w.heap.size 9 1
  have HO := Lib.hid hown
  have HP := Lib.hid hp
  clear hown hp
  go_enter Tryd.func28, Tryd.ntmps28
  go_wp2_with (at_builtin; refine wpList_append_in rfl _ _ rfl w.heap.size _ 0 [] rfl HO.out _ p rfl HP.out (by omega) (Nat.le_refl _) ?_; intro v1 w1 hown1 hgr1
               have X : Aside (w1.ownsRow w.heap.size 9 1 v1 p.length (txtCells p) ∧ Below w.heap.size w w1) := ⟨by rw [Nat.zero_add] at hown1; exact hown1, Below.grown (Below.refl _ _) hgr1 (Nat.le_refl _) (fun k hk => by cases hk)⟩
               clear hown1 hgr1)
  go_ret
  exact ⟨_, rfl, X.out.1, X.out.2⟩

set_option maxRecDepth 100000 in
set_option maxHeartbeats 8000000 in
theorem refOwn8_any (ds : List D) (dv : Value) (r : Bool) (w : World) (hd : DirsIn w dv ds) (hl : ds.length ≤ 1000000) (hws : ∀ d ∈ ds, d.w.length ≤ 1000000) :
    Calls Tryd.prog 14 #[polV dv r] w fun e w' => ∃ v, e = .returned (polV v r) ∧ OwnD w' (w.heap.size + 2) v ds ∧ Below w.heap.size w w' := by
  obtain ⟨a, c, rfl⟩ := hd.form
  unfold polV
  obtain ⟨i0, hi, hz0, hz1, hz2⟩ := info_parts TinfoD
  go_enter Tryd.func14, Tryd.ntmps14
  go_wp2
  have xn := new_block w (.cells #[.slice a ds.length c, .bool r] 29)
  have xz := new_block (w.alloc (.cells #[.slice a ds.length c, .bool r] 29)) (.cells #[.slice none 0 0, .bool false] 29)
  have hsz : (w.alloc (.cells #[.slice a ds.length c, .bool r] 29)).heap.size = w.heap.size + 1 := by show (w.heap.push _).size = _; simp
  have xy : ((w.alloc (.cells #[.slice a ds.length c, .bool r] 29)).alloc (.cells #[.slice none 0 0, .bool false] 29)).heap[w.heap.size]? = some (.cells #[.slice a ds.length c, .bool r] 29) := by
    rw [((Below.refl (w.alloc (.cells #[.slice a ds.length c, .bool r] 29)).heap.size (w.alloc (.cells #[.slice a ds.length c, .bool r] 29))).alloc (Nat.le_refl _) (.cells #[.slice none 0 0, .bool false] 29)).block _ (lt_of_block xn)]; exact xn
  have BB : Below w.heap.size w ((w.alloc (.cells #[.slice a ds.length c, .bool r] 29)).alloc (.cells #[.slice none 0 0, .bool false] 29)) := ((Below.refl _ _).alloc (Nat.le_refl _) _).alloc (Below.size ((Below.refl w.heap.size w).alloc (Nat.le_refl _) _)) _
  have hd2 := hd.below BB
  have hs2 : ((w.alloc (.cells #[.slice a ds.length c, .bool r] 29)).alloc (.cells #[.slice none 0 0, .bool false] 29)).heap.size = w.heap.size + 2 := by show ((w.alloc _).heap.push _).size = _; rw [Array.size_push, hsz]
  rw [hsz] at xz
  clear xn hsz hd
  generalize hR : w.heap.size = R at xy xz BB hs2 ⊢
  have HR := Lib.hid hR
  clear hR
  generalize (w.alloc (.cells #[.slice a ds.length c, .bool r] 29)).alloc (.cells #[.slice none 0 0, .bool false] 29) = w2 at xy xz BB hs2 hd2 ⊢
  have HD := Lib.hid hd2
  have B2 : Below (R + 2) w2 w2 := Below.refl _ _
  clear hd2
  have HXY := Lib.hid (And.intro xy (And.intro xz (And.intro BB hs2)))
  clear xy xz BB hs2
  go_loopw [3, 4] (fun v i wr => ∃ k : Nat, k ≤ ds.length ∧ i = .int .i64 k ∧ Below (R + 2) w2 wr ∧ OwnD wr (R + 2) v (ds.take k)) (fun _ i _ => ds.length - (intOf i).toNat)
  case atStart => exact ⟨0, Nat.zero_le _, rfl, B2, OwnD.nil _ _⟩
  case round =>
    clear B2
    obtain ⟨k, hk, rfl, hb, ho⟩ := hrel
    obtain ⟨xy, xz, BB, hs2⟩ := HXY.out
    have c0 : wr.cell? ⟨R, 0, none⟩ = some (.slice a ds.length c) := by rw [hb.cell (show R < R + 2 by omega), cell_of xy]; rfl
    have ydd : DirsIn wr (.slice a ds.length c) ds := HD.out.below (by rw [hs2]; exact hb)
    have hsr : R + 2 ≤ wr.heap.size := by have := hb.size; omega
    clear xy xz BB hs2
    by_cases hlt : k < ds.length
    · obtain ⟨B, off, u, rfl, k1, k2, k3⟩ := ydd.at hlt
      have hw1 := hws _ (List.getElem_mem hlt)
      have HT : Hid (ds.take (k + 1) = ds.take k ++ [ds[k]]) := Lib.hid (List.take_succ_eq_append_getElem hlt)
      generalize ds[k] = d at *
      unfold strV at k1
      obtain ⟨X, hX⟩ : ∃ X : ByteArray, X = ⟨d.n.toArray⟩ := ⟨_, rfl⟩
      rw [← hX] at k1
      have HX := Lib.hid hX
      have CO := Lib.hid (refOwn_row d.w u wr.drew k3 hw1)
      obtain ⟨cs, ho1, ho2⟩ := ho
      have hlen : (ds.take k).length = k := by rw [List.length_take]; omega
      rw [hlen] at ho1
      have HO1 := Lib.hid ho1
      have HO2 := Lib.hid ho2
      have HB := Lib.hid hb
      clear hX k3 ydd hlen ho1 ho2 hb
      go_wp2_with fail
      go_region_law (first
        | (go_simp
           go_at_call 28
           (with_reducible refine CO.out.mono ?_)
           rintro e w4 ⟨u4, rfl, t4, b4⟩
           obtain ⟨a4, c4, rfl⟩ := (TextsIn.of_row t4).form
           have b5 : Below wr.heap.size wr w4 := ((Below.refl wr.heap.size wr).drew).trans (b4.mono (Nat.le_refl wr.heap.size))
           have d1 : w4.cell? ⟨B, off + k * 2, none⟩ = some (.string X) := (b5.cell (show B < wr.heap.size from lt_of_cell k1)).trans k1
           have d2 : w4.cell? ⟨B, off + k * 2 + 1, none⟩ = some u := (b5.cell (show B < wr.heap.size from lt_of_cell k2)).trans k2
           have d3 : w4.cell? ⟨R, 0, none⟩ = some (.slice (some ⟨B, off, none⟩) ds.length c) := (b5.cell (show R < wr.heap.size from lt_of_cell c0)).trans c0
           have O4 := Lib.hid (ownsRow_below HO1.out b5)
           have T4 := Lib.hid t4
           have B5 := Lib.hid b5
           clear t4 b4 b5)
        | (refine step_append_lies _ (by rfl) (.tmp 12) (.tmp 27) 27 (by rfl) (R + 2) 42 i0 (.agg #[.string ⟨#[]⟩, .slice none 0 0]) 2 40 Tryd.underlying27 hi hz0 hz1 hz2 rfl (by decide) _ _ _ (by rfl) (O4.out.alloc _) ⟨w4.heap.size, 0, none⟩ 1 1 [.string X, .slice a4 d.w.length c4] (by rfl) rfl (World.news_of_block (new_block _ _)) (by intro u hu; simp at hu; rcases hu with rfl | rfl <;> rfl) (by decide) (by unfold maxLen; omega) (by omega) (by have := B5.out.size; simp; omega) _ rfl ?_
           intro g cap w6 hown hgrow hat hlt6))
      all_goals
        have hlt0 : ∀ q, u3.ownBlock = some q → R + 2 ≤ q ∧ q < wr.heap.size := HO1.out.lt
        have bA : Below w4.heap.size w4 (w4.alloc (.cells #[.string X, .slice a4 d.w.length c4] 42)) := (Below.refl _ _).alloc (Nat.le_refl _) _
        have tb : TextsBy w4 (R + 2) u3.ownBlock (.slice a4 d.w.length c4) d.w := TextsBy.of_row T4.out hsr (fun q hq => (hlt0 q hq).2)
        have on : OwnD w6 (R + 2) (.slice (some ⟨g, 0, none⟩) (k + 1) cap) (ds.take k ++ [d]) := by
          refine OwnD.grow d (.slice a4 d.w.length c4) ((HO2.out.below B5.out).below bA) (tb.below bA) ?_ hgrow ?_
          · rw [show (ds.take k).length = k by rw [List.length_take]; omega]
            have e : strV d.n = .string X := by rw [HX.out]; rfl
            rw [e]
            exact hown
          · rcases hat with h | h
            · exact .inl h.symm
            · exact .inr (by rw [h]; rfl)
        have bn : Below (R + 2) w2 w6 := Below.grown ((HB.out.trans (B5.out.mono hsr)).alloc (Nat.le_trans hsr B5.out.size) _) hgrow (Nat.le_trans (Nat.le_trans hsr B5.out.size) bA.size) (fun q hq => (hlt0 q hq).1)
        have ON := Lib.hid on
        have BN := Lib.hid bn
        clear hlt0 bA tb on bn hown hgrow hat hlt6 O4 T4 B5 CO d1 d2 d3 k1 k2 c0
        go_wp2
        go_roundw
        case rel => exact ⟨k + 1, by omega, by go_num, BN.out, by rw [HT.out]; exact ON.out⟩
        case measure => simp [intOf]; omega
    · obtain rfl : k = ds.length := by omega
      rw [List.take_length] at ho
      have e0 : wr.heap[R]? = some (.cells #[.slice a ds.length c, .bool r] 29) := by rw [hb.block R (by omega)]; exact HXY.out.1
      have e1 : wr.heap[R + 1]? = some (.cells #[.slice none 0 0, .bool false] 29) := by rw [hb.block (R + 1) (by omega)]; exact HXY.out.2.1
      have hbw : Below R w wr := HXY.out.2.2.1.trans (hb.mono (Nat.le_add_right R 2))
      obtain ⟨a3, c3, rfl⟩ := ho.in.form
      have q0 : wr.cell? ⟨R, 0, none⟩ = some (.slice a ds.length c) := by rw [cell_of e0]; rfl
      have q1 : wr.cell? ⟨R, 1, none⟩ = some (.bool r) := by rw [cell_of e0]; rfl
      have f0 := open_of e0 0
      have p0 : wr.cell? ⟨R + 1, 0, none⟩ = some (.slice none 0 0) := by rw [cell_of e1]; rfl
      have p1 : wr.cell? ⟨R + 1, 1, none⟩ = some (.bool false) := by rw [cell_of e1]; rfl
      have g0 := open_of e1 0
      have g1 := open_of e1 1
      have y0 := heap_setCell_same wr R 0 _ _ _ (.slice a3 ds.length c3) e0
      have y1 : (wr.setCell ⟨R, 0, none⟩ (.slice a3 ds.length c3)).heap[R + 1]? = some (.cells #[.slice none 0 0, .bool false] 29) := by
        rw [Below.heap_setCell _ _ _ _ (by simp)]; exact e1
      have HO := Lib.hid ho
      have HBW := Lib.hid hbw
      have HE0 := Lib.hid e0
      have HE1 := Lib.hid e1
      clear ho hbw hb c0
      go_wp2
      have oz : OwnD (((wr.setCell ⟨R, 0, none⟩ (.slice a3 ds.length c3)).setCell ⟨R + 1, 0, none⟩ (.slice a3 ds.length c3)).setCell ⟨R + 1, 1, none⟩ (.bool r)) (R + 2) (.slice a3 ds.length c3) ds := ((HO.out.set (by simp) _).set (by simp) _).set (by simp) _
      have bz : Below R w (((wr.setCell ⟨R, 0, none⟩ (.slice a3 ds.length c3)).setCell ⟨R + 1, 0, none⟩ (.slice a3 ds.length c3)).setCell ⟨R + 1, 1, none⟩ (.bool r)) := ((HBW.out.setCell (Nat.le_refl _) _).setCell (Nat.le_succ R) _).setCell (Nat.le_succ R) _
      have ez := heap_setCell_same _ (R + 1) 1 _ _ _ (.bool r) (heap_setCell_same _ (R + 1) 0 _ _ _ (.slice a3 ds.length c3) y1)
      clear q0 q1 f0 p0 p1 g0 g1 y0 y1 e0 e1
      generalize ((wr.setCell ⟨R, 0, none⟩ (.slice a3 ds.length c3)).setCell ⟨R + 1, 0, none⟩ (.slice a3 ds.length c3)).setCell ⟨R + 1, 1, none⟩ (.bool r) = wz at oz bz ez ⊢
      have z0 : wz.cell? ⟨R + 1, 0, none⟩ = some (.slice a3 ds.length c3) := by rw [cell_of ez]; rfl
      have z1 : wz.cell? ⟨R + 1, 1, none⟩ = some (.bool r) := by rw [cell_of ez]; rfl
      exact bodyPost_ret (v := .agg #[.slice a3 ds.length c3, .bool r]) (by simp [results, Tryd.results14, go_sem, z0, z1]) rfl ⟨_, rfl, by rw [HR.out]; exact oz, by rw [HR.out]; exact bz⟩

end Go.Proofs.YtmlanlagnhnppaaDoor
