/- The document's own: a node is taken from where it stands. The document's own: Cut. -/
import Derived.Test.YtcmbkhlnigbooaaDoMN
namespace Go.Proofs.Ytcmbkhlnigbooaa.Dm
open Go.RowKit

theorem par_ne {D : List Nd} (R : Right D) {n q : Nat} (hn : n < D.length) (hp : par D n = (q : Nat)) : q ≠ n := fun e => by
  have h := depN_up R hn
  rw [hp, e] at h
  omega
theorem noN_step {n : Nat} {C : List Int} {v : Nat} (h : v < C.length) : noN n (C.take (v + 1)) = noN n (C.take v) ++ if C[v] = (n : Int) then [] else [C[v]] := by
  rw [List.take_add_one, List.getElem?_eq_getElem h]
  unfold noN
  rw [List.filter_append]
  congr 1
  by_cases e : C[v] = (n : Int)
  · simp [e]
  · simp [e]
theorem noN_len (n : Nat) (C : List Int) : (noN n C).length ≤ C.length := List.length_filter_le _ _
set_option maxRecDepth 100000 in
set_option maxHeartbeats 16000000 in
theorem out_hid (D : List Nd) (R : Right D) (hf : FitD D) (n : Nat) (hn : n < D.length) : Hid (∀ W sl A K, DocIn W sl D A K → Calls Try.prog 70 #[.agg #[sl], .int .i64 (n : Int)] W fun e w' => ∃ sl', e = .returned (.agg #[sl']) ∧ OwnX w' W.heap.size sl' (cutM D n) ∧ Below W.heap.size W w') := Lib.hid fun w sl A K hd => by
  obtain ⟨a, c, rfl⟩ := hd.form
  have CO := own_hid D hf
  have hfl := hf.1
  have HF := Lib.hid hf
  have HRt := Lib.hid R
  have hpn := R.neg hn
  have al1 := (Below.refl w.heap.size w).alloc (Nat.le_refl _) (.cells #[.slice a D.length c] 24)
  have hb1 := new_block w (.cells #[.slice a D.length c] 24)
  have hs1 : (w.alloc (.cells #[.slice a D.length c] 24)).heap.size = w.heap.size + 1 := by simp
  generalize hw1 : w.alloc (.cells #[.slice a D.length c] 24) = w1 at al1 hb1 hs1
  have al2 := (Below.refl w1.heap.size w1).alloc (Nat.le_refl _) (.cells #[.slice none 0 0] 24)
  have hb2 := new_block w1 (.cells #[.slice none 0 0] 24)
  rw [hs1] at hb2
  generalize hw2 : w1.alloc (.cells #[.slice none 0 0] 24) = w2 at al2 hb2
  have hb1' := (al2.block _ (lt_of_block hb1)).trans hb1
  have hbel := al1.trans (al2.mono (by omega))
  have e0 := cell_of hb1' 0
  have H2 := Lib.hid (And.intro (hd.below hbel) (And.intro hb2 hbel))
  clear hd hf R al1 hb1 al2 hb2 hb1' hbel
  go_enter Try.func70, Try.ntmps70
  go_wp2_with fail
  (refine (CO.out _ _ _ _ H2.out.1).mono ?_)
  rintro e w3 ⟨sl', rfl, o3, b3⟩
  clear hw1 hw2 hs1 e0 CO
  obtain ⟨A2, K2, o3⟩ := o3
  obtain ⟨oa, oc, rfl⟩ := o3.form
  obtain ⟨g, rfl⟩ : ∃ g, oa = some ⟨g, 0, none⟩ := by
    rcases rowForms o3.row with ⟨_, h⟩ | ⟨g, cap, h⟩
    · omega
    · cases h
      exact ⟨g, rfl⟩
  have al4 := (Below.refl w3.heap.size w3).alloc (Nat.le_refl _) (.cells #[.slice (some ⟨g, 0, none⟩) D.length oc] 24)
  have hb4 := new_block w3 (.cells #[.slice (some ⟨g, 0, none⟩) D.length oc] 24)
  have b34 := b3.trans (al4.mono b3.size)
  have o4 := o3.below al4
  obtain ⟨X, hX⟩ : ∃ X, w3.heap.size = X := ⟨_, rfl⟩
  rw [hX] at hb4
  generalize hw4 : w3.alloc (.cells #[.slice (some ⟨g, 0, none⟩) D.length oc] 24) = w4 at al4 hb4 b34 o4
  have hX0 : w2.heap.size ≤ X := by rw [← hX]; exact b3.size
  have hR1 := lt_of_block H2.out.2.1
  have H4 : Hid (OwnD w4 w2.heap.size (.slice (some ⟨g, 0, none⟩) D.length oc) D A2 K2 ∧ w4.heap[X]? = some (.cells #[.slice (some ⟨g, 0, none⟩) D.length oc] 24 (0, 0)) ∧ w4.heap[w.heap.size + 1]? = some (.cells #[.slice none 0 0] 24 (0, 0)) ∧ Below w.heap.size w w4) := Lib.hid ⟨o4, hb4, (b34.block _ (lt_of_block H2.out.2.1)).trans H2.out.2.1, H2.out.2.2.trans (b34.mono H2.out.2.2.size)⟩
  have hwsz := H2.out.2.2.size
  have p0 := cell_of hb4 0
  obtain ⟨B', off', hB, c0, c1, c2, c3, c4, c5, c6, c7⟩ := o4.doc.node hn
  cases hB
  have zn : (n : Int) < (D.length : Int) := by omega
  rw [par_at hn] at hpn
  obtain ⟨y, hy⟩ : ∃ y, D[n].p = y := ⟨_, rfl⟩
  rw [hy] at c4 hpn
  clear b3 o3 al4 hb4 b34 o4 H2 c0 c1 c2 c3 c5 c6 c7
  simp only [Nat.zero_add] at c4
  rcases hpn with rfl | ⟨q, rfl, hq⟩
  · have H5X := H4.out.2.1
    obtain ⟨cur5, hg5, hB5⟩ := H4.out.1.block
    have hn5 : n < (D).length := hn
    obtain ⟨B5, off5, hBB, -, -, -, -, k4, -, -, -⟩ := H4.out.1.doc.node hn5
    cases hBB
    simp only [Nat.zero_add] at k4
    have f4 := open_of hg5 (n * 8 + 4)
    have kS : Kp (fun j _ => j = g) w4 (w4.setCell ⟨g, n * 8 + 4, none⟩ (.int .i64 (-1))) := Kp.of_set hg5 _ rfl
    have x6 := kS.cells H4.out.2.1 (fun e => by have e1 : X = g := e; rw [e1, hg5] at H5X; cases H5X)
    have r6 := kS.cells H4.out.2.2.1 (fun e => by have e1 : w.heap.size + 1 = g := e; omega)
    have o6 := H4.out.1.setP hn5 (-1)
    have p6 := cell_of x6 0
    have r60 := cell_of r6 0
    have f60 := open_of r6 0
    have q7 := heap_setCell_same _ (w.heap.size + 1) 0 _ _ _ (.slice (some ⟨g, 0, none⟩) D.length oc) r6
    have c0 : ((w4.setCell ⟨g, n * 8 + 4, none⟩ (.int .i64 (-1))).setCell ⟨w.heap.size + 1, 0, none⟩ (.slice (some ⟨g, 0, none⟩) D.length oc)).cell? ⟨w.heap.size + 1, 0, none⟩ = some (.slice (some ⟨g, 0, none⟩) D.length oc) := by rw [cell_of q7]; rfl
    have b6 := H4.out.2.2.2.trans (kS.below (fun j t e => by have e1 : j = g := e; omega) H4.out.2.2.2.size)
    have HE : Hid (cutM D n = D.set n { D[n] with p := -1 }) := Lib.hid (cut_same HRt.out hn (by rw [par_at hn, hy]))
    have HO : Hid (OwnX ((w4.setCell ⟨g, n * 8 + 4, none⟩ (.int .i64 (-1))).setCell ⟨w.heap.size + 1, 0, none⟩ (.slice (some ⟨g, 0, none⟩) D.length oc)) w.heap.size (.slice (some ⟨g, 0, none⟩) D.length oc) (cutM D n) ∧ Below w.heap.size w ((w4.setCell ⟨g, n * 8 + 4, none⟩ (.int .i64 (-1))).setCell ⟨w.heap.size + 1, 0, none⟩ (.slice (some ⟨g, 0, none⟩) D.length oc))) := Lib.hid ⟨by rw [HE.out]; exact ⟨_, _, (o6.setDoc r6).low hwsz⟩, b6.trans ((Kp.of_set (P := fun j _ => j = w.heap.size + 1) r6 _ rfl).below (fun j t e => by have e1 : j = w.heap.size + 1 := e; omega) b6.size)⟩
    clear hg5 kS x6 r6 o6 q7 b6 H4 H5X hy
    go_wp2
    exact bodyPost_ret (v := .agg #[.slice (some ⟨g, 0, none⟩) D.length oc]) (by simp [results, Try.results70, go_sem, c0]) rfl ⟨_, rfl, HO.out⟩
  · have hqn := par_ne HRt.out hn (by rw [par_at hn, hy])
    have HE : Hid (cutM D n = (D.set q { D[q] with c := noN n D[q].c }).set n { D[n] with p := -1 }) := Lib.hid (cut_other HRt.out hn (by rw [par_at hn, hy]) hq hqn)
    have zq0 : (0 : Int) ≤ (q : Int) := by omega
    have zq : (q : Int) < (D.length : Int) := by omega
    obtain ⟨B6, off6, hB6, -, -, -, -, -, k5, -, -⟩ := H4.out.1.doc.node hq
    cases hB6
    simp only [Nat.zero_add] at k5
    obtain ⟨ka, kc, hk⟩ := (H4.out.1.doc.kd q hq).form
    have hkin := H4.out.1.doc.kd q hq
    rw [hk] at k5 hkin
    have hlen : D[q].c.length ≤ 1000 := (HF.out.2 _ (List.getElem_mem hq)).2.2.2.1
    obtain ⟨C, hC⟩ : ∃ C, D[q].c = C := ⟨_, rfl⟩
    rw [hC] at k5 hkin hlen HE
    have HKin := Lib.hid hkin
    obtain ⟨i0, hi3, hz0, hz1, hz2⟩ := info_parts Tinfo3
    have H4B := H4.out.2.2.2.size
    clear hkin hk hC
    go_wp2
    go_loopw [7, 8] (fun lv i wr => ∃ (v : Nat), i = .int .i64 v ∧ v ≤ C.length ∧ Hid (wr.ownsRow w4.heap.size 3 1 lv (noN n (C.take v)).length (inC (noN n (C.take v))) ∧ Below w4.heap.size w4 wr)) (fun _ i _ => C.length - (intOf i).toNat)
    case atStart => exact ⟨0, rfl, Nat.zero_le _, Lib.hid ⟨World.ownsRow_nil _ _ _ _, Below.refl _ _⟩⟩
    case round =>
      obtain ⟨v, rfl, hv, HX⟩ := hrel
      have p0 := cell_of ((HX.out.2.block _ (lt_of_block H4.out.2.1)).trans H4.out.2.1) 0
      have k5 := (HX.out.2.cell (lt_of_cell k5)).trans k5
      by_cases hlv : v < C.length
      · obtain ⟨B2, off2, rfl, y0⟩ := (HKin.out.below HX.out.2).at hlv
        have zv : (v : Int) < (C.length : Int) := by omega
        have hst := noN_step (n := n) hlv
        have hnl := noN_len n (C.take v)
        have htl : (C.take v).length ≤ C.length := List.length_take_le' _ _
        obtain ⟨y, hy0⟩ : ∃ y, C[v] = y := ⟨_, rfl⟩
        rw [hy0] at y0 hst
        by_cases hyn : y = (n : Int)
        · rw [if_pos hyn, List.append_nil] at hst
          have g1 : (y != (n : Int)) = false := by simp [hyn]
          have HX2 : Hid (wr.ownsRow w4.heap.size 3 1 u7 (noN n (C.take (v + 1))).length (inC (noN n (C.take (v + 1)))) ∧ Below w4.heap.size w4 wr) := Lib.hid (by rw [hst]; exact HX.out)
          clear hst hyn hy0 HX
          go_wp2
          go_roundw
          case rel => exact ⟨v + 1, by go_num, by omega, HX2⟩
          case measure => simp [intOf]; omega
        · rw [if_neg hyn] at hst
          have g1 : (y != (n : Int)) = true := by simp [hyn]
          have HST := Lib.hid hst
          have al5 := (Below.refl wr.heap.size wr).alloc (Nat.le_refl _) (.cells #[.int .i64 y] 3)
          have hro := RowIn.made wr #[.int .i64 y] 3 1 1 rfl (fun x hx => by simp at hx; rw [hx]; rfl)
          have H5 := Lib.hid (And.intro hro (And.intro (row_below HX.out.1 al5) (HX.out.2.trans (al5.mono HX.out.2.size))))
          have hws := H5.out.2.2.size
          clear hro al5 hst hyn hy0 HX
          go_wp2_with (at_builtin
                       refine wpList_append_rowG rfl _ _ 33 3 i0 (.int .i64 0) 1 8 Try.underlying33 hi3 hz0 hz1 hz2 rfl (by decide) rfl w4.heap.size _ _ _ rfl H5.out.2.1 _ 1 _ rfl H5.out.1 (by unfold maxLen; omega) (by omega) hws ?_
                       intro v6 w6 hown6 hgrow6 hat6
                       have H6 : Hid (w6.ownsRow w4.heap.size 3 1 v6 (noN n (C.take (v + 1))).length (inC (noN n (C.take (v + 1)))) ∧ Below w4.heap.size w4 w6) := Lib.hid ⟨by rw [HST.out, List.length_append, inC_app]; exact hown6, Below.grown H5.out.2.2 hgrow6 hws (fun j hj => (H5.out.2.1.lt j hj).1)⟩
                       clear hown6 hgrow6 hat6 H5)
          go_roundw
          case rel => exact ⟨v + 1, by go_num, by omega, H6⟩
          case measure => simp [intOf]; omega
      · obtain rfl : v = C.length := by omega
        have hX := HX.out
        rw [List.take_length] at hX
        obtain ⟨la, lc, hl7⟩ := row_form hX.1
        subst hl7
        have oq := H4.out.1.below hX.2
        have xq := (hX.2.block _ (lt_of_block H4.out.2.1)).trans H4.out.2.1
        have rq := (hX.2.block _ (lt_of_block H4.out.2.2.1)).trans H4.out.2.2.1
        obtain ⟨curq, hgq, hBq⟩ := oq.block
        have fq := open_of hgq (q * 8 + 5)
        have kq : Kp (fun j _ => j = g) wr (wr.setCell ⟨g, q * 8 + 5, none⟩ (.slice la (noN n C).length lc)) := Kp.of_set hgq _ rfl
        have hfr : ∀ j, j < D.length → j ≠ q → ∀ k, (K2 j).ownBlock = some k → (Value.slice la (noN n C).length lc).ownBlock ≠ some k := fun j hj _ k h1 h2 => by
          have h3 := (row_block (H4.out.1.kd j hj) h1).choose_spec.2.2
          have h4 := (hX.1.lt k h2).1
          omega
        have o5 := oq.setK hq (row_low hX.1 (by have := lt_of_block H4.out.2.1; omega)) hfr
        obtain ⟨W5, hW5⟩ : ∃ W5, W5 = wr.setCell ⟨g, q * 8 + 5, none⟩ (.slice la (noN n C).length lc) := ⟨_, rfl⟩
        rw [← hW5] at kq o5
        obtain ⟨E, hEE⟩ : ∃ E, E = D.set q { D[q] with c := noN n C } := ⟨_, rfl⟩
        have hEl : E.length = D.length := by rw [hEE]; simp
        have hEn : ∀ (h : n < E.length), E[n] = D[n] := fun h => by subst hEE; rw [get_set h, if_neg hqn]
        rw [← hEE] at o5 HE
        rw [← hEl] at o5
        have H4Y : g ≠ X := fun e => by rw [← e, hgq] at xq; cases xq
        have HQ : Hid (OwnD W5 w2.heap.size (.slice (some ⟨g, 0, none⟩) E.length oc) E A2 (upd K2 q (.slice la (noN n C).length lc)) ∧ W5.heap[X]? = some (.cells #[.slice (some ⟨g, 0, none⟩) D.length oc] 24 (0, 0)) ∧ W5.heap[w.heap.size + 1]? = some (.cells #[.slice none 0 0] 24 (0, 0)) ∧ Below w.heap.size w W5) := Lib.hid ⟨o5, kq.cells xq (fun e => H4Y (by have e1 : X = g := e; omega)), kq.cells rq (fun e => by have e1 : w.heap.size + 1 = g := e; omega), (H4.out.2.2.2.trans (hX.2.mono H4B)).trans (kq.below (fun j t e => by have e1 : j = g := e; omega) (H4.out.2.2.2.trans (hX.2.mono H4B)).size)⟩
        have H5X := HQ.out.2.1
        have x5 := cell_of xq 0
        have y5 := cell_of HQ.out.2.1 0
        have HWe := Lib.hid hW5
        obtain ⟨cur5, hg5, hB5⟩ := HQ.out.1.block
        have hn5 : n < (E).length := by rw [hEl]; exact hn
        obtain ⟨B5, off5, hBB, -, -, -, -, k4, -, -, -⟩ := HQ.out.1.doc.node hn5
        cases hBB
        simp only [Nat.zero_add] at k4
        have f4 := open_of hg5 (n * 8 + 4)
        have kS : Kp (fun j _ => j = g) W5 (W5.setCell ⟨g, n * 8 + 4, none⟩ (.int .i64 (-1))) := Kp.of_set hg5 _ rfl
        have x6 := kS.cells HQ.out.2.1 (fun e => by have e1 : X = g := e; rw [e1, hg5] at H5X; cases H5X)
        have r6 := kS.cells HQ.out.2.2.1 (fun e => by have e1 : w.heap.size + 1 = g := e; omega)
        have o6 := HQ.out.1.setP hn5 (-1)
        have p6 := cell_of x6 0
        have r60 := cell_of r6 0
        have f60 := open_of r6 0
        have q7 := heap_setCell_same _ (w.heap.size + 1) 0 _ _ _ (.slice (some ⟨g, 0, none⟩) D.length oc) r6
        have c0 : ((W5.setCell ⟨g, n * 8 + 4, none⟩ (.int .i64 (-1))).setCell ⟨w.heap.size + 1, 0, none⟩ (.slice (some ⟨g, 0, none⟩) D.length oc)).cell? ⟨w.heap.size + 1, 0, none⟩ = some (.slice (some ⟨g, 0, none⟩) D.length oc) := by rw [cell_of q7]; rfl
        have b6 := HQ.out.2.2.2.trans (kS.below (fun j t e => by have e1 : j = g := e; omega) HQ.out.2.2.2.size)
        have HO : Hid (OwnX ((W5.setCell ⟨g, n * 8 + 4, none⟩ (.int .i64 (-1))).setCell ⟨w.heap.size + 1, 0, none⟩ (.slice (some ⟨g, 0, none⟩) D.length oc)) w.heap.size (.slice (some ⟨g, 0, none⟩) D.length oc) (cutM D n) ∧ Below w.heap.size w ((W5.setCell ⟨g, n * 8 + 4, none⟩ (.int .i64 (-1))).setCell ⟨w.heap.size + 1, 0, none⟩ (.slice (some ⟨g, 0, none⟩) D.length oc))) := Lib.hid ⟨by
          have o7 := (o6.setDoc (j := 0) (v := (.slice (some ⟨g, 0, none⟩) D.length oc)) r6).low hwsz
          rw [hEn hn5, hEl] at o7
          rw [HE.out]
          exact ⟨_, _, o7⟩, b6.trans ((Kp.of_set (P := fun j _ => j = w.heap.size + 1) r6 _ rfl).below (fun j t e => by have e1 : j = w.heap.size + 1 := e; omega) b6.size)⟩
        clear hg5 kS x6 r6 o6 q7 b6 H5X HQ hEE hEl hEn kq oq xq rq hgq hX HX H4Y
        subst hW5
        go_wp2
        exact bodyPost_ret (v := .agg #[.slice (some ⟨g, 0, none⟩) D.length oc]) (by simp [results, Try.results70, go_sem, c0]) rfl ⟨_, rfl, HO.out⟩

end Go.Proofs.Ytcmbkhlnigbooaa.Dm

namespace Go.Proofs.Ytcmbkhlnigbooaa.Dm
open Go.RowKit

def cutR (D : List Nd) (n : Int) : List Nd × Int := if checkM D ≠ 0 then ([], checkM D) else if 1 ≤ n ∧ n < (D.length : Int) then (cutM D n.toNat, 0) else ([], 170)
theorem cutR_e1 {D : List Nd} {n : Int} (h : checkM D ≠ 0) : cutR D n = ([], checkM D) := by unfold cutR; rw [if_pos h]
theorem cutR_e2 {D : List Nd} {n : Int} (h : checkM D = 0) (h2 : ¬ (1 ≤ n ∧ n < (D.length : Int))) : cutR D n = ([], 170) := by unfold cutR; rw [if_neg (by simp [h]), if_neg h2]
theorem cutR_ok {D : List Nd} {m : Nat} (h : checkM D = 0) (h1 : 1 ≤ m) (h2 : m < D.length) : cutR D (m : Int) = (cutM D m, 0) := by unfold cutR; rw [if_neg (by simp [h]), if_pos (by omega)]; rfl
set_option maxRecDepth 100000 in
set_option maxHeartbeats 16000000 in
theorem cut_hid (D : List Nd) (hf : FitD D) (n : Int) : Hid (∀ W sl A K, DocIn W sl D A K → Calls Try.prog 35 #[.agg #[sl], .int .i64 n] W fun e w' => ∃ sl', e = .returned (.tuple #[.agg #[sl'], .int .i64 (cutR D n).2]) ∧ OwnX w' W.heap.size sl' (cutR D n).1 ∧ Below W.heap.size W w') := Lib.hid fun w sl A K hd => by
  obtain ⟨a, c, rfl⟩ := hd.form
  have CK := check_hid D hf
  have CO := fun R m hm => out_hid D R hf m hm
  have hfl := hf.1
  have al1 := (Below.refl w.heap.size w).alloc (Nat.le_refl _) (.cells #[.slice a D.length c] 24)
  have hb1 := new_block w (.cells #[.slice a D.length c] 24)
  have hs1 : (w.alloc (.cells #[.slice a D.length c] 24)).heap.size = w.heap.size + 1 := by simp
  generalize hw1 : w.alloc (.cells #[.slice a D.length c] 24) = w1 at al1 hb1 hs1
  have al2 := (Below.refl w1.heap.size w1).alloc (Nat.le_refl _) (.cells #[.slice none 0 0] 24)
  have hb2 := new_block w1 (.cells #[.slice none 0 0] 24)
  rw [hs1] at hb2
  generalize hw2 : w1.alloc (.cells #[.slice none 0 0] 24) = w2 at al2 hb2
  have hb1' := (al2.block _ (lt_of_block hb1)).trans hb1
  have hbel := al1.trans (al2.mono (by omega))
  have e0 := cell_of hb1' 0
  have H2 := Lib.hid (And.intro hb1' (And.intro hb2 hbel))
  have HD := Lib.hid hd
  have HF := Lib.hid hf
  clear hd al1 hb1 al2 hb2 hb1' hbel hf
  go_enter Try.func35, Try.ntmps35
  go_wp2_with fail
  (refine (CK.out _ _ _ _ (HD.out.below H2.out.2.2)).mono ?_)
  rintro e w3 ⟨rfl, b3⟩
  clear hw1 hw2 hs1 e0 CK
  have H3 := Lib.hid (And.intro ((b3.block _ (lt_of_block H2.out.1)).trans H2.out.1) (And.intro ((b3.block _ (lt_of_block H2.out.2.1)).trans H2.out.2.1) (H2.out.2.2.trans (b3.mono H2.out.2.2.size))))
  clear b3 H2
  have e0 := cell_of H3.out.1 0
  by_cases hc : checkM D = 0
  case neg =>
    have HE := Lib.hid (cutR_e1 (n := n) hc)
    have g1 : (checkM D != 0) = true := by rw [bne_iff_ne]; exact hc
    clear CO
    have o2 := open_of H3.out.2.1 0
    have r2 := cell_of H3.out.2.1 0
    have q2 := heap_setCell_same w3 (w.heap.size + 1) 0 _ _ _ (.slice none 0 0) H3.out.2.1
    have c0 : (w3.setCell ⟨w.heap.size + 1, 0, none⟩ (.slice none 0 0)).cell? ⟨w.heap.size + 1, 0, none⟩ = some (.slice none 0 0) := by rw [cell_of q2]; rfl
    have HB : Hid (Below w.heap.size w (w3.setCell ⟨w.heap.size + 1, 0, none⟩ (.slice none 0 0))) := Lib.hid (H3.out.2.2.trans ((Kp.of_set (P := fun j _ => j = w.heap.size + 1) H3.out.2.1 _ rfl).below (fun j t e => by have e1 : j = w.heap.size + 1 := e; omega) H3.out.2.2.size))
    clear q2
    go_wp2
    exact bodyPost_ret (v := .tuple #[.agg #[.slice none 0 0], .int .i64 (checkM D)]) (by simp [results, Try.results35, go_sem, c0]) rfl ⟨_, by rw [HE.out], by rw [HE.out]; exact ⟨fun _ => .slice none 0 0, fun _ => .slice none 0 0, OwnD.nil _ _ _ _⟩, HB.out⟩
  have HRt := Lib.hid (check_right.1 hc)
  have hc0 := hc
  rw [hc]
  by_cases h1 : n < 1
  · have HE := Lib.hid (cutR_e2 (n := n) hc0 (fun h => by omega))
    clear CO
    have o2 := open_of H3.out.2.1 0
    have r2 := cell_of H3.out.2.1 0
    have q2 := heap_setCell_same w3 (w.heap.size + 1) 0 _ _ _ (.slice none 0 0) H3.out.2.1
    have c0 : (w3.setCell ⟨w.heap.size + 1, 0, none⟩ (.slice none 0 0)).cell? ⟨w.heap.size + 1, 0, none⟩ = some (.slice none 0 0) := by rw [cell_of q2]; rfl
    have HB : Hid (Below w.heap.size w (w3.setCell ⟨w.heap.size + 1, 0, none⟩ (.slice none 0 0))) := Lib.hid (H3.out.2.2.trans ((Kp.of_set (P := fun j _ => j = w.heap.size + 1) H3.out.2.1 _ rfl).below (fun j t e => by have e1 : j = w.heap.size + 1 := e; omega) H3.out.2.2.size))
    clear q2
    go_wp2
    exact bodyPost_ret (v := .tuple #[.agg #[.slice none 0 0], .int .i64 170]) (by simp [results, Try.results35, go_sem, c0]) rfl ⟨_, by rw [HE.out], by rw [HE.out]; exact ⟨fun _ => .slice none 0 0, fun _ => .slice none 0 0, OwnD.nil _ _ _ _⟩, HB.out⟩
  by_cases h2 : (D.length : Int) ≤ n
  · have HE := Lib.hid (cutR_e2 (n := n) hc0 (fun h => by omega))
    clear CO
    have o2 := open_of H3.out.2.1 0
    have r2 := cell_of H3.out.2.1 0
    have q2 := heap_setCell_same w3 (w.heap.size + 1) 0 _ _ _ (.slice none 0 0) H3.out.2.1
    have c0 : (w3.setCell ⟨w.heap.size + 1, 0, none⟩ (.slice none 0 0)).cell? ⟨w.heap.size + 1, 0, none⟩ = some (.slice none 0 0) := by rw [cell_of q2]; rfl
    have HB : Hid (Below w.heap.size w (w3.setCell ⟨w.heap.size + 1, 0, none⟩ (.slice none 0 0))) := Lib.hid (H3.out.2.2.trans ((Kp.of_set (P := fun j _ => j = w.heap.size + 1) H3.out.2.1 _ rfl).below (fun j t e => by have e1 : j = w.heap.size + 1 := e; omega) H3.out.2.2.size))
    clear q2
    go_wp2
    exact bodyPost_ret (v := .tuple #[.agg #[.slice none 0 0], .int .i64 170]) (by simp [results, Try.results35, go_sem, c0]) rfl ⟨_, by rw [HE.out], by rw [HE.out]; exact ⟨fun _ => .slice none 0 0, fun _ => .slice none 0 0, OwnD.nil _ _ _ _⟩, HB.out⟩
  obtain ⟨m, rfl⟩ : ∃ m : Nat, n = (m : Int) := ⟨n.toNat, by omega⟩
  have hm : m < D.length := by omega
  have HE := Lib.hid (cutR_ok (m := m) hc0 (by omega) hm)
  have CO := CO HRt.out m hm
  go_wp2_with fail
  (refine (CO.out _ _ _ _ (HD.out.below H3.out.2.2)).mono ?_)
  rintro e w4 ⟨sl', rfl, o4, b4⟩
  have H4 := Lib.hid (And.intro ((b4.block _ (lt_of_block H3.out.2.1)).trans H3.out.2.1) (H3.out.2.2.trans (b4.mono H3.out.2.2.size)))
  obtain ⟨A2, K2, o4⟩ := o4
  obtain ⟨oa, oc, rfl⟩ := o4.form
  rw [cut_len] at o4
  rw [cut_len]
  have o2 := open_of H4.out.1 0
  have r2 := cell_of H4.out.1 0
  have q2 := heap_setCell_same w4 (w.heap.size + 1) 0 _ _ _ (.slice oa D.length oc) H4.out.1
  have c0 : (w4.setCell ⟨w.heap.size + 1, 0, none⟩ (.slice oa D.length oc)).cell? ⟨w.heap.size + 1, 0, none⟩ = some (.slice oa D.length oc) := by rw [cell_of q2]; rfl
  have HO : Hid (OwnX (w4.setCell ⟨w.heap.size + 1, 0, none⟩ (.slice oa D.length oc)) w.heap.size (.slice oa D.length oc) (cutM D m) ∧ Below w.heap.size w (w4.setCell ⟨w.heap.size + 1, 0, none⟩ (.slice oa D.length oc))) := Lib.hid ⟨⟨_, _, (o4.setDoc H4.out.1).low H3.out.2.2.size⟩, H4.out.2.trans ((Kp.of_set (P := fun j _ => j = w.heap.size + 1) H4.out.1 _ rfl).below (fun j t e => by have e1 : j = w.heap.size + 1 := e; omega) H4.out.2.size)⟩
  clear q2 b4 o4 H4
  go_wp2
  exact bodyPost_ret (v := .tuple #[.agg #[(.slice oa D.length oc)], .int .i64 0]) (by simp [results, Try.results35, go_sem, c0]) rfl ⟨_, by rw [HE.out], by rw [HE.out]; exact HO.out.1, HO.out.2⟩

end Go.Proofs.Ytcmbkhlnigbooaa.Dm
