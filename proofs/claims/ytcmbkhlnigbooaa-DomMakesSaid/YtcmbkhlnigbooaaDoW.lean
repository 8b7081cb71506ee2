/- The document's own: Set. -/
import Derived.Test.YtcmbkhlnigbooaaPdUV
namespace Go.Proofs.Ytcmbkhlnigbooaa.Dm
open Go.RowKit

set_option maxRecDepth 100000 in
set_option maxHeartbeats 16000000 in
theorem set_hid (D : List Nd) (hf : FitD D) (n : Int) (nm vl : ByteArray) : Hid (∀ W sl A K, DocIn W sl D A K → Calls Try.prog 37 #[.agg #[sl], .int .i64 n, .string nm, .string vl] W fun e w' => ∃ sl', e = .returned (.tuple #[.agg #[sl'], .int .i64 (setR D n nm.data.toList vl.data.toList).2]) ∧ OwnX w' W.heap.size sl' (setR D n nm.data.toList vl.data.toList).1 ∧ Below W.heap.size W w') := Lib.hid fun w sl A K hd => by
  obtain ⟨a, c, rfl⟩ := hd.form
  have CK := check_hid D hf
  have CO := own_hid D hf
  have hfl := hf.1
  have al1 := (Below.refl w.heap.size w).alloc (Nat.le_refl _) (.cells #[.slice a D.length c] 24)
  have hb1 := new_block w (.cells #[.slice a D.length c] 24)
  have hs1 : (w.alloc (.cells #[.slice a D.length c] 24)).heap.size = w.heap.size + 1 := by simp
  generalize hw1 : w.alloc (.cells #[.slice a D.length c] 24) = w1 at al1 hb1 hs1
  have al2 := (Below.refl w1.heap.size w1).alloc (Nat.le_refl _) (.cells #[.slice none 0 0] 24)
  have hb2 := new_block w1 (.cells #[.slice none 0 0] 24)
  rw [hs1] at hb2
  generalize hw2 : w1.alloc (.cells #[.slice none 0 0] 24) = w2 at al2 hb2
  have hb1' := (al2.block _ (lt_of_block hb1)).trans hb1
  have hbel := al1.trans (al2.mono (by omega))
  have e0 := cell_of hb1' 0
  have H2 := Lib.hid (And.intro hb1' (And.intro hb2 hbel))
  have HD := Lib.hid hd
  have HF := Lib.hid hf
  clear hd al1 hb1 al2 hb2 hb1' hbel hf
  go_enter Try.func37, Try.ntmps37
  go_wp2_with fail
  (refine (CK.out _ _ _ _ (HD.out.below H2.out.2.2)).mono ?_)
  rintro e w3 ⟨rfl, b3⟩
  clear hw1 hw2 hs1 e0 CK
  have H3 := Lib.hid (And.intro ((b3.block _ (lt_of_block H2.out.1)).trans H2.out.1) (And.intro ((b3.block _ (lt_of_block H2.out.2.1)).trans H2.out.2.1) (H2.out.2.2.trans (b3.mono H2.out.2.2.size))))
  clear b3 H2
  have e0 := cell_of H3.out.1 0
  by_cases hc : checkM D = 0
  case neg =>
    have g1 : (checkM D != 0) = true := by rw [bne_iff_ne]; exact hc
    have HE := Lib.hid (setR_e1 (n := n) (name := nm.data.toList) (v := vl.data.toList) hc)
    clear CO
    have o2 := open_of H3.out.2.1 0
    have r2 := cell_of H3.out.2.1 0
    have q2 := heap_setCell_same w3 (w.heap.size + 1) 0 _ _ _ (.slice none 0 0) H3.out.2.1
    have c0 : (w3.setCell ⟨w.heap.size + 1, 0, none⟩ (.slice none 0 0)).cell? ⟨w.heap.size + 1, 0, none⟩ = some (.slice none 0 0) := by rw [cell_of q2]; rfl
    have HB : Hid (Below w.heap.size w (w3.setCell ⟨w.heap.size + 1, 0, none⟩ (.slice none 0 0))) := Lib.hid (H3.out.2.2.trans ((Kp.of_set (P := fun j _ => j = w.heap.size + 1) H3.out.2.1 _ rfl).below (fun j t e => by have e1 : j = w.heap.size + 1 := e; omega) H3.out.2.2.size))
    clear q2
    go_wp2
    exact bodyPost_ret (v := .tuple #[.agg #[.slice none 0 0], .int .i64 (checkM D)]) (by simp [results, Try.results37, go_sem, c0]) rfl ⟨_, by rw [HE.out], by rw [HE.out]; exact ⟨fun _ => .slice none 0 0, fun _ => .slice none 0 0, OwnD.nil _ _ _ _⟩, HB.out⟩
  have HRt := Lib.hid (check_right.1 hc)
  have hc0 := hc
  rw [hc]
  by_cases h1 : n < 0
  · skip
    have HE := Lib.hid (setR_e2 (n := n) (name := nm.data.toList) (v := vl.data.toList) hc0 (fun h => by have := h.1; omega))
    clear CO
    have o2 := open_of H3.out.2.1 0
    have r2 := cell_of H3.out.2.1 0
    have q2 := heap_setCell_same w3 (w.heap.size + 1) 0 _ _ _ (.slice none 0 0) H3.out.2.1
    have c0 : (w3.setCell ⟨w.heap.size + 1, 0, none⟩ (.slice none 0 0)).cell? ⟨w.heap.size + 1, 0, none⟩ = some (.slice none 0 0) := by rw [cell_of q2]; rfl
    have HB : Hid (Below w.heap.size w (w3.setCell ⟨w.heap.size + 1, 0, none⟩ (.slice none 0 0))) := Lib.hid (H3.out.2.2.trans ((Kp.of_set (P := fun j _ => j = w.heap.size + 1) H3.out.2.1 _ rfl).below (fun j t e => by have e1 : j = w.heap.size + 1 := e; omega) H3.out.2.2.size))
    clear q2
    go_wp2
    exact bodyPost_ret (v := .tuple #[.agg #[.slice none 0 0], .int .i64 170]) (by simp [results, Try.results37, go_sem, c0]) rfl ⟨_, by rw [HE.out], by rw [HE.out]; exact ⟨fun _ => .slice none 0 0, fun _ => .slice none 0 0, OwnD.nil _ _ _ _⟩, HB.out⟩
  by_cases h2 : (D.length : Int) ≤ n
  · skip
    have HE := Lib.hid (setR_e2 (n := n) (name := nm.data.toList) (v := vl.data.toList) hc0 (fun h => by have := h.2; omega))
    clear CO
    have o2 := open_of H3.out.2.1 0
    have r2 := cell_of H3.out.2.1 0
    have q2 := heap_setCell_same w3 (w.heap.size + 1) 0 _ _ _ (.slice none 0 0) H3.out.2.1
    have c0 : (w3.setCell ⟨w.heap.size + 1, 0, none⟩ (.slice none 0 0)).cell? ⟨w.heap.size + 1, 0, none⟩ = some (.slice none 0 0) := by rw [cell_of q2]; rfl
    have HB : Hid (Below w.heap.size w (w3.setCell ⟨w.heap.size + 1, 0, none⟩ (.slice none 0 0))) := Lib.hid (H3.out.2.2.trans ((Kp.of_set (P := fun j _ => j = w.heap.size + 1) H3.out.2.1 _ rfl).below (fun j t e => by have e1 : j = w.heap.size + 1 := e; omega) H3.out.2.2.size))
    clear q2
    go_wp2
    exact bodyPost_ret (v := .tuple #[.agg #[.slice none 0 0], .int .i64 170]) (by simp [results, Try.results37, go_sem, c0]) rfl ⟨_, by rw [HE.out], by rw [HE.out]; exact ⟨fun _ => .slice none 0 0, fun _ => .slice none 0 0, OwnD.nil _ _ _ _⟩, HB.out⟩
  obtain ⟨n, rfl⟩ : ∃ m : Nat, n = (m : Int) := ⟨n.toNat, by omega⟩
  have hn : n < D.length := by omega
  have zn : (n : Int) < (D.length : Int) := by omega
  have zn0 : (0 : Int) ≤ (n : Int) := by omega
  obtain ⟨B', off', hB, q0, -⟩ := (HD.out.below H3.out.2.2).node hn
  cases hB
  by_cases hk : D[n].k = 2
  case neg =>
    have hkb : (D[n].k != 2) = true := by rw [bne_iff_ne]; exact hk
    have HE := Lib.hid (setR_e3 (name := nm.data.toList) (v := vl.data.toList) hc0 hn hk)
    clear CO
    have o2 := open_of H3.out.2.1 0
    have r2 := cell_of H3.out.2.1 0
    have q2 := heap_setCell_same w3 (w.heap.size + 1) 0 _ _ _ (.slice none 0 0) H3.out.2.1
    have c0 : (w3.setCell ⟨w.heap.size + 1, 0, none⟩ (.slice none 0 0)).cell? ⟨w.heap.size + 1, 0, none⟩ = some (.slice none 0 0) := by rw [cell_of q2]; rfl
    have HB : Hid (Below w.heap.size w (w3.setCell ⟨w.heap.size + 1, 0, none⟩ (.slice none 0 0))) := Lib.hid (H3.out.2.2.trans ((Kp.of_set (P := fun j _ => j = w.heap.size + 1) H3.out.2.1 _ rfl).below (fun j t e => by have e1 : j = w.heap.size + 1 := e; omega) H3.out.2.2.size))
    clear q2
    go_wp2
    exact bodyPost_ret (v := .tuple #[.agg #[.slice none 0 0], .int .i64 170]) (by simp [results, Try.results37, go_sem, c0]) rfl ⟨_, by rw [HE.out], by rw [HE.out]; exact ⟨fun _ => .slice none 0 0, fun _ => .slice none 0 0, OwnD.nil _ _ _ _⟩, HB.out⟩
  have hkb : (D[n].k != 2) = false := by rw [hk]; rfl
  have hal := (HF.out.2 _ (List.getElem_mem hn)).2.2.1
  have CF := find_hid D[n] nm (by omega)
  have E4 := fun (h : findI nm.data.toList D[n].a < 0) h4 => setR_e4 (D := D) (n := n) (name := nm.data.toList) (v := vl.data.toList) hc0 hn hk (by rw [find_some]; exact decide_eq_false (fun h2 => by omega)) h4
  have E5 := fun (h : 0 ≤ findI nm.data.toList D[n].a ∨ D[n].a.length < 30) => setR_ok (D := D) (n := n) (name := nm.data.toList) (v := vl.data.toList) hc0 hn hk (h.imp (fun h => by rw [find_some]; exact decide_eq_true h) id)
  replace E4 := Lib.hid E4
  replace E5 := Lib.hid E5
  generalize hxk : D[n].k = xk at q0 hkb
  obtain ⟨N, hN⟩ := text_of D[n].n
  obtain ⟨T, hT⟩ := text_of D[n].d
  unfold nodeV at CF
  rw [strV_of hN, strV_of hT, hxk] at CF
  have HN := Lib.hid (And.intro hN (And.intro hT hxk))
  clear hN hT hxk hk
  go_wp2_with fail
  (refine (CO.out _ _ _ _ (HD.out.below H3.out.2.2)).mono ?_)
  rintro e w4 ⟨sl', rfl, o6, b4⟩
  have H4 := Lib.hid (And.intro ((b4.block _ (lt_of_block H3.out.1)).trans H3.out.1) (And.intro ((b4.block _ (lt_of_block H3.out.2.1)).trans H3.out.2.1) (H3.out.2.2.trans (b4.mono H3.out.2.2.size))))
  have b3s := H3.out.2.2.size
  have b34 := b4.size
  have b3l := lt_of_block H3.out.2.1
  clear b4 H3 CO e0 q0
  obtain ⟨A2, K2, o6⟩ := o6
  obtain ⟨oa, oc, rfl⟩ := o6.form
  obtain ⟨g, rfl⟩ : ∃ g, oa = some ⟨g, 0, none⟩ := by
    rcases rowForms o6.row with ⟨_, h⟩ | ⟨g, cap, h⟩
    · omega
    · cases h
      exact ⟨g, rfl⟩
  have al7 := (Below.refl w4.heap.size w4).alloc (Nat.le_refl _) (.cells #[.slice (some ⟨g, 0, none⟩) D.length oc] 24)
  have hb7 := new_block w4 (.cells #[.slice (some ⟨g, 0, none⟩) D.length oc] 24)
  have o7 := o6.below al7
  have r7 := (al7.block _ (lt_of_block H4.out.2.1)).trans H4.out.2.1
  have b7 := H4.out.2.2.trans (al7.mono H4.out.2.2.size)
  have hX1 := lt_of_block H4.out.2.1
  obtain ⟨X, hX⟩ : ∃ X, w4.heap.size = X := ⟨_, rfl⟩
  rw [hX] at hb7 hX1
  generalize hw7 : w4.alloc (.cells #[.slice (some ⟨g, 0, none⟩) D.length oc] 24) = w7 at al7 hb7 o7 r7 b7
  obtain ⟨B5, off5, hBB, k0, k1, k2, k3, k4, k5, k6, k7⟩ := o7.doc.node hn
  cases hBB
  simp only [Nat.zero_add] at k0 k1 k2 k3 k4 k5 k6 k7
  rw [strV_of HN.out.1] at k1
  rw [strV_of HN.out.2.1] at k2
  rw [HN.out.2.2] at k0
  have p7 := cell_of hb7 0
  have hAt := o7.doc.at' n hn
  obtain ⟨aa, ac, ha⟩ := hAt.form
  rw [ha] at k3 hAt
  obtain ⟨kk, kkc, hkk⟩ := (o7.doc.kd n hn).form
  rw [hkk] at k5
  have HAt := Lib.hid hAt
  have H7 := Lib.hid (And.intro o7 (And.intro hb7 (And.intro r7 b7)))
  have HA := Lib.hid ha
  obtain ⟨r, hr⟩ : ∃ r, findI nm.data.toList D[n].a = r := ⟨_, rfl⟩
  have hfi : r = -1 ∨ (atM nm.data.toList D[n].a < D[n].a.length ∧ r = (atM nm.data.toList D[n].a : Int)) := by
    unfold findI at hr
    split at hr
    · exact .inr ⟨by assumption, hr.symm⟩
    · exact .inl hr.symm
  have HFI := Lib.hid hfi
  rw [hr] at CF E4 E5
  replace hr := Lib.hid hr
  have hSM := setM_set hn nm.data.toList vl.data.toList
  rw [setA_at] at hSM
  replace hSM := Lib.hid hSM
  generalize hxp : D[n].p = xp at k4 CF
  generalize hxb : D[n].b = xb at k6 CF
  generalize hxs : D[n].s = xs at k7 CF
  obtain ⟨L, hL⟩ : ∃ L, D[n].a.length = L := ⟨_, rfl⟩
  rw [hL] at k3 HAt
  replace hL := Lib.hid hL
  clear hxp hxb hxs ha hkk hAt o7 hb7 r7 b7 o6 al7 H4 hfi hal
  go_wp2_with fail
  (refine (CF.out _ _ _ HAt.out).mono ?_)
  rintro e w8 ⟨rfl, b8⟩
  obtain ⟨o7, x7, r7, b7⟩ := H7.out
  have o8 := o7.below b8
  have H8 := Lib.hid (And.intro ((b8.block _ (lt_of_block x7)).trans x7) (And.intro ((b8.block _ (lt_of_block r7)).trans r7) (b7.trans (b8.mono b7.size))))
  have p8 := cell_of H8.out.1 0
  have q3 := (b8.cell (lt_of_cell k3)).trans k3
  have hb8 := b8.size
  have hb7 := lt_of_block x7
  clear CF HAt k0 k1 k2 k3 k4 k5 k6 k7 o7 x7 r7 b7 H7 b8 p7 hw7
  rcases HFI.out with hr1 | ⟨hlt, hr1⟩
  case inr =>
    have HE := Lib.hid (E5.out (.inl (by omega)))
    subst hr1
    obtain ⟨ga, rfl⟩ : ∃ ga, aa = some ⟨ga, 0, none⟩ := by
      have h1 := o8.at' n hn
      rw [HA.out] at h1
      rcases rowForms h1 with ⟨_, e⟩ | ⟨g, c, e⟩
      · omega
      · cases e; exact ⟨g, rfl⟩
    obtain ⟨o9, k9, hB9, ca, hca⟩ := o8.setV hn HA.out hlt vl.data.toList
    have hr8 := o8.at' n hn
    rw [HA.out] at hr8
    obtain ⟨x, cv⟩ : ∃ x, w8.cell? ⟨ga, atM nm.data.toList D[n].a * 2 + 1, none⟩ = some x   := ⟨_, (hr8.cellAt (atM nm.data.toList D[n].a * 2 + 1) (by omega)).trans (List.getElem?_eq_getElem (by rw [atC_length]; omega))⟩
    have fv := open_of hca (atM nm.data.toList D[n].a * 2 + 1)
    rw [strV_of (T := vl) rfl] at o9 k9
    have hS := hSM.out
    rw [dif_pos hlt] at hS
    rw [← hS] at o9
    rw [hL.out] at hlt
    generalize atM nm.data.toList D[n].a = at_ at *
    have zat : (at_ : Int) < (L : Int) := by omega
    have zat0 : (0 : Int) ≤ (at_ : Int) := by omega
    have hne1 : X ≠ ga := fun e => by
      have := H8.out.1
      rw [e, hca] at this
      cases this
    have hne2 : w.heap.size + 1 ≠ ga := fun e => by omega
    have x9 := k9.cells H8.out.1 hne1
    have r9 := k9.cells H8.out.2.1 hne2
    have b9 := H8.out.2.2.trans (k9.below (fun j t e => by have e1 : j = ga := e; omega) H8.out.2.2.size)
    obtain ⟨W9, hW9⟩ : ∃ W9, W9 = w8.setCell ⟨ga, at_ * 2 + 1, none⟩ (.string vl) := ⟨_, rfl⟩
    rw [← hW9] at o9 x9 r9 b9
    have p9 := cell_of x9 0
    have f9 := open_of r9 0
    have c9 := cell_of r9 0
    have q12 := heap_setCell_same W9 (w.heap.size + 1) 0 _ _ _ (.slice (some ⟨g, 0, none⟩) D.length oc) r9
    have c0 : (W9.setCell ⟨w.heap.size + 1, 0, none⟩ (.slice (some ⟨g, 0, none⟩) D.length oc)).cell? ⟨w.heap.size + 1, 0, none⟩ = some (.slice (some ⟨g, 0, none⟩) D.length oc) := by rw [cell_of q12]; rfl
    have HO : Hid (OwnX (W9.setCell ⟨w.heap.size + 1, 0, none⟩ (.slice (some ⟨g, 0, none⟩) D.length oc)) w.heap.size (.slice (some ⟨g, 0, none⟩) D.length oc) (setM D n nm.data.toList vl.data.toList) ∧ Below w.heap.size w (W9.setCell ⟨w.heap.size + 1, 0, none⟩ (.slice (some ⟨g, 0, none⟩) D.length oc))) := Lib.hid ⟨⟨_, _, (o9.setDoc r9).low b3s⟩, b9.trans ((Kp.of_set (P := fun j _ => j = w.heap.size + 1) r9 _ rfl).below (fun j t e => by have e1 : j = w.heap.size + 1 := e; omega) b9.size)⟩
    replace hSM := Lib.hid hS
    clear hS o8 o9 k9 x9 r9 b9 q12 hca hr8 H8 hne1 hne2 HFI hr E4 E5 hX
    subst hW9
    go_wp2
    exact bodyPost_ret (v := .tuple #[.agg #[.slice (some ⟨g, 0, none⟩) D.length oc], .int .i64 0]) (by simp [results, Try.results37, go_sem, c0]) rfl ⟨_, by rw [HE.out], by rw [HE.out]; exact HO.out.1, HO.out.2⟩
  subst hr1
  by_cases h30 : 30 ≤ L
  · have HE := Lib.hid (E4.out (by omega) (by rw [hL.out]; exact h30))
    clear E4 E5 HFI hr hSM o8
    have z30 : (30 : Int) ≤ (L : Int) := by omega
    have o2 := open_of H8.out.2.1 0
    have r2 := cell_of H8.out.2.1 0
    have q2 := heap_setCell_same w8 (w.heap.size + 1) 0 _ _ _ (.slice none 0 0) H8.out.2.1
    have c0 : (w8.setCell ⟨w.heap.size + 1, 0, none⟩ (.slice none 0 0)).cell? ⟨w.heap.size + 1, 0, none⟩ = some (.slice none 0 0) := by rw [cell_of q2]; rfl
    have HB : Hid (Below w.heap.size w (w8.setCell ⟨w.heap.size + 1, 0, none⟩ (.slice none 0 0))) := Lib.hid (H8.out.2.2.trans ((Kp.of_set (P := fun j _ => j = w.heap.size + 1) H8.out.2.1 _ rfl).below (fun j t e => by have e1 : j = w.heap.size + 1 := e; omega) H8.out.2.2.size))
    clear q2
    go_wp2
    exact bodyPost_ret (v := .tuple #[.agg #[.slice none 0 0], .int .i64 2]) (by simp [results, Try.results37, go_sem, c0]) rfl ⟨_, by rw [HE.out], by rw [HE.out]; exact ⟨fun _ => .slice none 0 0, fun _ => .slice none 0 0, OwnD.nil _ _ _ _⟩, HB.out⟩
  have HE := Lib.hid (E5.out (.inr (by rw [hL.out]; omega)))
  have z30 : ¬ (30 : Int) ≤ (L : Int) := by omega
  have hSM2 : Hid (setM D n nm.data.toList vl.data.toList = D.set n { D[n] with a := D[n].a ++ [(nm.data.toList, vl.data.toList)] }) := Lib.hid (by
    rw [hSM.out, dif_neg]
    intro h
    have h1 := hr.out
    unfold findI at h1
    rw [if_pos h] at h1
    omega)
  have al9 := (Below.refl w8.heap.size w8).alloc (Nat.le_refl _) (.cells #[.string nm, .string vl] 61)
  have o9 := o8.below al9
  obtain ⟨cur9, hg9, hB9⟩ := o9.block
  have ra8 := o8.at' n hn
  rw [HA.out] at ra8
  have ra9 : (w8.alloc (.cells #[.string nm, .string vl] 61)).ownsRow w3.heap.size 61 2 (.slice aa L ac) L (atC D[n].a) := by rw [← hL.out]; exact ra8.alloc _
  have q39 := (al9.cell (lt_of_cell q3)).trans q3
  have x9 := (al9.block _ (lt_of_block H8.out.1)).trans H8.out.1
  have r9 := (al9.block _ (lt_of_block H8.out.2.1)).trans H8.out.2.1
  have b9 := H8.out.2.2.trans (al9.mono H8.out.2.2.size)
  have p9 := cell_of x9 0
  have bs9 : w3.heap.size ≤ w8.heap.size := by omega
  obtain ⟨i0, hi3, hz0, hz1, hz2⟩ := info_parts TinfoA
  have H9 := Lib.hid (And.intro o9 (And.intro hg9 (And.intro x9 (And.intro r9 b9))))
  have hLl : L ≤ 30 := by omega
  have HA2 : Hid (A2 n = .slice aa L ac) := Lib.hid (by rw [HA.out, hL.out])
  clear al9 o9 hg9 x9 r9 b9 o8 H8 ra8 HFI hr hSM E4 E5 hX
  go_wp2_with fail
  go_region_law (refine step_append_lies _ (by rfl) (.tmp 77) (.tmp 81) 40 (by rfl) w3.heap.size 61 i0 (.agg #[.string ⟨#[]⟩, .string ⟨#[]⟩]) 2 32 Try.underlying40 hi3 hz0 hz1 hz2 rfl (by decide) _ _ _ (by rfl) ra9 ⟨w8.heap.size, 0, none⟩ 1 1 [.string nm, .string vl] (by rfl) rfl (World.news_of_block (new_block _ _)) (by intro u hu; simp at hu; rcases hu with rfl | rfl <;> rfl) (by decide) (by unfold maxLen; omega) (by omega) (by simp; omega) _ rfl ?_
                 intro g6 cap6 w10 hown hgrow hat hlt6
                 have hgrow2 : (w8.alloc (.cells #[.string nm, .string vl] 61)).grownBy w10 (A2 n).ownBlock := by rw [HA2.out]; exact ⟨hgrow.os, hgrow.tape, hgrow.output, hgrow.size, hgrow.block⟩
                 have hown2 : w10.ownsRow w3.heap.size 61 2 (.slice (some ⟨g6, 0, none⟩) (L + 1) cap6) (D[n].a ++ [(nm.data.toList, vl.data.toList)]).length (atC (D[n].a ++ [(nm.data.toList, vl.data.toList)])) := by rw [List.length_append, atC_snoc, strV_of (T := nm) rfl, strV_of (T := vl) rfl, hL.out]; exact hown
                 have hat2 : (Value.slice (some ⟨g6, 0, none⟩) (L + 1) cap6).ownBlock = (A2 n).ownBlock ∨ (Value.slice (some ⟨g6, 0, none⟩) (L + 1) cap6).ownBlock = some (w8.alloc (.cells #[.string nm, .string vl] 61)).heap.size := by
                   rw [HA2.out]
                   rcases hat with h | h
                   · exact .inl h.symm
                   · exact .inr (by rw [h]; rfl)
                 have gk := H9.out.1.growA hn hgrow2 hown2 hat2
                 have g10 := gk.2.cells H9.out.2.1 (fun e => absurd e.1 (by decide))
                 have x10 := gk.2.cells H9.out.2.2.1 (fun e => absurd e.1 (by decide))
                 have r10 := gk.2.cells H9.out.2.2.2.1 (fun e => absurd e.1 (by decide))
                 have b10 := H9.out.2.2.2.2.trans (gk.2.below (fun j t e => by have := e.2; omega) H9.out.2.2.2.2.size)
                 have p10 := cell_of x10 0
                 have f10 := open_of g10 (n * 8 + 3)
                 have k10 : w10.cell? ⟨g, n * 8 + 3, none⟩ = some (.slice aa L ac) := (World.cell?_of_block (a := ⟨g, n * 8 + 3, none⟩) (g10.trans H9.out.2.1.symm)).trans q39
                 have H10 := Lib.hid (And.intro gk.1 (And.intro g10 (And.intro x10 (And.intro r10 b10))))
                 clear hgrow2 hown2 hat2 gk g10 x10 r10 b10)
  all_goals
    obtain ⟨W11, hW11⟩ : ∃ W11, W11 = w10.setCell ⟨g, n * 8 + 3, none⟩ (.slice (some ⟨g6, 0, none⟩) (L + 1) cap6) := ⟨_, rfl⟩
    have HQ : Hid (OwnX W11 w3.heap.size (.slice (some ⟨g, 0, none⟩) D.length oc) (setM D n nm.data.toList vl.data.toList) ∧ W11.heap[X]? = some (.cells #[.slice (some ⟨g, 0, none⟩) D.length oc] 24 (0, 0)) ∧ W11.heap[w.heap.size + 1]? = some (.cells #[.slice none 0 0] 24 (0, 0)) ∧ Below w.heap.size w W11) := Lib.hid (by
      have kT : Kp (fun j _ => j = g) w10 W11 := by rw [hW11]; exact Kp.of_set H10.out.2.1 _ rfl
      exact ⟨by rw [hSM2.out, hW11]; exact ⟨_, _, H10.out.1⟩, kT.cells H10.out.2.2.1 (fun e => by
        have e1 : X = g := e
        have e2 := H10.out.2.1
        rw [← e1, H10.out.2.2.1] at e2
        cases e2), kT.cells H10.out.2.2.2.1 (fun e => by have e1 : w.heap.size + 1 = g := e; omega), H10.out.2.2.2.2.trans (kT.below (fun j t e => by have e1 : j = g := e; omega) H10.out.2.2.2.2.size)⟩)
    have p11 := cell_of HQ.out.2.1 0
    have r11 := cell_of HQ.out.2.2.1 0
    have o11 := open_of HQ.out.2.2.1 0
    have q12 := heap_setCell_same W11 (w.heap.size + 1) 0 _ _ _ (.slice (some ⟨g, 0, none⟩) D.length oc) HQ.out.2.2.1
    have c0 : (W11.setCell ⟨w.heap.size + 1, 0, none⟩ (.slice (some ⟨g, 0, none⟩) D.length oc)).cell? ⟨w.heap.size + 1, 0, none⟩ = some (.slice (some ⟨g, 0, none⟩) D.length oc) := by rw [cell_of q12]; rfl
    have HO : Hid (OwnX (W11.setCell ⟨w.heap.size + 1, 0, none⟩ (.slice (some ⟨g, 0, none⟩) D.length oc)) w.heap.size (.slice (some ⟨g, 0, none⟩) D.length oc) (setM D n nm.data.toList vl.data.toList) ∧ Below w.heap.size w (W11.setCell ⟨w.heap.size + 1, 0, none⟩ (.slice (some ⟨g, 0, none⟩) D.length oc))) := Lib.hid (by
      obtain ⟨A3, K3, o3⟩ := HQ.out.1
      exact ⟨⟨_, _, (o3.setDoc HQ.out.2.2.1).low b3s⟩, HQ.out.2.2.2.trans ((Kp.of_set (P := fun j _ => j = w.heap.size + 1) HQ.out.2.2.1 _ rfl).below (fun j t e => by have e1 : j = w.heap.size + 1 := e; omega) HQ.out.2.2.2.size)⟩)
    clear q12 HQ
    subst hW11
    go_wp2
    exact bodyPost_ret (v := .tuple #[.agg #[.slice (some ⟨g, 0, none⟩) D.length oc], .int .i64 0]) (by simp [results, Try.results37, go_sem, c0]) rfl ⟨_, by rw [HE.out], by rw [HE.out]; exact HO.out.1, HO.out.2⟩

end Go.Proofs.Ytcmbkhlnigbooaa.Dm
