/- The program's own: Set. -/
import Derived.Test.YtcmbkhlnigbooaaPdX
import Derived.Test.YtcmbkhlnigbooaaPdY
namespace Go.Proofs.Ytcmbkhlnigbooaa.Dm
open Go.RowKit Go.Shelf

set_option maxRecDepth 100000 in
set_option maxHeartbeats 8000000 in
theorem setP_hid (D : List Nd) (hf : FitD D) (n : Int) (nm vl : ByteArray) : Hid (∀ W sl A K, DocIn W sl D A K → Capd D A → Calls Try.prog 36 #[.agg #[sl], .int .i64 n, .string nm, .string vl] W fun e w' => ∃ sl', e = .returned (.tuple #[.agg #[sl'], .int .i64 (setR D n nm.data.toList vl.data.toList).2]) ∧ OwnX w' W.heap.size sl' (setR D n nm.data.toList vl.data.toList).1 ∧ Below W.heap.size W w') := Lib.hid fun w sl A K hd hcap => by
  obtain ⟨a, c, rfl⟩ := hd.form
  have CK := checkP_hid D hf
  have hfl := hf.1
  have hx := bxs [(.cells #[.slice a D.length c] 24), (.cells #[.int .i64 n] 3), (.cells #[.string nm] 9), (.cells #[.string vl] 9), (.cells #[.slice none 0 0] 24)] w
  generalize hw1 : List.foldl World.alloc w [(.cells #[.slice a D.length c] 24), (.cells #[.int .i64 n] 3), (.cells #[.string nm] 9), (.cells #[.string vl] 9), (.cells #[.slice none 0 0] 24)] = w1 at hx
  simp only [List.foldl_cons, List.foldl_nil] at hw1
  have H1 := Lib.hid hx
  have HD := Lib.hid hd
  have HF := Lib.hid hf
  have HC := Lib.hid hcap
  have x0 : w1.heap[w.heap.size]? = some (.cells #[.slice a D.length c] 24 (0, 0)) := H1.out.1 0 _ rfl
  have e0 := cell_of x0 0
  clear x0
  clear hx hd hf hcap
  go_enter Try.func36, Try.ntmps36
  go_wp2_with fail
  (refine (CK.out _ _ _ _ (HD.out.below H1.out.2) HC.out).mono ?_)
  rintro e w2 ⟨rfl, b2⟩
  have H2 := Lib.hid (H1.out.below b2)
  clear hw1 e0 CK b2 H1
  have x0 : w2.heap[w.heap.size]? = some (.cells #[.slice a D.length c] 24 (0, 0)) := H2.out.1 0 _ rfl
  have e0 := cell_of x0 0
  clear x0
  have x1 : w2.heap[w.heap.size + 1]? = some (.cells #[.int .i64 n] 3 (0, 0)) := H2.out.1 1 _ rfl
  have e1 := cell_of x1 0
  have x2 : w2.heap[w.heap.size + 1 + 1]? = some (.cells #[.string nm] 9 (0, 0)) := H2.out.1 2 _ rfl
  have e2 := cell_of x2 0
  clear x1 x2
  by_cases hc : checkM D = 0
  case neg =>
    have HE := Lib.hid (setR_e1 (n := n) (name := nm.data.toList) (v := vl.data.toList) hc)
    have g1 : (checkM D != 0) = true := by rw [bne_iff_ne]; exact hc
    have xr : w2.heap[w.heap.size + 1 + 1 + 1 + 1]? = some (.cells #[.slice none 0 0] 24 (0, 0)) := H2.out.1 4 _ rfl
    have o2 := open_of xr 0
    have r2 := cell_of xr 0
    have q2 := heap_setCell_same w2 (w.heap.size + 1 + 1 + 1 + 1) 0 _ _ _ (.slice none 0 0) xr
    have c0 : (w2.setCell ⟨w.heap.size + 1 + 1 + 1 + 1, 0, none⟩ (.slice none 0 0)).cell? ⟨w.heap.size + 1 + 1 + 1 + 1, 0, none⟩ = some (.slice none 0 0) := by rw [cell_of q2]; rfl
    have HB : Hid (Below w.heap.size w (w2.setCell ⟨w.heap.size + 1 + 1 + 1 + 1, 0, none⟩ (.slice none 0 0))) := Lib.hid (H2.out.2.setCell (p := ⟨w.heap.size + 1 + 1 + 1 + 1, 0, none⟩) (by show w.heap.size ≤ w.heap.size + 1 + 1 + 1 + 1; omega) _)
    clear q2 xr
    go_wp2
    exact bodyPost_ret (v := .tuple #[.agg #[.slice none 0 0], .int .i64 (checkM D)]) (by simp [results, Try.results36, go_sem, c0]) rfl ⟨_, by rw [HE.out], by rw [HE.out]; exact ⟨fun _ => .slice none 0 0, fun _ => .slice none 0 0, OwnD.nil _ _ _ _⟩, HB.out⟩
  have hc0 := hc
  rw [hc]
  have CN := isNode_any a D.length c n
  by_cases hin : (decide (0 ≤ n) && decide (n < (D.length : Int))) = true
  case neg =>
    have hin : (decide (0 ≤ n) && decide (n < (D.length : Int))) = false := by simpa using hin
    have HE := Lib.hid (setR_e2 (n := n) (name := nm.data.toList) (v := vl.data.toList) hc0 (fun h => by
      rw [decide_eq_true h.1, decide_eq_true h.2] at hin
      cases hin))
    rw [hin] at CN
    go_wp2_with fail
    (refine (CN _).mono ?_)
    rintro e w3 ⟨rfl, hw3⟩
    rw [hw3]
    clear hw3 CN
    have xr : w2.heap[w.heap.size + 1 + 1 + 1 + 1]? = some (.cells #[.slice none 0 0] 24 (0, 0)) := H2.out.1 4 _ rfl
    have o2 := open_of xr 0
    have r2 := cell_of xr 0
    have q2 := heap_setCell_same w2 (w.heap.size + 1 + 1 + 1 + 1) 0 _ _ _ (.slice none 0 0) xr
    have c0 : (w2.setCell ⟨w.heap.size + 1 + 1 + 1 + 1, 0, none⟩ (.slice none 0 0)).cell? ⟨w.heap.size + 1 + 1 + 1 + 1, 0, none⟩ = some (.slice none 0 0) := by rw [cell_of q2]; rfl
    have HB : Hid (Below w.heap.size w (w2.setCell ⟨w.heap.size + 1 + 1 + 1 + 1, 0, none⟩ (.slice none 0 0))) := Lib.hid (H2.out.2.setCell (p := ⟨w.heap.size + 1 + 1 + 1 + 1, 0, none⟩) (by show w.heap.size ≤ w.heap.size + 1 + 1 + 1 + 1; omega) _)
    clear q2 xr
    go_wp2
    exact bodyPost_ret (v := .tuple #[.agg #[.slice none 0 0], .int .i64 170]) (by simp [results, Try.results36, go_sem, c0]) rfl ⟨_, by rw [HE.out], by rw [HE.out]; exact ⟨fun _ => .slice none 0 0, fun _ => .slice none 0 0, OwnD.nil _ _ _ _⟩, HB.out⟩
  rw [hin] at CN
  rw [Bool.and_eq_true, decide_eq_true_eq, decide_eq_true_eq] at hin
  obtain ⟨n, rfl⟩ : ∃ m : Nat, n = (m : Int) := ⟨n.toNat, by omega⟩
  have hn : n < D.length := by omega
  obtain ⟨B', off', hB, q0, -, -, q3, -⟩ := (HD.out.below H2.out.2).node hn
  cases hB
  have zn : (n : Int) < (D.length : Int) := by omega
  go_wp2_with fail
  (refine (CN _).mono ?_)
  rintro e w3 ⟨rfl, hw3⟩
  rw [hw3]
  clear hw3 CN hin
  by_cases hk : D[n].k = 2
  case neg =>
    have HE := Lib.hid (setR_e3 (name := nm.data.toList) (v := vl.data.toList) hc0 hn hk)
    have hkb : (D[n].k != 2) = true := by rw [bne_iff_ne]; exact hk
    generalize D[n].k = xk at q0 hkb
    clear hk
    have xr : w2.heap[w.heap.size + 1 + 1 + 1 + 1]? = some (.cells #[.slice none 0 0] 24 (0, 0)) := H2.out.1 4 _ rfl
    have o2 := open_of xr 0
    have r2 := cell_of xr 0
    have q2 := heap_setCell_same w2 (w.heap.size + 1 + 1 + 1 + 1) 0 _ _ _ (.slice none 0 0) xr
    have c0 : (w2.setCell ⟨w.heap.size + 1 + 1 + 1 + 1, 0, none⟩ (.slice none 0 0)).cell? ⟨w.heap.size + 1 + 1 + 1 + 1, 0, none⟩ = some (.slice none 0 0) := by rw [cell_of q2]; rfl
    have HB : Hid (Below w.heap.size w (w2.setCell ⟨w.heap.size + 1 + 1 + 1 + 1, 0, none⟩ (.slice none 0 0))) := Lib.hid (H2.out.2.setCell (p := ⟨w.heap.size + 1 + 1 + 1 + 1, 0, none⟩) (by show w.heap.size ≤ w.heap.size + 1 + 1 + 1 + 1; omega) _)
    clear q2 xr
    go_wp2
    exact bodyPost_ret (v := .tuple #[.agg #[.slice none 0 0], .int .i64 170]) (by simp [results, Try.results36, go_sem, c0]) rfl ⟨_, by rw [HE.out], by rw [HE.out]; exact ⟨fun _ => .slice none 0 0, fun _ => .slice none 0 0, OwnD.nil _ _ _ _⟩, HB.out⟩
  have hkb : (D[n].k != 2) = false := by rw [hk]; rfl
  obtain ⟨aa, ac, ha⟩ := (HD.out.at' n hn).form
  have hat := (HD.out.at' n hn).below H2.out.2
  rw [ha] at q3 hat
  have hal := (HF.out.2 _ (List.getElem_mem hn)).2.2.1
  have CP := place_hid D[n].a nm (by omega)
  have E4 := fun (h : findI nm.data.toList D[n].a < 0) h4 => setR_e4 (D := D) (n := n) (name := nm.data.toList) (v := vl.data.toList) hc0 hn hk (by rw [find_some]; exact decide_eq_false (fun h2 => by omega)) h4
  have E5 := fun (h : 0 ≤ findI nm.data.toList D[n].a ∨ D[n].a.length < 30) => setR_ok (D := D) (n := n) (name := nm.data.toList) (v := vl.data.toList) hc0 hn hk (h.imp (fun h => by rw [find_some]; exact decide_eq_true h) id)
  have hSC := setChg D hfl n hn hal nm vl
  have HA := Lib.hid (And.intro hat (And.intro E4 E5))
  have hmayL : D[n].a.length ≤ 30 := by
    have h1 := (check_right.1 hc0).may n D[n] (List.getElem?_eq_getElem hn)
    unfold mayM at h1
    rw [if_neg (by omega), if_neg (by omega), if_pos hk] at h1
    simp only [Bool.and_eq_true, decide_eq_true_eq] at h1
    exact h1.2
  generalize D[n].k = xk at q0 hkb
  generalize findI nm.data.toList D[n].a = r at CP HA
  obtain ⟨L, hL⟩ : ∃ L, D[n].a.length = L := ⟨_, rfl⟩
  rw [hL] at q3 hmayL
  have HSC := Lib.hid hSC
  have hmf : ∀ (fn : Fn) (first cap : Array Value) (w : World), (Instr.makeFunc fn first cap).run Try.prog w = .ok (.func fn first cap) w := fun _ _ _ _ => rfl
  clear hk ha hat hSC E4 E5 hal
  by_cases h30 : L = 30
  · have hzL : ((L : Int) == 30) = true := by rw [h30]; rfl
    go_wp2_with fail
    (refine (CP.out _ _ (by have := HA.out.1; rw [hL, h30] at this; exact this)).mono ?_)
    rintro e w4 ⟨rfl, b4⟩
    have H4 := Lib.hid (H2.out.below b4)
    clear b4 H2 e0 e1 e2 CP
    have x0 : w4.heap[w.heap.size]? = some (.cells #[.slice (some ⟨B', off', none⟩) D.length c] 24 (0, 0)) := H4.out.1 0 _ rfl
    have e0 := cell_of x0 0
    clear x0
    by_cases hr : r < 0
    · have HE := Lib.hid (HA.out.2.1 hr (by omega))
      clear HA
      have xr : w4.heap[w.heap.size + 1 + 1 + 1 + 1]? = some (.cells #[.slice none 0 0] 24 (0, 0)) := H4.out.1 4 _ rfl
      have o2 := open_of xr 0
      have r2 := cell_of xr 0
      have q2 := heap_setCell_same w4 (w.heap.size + 1 + 1 + 1 + 1) 0 _ _ _ (.slice none 0 0) xr
      have c0 : (w4.setCell ⟨w.heap.size + 1 + 1 + 1 + 1, 0, none⟩ (.slice none 0 0)).cell? ⟨w.heap.size + 1 + 1 + 1 + 1, 0, none⟩ = some (.slice none 0 0) := by rw [cell_of q2]; rfl
      have HB : Hid (Below w.heap.size w (w4.setCell ⟨w.heap.size + 1 + 1 + 1 + 1, 0, none⟩ (.slice none 0 0))) := Lib.hid (H4.out.2.setCell (p := ⟨w.heap.size + 1 + 1 + 1 + 1, 0, none⟩) (by show w.heap.size ≤ w.heap.size + 1 + 1 + 1 + 1; omega) _)
      clear q2 xr
      go_wp2
      exact bodyPost_ret (v := .tuple #[.agg #[.slice none 0 0], .int .i64 2]) (by simp [results, Try.results36, go_sem, c0]) rfl ⟨_, by rw [HE.out], by rw [HE.out]; exact ⟨fun _ => .slice none 0 0, fun _ => .slice none 0 0, OwnD.nil _ _ _ _⟩, HB.out⟩
    have HE := Lib.hid (HA.out.2.2 (.inl (by omega)))
    clear HA
    have CG := Lib.hid ((changedDoc_hid D (setM D n nm.data.toList vl.data.toList) HF.out (by omega) 72 #[.pointer (some ⟨w.heap.size + 1, 0, none⟩), .pointer (some ⟨w.heap.size + 1 + 1, 0, none⟩), .pointer (some ⟨w.heap.size + 1 + 1 + 1, 0, none⟩)] (enters_of Try.func72 (by kernel_rfl) rfl)).out w4 _ A K (HD.out.below H4.out.2) (HSC.out w4 _ _ _ (H4.out.1 1 _ rfl) (H4.out.1 2 _ rfl) (H4.out.1 3 _ rfl)))
    go_wp2_with fail
    (refine CG.out.mono ?_)
    rintro e w5 ⟨sl4, rfl, o4, b4⟩
    obtain ⟨a4, c4, rfl⟩ := o4.form
    have H5 := Lib.hid (H4.out.below b4)
    have hsz := H4.out.2.size
    clear CG H4 b4 e0
    have xr : w5.heap[w.heap.size + 1 + 1 + 1 + 1]? = some (.cells #[.slice none 0 0] 24 (0, 0)) := H5.out.1 4 _ rfl
    have o2 := open_of xr 0
    have r2 := cell_of xr 0
    have q2 := heap_setCell_same w5 (w.heap.size + 1 + 1 + 1 + 1) 0 _ _ _ (.slice a4 (setM D n nm.data.toList vl.data.toList).length c4) xr
    have c0 : (w5.setCell ⟨w.heap.size + 1 + 1 + 1 + 1, 0, none⟩ (.slice a4 (setM D n nm.data.toList vl.data.toList).length c4)).cell? ⟨w.heap.size + 1 + 1 + 1 + 1, 0, none⟩ = some (.slice a4 (setM D n nm.data.toList vl.data.toList).length c4) := by rw [cell_of q2]; rfl
    have HB : Hid (Below w.heap.size w (w5.setCell ⟨w.heap.size + 1 + 1 + 1 + 1, 0, none⟩ (.slice a4 (setM D n nm.data.toList vl.data.toList).length c4))) := Lib.hid (H5.out.2.setCell (p := ⟨w.heap.size + 1 + 1 + 1 + 1, 0, none⟩) (by show w.heap.size ≤ w.heap.size + 1 + 1 + 1 + 1; omega) _)
    have HO : Hid (OwnX (w5.setCell ⟨w.heap.size + 1 + 1 + 1 + 1, 0, none⟩ (.slice a4 (setM D n nm.data.toList vl.data.toList).length c4)) w.heap.size (.slice a4 (setM D n nm.data.toList vl.data.toList).length c4) (setM D n nm.data.toList vl.data.toList)) := Lib.hid ((o4.low hsz).setDoc xr)
    clear o4
    clear q2 xr
    go_wp2
    exact bodyPost_ret (v := .tuple #[.agg #[.slice a4 (setM D n nm.data.toList vl.data.toList).length c4], .int .i64 0]) (by simp [results, Try.results36, go_sem, c0]) rfl ⟨_, by rw [HE.out], by rw [HE.out]; exact HO.out, HB.out⟩
  have hzL : ((L : Int) == 30) = false := beq_eq_false_iff_ne.2 (by omega)
  have HE := Lib.hid (HA.out.2.2 (.inr (by omega)))
  clear HA CP
  have CG := Lib.hid ((changedDoc_hid D (setM D n nm.data.toList vl.data.toList) HF.out (by omega) 72 #[.pointer (some ⟨w.heap.size + 1, 0, none⟩), .pointer (some ⟨w.heap.size + 1 + 1, 0, none⟩), .pointer (some ⟨w.heap.size + 1 + 1 + 1, 0, none⟩)] (enters_of Try.func72 (by kernel_rfl) rfl)).out w2 _ A K (HD.out.below H2.out.2) (HSC.out w2 _ _ _ (H2.out.1 1 _ rfl) (H2.out.1 2 _ rfl) (H2.out.1 3 _ rfl)))
  go_wp2_with fail
  (refine CG.out.mono ?_)
  rintro e w5 ⟨sl4, rfl, o4, b4⟩
  obtain ⟨a4, c4, rfl⟩ := o4.form
  have H5 := Lib.hid (H2.out.below b4)
  have hsz := H2.out.2.size
  clear CG H2 b4 e0
  have xr : w5.heap[w.heap.size + 1 + 1 + 1 + 1]? = some (.cells #[.slice none 0 0] 24 (0, 0)) := H5.out.1 4 _ rfl
  have o2 := open_of xr 0
  have r2 := cell_of xr 0
  have q2 := heap_setCell_same w5 (w.heap.size + 1 + 1 + 1 + 1) 0 _ _ _ (.slice a4 (setM D n nm.data.toList vl.data.toList).length c4) xr
  have c0 : (w5.setCell ⟨w.heap.size + 1 + 1 + 1 + 1, 0, none⟩ (.slice a4 (setM D n nm.data.toList vl.data.toList).length c4)).cell? ⟨w.heap.size + 1 + 1 + 1 + 1, 0, none⟩ = some (.slice a4 (setM D n nm.data.toList vl.data.toList).length c4) := by rw [cell_of q2]; rfl
  have HB : Hid (Below w.heap.size w (w5.setCell ⟨w.heap.size + 1 + 1 + 1 + 1, 0, none⟩ (.slice a4 (setM D n nm.data.toList vl.data.toList).length c4))) := Lib.hid (H5.out.2.setCell (p := ⟨w.heap.size + 1 + 1 + 1 + 1, 0, none⟩) (by show w.heap.size ≤ w.heap.size + 1 + 1 + 1 + 1; omega) _)
  have HO : Hid (OwnX (w5.setCell ⟨w.heap.size + 1 + 1 + 1 + 1, 0, none⟩ (.slice a4 (setM D n nm.data.toList vl.data.toList).length c4)) w.heap.size (.slice a4 (setM D n nm.data.toList vl.data.toList).length c4) (setM D n nm.data.toList vl.data.toList)) := Lib.hid ((o4.low hsz).setDoc xr)
  clear o4
  clear q2 xr
  go_wp2
  exact bodyPost_ret (v := .tuple #[.agg #[.slice a4 (setM D n nm.data.toList vl.data.toList).length c4], .int .i64 0]) (by simp [results, Try.results36, go_sem, c0]) rfl ⟨_, by rw [HE.out], by rw [HE.out]; exact HO.out, HB.out⟩

end Go.Proofs.Ytcmbkhlnigbooaa.Dm
