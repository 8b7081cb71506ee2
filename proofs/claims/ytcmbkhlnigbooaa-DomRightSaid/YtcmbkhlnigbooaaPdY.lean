/- The program's own: New, Cut. -/
import Derived.Shelf.Abstract
import Derived.Test.YtcmbkhlnigbooaaDoO
import Derived.Test.YtcmbkhlnigbooaaPdUV
import Derived.Test.YtcmbkhlnigbooaaPdZZ
namespace Go.Proofs.Ytcmbkhlnigbooaa.Dm
open Go.RowKit Go.Shelf

/-- Blocks laid one behind the other, as they lie in a later world. -/
def Bxs (w : World) (os : List Obj) (w' : World) : Prop := (∀ (i : Nat) (o : Obj), os[i]? = some o → w'.heap[w.heap.size + i]? = some o) ∧ Below w.heap.size w w'
theorem Bxs.below {w w' w2 : World} {os : List Obj} (h : Bxs w os w') (b : Below w'.heap.size w' w2) : Bxs w os w2 := ⟨fun i o ho => (b.block _ (lt_of_block (h.1 i o ho))).trans (h.1 i o ho), h.2.trans (b.mono h.2.size)⟩
theorem bxs_below : ∀ (os : List Obj) (w : World), Below w.heap.size w (os.foldl World.alloc w)
  | [], w => Below.refl _ _
  | o :: os, w => ((Below.refl w.heap.size w).alloc (Nat.le_refl _) o).trans ((bxs_below os (w.alloc o)).mono (by simp))
theorem bxs (os : List Obj) : ∀ (w : World), Bxs w os (os.foldl World.alloc w) := by
  induction os with
  | nil => intro w; exact ⟨fun i o h => by simp at h, Below.refl _ _⟩
  | cons x os ih =>
    intro w
    refine ⟨fun i o ho => ?_, bxs_below (x :: os) w⟩
    show (os.foldl World.alloc (w.alloc x)).heap[w.heap.size + i]? = _
    cases i with
    | zero =>
      obtain rfl : x = o := by simpa using ho
      exact ((bxs_below os (w.alloc x)).block _ (by simp)).trans (new_block w x)
    | succ i =>
      have := (ih (w.alloc x)).1 i o (by simpa using ho)
      rw [World.size_alloc] at this
      rw [show w.heap.size + (i + 1) = w.heap.size + 1 + i by omega]
      exact this

set_option maxRecDepth 100000 in
set_option maxHeartbeats 4000000 in
theorem newP_hid : Hid (∀ W, Calls Try.prog 38 #[] W fun e w' => ∃ sl', e = .returned (.agg #[sl']) ∧ OwnX w' W.heap.size sl' newM ∧ Below W.heap.size W w') := Lib.hid fun w => by
  have al1 := (Below.refl w.heap.size w).alloc (Nat.le_refl _) (.cells #[.slice none 0 0] 24)
  have hb1 := new_block w (.cells #[.slice none 0 0] 24)
  have hs1 : (w.alloc (.cells #[.slice none 0 0] 24)).heap.size = w.heap.size + 1 := by simp
  generalize hw1 : w.alloc (.cells #[.slice none 0 0] 24) = w1 at al1 hb1 hs1
  have al2 := (Below.refl w1.heap.size w1).alloc (Nat.le_refl _) (.cells #[.int .i64 1, .string ⟨#[]⟩, .string ⟨#[]⟩, .slice none 0 0, .int .i64 (-1), .slice none 0 0, .bool false, .bool false] 42)
  have hrow := row_made w1 #[.int .i64 1, .string ⟨#[]⟩, .string ⟨#[]⟩, .slice none 0 0, .int .i64 (-1), .slice none 0 0, .bool false, .bool false] 42 1 8 rfl (by decide)
  rw [hs1] at hrow
  have hb1' := (al2.block _ (lt_of_block hb1)).trans hb1
  have hbel := al1.trans (al2.mono (by omega))
  generalize hw2 : w1.alloc (.cells #[.int .i64 1, .string ⟨#[]⟩, .string ⟨#[]⟩, .slice none 0 0, .int .i64 (-1), .slice none 0 0, .bool false, .bool false] 42) = w2 at al2 hrow hb1' hbel
  have o1 := open_of hb1' 0
  have r1 := cell_of hb1' 0
  have q1 := heap_setCell_same w2 w.heap.size 0 _ _ _ (.slice (some ⟨w.heap.size + 1, 0, none⟩) 1 1) hb1'
  have c0 : (w2.setCell ⟨w.heap.size, 0, none⟩ (.slice (some ⟨w.heap.size + 1, 0, none⟩) 1 1)).cell? ⟨w.heap.size, 0, none⟩ = some (.slice (some ⟨w.heap.size + 1, 0, none⟩) 1 1) := by rw [cell_of q1]; rfl
  have kS : Kp (fun j t => j = w.heap.size) w2 (w2.setCell ⟨w.heap.size, 0, none⟩ (.slice (some ⟨w.heap.size + 1, 0, none⟩) 1 1)) := Kp.of_set hb1' _ rfl
  have HX : Hid (OwnD (w2.setCell ⟨w.heap.size, 0, none⟩ (.slice (some ⟨w.heap.size + 1, 0, none⟩) 1 1)) w.heap.size (.slice (some ⟨w.heap.size + 1, 0, none⟩) 1 1) newM (fun _ => .slice none 0 0) (fun _ => .slice none 0 0) ∧ Below w.heap.size w (w2.setCell ⟨w.heap.size, 0, none⟩ (.slice (some ⟨w.heap.size + 1, 0, none⟩) 1 1))) :=
    Lib.hid ⟨⟨row_low (kS.row hrow fun j hj _ e => by cases hj; omega) (Nat.le_succ _), fun i hi => by
      obtain rfl : i = 0 := by simp [newM] at hi; omega
      exact World.ownsRow_nil _ _ _ _, fun i hi => by
      obtain rfl : i = 0 := by simp [newM] at hi; omega
      exact World.ownsRow_nil _ _ _ _, fun i j hi hj hij => by simp [newM] at hi hj; omega, fun i j hi hj hij => by simp [newM] at hi hj; omega⟩, hbel.trans (kS.below (fun j t e => by omega) hbel.size)⟩
  clear al1 hb1 al2 hrow hb1' hbel q1 kS
  go_enter Try.func38, Try.ntmps38
  go_wp2
  refine bodyPost_ret (v := .agg #[.slice (some ⟨w.heap.size + 1, 0, none⟩) 1 1]) (by simp [results, Try.results38, go_sem, c0]) rfl ?_
  exact ⟨_, rfl, ⟨_, _, HX.out.1⟩, HX.out.2⟩

set_option maxRecDepth 100000 in
set_option maxHeartbeats 4000000 in
theorem cutP_hid (D : List Nd) (hf : FitD D) (n : Int) : Hid (∀ W sl A K, DocIn W sl D A K → Capd D A → Calls Try.prog 34 #[.agg #[sl], .int .i64 n] W fun e w' => ∃ sl', e = .returned (.tuple #[.agg #[sl'], .int .i64 (cutR D n).2]) ∧ OwnX w' W.heap.size sl' (cutR D n).1 ∧ Below W.heap.size W w') := Lib.hid fun w sl A K hd hcap => by
  obtain ⟨a, c, rfl⟩ := hd.form
  have CK := checkP_hid D hf
  have hfl := hf.1
  have hx := bxs [(.cells #[.slice a D.length c] 24), (.cells #[.int .i64 n] 3), (.cells #[.slice none 0 0] 24)] w
  generalize hw1 : List.foldl World.alloc w [(.cells #[.slice a D.length c] 24), (.cells #[.int .i64 n] 3), (.cells #[.slice none 0 0] 24)] = w1 at hx
  simp only [List.foldl_cons, List.foldl_nil] at hw1
  have H1 := Lib.hid hx
  have HD := Lib.hid hd
  have HF := Lib.hid hf
  have HC := Lib.hid hcap
  have x0 : w1.heap[w.heap.size]? = some (.cells #[.slice a D.length c] 24 (0, 0)) := H1.out.1 0 _ rfl
  have e0 := cell_of x0 0
  clear x0
  clear hx hd hf hcap
  go_enter Try.func34, Try.ntmps34
  go_wp2_with fail
  (refine (CK.out _ _ _ _ (HD.out.below H1.out.2) HC.out).mono ?_)
  rintro e w2 ⟨rfl, b2⟩
  have H2 := Lib.hid (H1.out.below b2)
  clear hw1 e0 CK b2 H1
  have x0 : w2.heap[w.heap.size]? = some (.cells #[.slice a D.length c] 24 (0, 0)) := H2.out.1 0 _ rfl
  have e0 := cell_of x0 0
  clear x0
  have x1 : w2.heap[w.heap.size + 1]? = some (.cells #[.int .i64 n] 3 (0, 0)) := H2.out.1 1 _ rfl
  have e1 := cell_of x1 0
  clear x1
  by_cases hc : checkM D = 0
  case neg =>
    have HE := Lib.hid (cutR_e1 (n := n) hc)
    have g1 : (checkM D != 0) = true := by rw [bne_iff_ne]; exact hc
    have xr : w2.heap[w.heap.size + 1 + 1]? = some (.cells #[.slice none 0 0] 24 (0, 0)) := H2.out.1 2 _ rfl
    have o2 := open_of xr 0
    have r2 := cell_of xr 0
    have q2 := heap_setCell_same w2 (w.heap.size + 1 + 1) 0 _ _ _ (.slice none 0 0) xr
    have c0 : (w2.setCell ⟨w.heap.size + 1 + 1, 0, none⟩ (.slice none 0 0)).cell? ⟨w.heap.size + 1 + 1, 0, none⟩ = some (.slice none 0 0) := by rw [cell_of q2]; rfl
    have HB : Hid (Below w.heap.size w (w2.setCell ⟨w.heap.size + 1 + 1, 0, none⟩ (.slice none 0 0))) := Lib.hid (H2.out.2.setCell (p := ⟨w.heap.size + 1 + 1, 0, none⟩) (by show w.heap.size ≤ w.heap.size + 1 + 1; omega) _)
    clear q2 xr
    go_wp2
    exact bodyPost_ret (v := .tuple #[.agg #[.slice none 0 0], .int .i64 (checkM D)]) (by simp [results, Try.results34, go_sem, c0]) rfl ⟨_, by rw [HE.out], by rw [HE.out]; exact ⟨fun _ => .slice none 0 0, fun _ => .slice none 0 0, OwnD.nil _ _ _ _⟩, HB.out⟩
  have HRt := Lib.hid (check_right.1 hc)
  have hc0 := hc
  rw [hc]
  have CN := isNode_any a D.length c n
  by_cases hin : (decide (0 ≤ n) && decide (n < (D.length : Int))) = true
  case neg =>
    have hin : (decide (0 ≤ n) && decide (n < (D.length : Int))) = false := by simpa using hin
    have HE := Lib.hid (cutR_e2 (n := n) hc0 (fun h => by
      rw [decide_eq_true (show (0 : Int) ≤ n by omega), decide_eq_true h.2] at hin
      cases hin))
    rw [hin] at CN
    go_wp2_with fail
    (refine (CN _).mono ?_)
    rintro e w3 ⟨rfl, hw3⟩
    rw [hw3]
    clear hw3 CN
    have xr : w2.heap[w.heap.size + 1 + 1]? = some (.cells #[.slice none 0 0] 24 (0, 0)) := H2.out.1 2 _ rfl
    have o2 := open_of xr 0
    have r2 := cell_of xr 0
    have q2 := heap_setCell_same w2 (w.heap.size + 1 + 1) 0 _ _ _ (.slice none 0 0) xr
    have c0 : (w2.setCell ⟨w.heap.size + 1 + 1, 0, none⟩ (.slice none 0 0)).cell? ⟨w.heap.size + 1 + 1, 0, none⟩ = some (.slice none 0 0) := by rw [cell_of q2]; rfl
    have HB : Hid (Below w.heap.size w (w2.setCell ⟨w.heap.size + 1 + 1, 0, none⟩ (.slice none 0 0))) := Lib.hid (H2.out.2.setCell (p := ⟨w.heap.size + 1 + 1, 0, none⟩) (by show w.heap.size ≤ w.heap.size + 1 + 1; omega) _)
    clear q2 xr
    go_wp2
    exact bodyPost_ret (v := .tuple #[.agg #[.slice none 0 0], .int .i64 170]) (by simp [results, Try.results34, go_sem, c0]) rfl ⟨_, by rw [HE.out], by rw [HE.out]; exact ⟨fun _ => .slice none 0 0, fun _ => .slice none 0 0, OwnD.nil _ _ _ _⟩, HB.out⟩
  rw [hin] at CN
  rw [Bool.and_eq_true, decide_eq_true_eq, decide_eq_true_eq] at hin
  obtain ⟨m, rfl⟩ : ∃ m : Nat, n = (m : Int) := ⟨n.toNat, by omega⟩
  have hm : m < D.length := by omega
  go_wp2_with fail
  (refine (CN _).mono ?_)
  rintro e w3 ⟨rfl, hw3⟩
  rw [hw3]
  clear hw3 CN
  by_cases hm0 : m = 0
  · subst hm0
    have HE := Lib.hid (cutR_e2 (n := ((0 : Nat) : Int)) hc0 (fun h => by omega))
    have xr : w2.heap[w.heap.size + 1 + 1]? = some (.cells #[.slice none 0 0] 24 (0, 0)) := H2.out.1 2 _ rfl
    have o2 := open_of xr 0
    have r2 := cell_of xr 0
    have q2 := heap_setCell_same w2 (w.heap.size + 1 + 1) 0 _ _ _ (.slice none 0 0) xr
    have c0 : (w2.setCell ⟨w.heap.size + 1 + 1, 0, none⟩ (.slice none 0 0)).cell? ⟨w.heap.size + 1 + 1, 0, none⟩ = some (.slice none 0 0) := by rw [cell_of q2]; rfl
    have HB : Hid (Below w.heap.size w (w2.setCell ⟨w.heap.size + 1 + 1, 0, none⟩ (.slice none 0 0))) := Lib.hid (H2.out.2.setCell (p := ⟨w.heap.size + 1 + 1, 0, none⟩) (by show w.heap.size ≤ w.heap.size + 1 + 1; omega) _)
    clear q2 xr
    go_wp2
    exact bodyPost_ret (v := .tuple #[.agg #[.slice none 0 0], .int .i64 170]) (by simp [results, Try.results34, go_sem, c0]) rfl ⟨_, by rw [HE.out], by rw [HE.out]; exact ⟨fun _ => .slice none 0 0, fun _ => .slice none 0 0, OwnD.nil _ _ _ _⟩, HB.out⟩
  have zm : ((m : Int) == 0) = false := beq_eq_false_iff_ne.2 (by omega)
  have HE := Lib.hid (cutR_ok (m := m) hc0 (by omega) hm)
  have hmf : ∀ (fn : Fn) (first cap : Array Value) (w : World), (Instr.makeFunc fn first cap).run Try.prog w = .ok (.func fn first cap) w := fun _ _ _ _ => rfl
  have CG := Lib.hid ((changedDoc_hid D (cutM D m) HF.out (by omega) 71 #[.pointer (some ⟨w.heap.size + 1, 0, none⟩)] (enters_of Try.func71 (by kernel_rfl) rfl)).out w2 _ A K (HD.out.below H2.out.2) (cutChg D HRt.out HF.out m hm w2 _ (H2.out.1 1 _ rfl)))
  go_wp2_with fail
  (refine CG.out.mono ?_)
  rintro e w4 ⟨sl4, rfl, o4, b4⟩
  obtain ⟨a4, c4, rfl⟩ := o4.form
  have H4 := Lib.hid (H2.out.below b4)
  have hsz := H2.out.2.size
  clear CG H2 b4 e0 e1
  have xr : w4.heap[w.heap.size + 1 + 1]? = some (.cells #[.slice none 0 0] 24 (0, 0)) := H4.out.1 2 _ rfl
  have o2 := open_of xr 0
  have r2 := cell_of xr 0
  have q2 := heap_setCell_same w4 (w.heap.size + 1 + 1) 0 _ _ _ (.slice a4 (cutM D m).length c4) xr
  have c0 : (w4.setCell ⟨w.heap.size + 1 + 1, 0, none⟩ (.slice a4 (cutM D m).length c4)).cell? ⟨w.heap.size + 1 + 1, 0, none⟩ = some (.slice a4 (cutM D m).length c4) := by rw [cell_of q2]; rfl
  have HB : Hid (Below w.heap.size w (w4.setCell ⟨w.heap.size + 1 + 1, 0, none⟩ (.slice a4 (cutM D m).length c4))) := Lib.hid (H4.out.2.setCell (p := ⟨w.heap.size + 1 + 1, 0, none⟩) (by show w.heap.size ≤ w.heap.size + 1 + 1; omega) _)
  have HO : Hid (OwnX (w4.setCell ⟨w.heap.size + 1 + 1, 0, none⟩ (.slice a4 (cutM D m).length c4)) w.heap.size (.slice a4 (cutM D m).length c4) (cutM D m)) := Lib.hid ((o4.low hsz).setDoc xr)
  clear o4
  clear q2 xr
  go_wp2
  exact bodyPost_ret (v := .tuple #[.agg #[.slice a4 (cutM D m).length c4], .int .i64 0]) (by simp [results, Try.results34, go_sem, c0]) rfl ⟨_, by rw [HE.out], by rw [HE.out]; exact HO.out, HB.out⟩

end Go.Proofs.Ytcmbkhlnigbooaa.Dm
