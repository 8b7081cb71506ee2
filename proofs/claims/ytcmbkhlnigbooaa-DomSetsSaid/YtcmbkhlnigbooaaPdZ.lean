/- The program's own: Put. -/
import Derived.Test.YtcmbkhlnigbooaaPdGI
import Derived.Test.YtcmbkhlnigbooaaPdW
import Derived.Test.YtcmbkhlnigbooaaPdY
namespace Go.Proofs.Ytcmbkhlnigbooaa.Dm
open Go.RowKit Go.Shelf

set_option maxRecDepth 100000 in
set_option maxHeartbeats 4000000 in
theorem takes_hid (k : Int) (N D : ByteArray) (p : Int) (b s : Bool) : Hid (∀ W av kv, Calls Try.prog 64 #[.agg #[.int .i64 k, .string N, .string D, av, .int .i64 p, kv, .bool b, .bool s]] W fun e w' => e = .returned (.bool (decide (k = 1) || decide (k = 2))) ∧ Below W.heap.size W w') := Lib.hid fun w av kv => by
  have al := (Below.refl w.heap.size w).alloc (Nat.le_refl _) (.cells #[.int .i64 k, .string N, .string D, av, .int .i64 p, kv, .bool b, .bool s] 42)
  have hbx := new_block w (.cells #[.int .i64 k, .string N, .string D, av, .int .i64 p, kv, .bool b, .bool s] 42)
  have e0 := cell_of hbx 0
  have HB := Lib.hid al
  clear al hbx
  by_cases h1 : k = 1
  · subst h1
    go_enter Try.func64, Try.ntmps64
    go_wp2
    go_ret
    exact ⟨rfl, HB.out⟩
  · have z1 : decide (k = 1) = false := decide_eq_false h1
    by_cases h2 : k = 2
    · subst h2
      go_enter Try.func64, Try.ntmps64
      go_wp2
      go_ret
      exact ⟨rfl, HB.out⟩
    · have z2 : decide (k = 2) = false := decide_eq_false h2
      go_enter Try.func64, Try.ntmps64
      go_wp2
      go_ret
      exact ⟨by simp [h1, h2], HB.out⟩

/-- A document boxed. -/
theorem takesV_hid (x : Nd) : Hid (∀ W av kv, Calls Try.prog 64 #[nodeV x av kv] W fun e w' => e = .returned (.bool (holdM x)) ∧ Below W.heap.size W w') := Lib.hid fun w av kv => by
  obtain ⟨N, hN⟩ := text_of x.n
  obtain ⟨D, hD⟩ := text_of x.d
  unfold nodeV
  rw [strV_of hN, strV_of hD]
  exact (takes_hid x.k N D x.p x.b x.s).out w av kv

set_option maxRecDepth 100000 in
set_option maxHeartbeats 8000000 in
theorem putP_hid (D : List Nd) (hf : FitD D) (q n : Int) : Hid (∀ W sl A K, DocIn W sl D A K → Capd D A → Calls Try.prog 32 #[.agg #[sl], .int .i64 q, .int .i64 n] W fun e w' => ∃ sl', e = .returned (.tuple #[.agg #[sl'], .int .i64 (putR D q n).2]) ∧ OwnX w' W.heap.size sl' (putR D q n).1 ∧ Below W.heap.size W w') := Lib.hid fun w sl A K hd hcap => by
  obtain ⟨a, c, rfl⟩ := hd.form
  have CK := checkP_hid D hf
  have hfl := hf.1
  have hx := bxs [(.cells #[.slice a D.length c] 24), (.cells #[.int .i64 q] 3), (.cells #[.int .i64 n] 3), (.cells #[.slice none 0 0] 24)] w
  generalize hw1 : List.foldl World.alloc w [(.cells #[.slice a D.length c] 24), (.cells #[.int .i64 q] 3), (.cells #[.int .i64 n] 3), (.cells #[.slice none 0 0] 24)] = w1 at hx
  simp only [List.foldl_cons, List.foldl_nil] at hw1
  have H1 := Lib.hid hx
  have HD := Lib.hid hd
  have HF := Lib.hid hf
  have HC := Lib.hid hcap
  have x0 : w1.heap[w.heap.size]? = some (.cells #[.slice a D.length c] 24 (0, 0)) := H1.out.1 0 _ rfl
  have e0 := cell_of x0 0
  clear x0
  clear hx hd hf hcap
  go_enter Try.func32, Try.ntmps32
  go_wp2_with fail
  (refine (CK.out _ _ _ _ (HD.out.below H1.out.2) HC.out).mono ?_)
  rintro e w2 ⟨rfl, b2⟩
  have H2 := Lib.hid (H1.out.below b2)
  clear hw1 e0 CK b2 H1
  have x0 : w2.heap[w.heap.size]? = some (.cells #[.slice a D.length c] 24 (0, 0)) := H2.out.1 0 _ rfl
  have e0 := cell_of x0 0
  clear x0
  have x1 : w2.heap[w.heap.size + 1]? = some (.cells #[.int .i64 q] 3 (0, 0)) := H2.out.1 1 _ rfl
  have e1 := cell_of x1 0
  have x2 : w2.heap[w.heap.size + 1 + 1]? = some (.cells #[.int .i64 n] 3 (0, 0)) := H2.out.1 2 _ rfl
  have e2 := cell_of x2 0
  clear x1 x2
  by_cases hc : checkM D = 0
  case neg =>
    have HE := Lib.hid (putR_e1 (q := q) (n := n) hc)
    have g1 : (checkM D != 0) = true := by rw [bne_iff_ne]; exact hc
    have xr : w2.heap[w.heap.size + 1 + 1 + 1]? = some (.cells #[.slice none 0 0] 24 (0, 0)) := H2.out.1 3 _ rfl
    have o2 := open_of xr 0
    have r2 := cell_of xr 0
    have q2 := heap_setCell_same w2 (w.heap.size + 1 + 1 + 1) 0 _ _ _ (.slice none 0 0) xr
    have c0 : (w2.setCell ⟨w.heap.size + 1 + 1 + 1, 0, none⟩ (.slice none 0 0)).cell? ⟨w.heap.size + 1 + 1 + 1, 0, none⟩ = some (.slice none 0 0) := by rw [cell_of q2]; rfl
    have HB : Hid (Below w.heap.size w (w2.setCell ⟨w.heap.size + 1 + 1 + 1, 0, none⟩ (.slice none 0 0))) := Lib.hid (H2.out.2.setCell (p := ⟨w.heap.size + 1 + 1 + 1, 0, none⟩) (by show w.heap.size ≤ w.heap.size + 1 + 1 + 1; omega) _)
    clear q2 xr
    go_wp2
    exact bodyPost_ret (v := .tuple #[.agg #[.slice none 0 0], .int .i64 (checkM D)]) (by simp [results, Try.results32, go_sem, c0]) rfl ⟨_, by rw [HE.out], by rw [HE.out]; exact ⟨fun _ => .slice none 0 0, fun _ => .slice none 0 0, OwnD.nil _ _ _ _⟩, HB.out⟩
  have HRt := Lib.hid (check_right.1 hc)
  have hc0 := hc
  rw [hc]
  have CQ := isNode_any a D.length c q
  by_cases hin : (decide (0 ≤ q) && decide (q < (D.length : Int))) = true
  case neg =>
    have hin : (decide (0 ≤ q) && decide (q < (D.length : Int))) = false := by simpa using hin
    have HE := Lib.hid (putR_e2 (q := q) (n := n) hc0 (fun h => by
      rw [decide_eq_true h.1, decide_eq_true h.2.1] at hin
      cases hin))
    rw [hin] at CQ
    go_wp2_with fail
    (refine (CQ _).mono ?_)
    rintro e w3 ⟨rfl, hw3⟩
    rw [hw3]
    clear hw3 CQ
    have xr : w2.heap[w.heap.size + 1 + 1 + 1]? = some (.cells #[.slice none 0 0] 24 (0, 0)) := H2.out.1 3 _ rfl
    have o2 := open_of xr 0
    have r2 := cell_of xr 0
    have q2 := heap_setCell_same w2 (w.heap.size + 1 + 1 + 1) 0 _ _ _ (.slice none 0 0) xr
    have c0 : (w2.setCell ⟨w.heap.size + 1 + 1 + 1, 0, none⟩ (.slice none 0 0)).cell? ⟨w.heap.size + 1 + 1 + 1, 0, none⟩ = some (.slice none 0 0) := by rw [cell_of q2]; rfl
    have HB : Hid (Below w.heap.size w (w2.setCell ⟨w.heap.size + 1 + 1 + 1, 0, none⟩ (.slice none 0 0))) := Lib.hid (H2.out.2.setCell (p := ⟨w.heap.size + 1 + 1 + 1, 0, none⟩) (by show w.heap.size ≤ w.heap.size + 1 + 1 + 1; omega) _)
    clear q2 xr
    go_wp2
    exact bodyPost_ret (v := .tuple #[.agg #[.slice none 0 0], .int .i64 170]) (by simp [results, Try.results32, go_sem, c0]) rfl ⟨_, by rw [HE.out], by rw [HE.out]; exact ⟨fun _ => .slice none 0 0, fun _ => .slice none 0 0, OwnD.nil _ _ _ _⟩, HB.out⟩
  rw [hin] at CQ
  rw [Bool.and_eq_true, decide_eq_true_eq, decide_eq_true_eq] at hin
  obtain ⟨q, rfl⟩ : ∃ m : Nat, q = (m : Int) := ⟨q.toNat, by omega⟩
  have hq : q < D.length := by omega
  go_wp2_with fail
  (refine (CQ _).mono ?_)
  rintro e w3 ⟨rfl, hw3⟩
  rw [hw3]
  clear hw3 CQ hin
  have CN := isNode_any a D.length c n
  by_cases hin : (decide (0 ≤ n) && decide (n < (D.length : Int))) = true
  case neg =>
    have hin : (decide (0 ≤ n) && decide (n < (D.length : Int))) = false := by simpa using hin
    have HE := Lib.hid (putR_e2 (q := (q : Int)) (n := n) hc0 (fun h => by
      rw [decide_eq_true (show (0 : Int) ≤ n by have := h.2.2.1; omega), decide_eq_true h.2.2.2.1] at hin
      cases hin))
    rw [hin] at CN
    go_wp2_with fail
    (refine (CN _).mono ?_)
    rintro e w3 ⟨rfl, hw3⟩
    rw [hw3]
    clear hw3 CN
    have xr : w2.heap[w.heap.size + 1 + 1 + 1]? = some (.cells #[.slice none 0 0] 24 (0, 0)) := H2.out.1 3 _ rfl
    have o2 := open_of xr 0
    have r2 := cell_of xr 0
    have q2 := heap_setCell_same w2 (w.heap.size + 1 + 1 + 1) 0 _ _ _ (.slice none 0 0) xr
    have c0 : (w2.setCell ⟨w.heap.size + 1 + 1 + 1, 0, none⟩ (.slice none 0 0)).cell? ⟨w.heap.size + 1 + 1 + 1, 0, none⟩ = some (.slice none 0 0) := by rw [cell_of q2]; rfl
    have HB : Hid (Below w.heap.size w (w2.setCell ⟨w.heap.size + 1 + 1 + 1, 0, none⟩ (.slice none 0 0))) := Lib.hid (H2.out.2.setCell (p := ⟨w.heap.size + 1 + 1 + 1, 0, none⟩) (by show w.heap.size ≤ w.heap.size + 1 + 1 + 1; omega) _)
    clear q2 xr
    go_wp2
    exact bodyPost_ret (v := .tuple #[.agg #[.slice none 0 0], .int .i64 170]) (by simp [results, Try.results32, go_sem, c0]) rfl ⟨_, by rw [HE.out], by rw [HE.out]; exact ⟨fun _ => .slice none 0 0, fun _ => .slice none 0 0, OwnD.nil _ _ _ _⟩, HB.out⟩
  rw [hin] at CN
  rw [Bool.and_eq_true, decide_eq_true_eq, decide_eq_true_eq] at hin
  obtain ⟨n, rfl⟩ : ∃ m : Nat, n = (m : Int) := ⟨n.toNat, by omega⟩
  have hn : n < D.length := by omega
  go_wp2_with fail
  (refine (CN _).mono ?_)
  rintro e w3 ⟨rfl, hw3⟩
  rw [hw3]
  clear hw3 CN hin
  by_cases hn0 : n = 0
  · subst hn0
    have HE := Lib.hid (putR_e2 (q := (q : Int)) (n := ((0 : Nat) : Int)) hc0 (fun h => by have := h.2.2.1; omega))
    have xr : w2.heap[w.heap.size + 1 + 1 + 1]? = some (.cells #[.slice none 0 0] 24 (0, 0)) := H2.out.1 3 _ rfl
    have o2 := open_of xr 0
    have r2 := cell_of xr 0
    have q2 := heap_setCell_same w2 (w.heap.size + 1 + 1 + 1) 0 _ _ _ (.slice none 0 0) xr
    have c0 : (w2.setCell ⟨w.heap.size + 1 + 1 + 1, 0, none⟩ (.slice none 0 0)).cell? ⟨w.heap.size + 1 + 1 + 1, 0, none⟩ = some (.slice none 0 0) := by rw [cell_of q2]; rfl
    have HB : Hid (Below w.heap.size w (w2.setCell ⟨w.heap.size + 1 + 1 + 1, 0, none⟩ (.slice none 0 0))) := Lib.hid (H2.out.2.setCell (p := ⟨w.heap.size + 1 + 1 + 1, 0, none⟩) (by show w.heap.size ≤ w.heap.size + 1 + 1 + 1; omega) _)
    clear q2 xr
    go_wp2
    exact bodyPost_ret (v := .tuple #[.agg #[.slice none 0 0], .int .i64 170]) (by simp [results, Try.results32, go_sem, c0]) rfl ⟨_, by rw [HE.out], by rw [HE.out]; exact ⟨fun _ => .slice none 0 0, fun _ => .slice none 0 0, OwnD.nil _ _ _ _⟩, HB.out⟩
  have zn : ((n : Int) == 0) = false := beq_eq_false_iff_ne.2 (by omega)
  have zq : (q : Int) < (D.length : Int) := by omega
  have zq0 : (0 : Int) ≤ (q : Int) := by omega
  have CH := takesV_hid D[q]
  obtain ⟨B', off', hB, q0, q1, q2, q3, q4, q5, q6, q7⟩ := (HD.out.below H2.out.2).node hq
  cases hB
  obtain ⟨N, hN⟩ := text_of D[q].n
  obtain ⟨T, hT⟩ := text_of D[q].d
  unfold nodeV at CH
  rw [strV_of hN, strV_of hT] at CH
  rw [strV_of hN] at q1
  rw [strV_of hT] at q2
  have E2 := fun (h : holdM D[q] = false) => putR_e2 (q := (q : Int)) (n := (n : Int)) hc0 (fun h2 => by have h5 := h2.2.2.2.2; rw [Int.toNat_natCast, holds_at hq, h] at h5; cases h5)
  have E3 := fun (h : holdM D[q] = true) => putR_e3 (q := q) (n := n) hc0 ⟨zq0, zq, by omega, by omega, by rw [Int.toNat_natCast, holds_at hq, h]⟩
  have E4 := fun (h : holdM D[q] = true) => putR_ok (q := q) (n := n) hc0 ⟨zq0, zq, by omega, by omega, by rw [Int.toNat_natCast, holds_at hq, h]⟩
  have HE3 := Lib.hid (And.intro E2 (And.intro E3 E4))
  generalize D[q].k = xk at q0 CH
  generalize D[q].p = xp at q4 CH
  generalize D[q].b = xb at q6 CH
  generalize D[q].s = xs at q7 CH
  obtain ⟨hm, hhm⟩ : ∃ hm, holdM D[q] = hm := ⟨_, rfl⟩
  rw [hhm] at CH HE3
  clear hN hT hhm E2 E3 E4
  go_wp2_with fail
  (refine (CH.out _ _ _).mono ?_)
  rintro e w3 ⟨rfl, b3⟩
  have H3 := Lib.hid (H2.out.below b3)
  clear b3 H2 q0 q1 q2 q3 q4 q5 q6 q7 CH e0 e1 e2
  have x0 : w3.heap[w.heap.size]? = some (.cells #[.slice (some ⟨B', off', none⟩) D.length c] 24 (0, 0)) := H3.out.1 0 _ rfl
  have x1 : w3.heap[w.heap.size + 1]? = some (.cells #[.int .i64 (q : Int)] 3 (0, 0)) := H3.out.1 1 _ rfl
  have x2 : w3.heap[w.heap.size + 1 + 1]? = some (.cells #[.int .i64 (n : Int)] 3 (0, 0)) := H3.out.1 2 _ rfl
  have e0 := cell_of x0 0
  have e1 := cell_of x1 0
  have e2 := cell_of x2 0
  clear x0 x1 x2
  cases hm with
  | false =>
    have HE := Lib.hid (HE3.out.1 (by trivial))
    clear HE3
    have xr : w3.heap[w.heap.size + 1 + 1 + 1]? = some (.cells #[.slice none 0 0] 24 (0, 0)) := H3.out.1 3 _ rfl
    have o2 := open_of xr 0
    have r2 := cell_of xr 0
    have q2 := heap_setCell_same w3 (w.heap.size + 1 + 1 + 1) 0 _ _ _ (.slice none 0 0) xr
    have c0 : (w3.setCell ⟨w.heap.size + 1 + 1 + 1, 0, none⟩ (.slice none 0 0)).cell? ⟨w.heap.size + 1 + 1 + 1, 0, none⟩ = some (.slice none 0 0) := by rw [cell_of q2]; rfl
    have HB : Hid (Below w.heap.size w (w3.setCell ⟨w.heap.size + 1 + 1 + 1, 0, none⟩ (.slice none 0 0))) := Lib.hid (H3.out.2.setCell (p := ⟨w.heap.size + 1 + 1 + 1, 0, none⟩) (by show w.heap.size ≤ w.heap.size + 1 + 1 + 1; omega) _)
    clear q2 xr
    go_wp2
    exact bodyPost_ret (v := .tuple #[.agg #[.slice none 0 0], .int .i64 170]) (by simp [results, Try.results32, go_sem, c0]) rfl ⟨_, by rw [HE.out], by rw [HE.out]; exact ⟨fun _ => .slice none 0 0, fun _ => .slice none 0 0, OwnD.nil _ _ _ _⟩, HB.out⟩
  | true =>
    have HE4 := Lib.hid (And.intro (HE3.out.2.1 (by trivial)) (HE3.out.2.2 (by trivial)))
    have CB := isBelow_hid D HRt.out HF.out n hn q
    have hdu : decide (q ∈ downM D n) = upM D n q := by
      cases hu : upM D n q with
      | true => exact decide_eq_true ((mem_down HRt.out n hn q).2 ⟨hq, hu⟩)
      | false => exact decide_eq_false (fun h => by rw [((mem_down HRt.out n hn q).1 h).2] at hu; cases hu)
    rw [hdu] at CB
    have hqn : upM D n q = false → q ≠ n := fun h e => by rw [e, upM_self] at h; cases h
    have HQN := Lib.hid hqn
    clear HE3 hdu hqn
    generalize upM D n q = um at CB HE4 HQN
    go_wp2_with fail
    (refine (CB.out _ _ _ _ (HD.out.below H3.out.2)).mono ?_)
    rintro e w4 ⟨rfl, b4⟩
    have H4 := Lib.hid (H3.out.below b4)
    clear b4 H3 CB e0 e1 e2
    have x0 : w4.heap[w.heap.size]? = some (.cells #[.slice (some ⟨B', off', none⟩) D.length c] 24 (0, 0)) := H4.out.1 0 _ rfl
    have e0 := cell_of x0 0
    clear x0
    cases um with
    | true =>
      have HE := Lib.hid (HE4.out.1 (by trivial))
      clear HE4 HQN
      have xr : w4.heap[w.heap.size + 1 + 1 + 1]? = some (.cells #[.slice none 0 0] 24 (0, 0)) := H4.out.1 3 _ rfl
      have o2 := open_of xr 0
      have r2 := cell_of xr 0
      have q2 := heap_setCell_same w4 (w.heap.size + 1 + 1 + 1) 0 _ _ _ (.slice none 0 0) xr
      have c0 : (w4.setCell ⟨w.heap.size + 1 + 1 + 1, 0, none⟩ (.slice none 0 0)).cell? ⟨w.heap.size + 1 + 1 + 1, 0, none⟩ = some (.slice none 0 0) := by rw [cell_of q2]; rfl
      have HB : Hid (Below w.heap.size w (w4.setCell ⟨w.heap.size + 1 + 1 + 1, 0, none⟩ (.slice none 0 0))) := Lib.hid (H4.out.2.setCell (p := ⟨w.heap.size + 1 + 1 + 1, 0, none⟩) (by show w.heap.size ≤ w.heap.size + 1 + 1 + 1; omega) _)
      clear q2 xr
      go_wp2
      exact bodyPost_ret (v := .tuple #[.agg #[.slice none 0 0], .int .i64 172]) (by simp [results, Try.results32, go_sem, c0]) rfl ⟨_, by rw [HE.out], by rw [HE.out]; exact ⟨fun _ => .slice none 0 0, fun _ => .slice none 0 0, OwnD.nil _ _ _ _⟩, HB.out⟩
    | false =>
      have HE := Lib.hid (HE4.out.2 (by trivial))
      have hqn := HQN.out (by trivial)
      clear HE4 HQN
      have hmf : ∀ (fn : Fn) (first cap : Array Value) (w : World), (Instr.makeFunc fn first cap).run Try.prog w = .ok (.func fn first cap) w := fun _ _ _ _ => rfl
      have CG := Lib.hid ((changedDoc_hid D (putM D q n) HF.out (by omega) 66 #[.pointer (some ⟨w.heap.size + 1 + 1, 0, none⟩), .pointer (some ⟨w.heap.size + 1, 0, none⟩)] (enters_of Try.func66 (by kernel_rfl) rfl)).out w4 _ A K (HD.out.below H4.out.2) (putChg D HRt.out HF.out q n hq hn hqn w4 _ _ (H4.out.1 2 _ rfl) (H4.out.1 1 _ rfl)))
      go_wp2_with fail
      (refine CG.out.mono ?_)
      rintro e w5 ⟨sl4, rfl, o4, b4⟩
      obtain ⟨a4, c4, rfl⟩ := o4.form
      have H5 := Lib.hid (H4.out.below b4)
      have hsz := H4.out.2.size
      clear CG H4 b4 e0
      have xr : w5.heap[w.heap.size + 1 + 1 + 1]? = some (.cells #[.slice none 0 0] 24 (0, 0)) := H5.out.1 3 _ rfl
      have o2 := open_of xr 0
      have r2 := cell_of xr 0
      have q2 := heap_setCell_same w5 (w.heap.size + 1 + 1 + 1) 0 _ _ _ (.slice a4 (putM D q n).length c4) xr
      have c0 : (w5.setCell ⟨w.heap.size + 1 + 1 + 1, 0, none⟩ (.slice a4 (putM D q n).length c4)).cell? ⟨w.heap.size + 1 + 1 + 1, 0, none⟩ = some (.slice a4 (putM D q n).length c4) := by rw [cell_of q2]; rfl
      have HB : Hid (Below w.heap.size w (w5.setCell ⟨w.heap.size + 1 + 1 + 1, 0, none⟩ (.slice a4 (putM D q n).length c4))) := Lib.hid (H5.out.2.setCell (p := ⟨w.heap.size + 1 + 1 + 1, 0, none⟩) (by show w.heap.size ≤ w.heap.size + 1 + 1 + 1; omega) _)
      have HO : Hid (OwnX (w5.setCell ⟨w.heap.size + 1 + 1 + 1, 0, none⟩ (.slice a4 (putM D q n).length c4)) w.heap.size (.slice a4 (putM D q n).length c4) (putM D q n)) := Lib.hid ((o4.low hsz).setDoc xr)
      clear o4
      clear q2 xr
      go_wp2
      exact bodyPost_ret (v := .tuple #[.agg #[.slice a4 (putM D q n).length c4], .int .i64 0]) (by simp [results, Try.results32, go_sem, c0]) rfl ⟨_, by rw [HE.out], by rw [HE.out]; exact HO.out, HB.out⟩

end Go.Proofs.Ytcmbkhlnigbooaa.Dm
