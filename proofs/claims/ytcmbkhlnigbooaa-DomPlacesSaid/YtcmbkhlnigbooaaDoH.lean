/- The document's own Check; is a node there. -/
import Derived.Test.YtcmbkhlnigbooaaDoX
namespace Go.Proofs.Ytcmbkhlnigbooaa.Dm
open Go.RowKit

set_option maxRecDepth 100000 in
set_option maxHeartbeats 8000000 in
theorem ends_hid (D : List Nd) (hf : FitD D) (hp : ∀ j, j < D.length → par D j = -1 ∨ ∃ q : Nat, par D j = q ∧ q < D.length) (i : Nat) (hi : i < D.length) : Hid (∀ W sl A K, DocIn W sl D A K → Calls Try.prog 47 #[.agg #[sl], .int .i64 (i : Int)] W fun e w' => e = .returned (.bool (endF D (D.length + 1) i)) ∧ Below W.heap.size W w') := Lib.hid fun w sl A K hd => by
  obtain ⟨a, c, rfl⟩ := hd.form
  obtain ⟨d1, b1, l1⟩ := docBox w hd
  have hfl := hf.1
  generalize hw1 : w.alloc (.cells #[.slice a D.length c] 24) = w1 at d1 b1 l1
  have e0 := cell_of b1 0
  have H1 := Lib.hid (And.intro d1 l1)
  have HP := Lib.hid hp
  clear hd d1 b1 l1 hf hp
  go_enter Try.func47, Try.ntmps47
  go_wp2
  clear hw1
  generalize w.heap.size = R at e0 ⊢
  go_loopw [1, 5] (fun i' k wr => ∃ (t u : Nat), k = .int .i64 u ∧ u ≤ D.length + 1 ∧ i' = .int .i64 t ∧ Hid (t < D.length ∧ endF D (D.length + 1) i = endF D (D.length + 1 - u) t) ∧ wr = w1) (fun _ k _ => D.length + 1 - (intOf k).toNat)
  case atStart => exact ⟨i, 0, rfl, Nat.zero_le _, rfl, Lib.hid ⟨hi, rfl⟩, rfl⟩
  case round =>
    obtain ⟨t, u, rfl, hu, rfl, HT, rfl⟩ := hrel
    by_cases hlt : u ≤ D.length
    · have ht := HT.out.1
      obtain ⟨B, off, rfl, c0, c1, c2, c3, c4, c5, c6, c7⟩ := H1.out.1.node ht
      have zu : (u : Int) ≤ (D.length : Int) := by omega
      have zt : (t : Int) < (D.length : Int) := by omega
      have hpt := HP.out t ht
      have hE : endF D (D.length + 1 - u) t = (decide (par D t = -1) || endF D (D.length - u) (par D t).toNat) := by
        rw [show D.length + 1 - u = (D.length - u) + 1 by omega]
        rfl
      rw [par_at ht] at hpt hE
      obtain ⟨y, hy⟩ : ∃ y, D[t].p = y := ⟨_, rfl⟩
      rw [hy] at c4 hpt hE
      have HE := Lib.hid hE
      clear c0 c1 c2 c3 c5 c6 c7 hy hE
      by_cases h1 : y = -1
      · subst h1
        have HR : Hid (endF D (D.length + 1) i = true) := Lib.hid (by rw [HT.out.2, HE.out]; rfl)
        clear hpt
        go_wp2
        go_ret
        exact ⟨by rw [HR.out]; rfl, H1.out.2⟩
      · have g1 : (y == -1) = false := by simp [h1]
        obtain ⟨q, rfl, hq⟩ : ∃ q : Nat, y = q ∧ q < D.length := by
          rcases hpt with h | h
          · exact absurd h h1
          · exact h
        have HR : Hid (q < D.length ∧ endF D (D.length + 1) i = endF D (D.length + 1 - (u + 1)) q) := Lib.hid ⟨hq, by rw [HT.out.2, HE.out, decide_eq_false h1, Bool.false_or, Int.toNat_natCast, show D.length + 1 - (u + 1) = D.length - u by omega]⟩
        clear hpt h1
        go_wp2
        go_roundw
        case rel => exact ⟨q, u + 1, by go_num, by omega, rfl, HR, trivial⟩
        case measure => simp [intOf]; omega
    · obtain rfl : u = D.length + 1 := by omega
      have zu : ¬ ((D.length + 1 : Nat) : Int) ≤ (D.length : Int) := by omega
      have HR : Hid (endF D (D.length + 1) i = false) := Lib.hid (by rw [HT.out.2, Nat.sub_self]; rfl)
      go_wp2
      go_ret
      exact ⟨by rw [HR.out]; rfl, H1.out.2⟩

/-! ### the checks together -/
theorem form_ends {D : List Nd} (hl : D.length ≤ 300) (h1 : 1 ≤ D.length) (h0 : par D 0 = -1) (hn : ∀ j (h : j < D.length), nodeB D j D[j] = true) (hp : ∀ j, j < D.length → placedB D j = true) (he : ∀ j, j < D.length → endF D (D.length + 1) j = true) : checkM D = 0 := by
  have e : formB D = true := by
    unfold formB
    simp only [Bool.and_eq_true, decide_eq_true_eq, List.all_eq_true, List.mem_range]
    refine ⟨⟨⟨⟨h1, h0⟩, fun j hj => ?_⟩, hp⟩, he⟩
    rw [List.getElem?_eq_getElem hj]
    exact hn j hj
  unfold checkM
  rw [if_neg (by omega), e]
  rfl
theorem form_not {D : List Nd} (hl : D.length ≤ 300) (h : formB D = false) : checkM D = 171 := by
  unfold checkM
  rw [if_neg (by omega), h]
  rfl
theorem form_one {D : List Nd} (h : D.length = 0 ∨ par D 0 ≠ -1) : formB D = false := by
  unfold formB
  rcases h with h | h
  · rw [decide_eq_false (by omega)]; simp only [Bool.false_and]
  · rw [decide_eq_false h]; simp only [Bool.and_false, Bool.false_and]
theorem form_two {D : List Nd} {j : Nat} (hj : j < D.length) (h : nodeB D j D[j] = false) : formB D = false := by
  cases e : formB D with
  | false => rfl
  | true =>
    exfalso
    unfold formB at e
    simp only [Bool.and_eq_true, List.all_eq_true, List.mem_range] at e
    have h1 := e.1.1.2 j hj
    rw [List.getElem?_eq_getElem hj] at h1
    simp only at h1
    rw [h] at h1
    cases h1
theorem form_three {D : List Nd} {j : Nat} (hj : j < D.length) (h : placedB D j = false) : formB D = false := by
  unfold formB
  have e : ((List.range D.length).all (placedB D)) = false := by
    rw [List.all_eq_false]
    exact ⟨j, List.mem_range.2 hj, by rw [h]; simp⟩
  rw [e]
  simp only [Bool.and_false, Bool.false_and]
theorem form_four {D : List Nd} {j : Nat} (hj : j < D.length) (h : endF D (D.length + 1) j = false) : formB D = false := by
  unfold formB
  have e : ((List.range D.length).all (endF D (D.length + 1))) = false := by
    rw [List.all_eq_false]
    exact ⟨j, List.mem_range.2 hj, by rw [h]; simp⟩
  rw [e]
  simp only [Bool.and_false]
theorem placed_par {D : List Nd} (h : ∀ j, j < D.length → placedB D j = true) : ∀ j, j < D.length → par D j = -1 ∨ ∃ q : Nat, par D j = q ∧ q < D.length := fun j hj => by
  have h1 := h j hj
  unfold placedB at h1
  by_cases e : par D j = -1
  · exact .inl e
  · rw [if_neg e] at h1
    simp only [Bool.and_eq_true, decide_eq_true_eq] at h1
    exact .inr ⟨(par D j).toNat, by omega, by omega⟩

set_option maxRecDepth 100000 in
set_option maxHeartbeats 16000000 in
theorem check_hid (D : List Nd) (hf : FitD D) : Hid (∀ W sl A K, DocIn W sl D A K → Calls Try.prog 16 #[.agg #[sl]] W fun e w' => e = .returned (.int .i64 (checkM D)) ∧ Below W.heap.size W w') := Lib.hid fun w sl A K hd => by
  obtain ⟨a, c, rfl⟩ := hd.form
  obtain ⟨d1, b1, l1⟩ := docBox w hd
  have hfl := hf.1
  generalize hw1 : w.alloc (.cells #[.slice a D.length c] 24) = w1 at d1 b1 l1
  have e0 := cell_of b1 0
  have H1 := Lib.hid (And.intro d1 (And.intro b1 l1))
  have HF := Lib.hid hf
  clear hd d1 b1 l1 hf
  by_cases hbig : 300 < D.length
  · have z1 : (300 : Int) < (D.length : Int) := by omega
    have HE : Hid (checkM D = 2) := Lib.hid (by unfold checkM; rw [if_pos hbig])
    go_enter Try.func16, Try.ntmps16
    go_wp2
    go_ret
    exact ⟨by rw [HE.out]; rfl, H1.out.2.2⟩
  have z1 : ¬ (300 : Int) < (D.length : Int) := by omega
  have hl : D.length ≤ 300 := by omega
  by_cases h0 : D.length = 0
  · have HE : Hid (checkM D = 171) := Lib.hid (form_not hl (form_one (.inl h0)))
    have z2 : ((D.length : Int) == 0) = true := by rw [h0]; rfl
    clear h0
    go_enter Try.func16, Try.ntmps16
    go_wp2
    go_ret
    exact ⟨by rw [HE.out]; rfl, H1.out.2.2⟩
  have z2 : ((D.length : Int) == 0) = false := by rw [beq_eq_false_iff_ne]; omega
  have z20 : (0 : Int) < (D.length : Int) := by omega
  have h00 : 0 < D.length := by omega
  obtain ⟨B, off, rfl, -, -, -, -, c4, -, -, -⟩ := H1.out.1.node h00
  obtain ⟨y, hy⟩ : ∃ y, D[0].p = y := ⟨_, rfl⟩
  rw [hy, Nat.zero_mul, Nat.add_zero] at c4
  by_cases hy1 : y = -1
  case neg =>
    have HE : Hid (checkM D = 171) := Lib.hid (form_not hl (form_one (.inr (by rw [par_at h00, hy]; exact hy1))))
    have g1 : (y != -1) = true := by simp [hy1]
    clear hy
    go_enter Try.func16, Try.ntmps16
    go_wp2
    go_ret
    exact ⟨by rw [HE.out]; rfl, H1.out.2.2⟩
  subst hy1
  have HY : Hid (par D 0 = -1) := Lib.hid (by rw [par_at h00, hy])
  clear hy h0
  go_enter Try.func16, Try.ntmps16
  go_wp2
  clear hw1 c4
  generalize hR : w.heap.size = R at e0 H1 ⊢
  rw [← hR] at H1
  have HR := Lib.hid hR
  clear hR
  go_loopw [3] (fun i wr => ∃ u : Nat, i = .int .i64 u ∧ u ≤ D.length ∧ Hid (∀ j (h : j < D.length), j < u → nodeB D j D[j] = true) ∧ Hid (DocIn wr (.slice (some ⟨B, off, none⟩) D.length c) D A K ∧ wr.heap[R]? = some (.cells #[.slice (some ⟨B, off, none⟩) D.length c] 24 (0, 0)) ∧ Below w.heap.size w wr)) (fun i _ => D.length - (intOf i).toNat)
  case atStart => exact ⟨0, rfl, Nat.zero_le _, Lib.hid (fun j _ h => absurd h (Nat.not_lt_zero _)), Lib.hid ⟨H1.out.1, by rw [← HR.out]; exact H1.out.2.1, H1.out.2.2⟩⟩
  case round =>
    clear H1 e0
    obtain ⟨u, rfl, hu, HV, HX⟩ := hrel
    have e0 := cell_of HX.out.2.1 0
    by_cases hlt : u < D.length
    · obtain ⟨B', off', hB, c0, c1, c2, c3, c4, c5, c6, c7⟩ := HX.out.1.node hlt
      cases hB
      have zu : (u : Int) < (D.length : Int) := by omega
      have CM := may_hid D[u] (HF.out.2 _ (List.getElem_mem hlt)).2.2.1
      have CK := kids_hid D HF.out u hlt
      have hat := HX.out.1.at' u hlt
      obtain ⟨N, hN⟩ := text_of D[u].n
      obtain ⟨T, hT⟩ := text_of D[u].d
      unfold nodeV at CM
      rw [strV_of hN, strV_of hT] at CM
      rw [strV_of hN] at c1
      rw [strV_of hT] at c2
      generalize hxk : D[u].k = xk at c0
      generalize hxp : D[u].p = xp at c4
      generalize hxb : D[u].b = xb at c6
      generalize hxs : D[u].s = xs at c7
      rw [hxk, hxp, hxb, hxs] at CM
      generalize hmb : mayM D[u] = mb at CM
      have HA := Lib.hid hat
      clear hN hT hxp hxb hxs hat
      go_wp2_with fail
      (refine (CM.out _ _ _ HA.out).mono ?_)
      rintro e w3 ⟨rfl, b3⟩
      obtain ⟨d3, bx3⟩ := HX.out.1.boxed HX.out.2.1 b3
      have e0 := cell_of bx3 0
      have c0 := (b3.cell (lt_of_cell c0)).trans c0
      have H3 := Lib.hid (And.intro d3 (And.intro bx3 (HX.out.2.2.trans (b3.mono HX.out.2.2.size))))
      clear b3 d3 bx3 HX CM c1 c2 c3 c4 c5 c6 c7 HA
      cases mb with
      | false =>
        have HE : Hid (checkM D = 171) := Lib.hid (form_not hl (form_two hlt (by unfold nodeB; rw [hmb]; simp only [Bool.false_and])))
        clear hmb hxk
        go_wp2
        go_ret
        exact ⟨by rw [HE.out]; rfl, H3.out.2.2⟩
      | true =>
        have HM := Lib.hid hmb
        clear hmb
        by_cases hk1 : xk = 1
        · by_cases hu0 : u = 0
          · have g1 : (xk == 1) = true := by rw [hk1]; rfl
            have g2 : ((u : Int) == 0) = true := by rw [hu0]; rfl
            have HKU : Hid ((decide (D[u].k = 1) == decide (u = 0)) = true) := Lib.hid (by rw [hxk, decide_eq_true hk1, decide_eq_true hu0]; rfl)
            clear hk1 hu0 hxk
            go_wp2_with fail
            (refine (CK.out _ _ _ _ H3.out.1).mono ?_)
            rintro e w4 ⟨rfl, b4⟩
            obtain ⟨d4, bx4⟩ := H3.out.1.boxed H3.out.2.1 b4
            have e0 := cell_of bx4 0
            have H4 := Lib.hid (And.intro d4 (And.intro bx4 (H3.out.2.2.trans (b4.mono H3.out.2.2.size))))
            clear b4 d4 bx4 CK
            generalize hkb : kidsB D D[u] = kb at *
            cases kb with
            | false =>
              have HE : Hid (checkM D = 171) := Lib.hid (form_not hl (form_two hlt (by unfold nodeB; rw [hkb, Bool.and_false])))
              clear hkb H3
              go_wp2
              go_ret
              exact ⟨by rw [HE.out]; rfl, H4.out.2.2⟩
            | true =>
              have HV2 : Hid (∀ j (h : j < D.length), j < u + 1 → nodeB D j D[j] = true) := Lib.hid fun j h hj => by
                by_cases e : j = u
                · subst e
                  unfold nodeB
                  rw [HM.out, hkb, HKU.out]
                  rfl
                · exact HV.out j h (by omega)
              clear hkb H3
              go_wp2
              go_roundw
              case rel => exact ⟨u + 1, by go_num, by omega, HV2, H4⟩
              case measure => simp [intOf]; omega
          · have g1 : (xk == 1) = true := by rw [hk1]; rfl
            have g2 : ((u : Int) == 0) = false := by rw [beq_eq_false_iff_ne]; omega
            have HE : Hid (checkM D = 171) := Lib.hid (form_not hl (form_two hlt (by unfold nodeB; rw [hxk, decide_eq_true hk1, decide_eq_false hu0]; simp)))
            clear hk1 hu0 hxk
            go_wp2
            go_ret
            exact ⟨by rw [HE.out]; rfl, H3.out.2.2⟩
        · by_cases hu0 : u = 0
          · have g1 : (xk == 1) = false := by rw [beq_eq_false_iff_ne]; exact hk1
            have g2 : ((u : Int) == 0) = true := by rw [hu0]; rfl
            have HE : Hid (checkM D = 171) := Lib.hid (form_not hl (form_two hlt (by unfold nodeB; rw [hxk, decide_eq_false hk1, decide_eq_true hu0]; simp)))
            clear hk1 hu0 hxk
            go_wp2
            go_ret
            exact ⟨by rw [HE.out]; rfl, H3.out.2.2⟩
          · have g1 : (xk == 1) = false := by rw [beq_eq_false_iff_ne]; exact hk1
            have g2 : ((u : Int) == 0) = false := by rw [beq_eq_false_iff_ne]; omega
            have HKU : Hid ((decide (D[u].k = 1) == decide (u = 0)) = true) := Lib.hid (by rw [hxk, decide_eq_false hk1, decide_eq_false hu0]; rfl)
            clear hk1 hu0 hxk
            go_wp2_with fail
            (refine (CK.out _ _ _ _ H3.out.1).mono ?_)
            rintro e w4 ⟨rfl, b4⟩
            obtain ⟨d4, bx4⟩ := H3.out.1.boxed H3.out.2.1 b4
            have e0 := cell_of bx4 0
            have H4 := Lib.hid (And.intro d4 (And.intro bx4 (H3.out.2.2.trans (b4.mono H3.out.2.2.size))))
            clear b4 d4 bx4 CK
            generalize hkb : kidsB D D[u] = kb at *
            cases kb with
            | false =>
              have HE : Hid (checkM D = 171) := Lib.hid (form_not hl (form_two hlt (by unfold nodeB; rw [hkb, Bool.and_false])))
              clear hkb H3
              go_wp2
              go_ret
              exact ⟨by rw [HE.out]; rfl, H4.out.2.2⟩
            | true =>
              have HV2 : Hid (∀ j (h : j < D.length), j < u + 1 → nodeB D j D[j] = true) := Lib.hid fun j h hj => by
                by_cases e : j = u
                · subst e
                  unfold nodeB
                  rw [HM.out, hkb, HKU.out]
                  rfl
                · exact HV.out j h (by omega)
              clear hkb H3
              go_wp2
              go_roundw
              case rel => exact ⟨u + 1, by go_num, by omega, HV2, H4⟩
              case measure => simp [intOf]; omega
    · obtain rfl : u = D.length := by omega
      have HN : Hid (∀ j (h : j < D.length), nodeB D j D[j] = true) := Lib.hid fun j h => HV.out j h h
      clear HV
      go_wp2
      go_loopw [4] (fun i wr => ∃ u : Nat, i = .int .i64 u ∧ u ≤ D.length ∧ Hid (∀ j, j < u → placedB D j = true) ∧ Hid (DocIn wr (.slice (some ⟨B, off, none⟩) D.length c) D A K ∧ wr.heap[R]? = some (.cells #[.slice (some ⟨B, off, none⟩) D.length c] 24 (0, 0)) ∧ Below w.heap.size w wr)) (fun i _ => D.length - (intOf i).toNat)
      case atStart => exact ⟨0, rfl, Nat.zero_le _, Lib.hid (fun j h => absurd h (Nat.not_lt_zero _)), HX⟩
      case round =>
        clear HX e0
        obtain ⟨u, rfl, hu, HV, HX⟩ := hrel
        have e0 := cell_of HX.out.2.1 0
        by_cases hlt : u < D.length
        · have zu : (u : Int) < (D.length : Int) := by omega
          have CK := placed_hid D HF.out u hlt
          generalize hpb : placedB D u = pb at CK
          go_wp2_with fail
          (refine (CK.out _ _ _ _ HX.out.1).mono ?_)
          rintro e w3 ⟨rfl, b3⟩
          obtain ⟨d3, bx3⟩ := HX.out.1.boxed HX.out.2.1 b3
          have e0 := cell_of bx3 0
          have H3 := Lib.hid (And.intro d3 (And.intro bx3 (HX.out.2.2.trans (b3.mono HX.out.2.2.size))))
          clear b3 d3 bx3 HX CK
          cases pb with
          | false =>
            have HE : Hid (checkM D = 171) := Lib.hid (form_not hl (form_three hlt hpb))
            clear hpb
            go_wp2
            go_ret
            exact ⟨by rw [HE.out]; rfl, H3.out.2.2⟩
          | true =>
            have HV2 : Hid (∀ j, j < u + 1 → placedB D j = true) := Lib.hid fun j hj => by
              by_cases e : j = u
              · subst e; exact hpb
              · exact HV.out j (by omega)
            clear hpb
            go_wp2
            go_roundw
            case rel => exact ⟨u + 1, by go_num, by omega, HV2, H3⟩
            case measure => simp [intOf]; omega
        · obtain rfl : u = D.length := by omega
          have HPl := HV
          clear HV
          go_wp2
          go_loopw [5] (fun i wr => ∃ u : Nat, i = .int .i64 u ∧ u ≤ D.length ∧ Hid (∀ j, j < u → endF D (D.length + 1) j = true) ∧ Hid (DocIn wr (.slice (some ⟨B, off, none⟩) D.length c) D A K ∧ wr.heap[R]? = some (.cells #[.slice (some ⟨B, off, none⟩) D.length c] 24 (0, 0)) ∧ Below w.heap.size w wr)) (fun i _ => D.length - (intOf i).toNat)
          case atStart => exact ⟨0, rfl, Nat.zero_le _, Lib.hid (fun j h => absurd h (Nat.not_lt_zero _)), HX⟩
          case round =>
            clear HX e0
            obtain ⟨u, rfl, hu, HV, HX⟩ := hrel
            have e0 := cell_of HX.out.2.1 0
            by_cases hlt : u < D.length
            · have zu : (u : Int) < (D.length : Int) := by omega
              have CK := ends_hid D HF.out (placed_par HPl.out) u hlt
              generalize hpb : endF D (D.length + 1) u = pb at CK
              go_wp2_with fail
              (refine (CK.out _ _ _ _ HX.out.1).mono ?_)
              rintro e w3 ⟨rfl, b3⟩
              obtain ⟨d3, bx3⟩ := HX.out.1.boxed HX.out.2.1 b3
              have e0 := cell_of bx3 0
              have H3 := Lib.hid (And.intro d3 (And.intro bx3 (HX.out.2.2.trans (b3.mono HX.out.2.2.size))))
              clear b3 d3 bx3 HX CK
              cases pb with
              | false =>
                have HE : Hid (checkM D = 171) := Lib.hid (form_not hl (form_four hlt hpb))
                clear hpb
                go_wp2
                go_ret
                exact ⟨by rw [HE.out]; rfl, H3.out.2.2⟩
              | true =>
                have HV2 : Hid (∀ j, j < u + 1 → endF D (D.length + 1) j = true) := Lib.hid fun j hj => by
                  by_cases e : j = u
                  · subst e; exact hpb
                  · exact HV.out j (by omega)
                clear hpb
                go_wp2
                go_roundw
                case rel => exact ⟨u + 1, by go_num, by omega, HV2, H3⟩
                case measure => simp [intOf]; omega
            · obtain rfl : u = D.length := by omega
              have HE : Hid (checkM D = 0) := Lib.hid (form_ends hl (by omega) HY.out HN.out HPl.out HV.out)
              go_wp2
              go_ret
              exact ⟨by rw [HE.out]; rfl, HX.out.2.2⟩

end Go.Proofs.Ytcmbkhlnigbooaa.Dm
