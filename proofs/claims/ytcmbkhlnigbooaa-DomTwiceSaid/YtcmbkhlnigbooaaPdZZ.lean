/- The program's nodes: how many are reached from those that stand nowhere. The program's nodes: is a document right (right, Check); is a node there. The program's nodes: an attribute; is a node in. -/
import Derived.Test.YtcmbkhlnigbooaaDoK
import Derived.Test.YtcmbkhlnigbooaaPdB
import Derived.Test.YtcmbkhlnigbooaaPdC
namespace Go.Proofs.Ytcmbkhlnigbooaa.Dm
open Go.RowKit

theorem kidN_nats {D : List Nd} (P : Pl D) (i : Nat) : natsI (kidN D i) = kid D i := by
  unfold natsI kidN
  rw [List.map_map]
  conv => rhs; rw [← List.map_id (kid D i)]
  exact List.map_congr_left fun y hy => by
    have := (P.kp i y hy).1
    show ((y.toNat : Nat) : Int) = y
    omega
/-- A number of nodes: all of them just if each comes to one that stands nowhere. -/
def CountR (D : List Nd) (W : World) (e : Ending) (w' : World) : Prop := ∃ n : Nat, e = .returned (.int .i64 (n : Int)) ∧ (n = D.length ↔ ∀ i, i < D.length → ∃ k, DepP D k i) ∧ Below W.heap.size W w'

set_option maxRecDepth 100000 in
set_option maxHeartbeats 16000000 in
theorem reached_hid (D : List Nd) (hf : FitD D) (h0 : 0 < D.length) (P : Pl D) : Hid (∀ W sl A K, DocIn W sl D A K → Calls Try.prog 77 #[sl] W (CountR D W)) := Lib.hid fun w sl A K hd => by
  obtain ⟨a, c, rfl⟩ := hd.form
  obtain ⟨B, off, rfl, -⟩ := hd.node h0
  have hfl := hf.1
  obtain ⟨i0, hi3, hz0, hz1, hz2⟩ := info_parts Tinfo3
  have HD := Lib.hid hd
  have HF := Lib.hid hf
  have HP := Lib.hid P
  clear hd hf P
  go_enter Try.func77, Try.ntmps77
  go_wp2
  go_loopw [3, 9] (fun v i wr => ∃ u : Nat, i = .int .i64 u ∧ u ≤ D.length ∧ Hid (OwnI wr w.heap.size v (rootsM D u) ∧ Below w.heap.size w wr)) (fun _ i _ => D.length - (intOf i).toNat)
  case atStart => exact ⟨0, rfl, Nat.zero_le _, Lib.hid ⟨World.ownsRow_nil _ _ _ _, Below.refl _ _⟩⟩
  case round =>
    obtain ⟨u, rfl, hu, HX⟩ := hrel
    by_cases hlt : u < D.length
    · have zu : (u : Int) < (D.length : Int) := by omega
      obtain ⟨B', off', hB, c0, c1, c2, c3, c4, c5, c6, c7⟩ := (HD.out.below HX.out.2).node hlt
      cases hB
      obtain ⟨N, hN⟩ := text_of D[u].n
      obtain ⟨T, hT⟩ := text_of D[u].d
      rw [strV_of hN] at c1
      rw [strV_of hT] at c2
      obtain ⟨aa, ac, ha⟩ := (HD.out.at' u hlt).form
      obtain ⟨ka, kc, hk⟩ := (HD.out.kd u hlt).form
      rw [ha] at c3
      rw [hk] at c5
      have hpu := par_at hlt
      clear hN hT ha hk
      generalize D[u].k = xk at c0
      generalize D[u].a.length = al at c3
      generalize D[u].p = xp at c4 hpu
      generalize D[u].b = xb at c6
      generalize D[u].s = xs at c7
      generalize D[u].c.length = cl at c5
      have HX1 : Hid (∀ o, OwnI (wr.alloc o) w.heap.size u3 (rootsM D u) ∧ Below w.heap.size w (wr.alloc o)) := Lib.hid fun o => by
        have b := (Below.refl wr.heap.size wr).alloc (Nat.le_refl _) o
        exact ⟨HX.out.1.below b, HX.out.2.trans (b.mono HX.out.2.size)⟩
      clear HX
      have hst := roots_step D u
      rw [hpu] at hst
      have hrl := roots_len D u
      by_cases hp : xp = -1
      · subst hp
        rw [if_pos rfl] at hst
        have HST := Lib.hid hst
        have hbx := new_block wr (.cells #[.int .i64 xk, .string N, .string T, .slice aa al ac, .int .i64 (-1), .slice ka cl kc, .bool xb, .bool xs] 42)
        generalize hwa : wr.alloc (.cells #[.int .i64 xk, .string N, .string T, .slice aa al ac, .int .i64 (-1), .slice ka cl kc, .bool xb, .bool xs] 42) = wa
        have HXa := HX1.out (.cells #[.int .i64 xk, .string N, .string T, .slice aa al ac, .int .i64 (-1), .slice ka cl kc, .bool xb, .bool xs] 42)
        rw [hwa] at HXa hbx
        have e4 := cell_of hbx 4
        clear hbx
        have al5 := (Below.refl wa.heap.size wa).alloc (Nat.le_refl _) (.cells #[.int .i64 (u : Int)] 3)
        have hro := RowIn.made wa #[.int .i64 (u : Int)] 3 1 1 rfl (fun x hx => by simp at hx; rw [hx]; rfl)
        have H5 := Lib.hid (And.intro hro (And.intro (row_below HXa.1 al5) (HXa.2.trans (al5.mono HXa.2.size))))
        have hws := H5.out.2.2.size
        clear hro al5 hst hpu HX1 HXa
        go_wp2_with (at_builtin
                     refine wpList_append_rowG rfl _ _ 33 3 i0 (.int .i64 0) 1 8 Try.underlying33 hi3 hz0 hz1 hz2 rfl (by decide) rfl w.heap.size _ _ _ rfl H5.out.2.1 _ 1 _ rfl H5.out.1 (by unfold maxLen; omega) (by omega) hws ?_
                     intro v6 w6 hown6 hgrow6 hat6
                     have H6 : Hid (OwnI w6 w.heap.size v6 (rootsM D (u + 1)) ∧ Below w.heap.size w w6) := Lib.hid ⟨by rw [HST.out]; unfold OwnI; rw [List.length_append, natsI_app, inC_app]; exact hown6, Below.grown H5.out.2.2 hgrow6 hws (fun j hj => (H5.out.2.1.lt j hj).1)⟩
                     clear hown6 hgrow6 hat6 H5)
        go_roundw
        case rel => exact ⟨u + 1, by go_num, by omega, H6⟩
        case measure => simp [intOf]; omega
      · rw [if_neg hp, List.append_nil] at hst
        have HX2 : Hid (∀ o, OwnI (wr.alloc o) w.heap.size u3 (rootsM D (u + 1)) ∧ Below w.heap.size w (wr.alloc o)) := Lib.hid (by rw [hst]; exact HX1.out)
        clear hst HX1 hpu
        go_wp2
        go_roundw
        case rel => exact ⟨u + 1, by go_num, by omega, Lib.hid (HX2.out _)⟩
        case measure => simp [intOf]; omega
    · obtain rfl : u = D.length := by omega
      obtain ⟨ra, rc, rfl⟩ := HX.out.1.form
      have H2 := Lib.hid (And.intro (RowP.start D) HX.out)
      clear HX
      go_wp2
      go_loopw [3, 6] (fun v i wr => ∃ (row : List Nat) (t : Nat) (ra : Option Addr) (rc : Nat), v = .slice ra row.length rc ∧ i = .int .i64 t ∧ t ≤ row.length ∧ Hid (RowP D row t ∧ OwnI wr w.heap.size (.slice ra row.length rc) row ∧ Below w.heap.size w wr)) (fun _ i _ => D.length - (intOf i).toNat)
      case atStart => exact ⟨rootsM D D.length, 0, ra, rc, rfl, rfl, Nat.zero_le _, H2⟩
      case round =>
        clear H2
        obtain ⟨row, t, ra, rc, rfl, rfl, ht, HY⟩ := hrel
        have hrl := HY.out.1.len
        by_cases hlt : t < row.length
        · have zt : (t : Int) < (row.length : Int) := by omega
          have hin := HY.out.2.1.in'
          rw [← natsI_length row] at hin
          obtain ⟨B2, off2, rfl, y0⟩ := hin.at (k := t) (by rw [natsI_length]; exact hlt)
          have hyt : (natsI row)[t]'(by rw [natsI_length]; exact hlt) = ((row[t] : Nat) : Int) := by simp [natsI]
          rw [hyt] at y0
          have hx := (HY.out.1.dp row[t] (List.getElem_mem hlt)).1
          have hstep := HY.out.1.step HP.out hlt
          have hkn := kidN_nats HP.out row[t]
          rw [kid_at hx] at hkn
          have hkl : (kidN D row[t]).length = D[row[t]].c.length := by rw [← hkn, natsI_length]
          obtain ⟨B', off', hB, -, -, -, -, -, k5, -, -⟩ := (HD.out.below HY.out.2.2).node hx
          cases hB
          obtain ⟨ka, kc, hk⟩ := (HD.out.kd row[t] hx).form
          have hkin := (HD.out.below HY.out.2.2).kd row[t] hx
          rw [hk] at k5 hkin
          obtain ⟨C, hC⟩ : ∃ C, D[row[t]].c = C := ⟨_, rfl⟩
          obtain ⟨kl, hkl0⟩ : ∃ kl, kidN D row[t] = kl := ⟨_, rfl⟩
          rw [hC] at k5 hkin hkn hkl
          rw [hkl0] at hkn hkl hstep
          have hrl2 := hstep.len
          rw [List.length_append, hkl] at hrl2
          have zx : ((row[t] : Nat) : Int) < (D.length : Int) := by omega
          clear hk hC hkl0 hx hin hyt
          generalize row[t] = x at y0 zx k5
          have H5 := Lib.hid (And.intro hstep (And.intro HY.out.2.1 (And.intro hkin HY.out.2.2)))
          have hws := H5.out.2.2.2.size
          have HKN := Lib.hid (And.intro hkn hkl)
          clear hstep hkn hkl hkin HY
          go_wp2_with (at_builtin
                       refine wpList_append_rowG rfl _ _ 33 3 i0 (.int .i64 0) 1 8 Try.underlying33 hi3 hz0 hz1 hz2 rfl (by decide) rfl w.heap.size _ _ _ rfl H5.out.2.1 _ C.length (inC C) rfl H5.out.2.2.1 (by unfold maxLen; omega) (by omega) hws ?_
                       intro v6 w6 hown6 hgrow6 hat6
                       have H6 : Hid (OwnI w6 w.heap.size v6 (row ++ kl) ∧ Below w.heap.size w w6 ∧ RowP D (row ++ kl) (t + 1)) := Lib.hid ⟨by unfold OwnI; rw [List.length_append, HKN.out.2, natsI_app, inC_app, HKN.out.1]; exact hown6, Below.grown H5.out.2.2.2 hgrow6 hws (fun j hj => (H5.out.2.1.lt j hj).1), H5.out.1⟩
                       obtain ⟨va, vc, rfl⟩ := H6.out.1.form
                       clear hown6 hgrow6 hat6 H5)
          go_roundw
          case rel => exact ⟨row ++ kl, t + 1, va, vc, by rw [List.length_append], by go_num, by rw [List.length_append]; omega, Lib.hid ⟨H6.out.2.2, H6.out.1, H6.out.2.1⟩⟩
          case measure => simp [intOf]; omega
        · obtain rfl : t = row.length := by omega
          have HE : Hid (row.length = D.length ↔ ∀ i, i < D.length → ∃ k, DepP D k i) := Lib.hid (HY.out.1.all HP.out)
          have HB := Lib.hid HY.out.2.2
          clear HY
          go_wp2
          go_ret
          exact ⟨row.length, rfl, HE.out, HB.out⟩

end Go.Proofs.Ytcmbkhlnigbooaa.Dm

namespace Go.Proofs.Ytcmbkhlnigbooaa.Dm
open Go.RowKit

/-- Has each node's row of attributes room for what it holds? -/
def Capd (D : List Nd) (A : Nat → Value) : Prop := ∀ i, i < D.length → CapV (A i)
def frontB (D : List Nd) (u : Nat) : Prop := ∀ (i : Nat) (x : Nd), i < u → D[i]? = some x → mayN x = true ∧ (x.k = 1 ↔ i = 0)
theorem front_all {D : List Nd} (h : frontB D D.length) : ∀ (i : Nat) (x : Nd), D[i]? = some x → mayN x = true ∧ (x.k = 1 ↔ i = 0) := fun i x hx => h i x (lt_of_some hx) hx
theorem front_step {D : List Nd} {u : Nat} (h : frontB D u) (hu : u < D.length) (h1 : mayN D[u] = true) (h2 : D[u].k = 1 ↔ u = 0) : frontB D (u + 1) := fun i x hi hx => by
  by_cases e : i = u
  · subst e
    rw [List.getElem?_eq_getElem hu] at hx
    cases hx
    exact ⟨h1, h2⟩
  · exact h i x (by omega) hx
set_option maxRecDepth 100000 in
set_option maxHeartbeats 16000000 in
theorem rightP_hid (D : List Nd) (hf : FitD D) : Hid (∀ W sl A K, DocIn W sl D A K → Capd D A → Calls Try.prog 43 #[sl] W (BoolR (rightB D) W)) := Lib.hid fun w sl A K hd hcap => by
  obtain ⟨a, c, rfl⟩ := hd.form
  have hfl := hf.1
  have HD := Lib.hid hd
  have HF := Lib.hid hf
  have HC := Lib.hid hcap
  clear hd hf hcap
  go_enter Try.func43, Try.ntmps43
  go_wp2
  go_loopw [7] (fun i wr => ∃ u : Nat, i = .int .i64 u ∧ u ≤ D.length ∧ Hid (frontB D u ∧ Below w.heap.size w wr)) (fun i _ => D.length - (intOf i).toNat)
  case atStart => exact ⟨0, rfl, Nat.zero_le _, Lib.hid ⟨fun i x h => by omega, Below.refl _ _⟩⟩
  case round =>
    obtain ⟨u, rfl, hu, HX⟩ := hrel
    by_cases hlt : u < D.length
    · have zu : (u : Int) < (D.length : Int) := by omega
      obtain ⟨B', off', rfl, c0, c1, c2, c3, c4, c5, c6, c7⟩ := (HD.out.below HX.out.2).node hlt
      have CM := mayBe_hid D[u] (HF.out.2 _ (List.getElem_mem hlt)).2.2.1
      obtain ⟨N, hN⟩ := text_of D[u].n
      obtain ⟨T, hT⟩ := text_of D[u].d
      unfold nodeV at CM
      rw [strV_of hN, strV_of hT] at CM
      rw [strV_of hN] at c1
      rw [strV_of hT] at c2
      obtain ⟨aa, ac, ha⟩ := (HD.out.at' u hlt).form
      obtain ⟨ka, kc, hk⟩ := (HD.out.kd u hlt).form
      have hat := HD.out.at' u hlt
      have hkd := HD.out.kd u hlt
      have hcv := HC.out u hlt
      rw [ha] at c3 hat hcv
      rw [hk] at c5 hkd
      have CM2 : Hid (∀ W, Below wr.heap.size wr W → Calls Try.prog 58 #[.agg #[.int .i64 D[u].k, .string N, .string T, .slice aa D[u].a.length ac, .int .i64 D[u].p, .slice ka D[u].c.length kc, .bool D[u].b, .bool D[u].s]] W fun e w' => e = .returned (.bool (mayN D[u])) ∧ Below W.heap.size W w') := Lib.hid fun W b =>
        CM.out W _ _ ((hat.below HX.out.2).below b) ((hkd.below HX.out.2).below b) hcv
      have hst := front_step (D := D) (u := u)
      have hst2 := fun h1 h2 => hst HX.out.1 hlt h1 h2
      have hno : ¬ (mayN D[u] = true ∧ (D[u].k = 1 ↔ u = 0)) → ¬ rightB D := fun h hr => h (hr.1 u D[u] (List.getElem?_eq_getElem hlt))
      have HB := Lib.hid HX.out.2
      clear hN hT ha hk CM hat hkd hcv hst HX
      generalize D[u].k = xk at c0 CM2 hst2 hno
      generalize D[u].a.length = al at c3 CM2
      generalize D[u].p = xp at c4 CM2
      generalize D[u].b = xb at c6 CM2
      generalize D[u].s = xs at c7 CM2
      generalize D[u].c.length = cl at c5 CM2
      generalize mayN D[u] = mb at CM2 hst2 hno
      have HS := Lib.hid (And.intro hst2 hno)
      clear hst2 hno
      have hal := (Below.refl wr.heap.size wr).alloc (Nat.le_refl _) (.cells #[.int .i64 xk, .string N, .string T, .slice aa al ac, .int .i64 xp, .slice ka cl kc, .bool xb, .bool xs] 42)
      have hbx := new_block wr (.cells #[.int .i64 xk, .string N, .string T, .slice aa al ac, .int .i64 xp, .slice ka cl kc, .bool xb, .bool xs] 42)
      generalize hwa : wr.alloc (.cells #[.int .i64 xk, .string N, .string T, .slice aa al ac, .int .i64 xp, .slice ka cl kc, .bool xb, .bool xs] 42) = wa at hal hbx
      have d0 := cell_of hbx 0
      have d1 := cell_of hbx 1
      have d2 := cell_of hbx 2
      have d3 := cell_of hbx 3
      have d4 := cell_of hbx 4
      have d5 := cell_of hbx 5
      have d6 := cell_of hbx 6
      have d7 := cell_of hbx 7
      have HA := Lib.hid (And.intro hal hbx)
      clear hal hbx
      cases mb with
      | false =>
        have HE : Hid (false = true ↔ rightB D) := Lib.hid ⟨(fun h => by cases h), fun h => absurd h (HS.out.2 (fun h => by cases h.1))⟩
        go_wp2_with fail
        (refine (CM2.out _ HA.out.1).mono ?_)
        rintro e w2 ⟨rfl, b2⟩
        have HB2 := Lib.hid (HB.out.trans ((HA.out.1.trans (b2.mono HA.out.1.size)).mono HB.out.size))
        clear b2 CM2 HS
        go_wp2
        go_ret
        exact ⟨false, rfl, HE.out, HB2.out⟩
      | true =>
        go_wp2_with fail
        (refine (CM2.out _ HA.out.1).mono ?_)
        rintro e w2 ⟨rfl, b2⟩
        have HB2 := Lib.hid (HB.out.trans ((HA.out.1.trans (b2.mono HA.out.1.size)).mono HB.out.size))
        have d0 : w2.cell? ⟨wr.heap.size, 0, none⟩ = some (.int .i64 xk) := (b2.cell (lt_of_cell d0)).trans d0
        clear b2 CM2 HB
        by_cases hx : xk = 1
        · subst hx
          by_cases hu0 : u = 0
          · subst hu0
            have HF2 : Hid (frontB D 1) := Lib.hid (HS.out.1 (by trivial) ⟨fun _ => rfl, fun _ => rfl⟩)
            clear HS
            go_wp2
            go_roundw
            case rel => exact ⟨1, rfl, by omega, Lib.hid ⟨HF2.out, HB2.out⟩⟩
            case measure => simp [intOf]; omega
          · have hz : ((u : Int) == 0) = false := beq_eq_false_iff_ne.2 (by omega)
            have HE : Hid (false = true ↔ rightB D) := Lib.hid ⟨(fun h => by cases h), fun h => absurd h (HS.out.2 (fun h => hu0 (h.2.1 rfl)))⟩
            clear HS
            go_wp2
            go_ret
            exact ⟨false, rfl, HE.out, HB2.out⟩
        · have hxb : (xk == 1) = false := beq_eq_false_iff_ne.2 hx
          by_cases hu0 : u = 0
          · subst hu0
            have HE : Hid (false = true ↔ rightB D) := Lib.hid ⟨(fun h => by cases h), fun h => absurd h (HS.out.2 (fun h => hx (h.2.2 rfl)))⟩
            clear HS
            go_wp2
            go_ret
            exact ⟨false, rfl, HE.out, HB2.out⟩
          · have hz : ((u : Int) == 0) = false := beq_eq_false_iff_ne.2 (by omega)
            have HF2 : Hid (frontB D (u + 1)) := Lib.hid (HS.out.1 (by trivial) ⟨fun h => absurd h hx, fun h => absurd h hu0⟩)
            clear HS
            go_wp2
            go_roundw
            case rel => exact ⟨u + 1, by go_num, by omega, Lib.hid ⟨HF2.out, HB2.out⟩⟩
            case measure => simp [intOf]; omega
    · obtain rfl : u = D.length := by omega
      have HFA := Lib.hid (front_all HX.out.1)
      have HB := Lib.hid HX.out.2
      clear HX
      by_cases h0 : D.length = 0
      · have HE : Hid (false = true ↔ rightB D) := Lib.hid ⟨(fun h => by cases h), fun h => by have := h.2.1; omega⟩
        have z0 : ¬ ((0 : Int) < (D.length : Int)) := by omega
        go_wp2
        go_ret
        exact ⟨false, rfl, HE.out, HB.out⟩
      have h00 : 0 < D.length := by omega
      have z0 : (0 : Int) < (D.length : Int) := by omega
      have CP := placedP_hid D HF.out h00
      have CRe := fun P => reached_hid D HF.out h00 P
      obtain ⟨B', off', rfl, -, -, -, -, p4, -⟩ := (HD.out.below HB.out).node h00
      rw [Nat.zero_mul, Nat.add_zero] at p4
      have hp0 := par_at h00
      generalize (D[0]'h00).p = xp at p4 hp0
      by_cases hxp : xp = -1
      case neg =>
        have HE : Hid (false = true ↔ rightB D) := Lib.hid ⟨(fun h => by cases h), fun h => by have := h.2.2.1; omega⟩
        clear CP CRe hp0
        go_wp2
        go_ret
        exact ⟨false, rfl, HE.out, HB.out⟩
      subst hxp
      go_wp2_with fail
      (refine (CP.out _ _ _ _ (HD.out.below HB.out)).mono ?_)
      rintro e w2 ⟨b, rfl, hb, b2⟩
      have HB2 := Lib.hid (HB.out.trans (b2.mono HB.out.size))
      clear b2 CP p4
      cases b with
      | false =>
        have HE : Hid (false = true ↔ rightB D) := Lib.hid ⟨(fun h => by cases h), fun h => hb.2 h.2.2.2.1⟩
        clear CRe hp0 hb
        go_wp2
        go_ret
        exact ⟨false, rfl, HE.out, HB2.out⟩
      | true =>
        have HPl := Lib.hid (hb.1 rfl)
        have CRe := CRe HPl.out
        have Hp0 := Lib.hid hp0
        clear hb hp0
        go_wp2_with fail
        (refine (CRe.out _ _ _ _ (HD.out.below HB2.out)).mono ?_)
        rintro e w3 ⟨n, rfl, hn, b3⟩
        have HB3 := Lib.hid (HB2.out.trans (b3.mono HB2.out.size))
        have HN := Lib.hid hn
        clear b3 CRe hn
        by_cases hnl : n = D.length
        · subst hnl
          have HR : Hid (rightB D) := Lib.hid ⟨HFA.out, by omega, Hp0.out, HPl.out, HN.out.1 rfl⟩
          clear HN
          go_wp2
          go_ret
          exact ⟨true, rfl, ⟨fun _ => HR.out, fun _ => rfl⟩, HB3.out⟩
        · have hnz : ((n : Int) == (D.length : Int)) = false := beq_eq_false_iff_ne.2 (by omega)
          have HE : Hid (false = true ↔ rightB D) := Lib.hid ⟨(fun h => by cases h), fun h => absurd (HN.out.2 h.2.2.2.2) hnl⟩
          clear HN
          go_wp2
          go_ret
          exact ⟨false, rfl, HE.out, HB3.out⟩

set_option maxRecDepth 100000 in
set_option maxHeartbeats 4000000 in
theorem checkP_hid (D : List Nd) (hf : FitD D) : Hid (∀ W sl A K, DocIn W sl D A K → Capd D A → Calls Try.prog 15 #[.agg #[sl]] W fun e w' => e = .returned (.int .i64 (checkM D)) ∧ Below W.heap.size W w') := Lib.hid fun w sl A K hd hcap => by
  obtain ⟨a, c, rfl⟩ := hd.form
  obtain ⟨d1, b1, l1⟩ := docBox w hd
  have CR := rightP_hid D hf
  generalize hw1 : w.alloc (.cells #[.slice a D.length c] 24) = w1 at d1 b1 l1
  have e0 := cell_of b1 0
  have H1 := Lib.hid (And.intro d1 l1)
  have HC := Lib.hid hcap
  clear hd d1 b1 l1 hcap
  by_cases hl : 300 < D.length
  · have z1 : (300 : Int) < (D.length : Int) := by omega
    have HE : Hid (checkM D = 2) := Lib.hid (check_two.2 hl)
    go_enter Try.func15, Try.ntmps15
    go_wp2
    go_ret
    exact ⟨by rw [HE.out]; rfl, H1.out.2⟩
  have z1 : ¬ ((300 : Int) < (D.length : Int)) := by omega
  go_enter Try.func15, Try.ntmps15
  go_wp2_with fail
  (refine (CR.out _ _ _ _ H1.out.1 HC.out).mono ?_)
  rintro e w2 ⟨b, rfl, hb, b2⟩
  have HB2 := Lib.hid (H1.out.2.trans (b2.mono H1.out.2.size))
  rw [right_iff (by omega)] at hb
  clear CR b2 hw1 e0
  cases b with
  | false =>
    have HE : Hid (checkM D = 171) := Lib.hid (check_form (by omega) (fun h => by have := hb.2 h; cases this))
    clear hb
    go_wp2
    go_ret
    exact ⟨by rw [HE.out]; rfl, HB2.out⟩
  | true =>
    have HE : Hid (checkM D = 0) := Lib.hid (check_right.2 (hb.1 rfl))
    clear hb
    go_wp2
    go_ret
    exact ⟨by rw [HE.out]; rfl, HB2.out⟩
set_option maxRecDepth 100000 in
set_option maxHeartbeats 4000000 in
theorem isThere_hid (D : List Nd) (hf : FitD D) (n : Int) : Hid (∀ W sl A K, DocIn W sl D A K → Capd D A → Calls Try.prog 39 #[.agg #[sl], .int .i64 n] W fun e w' => e = .returned (.bool (thereM D n)) ∧ Below W.heap.size W w') := Lib.hid fun w sl A K hd hcap => by
  obtain ⟨a, c, rfl⟩ := hd.form
  obtain ⟨d1, b1, l1⟩ := docBox w hd
  have CR := checkP_hid D hf
  generalize hw1 : w.alloc (.cells #[.slice a D.length c] 24) = w1 at d1 b1 l1
  have e0 := cell_of b1 0
  have H1 := Lib.hid (And.intro d1 l1)
  have HC := Lib.hid hcap
  clear hd d1 b1 l1 hcap
  have CN := isNode_any a D.length c n
  unfold thereM
  generalize hbn : (decide (0 ≤ n) && decide (n < (D.length : Int))) = bn at CN ⊢
  clear hbn
  cases bn with
  | false =>
    go_enter Try.func39, Try.ntmps39
    go_wp2_with (go_at_call 63; refine (CN _).mono ?_; rintro e w2 ⟨rfl, rfl⟩)
    go_ret
    exact ⟨rfl, H1.out.2⟩
  | true =>
    have HE : Hid ((checkM D == 0) = (true && decide (checkM D = 0))) := Lib.hid (by rw [Bool.true_and]; rfl)
    generalize (true && decide (checkM D = 0)) = bb at HE ⊢
    generalize checkM D = ck at CR HE
    go_enter Try.func39, Try.ntmps39
    go_wp2_with fail
    (refine (CN _).mono ?_)
    rintro e w2 ⟨rfl, rfl⟩
    clear CN
    go_wp2_with fail
    (refine (CR.out _ _ _ _ H1.out.1 HC.out).mono ?_)
    rintro e w3 ⟨rfl, b3⟩
    have HB2 := Lib.hid (H1.out.2.trans (b3.mono H1.out.2.size))
    clear CR b3 hw1 e0
    go_wp2
    go_ret
    exact ⟨congrArg (fun b => Ending.returned (Value.bool b)) HE.out, HB2.out⟩

end Go.Proofs.Ytcmbkhlnigbooaa.Dm

namespace Go.Proofs.Ytcmbkhlnigbooaa.Dm
open Go.RowKit

set_option maxRecDepth 100000 in
set_option maxHeartbeats 8000000 in
theorem attrP_hid (D : List Nd) (hf : FitD D) (n : Int) (name : ByteArray) : Hid (∀ W sl A K, DocIn W sl D A K → Capd D A → Calls Try.prog 13 #[.agg #[sl], .int .i64 n, .string name] W fun e w' => e = .returned (attrV (attrM D n name.data.toList)) ∧ Below W.heap.size W w') := Lib.hid fun w sl A K hd hcap => by
  obtain ⟨a, c, rfl⟩ := hd.form
  obtain ⟨d1, b1, l1⟩ := docBox w hd
  have CT := isThere_hid D hf n
  have hfl := hf.1
  generalize hw1 : w.alloc (.cells #[.slice a D.length c] 24) = w1 at d1 b1 l1
  obtain ⟨R, hR⟩ : ∃ R, w.heap.size = R := ⟨_, rfl⟩
  have e0 := cell_of b1 0
  have b1' := b1
  rw [hR] at b1' e0
  have H1 := Lib.hid (And.intro d1 (And.intro b1' l1))
  have HF := Lib.hid hf
  have HC := Lib.hid hcap
  clear hd d1 b1 l1 hf b1' hcap
  cases ht : thereM D n with
  | false =>
    have HE : Hid (attrM D n name.data.toList = none) := Lib.hid (by unfold attrM; rw [ht]; rfl)
    rw [ht] at CT
    go_enter Try.func13, Try.ntmps13
    go_wp2_with fail
    (refine (CT.out _ _ _ _ H1.out.1 HC.out).mono ?_)
    rintro e w2 ⟨rfl, b2⟩
    have H2 := Lib.hid (H1.out.2.2.trans (b2.mono H1.out.2.2.size))
    clear b2 hw1 CT
    go_wp2
    go_ret2
    exact ⟨by rw [HE.out]; rfl, H2.out⟩
  | true =>
    rw [ht] at CT
    obtain ⟨-, i, rfl, hi⟩ := there_right ht
    have hE : attrM D (i : Int) name.data.toList = findA name.data.toList D[i].a := by
      unfold attrM
      rw [if_pos ht, Int.toNat_natCast, List.getElem?_eq_getElem hi]
      rfl
    rw [findA_at] at hE
    have CI := place_hid D[i].a name (by have := (HF.out.2 _ (List.getElem_mem hi)).2.2.1; omega)
    have zi : (i : Int) < (D.length : Int) := by omega
    clear ht
    go_enter Try.func13, Try.ntmps13
    go_wp2_with fail
    (refine (CT.out _ _ _ _ H1.out.1 HC.out).mono ?_)
    rintro e w2 ⟨rfl, b2⟩
    obtain ⟨d2, bx2⟩ := H1.out.1.boxed H1.out.2.1 b2
    have e0 := cell_of bx2 0
    obtain ⟨B, off, rfl, c0, c1, c2, c3, c4, c5, c6, c7⟩ := d2.node hi
    have hat := d2.at' i hi
    obtain ⟨N, hN⟩ := text_of D[i].n
    obtain ⟨T, hT⟩ := text_of D[i].d
    rw [strV_of hN] at c1
    rw [strV_of hT] at c2
    generalize hxk : D[i].k = xk at c0
    generalize hxp : D[i].p = xp at c4
    generalize hxb : D[i].b = xb at c6
    generalize hxs : D[i].s = xs at c7
    obtain ⟨C, hC⟩ : ∃ C, D[i].a = C := ⟨_, rfl⟩
    rw [hC] at hE hat CI
    obtain ⟨aa, ac, ha⟩ := hat.form
    rw [ha] at c3 hat
    have H2 := Lib.hid (And.intro hat (And.intro bx2 (H1.out.2.2.trans (b2.mono H1.out.2.2.size))))
    have HE := Lib.hid hE
    have HI : Hid (findI name.data.toList C = if atM name.data.toList C < C.length then (atM name.data.toList C : Int) else -1) := Lib.hid rfl
    clear b2 hw1 CT d2 bx2 H1 hxk hxp hxb hxs hN hT hat hE hC ha
    go_wp2_with fail
    (refine (CI.out _ _ H2.out.1).mono ?_)
    rintro e w3 ⟨rfl, b3⟩
    have e0 := cell_of ((b3.block _ (lt_of_block H2.out.2.1)).trans H2.out.2.1) 0
    have c3 := (b3.cell (lt_of_cell c3)).trans c3
    have H3 := Lib.hid (And.intro (H2.out.1.below b3) (H2.out.2.2.trans (b3.mono H2.out.2.2.size)))
    clear b3 H2 CI c0 c1 c2 c4 c5 c6 c7
    rw [HI.out]
    by_cases hlt : atM name.data.toList C < C.length
    · rw [if_pos hlt]
      obtain ⟨B2, off2, rfl, -, v0⟩ := H3.out.1.at hlt
      have HV : Hid (attrM D (i : Int) name.data.toList = some C[atM name.data.toList C].2) := Lib.hid (by rw [HE.out, List.getElem?_eq_getElem hlt]; rfl)
      obtain ⟨V, hV⟩ := text_of C[atM name.data.toList C].2
      rw [strV_of hV] at v0
      have HV2 := Lib.hid hV
      generalize hq : atM name.data.toList C = q at *
      have zq : ¬ (q : Int) < 0 := by omega
      have zq2 : (q : Int) < (C.length : Int) := by omega
      clear hq hV HI HE
      go_wp2
      go_ret2
      exact ⟨by rw [HV.out, show attrV (some C[q].2) = .tuple #[strV C[q].2, .bool true] from rfl, strV_of HV2.out]; rfl, H3.out.2⟩
    · rw [if_neg hlt]
      have HV : Hid (attrM D (i : Int) name.data.toList = none) := Lib.hid (by rw [HE.out, List.getElem?_eq_none (by omega)]; rfl)
      clear hlt
      go_wp2
      go_ret2
      exact ⟨by rw [HV.out]; rfl, H3.out.2⟩

set_option maxRecDepth 100000 in
set_option maxHeartbeats 8000000 in
theorem inP_hid (D : List Nd) (hf : FitD D) (n : Int) : Hid (∀ W sl A K, DocIn W sl D A K → Capd D A → Calls Try.prog 23 #[.agg #[sl], .int .i64 n] W fun e w' => e = .returned (.bool (thereM D n && upM D 0 n.toNat)) ∧ Below W.heap.size W w') := Lib.hid fun w sl A K hd hcap => by
  obtain ⟨a, c, rfl⟩ := hd.form
  obtain ⟨d1, b1, l1⟩ := docBox w hd
  have CT := isThere_hid D hf n
  have hfl := hf.1
  generalize hw1 : w.alloc (.cells #[.slice a D.length c] 24) = w1 at d1 b1 l1
  obtain ⟨R, hR⟩ : ∃ R, w.heap.size = R := ⟨_, rfl⟩
  have e0 := cell_of b1 0
  have b1' := b1
  rw [hR] at b1' e0
  have H1 := Lib.hid (And.intro d1 (And.intro b1' l1))
  have HC := Lib.hid hcap
  clear hd d1 b1 l1 hf b1' hcap
  cases ht : thereM D n with
  | false =>
    rw [ht] at CT
    rw [Bool.false_and]
    go_enter Try.func23, Try.ntmps23
    go_wp2_with fail
    (refine (CT.out _ _ _ _ H1.out.1 HC.out).mono ?_)
    rintro e w2 ⟨rfl, b2⟩
    have H2 := Lib.hid (H1.out.2.2.trans (b2.mono H1.out.2.2.size))
    clear b2 hw1 CT
    go_wp2
    go_ret
    exact ⟨rfl, H2.out⟩
  | true =>
    rw [ht] at CT
    obtain ⟨R0, t, rfl, hlt⟩ := there_right ht
    have HR := Lib.hid R0
    clear ht R0
    rw [Bool.true_and, Int.toNat_natCast]
    go_enter Try.func23, Try.ntmps23
    go_wp2_with fail
    (refine (CT.out _ _ _ _ H1.out.1 HC.out).mono ?_)
    rintro e w2 ⟨rfl, b2⟩
    obtain ⟨d2, bx2⟩ := H1.out.1.boxed H1.out.2.1 b2
    have e0 := cell_of bx2 0
    have H2 := Lib.hid (And.intro d2 (H1.out.2.2.trans (b2.mono H1.out.2.2.size)))
    clear b2 hw1 CT d2 bx2 H1
    go_wp2
    go_loopw [1] (fun i wr => ∃ s : Nat, i = .int .i64 s ∧ s < D.length ∧ Hid (upM D 0 t = upM D 0 s) ∧ wr = w2) (fun i _ => depN D (intOf i))
    case atStart => exact ⟨t, rfl, hlt, Lib.hid rfl, rfl⟩
    case round =>
      obtain ⟨s, rfl, hs, HS, rfl⟩ := hrel
      have zs0 : (0 : Int) ≤ (s : Int) := by omega
      have zs : (s : Int) < (D.length : Int) := by omega
      obtain ⟨B, off, rfl, -, -, -, -, c4, -⟩ := H2.out.1.node hs
      have hu := upM_eq HR.out (t := 0) hs
      have hdep := depN_up HR.out hs
      have hpn := HR.out.neg hs
      rw [par_at hs] at hu hdep hpn
      obtain ⟨z, hz⟩ : ∃ z, D[s].p = z := ⟨_, rfl⟩
      have hps := par_at hs
      rw [hz] at c4 hu hdep hpn hps
      clear hz
      by_cases hzz : z = -1
      · subst hzz
        rw [show decide ((0 : Int) ≤ -1) = false from rfl, Bool.false_and, Bool.or_false] at hu
        have HE : Hid (((s : Int) == 0) = upM D 0 t) := Lib.hid (by rw [HS.out, hu]; exact natCast_eq s 0)
        clear hu hdep hpn HS hps
        go_wp2
        go_ret
        exact ⟨congrArg (fun b => Ending.returned (Value.bool b)) HE.out, H2.out.2⟩
      · obtain ⟨q, rfl, hq⟩ : ∃ q : Nat, z = q ∧ q < D.length := by
          rcases hpn with h | ⟨q, h1, h2⟩
          · exact absurd h hzz
          · exact ⟨q, h1, h2⟩
        rw [decide_eq_true (show (0 : Int) ≤ (q : Int) by omega), Bool.true_and, Int.toNat_natCast] at hu
        have hzb : ((q : Int) == -1) = false := beq_eq_false_iff_ne.2 (by omega)
        have hs0 : s ≠ 0 := fun e => by
          subst e
          have h1 := HR.out.root
          omega
        have HS2 : Hid (upM D 0 t = upM D 0 q) := Lib.hid (by rw [HS.out, hu, decide_eq_false hs0, Bool.false_or])
        have HM := Lib.hid hdep
        clear hu hdep hpn HS hzz hps
        go_wp2
        go_roundw
        case rel => exact ⟨q, rfl, hq, HS2, trivial⟩
        case measure => exact HM.out

end Go.Proofs.Ytcmbkhlnigbooaa.Dm
