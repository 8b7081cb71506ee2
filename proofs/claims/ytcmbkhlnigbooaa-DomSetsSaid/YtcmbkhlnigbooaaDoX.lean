/- The document's own: May for every node; are a node's kids nodes; does one come to one that stands nowhere. The document's own: does a node stand where it says; does one come from it to one that stands nowhere. Documents of one's own: a node's parent, its kids, its attributes are set. The document's own: what Put comes to, and a node's kids or attributes that grow in a document of one's own. -/
import Derived.Deep.RegionWith
import Derived.Test.YtcmbkhlnigbooaaDoE
namespace Go.Proofs.Ytcmbkhlnigbooaa.Dm
open Go.RowKit

/-- The value of a node. -/
def nodeV (x : Nd) (av kv : Value) : Value := .agg #[.int .i64 x.k, strV x.n, strV x.d, av, .int .i64 x.p, kv, .bool x.b, .bool x.s]
theorem may_hid (x : Nd) (hl : x.a.length ≤ 1000) : Hid (∀ W av kv, AtIn W av x.a → Calls Try.prog 44 #[nodeV x av kv] W fun e w' => e = .returned (.bool (mayM x)) ∧ Below W.heap.size W w') := Lib.hid fun w av kv ha => by
  obtain ⟨a, c, rfl⟩ := ha.form
  obtain ⟨N, hN⟩ := text_of x.n
  obtain ⟨D, hD⟩ := text_of x.d
  unfold nodeV
  rw [strV_of hN, strV_of hD]
  unfold mayM bareM
  rw [← hN, ← hD]
  have e0 : decide (x.a = []) = decide (x.a.length = 0) := by
    by_cases h : x.a = []
    · rw [h]; rfl
    · rw [decide_eq_false h, decide_eq_false (by have := List.length_pos_iff.2 h; omega)]
  rw [e0]
  by_cases h1 : x.k = 1
  · rw [if_pos h1, h1]
    exact may_one N D x.p x.b x.s x.a a c kv w
  rw [if_neg h1]
  by_cases h3 : x.k = 3
  · rw [if_pos (.inl h3), h3]
    exact may_three N D x.p x.b x.s x.a a c kv w
  by_cases h4 : x.k = 4
  · rw [if_pos (.inr h4), h4]
    exact may_four N D x.p x.b x.s x.a a c kv w
  rw [if_neg (by omega)]
  by_cases h2 : x.k = 2
  · rw [if_pos h2, h2]
    by_cases h0 : x.a = []
    · exact may_two0 N D x.p x.b x.s x.a a c kv w h0
    · exact may_two N D x.p x.b x.s x.a a c kv w ha hl h0
  · rw [if_neg h2]
    exact may_none N D x.p x.b x.s x.a a c kv w x.k h1 h2 h3 h4
theorem holdsV_hid (x : Nd) : Hid (∀ W av kv, Calls Try.prog 69 #[nodeV x av kv] W fun e w' => e = .returned (.bool (holdM x)) ∧ Below W.heap.size W w') := Lib.hid fun w av kv => by
  obtain ⟨N, hN⟩ := text_of x.n
  obtain ⟨D, hD⟩ := text_of x.d
  unfold nodeV
  rw [strV_of hN, strV_of hD]
  exact (holds_hid x.k N D x.p x.b x.s).out w av kv

theorem all_step {p : Int → Bool} {C : List Int} {v : Nat} (h : v < C.length) (h1 : (C.take v).all p = true) (h2 : p C[v] = true) : (C.take (v + 1)).all p = true := by
  rw [List.take_add_one, List.getElem?_eq_getElem h, List.all_append, h1]
  simp [h2]
theorem all_stop {p : Int → Bool} {C : List Int} {v : Nat} (h : v < C.length) (h2 : p C[v] = false) : C.all p = false := by
  rw [List.all_eq_false]
  exact ⟨_, List.getElem_mem h, by rw [h2]; simp⟩
def inB (n : Nat) (y : Int) : Bool := decide (1 ≤ y) && decide (y < (n : Int))
set_option maxRecDepth 100000 in
set_option maxHeartbeats 8000000 in
theorem kids_hid (D : List Nd) (hf : FitD D) (i : Nat) (hi : i < D.length) : Hid (∀ W sl A K, DocIn W sl D A K → Calls Try.prog 45 #[.agg #[sl], .int .i64 (i : Int)] W fun e w' => e = .returned (.bool (kidsB D D[i])) ∧ Below W.heap.size W w') := Lib.hid fun w sl A K hd => by
  obtain ⟨a, c, rfl⟩ := hd.form
  obtain ⟨d1, b1, l1⟩ := docBox w hd
  have hfl := hf.1
  generalize hw1 : w.alloc (.cells #[.slice a D.length c] 24) = w1 at d1 b1 l1
  obtain ⟨R, hR⟩ : ∃ R, w.heap.size = R := ⟨_, rfl⟩
  have b1' := b1
  rw [hR] at b1'
  have e0 := cell_of b1' 0
  obtain ⟨B, off, rfl, c0, c1, c2, c3, c4, c5, c6, c7⟩ := d1.node hi
  obtain ⟨ka, kc, hk⟩ := (d1.kd i hi).form
  have CH := holdsV_hid D[i]
  obtain ⟨N, hN⟩ := text_of D[i].n
  obtain ⟨T, hT⟩ := text_of D[i].d
  unfold nodeV at CH
  rw [strV_of hN, strV_of hT] at CH
  rw [strV_of hN] at c1
  rw [strV_of hT] at c2
  rw [hk] at c5
  have hB : kidsB D D[i] = ((decide (D[i].c = []) || holdM D[i]) && decide (D[i].c.length ≤ D.length) && D[i].c.all (inB D.length)) := rfl
  have hlen : D[i].c.length ≤ 1000 := (hf.2 _ (List.getElem_mem hi)).2.2.2.1
  have zi : (i : Int) < (D.length : Int) := by omega
  have H1 := Lib.hid (And.intro b1' (And.intro l1 (show IntIn w1 (.slice ka D[i].c.length kc) D[i].c by rw [← hk]; exact d1.kd i hi)))
  have hn : D[i].c = [] ∨ ¬ ((D[i].c.length : Int) ≤ 0) := by
    by_cases h : D[i].c = []
    · exact .inl h
    · exact .inr (by have := List.length_pos_iff.2 h; omega)
  rw [hB]
  generalize hC : D[i].c = C at H1 hlen c5 hn ⊢
  generalize holdM D[i] = hm at CH ⊢
  generalize hxk : D[i].k = xk at c0
  generalize hxp : D[i].p = xp at c4
  generalize hxb : D[i].b = xb at c6
  generalize hxs : D[i].s = xs at c7
  rw [hxk, hxp, hxb, hxs] at CH
  clear hd d1 b1 l1 hf hk hN hT hC hB b1' hxk hxp hxb hxs
  generalize D.length = m at *
  rcases hn with rfl | hn
  · simp only [List.length_nil] at *
    go_enter Try.func45, Try.ntmps45
    go_wp2
    refine wp_loop_rounds 1 ?_
    rw [rounds_succ]
    go_wp2
    go_ret
    exact ⟨by simp, H1.out.2.1⟩
  · have hne : decide (C = []) = false := decide_eq_false fun h => hn (by rw [h]; simp)
    have hn2 : (0 : Int) < (C.length : Int) := by omega
    rw [hne, Bool.false_or]
    clear hn
    go_enter Try.func45, Try.ntmps45
    go_wp2_with fail
    clear hw1
    (refine (CH.out _ _ _).mono ?_)
    rintro e w2 ⟨rfl, b2⟩
    have H2 : Hid (w2.heap[R]? = some (.cells #[.slice (some ⟨B, off, none⟩) m c] 24 (0, 0)) ∧ Below w.heap.size w w2 ∧ IntIn w2 (.slice ka C.length kc) C) := Lib.hid ⟨(b2.block _ (lt_of_block H1.out.1)).trans H1.out.1, H1.out.2.1.trans (b2.mono H1.out.2.1.size), H1.out.2.2.below b2⟩
    have e0 := cell_of H2.out.1 0
    clear b2 H1 CH c0 c1 c2 c3 c4 c5 c6 c7
    cases hm with
    | false =>
      go_wp2
      go_ret
      exact ⟨by simp, H2.out.2.1⟩
    | true =>
      by_cases hcm : (C.length : Int) ≤ (m : Int)
      · have hcd : decide (C.length ≤ m) = true := decide_eq_true (by omega)
        have HCD := Lib.hid hcd
        have hc3 : decide (m < C.length) = false := by simp; omega
        clear hcd
        go_wp2
        go_loopw [6] (fun j wr => ∃ v n : Nat, j = .int .i64 v ∧ v ≤ C.length ∧ Hid ((C.take v).all (inB m) = true) ∧ wr = w2.drewN n) (fun j _ => C.length - (intOf j).toNat)
        case atStart => exact ⟨0, 0, rfl, Nat.zero_le _, Lib.hid (by simp), rfl⟩
        case round =>
          obtain ⟨v, n, rfl, hv, HV, rfl⟩ := hrel
          by_cases hlv : v < C.length
          · obtain ⟨B2, off2, rfl, k0⟩ := H2.out.2.2.at hlv
            have zv : (v : Int) < (C.length : Int) := by omega
            obtain ⟨y, hy0⟩ : ∃ y, C[v] = y := ⟨_, rfl⟩
            rw [hy0] at k0
            by_cases h1 : y < 1
            · have hfin : C.all (inB m) = false := all_stop hlv (by rw [hy0]; unfold inB; rw [decide_eq_false (by omega), Bool.false_and])
              clear hy0 HV
              go_wp2_with fail
              go_quiet (fail)
              go_wp2
              go_ret
              exact ⟨by rw [HCD.out, hfin]; rfl, belowN (belowN H2.out.2.1 _) _⟩
            · by_cases h2 : (m : Int) ≤ y
              · have hfin : C.all (inB m) = false := all_stop hlv (by rw [hy0]; unfold inB; rw [decide_eq_false (show ¬ y < (m : Int) by omega), Bool.and_false])
                clear hy0 HV
                go_wp2_with fail
                go_quiet (fail)
                go_wp2
                go_ret
                exact ⟨by rw [HCD.out, hfin]; rfl, belowN (belowN H2.out.2.1 _) _⟩
              · have HV2 := Lib.hid (all_step hlv HV.out (by rw [hy0]; unfold inB; rw [decide_eq_true (by omega), decide_eq_true (by omega)]; rfl))
                clear hy0 HV
                go_wp2_with fail
                go_quiet (fail)
                go_wp2
                go_roundw
                case rel => exact ⟨v + 1, n + nq, by go_num, by omega, HV2, rfl⟩
                case measure => simp [intOf]; omega
          · obtain rfl : v = C.length := by omega
            have hfin : C.all (inB m) = true := by have := HV.out; rw [List.take_length] at this; exact this
            go_wp2
            go_ret
            exact ⟨by rw [HCD.out, hfin]; rfl, belowN H2.out.2.1 _⟩
      · have hcd : decide (C.length ≤ m) = false := decide_eq_false (by omega)
        have HCD := Lib.hid hcd
        clear hcd
        go_wp2
        go_ret
        exact ⟨by rw [HCD.out]; rfl, H2.out.2.1⟩

end Go.Proofs.Ytcmbkhlnigbooaa.Dm

namespace Go.Proofs.Ytcmbkhlnigbooaa.Dm
open Go.RowKit

/-- A document that is read, and the block it is boxed in. -/
theorem DocIn.boxed {w w' : World} {R : Nat} {sl : Value} {D : List Nd} {A K : Nat → Value} (h : DocIn w sl D A K) (b : w.heap[R]? = some (.cells #[sl] 24 (0, 0))) (hb : Below w.heap.size w w') : DocIn w' sl D A K ∧ w'.heap[R]? = some (.cells #[sl] 24 (0, 0)) := ⟨h.below hb, (hb.block _ (lt_of_block b)).trans b⟩
theorem par_at {D : List Nd} {i : Nat} (h : i < D.length) : par D i = D[i].p := par_some (List.getElem?_eq_getElem h)
theorem kid_at {D : List Nd} {i : Nat} (h : i < D.length) : kid D i = D[i].c := kid_some (List.getElem?_eq_getElem h)
theorem holds_at {D : List Nd} {i : Nat} (h : i < D.length) : holds D i = holdM D[i] := holds_some (List.getElem?_eq_getElem h)
theorem natCast_eq (n k : Nat) : ((n : Int) == (k : Int)) = decide (n = k) := by
  by_cases h : n = k
  · rw [h]; simp
  · rw [decide_eq_false h]; simp; omega

set_option maxRecDepth 100000 in
set_option maxHeartbeats 8000000 in
theorem placed_hid (D : List Nd) (hf : FitD D) (i : Nat) (hi : i < D.length) : Hid (∀ W sl A K, DocIn W sl D A K → Calls Try.prog 46 #[.agg #[sl], .int .i64 (i : Int)] W fun e w' => e = .returned (.bool (placedB D i)) ∧ Below W.heap.size W w') := Lib.hid fun w sl A K hd => by
  obtain ⟨a, c, rfl⟩ := hd.form
  obtain ⟨d1, b1, l1⟩ := docBox w hd
  have hfl := hf.1
  have CT := times_hid D hf i
  generalize hw1 : w.alloc (.cells #[.slice a D.length c] 24) = w1 at d1 b1 l1
  obtain ⟨R, hR⟩ : ∃ R, w.heap.size = R := ⟨_, rfl⟩
  have b1' := b1
  rw [hR] at b1'
  have e0 := cell_of b1' 0
  have zi : (i : Int) < (D.length : Int) := by omega
  obtain ⟨B, off, rfl, c0, c1, c2, c3, c4, c5, c6, c7⟩ := d1.node hi
  have H1 := Lib.hid (And.intro d1 (And.intro b1' l1))
  unfold placedB
  rw [par_at hi]
  obtain ⟨y, hy⟩ : ∃ y, D[i].p = y := ⟨_, rfl⟩
  rw [hy] at c4 ⊢
  clear hd d1 b1 b1' l1 c0 c1 c2 c3 c5 c6 c7 hy
  by_cases h1 : y = -1
  · subst h1
    rw [if_pos rfl]
    go_enter Try.func46, Try.ntmps46
    go_wp2_with fail
    (refine (CT.out _ _ _ _ H1.out.1).mono ?_)
    rintro e w2 ⟨rfl, b2⟩
    have H2 := Lib.hid (H1.out.2.2.trans (b2.mono H1.out.2.2.size))
    clear b2 hw1
    by_cases ht : timesM D i = 0
    · have e1 : ((timesM D i : Nat) : Int) = 0 := by omega
      rw [e1]
      go_wp2
      go_ret
      exact ⟨by rw [decide_eq_true ht]; rfl, by first | exact H2.out | (rw [← hR]; exact H2.out)⟩
    · have zt2 : (((timesM D i : Nat) : Int) == 0) = false := by simp; omega
      go_wp2
      go_ret
      exact ⟨by rw [decide_eq_false ht]; rfl, by first | exact H2.out | (rw [← hR]; exact H2.out)⟩
  · rw [if_neg h1]
    have g1 : (y == -1) = false := by simp [h1]
    by_cases hi0 : i = 0
    · subst hi0
      rw [decide_eq_false (Nat.lt_irrefl 0)]
      simp only [Bool.false_and]
      go_enter Try.func46, Try.ntmps46
      go_wp2
      go_ret
      exact ⟨rfl, by first | exact H1.out.2.2 | (rw [← hR]; exact H1.out.2.2)⟩
    have zi0 : (0 : Int) < (i : Int) := by omega
    rw [decide_eq_true (show 0 < i by omega)]
    by_cases hy0 : y < 0
    · rw [decide_eq_false (show ¬ (0 ≤ y) by omega)]
      simp only [Bool.and_false, Bool.false_and]
      have zy : ¬ (0 ≤ y) := by omega
      go_enter Try.func46, Try.ntmps46
      go_wp2
      go_ret
      exact ⟨rfl, by first | exact H1.out.2.2 | (rw [← hR]; exact H1.out.2.2)⟩
    obtain ⟨q, rfl⟩ : ∃ q : Nat, y = (q : Int) := ⟨y.toNat, by omega⟩
    by_cases hq : q < D.length
    · have zq : (q : Int) < (D.length : Int) := by omega
      have zq0 : (0 : Int) ≤ (q : Int) := by omega
      rw [decide_eq_true zq0, decide_eq_true zq, Int.toNat_natCast, holds_at hq, kid_at hq]
      simp only [Bool.true_and]
      have CH := holdsV_hid D[q]
      have CS := has_hid D hf q (i : Int) hq
      obtain ⟨B', off', hB, q0, q1, q2, q3, q4, q5, q6, q7⟩ := H1.out.1.node hq
      cases hB
      obtain ⟨N, hN⟩ := text_of D[q].n
      obtain ⟨T, hT⟩ := text_of D[q].d
      unfold nodeV at CH
      rw [strV_of hN, strV_of hT] at CH
      rw [strV_of hN] at q1
      rw [strV_of hT] at q2
      generalize hxk : D[q].k = xk at q0
      generalize hxp : D[q].p = xp at q4
      generalize hxb : D[q].b = xb at q6
      generalize hxs : D[q].s = xs at q7
      rw [hxk, hxp, hxb, hxs] at CH
      generalize holdM D[q] = hm at CH ⊢
      generalize hhs : decide ((i : Int) ∈ D[q].c) = hs at CS ⊢
      clear hxk hxp hxb hxs hN hT hhs
      go_enter Try.func46, Try.ntmps46
      go_wp2_with fail
      clear hw1
      (refine (CH.out _ _ _).mono ?_)
      rintro e w2 ⟨rfl, b2⟩
      obtain ⟨d2, bx2⟩ := H1.out.1.boxed H1.out.2.1 b2
      have e0 := cell_of bx2 0
      have H2 := Lib.hid (And.intro d2 (And.intro bx2 (H1.out.2.2.trans (b2.mono H1.out.2.2.size))))
      clear b2 d2 bx2 H1 c4 q0 q1 q2 q3 q4 q5 q6 q7 CH
      cases hm with
      | false =>
        go_wp2
        go_ret
        exact ⟨rfl, by first | exact H2.out.2.2 | (rw [← hR]; exact H2.out.2.2)⟩
      | true =>
        go_wp2_with fail
        (refine (CS.out _ _ _ _ H2.out.1).mono ?_)
        rintro e w3 ⟨rfl, b3⟩
        obtain ⟨d3, bx3⟩ := H2.out.1.boxed H2.out.2.1 b3
        have e0 := cell_of bx3 0
        have H3 := Lib.hid (And.intro d3 (And.intro bx3 (H2.out.2.2.trans (b3.mono H2.out.2.2.size))))
        clear b3 d3 bx3 H2 CS
        cases hs with
        | false =>
          go_wp2
          go_ret
          exact ⟨rfl, by first | exact H3.out.2.2 | (rw [← hR]; exact H3.out.2.2)⟩
        | true =>
          go_wp2_with fail
          (refine (CT.out _ _ _ _ H3.out.1).mono ?_)
          rintro e w4 ⟨rfl, b4⟩
          have H4 := Lib.hid (H3.out.2.2.trans (b4.mono H3.out.2.2.size))
          clear b4 H3 CT
          by_cases ht : timesM D i = 1
          · have e1 : ((timesM D i : Nat) : Int) = 1 := by omega
            rw [e1]
            go_wp2
            go_ret
            exact ⟨by rw [decide_eq_true ht]; rfl, by first | exact H4.out | (rw [← hR]; exact H4.out)⟩
          · have zt2 : (((timesM D i : Nat) : Int) == 1) = false := by simp; omega
            go_wp2
            go_ret
            exact ⟨by rw [decide_eq_false ht]; rfl, by first | exact H4.out | (rw [← hR]; exact H4.out)⟩
    · have zq : ¬ (q : Int) < (D.length : Int) := by omega
      rw [decide_eq_false zq]
      simp only [Bool.and_false, Bool.false_and]
      have zq0 : (0 : Int) ≤ (q : Int) := by omega
      go_enter Try.func46, Try.ntmps46
      go_wp2
      go_ret
      exact ⟨rfl, by first | exact H1.out.2.2 | (rw [← hR]; exact H1.out.2.2)⟩

end Go.Proofs.Ytcmbkhlnigbooaa.Dm

namespace Go.Proofs.Ytcmbkhlnigbooaa.Dm
open Go.RowKit

theorem set_kinds {D : List Nd} {i : Nat} (hi : i < D.length) {y : Nd} (h : y.k = D[i].k ∧ y.n = D[i].n ∧ y.d = D[i].d ∧ y.p = D[i].p ∧ y.b = D[i].b ∧ y.s = D[i].s) (A K : Nat → Value) : ndsC (D.set i y) A K = ndsC D A K := by
  refine ndsC_same2 _ _ A K (by simp) fun j x z hx hz => ?_
  by_cases e : j = i
  · subst e
    rw [List.getElem?_set_self hi] at hx
    rw [List.getElem?_eq_getElem hi] at hz
    cases hx
    cases hz
    exact h
  · rw [List.getElem?_set_ne (fun h => e h.symm)] at hx
    rw [hx] at hz
    cases hz
    exact ⟨rfl, rfl, rfl, rfl, rfl, rfl⟩
theorem get_set {D : List Nd} {i j : Nat} {y : Nd} (hj : j < (D.set i y).length) : (D.set i y)[j] = if i = j then y else D[j]'(by simpa using hj) := List.getElem_set ..
section
variable {w : World} {B g cap : Nat} {D : List Nd} {A K : Nat → Value}
theorem OwnD.block (h : OwnD w B (.slice (some ⟨g, 0, none⟩) D.length cap) D A K) : ∃ cur, w.heap[g]? = some (.cells cur 42 (0, 0)) ∧ B ≤ g := row_open h.row
theorem OwnD.setP (h : OwnD w B (.slice (some ⟨g, 0, none⟩) D.length cap) D A K) {i : Nat} (hi : i < D.length) (p : Int) : OwnD (w.setCell ⟨g, i * 8 + 4, none⟩ (.int .i64 p)) B (.slice (some ⟨g, 0, none⟩) D.length cap) (D.set i { D[i] with p := p }) A K := by
  obtain ⟨cur, hg, hB⟩ := h.block
  have kS : Kp (fun k _ => k = g) w (w.setCell ⟨g, i * 8 + 4, none⟩ (.int .i64 p)) := Kp.of_set hg _ rfl
  refine ⟨?_, fun j hj => ?_, fun j hj => ?_, fun j k hj hk => h.na j k (by simpa using hj) (by simpa using hk), fun j k hj hk => h.nk j k (by simpa using hj) (by simpa using hk)⟩
  · have := ownsRow_set h.row (i * 8 + 4) (.int .i64 p)
    rw [ndsC_setP D A K i hi p] at this
    simpa using this
  · have hj' : j < D.length := by simpa using hj
    have h1 := kS.row (h.at' j hj') fun k hk _ e => row_ne (h.at' j hj') hg (by decide) (by rw [hk, e])
    rw [get_set hj]
    split
    · rename_i e
      subst e
      exact h1
    · exact h1
  · have hj' : j < D.length := by simpa using hj
    have h1 := kS.row (h.kd j hj') fun k hk _ e => row_ne (h.kd j hj') hg (by decide) (by rw [hk, e])
    rw [get_set hj]
    split
    · rename_i e
      subst e
      exact h1
    · exact h1
theorem OwnD.setK (h : OwnD w B (.slice (some ⟨g, 0, none⟩) D.length cap) D A K) {i : Nat} (hi : i < D.length) {kv : Value} {C : List Int} (hk : w.ownsRow B 3 1 kv C.length (inC C)) (hf : ∀ j, j < D.length → j ≠ i → ∀ k, (K j).ownBlock = some k → kv.ownBlock ≠ some k) : OwnD (w.setCell ⟨g, i * 8 + 5, none⟩ kv) B (.slice (some ⟨g, 0, none⟩) D.length cap) (D.set i { D[i] with c := C }) A (upd K i kv) := by
  obtain ⟨cur, hg, hB⟩ := h.block
  have kS : Kp (fun k _ => k = g) w (w.setCell ⟨g, i * 8 + 5, none⟩ kv) := Kp.of_set hg _ rfl
  refine ⟨?_, fun j hj => ?_, fun j hj => ?_, fun j k hj hk => h.na j k (by simpa using hj) (by simpa using hk), fun j k hj hk hjk q hq => ?_⟩
  · have := ownsRow_set h.row (i * 8 + 5) kv
    rw [ndsC_setK D A K i hi kv, ← set_kinds hi (y := { D[i] with c := C }) ⟨rfl, rfl, rfl, rfl, rfl, rfl⟩] at this
    simpa using this
  · have hj' : j < D.length := by simpa using hj
    have h1 := kS.row (h.at' j hj') fun k hk _ e => row_ne (h.at' j hj') hg (by decide) (by rw [hk, e])
    rw [get_set hj]
    split
    · rename_i e
      subst e
      exact h1
    · exact h1
  · have hj' : j < D.length := by simpa using hj
    rw [get_set hj]
    split
    · rename_i e
      subst e
      rw [upd_self]
      exact kS.row hk fun k hq _ e => row_ne hk hg (by decide) (by rw [hq, e])
    · rename_i e
      rw [upd_ne (fun e2 => e e2.symm)]
      exact kS.row (h.kd j hj') fun k hk _ e => row_ne (h.kd j hj') hg (by decide) (by rw [hk, e])
  · have hj' : j < D.length := by simpa using hj
    have hk' : k < D.length := by simpa using hk
    by_cases e1 : j = i
    · subst e1
      rw [upd_self] at hq
      rw [upd_ne (fun e => hjk e.symm)]
      exact fun h2 => hf k hk' (fun e => hjk e.symm) q h2 hq
    · rw [upd_ne e1] at hq
      by_cases e2 : k = i
      · subst e2
        rw [upd_self]
        exact hf j hj' e1 q hq
      · rw [upd_ne e2]
        exact h.nk j k hj' hk' hjk q hq
end

/-! ### what Out comes to -/
theorem cut_same {D : List Nd} (R : Right D) {n : Nat} (hn : n < D.length) (hp : par D n = -1) : cutM D n = D.set n { D[n] with p := -1 } := by
  refine List.ext_getElem? fun i => ?_
  rw [cut_get]
  have hno : ∀ j, noN n (kid D j) = kid D j := fun j => noN_none fun h => by
    have := (R.up h).1
    rw [hp] at this
    omega
  by_cases e : i = n
  · subst e
    rw [List.getElem?_set_self hn, List.getElem?_eq_getElem hn]
    have := hno i
    rw [kid_at hn] at this
    simp [this]
  · rw [List.getElem?_set_ne (fun h => e h.symm)]
    cases hx : D[i]? with
    | none => rfl
    | some x =>
      have := hno i
      rw [kid_some hx] at this
      simp [e, this]
theorem cut_other {D : List Nd} (R : Right D) {n q : Nat} (hn : n < D.length) (hp : par D n = (q : Nat)) (hq : q < D.length) (hqn : q ≠ n) : cutM D n = (D.set q { D[q] with c := noN n D[q].c }).set n { D[n] with p := -1 } := by
  refine List.ext_getElem? fun i => ?_
  rw [cut_get]
  have hno : ∀ j, j ≠ q → noN n (kid D j) = kid D j := fun j hj => noN_none fun h => by
    have := (R.up h).1
    rw [hp] at this
    omega
  by_cases e : i = n
  · subst e
    rw [List.getElem?_set_self (by simpa using hn), List.getElem?_eq_getElem hn]
    have := hno i (fun h => hqn h.symm)
    rw [kid_at hn] at this
    simp [this]
  · rw [List.getElem?_set_ne (fun h => e h.symm)]
    by_cases e2 : i = q
    · subst e2
      rw [List.getElem?_set_self hq, List.getElem?_eq_getElem hq]
      simp [e]
    · rw [List.getElem?_set_ne (fun h => e2 h.symm)]
      cases hx : D[i]? with
      | none => rfl
      | some x =>
        have := hno i e2
        rw [kid_some hx] at this
        simp [e, this]

end Go.Proofs.Ytcmbkhlnigbooaa.Dm

namespace Go.Proofs.Ytcmbkhlnigbooaa.Dm
open Go.RowKit

theorem put_of_cut {D : List Nd} {n q : Nat} (hn : n < D.length) (hqn : q ≠ n) {E : List Nd} (hE : ∀ (h : n < (cutM D n).length), E = (cutM D n).set n { (cutM D n)[n] with p := (q : Int) }) (h : q < E.length) : putM D q n = E.set q { E[q] with c := E[q].c ++ [(n : Int)] } := by
  have hnc : n < (cutM D n).length := by rw [cut_len]; exact hn
  have hE := hE hnc
  have hEg : ∀ i : Nat, E[i]? = D[i]?.map fun x => ({ x with p := if i = n then (q : Int) else x.p, c := noN n x.c } : Nd) := fun i => by
    rw [hE]
    by_cases e : i = n
    · subst e
      have h1 := cut_get D i i
      rw [List.getElem?_eq_getElem hnc, List.getElem?_eq_getElem hn] at h1
      simp only [Option.map_some, Option.some.injEq] at h1
      rw [List.getElem?_set_self hnc, List.getElem?_eq_getElem hn, h1]
      simp
    · rw [List.getElem?_set_ne (fun h => e h.symm), cut_get]
      simp [e]
  refine List.ext_getElem? fun i => ?_
  rw [put_get]
  by_cases e2 : i = q
  · subst e2
    have h1 := hEg i
    rw [List.getElem?_eq_getElem h] at h1
    rw [List.getElem?_set_self h]
    cases hx : D[i]? with
    | none => rw [hx] at h1; cases h1
    | some x =>
      rw [hx] at h1
      simp only [Option.map_some, Option.some.injEq] at h1
      rw [h1]
      simp [hqn]
  · rw [List.getElem?_set_ne (fun h => e2 h.symm), hEg]
    simp [e2]

section
variable {w w6 : World} {B g cap : Nat} {D : List Nd} {A K : Nat → Value}
theorem OwnD.growK (h : OwnD w B (.slice (some ⟨g, 0, none⟩) D.length cap) D A K) {i : Nat} (hi : i < D.length) {kv : Value} {C : List Int} (hg : w.grownBy w6 (K i).ownBlock) (hk : w6.ownsRow B 3 1 kv C.length (inC C)) (hat : kv.ownBlock = (K i).ownBlock ∨ kv.ownBlock = some w.heap.size) : OwnD (w6.setCell ⟨g, i * 8 + 5, none⟩ kv) B (.slice (some ⟨g, 0, none⟩) D.length cap) (D.set i { D[i] with c := C }) A (upd K i kv) ∧ Kp (fun j t => t = 3 ∧ B ≤ j) w w6 := by
  have k0 : Kp (fun j _ => (K i).ownBlock = some j) w w6 := Kp.of_grown hg (fun k c t fr hk _ => hk) fun k hk => by
    obtain ⟨cur, e, _⟩ := row_block (h.kd i hi) hk
    exact ⟨_, _, _, e⟩
  have k3 : Kp (fun j t => t = 3 ∧ B ≤ j) w w6 := k0.mono fun k c t fr hk hp => by
    obtain ⟨cur, e, hb, _⟩ := row_block (h.kd i hi) hp
    rw [hk] at e
    cases e
    exact ⟨rfl, hb⟩
  refine ⟨?_, k3⟩
  obtain ⟨cur, hgb, hB⟩ := h.block
  have hg6 := k3.cells hgb (fun e => absurd e.1 (by decide))
  have kS : Kp (fun k _ => k = g) w6 (w6.setCell ⟨g, i * 8 + 5, none⟩ kv) := Kp.of_set hg6 _ rfl
  have hrow := k3.row h.row (fun j _ _ e => absurd e.1 (by decide))
  have ha6 := fun j hj => k3.row (h.at' j hj) (fun j _ _ e => absurd e.1 (by decide))
  have hk6 : ∀ j (hj : j < D.length), j ≠ i → w6.ownsRow B 3 1 (K j) D[j].c.length (inC D[j].c) := fun j hj hji => k0.row (h.kd j hj) fun k hk _ e => h.nk j i hj hi hji k hk e
  have hf : ∀ j, j < D.length → j ≠ i → ∀ k, (K j).ownBlock = some k → kv.ownBlock ≠ some k := fun j hj hji k h1 h2 => by
    rcases hat with h3 | h3
    · exact h.nk j i hj hi hji k h1 (h3 ▸ h2)
    · rw [h3] at h2
      cases h2
      have := (row_block (h.kd j hj) h1).choose_spec.2.2
      omega
  refine ⟨?_, fun j hj => ?_, fun j hj => ?_, fun j k hj hk => h.na j k (by simpa using hj) (by simpa using hk), fun j k hj hk hjk q hq => ?_⟩
  · have := ownsRow_set hrow (i * 8 + 5) kv
    rw [ndsC_setK D A K i hi kv, ← set_kinds hi (y := { D[i] with c := C }) ⟨rfl, rfl, rfl, rfl, rfl, rfl⟩] at this
    simpa using this
  · have hj' : j < D.length := by simpa using hj
    have h1 := kS.row (ha6 j hj') fun k hk _ e => row_ne (ha6 j hj') hg6 (by decide) (by rw [hk, e])
    rw [get_set hj]
    split
    · rename_i e
      subst e
      exact h1
    · exact h1
  · have hj' : j < D.length := by simpa using hj
    rw [get_set hj]
    split
    · rename_i e
      subst e
      rw [upd_self]
      exact kS.row hk fun k hq _ e => row_ne hk hg6 (by decide) (by rw [hq, e])
    · rename_i e
      rw [upd_ne (fun e2 => e e2.symm)]
      exact kS.row (hk6 j hj' (fun e2 => e e2.symm)) fun k hk _ e3 => row_ne (hk6 j hj' (fun e2 => e e2.symm)) hg6 (by decide) (by rw [hk, e3])
  · have hj' : j < D.length := by simpa using hj
    have hk' : k < D.length := by simpa using hk
    by_cases e1 : j = i
    · subst e1
      rw [upd_self] at hq
      rw [upd_ne (fun e => hjk e.symm)]
      exact fun h2 => hf k hk' (fun e => hjk e.symm) q h2 hq
    · rw [upd_ne e1] at hq
      by_cases e2 : k = i
      · subst e2
        rw [upd_self]
        exact hf j hj' e1 q hq
      · rw [upd_ne e2]
        exact h.nk j k hj' hk' hjk q hq
theorem OwnD.growA (h : OwnD w B (.slice (some ⟨g, 0, none⟩) D.length cap) D A K) {i : Nat} (hi : i < D.length) {av : Value} {C : List (List UInt8 × List UInt8)} (hg : w.grownBy w6 (A i).ownBlock) (hk : w6.ownsRow B 61 2 av C.length (atC C)) (hat : av.ownBlock = (A i).ownBlock ∨ av.ownBlock = some w.heap.size) : OwnD (w6.setCell ⟨g, i * 8 + 3, none⟩ av) B (.slice (some ⟨g, 0, none⟩) D.length cap) (D.set i { D[i] with a := C }) (upd A i av) K ∧ Kp (fun j t => t = 61 ∧ B ≤ j) w w6 := by
  have k0 : Kp (fun j _ => (A i).ownBlock = some j) w w6 := Kp.of_grown hg (fun k c t fr hk _ => hk) fun k hk => by
    obtain ⟨cur, e, _⟩ := row_block (h.at' i hi) hk
    exact ⟨_, _, _, e⟩
  have k3 : Kp (fun j t => t = 61 ∧ B ≤ j) w w6 := k0.mono fun k c t fr hk hp => by
    obtain ⟨cur, e, hb, _⟩ := row_block (h.at' i hi) hp
    rw [hk] at e
    cases e
    exact ⟨rfl, hb⟩
  refine ⟨?_, k3⟩
  obtain ⟨cur, hgb, hB⟩ := h.block
  have hg6 := k3.cells hgb (fun e => absurd e.1 (by decide))
  have kS : Kp (fun k _ => k = g) w6 (w6.setCell ⟨g, i * 8 + 3, none⟩ av) := Kp.of_set hg6 _ rfl
  have hrow := k3.row h.row (fun j _ _ e => absurd e.1 (by decide))
  have hk6 := fun j hj => k3.row (h.kd j hj) (fun j _ _ e => absurd e.1 (by decide))
  have ha6 : ∀ j (hj : j < D.length), j ≠ i → w6.ownsRow B 61 2 (A j) D[j].a.length (atC D[j].a) := fun j hj hji => k0.row (h.at' j hj) fun k hk _ e => h.na j i hj hi hji k hk e
  have hf : ∀ j, j < D.length → j ≠ i → ∀ k, (A j).ownBlock = some k → av.ownBlock ≠ some k := fun j hj hji k h1 h2 => by
    rcases hat with h3 | h3
    · exact h.na j i hj hi hji k h1 (h3 ▸ h2)
    · rw [h3] at h2
      cases h2
      have := (row_block (h.at' j hj) h1).choose_spec.2.2
      omega
  refine ⟨?_, fun j hj => ?_, fun j hj => ?_, fun j k hj hk hjk q hq => ?_, fun j k hj hk => h.nk j k (by simpa using hj) (by simpa using hk)⟩
  · have := ownsRow_set hrow (i * 8 + 3) av
    rw [ndsC_setA D A K i hi av, ← set_kinds hi (y := { D[i] with a := C }) ⟨rfl, rfl, rfl, rfl, rfl, rfl⟩] at this
    simpa using this
  · have hj' : j < D.length := by simpa using hj
    rw [get_set hj]
    split
    · rename_i e
      subst e
      rw [upd_self]
      exact kS.row hk fun k hq _ e => row_ne hk hg6 (by decide) (by rw [hq, e])
    · rename_i e
      rw [upd_ne (fun e2 => e e2.symm)]
      exact kS.row (ha6 j hj' (fun e2 => e e2.symm)) fun k hk _ e3 => row_ne (ha6 j hj' (fun e2 => e e2.symm)) hg6 (by decide) (by rw [hk, e3])
  · have hj' : j < D.length := by simpa using hj
    have h1 := kS.row (hk6 j hj') fun k hk _ e => row_ne (hk6 j hj') hg6 (by decide) (by rw [hk, e])
    rw [get_set hj]
    split
    · rename_i e
      subst e
      exact h1
    · exact h1
  · have hj' : j < D.length := by simpa using hj
    have hk' : k < D.length := by simpa using hk
    by_cases e1 : j = i
    · subst e1
      rw [upd_self] at hq
      rw [upd_ne (fun e => hjk e.symm)]
      exact fun h2 => hf k hk' (fun e => hjk e.symm) q h2 hq
    · rw [upd_ne e1] at hq
      by_cases e2 : k = i
      · subst e2
        rw [upd_self]
        exact hf j hj' e1 q hq
      · rw [upd_ne e2]
        exact h.na j k hj' hk' hjk q hq
end

end Go.Proofs.Ytcmbkhlnigbooaa.Dm
