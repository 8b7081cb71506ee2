/- The document's own: is a node, is a document more than is looked at. -/
import Derived.Test.YtcmbkhlnigbooaaDoK
namespace Go.Proofs.Ytcmbkhlnigbooaa.Dm
open Go.RowKit

/-- No more than is looked at. -/
def FitS (x : Nd) : Prop := x.n.length ≤ 300 ∧ x.d.length ≤ 3000 ∧ x.a.length ≤ 40 ∧ x.c.length ≤ 400 ∧ ∀ y ∈ x.a, y.1.length ≤ 300 ∧ y.2.length ≤ 2000
def FitT (D : List Nd) : Prop := D.length ≤ 310 ∧ ∀ x ∈ D, FitS x
theorem FitS.fit {x : Nd} (h : FitS x) : FitN x := ⟨by have := h.1; omega, by have := h.2.1; omega, by have := h.2.2.1; omega, by have := h.2.2.2.1; omega, fun y hy => by have := h.2.2.2.2 y hy; omega⟩
theorem FitT.fit {D : List Nd} (h : FitT D) : FitD D := ⟨by have := h.1; omega, fun x hx => (h.2 x hx).fit⟩
def BigR (P : Prop) (W : World) (e : Ending) (w' : World) : Prop := ∃ b, e = .returned (.bool b) ∧ (b = false → P) ∧ Below W.heap.size W w'
set_option maxRecDepth 100000 in
set_option maxHeartbeats 16000000 in
theorem bigNode_hid (x : Nd) (ha : x.a.length ≤ 9223372036854775807) (hc : x.c.length ≤ 9223372036854775807) : Hid (∀ W av kv, AtIn W av x.a → IntIn W kv x.c → Calls Try.prog 26 #[nodeV x av kv] W (BigR (FitS x) W)) := Lib.hid fun w av kv hat hkd => by
  obtain ⟨aa, ac, rfl⟩ := hat.form
  obtain ⟨ka, kc, rfl⟩ := hkd.form
  obtain ⟨N, hN⟩ := text_of x.n
  obtain ⟨T, hT⟩ := text_of x.d
  have HF : Hid (N.size ≤ 300 → T.size ≤ 3000 → x.a.length ≤ 40 → x.c.length ≤ 400 → (∀ j (h : j < x.a.length), x.a[j].1.length ≤ 300 ∧ x.a[j].2.length ≤ 2000) → FitS x) := Lib.hid fun h1 h2 h3 h4 h5 => ⟨by rw [← hN, lsize]; exact h1, by rw [← hT, lsize]; exact h2, h3, h4, fun y hy => by obtain ⟨j, hj, rfl⟩ := List.getElem_of_mem hy; exact h5 j hj⟩
  unfold nodeV
  rw [strV_of hN, strV_of hT]
  generalize x.k = k
  generalize x.p = p
  generalize x.b = b
  generalize x.s = s
  generalize hA : x.a = A at hat ha HF ⊢
  generalize hC : x.c = C at hc HF ⊢
  have al1 := (Below.refl w.heap.size w).alloc (Nat.le_refl _) (.cells #[.int .i64 k, .string N, .string T, .slice aa A.length ac, .int .i64 p, .slice ka C.length kc, .bool b, .bool s] 42)
  have hb1 := new_block w (.cells #[.int .i64 k, .string N, .string T, .slice aa A.length ac, .int .i64 p, .slice ka C.length kc, .bool b, .bool s] 42)
  generalize hw1 : w.alloc (.cells #[.int .i64 k, .string N, .string T, .slice aa A.length ac, .int .i64 p, .slice ka C.length kc, .bool b, .bool s] 42) = w1 at al1 hb1
  have e1 := cell_of hb1 1
  have e2 := cell_of hb1 2
  have e3 := cell_of hb1 3
  have e5 := cell_of hb1 5
  have H1 := Lib.hid (And.intro al1 (hat.below al1))
  have HX := Lib.hid (And.intro hA hC)
  clear hat hkd hN hT al1 hb1 hA hC
  by_cases z1 : (300 : Int) < (N.size : Int)
  · go_enter Try.func26, Try.ntmps26
    go_wp2
    go_ret
    exact ⟨true, rfl, (fun h => by cases h), H1.out.1⟩
  by_cases z2 : (3000 : Int) < (T.size : Int)
  · go_enter Try.func26, Try.ntmps26
    go_wp2
    go_ret
    exact ⟨true, rfl, (fun h => by cases h), H1.out.1⟩
  by_cases z3 : (40 : Int) < (A.length : Int)
  · go_enter Try.func26, Try.ntmps26
    go_wp2
    go_ret
    exact ⟨true, rfl, (fun h => by cases h), H1.out.1⟩
  by_cases z4 : (400 : Int) < (C.length : Int)
  · go_enter Try.func26, Try.ntmps26
    go_wp2
    go_ret
    exact ⟨true, rfl, (fun h => by cases h), H1.out.1⟩
  have HM := Lib.hid (HF.out (by omega) (by omega) (by omega) (by omega))
  clear HF
  go_enter Try.func26, Try.ntmps26
  go_wp2
  clear hw1
  generalize w.heap.size = R at e1 e2 e3 e5 ⊢
  go_loopw [3] (fun i wr => ∃ u : Nat, i = .int .i64 u ∧ u ≤ A.length ∧ Hid (∀ j (h : j < A.length), j < u → A[j].1.length ≤ 300 ∧ A[j].2.length ≤ 2000) ∧ wr = w1) (fun i _ => A.length - (intOf i).toNat)
  case atStart => exact ⟨0, rfl, Nat.zero_le _, Lib.hid (fun j _ h => absurd h (Nat.not_lt_zero _)), rfl⟩
  case round =>
    obtain ⟨u, rfl, hu, HV, rfl⟩ := hrel
    by_cases hlt : u < A.length
    · obtain ⟨B, off, rfl, c0, c1⟩ := H1.out.2.at hlt
      obtain ⟨X, hX⟩ := text_of A[u].1
      obtain ⟨V, hV⟩ := text_of A[u].2
      rw [strV_of hX] at c0
      rw [strV_of hV] at c1
      have zu : (u : Int) < (A.length : Int) := by omega
      have HV2 : Hid (X.size ≤ 300 → V.size ≤ 2000 → ∀ j (h : j < A.length), j < u + 1 → A[j].1.length ≤ 300 ∧ A[j].2.length ≤ 2000) := Lib.hid fun h1 h2 j hj hju => by
        by_cases e : j = u
        · subst e
          exact ⟨by rw [← hX, lsize]; exact h1, by rw [← hV, lsize]; exact h2⟩
        · exact HV.out j hj (by omega)
      clear hX hV HV
      by_cases z5 : (300 : Int) < (X.size : Int)
      · go_wp2
        go_ret
        exact ⟨true, rfl, (fun h => by cases h), H1.out.1⟩
      by_cases z6 : (2000 : Int) < (V.size : Int)
      · go_wp2
        go_ret
        exact ⟨true, rfl, (fun h => by cases h), H1.out.1⟩
      have HV3 := Lib.hid (HV2.out (by omega) (by omega))
      clear HV2
      go_wp2
      go_roundw
      case rel => exact ⟨u + 1, by go_num, by omega, HV3, trivial⟩
      case measure => simp [intOf]; omega
    · obtain rfl : u = A.length := by omega
      have HE : Hid (FitS x) := Lib.hid (HM.out fun j hj => HV.out j hj hj)
      clear HV HM
      go_wp2
      go_ret
      exact ⟨false, rfl, (fun _ => HE.out), H1.out.1⟩
set_option maxRecDepth 100000 in
set_option maxHeartbeats 8000000 in
theorem big_hid (D : List Nd) (hl : D.length ≤ 9223372036854775807) (hk : ∀ x ∈ D, x.a.length ≤ 9223372036854775807 ∧ x.c.length ≤ 9223372036854775807) : Hid (∀ W sl A K, DocIn W sl D A K → Calls Try.prog 11 #[.agg #[sl]] W (BigR (FitT D) W)) := Lib.hid fun w sl A K hd => by
  obtain ⟨a, c, rfl⟩ := hd.form
  obtain ⟨d1, b1, l1⟩ := docBox w hd
  have HK := Lib.hid hk
  generalize hw1 : w.alloc (.cells #[.slice a D.length c] 24) = w1 at d1 b1 l1
  obtain ⟨R, hR⟩ : ∃ R, w.heap.size = R := ⟨_, rfl⟩
  have e0 := cell_of b1 0
  have b1' := b1
  rw [hR] at b1' e0
  have H1 := Lib.hid (And.intro d1 (And.intro b1' l1))
  clear hd d1 b1 b1' l1 hk
  by_cases z1 : (310 : Int) < (D.length : Int)
  · go_enter Try.func11, Try.ntmps11
    go_wp2
    go_ret
    exact ⟨true, rfl, (fun h => by cases h), by first | exact H1.out.2.2 | (rw [← hR]; exact H1.out.2.2)⟩
  go_enter Try.func11, Try.ntmps11
  go_wp2
  clear hw1
  go_loopw [3] (fun i wr => ∃ u : Nat, i = .int .i64 u ∧ u ≤ D.length ∧ Hid (∀ j (h : j < D.length), j < u → FitS D[j]) ∧ Hid (DocIn wr (.slice a D.length c) D A K ∧ wr.heap[R]? = some (.cells #[.slice a D.length c] 24 (0, 0)) ∧ Below w.heap.size w wr)) (fun i _ => D.length - (intOf i).toNat)
  case atStart => exact ⟨0, rfl, Nat.zero_le _, Lib.hid (fun j _ h => absurd h (Nat.not_lt_zero _)), H1⟩
  case round =>
    clear H1 e0
    obtain ⟨u, rfl, hu, HV, HX⟩ := hrel
    have e0 := cell_of HX.out.2.1 0
    by_cases hlt : u < D.length
    · have zu : (u : Int) < (D.length : Int) := by omega
      obtain ⟨B, off, rfl, c0, c1, c2, c3, c4, c5, c6, c7⟩ := HX.out.1.node hlt
      have CO := bigNode_hid D[u] (HK.out _ (List.getElem_mem hlt)).1 (HK.out _ (List.getElem_mem hlt)).2
      obtain ⟨N, hN⟩ := text_of D[u].n
      obtain ⟨T, hT⟩ := text_of D[u].d
      unfold nodeV at CO
      rw [strV_of hN, strV_of hT] at CO
      rw [strV_of hN] at c1
      rw [strV_of hT] at c2
      clear hN hT
      go_wp2_with fail
      (refine (CO.out _ _ _ (HX.out.1.at' u hlt) (HX.out.1.kd u hlt)).mono ?_)
      rintro e w3 ⟨bb, rfl, hb, b3⟩
      obtain ⟨d3, bx3⟩ := HX.out.1.boxed HX.out.2.1 b3
      have e0 := cell_of bx3 0
      have H3 := Lib.hid (And.intro d3 (And.intro bx3 (HX.out.2.2.trans (b3.mono HX.out.2.2.size))))
      have HB := Lib.hid hb
      clear b3 d3 bx3 HX CO c0 c1 c2 c3 c4 c5 c6 c7 hb
      cases bb with
      | true =>
        go_wp2
        go_ret
        exact ⟨true, rfl, (fun h => by cases h), by first | exact H3.out.2.2 | (rw [← hR]; exact H3.out.2.2)⟩
      | false =>
        have HV2 : Hid (∀ j (h : j < D.length), j < u + 1 → FitS D[j]) := Lib.hid fun j hj hju => by
          by_cases e : j = u
          · subst e; exact HB.out rfl
          · exact HV.out j hj (by omega)
        clear HV HB
        go_wp2
        go_roundw
        case rel => exact ⟨u + 1, by go_num, by omega, HV2, H3⟩
        case measure => simp [intOf]; omega
    · obtain rfl : u = D.length := by omega
      have HE : Hid (FitT D) := Lib.hid ⟨by omega, fun x hx => by obtain ⟨j, hj, rfl⟩ := List.getElem_of_mem hx; exact HV.out j hj hj⟩
      clear HV
      go_wp2
      go_ret
      exact ⟨false, rfl, (fun _ => HE.out), by first | exact HX.out.2.2 | (rw [← hR]; exact HX.out.2.2)⟩

end Go.Proofs.Ytcmbkhlnigbooaa.Dm
