/- The document's own: are two nodes, two documents the same (they are); is one more than is looked at. -/
import Derived.Test.YtcmbkhlnigbooaaDoK
namespace Go.Proofs.Ytcmbkhlnigbooaa.Dm
open Go.RowKit

set_option maxRecDepth 100000 in
set_option maxHeartbeats 8000000 in
theorem one_hid (x : Nd) (hx : FitN x) : Hid (∀ W av kv av' kv', AtIn W av x.a → IntIn W kv x.c → AtIn W av' x.a → IntIn W kv' x.c → Calls Try.prog 31 #[nodeV x av kv, nodeV x av' kv'] W fun e w' => e = .returned (.bool true) ∧ Below W.heap.size W w') := Lib.hid fun w av kv av' kv' ha hk ha' hk' => by
  obtain ⟨N, hN⟩ := text_of x.n
  obtain ⟨T, hT⟩ := text_of x.d
  unfold nodeV
  rw [strV_of hN, strV_of hT]
  obtain ⟨-, -, hal, hcl, -⟩ := hx
  generalize x.k = k
  generalize x.p = p
  generalize x.b = b
  generalize x.s = s
  generalize x.a = A at ha ha' hal
  generalize x.c = C at hk hk' hcl
  clear hN hT
  have al1 := (Below.refl w.heap.size w).alloc (Nat.le_refl _) (.cells #[.int .i64 k, .string N, .string T, av, .int .i64 p, kv, .bool b, .bool s] 42)
  have hb1 := new_block w (.cells #[.int .i64 k, .string N, .string T, av, .int .i64 p, kv, .bool b, .bool s] 42)
  have hs1 : (w.alloc (.cells #[.int .i64 k, .string N, .string T, av, .int .i64 p, kv, .bool b, .bool s] 42)).heap.size = w.heap.size + 1 := by simp
  generalize hw1 : w.alloc (.cells #[.int .i64 k, .string N, .string T, av, .int .i64 p, kv, .bool b, .bool s] 42) = w1 at al1 hb1 hs1
  have al2 := (Below.refl w1.heap.size w1).alloc (Nat.le_refl _) (.cells #[.int .i64 k, .string N, .string T, av', .int .i64 p, kv', .bool b, .bool s] 42)
  have hb2 := new_block w1 (.cells #[.int .i64 k, .string N, .string T, av', .int .i64 p, kv', .bool b, .bool s] 42)
  rw [hs1] at hb2
  generalize hw2 : w1.alloc (.cells #[.int .i64 k, .string N, .string T, av', .int .i64 p, kv', .bool b, .bool s] 42) = w2 at al2 hb2
  have hb1' := (al2.block _ (lt_of_block hb1)).trans hb1
  have hbel := al1.trans (al2.mono (by omega))
  have e0 := cell_of hb1' 0
  have e1 := cell_of hb1' 1
  have e2 := cell_of hb1' 2
  have e3 := cell_of hb1' 3
  have e4 := cell_of hb1' 4
  have e5 := cell_of hb1' 5
  have e6 := cell_of hb1' 6
  have e7 := cell_of hb1' 7
  have f0 := cell_of hb2 0
  have f1 := cell_of hb2 1
  have f2 := cell_of hb2 2
  have f3 := cell_of hb2 3
  have f4 := cell_of hb2 4
  have f5 := cell_of hb2 5
  have f6 := cell_of hb2 6
  have f7 := cell_of hb2 7
  have CA := attrsG_hid A (by omega)
  have CI : Hid (∀ W u v, IntIn W u C → IntIn W v C → Calls Try.prog 18 #[u, v] W fun e w' => e = .returned (.bool true) ∧ Below W.heap.size W w') := Lib.hid fun W u v h1 h2 => (U1.ints_any C C u v W h1.u1 h2.u1 (by omega) (by omega)).mono fun e w' ⟨he, n, hw⟩ => ⟨by rw [he]; unfold U1.eqL; rw [decide_eq_true rfl], by rw [hw]; exact belowN (Below.refl _ _) n⟩
  have HB := Lib.hid (And.intro hbel (And.intro (ha.below hbel) (And.intro (hk.below hbel) (And.intro (ha'.below hbel) (And.intro (hk'.below hbel) (And.intro hb1' hb2))))))
  have g1 : (k == k) = true := by simp
  have g2 : (N.toList == N.toList) = true := by simp
  have g3 : (T.toList == T.toList) = true := by simp
  have g4 : (b == b) = true := by simp
  have g5 : (s == s) = true := by simp
  have g6 : (p == p) = true := by simp
  clear ha hk ha' hk' al1 hb1 al2 hb2 hb1' hbel
  go_enter Try.func31, Try.ntmps31
  go_wp2_with fail
  (refine (CA.out _ _ _ HB.out.2.1 HB.out.2.2.2.1).mono ?_)
  rintro e w3 ⟨rfl, b3⟩
  have c5 := cell_of ((b3.block _ (lt_of_block HB.out.2.2.2.2.2.1)).trans HB.out.2.2.2.2.2.1) 5
  have d5 := cell_of ((b3.block _ (lt_of_block HB.out.2.2.2.2.2.2)).trans HB.out.2.2.2.2.2.2) 5
  have H3 := Lib.hid (And.intro (HB.out.1.trans (b3.mono HB.out.1.size)) (And.intro (HB.out.2.2.1.below b3) (HB.out.2.2.2.2.1.below b3)))
  clear b3 HB CA e0 e1 e2 e3 e4 e5 e6 e7 f0 f1 f2 f3 f4 f5 f6 f7 hw1 hw2 hs1
  go_wp2_with fail
  (refine (CI.out _ _ _ H3.out.2.1 H3.out.2.2).mono ?_)
  rintro e w4 ⟨rfl, b4⟩
  have H4 := Lib.hid (H3.out.1.trans (b4.mono H3.out.1.size))
  clear b4 H3 CI
  go_wp2
  go_ret
  exact ⟨rfl, H4.out⟩

set_option maxRecDepth 100000 in
set_option maxHeartbeats 8000000 in
theorem same_hid (D : List Nd) (hf : FitD D) : Hid (∀ W sl A K sl' A' K', DocIn W sl D A K → DocIn W sl' D A' K' → Calls Try.prog 25 #[.agg #[sl], .agg #[sl']] W fun e w' => e = .returned (.bool true) ∧ Below W.heap.size W w') := Lib.hid fun w sl A K sl' A' K' hd hd' => by
  obtain ⟨a, c, rfl⟩ := hd.form
  obtain ⟨a', c', rfl⟩ := hd'.form
  have hfl := hf.1
  have HF := Lib.hid hf
  have al1 := (Below.refl w.heap.size w).alloc (Nat.le_refl _) (.cells #[.slice a D.length c] 24)
  have hb1 := new_block w (.cells #[.slice a D.length c] 24)
  have hs1 : (w.alloc (.cells #[.slice a D.length c] 24)).heap.size = w.heap.size + 1 := by simp
  generalize hw1 : w.alloc (.cells #[.slice a D.length c] 24) = w1 at al1 hb1 hs1
  have al2 := (Below.refl w1.heap.size w1).alloc (Nat.le_refl _) (.cells #[.slice a' D.length c'] 24)
  have hb2 := new_block w1 (.cells #[.slice a' D.length c'] 24)
  rw [hs1] at hb2
  generalize hw2 : w1.alloc (.cells #[.slice a' D.length c'] 24) = w2 at al2 hb2
  have hb1' := (al2.block _ (lt_of_block hb1)).trans hb1
  have hbel := al1.trans (al2.mono (by omega))
  have e0 := cell_of hb1' 0
  have f0 := cell_of hb2 0
  have g0 : ((D.length : Int) != (D.length : Int)) = false := by simp
  have H2 := Lib.hid (And.intro hb1' (And.intro hb2 hbel))
  have HD := Lib.hid (And.intro hd hd')
  clear hd hd' hf al1 hb1 al2 hb2 hb1' hbel
  go_enter Try.func25, Try.ntmps25
  go_wp2
  clear hw1 hw2 hs1
  generalize hR : w.heap.size = R at e0 f0 H2 ⊢
  rw [← hR] at H2
  have HR := Lib.hid hR
  clear hR
  go_loopw [5] (fun i wr => ∃ u : Nat, i = .int .i64 u ∧ u ≤ D.length ∧ Hid (wr.heap[R]? = some (.cells #[.slice a D.length c] 24 (0, 0)) ∧ wr.heap[R + 1]? = some (.cells #[.slice a' D.length c'] 24 (0, 0)) ∧ Below w.heap.size w wr)) (fun i _ => D.length - (intOf i).toNat)
  case atStart => exact ⟨0, rfl, Nat.zero_le _, Lib.hid ⟨by rw [← HR.out]; exact H2.out.1, by rw [← HR.out]; exact H2.out.2.1, H2.out.2.2⟩⟩
  case round =>
    clear H2 e0 f0
    obtain ⟨u, rfl, hu, HX⟩ := hrel
    have e0 := cell_of HX.out.1 0
    have f0 := cell_of HX.out.2.1 0
    by_cases hlt : u < D.length
    · have zu : (u : Int) < (D.length : Int) := by omega
      obtain ⟨B, off, rfl, c0, c1, c2, c3, c4, c5, c6, c7⟩ := (HD.out.1.below HX.out.2.2).node hlt
      obtain ⟨B', off', rfl, d0, d1, d2, d3, d4, d5, d6, d7⟩ := (HD.out.2.below HX.out.2.2).node hlt
      have CO := one_hid D[u] (HF.out.2 _ (List.getElem_mem hlt))
      obtain ⟨N, hN⟩ := text_of D[u].n
      obtain ⟨T, hT⟩ := text_of D[u].d
      unfold nodeV at CO
      rw [strV_of hN, strV_of hT] at CO
      rw [strV_of hN] at c1 d1
      rw [strV_of hT] at c2 d2
      have HA : Hid (∀ W, Below wr.heap.size wr W → _) := Lib.hid fun W b => CO.out W _ _ _ _ ((HD.out.1.below (HX.out.2.2.trans (b.mono HX.out.2.2.size))).at' u hlt) ((HD.out.1.below (HX.out.2.2.trans (b.mono HX.out.2.2.size))).kd u hlt) ((HD.out.2.below (HX.out.2.2.trans (b.mono HX.out.2.2.size))).at' u hlt) ((HD.out.2.below (HX.out.2.2.trans (b.mono HX.out.2.2.size))).kd u hlt)
      have HC : Hid (∀ W, Below wr.heap.size wr W → Calls Try.prog 31 #[.agg #[.int .i64 D[u].k, .string N, .string T, A u, .int .i64 D[u].p, K u, .bool D[u].b, .bool D[u].s], .agg #[.int .i64 D[u].k, .string N, .string T, A' u, .int .i64 D[u].p, K' u, .bool D[u].b, .bool D[u].s]] W fun e w' => e = .returned (.bool true) ∧ Below wr.heap.size wr w') := Lib.hid fun W b => (HA.out W b).mono fun e w' ⟨h1, h2⟩ => ⟨h1, b.trans (h2.mono b.size)⟩
      clear HA CO hN hT
      go_wp2
      go_region_with (go_at_call 31; refine (HC.out _ (by first | exact Below.refl _ _ | exact belowN (Below.refl _ _) _ | exact (Below.refl _ _).drew)).mono ?_; rintro e w3 ⟨rfl, b3⟩)
      all_goals
        have H3 := Lib.hid (And.intro ((b3.block _ (lt_of_block HX.out.1)).trans HX.out.1) (And.intro ((b3.block _ (lt_of_block HX.out.2.1)).trans HX.out.2.1) (HX.out.2.2.trans (b3.mono HX.out.2.2.size))))
        clear b3 HX HC e0 f0 c0 c1 c2 c3 c4 c5 c6 c7 d0 d1 d2 d3 d4 d5 d6 d7
        go_wp2
        go_roundw
        case rel => exact ⟨u + 1, by go_num, by omega, H3⟩
        case measure => simp [intOf]; omega
    · obtain rfl : u = D.length := by omega
      go_wp2
      go_ret
      exact ⟨rfl, HX.out.2.2⟩

end Go.Proofs.Ytcmbkhlnigbooaa.Dm
