/- The document's own: a node in memory of its own. The document's own: a document in memory of its own. -/
import Derived.Test.YtcmbkhlnigbooaaDoK
namespace Go.Proofs.Ytcmbkhlnigbooaa.Dm
open Go.RowKit

theorem TinfoA : (Try.prog.info? 61).map (fun i => (i.zero, i.size, i.bytes)) = some (some (.agg #[.string ⟨#[]⟩, .string ⟨#[]⟩]), 2, 32) := by kernel_rfl
/-- Eight cells of a block are set. -/
theorem set8 (w : World) (R : Nat) (t : TypeId) (z0 z1 z2 z3 z4 z5 z6 z7 v0 v1 v2 v3 v4 v5 v6 v7 : Value) (h : w.heap[R]? = some (.cells #[z0, z1, z2, z3, z4, z5, z6, z7] t (0, 0))) : ((((((((w.setCell ⟨R, 0, none⟩ v0).setCell ⟨R, 1, none⟩ v1).setCell ⟨R, 2, none⟩ v2).setCell ⟨R, 3, none⟩ v3).setCell ⟨R, 4, none⟩ v4).setCell ⟨R, 5, none⟩ v5).setCell ⟨R, 6, none⟩ v6).setCell ⟨R, 7, none⟩ v7).heap[R]? = some (.cells #[v0, v1, v2, v3, v4, v5, v6, v7] t (0, 0)) ∧ Kp (fun j _ => j = R) w ((((((((w.setCell ⟨R, 0, none⟩ v0).setCell ⟨R, 1, none⟩ v1).setCell ⟨R, 2, none⟩ v2).setCell ⟨R, 3, none⟩ v3).setCell ⟨R, 4, none⟩ v4).setCell ⟨R, 5, none⟩ v5).setCell ⟨R, 6, none⟩ v6).setCell ⟨R, 7, none⟩ v7) := by
  obtain ⟨w0, e0⟩ : ∃ W, W = w.setCell ⟨R, 0, none⟩ v0 := ⟨_, rfl⟩
  have h0 : w0.heap[R]? = some (.cells #[v0, z1, z2, z3, z4, z5, z6, z7] t (0, 0)) := by rw [e0]; exact heap_setCell_same w R 0 _ _ _ v0 h
  have k0 : Kp (fun j _ => j = R) w w0 := by rw [e0]; exact Kp.of_set h v0 rfl
  rw [← e0]
  obtain ⟨w1, e1⟩ : ∃ W, W = w0.setCell ⟨R, 1, none⟩ v1 := ⟨_, rfl⟩
  have h1 : w1.heap[R]? = some (.cells #[v0, v1, z2, z3, z4, z5, z6, z7] t (0, 0)) := by rw [e1]; exact heap_setCell_same w0 R 1 _ _ _ v1 h0
  have k1 : Kp (fun j _ => j = R) w w1 := by rw [e1]; exact k0.trans (Kp.of_set h0 v1 rfl)
  rw [← e1]
  obtain ⟨w2, e2⟩ : ∃ W, W = w1.setCell ⟨R, 2, none⟩ v2 := ⟨_, rfl⟩
  have h2 : w2.heap[R]? = some (.cells #[v0, v1, v2, z3, z4, z5, z6, z7] t (0, 0)) := by rw [e2]; exact heap_setCell_same w1 R 2 _ _ _ v2 h1
  have k2 : Kp (fun j _ => j = R) w w2 := by rw [e2]; exact k1.trans (Kp.of_set h1 v2 rfl)
  rw [← e2]
  obtain ⟨w3, e3⟩ : ∃ W, W = w2.setCell ⟨R, 3, none⟩ v3 := ⟨_, rfl⟩
  have h3 : w3.heap[R]? = some (.cells #[v0, v1, v2, v3, z4, z5, z6, z7] t (0, 0)) := by rw [e3]; exact heap_setCell_same w2 R 3 _ _ _ v3 h2
  have k3 : Kp (fun j _ => j = R) w w3 := by rw [e3]; exact k2.trans (Kp.of_set h2 v3 rfl)
  rw [← e3]
  obtain ⟨w4, e4⟩ : ∃ W, W = w3.setCell ⟨R, 4, none⟩ v4 := ⟨_, rfl⟩
  have h4 : w4.heap[R]? = some (.cells #[v0, v1, v2, v3, v4, z5, z6, z7] t (0, 0)) := by rw [e4]; exact heap_setCell_same w3 R 4 _ _ _ v4 h3
  have k4 : Kp (fun j _ => j = R) w w4 := by rw [e4]; exact k3.trans (Kp.of_set h3 v4 rfl)
  rw [← e4]
  obtain ⟨w5, e5⟩ : ∃ W, W = w4.setCell ⟨R, 5, none⟩ v5 := ⟨_, rfl⟩
  have h5 : w5.heap[R]? = some (.cells #[v0, v1, v2, v3, v4, v5, z6, z7] t (0, 0)) := by rw [e5]; exact heap_setCell_same w4 R 5 _ _ _ v5 h4
  have k5 : Kp (fun j _ => j = R) w w5 := by rw [e5]; exact k4.trans (Kp.of_set h4 v5 rfl)
  rw [← e5]
  obtain ⟨w6, e6⟩ : ∃ W, W = w5.setCell ⟨R, 6, none⟩ v6 := ⟨_, rfl⟩
  have h6 : w6.heap[R]? = some (.cells #[v0, v1, v2, v3, v4, v5, v6, z7] t (0, 0)) := by rw [e6]; exact heap_setCell_same w5 R 6 _ _ _ v6 h5
  have k6 : Kp (fun j _ => j = R) w w6 := by rw [e6]; exact k5.trans (Kp.of_set h5 v6 rfl)
  rw [← e6]
  obtain ⟨w7, e7⟩ : ∃ W, W = w6.setCell ⟨R, 7, none⟩ v7 := ⟨_, rfl⟩
  have h7 : w7.heap[R]? = some (.cells #[v0, v1, v2, v3, v4, v5, v6, v7] t (0, 0)) := by rw [e7]; exact heap_setCell_same w6 R 7 _ _ _ v7 h6
  have k7 : Kp (fun j _ => j = R) w w7 := by rw [e7]; exact k6.trans (Kp.of_set h6 v7 rfl)
  rw [← e7]
  exact ⟨h7, k7⟩
def zeroN : Array Value := #[.int .i64 0, .string ⟨#[]⟩, .string ⟨#[]⟩, .slice none 0 0, .int .i64 0, .slice none 0 0, .bool false, .bool false]
set_option maxRecDepth 100000 in
set_option maxHeartbeats 16000000 in
theorem ownNode_hid (x : Nd) (hx : FitN x) : Hid (∀ W av kv, AtIn W av x.a → IntIn W kv x.c → Calls Try.prog 27 #[nodeV x av kv] W fun e w' => ∃ av' kv', e = .returned (nodeV x av' kv') ∧ w'.ownsRow W.heap.size 61 2 av' x.a.length (atC x.a) ∧ w'.ownsRow W.heap.size 3 1 kv' x.c.length (inC x.c) ∧ Below W.heap.size W w') := Lib.hid fun w av kv ha hk => by
  obtain ⟨N, hN⟩ := text_of x.n
  obtain ⟨T, hT⟩ := text_of x.d
  unfold nodeV
  rw [strV_of hN, strV_of hT]
  obtain ⟨-, -, hal, hcl, -⟩ := hx
  generalize x.k = k
  generalize x.p = p
  generalize x.b = b
  generalize x.s = s
  generalize x.a = A at ha hal ⊢
  generalize x.c = C at hk hcl ⊢
  clear hN hT
  obtain ⟨aa, ac, rfl⟩ := ha.form
  obtain ⟨ka, kc, rfl⟩ := hk.form
  obtain ⟨i1, hi1, hy0, hy1, hy2⟩ := info_parts TinfoA
  obtain ⟨i3, hi3, hz0, hz1, hz2⟩ := info_parts Tinfo3
  have al1 := (Below.refl w.heap.size w).alloc (Nat.le_refl _) (.cells #[.int .i64 k, .string N, .string T, .slice aa A.length ac, .int .i64 p, .slice ka C.length kc, .bool b, .bool s] 42)
  have hb1 := new_block w (.cells #[.int .i64 k, .string N, .string T, .slice aa A.length ac, .int .i64 p, .slice ka C.length kc, .bool b, .bool s] 42)
  have hs1 : (w.alloc (.cells #[.int .i64 k, .string N, .string T, .slice aa A.length ac, .int .i64 p, .slice ka C.length kc, .bool b, .bool s] 42)).heap.size = w.heap.size + 1 := by simp
  generalize hw1 : w.alloc (.cells #[.int .i64 k, .string N, .string T, .slice aa A.length ac, .int .i64 p, .slice ka C.length kc, .bool b, .bool s] 42) = w1 at al1 hb1 hs1
  have al2 := (Below.refl w1.heap.size w1).alloc (Nat.le_refl _) (.cells zeroN 42)
  have hb2 := new_block w1 (.cells zeroN 42)
  rw [hs1] at hb2
  unfold zeroN at al2 hb2
  have hb1' := (al2.block _ (lt_of_block hb1)).trans hb1
  have hbel := al1.trans (al2.mono (by omega))
  generalize hw2 : w1.alloc (.cells #[.int .i64 0, .string ⟨#[]⟩, .string ⟨#[]⟩, .slice none 0 0, .int .i64 0, .slice none 0 0, .bool false, .bool false] 42) = w2 at al2 hb2 hb1' hbel
  have e3 := cell_of hb1' 3
  have e5 := cell_of hb1' 5
  have H2 := Lib.hid (And.intro hb1' (And.intro hb2 (And.intro hbel (And.intro (ha.below hbel) (hk.below hbel)))))
  have hw1s := hs1
  clear ha hk al1 al2 hb1 hb2 hb1' hbel
  go_enter Try.func27, Try.ntmps27
  go_wp2_with (at_builtin; first
    | (refine wpList_append_rowG rfl _ _ 40 61 i1 (.agg #[.string ⟨#[]⟩, .string ⟨#[]⟩]) 2 32 Try.underlying40 hi1 hy0 hy1 hy2 rfl (by decide) rfl w.heap.size (.slice none 0 0) 0 [] rfl (World.ownsRow_nil _ _ _ _) _ A.length (atC A) rfl H2.out.2.2.2.1 (by unfold maxLen; omega) (by omega) H2.out.2.2.1.size ?_
       intro v3 w3 hown3 hgrow3 hat3
       rw [Nat.zero_add, List.nil_append] at hown3
       obtain ⟨va, vk, rfl⟩ := row_form hown3
       have k3 : Kp (fun _ _ => False) w2 w3 := Kp.of_grown hgrow3 (fun q c t fr hq _ => by cases hq) fun q hq => by cases hq
       have b3 : Below w2.heap.size w2 w3 := k3.below (fun _ _ e => e.elim) (Nat.le_refl _)
       have H3 := Lib.hid (And.intro (k3.cells H2.out.1 id) (And.intro (k3.cells H2.out.2.1 id) (And.intro (H2.out.2.2.1.trans (b3.mono H2.out.2.2.1.size)) (And.intro hown3 (H2.out.2.2.2.2.below b3)))))
       have e5 := cell_of H3.out.1 5
       clear hown3 hgrow3 hat3 k3 b3 e3)
    | (refine wpList_append_rowG rfl _ _ 33 3 i3 (.int .i64 0) 1 8 Try.underlying33 hi3 hz0 hz1 hz2 rfl (by decide) rfl w.heap.size (.slice none 0 0) 0 [] rfl (World.ownsRow_nil _ _ _ _) _ C.length (inC C) rfl H3.out.2.2.2.2 (by unfold maxLen; omega) (by omega) H3.out.2.2.1.size ?_
       intro v4 w4 hown4 hgrow4 hat4
       rw [Nat.zero_add, List.nil_append] at hown4
       obtain ⟨ua, uk, rfl⟩ := row_form hown4
       have k4 : Kp (fun _ _ => False) w3 w4 := Kp.of_grown hgrow4 (fun q c t fr hq _ => by cases hq) fun q hq => by cases hq
       have b4 : Below w3.heap.size w3 w4 := k4.below (fun _ _ e => e.elim) (Nat.le_refl _)
       have g0 := k4.cells H3.out.1 id
       have g1 := k4.cells H3.out.2.1 id
       have B4 := H3.out.2.2.1.trans (b4.mono H3.out.2.2.1.size)
       have A4 := k4.row H3.out.2.2.2.1 fun _ _ _ => id
       have f3 := open_of g0 3
       have p1 : (w4.setCell ⟨w.heap.size, 3, none⟩ (.slice va A.length vk)).heap[w.heap.size]? = some (.cells #[.int .i64 k, .string N, .string T, .slice va A.length vk, .int .i64 p, .slice ka C.length kc, .bool b, .bool s] 42 (0, 0)) := heap_setCell_same w4 w.heap.size 3 _ _ _ (.slice va A.length vk) g0
       have f5 := open_of p1 5
       have p2 : ((w4.setCell ⟨w.heap.size, 3, none⟩ (.slice va A.length vk)).setCell ⟨w.heap.size, 5, none⟩ (.slice ua C.length uk)).heap[w.heap.size]? = some (.cells #[.int .i64 k, .string N, .string T, .slice va A.length vk, .int .i64 p, .slice ua C.length uk, .bool b, .bool s] 42 (0, 0)) := heap_setCell_same _ w.heap.size 5 _ _ _ (.slice ua C.length uk) p1
       have q2 : ((w4.setCell ⟨w.heap.size, 3, none⟩ (.slice va A.length vk)).setCell ⟨w.heap.size, 5, none⟩ (.slice ua C.length uk)).heap[w.heap.size + 1]? = some (.cells #[.int .i64 0, .string ⟨#[]⟩, .string ⟨#[]⟩, .slice none 0 0, .int .i64 0, .slice none 0 0, .bool false, .bool false] 42 (0, 0)) := by
         rw [heap_setCell_ne _ _ _ (by simp), heap_setCell_ne _ _ _ (by simp)]
         exact g1
       have K2 : Kp (fun j t => t = 42 ∧ w.heap.size ≤ j) w4 ((w4.setCell ⟨w.heap.size, 3, none⟩ (.slice va A.length vk)).setCell ⟨w.heap.size, 5, none⟩ (.slice ua C.length uk)) := (Kp.of_set g0 (.slice va A.length vk) ⟨rfl, Nat.le_refl _⟩).trans (Kp.of_set p1 (.slice ua C.length uk) ⟨rfl, Nat.le_refl _⟩)
       have d3 := cell_of g0 3
       have d5 := cell_of p1 5
       have l0 := cell_of p2 0
       have l1 := cell_of p2 1
       have l2 := cell_of p2 2
       have l3 := cell_of p2 3
       have l4 := cell_of p2 4
       have l5 := cell_of p2 5
       have l6 := cell_of p2 6
       have l7 := cell_of p2 7
       have r0 := cell_of q2 0
       have o0 := open_of q2 0
       have r1 := cell_of q2 1
       have o1 := open_of q2 1
       have r2 := cell_of q2 2
       have o2 := open_of q2 2
       have r3 := cell_of q2 3
       have o3 := open_of q2 3
       have r4 := cell_of q2 4
       have o4 := open_of q2 4
       have r5 := cell_of q2 5
       have o5 := open_of q2 5
       have r6 := cell_of q2 6
       have o6 := open_of q2 6
       have r7 := cell_of q2 7
       have o7 := open_of q2 7
       have H4 := Lib.hid (And.intro p2 (And.intro q2 (And.intro K2 (And.intro B4 (And.intro A4 hown4)))))
       clear hown4 hgrow4 hat4 k4 b4 g0 g1 B4 A4 p1 p2 q2 K2 e5 H3))
  generalize hw5 : (w4.setCell ⟨w.heap.size, 3, none⟩ (.slice va A.length vk)).setCell ⟨w.heap.size, 5, none⟩ (.slice ua C.length uk) = w5 at *
  obtain ⟨q8, K8⟩ := set8 w5 (w.heap.size + 1) _ _ _ _ _ _ _ _ _ (.int .i64 k) (.string N) (.string T) (.slice va A.length vk) (.int .i64 p) (.slice ua C.length uk) (.bool b) (.bool s) H4.out.2.1
  have c0 := cell_of q8 0
  have c1 := cell_of q8 1
  have c2 := cell_of q8 2
  have c3 := cell_of q8 3
  have c4 := cell_of q8 4
  have c5 := cell_of q8 5
  have c6 := cell_of q8 6
  have c7 := cell_of q8 7
  have k5 : Kp (fun j t => t = 42 ∧ w.heap.size ≤ j ∨ j = w.heap.size + 1) w4 w5 := H4.out.2.2.1.mono fun k c t fr _ e => .inl e
  have hA := (K8.row (H4.out.2.2.1.row H4.out.2.2.2.2.1 fun j _ _ e => absurd e.1 (by decide)) (fun j hj _ e => row_ne (H4.out.2.2.1.row H4.out.2.2.2.2.1 fun j _ _ e => absurd e.1 (by decide)) H4.out.2.1 (by decide) (by rw [hj, e])))
  have hK := (K8.row (H4.out.2.2.1.row H4.out.2.2.2.2.2 fun j _ _ e => absurd e.1 (by decide)) (fun j hj _ e => row_ne (H4.out.2.2.1.row H4.out.2.2.2.2.2 fun j _ _ e => absurd e.1 (by decide)) H4.out.2.1 (by decide) (by rw [hj, e])))
  have hB5 := H4.out.2.2.2.1.trans (H4.out.2.2.1.below (fun j t e => e.2) H4.out.2.2.2.1.size)
  have hB := hB5.trans (K8.below (fun j t e => by omega) hB5.size)
  exact bodyPost_ret (v := .agg #[.int .i64 k, .string N, .string T, .slice va A.length vk, .int .i64 p, .slice ua C.length uk, .bool b, .bool s]) (by simp [results, Try.results27, go_sem, c0, c1, c2, c3, c4, c5, c6, c7]) rfl ⟨_, _, rfl, hA, hK, hB⟩

end Go.Proofs.Ytcmbkhlnigbooaa.Dm

namespace Go.Proofs.Ytcmbkhlnigbooaa.Dm
open Go.RowKit

theorem TinfoN : (Try.prog.info? 42).map (fun i => (i.zero, i.size, i.bytes)) = some (some (.agg #[.int .i64 0, .string ⟨#[]⟩, .string ⟨#[]⟩, .slice none 0 0, .int .i64 0, .slice none 0 0, .bool false, .bool false]), 8, 104) := by kernel_rfl
set_option maxRecDepth 100000 in
set_option maxHeartbeats 16000000 in
theorem own_hid (D : List Nd) (hf : FitD D) : Hid (∀ W sl A K, DocIn W sl D A K → Calls Try.prog 12 #[.agg #[sl]] W fun e w' => ∃ sl', e = .returned (.agg #[sl']) ∧ OwnX w' W.heap.size sl' D ∧ Below W.heap.size W w') := Lib.hid fun w sl A K hd => by
  obtain ⟨a, c, rfl⟩ := hd.form
  obtain ⟨d1, b1, l1⟩ := docBox w hd
  have hfl := hf.1
  have HF := Lib.hid hf
  have HD0 := Lib.hid hd
  obtain ⟨i0, hi0, hz0, hz1, hz2⟩ := info_parts TinfoN
  have hs1 : (w.alloc (.cells #[.slice a D.length c] 24)).heap.size = w.heap.size + 1 := by simp
  generalize hw1 : w.alloc (.cells #[.slice a D.length c] 24) = w1 at d1 b1 l1 hs1
  have al2 := (Below.refl w1.heap.size w1).alloc (Nat.le_refl _) (.cells #[.slice none 0 0] 24)
  have hb2 := new_block w1 (.cells #[.slice none 0 0] 24)
  rw [hs1] at hb2
  have hb1 := (al2.block _ (lt_of_block b1)).trans b1
  have hbel := l1.trans (al2.mono (by omega))
  generalize hw2 : w1.alloc (.cells #[.slice none 0 0] 24) = w2 at al2 hb2 hb1 hbel
  have H2 := Lib.hid (And.intro hb1 (And.intro hb2 hbel))
  have e0 := cell_of hb1 0
  clear hd d1 b1 l1 hf al2 hb1 hb2 hbel
  go_enter Try.func12, Try.ntmps12
  go_wp2
  clear hw1 hw2 hs1
  generalize hR : w.heap.size = R at e0 H2 ⊢
  rw [← hR] at H2
  have HR := Lib.hid hR
  clear hR
  go_loopw [3, 4] (fun ov i wr => ∃ (u : Nat) (A' K' : Nat → Value), i = .int .i64 u ∧ u ≤ D.length ∧ Hid (OwnD wr w.heap.size ov (D.take u) A' K' ∧ wr.heap[R]? = some (.cells #[.slice a D.length c] 24 (0, 0)) ∧ wr.heap[R + 1]? = some (.cells #[.slice none 0 0] 24 (0, 0)) ∧ Below w.heap.size w wr)) (fun _ i _ => D.length - (intOf i).toNat)
  case atStart => exact ⟨0, A, K, rfl, Nat.zero_le _, Lib.hid ⟨OwnD.nil _ _ _ _, by rw [← HR.out]; exact H2.out.1, by rw [← HR.out]; exact H2.out.2.1, H2.out.2.2⟩⟩
  case round =>
    clear H2 e0
    obtain ⟨u, A', K', rfl, hu, HX⟩ := hrel
    have e0 := cell_of HX.out.2.1 0
    by_cases hlt : u < D.length
    · obtain ⟨B, off, rfl, c0, c1, c2, c3, c4, c5, c6, c7⟩ := (HD0.out.below HX.out.2.2.2).node hlt
      have zu : (u : Int) < (D.length : Int) := by omega
      have hfit := HF.out.2 _ (List.getElem_mem hlt)
      have CO := ownNode_hid D[u] hfit
      have HA := Lib.hid (And.intro ((HD0.out.below HX.out.2.2.2).at' u hlt) ((HD0.out.below HX.out.2.2.2).kd u hlt))
      have htk : D.take (u + 1) = D.take u ++ [D[u]] := by rw [List.take_add_one, List.getElem?_eq_getElem hlt]; rfl
      have HTK := Lib.hid htk
      have hlk : (D.take u).length = u := by rw [List.length_take]; omega
      obtain ⟨aa, ac, hA⟩ := ((HD0.out.below HX.out.2.2.2).at' u hlt).form
      obtain ⟨ka, kc, hK⟩ := ((HD0.out.below HX.out.2.2.2).kd u hlt).form
      rw [hA, hK] at HA
      rw [hA] at c3
      rw [hK] at c5
      obtain ⟨N, hN⟩ := text_of D[u].n
      obtain ⟨T, hT⟩ := text_of D[u].d
      unfold nodeV at CO
      rw [strV_of hN, strV_of hT] at CO
      rw [strV_of hN] at c1
      rw [strV_of hT] at c2
      have hND : ∀ av kv, ndC D[u] av kv = [.int .i64 D[u].k, .string N, .string T, av, .int .i64 D[u].p, kv, .bool D[u].b, .bool D[u].s] := fun av kv => by
        unfold ndC
        rw [strV_of hN, strV_of hT]
      have HND := Lib.hid hND
      clear hN hT hA hK htk hfit hND
      go_wp2_with fail
      (refine (CO.out _ _ _ HA.out.1 HA.out.2).mono ?_)
      rintro e w3 ⟨av, kv, rfl, ra, rk, b3⟩
      obtain ⟨va, vk, rfl⟩ := row_form ra
      obtain ⟨ua, uk, rfl⟩ := row_form rk
      clear c0 c1 c2 c3 c4 c5 c6 c7
      have b4 := (Below.refl w3.heap.size w3).alloc (Nat.le_refl _) (.cells #[.int .i64 D[u].k, .string N, .string T, .slice va D[u].a.length vk, .int .i64 D[u].p, .slice ua D[u].c.length uk, .bool D[u].b, .bool D[u].s] 42)
      have b5 := b4.trans (((Below.refl _ _).alloc (Nat.le_refl _) (.cells #[.int .i64 D[u].k, .string N, .string T, .slice va D[u].a.length vk, .int .i64 D[u].p, .slice ua D[u].c.length uk, .bool D[u].b, .bool D[u].s] 42)).mono b4.size)
      have hsz : (w3.alloc (.cells #[.int .i64 D[u].k, .string N, .string T, .slice va D[u].a.length vk, .int .i64 D[u].p, .slice ua D[u].c.length uk, .bool D[u].b, .bool D[u].s] 42)).heap.size = w3.heap.size + 1 := by simp
      have hro := RowIn.made (w3.alloc (.cells #[.int .i64 D[u].k, .string N, .string T, .slice va D[u].a.length vk, .int .i64 D[u].p, .slice ua D[u].c.length uk, .bool D[u].b, .bool D[u].s] 42)) #[.int .i64 D[u].k, .string N, .string T, .slice va D[u].a.length vk, .int .i64 D[u].p, .slice ua D[u].c.length uk, .bool D[u].b, .bool D[u].s] 42 1 8 rfl (fun x hx => by simp at hx; rcases hx with rfl | rfl | rfl | rfl | rfl | rfl | rfl | rfl <;> rfl)
      rw [hsz] at hro
      obtain ⟨oa, oc, ho⟩ := HX.out.1.form
      rw [hlk] at ho
      subst ho
      have hrow := row_below (row_below HX.out.1.row b3) b5
      rw [hlk] at hrow
      have H5 := Lib.hid (And.intro hro (And.intro hrow (And.intro ra (And.intro rk (And.intro b3 b5)))))
      have hws : w.heap.size ≤ wr.heap.size := HX.out.2.2.2.size
      have hws5 := Nat.le_trans hws (Nat.le_trans b3.size b5.size)
      clear hro hrow ra rk b3 b4 b5 hsz
      go_wp2_with (at_builtin
                   refine wpList_append_rowG rfl _ _ 22 42 i0 (.agg #[.int .i64 0, .string ⟨#[]⟩, .string ⟨#[]⟩, .slice none 0 0, .int .i64 0, .slice none 0 0, .bool false, .bool false]) 8 104 Try.underlying22 hi0 hz0 hz1 hz2 rfl (by decide) rfl w.heap.size _ u (ndsC (D.take u) A' K') rfl H5.out.2.1 _ 1 _ rfl H5.out.1 (by unfold maxLen; omega) (by omega) hws5 ?_
                   intro v6 w6 hown6 hgrow6 hat6
                   obtain ⟨xa, xc, rfl⟩ := row_form hown6
                   have HO := Lib.hid (And.intro hown6 hgrow6)
                   clear hown6 hgrow6 hat6)
      have H6 : Hid (OwnD w6 w.heap.size (.slice xa (u + 1) xc) (D.take (u + 1)) (upd A' u (.slice va D[u].a.length vk)) (upd K' u (.slice ua D[u].c.length uk)) ∧ w6.heap[R]? = some (.cells #[.slice (some ⟨B, off, none⟩) D.length c] 24 (0, 0)) ∧ w6.heap[R + 1]? = some (.cells #[.slice none 0 0] 24 (0, 0)) ∧ Below w.heap.size w w6) := Lib.hid (by
        have b35 := H5.out.2.2.2.2.1.trans (H5.out.2.2.2.2.2.mono H5.out.2.2.2.2.1.size)
        have hm := HX.out.1.more H5.out.2.2.1 H5.out.2.2.2.1 H5.out.2.2.2.2.1 H5.out.2.2.2.2.2 hws (by rw [hlk, HND.out]; exact HO.out.1) HO.out.2
        rw [hlk, ← HTK.out] at hm
        have kk := (HX.out.1.below b35).grown HO.out.2
        exact ⟨hm, kk.cells ((b35.block _ (lt_of_block HX.out.2.1)).trans HX.out.2.1) fun e => absurd e.1 (by decide), kk.cells ((b35.block _ (lt_of_block HX.out.2.2.1)).trans HX.out.2.2.1) fun e => absurd e.1 (by decide), (HX.out.2.2.2.trans (b35.mono hws)).trans (kk.below (fun j t e => e.2) hws5)⟩)
      clear HO H5
      go_roundw
      case rel => exact ⟨u + 1, _, _, by go_num, by omega, H6⟩
      case measure => simp [intOf]; omega
    · obtain rfl : u = D.length := by omega
      have hX := HX.out
      rw [List.take_length] at hX
      obtain ⟨oa, oc, rfl⟩ := hX.1.form
      have o1 := open_of hX.2.2.1 0
      have r1 := cell_of hX.2.2.1 0
      have q1 := heap_setCell_same wr (R + 1) 0 _ _ _ (.slice oa D.length oc) hX.2.2.1
      have c0 : (wr.setCell ⟨R + 1, 0, none⟩ (.slice oa D.length oc)).cell? ⟨R + 1, 0, none⟩ = some (.slice oa D.length oc) := by rw [cell_of q1]; rfl
      have kS : Kp (fun j t => j = R + 1) wr (wr.setCell ⟨R + 1, 0, none⟩ (.slice oa D.length oc)) := Kp.of_set hX.2.2.1 _ rfl
      have H7 : Hid (OwnD (wr.setCell ⟨R + 1, 0, none⟩ (.slice oa D.length oc)) w.heap.size (.slice oa D.length oc) D A' K' ∧ Below w.heap.size w (wr.setCell ⟨R + 1, 0, none⟩ (.slice oa D.length oc))) := Lib.hid ⟨⟨kS.row hX.1.row fun j hj _ e => row_ne hX.1.row hX.2.2.1 (by decide) (by rw [hj, e]), fun i hi => kS.row (hX.1.at' i hi) fun j hj _ e => row_ne (hX.1.at' i hi) hX.2.2.1 (by decide) (by rw [hj, e]), fun i hi => kS.row (hX.1.kd i hi) fun j hj _ e => row_ne (hX.1.kd i hi) hX.2.2.1 (by decide) (by rw [hj, e]), hX.1.na, hX.1.nk⟩, hX.2.2.2.trans (kS.below (fun j t e => by have := HR.out; omega) hX.2.2.2.size)⟩
      clear HX hX q1 kS
      go_wp2
      exact bodyPost_ret (v := .agg #[.slice oa D.length oc]) (by simp [results, Try.results12, go_sem, c0]) rfl ⟨_, rfl, ⟨_, _, H7.out.1⟩, H7.out.2⟩

end Go.Proofs.Ytcmbkhlnigbooaa.Dm
