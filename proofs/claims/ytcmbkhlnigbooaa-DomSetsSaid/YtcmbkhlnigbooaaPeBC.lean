/- A node made to stand nowhere, with no kids: Make's first closure; changed at a node. The change that Make hands over, as a closure: a node is appended. -/
import Derived.Shelf.Abstract
import Derived.Test.YtcmbkhlnigbooaaPdUV
namespace Go.Proofs.Ytcmbkhlnigbooaa.Dm
open Go.RowKit Go.Shelf

set_option maxRecDepth 100000 in
theorem alone_hid (R : Nat) (v0 v1 v2 v3 v6 v7 : Value) (p : Int) (ka : Option Addr) (kn kc : Nat) : Hid (∀ W, W.heap[R]? = some (.cells #[v0, v1, v2, v3, .int .i64 p, .slice ka kn kc, v6, v7] 42 (0, 0)) → Calls Try.prog 57 #[.pointer (some ⟨R, 0, none⟩)] W fun e w' => e = .returned (.tuple #[]) ∧ w' = (W.setCell ⟨R, 4, none⟩ (.int .i64 (-1))).setCell ⟨R, 5, none⟩ (.slice none 0 0)) := Lib.hid fun w hb => by
  have hc4 := cell_of hb 4
  have ho4 := open_of hb 4
  have h2 : (w.setCell ⟨R, 4, none⟩ (.int .i64 (-1))).heap[R]? = some (.cells #[v0, v1, v2, v3, .int .i64 (-1), .slice ka kn kc, v6, v7] 42 (0, 0)) := heap_setCell_same w R 4 _ _ _ (.int .i64 (-1)) hb
  have hc5 := cell_of h2 5
  have ho5 := open_of h2 5
  clear hb h2
  go_enter Try.func57, Try.ntmps57
  go_wp2
  go_end0
  exact ⟨rfl, rfl⟩

set_option maxRecDepth 100000 in
set_option maxHeartbeats 4000000 in
theorem changedNode_hid (x : Nd) (hx : FitN x) : Hid (∀ W av kv, AtIn W av x.a → IntIn W kv x.c → Calls Try.prog 55 #[nodeV x av kv, .func (.func 56) #[] #[], .func (.func 57) #[] #[]] W fun e w' => ∃ av', e = .returned (nodeV { x with p := -1, c := [] } av' (.slice none 0 0)) ∧ w'.ownsRow W.heap.size 61 2 av' x.a.length (atC x.a) ∧ Below W.heap.size W w') := Lib.hid fun w av kv ha hk => by
  obtain ⟨aa, ac, rfl⟩ := ha.form
  obtain ⟨ka, kc, rfl⟩ := hk.form
  have CN := copyNode_hid x hx
  obtain ⟨N, hN⟩ := text_of x.n
  obtain ⟨T, hT⟩ := text_of x.d
  unfold nodeV at CN ⊢
  rw [strV_of hN, strV_of hT] at CN
  dsimp only
  rw [strV_of hN, strV_of hT]
  generalize x.k = xk at CN ⊢
  generalize x.p = xp at CN ⊢
  generalize x.b = xb at CN ⊢
  generalize x.s = xs at CN ⊢
  have al1 := (Below.refl w.heap.size w).alloc (Nat.le_refl _) (.cells #[.int .i64 xk, .string N, .string T, .slice aa x.a.length ac, .int .i64 xp, .slice ka x.c.length kc, .bool xb, .bool xs] 42)
  have hb1 := new_block w (.cells #[.int .i64 xk, .string N, .string T, .slice aa x.a.length ac, .int .i64 xp, .slice ka x.c.length kc, .bool xb, .bool xs] 42)
  have hs1 : (w.alloc (.cells #[.int .i64 xk, .string N, .string T, .slice aa x.a.length ac, .int .i64 xp, .slice ka x.c.length kc, .bool xb, .bool xs] 42)).heap.size = w.heap.size + 1 := by simp
  generalize hw1 : w.alloc (.cells #[.int .i64 xk, .string N, .string T, .slice aa x.a.length ac, .int .i64 xp, .slice ka x.c.length kc, .bool xb, .bool xs] 42) = w1 at al1 hb1 hs1
  have al2 := (Below.refl w1.heap.size w1).alloc (Nat.le_refl _) (.cells #[.int .i64 0, .string ⟨#[]⟩, .string ⟨#[]⟩, .slice none 0 0, .int .i64 0, .slice none 0 0, .bool false, .bool false] 42)
  have hb2 := new_block w1 (.cells #[.int .i64 0, .string ⟨#[]⟩, .string ⟨#[]⟩, .slice none 0 0, .int .i64 0, .slice none 0 0, .bool false, .bool false] 42)
  rw [hs1] at hb2
  generalize hw2 : w1.alloc (.cells #[.int .i64 0, .string ⟨#[]⟩, .string ⟨#[]⟩, .slice none 0 0, .int .i64 0, .slice none 0 0, .bool false, .bool false] 42) = w2 at al2 hb2
  have hb1' := (al2.block _ (lt_of_block hb1)).trans hb1
  have hbel := al1.trans (al2.mono (by omega))
  have e0 := cell_of hb1' 0
  have e1 := cell_of hb1' 1
  have e2 := cell_of hb1' 2
  have e3 := cell_of hb1' 3
  have e4 := cell_of hb1' 4
  have e5 := cell_of hb1' 5
  have e6 := cell_of hb1' 6
  have e7 := cell_of hb1' 7
  have CX := Lib.hid (CN.out w2 _ _ (ha.below hbel) (hk.below hbel))
  have HB := Lib.hid (And.intro hb2 hbel)
  clear ha hk al1 al2 hb1 hb2 hb1' hbel hN hT hx CN
  go_enter Try.func55, Try.ntmps55
  go_wp2_with fail
  (refine CX.out.mono ?_)
  rintro e w3 ⟨av', kv', rfl, ra, rk, b3⟩
  obtain ⟨va, vc, rfl⟩ := row_form ra
  obtain ⟨vk, vkc, rfl⟩ := row_form rk
  have y3 := (b3.block _ (lt_of_block HB.out.1)).trans HB.out.1
  have al4 := (Below.refl w3.heap.size w3).alloc (Nat.le_refl _) (.cells #[.int .i64 xk, .string N, .string T, .slice va x.a.length vc, .int .i64 xp, .slice vk x.c.length vkc, .bool xb, .bool xs] 42)
  have hb4 := new_block w3 (.cells #[.int .i64 xk, .string N, .string T, .slice va x.a.length vc, .int .i64 xp, .slice vk x.c.length vkc, .bool xb, .bool xs] 42)
  have y4 := (al4.block _ (lt_of_block y3)).trans y3
  have hlt := lt_of_block y3
  have b4 := (HB.out.2.trans (b3.mono HB.out.2.size)).trans (al4.mono (HB.out.2.trans (b3.mono HB.out.2.size)).size)
  generalize hw4 : w3.alloc (.cells #[.int .i64 xk, .string N, .string T, .slice va x.a.length vc, .int .i64 xp, .slice vk x.c.length vkc, .bool xb, .bool xs] 42) = w4 at al4 hb4 y4 b4
  have CA := Lib.hid ((alone_hid w3.heap.size (.int .i64 xk) (.string N) (.string T) (.slice va x.a.length vc) (.bool xb) (.bool xs) xp vk x.c.length vkc).out w4 hb4)
  have p1 : (w4.setCell ⟨w3.heap.size, 4, none⟩ (.int .i64 (-1))).heap[w3.heap.size]? = some (.cells #[.int .i64 xk, .string N, .string T, .slice va x.a.length vc, .int .i64 (-1), .slice vk x.c.length vkc, .bool xb, .bool xs] 42 (0, 0)) := heap_setCell_same w4 w3.heap.size 4 _ _ _ (.int .i64 (-1)) hb4
  have p2 : ((w4.setCell ⟨w3.heap.size, 4, none⟩ (.int .i64 (-1))).setCell ⟨w3.heap.size, 5, none⟩ (.slice none 0 0)).heap[w3.heap.size]? = some (.cells #[.int .i64 xk, .string N, .string T, .slice va x.a.length vc, .int .i64 (-1), .slice none 0 0, .bool xb, .bool xs] 42 (0, 0)) := heap_setCell_same _ w3.heap.size 5 _ _ _ (.slice none 0 0) p1
  have q2 : ((w4.setCell ⟨w3.heap.size, 4, none⟩ (.int .i64 (-1))).setCell ⟨w3.heap.size, 5, none⟩ (.slice none 0 0)).heap[w.heap.size + 1]? = some (.cells #[.int .i64 0, .string ⟨#[]⟩, .string ⟨#[]⟩, .slice none 0 0, .int .i64 0, .slice none 0 0, .bool false, .bool false] 42 (0, 0)) := by
    rw [heap_setCell_ne _ _ _ (by simp; omega), heap_setCell_ne _ _ _ (by simp; omega)]
    exact y4
  have K2 : Kp (fun j t => t = 42 ∧ w.heap.size ≤ j) w4 ((w4.setCell ⟨w3.heap.size, 4, none⟩ (.int .i64 (-1))).setCell ⟨w3.heap.size, 5, none⟩ (.slice none 0 0)) := (Kp.of_set hb4 _ ⟨rfl, by omega⟩).trans (Kp.of_set p1 _ ⟨rfl, by omega⟩)
  have H4 := Lib.hid (And.intro q2 (And.intro K2 (And.intro b4 (row_low (row_below ra al4) HB.out.2.size))))
  clear ra rk b3 y3 y4 al4 hb4 p1 K2 b4 CX HB e0 e1 e2 e3 e4 e5 e6 e7 hw1 hw2
  go_wp2_with fail
  (refine CA.out.mono ?_)
  rintro e w5 ⟨rfl, hw5⟩
  rw [hw5]
  generalize (w4.setCell ⟨w3.heap.size, 4, none⟩ (.int .i64 (-1))).setCell ⟨w3.heap.size, 5, none⟩ (.slice none 0 0) = w5 at p2 q2 H4 ⊢
  clear hw5 CA hw4
  have l0 := cell_of p2 0
  have l1 := cell_of p2 1
  have l2 := cell_of p2 2
  have l3 := cell_of p2 3
  have l4 := cell_of p2 4
  have l5 := cell_of p2 5
  have l6 := cell_of p2 6
  have l7 := cell_of p2 7
  have r0 := cell_of q2 0
  have o0 := open_of q2 0
  have r1 := cell_of q2 1
  have o1 := open_of q2 1
  have r2 := cell_of q2 2
  have o2 := open_of q2 2
  have r3 := cell_of q2 3
  have o3 := open_of q2 3
  have r4 := cell_of q2 4
  have o4 := open_of q2 4
  have r5 := cell_of q2 5
  have o5 := open_of q2 5
  have r6 := cell_of q2 6
  have o6 := open_of q2 6
  have r7 := cell_of q2 7
  have o7 := open_of q2 7
  clear p2 q2
  go_wp2
  obtain ⟨q8, K8⟩ := set8 w5 (w.heap.size + 1) _ _ _ _ _ _ _ _ _ (.int .i64 xk) (.string N) (.string T) (.slice va x.a.length vc) (.int .i64 (-1)) (.slice none 0 0) (.bool xb) (.bool xs) H4.out.1
  have c0 := cell_of q8 0
  have c1 := cell_of q8 1
  have c2 := cell_of q8 2
  have c3 := cell_of q8 3
  have c4 := cell_of q8 4
  have c5 := cell_of q8 5
  have c6 := cell_of q8 6
  have c7 := cell_of q8 7
  have hA := (K8.row (H4.out.2.1.row H4.out.2.2.2 fun j _ _ e => absurd e.1 (by decide)) (fun j hj _ e => row_ne (H4.out.2.1.row H4.out.2.2.2 fun j _ _ e => absurd e.1 (by decide)) H4.out.1 (by decide) (by rw [hj, e])))
  have hB5 := H4.out.2.2.1.trans (H4.out.2.1.below (fun j t e => e.2) H4.out.2.2.1.size)
  have hB := hB5.trans (K8.below (fun j t e => by omega) hB5.size)
  exact bodyPost_ret (v := .agg #[.int .i64 xk, .string N, .string T, .slice va x.a.length vc, .int .i64 (-1), .slice none 0 0, .bool xb, .bool xs]) (by simp [results, Try.results55, go_sem, c0, c1, c2, c3, c4, c5, c6, c7]) rfl ⟨_, rfl, hA, hB⟩

end Go.Proofs.Ytcmbkhlnigbooaa.Dm

namespace Go.Proofs.Ytcmbkhlnigbooaa.Dm
open Go.RowKit

theorem made_end {C : Nat} {w0 w w6 : World} {g g6 cap cap6 Bo : Nat} {D : List Nd} {A K : Nat → Value} {x : Nd} {N T : ByteArray} {va : Option Addr} {vc : Nat} (hN : N.data.toList = x.n) (hT : T.data.toList = x.d) (hC : C ≤ w0.heap.size) (b : Below w0.heap.size w0 w) (o : OwnD w w0.heap.size (.slice (some ⟨g, 0, none⟩) D.length cap) D A K)
    (ra : w0.ownsRow C 61 2 (.slice va x.a.length vc) x.a.length (atC x.a)) (hbx : w.heap[Bo]? = some (.cells #[.slice (some ⟨g, 0, none⟩) D.length cap] 24 (0, 0))) (hBo : w0.heap.size ≤ Bo)
    (hown : w6.ownsRow w0.heap.size 42 8 (.slice (some ⟨g6, 0, none⟩) (D.length + 1) cap6) (D.length + 1) (ndsC D A K ++ [.int .i64 x.k, .string N, .string T, .slice va x.a.length vc, .int .i64 (-1), .slice none 0 0, .bool x.b, .bool x.s])) (hgrow : (w.alloc (.cells #[.int .i64 x.k, .string N, .string T, .slice va x.a.length vc, .int .i64 (-1), .slice none 0 0, .bool x.b, .bool x.s] 42)).grownBy w6 (some g)) :
    w6.heap[Bo]? = some (.cells #[.slice (some ⟨g, 0, none⟩) D.length cap] 24 (0, 0)) ∧ ChgEC C w0.heap.size Bo (makeM D x) w (.returned (.tuple #[])) (w6.setCell ⟨Bo, 0, none⟩ (.slice (some ⟨g6, 0, none⟩) (D.length + 1) cap6)) := by
  have al := (Below.refl w.heap.size w).alloc (Nat.le_refl _) (.cells #[.int .i64 x.k, .string N, .string T, .slice va x.a.length vc, .int .i64 (-1), .slice none 0 0, .bool x.b, .bool x.s] 42)
  have o1 := o.below al
  have k6 := o1.grown (by exact hgrow)
  have x1 := (al.block _ (lt_of_block hbx)).trans hbx
  have x6 := k6.cells x1 (fun e => absurd e.1 (by decide))
  have hbs := b.size
  have hws : w0.heap.size ≤ (w.alloc (.cells #[.int .i64 x.k, .string N, .string T, .slice va x.a.length vc, .int .i64 (-1), .slice none 0 0, .bool x.b, .bool x.s] 42)).heap.size := by simp; omega
  have r1 := row_below (row_below ra b) al
  have r6 := k6.row r1 (fun _ _ _ e => absurd e.1 (by decide))
  have e : ndC { x with p := -1, c := [] } (.slice va x.a.length vc) (.slice none 0 0) = [.int .i64 x.k, .string N, .string T, .slice va x.a.length vc, .int .i64 (-1), .slice none 0 0, .bool x.b, .bool x.s] := by
    unfold ndC
    dsimp only
    rw [strV_of hN, strV_of hT]
  have o6 := (o1.low hC).grow (k6.mono fun k c t fr _ e => ⟨e.1, Nat.le_trans hC e.2⟩) (x := { x with p := -1, c := [] }) (av := .slice va x.a.length vc) (kv := .slice none 0 0) (by rw [e]; exact row_low hown hC) r6 (World.ownsRow_nil _ _ _ _) (fun i hi j hj e => by
    have h1 := ((o.at' i hi).lt j hj).1
    have h2 := (ra.lt j e).2
    omega) (fun i hi j hj e => by cases e)
  refine ⟨x6, rfl, _, heap_setCell_same _ _ _ _ _ _ _ x6, (OwnX.setDoc ⟨_, _, o6⟩ x6), ((Kp.of_below al).trans (k6.mono fun k c t fr _ e => ⟨e.2, fun h => by rw [e.1] at h; exact absurd h (by decide)⟩)).trans (Kp.of_set x6 _ ⟨hBo, fun _ => rfl⟩)⟩

set_option maxRecDepth 100000 in
set_option maxHeartbeats 8000000 in
theorem makeChg (D : List Nd) (hl : D.length ≤ 400) (h0 : 0 < D.length) (x : Nd) (N T : ByteArray) (hN : N.data.toList = x.n) (hT : T.data.toList = x.d) (va : Option Addr) (vc : Nat) (C : Nat) (w0 : World) (hC : C ≤ w0.heap.size) (Ab : Nat) (hab : w0.heap[Ab]? = some (.cells #[.int .i64 x.k, .string N, .string T, .slice va x.a.length vc, .int .i64 (-1), .slice none 0 0, .bool x.b, .bool x.s] 42 (0, 0)))
    (ra : w0.ownsRow C 61 2 (.slice va x.a.length vc) x.a.length (atC x.a)) : ChgPC C w0 61 #[.pointer (some ⟨Ab, 0, none⟩)] D (makeM D x) := fun w Bo sl b hBo hbx ho => by
  obtain ⟨g, cap, A, K, rfl, o⟩ := ho.some h0
  have hab2 := (b.block _ (lt_of_block hab)).trans hab
  obtain ⟨i0, hi, hz0, hz1, hz2⟩ := info_parts TinfoN
  have e0 := cell_of hbx 0
  have o0 := open_of hbx 0
  have e0a := cell_of ((((Below.refl w.heap.size w).alloc (Nat.le_refl _) (.cells #[.int .i64 x.k, .string N, .string T, .slice va x.a.length vc, .int .i64 (-1), .slice none 0 0, .bool x.b, .bool x.s] 42)).block _ (lt_of_block hbx)).trans hbx) 0
  have n0 := cell_of hab2 0
  have n1 := cell_of hab2 1
  have n2 := cell_of hab2 2
  have n3 := cell_of hab2 3
  have n4 := cell_of hab2 4
  have n5 := cell_of hab2 5
  have n6 := cell_of hab2 6
  have n7 := cell_of hab2 7
  have hbs := b.size
  have hws : w0.heap.size ≤ (w.alloc (.cells #[.int .i64 x.k, .string N, .string T, .slice va x.a.length vc, .int .i64 (-1), .slice none 0 0, .bool x.b, .bool x.s] 42)).heap.size := by simp; omega
  have HM := fun g6 cap6 w6 hown hgrow => made_end (g6 := g6) (cap6 := cap6) (w6 := w6) hN hT hC b o ra hbx hBo hown hgrow
  have HMM := Lib.hid HM
  have HO := Lib.hid (o.row.alloc (.cells #[.int .i64 x.k, .string N, .string T, .slice va x.a.length vc, .int .i64 (-1), .slice none 0 0, .bool x.b, .bool x.s] 42))
  clear ho hab hab2 o ra HM hbx b
  go_enter Try.func61, Try.ntmps61
  go_wp2_with fail
  go_region_law (refine step_append_lies _ (by rfl) (.tmp 7) (.tmp 9) 22 (by rfl) w0.heap.size 42 i0 (.agg #[.int .i64 0, .string ⟨#[]⟩, .string ⟨#[]⟩, .slice none 0 0, .int .i64 0, .slice none 0 0, .bool false, .bool false]) 8 104 Try.underlying22 hi hz0 hz1 hz2 rfl (by decide) _ _ _ (by rfl) HO.out ⟨w.heap.size, 0, none⟩ 1 1 [.int .i64 x.k, .string N, .string T, .slice va x.a.length vc, .int .i64 (-1), .slice none 0 0, .bool x.b, .bool x.s] (by rfl) rfl (World.news_of_block (new_block _ _)) (by intro u hu; simp at hu; rcases hu with rfl | rfl | rfl | rfl | rfl | rfl | rfl | rfl <;> rfl) (by decide) (by unfold maxLen; omega) (by omega) hws _ rfl ?_
                 intro g6 cap6 w6 hown hgrow hat hlt6
                 obtain ⟨x6, hE⟩ := HMM.out g6 cap6 w6 hown ⟨hgrow.os, hgrow.tape, hgrow.output, hgrow.size, hgrow.block⟩
                 have f6 := open_of x6 0
                 have d6 := cell_of x6 0
                 have HE := Lib.hid hE
                 clear hown hgrow hat hlt6 hE x6)
  all_goals
    go_wp2
    go_end0
    exact HE.out

end Go.Proofs.Ytcmbkhlnigbooaa.Dm
