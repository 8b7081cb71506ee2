/- The document's own: a new document; a node is made. -/
import Derived.Test.YtcmbkhlnigbooaaDoMN
namespace Go.Proofs.Ytcmbkhlnigbooaa.Dm
open Go.RowKit

def newM : List Nd := [{ k := 1, n := [], d := [], a := [], p := -1, c := [], b := false, s := false }]
def makeR (D : List Nd) (x : Nd) : List Nd × Int × Int := if checkM D ≠ 0 then ([], 0, checkM D) else if mayM x = false ∨ x.k = 1 then ([], 0, 1) else if 300 ≤ D.length then ([], 0, 2) else (makeM D x, (D.length : Int), 0)
theorem make_e1 {D : List Nd} {x : Nd} (h : checkM D ≠ 0) : makeR D x = ([], 0, checkM D) := by unfold makeR; rw [if_pos h]
theorem make_e2 {D : List Nd} {x : Nd} (h : checkM D = 0) (h2 : mayM x = false ∨ x.k = 1) : makeR D x = ([], 0, 1) := by unfold makeR; rw [if_neg (by simp [h]), if_pos h2]
theorem make_e3 {D : List Nd} {x : Nd} (h : checkM D = 0) (h2 : mayM x = true) (h3 : x.k ≠ 1) (h4 : 300 ≤ D.length) : makeR D x = ([], 0, 2) := by unfold makeR; rw [if_neg (by simp [h]), if_neg (by simp [h2, h3]), if_pos h4]
theorem make_ok {D : List Nd} {x : Nd} (h : checkM D = 0) (h2 : mayM x = true) (h3 : x.k ≠ 1) (h4 : D.length < 300) : makeR D x = (makeM D x, (D.length : Int), 0) := by unfold makeR; rw [if_neg (by simp [h]), if_neg (by simp [h2, h3]), if_neg (by omega)]

set_option maxRecDepth 100000 in
set_option maxHeartbeats 16000000 in
theorem make_hid (D : List Nd) (hf : FitD D) (x : Nd) (hx : FitN x) : Hid (∀ W sl A K av kv, DocIn W sl D A K → AtIn W av x.a → IntIn W kv x.c → Calls Try.prog 29 #[.agg #[sl], nodeV x av kv] W fun e w' => ∃ sl', e = .returned (.tuple #[.agg #[sl'], .int .i64 (makeR D x).2.1, .int .i64 (makeR D x).2.2]) ∧ OwnX w' W.heap.size sl' (makeR D x).1 ∧ Below W.heap.size W w') := Lib.hid fun w sl A K av kv hd ha hk => by
  obtain ⟨a, c, rfl⟩ := hd.form
  obtain ⟨aa, ac, rfl⟩ := ha.form
  obtain ⟨ka, kc, rfl⟩ := hk.form
  have CM := may_hid x hx.2.2.1
  have CO := ownNode_hid x hx
  have CK := check_hid D hf
  have CD := own_hid D hf
  have hfl := hf.1
  have H1 := fun (h : checkM D ≠ 0) => make_e1 (x := x) h
  have H2 := fun (h : checkM D = 0) (h2 : mayM x = false ∨ x.k = 1) => make_e2 h h2
  have H3 := fun (h : checkM D = 0) (h2 : mayM x = true) (h3 : x.k ≠ 1) (h4 : 300 ≤ D.length) => make_e3 h h2 h3 h4
  have H4 := fun (h : checkM D = 0) (h2 : mayM x = true) (h3 : x.k ≠ 1) (h4 : D.length < 300) => make_ok h h2 h3 h4
  have hmk : makeM D x = D ++ [{ x with p := -1, c := [] }] := rfl
  rw [hmk] at H4
  clear hmk
  obtain ⟨k, n, d, A1, p, C1, b, s⟩ := x
  obtain ⟨N, hN⟩ := text_of n
  obtain ⟨T, hT⟩ := text_of d
  subst hN hT
  unfold nodeV at CM CO ⊢
  dsimp only at *
  rw [strV_of (T := N) rfl, strV_of (T := T) rfl] at CM CO ⊢
  have al1 := (Below.refl w.heap.size w).alloc (Nat.le_refl _) (.cells #[.slice a D.length c] 24)
  have hb1 := new_block w (.cells #[.slice a D.length c] 24)
  have hs1 : (w.alloc (.cells #[.slice a D.length c] 24)).heap.size = w.heap.size + 1 := by simp
  generalize hw1 : w.alloc (.cells #[.slice a D.length c] 24) = w1 at al1 hb1 hs1
  have al2 := (Below.refl w1.heap.size w1).alloc (Nat.le_refl _) (.cells #[.int .i64 k, .string N, .string T, .slice aa A1.length ac, .int .i64 p, .slice ka C1.length kc, .bool b, .bool s] 42)
  have hb2 := new_block w1 (.cells #[.int .i64 k, .string N, .string T, .slice aa A1.length ac, .int .i64 p, .slice ka C1.length kc, .bool b, .bool s] 42)
  have hs2 : (w1.alloc (.cells #[.int .i64 k, .string N, .string T, .slice aa A1.length ac, .int .i64 p, .slice ka C1.length kc, .bool b, .bool s] 42)).heap.size = w.heap.size + 2 := by rw [size_alloc, hs1]
  rw [hs1] at hb2
  generalize hw2 : w1.alloc (.cells #[.int .i64 k, .string N, .string T, .slice aa A1.length ac, .int .i64 p, .slice ka C1.length kc, .bool b, .bool s] 42) = w2 at al2 hb2 hs2
  have al3 := (Below.refl w2.heap.size w2).alloc (Nat.le_refl _) (.cells #[.slice none 0 0] 24)
  have hb3 := new_block w2 (.cells #[.slice none 0 0] 24)
  rw [hs2] at hb3
  generalize hw3 : w2.alloc (.cells #[.slice none 0 0] 24) = w3 at al3 hb3
  have b23 := al2.trans (al3.mono (by omega))
  have HX := Lib.hid (And.intro ((b23.block _ (lt_of_block hb1)).trans hb1) (And.intro ((al3.block _ (lt_of_block hb2)).trans hb2) (And.intro hb3 (al1.trans (b23.mono (by omega))))))
  have e0 := cell_of HX.out.1 0
  have HD := Lib.hid (And.intro hd (And.intro ha hk))
  have HR : Hid (w.heap.size ≤ w.heap.size) := Lib.hid (Nat.le_refl _)
  clear hd ha hk al1 hb1 al2 hb2 al3 hb3 b23
  go_enter Try.func29, Try.ntmps29
  go_wp2_with fail
  (refine (CK.out _ _ _ _ (HD.out.1.below HX.out.2.2.2)).mono ?_)
  rintro e w4 ⟨rfl, b4⟩
  clear hw1 hw2 hw3 hs1 hs2
  have HY := Lib.hid (And.intro ((b4.block _ (lt_of_block HX.out.1)).trans HX.out.1) (And.intro ((b4.block _ (lt_of_block HX.out.2.1)).trans HX.out.2.1) (And.intro ((b4.block _ (lt_of_block HX.out.2.2.1)).trans HX.out.2.2.1) (HX.out.2.2.2.trans (b4.mono HX.out.2.2.2.size)))))
  clear b4 HX CK
  have e0 := cell_of HY.out.1 0
  have m0 := cell_of HY.out.2.1 0
  have m1 := cell_of HY.out.2.1 1
  have m2 := cell_of HY.out.2.1 2
  have m3 := cell_of HY.out.2.1 3
  have m4 := cell_of HY.out.2.1 4
  have m5 := cell_of HY.out.2.1 5
  have m6 := cell_of HY.out.2.1 6
  have m7 := cell_of HY.out.2.1 7
  by_cases hc : checkM D = 0
  case neg =>
    have HE := Lib.hid (H1 hc)
    have g1 : (checkM D != 0) = true := by rw [bne_iff_ne]; exact hc
    clear H1 H2 H3 H4
    have o2 := open_of HY.out.2.2.1 0
    have r2 := cell_of HY.out.2.2.1 0
    have q2 := heap_setCell_same w4 (w.heap.size + 2) 0 _ _ _ (.slice none 0 0) HY.out.2.2.1
    have c0 : (w4.setCell ⟨w.heap.size + 2, 0, none⟩ (.slice none 0 0)).cell? ⟨w.heap.size + 2, 0, none⟩ = some (.slice none 0 0) := by rw [cell_of q2]; rfl
    have HB : Hid (Below w.heap.size w (w4.setCell ⟨w.heap.size + 2, 0, none⟩ (.slice none 0 0))) := Lib.hid (HY.out.2.2.2.trans ((Kp.of_set (P := fun j _ => j = w.heap.size + 2) HY.out.2.2.1 _ rfl).below (fun j t e => by have := HR.out; omega) HY.out.2.2.2.size))
    clear q2
    go_wp2
    exact bodyPost_ret (v := .tuple #[.agg #[.slice none 0 0], .int .i64 0, .int .i64 (checkM D)]) (by simp [results, Try.results29, go_sem, c0]) rfl ⟨_, by rw [HE.out], by rw [HE.out]; exact ⟨fun _ => .slice none 0 0, fun _ => .slice none 0 0, OwnD.nil _ _ _ _⟩, HB.out⟩
  have hc0 := hc
  rw [hc]
  clear H1
  generalize hmb : mayM ⟨k, N.data.toList, T.data.toList, A1, p, C1, b, s⟩ = mb at CM H2 H3 H4
  go_wp2_with fail
  (refine (CM.out _ _ _ (HD.out.2.1.below HY.out.2.2.2)).mono ?_)
  rintro e w5 ⟨rfl, b5⟩
  have HZ := Lib.hid (And.intro ((b5.block _ (lt_of_block HY.out.1)).trans HY.out.1) (And.intro ((b5.block _ (lt_of_block HY.out.2.1)).trans HY.out.2.1) (And.intro ((b5.block _ (lt_of_block HY.out.2.2.1)).trans HY.out.2.2.1) (HY.out.2.2.2.trans (b5.mono HY.out.2.2.2.size)))))
  clear b5 HY CM e0 m0 m1 m2 m3 m4 m5 m6 m7
  have e0 := cell_of HZ.out.1 0
  have m0 := cell_of HZ.out.2.1 0
  have m1 := cell_of HZ.out.2.1 1
  have m2 := cell_of HZ.out.2.1 2
  have m3 := cell_of HZ.out.2.1 3
  have m4 := cell_of HZ.out.2.1 4
  have m5 := cell_of HZ.out.2.1 5
  have m6 := cell_of HZ.out.2.1 6
  have m7 := cell_of HZ.out.2.1 7
  cases mb with
  | false =>
    have HE := Lib.hid (H2 hc0 (.inl rfl))
    clear H2 H3 H4
    have o2 := open_of HZ.out.2.2.1 0
    have r2 := cell_of HZ.out.2.2.1 0
    have q2 := heap_setCell_same w5 (w.heap.size + 2) 0 _ _ _ (.slice none 0 0) HZ.out.2.2.1
    have c0 : (w5.setCell ⟨w.heap.size + 2, 0, none⟩ (.slice none 0 0)).cell? ⟨w.heap.size + 2, 0, none⟩ = some (.slice none 0 0) := by rw [cell_of q2]; rfl
    have HB : Hid (Below w.heap.size w (w5.setCell ⟨w.heap.size + 2, 0, none⟩ (.slice none 0 0))) := Lib.hid (HZ.out.2.2.2.trans ((Kp.of_set (P := fun j _ => j = w.heap.size + 2) HZ.out.2.2.1 _ rfl).below (fun j t e => by have := HR.out; omega) HZ.out.2.2.2.size))
    clear q2
    go_wp2
    exact bodyPost_ret (v := .tuple #[.agg #[.slice none 0 0], .int .i64 0, .int .i64 1]) (by simp [results, Try.results29, go_sem, c0]) rfl ⟨_, by rw [HE.out], by rw [HE.out]; exact ⟨fun _ => .slice none 0 0, fun _ => .slice none 0 0, OwnD.nil _ _ _ _⟩, HB.out⟩
  | true =>
    by_cases hk1 : k = 1
    · have HE := Lib.hid (H2 hc0 (.inr hk1))
      have g1 : (k == 1) = true := by rw [hk1]; rfl
      clear H2 H3 H4
      have o2 := open_of HZ.out.2.2.1 0
      have r2 := cell_of HZ.out.2.2.1 0
      have q2 := heap_setCell_same w5 (w.heap.size + 2) 0 _ _ _ (.slice none 0 0) HZ.out.2.2.1
      have c0 : (w5.setCell ⟨w.heap.size + 2, 0, none⟩ (.slice none 0 0)).cell? ⟨w.heap.size + 2, 0, none⟩ = some (.slice none 0 0) := by rw [cell_of q2]; rfl
      have HB : Hid (Below w.heap.size w (w5.setCell ⟨w.heap.size + 2, 0, none⟩ (.slice none 0 0))) := Lib.hid (HZ.out.2.2.2.trans ((Kp.of_set (P := fun j _ => j = w.heap.size + 2) HZ.out.2.2.1 _ rfl).below (fun j t e => by have := HR.out; omega) HZ.out.2.2.2.size))
      clear q2
      go_wp2
      exact bodyPost_ret (v := .tuple #[.agg #[.slice none 0 0], .int .i64 0, .int .i64 1]) (by simp [results, Try.results29, go_sem, c0]) rfl ⟨_, by rw [HE.out], by rw [HE.out]; exact ⟨fun _ => .slice none 0 0, fun _ => .slice none 0 0, OwnD.nil _ _ _ _⟩, HB.out⟩
    have g1 : (k == 1) = false := by rw [beq_eq_false_iff_ne]; exact hk1
    by_cases hbig : 300 ≤ D.length
    · have HE := Lib.hid (H3 hc0 rfl hk1 hbig)
      have g2 : (300 : Int) ≤ (D.length : Int) := by omega
      clear H2 H3 H4
      have o2 := open_of HZ.out.2.2.1 0
      have r2 := cell_of HZ.out.2.2.1 0
      have q2 := heap_setCell_same w5 (w.heap.size + 2) 0 _ _ _ (.slice none 0 0) HZ.out.2.2.1
      have c0 : (w5.setCell ⟨w.heap.size + 2, 0, none⟩ (.slice none 0 0)).cell? ⟨w.heap.size + 2, 0, none⟩ = some (.slice none 0 0) := by rw [cell_of q2]; rfl
      have HB : Hid (Below w.heap.size w (w5.setCell ⟨w.heap.size + 2, 0, none⟩ (.slice none 0 0))) := Lib.hid (HZ.out.2.2.2.trans ((Kp.of_set (P := fun j _ => j = w.heap.size + 2) HZ.out.2.2.1 _ rfl).below (fun j t e => by have := HR.out; omega) HZ.out.2.2.2.size))
      clear q2
      go_wp2
      exact bodyPost_ret (v := .tuple #[.agg #[.slice none 0 0], .int .i64 0, .int .i64 2]) (by simp [results, Try.results29, go_sem, c0]) rfl ⟨_, by rw [HE.out], by rw [HE.out]; exact ⟨fun _ => .slice none 0 0, fun _ => .slice none 0 0, OwnD.nil _ _ _ _⟩, HB.out⟩
    have HE := Lib.hid (H4 hc0 rfl hk1 (by omega))
    have g2 : ¬ (300 : Int) ≤ (D.length : Int) := by omega
    clear H2 H3 H4 hc hc0
    go_wp2_with fail
    (refine (CO.out _ _ _ (HD.out.2.1.below HZ.out.2.2.2) (HD.out.2.2.below HZ.out.2.2.2)).mono ?_)
    rintro e w6 ⟨av, kv, rfl, ra, rk, b6⟩
    obtain ⟨va, vk, rfl⟩ := row_form ra
    obtain ⟨ua, uk, rfl⟩ := row_form rk
    clear m0 m1 m2 m3 m4 m5 m6 m7
    have al7 := (Below.refl w6.heap.size w6).alloc (Nat.le_refl _) (.cells #[.int .i64 k, .string N, .string T, .slice va A1.length vk, .int .i64 (-1), .slice none 0 0, .bool b, .bool s] 42)
    have hx7 := new_block w6 (.cells #[.int .i64 k, .string N, .string T, .slice va A1.length vk, .int .i64 (-1), .slice none 0 0, .bool b, .bool s] 42)
    have b67 := b6.trans (al7.mono b6.size)
    have hsz7 : (w6.alloc (.cells #[.int .i64 k, .string N, .string T, .slice va A1.length vk, .int .i64 (-1), .slice none 0 0, .bool b, .bool s] 42)).heap.size = w6.heap.size + 1 := by simp
    generalize hw7 : w6.alloc (.cells #[.int .i64 k, .string N, .string T, .slice va A1.length vk, .int .i64 (-1), .slice none 0 0, .bool b, .bool s] 42) = w7 at al7 hx7 b67 hsz7
    have hlt6 : ∀ j, (Value.slice va A1.length vk).ownBlock = some j → j < w7.heap.size := fun j hj => by have := (ra.lt j hj).2; omega
    have HV := Lib.hid (And.intro ((b67.block _ (lt_of_block HZ.out.1)).trans HZ.out.1) (And.intro ((b67.block _ (lt_of_block HZ.out.2.2.1)).trans HZ.out.2.2.1) (And.intro (HZ.out.2.2.2.trans (b67.mono HZ.out.2.2.2.size)) (And.intro (row_below (row_low ra HZ.out.2.2.2.size) al7) (And.intro hx7 hlt6)))))
    have e0 := cell_of HV.out.1 0
    obtain ⟨X, hX⟩ : ∃ X, w6.heap.size = X := ⟨_, rfl⟩
    rw [hX] at HV hsz7
    clear b6 b67 ra rk HZ CO al7 hx7 hlt6
    go_wp2_with fail
    (refine (CD.out _ _ _ _ (HD.out.1.below HV.out.2.2.1)).mono ?_)
    rintro e w8 ⟨sl', rfl, o8, b8⟩
    obtain ⟨oa, oc, rfl⟩ := o8.form
    have al9 := (Below.refl w8.heap.size w8).alloc (Nat.le_refl _) (.cells #[.slice oa D.length oc] 24)
    have hb9 := new_block w8 (.cells #[.slice oa D.length oc] 24)
    have hs9 : (w8.alloc (.cells #[.slice oa D.length oc] 24)).heap.size = w8.heap.size + 1 := by simp
    have b89 := b8.trans (al9.mono b8.size)
    generalize hw9 : w8.alloc (.cells #[.slice oa D.length oc] 24) = w9 at al9 hb9 hs9 b89
    have al10 := (Below.refl w9.heap.size w9).alloc (Nat.le_refl _) (.cells #[.int .i64 k, .string N, .string T, .slice va A1.length vk, .int .i64 (-1), .slice none 0 0, .bool b, .bool s] 42)
    have hro := RowIn.made w9 #[.int .i64 k, .string N, .string T, .slice va A1.length vk, .int .i64 (-1), .slice none 0 0, .bool b, .bool s] 42 1 8 rfl (fun x hx => by simp at hx; rcases hx with rfl | rfl | rfl | rfl | rfl | rfl | rfl | rfl <;> rfl)
    rw [hs9] at hro
    have b90 := b89.trans (al10.mono b89.size)
    have x9 := (b89.block _ (lt_of_block HV.out.2.2.2.2.1)).trans HV.out.2.2.2.2.1
    have n0 := cell_of x9 0
    have n1 := cell_of x9 1
    have n2 := cell_of x9 2
    have n3 := cell_of x9 3
    have n4 := cell_of x9 4
    have n5 := cell_of x9 5
    have n6 := cell_of x9 6
    have n7 := cell_of x9 7
    have p0 := cell_of hb9 0
    generalize hw10 : w9.alloc (.cells #[.int .i64 k, .string N, .string T, .slice va A1.length vk, .int .i64 (-1), .slice none 0 0, .bool b, .bool s] 42) = w10 at al10 hro b90
    have hq9 := (al10.block _ (lt_of_block hb9)).trans hb9
    have H10 := Lib.hid (And.intro ((b90.block _ (lt_of_block HV.out.1)).trans HV.out.1) (And.intro ((b90.block _ (lt_of_block HV.out.2.1)).trans HV.out.2.1) (And.intro (HV.out.2.2.1.trans (b90.mono HV.out.2.2.1.size)) (And.intro (row_below HV.out.2.2.2.1 b90) (And.intro hq9 (And.intro (o8.below (al9.trans (al10.mono al9.size))) (And.intro hro HV.out.2.2.2.2.2)))))))
    have hws : w.heap.size ≤ w10.heap.size := H10.out.2.2.1.size
    have hw7s := HV.out.2.2.1.size
    obtain ⟨i0, hi0, hz0, hz1, hz2⟩ := info_parts TinfoN
    have hlt2 := lt_of_block HV.out.2.1
    have hb79 := b89.size
    have hb910 := al10.size
    have hw8s := b8.size
    clear b8 b89 b90 al9 al10 hb9 hro hq9 x9 o8 HV CD e0
    obtain ⟨A2, K2, o10⟩ := H10.out.2.2.2.2.2.1
    have hw710 : w7.heap.size ≤ w10.heap.size := Nat.le_trans hb79 hb910
    go_wp2_with (at_builtin
                 refine wpList_append_rowG rfl _ _ 22 42 i0 (.agg #[.int .i64 0, .string ⟨#[]⟩, .string ⟨#[]⟩, .slice none 0 0, .int .i64 0, .slice none 0 0, .bool false, .bool false]) 8 104 Try.underlying22 hi0 hz0 hz1 hz2 rfl (by decide) rfl w7.heap.size _ D.length (ndsC D A2 K2) rfl o10.row _ 1 _ rfl H10.out.2.2.2.2.2.2.1 (by unfold maxLen; omega) (by omega) hw710 ?_
                 intro v11 w11 hown11 hgrow11 hat11
                 obtain ⟨xa, xc, rfl⟩ := row_form hown11
                 have kk := o10.grown hgrow11
                 have d11 := kk.cells H10.out.1 (fun e => absurd e.1 (by decide))
                 have s11 := kk.cells H10.out.2.1 (fun e => absurd e.1 (by decide))
                 have t11 := kk.cells H10.out.2.2.2.2.1 (fun e => absurd e.1 (by decide))
                 have o9 := open_of t11 0
                 have r9 := cell_of t11 0
                 have q12 := heap_setCell_same w11 w8.heap.size 0 _ _ _ (.slice xa (D.length + 1) xc) t11
                 have kS : Kp (fun j t => j = w8.heap.size) w11 (w11.setCell ⟨w8.heap.size, 0, none⟩ (.slice xa (D.length + 1) xc)) := Kp.of_set t11 _ rfl
                 have d12 := kS.cells d11 (fun e => by have e1 : w.heap.size = w8.heap.size := e; omega)
                 have s12 := kS.cells s11 (fun e => by have e1 : w.heap.size + 2 = w8.heap.size := e; omega)
                 have e12 := cell_of d12 0
                 have p12 : (w11.setCell ⟨w8.heap.size, 0, none⟩ (.slice xa (D.length + 1) xc)).cell? ⟨w8.heap.size, 0, none⟩ = some (.slice xa (D.length + 1) xc) := by rw [cell_of q12]; rfl
                 have o13 := open_of s12 0
                 have r13 := cell_of s12 0
                 have H11 := Lib.hid (And.intro kk (And.intro hown11 (And.intro kS (And.intro s12 q12))))
                 clear hown11 hgrow11 hat11 kk d11 s11 t11 q12 kS d12 s12)
    have HO : Hid (OwnX ((w11.setCell ⟨w8.heap.size, 0, none⟩ (.slice xa (D.length + 1) xc)).setCell ⟨w.heap.size + 2, 0, none⟩ (.slice xa (D.length + 1) xc)) w.heap.size (.slice xa (D.length + 1) xc) (D ++ [⟨k, N.data.toList, T.data.toList, A1, -1, [], b, s⟩]) ∧ ((w11.setCell ⟨w8.heap.size, 0, none⟩ (.slice xa (D.length + 1) xc)).setCell ⟨w.heap.size + 2, 0, none⟩ (.slice xa (D.length + 1) xc)).cell? ⟨w.heap.size + 2, 0, none⟩ = some (.slice xa (D.length + 1) xc) ∧ Below w.heap.size w ((w11.setCell ⟨w8.heap.size, 0, none⟩ (.slice xa (D.length + 1) xc)).setCell ⟨w.heap.size + 2, 0, none⟩ (.slice xa (D.length + 1) xc))) := Lib.hid (by
      obtain ⟨kk, hown, kS, s12, q12⟩ := H11.out
      have q13 := heap_setCell_same _ (w.heap.size + 2) 0 _ _ _ (.slice xa (D.length + 1) xc) s12
      have t11 := kk.cells H10.out.2.2.2.2.1 (fun e => absurd e.1 (by decide))
      have o11 := (o10.low hw7s).grow (kk.mono fun k c t fr _ e => ⟨e.1, Nat.le_trans hw7s e.2⟩) (x := ⟨k, N.data.toList, T.data.toList, A1, -1, [], b, s⟩) (av := .slice va A1.length vk) (kv := .slice none 0 0) (row_low hown hw7s) (kk.row H10.out.2.2.2.1 fun j _ _ e => absurd e.1 (by decide)) (World.ownsRow_nil _ _ _ _) (fun i hi j hj e => by
        have h1 := ((o10.at' i hi).lt j hj).1
        have h2 := H10.out.2.2.2.2.2.2.2 j e
        omega) (fun i hi j hj e => by cases e)
      have b11 := H10.out.2.2.1.trans (kk.below (fun j t e => Nat.le_trans hw7s e.2) hws)
      have b12 := b11.trans (kS.below (fun j t e => by have e1 : j = w8.heap.size := e; omega) b11.size)
      exact ⟨⟨_, _, (o11.setDoc t11).setDoc s12⟩, by rw [cell_of q13]; rfl, b12.trans ((Kp.of_set (P := fun j _ => j = w.heap.size + 2) s12 _ rfl).below (fun j t e => by have e1 : j = w.heap.size + 2 := e; omega) b12.size)⟩)
    clear H11 H10 o10
    generalize hw12 : w11.setCell ⟨w8.heap.size, 0, none⟩ (.slice xa (D.length + 1) xc) = w12 at *
    clear n0 n1 n2 n3 n4 n5 n6 n7 p0 o9 r9
    go_region
    all_goals
      have c0 : (w12.setCell ⟨w.heap.size + 2, 0, none⟩ (.slice xa (D.length + 1) xc)).drew.cell? ⟨w.heap.size + 2, 0, none⟩ = some (.slice xa (D.length + 1) xc) := HO.out.2.1
      have c1 := HO.out.2.1
      go_wp2
      exact bodyPost_ret (v := .tuple #[.agg #[.slice xa (D.length + 1) xc], .int .i64 (D.length : Int), .int .i64 0]) (by simp [results, Try.results29, go_sem, c0]) rfl ⟨_, by rw [HE.out], by rw [HE.out]; exact HO.out.1.below (Below.refl _ _).drew, HO.out.2.2.drew⟩

end Go.Proofs.Ytcmbkhlnigbooaa.Dm
