/- The program's own: Make. -/
import Derived.Test.YtcmbkhlnigbooaaPdY
import Derived.Test.YtcmbkhlnigbooaaPeBC
namespace Go.Proofs.Ytcmbkhlnigbooaa.Dm
open Go.RowKit Go.Shelf

theorem mayN_alone (x : Nd) : mayN { x with p := -1, c := [] } = mayM x := by
  unfold mayN mayM bareM
  simp
theorem cap_of {w : World} {B size n : Nat} {e : TypeId} {a : Option Addr} {c : Nat} {xs : List Value} (h : w.ownsRow B e size (.slice a n c) n xs) : n ≤ c := by
  rcases h.2 with ⟨h, hn⟩ | ⟨g, cap, cur, h, _, _, hc, _⟩
  · omega
  · cases h
    exact hc
set_option maxRecDepth 100000 in
set_option maxHeartbeats 8000000 in
theorem makeP_hid (D : List Nd) (hf : FitD D) (x : Nd) (hx : FitN x) : Hid (∀ W sl A K av kv, DocIn W sl D A K → Capd D A → AtIn W av x.a → IntIn W kv x.c → Calls Try.prog 28 #[.agg #[sl], nodeV x av kv] W fun e w' => ∃ sl', e = .returned (.tuple #[.agg #[sl'], .int .i64 (makeR D x).2.1, .int .i64 (makeR D x).2.2]) ∧ OwnX w' W.heap.size sl' (makeR D x).1 ∧ Below W.heap.size W w') := Lib.hid fun w sl A K av kv hd hcap ha hk => by
  obtain ⟨a, c, rfl⟩ := hd.form
  obtain ⟨aa, ac, rfl⟩ := ha.form
  obtain ⟨ka, kc, rfl⟩ := hk.form
  have CK := checkP_hid D hf
  have CX := changedNode_hid x hx
  have CM := mayBe_hid { x with p := -1, c := [] } (by have := hx.2.2.1; exact this)
  rw [mayN_alone] at CM
  have hfl := hf.1
  obtain ⟨N, hN⟩ := text_of x.n
  obtain ⟨T, hT⟩ := text_of x.d
  have CG1 := fun va vc C w0 hC Ab hab ra => makeChg D hfl (x := x) (N := N) (T := T) (hN := hN) (hT := hT) (va := va) (vc := vc) (C := C) (w0 := w0) (hC := hC) (Ab := Ab) (hab := hab) (ra := ra)
  unfold nodeV at CX CM ⊢
  dsimp only at CX CM ⊢
  rw [strV_of hN, strV_of hT] at CX CM ⊢
  have E1 := fun h => make_e1 (D := D) (x := x) h
  have E2 := fun h h2 => make_e2 (D := D) (x := x) h h2
  have E3 := fun h h2 h3 h4 => make_e3 (D := D) (x := x) h h2 h3 h4
  have E4 := fun h h2 h3 h4 => make_ok (D := D) (x := x) h h2 h3 h4
  have HEE := Lib.hid (And.intro E1 (And.intro E2 (And.intro E3 E4)))
  have HG := Lib.hid CG1
  clear E1 E2 E3 E4 CG1 hN hT hx
  generalize x.k = xk at CX CM HEE HG ⊢
  generalize x.p = xp at CX ⊢
  generalize x.b = xb at CX CM HG ⊢
  generalize x.s = xs at CX CM HG ⊢
  generalize mayM x = mm at CM HEE
  have hx := bxs [(.cells #[.slice a D.length c] 24), (.cells #[.int .i64 xk, .string N, .string T, .slice aa x.a.length ac, .int .i64 xp, .slice ka x.c.length kc, .bool xb, .bool xs] 42), (.cells #[.slice none 0 0] 24)] w
  generalize hw1 : List.foldl World.alloc w [(.cells #[.slice a D.length c] 24), (.cells #[.int .i64 xk, .string N, .string T, .slice aa x.a.length ac, .int .i64 xp, .slice ka x.c.length kc, .bool xb, .bool xs] 42), (.cells #[.slice none 0 0] 24)] = w1 at hx
  simp only [List.foldl_cons, List.foldl_nil] at hw1
  have H1 := Lib.hid hx
  have HD := Lib.hid hd
  have HF := Lib.hid hf
  have HC := Lib.hid hcap
  have x0 : w1.heap[w.heap.size]? = some (.cells #[.slice a D.length c] 24 (0, 0)) := H1.out.1 0 _ rfl
  have e0 := cell_of x0 0
  clear x0
  have HA := Lib.hid (And.intro ha hk)
  clear ha hk
  clear hx hd hf hcap
  go_enter Try.func28, Try.ntmps28
  go_wp2_with fail
  (refine (CK.out _ _ _ _ (HD.out.below H1.out.2) HC.out).mono ?_)
  rintro e w2 ⟨rfl, b2⟩
  have H2 := Lib.hid (H1.out.below b2)
  clear hw1 e0 CK b2 H1
  have x0 : w2.heap[w.heap.size]? = some (.cells #[.slice a D.length c] 24 (0, 0)) := H2.out.1 0 _ rfl
  have e0 := cell_of x0 0
  clear x0
  have x1 : w2.heap[w.heap.size + 1]? = some (.cells #[.int .i64 xk, .string N, .string T, .slice aa x.a.length ac, .int .i64 xp, .slice ka x.c.length kc, .bool xb, .bool xs] 42 (0, 0)) := H2.out.1 1 _ rfl
  have n0 := cell_of x1 0
  have n1 := cell_of x1 1
  have n2 := cell_of x1 2
  have n3 := cell_of x1 3
  have n4 := cell_of x1 4
  have n5 := cell_of x1 5
  have n6 := cell_of x1 6
  have n7 := cell_of x1 7
  clear x1
  by_cases hc : checkM D = 0
  case neg =>
    have HE := Lib.hid (HEE.out.1 hc)
    have g1 : (checkM D != 0) = true := by rw [bne_iff_ne]; exact hc
    have xr : w2.heap[w.heap.size + 1 + 1]? = some (.cells #[.slice none 0 0] 24 (0, 0)) := H2.out.1 2 _ rfl
    have o2 := open_of xr 0
    have r2 := cell_of xr 0
    have q2 := heap_setCell_same w2 (w.heap.size + 1 + 1) 0 _ _ _ (.slice none 0 0) xr
    have c0 : (w2.setCell ⟨w.heap.size + 1 + 1, 0, none⟩ (.slice none 0 0)).cell? ⟨w.heap.size + 1 + 1, 0, none⟩ = some (.slice none 0 0) := by rw [cell_of q2]; rfl
    have HB : Hid (Below w.heap.size w (w2.setCell ⟨w.heap.size + 1 + 1, 0, none⟩ (.slice none 0 0))) := Lib.hid (H2.out.2.setCell (p := ⟨w.heap.size + 1 + 1, 0, none⟩) (by show w.heap.size ≤ w.heap.size + 1 + 1; omega) _)
    clear q2 xr
    go_wp2
    exact bodyPost_ret (v := .tuple #[.agg #[.slice none 0 0], .int .i64 0, .int .i64 (checkM D)]) (by simp [results, Try.results28, go_sem, c0]) rfl ⟨_, by rw [HE.out], by rw [HE.out]; exact ⟨fun _ => .slice none 0 0, fun _ => .slice none 0 0, OwnD.nil _ _ _ _⟩, HB.out⟩
  have hc0 := hc
  have hR := check_right.1 hc0
  have hone := hR.one
  have hlen := hR.len
  rw [hc]
  clear hR
  go_wp2_with fail
  (refine (CX.out _ _ _ (HA.out.1.below H2.out.2) (HA.out.2.below H2.out.2)).mono ?_)
  rintro e w3 ⟨av', rfl, ra, b3⟩
  obtain ⟨va, vc, rfl⟩ := row_form ra
  have H3 := H2.out.below b3
  have al := (Below.refl w3.heap.size w3).alloc (Nat.le_refl _) (.cells #[.int .i64 xk, .string N, .string T, .slice va x.a.length vc, .int .i64 (-1), .slice none 0 0, .bool xb, .bool xs] 42)
  have hb4 := new_block w3 (.cells #[.int .i64 xk, .string N, .string T, .slice va x.a.length vc, .int .i64 (-1), .slice none 0 0, .bool xb, .bool xs] 42)
  have H4 := Lib.hid (H3.below al)
  have hs3 : w.heap.size ≤ w2.heap.size := H2.out.2.size
  have R4 := Lib.hid (row_low (row_below ra al) hs3)
  have hlt3 : w.heap.size + 1 + 1 < w3.heap.size := lt_of_block (H3.1 2 _ rfl)
  have hcv : CapV (.slice va x.a.length vc) := cap_of ra
  generalize hw4 : w3.alloc (.cells #[.int .i64 xk, .string N, .string T, .slice va x.a.length vc, .int .i64 (-1), .slice none 0 0, .bool xb, .bool xs] 42) = w4 at al hb4 H4 R4
  obtain ⟨Ab, hAb⟩ : ∃ Ab, w3.heap.size = Ab := ⟨_, rfl⟩
  rw [hAb] at hb4 hlt3
  have HB4 := Lib.hid hb4
  have m0 := cell_of hb4 0
  have m1 := cell_of hb4 1
  have m2 := cell_of hb4 2
  have m3 := cell_of hb4 3
  have m4 := cell_of hb4 4
  have m5 := cell_of hb4 5
  have m6 := cell_of hb4 6
  have m7 := cell_of hb4 7
  have hCMx := Lib.hid (CM.out w4 (.slice va x.a.length vc) (.slice none 0 0) (RowIn.of_own R4.out (atC_one _)) (IntIn.nil w4 none 0) hcv)
  clear b3 ra H3 al hb4 H2 e0 n0 n1 n2 n3 n4 n5 n6 n7 CX CM HA hcv
  have x0 : w4.heap[w.heap.size]? = some (.cells #[.slice a D.length c] 24 (0, 0)) := H4.out.1 0 _ rfl
  have e0 := cell_of x0 0
  clear x0
  by_cases hk1 : xk = 1
  · subst hk1
    have HE := Lib.hid (HEE.out.2.1 hc0 (.inr rfl))
    clear HEE HG
    have xr : w4.heap[w.heap.size + 1 + 1]? = some (.cells #[.slice none 0 0] 24 (0, 0)) := H4.out.1 2 _ rfl
    have o2 := open_of xr 0
    have r2 := cell_of xr 0
    have q2 := heap_setCell_same w4 (w.heap.size + 1 + 1) 0 _ _ _ (.slice none 0 0) xr
    have c0 : (w4.setCell ⟨w.heap.size + 1 + 1, 0, none⟩ (.slice none 0 0)).cell? ⟨w.heap.size + 1 + 1, 0, none⟩ = some (.slice none 0 0) := by rw [cell_of q2]; rfl
    have HB : Hid (Below w.heap.size w (w4.setCell ⟨w.heap.size + 1 + 1, 0, none⟩ (.slice none 0 0))) := Lib.hid (H4.out.2.setCell (p := ⟨w.heap.size + 1 + 1, 0, none⟩) (by show w.heap.size ≤ w.heap.size + 1 + 1; omega) _)
    clear q2 xr
    go_wp2
    exact bodyPost_ret (v := .tuple #[.agg #[.slice none 0 0], .int .i64 0, .int .i64 1]) (by simp [results, Try.results28, go_sem, c0]) rfl ⟨_, by rw [HE.out], by rw [HE.out]; exact ⟨fun _ => .slice none 0 0, fun _ => .slice none 0 0, OwnD.nil _ _ _ _⟩, HB.out⟩
  have hkb : (xk == 1) = false := beq_eq_false_iff_ne.2 hk1
  go_wp2_with fail
  (refine hCMx.out.mono ?_)
  rintro e w5 ⟨rfl, b5⟩
  have H5 := Lib.hid (H4.out.below b5)
  have hab5 := (b5.block _ (lt_of_block HB4.out)).trans HB4.out
  have R5 := Lib.hid (row_below R4.out b5)
  have HA5 := Lib.hid hab5
  clear H4 b5 hCMx e0 m0 m1 m2 m3 m4 m5 m6 m7 HB4 R4 hw4 hab5
  have x0 : w5.heap[w.heap.size]? = some (.cells #[.slice a D.length c] 24 (0, 0)) := H5.out.1 0 _ rfl
  have e0 := cell_of x0 0
  clear x0
  cases mm with
  | false =>
    have HE := Lib.hid (HEE.out.2.1 hc0 (.inl rfl))
    clear HEE HG
    have xr : w5.heap[w.heap.size + 1 + 1]? = some (.cells #[.slice none 0 0] 24 (0, 0)) := H5.out.1 2 _ rfl
    have o2 := open_of xr 0
    have r2 := cell_of xr 0
    have q2 := heap_setCell_same w5 (w.heap.size + 1 + 1) 0 _ _ _ (.slice none 0 0) xr
    have c0 : (w5.setCell ⟨w.heap.size + 1 + 1, 0, none⟩ (.slice none 0 0)).cell? ⟨w.heap.size + 1 + 1, 0, none⟩ = some (.slice none 0 0) := by rw [cell_of q2]; rfl
    have HB : Hid (Below w.heap.size w (w5.setCell ⟨w.heap.size + 1 + 1, 0, none⟩ (.slice none 0 0))) := Lib.hid (H5.out.2.setCell (p := ⟨w.heap.size + 1 + 1, 0, none⟩) (by show w.heap.size ≤ w.heap.size + 1 + 1; omega) _)
    clear q2 xr
    go_wp2
    exact bodyPost_ret (v := .tuple #[.agg #[.slice none 0 0], .int .i64 0, .int .i64 1]) (by simp [results, Try.results28, go_sem, c0]) rfl ⟨_, by rw [HE.out], by rw [HE.out]; exact ⟨fun _ => .slice none 0 0, fun _ => .slice none 0 0, OwnD.nil _ _ _ _⟩, HB.out⟩
  | true =>
    by_cases h3 : D.length = 300
    · have hz : ((D.length : Int) == 300) = true := by rw [h3]; rfl
      have HE := Lib.hid (HEE.out.2.2.1 hc0 (by trivial) hk1 (by omega))
      clear HEE HG
      have xr : w5.heap[w.heap.size + 1 + 1]? = some (.cells #[.slice none 0 0] 24 (0, 0)) := H5.out.1 2 _ rfl
      have o2 := open_of xr 0
      have r2 := cell_of xr 0
      have q2 := heap_setCell_same w5 (w.heap.size + 1 + 1) 0 _ _ _ (.slice none 0 0) xr
      have c0 : (w5.setCell ⟨w.heap.size + 1 + 1, 0, none⟩ (.slice none 0 0)).cell? ⟨w.heap.size + 1 + 1, 0, none⟩ = some (.slice none 0 0) := by rw [cell_of q2]; rfl
      have HB : Hid (Below w.heap.size w (w5.setCell ⟨w.heap.size + 1 + 1, 0, none⟩ (.slice none 0 0))) := Lib.hid (H5.out.2.setCell (p := ⟨w.heap.size + 1 + 1, 0, none⟩) (by show w.heap.size ≤ w.heap.size + 1 + 1; omega) _)
      clear q2 xr
      go_wp2
      exact bodyPost_ret (v := .tuple #[.agg #[.slice none 0 0], .int .i64 0, .int .i64 2]) (by simp [results, Try.results28, go_sem, c0]) rfl ⟨_, by rw [HE.out], by rw [HE.out]; exact ⟨fun _ => .slice none 0 0, fun _ => .slice none 0 0, OwnD.nil _ _ _ _⟩, HB.out⟩
    have hz : ((D.length : Int) == 300) = false := beq_eq_false_iff_ne.2 (by omega)
    have HE := Lib.hid (HEE.out.2.2.2 hc0 (by trivial) hk1 (by omega))
    have hmf : ∀ (fn : Fn) (first cap : Array Value) (w : World), (Instr.makeFunc fn first cap).run Try.prog w = .ok (.func fn first cap) w := fun _ _ _ _ => rfl
    have hws5 : w.heap.size ≤ w5.heap.size := H5.out.2.size
    have CG := Lib.hid ((changedDocC_hid w.heap.size D (makeM D x) HF.out (by omega) 61 #[.pointer (some ⟨Ab, 0, none⟩)] (enters_of Try.func61 (by kernel_rfl) rfl)).out w5 _ A K (HD.out.below H5.out.2) (HG.out va vc w.heap.size w5 hws5 Ab HA5.out R5.out (by omega)))
    clear HG HEE HA5 R5
    go_wp2_with fail
    (refine CG.out.mono ?_)
    rintro e w6 ⟨sl4, rfl, o4, b4⟩
    obtain ⟨a4, c4, rfl⟩ := o4.form
    rw [make_len] at o4
    rw [make_len]
    have H6 := H5.out.below b4
    have al7 := (Below.refl w6.heap.size w6).alloc (Nat.le_refl _) (.cells #[.slice a4 (D.length + 1) c4] 24)
    have hb7 := new_block w6 (.cells #[.slice a4 (D.length + 1) c4] 24)
    have H7 := Lib.hid (H6.below al7)
    have o7 := o4.below al7
    generalize hw7 : w6.alloc (.cells #[.slice a4 (D.length + 1) c4] 24) = w7 at al7 hb7 H7 o7
    obtain ⟨Mb, hMb⟩ : ∃ Mb, w6.heap.size = Mb := ⟨_, rfl⟩
    rw [hMb] at hb7
    have y0 := cell_of hb7 0
    have HO7 := Lib.hid o7
    clear CG H5 H6 b4 o4 al7 hb7 o7 e0
    go_wp2_with fail
    clear hw7
    have x0 : w7.heap[w.heap.size]? = some (.cells #[.slice a D.length c] 24 (0, 0)) := H7.out.1 0 _ rfl
    have e0 := cell_of x0 0
    clear x0
    have xr : w7.heap[w.heap.size + 1 + 1]? = some (.cells #[.slice none 0 0] 24 (0, 0)) := H7.out.1 2 _ rfl
    have o2 := open_of xr 0
    have r2 := cell_of xr 0
    have q2 := heap_setCell_same w7 (w.heap.size + 1 + 1) 0 _ _ _ (.slice a4 (D.length + 1) c4) xr
    have HO : Hid (OwnX (w7.setCell ⟨w.heap.size + 1 + 1, 0, none⟩ (.slice a4 (D.length + 1) c4)) w.heap.size (.slice a4 (D.length + 1) c4) (makeM D x) ∧ (w7.setCell ⟨w.heap.size + 1 + 1, 0, none⟩ (.slice a4 (D.length + 1) c4)).cell? ⟨w.heap.size + 1 + 1, 0, none⟩ = some (.slice a4 (D.length + 1) c4) ∧ Below w.heap.size w (w7.setCell ⟨w.heap.size + 1 + 1, 0, none⟩ (.slice a4 (D.length + 1) c4))) := Lib.hid ⟨HO7.out.setDoc xr, by rw [cell_of q2]; rfl, H7.out.2.setCell (p := ⟨w.heap.size + 1 + 1, 0, none⟩) (by show w.heap.size ≤ w.heap.size + 1 + 1; omega) _⟩
    clear xr q2 HO7 H7
    go_region
    all_goals
      have c0 : (w7.setCell ⟨w.heap.size + 1 + 1, 0, none⟩ (.slice a4 (D.length + 1) c4)).drew.cell? ⟨w.heap.size + 1 + 1, 0, none⟩ = some (.slice a4 (D.length + 1) c4) := HO.out.2.1
      have c1 := HO.out.2.1
      go_wp2
      exact bodyPost_ret (v := .tuple #[.agg #[.slice a4 (D.length + 1) c4], .int .i64 (D.length : Int), .int .i64 0]) (by simp [results, Try.results28, go_sem, c0]) rfl ⟨_, by rw [HE.out], by rw [HE.out]; exact HO.out.1.below (Below.refl _ _).drew, HO.out.2.2.drew⟩

end Go.Proofs.Ytcmbkhlnigbooaa.Dm
