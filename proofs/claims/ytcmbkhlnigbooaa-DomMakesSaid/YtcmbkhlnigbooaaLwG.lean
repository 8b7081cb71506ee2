/- The law's own: DomRight. -/
import Derived.Test.YtcmbkhlnigbooaaLwE
namespace Go.Proofs.Ytcmbkhlnigbooaa.Dm
open Go.RowKit

/-- A variable that holds a node. -/
def NX (w : World) (R : Nat) (x : Nd) (N T : ByteArray) (av kv : Value) : Prop := w.heap[R]? = some (.cells #[.int .i64 x.k, .string N, .string T, av, .int .i64 x.p, kv, .bool x.b, .bool x.s] 42 (0, 0)) ∧ AtIn w av x.a ∧ IntIn w kv x.c
theorem NX.below {w w' : World} {R : Nat} {x : Nd} {N T : ByteArray} {av kv : Value} (h : NX w R x N T av kv) (b : Below w.heap.size w w') : NX w' R x N T av kv := ⟨(b.block _ (lt_of_block h.1)).trans h.1, h.2.1.below b, h.2.2.below b⟩
theorem gBigNode (x : Nd) (ha : x.a.length ≤ 9223372036854775807) (hc : x.c.length ≤ 9223372036854775807) : Hid (∀ W av kv, AtIn W av x.a → IntIn W kv x.c → Calls Try.prog 26 #[nodeV x av kv] W (BigR (FitS x) W)) := bigNode_hid x ha hc
theorem FitN.txtN {x : Nd} (h : FitN x) : TxtN x := ⟨h.1, h.2.1, h.2.2.1, h.2.2.2.2⟩
set_option maxRecDepth 100000 in
set_option maxHeartbeats 8000000 in
theorem right_hid (D : List Nd) (hl : D.length ≤ 9223372036854775807) (hk : ∀ x ∈ D, x.a.length ≤ 9223372036854775807 ∧ x.c.length ≤ 9223372036854775807) (y : Nd) (hya : y.a.length ≤ 9223372036854775807) (hyc : y.c.length ≤ 9223372036854775807) (i k : Int) (nm vl : ByteArray) : Hid (∀ W sl av kv, DocG W sl D → AtIn W av y.a → IntIn W kv y.c → Calls Try.prog 7 #[.agg #[sl], nodeV y av kv, .int .i64 i, .int .i64 k, .string nm, .string vl] W fun e w' => e = .returned (.bool true) ∧ Below W.heap.size W w') := Lib.hid fun w sl av kv hd hat hkd => by
  have CB := gBig hl hk
  obtain ⟨a, c, rfl⟩ := hd.form
  obtain ⟨aa, ac, rfl⟩ := hat.form
  obtain ⟨ka, kc, rfl⟩ := hkd.form
  obtain ⟨N, hN⟩ := text_of y.n
  obtain ⟨T, hT⟩ := text_of y.d
  have CLs := lays_hid
  have CBN := gBigNode y hya hyc
  unfold nodeV
  unfold nodeV at CBN
  rw [strV_of hN, strV_of hT]
  rw [strV_of hN, strV_of hT] at CBN
  have HN := Lib.hid (And.intro hN hT)
  have al := (Below.refl w.heap.size w).alloc (Nat.le_refl _) (.cells #[.slice a D.length c] 24)
  have Zd := VD.new hd
  generalize hW0 : w.alloc (.cells #[.slice a D.length c] 24) = W0 at al Zd
  obtain ⟨R0, hR0⟩ : ∃ R, W0.heap.size = R := ⟨_, rfl⟩
  have al2 := (Below.refl W0.heap.size W0).alloc (Nat.le_refl _) (.cells #[.int .i64 y.k, .string N, .string T, .slice aa y.a.length ac, .int .i64 y.p, .slice ka y.c.length kc, .bool y.b, .bool y.s] 42)
  have HB := Lib.hid (al.trans (al2.mono al.size))
  have Zn : NX (W0.alloc (.cells #[.int .i64 y.k, .string N, .string T, .slice aa y.a.length ac, .int .i64 y.p, .slice ka y.c.length kc, .bool y.b, .bool y.s] 42)) W0.heap.size y N T (.slice aa y.a.length ac) (.slice ka y.c.length kc) := ⟨new_block _ _, (hat.below al).below al2, (hkd.below al).below al2⟩
  replace Zd := Lib.hid (Zd.below al2)
  replace Zn := Lib.hid Zn
  generalize hW1 : W0.alloc (.cells #[.int .i64 y.k, .string N, .string T, .slice aa y.a.length ac, .int .i64 y.p, .slice ka y.c.length kc, .bool y.b, .bool y.s] 42) = W1 at Zd Zn HB
  clear al al2 hd hat hkd hN hT hR0
  go_enter Try.func7, Try.ntmps7
  obtain ⟨ad, cd, xd, gd⟩ := Zd.out
  have ed := cell_of xd 0
  go_wp2_with fail
  (refine (CB.out _ _ gd).mono ?_)
  rintro e w2 ⟨bg, rfl, hb, b2⟩
  clear xd gd ed
  replace Zd := Lib.hid (Zd.out.below b2)
  replace HB := Lib.hid (HB.out.trans (b2.mono HB.out.size))
  replace Zn := Lib.hid (Zn.out.below b2)
  clear b2
  cases bg with
  | true =>
    go_wp2
    exact bodyPost_ret (v := .bool true) (by simp [results, Try.results7, go_sem]) rfl ⟨rfl, HB.out⟩
  | false =>
    have HF := hb rfl
    have hf := HF.fit
    clear hb
    have zn := Zn.out
    have n0 := cell_of zn.1 0
    have n1 := cell_of zn.1 1
    have n2 := cell_of zn.1 2
    have n3 := cell_of zn.1 3
    have n4 := cell_of zn.1 4
    have n5 := cell_of zn.1 5
    have n6 := cell_of zn.1 6
    have n7 := cell_of zn.1 7
    go_wp2_with fail
    (refine (CBN.out _ _ _ zn.2.1 zn.2.2).mono ?_)
    rintro e w3 ⟨bg, rfl, hb, b3⟩
    replace Zd := Lib.hid (Zd.out.below b3)
    replace HB := Lib.hid (HB.out.trans (b3.mono HB.out.size))
    replace Zn := Lib.hid (Zn.out.below b3)
    clear b3
    clear zn n0 n1 n2 n3 n4 n5 n6 n7
    cases bg with
    | true =>
      go_wp2
      exact bodyPost_ret (v := .bool true) (by simp [results, Try.results7, go_sem]) rfl ⟨rfl, HB.out⟩
    | false =>
      have HS := hb rfl
      clear hb
      by_cases snm : (300 : Int) < (nm.size : Int)
      case pos =>
        go_wp2
        exact bodyPost_ret (v := .bool true) (by simp [results, Try.results7, go_sem]) rfl ⟨rfl, HB.out⟩
      by_cases svl : (1000 : Int) < (vl.size : Int)
      case pos =>
        go_wp2
        exact bodyPost_ret (v := .bool true) (by simp [results, Try.results7, go_sem]) rfl ⟨rfl, HB.out⟩
      have C1 := (gMake hf y HS.fit).out
      obtain ⟨E1, i1, k1, he1⟩ : ∃ E i k, makeR D y = (E, i, k) := ⟨_, _, _, rfl⟩
      unfold nodeV at C1
      rw [he1, strV_of HN.out.1, strV_of HN.out.2] at C1
      replace C1 := Lib.hid C1
      have C2 := (gPut hf i k).out
      obtain ⟨E2, k2, he2⟩ : ∃ E z, putR D i k = (E, z) := ⟨_, _, rfl⟩
      rw [he2] at C2
      replace C2 := Lib.hid C2
      have C3 := (gCut hf k).out
      obtain ⟨E3, k3, he3⟩ : ∃ E z, cutR D k = (E, z) := ⟨_, _, rfl⟩
      rw [he3] at C3
      replace C3 := Lib.hid C3
      have C4 := (gSet hf i nm vl).out
      obtain ⟨E4, k4, he4⟩ : ∃ E z, setR D i nm.data.toList vl.data.toList = (E, z) := ⟨(setR D i nm.data.toList vl.data.toList).1, (setR D i nm.data.toList vl.data.toList).2, rfl⟩
      rw [he4] at C4
      replace C4 := Lib.hid C4
      have X1 : k1 = 0 → FitD E1 ∧ checkM E1 = 0 ∧ i1 = (D.length : Int) := fun z => by
        obtain ⟨R, h1, h2, h3, h4⟩ := makeR_inv (D := D) (x := y) (by rw [he1]; exact z)
        rw [he1] at h4
        cases h4
        have R2 := R.make (x := y) h1 h2 h3
        exact ⟨R2.fit (hf.txt.make HS.fit.txtN), check_right.2 R2, rfl⟩
      have X2 : k2 = 0 → FitD E2 ∧ checkM E2 = 0 := fun z => by
        obtain ⟨p, m, _, _, R, h0, h1, h2, h3, h4, h5⟩ := putR_inv (D := D) (q := i) (n := k) (by rw [he2]; exact z)
        rw [he2] at h5
        cases h5
        have R2 := R.put h0 h1 h2 h3 h4
        exact ⟨R2.fit (hf.txt.put _ _), check_right.2 R2⟩
      have X3 : k3 = 0 → FitD E3 ∧ checkM E3 = 0 := fun z => by
        obtain ⟨m, _, R, h0, h1, h5⟩ := cutR_inv (D := D) (n := k) (by rw [he3]; exact z)
        rw [he3] at h5
        cases h5
        have R2 := R.cut h0
        exact ⟨R2.fit (hf.txt.cut _), check_right.2 R2⟩
      have X4 : k4 = 0 → FitD E4 ∧ checkM E4 = 0 := fun z => by
        obtain ⟨m, _, R, h0, h1, h5⟩ := setR_inv (D := D) (n := i) (nm := nm.data.toList) (v := vl.data.toList) (by rw [he4]; exact z)
        rw [he4] at h5
        cases h5
        have R2 := R.set (name := nm.data.toList) (v := vl.data.toList) h1
        exact ⟨R2.fit (HF.set _ (by rw [lsize]; omega) (by rw [lsize]; omega)), check_right.2 R2⟩
      replace X1 := Lib.hid X1
      replace X2 := Lib.hid X2
      replace X3 := Lib.hid X3
      replace X4 := Lib.hid X4
      have CW : Hid (∀ W sl, DocG W sl newM → Calls Try.prog 15 #[.agg #[sl]] W fun e w' => e = .returned (.int .i64 0) ∧ Below W.heap.size W w') := by
        have h := (gCheck fit_new).out
        rw [chk0] at h
        exact Lib.hid h
      clear he1 he2 he3 he4 CB CBN
      obtain ⟨ad, cd, xd, gd⟩ := Zd.out
      have ed := cell_of xd 0
      have zn := Zn.out
      have n0 := cell_of zn.1 0
      have n1 := cell_of zn.1 1
      have n2 := cell_of zn.1 2
      have n3 := cell_of zn.1 3
      have n4 := cell_of zn.1 4
      have n5 := cell_of zn.1 5
      have n6 := cell_of zn.1 6
      have n7 := cell_of zn.1 7
      go_wp2_with fail
      (refine (C1.out _ _ _ _ gd zn.2.1 zn.2.2).mono ?_)
      rintro e w4 ⟨a4, c4, rfl, o4, b4⟩
      replace Zd := Lib.hid (Zd.out.below b4)
      replace HB := Lib.hid (HB.out.trans (b4.mono HB.out.size))
      replace Zn := Lib.hid (Zn.out.below b4)
      clear b4
      clear zn n0 n1 n2 n3 n4 n5 n6 n7
      clear xd gd ed
      have al := (Below.refl w4.heap.size w4).alloc (Nat.le_refl _) (.cells #[.slice a4 E1.length c4] 24)
      have Za := Lib.hid (VD.new (OwnX.g o4))
      replace Zd := Lib.hid (Zd.out.below al)
      replace Zn := Lib.hid (Zn.out.below al)
      replace HB := Lib.hid (HB.out.trans (al.mono HB.out.size))
      generalize hW4 : w4.alloc (.cells #[.slice a4 E1.length c4] 24) = W4 at al Za Zd Zn HB
      clear al o4
      replace Zn := Lib.hid Zn.out
      clear Zn
      obtain ⟨ad, cd, xd, gd⟩ := Zd.out
      have ed := cell_of xd 0
      go_wp2_with fail
      (refine (C2.out _ _ gd).mono ?_)
      rintro e w5 ⟨a5, c5, rfl, o5, b5⟩
      clear xd gd ed
      replace Zd := Lib.hid (Zd.out.below b5)
      replace Za := Lib.hid (Za.out.below b5)
      replace HB := Lib.hid (HB.out.trans (b5.mono HB.out.size))
      clear b5
      have al := (Below.refl w5.heap.size w5).alloc (Nat.le_refl _) (.cells #[.slice a5 E2.length c5] 24)
      have Zb := Lib.hid (VD.new (OwnX.g o5))
      replace Zd := Lib.hid (Zd.out.below al)
      replace Za := Lib.hid (Za.out.below al)
      replace HB := Lib.hid (HB.out.trans (al.mono HB.out.size))
      generalize hW5 : w5.alloc (.cells #[.slice a5 E2.length c5] 24) = W5 at al Zb Zd Za HB
      clear al o5
      obtain ⟨ad, cd, xd, gd⟩ := Zd.out
      have ed := cell_of xd 0
      go_wp2_with fail
      (refine (C3.out _ _ gd).mono ?_)
      rintro e w6 ⟨a6, c6, rfl, o6, b6⟩
      clear xd gd ed
      replace Zd := Lib.hid (Zd.out.below b6)
      replace Za := Lib.hid (Za.out.below b6)
      replace Zb := Lib.hid (Zb.out.below b6)
      replace HB := Lib.hid (HB.out.trans (b6.mono HB.out.size))
      clear b6
      have al := (Below.refl w6.heap.size w6).alloc (Nat.le_refl _) (.cells #[.slice a6 E3.length c6] 24)
      have Zc := Lib.hid (VD.new (OwnX.g o6))
      replace Zd := Lib.hid (Zd.out.below al)
      replace Za := Lib.hid (Za.out.below al)
      replace Zb := Lib.hid (Zb.out.below al)
      replace HB := Lib.hid (HB.out.trans (al.mono HB.out.size))
      generalize hW6 : w6.alloc (.cells #[.slice a6 E3.length c6] 24) = W6 at al Zc Zd Za Zb HB
      clear al o6
      obtain ⟨ad, cd, xd, gd⟩ := Zd.out
      have ed := cell_of xd 0
      go_wp2_with fail
      (refine (C4.out _ _ gd).mono ?_)
      rintro e w7 ⟨a7, c7, rfl, o7, b7⟩
      clear xd gd ed
      replace Zd := Lib.hid (Zd.out.below b7)
      replace Za := Lib.hid (Za.out.below b7)
      replace Zb := Lib.hid (Zb.out.below b7)
      replace Zc := Lib.hid (Zc.out.below b7)
      replace HB := Lib.hid (HB.out.trans (b7.mono HB.out.size))
      clear b7
      have al := (Below.refl w7.heap.size w7).alloc (Nat.le_refl _) (.cells #[.slice a7 E4.length c7] 24)
      have Zx := Lib.hid (VD.new (OwnX.g o7))
      replace Zd := Lib.hid (Zd.out.below al)
      replace Za := Lib.hid (Za.out.below al)
      replace Zb := Lib.hid (Zb.out.below al)
      replace Zc := Lib.hid (Zc.out.below al)
      replace HB := Lib.hid (HB.out.trans (al.mono HB.out.size))
      generalize hW7 : w7.alloc (.cells #[.slice a7 E4.length c7] 24) = W7 at al Zx Zd Za Zb Zc HB
      clear al o7
      clear C1 C2 C3 C4
      by_cases z1 : k1 = 0
      · subst z1
        obtain ⟨f1, q1, rfl⟩ := X1.out rfl
        have CC := (gCheck f1).out
        rw [q1] at CC
        replace CC := Lib.hid CC
        obtain ⟨aa, ca, xa, ga⟩ := Za.out
        have ea := cell_of xa 0
        go_wp2_with fail
        (refine (CC.out _ _ ga).mono ?_)
        rintro e w8 ⟨rfl, b8⟩
        clear xa ga ea
        replace Zd := Lib.hid (Zd.out.below b8)
        replace Za := Lib.hid (Za.out.below b8)
        replace Zb := Lib.hid (Zb.out.below b8)
        replace Zc := Lib.hid (Zc.out.below b8)
        replace Zx := Lib.hid (Zx.out.below b8)
        replace HB := Lib.hid (HB.out.trans (b8.mono HB.out.size))
        clear b8
        clear CC
        by_cases z2 : k2 = 0
        · subst z2
          obtain ⟨f2, q2⟩ := X2.out rfl
          have CC := (gCheck f2).out
          rw [q2] at CC
          replace CC := Lib.hid CC
          obtain ⟨ad, cd, xd, gd⟩ := Zd.out
          have ed := cell_of xd 0
          obtain ⟨ab, cb, xb, gb⟩ := Zb.out
          have eb := cell_of xb 0
          go_wp2_with fail
          (refine (CC.out _ _ gb).mono ?_)
          rintro e w9 ⟨rfl, b9⟩
          clear xd gd ed xb gb eb
          replace Zd := Lib.hid (Zd.out.below b9)
          replace Za := Lib.hid (Za.out.below b9)
          replace Zb := Lib.hid (Zb.out.below b9)
          replace Zc := Lib.hid (Zc.out.below b9)
          replace Zx := Lib.hid (Zx.out.below b9)
          replace HB := Lib.hid (HB.out.trans (b9.mono HB.out.size))
          clear b9
          clear CC
          go_wp2_with fail
          (refine (CLs.out _).mono ?_)
          rintro e w10 ⟨rfl, b10⟩
          replace Zd := Lib.hid (Zd.out.below b10)
          replace Za := Lib.hid (Za.out.below b10)
          replace Zb := Lib.hid (Zb.out.below b10)
          replace Zc := Lib.hid (Zc.out.below b10)
          replace Zx := Lib.hid (Zx.out.below b10)
          replace HB := Lib.hid (HB.out.trans (b10.mono HB.out.size))
          clear b10
          go_wp2_with fail
          (refine (newP_hid.out _).mono ?_)
          rintro e w11 ⟨sl11, rfl, o11, b11⟩
          replace Zd := Lib.hid (Zd.out.below b11)
          replace Za := Lib.hid (Za.out.below b11)
          replace Zb := Lib.hid (Zb.out.below b11)
          replace Zc := Lib.hid (Zc.out.below b11)
          replace Zx := Lib.hid (Zx.out.below b11)
          replace HB := Lib.hid (HB.out.trans (b11.mono HB.out.size))
          clear b11
          obtain ⟨an, cn, rfl⟩ := o11.form
          have Gn := OwnX.g o11
          clear o11
          go_wp2_with fail
          (refine (CW.out _ _ Gn).mono ?_)
          rintro e w12 ⟨rfl, b12⟩
          replace Zd := Lib.hid (Zd.out.below b12)
          replace Za := Lib.hid (Za.out.below b12)
          replace Zb := Lib.hid (Zb.out.below b12)
          replace Zc := Lib.hid (Zc.out.below b12)
          replace Zx := Lib.hid (Zx.out.below b12)
          replace HB := Lib.hid (HB.out.trans (b12.mono HB.out.size))
          clear b12
          clear Gn
          by_cases z3 : k3 = 0
          · subst z3
            obtain ⟨f3, q3⟩ := X3.out rfl
            have CC := (gCheck f3).out
            rw [q3] at CC
            replace CC := Lib.hid CC
            obtain ⟨ac, cc, xc, gc⟩ := Zc.out
            have ec := cell_of xc 0
            go_wp2_with fail
            (refine (CC.out _ _ gc).mono ?_)
            rintro e w13 ⟨rfl, b13⟩
            clear xc gc ec
            replace Zd := Lib.hid (Zd.out.below b13)
            replace Za := Lib.hid (Za.out.below b13)
            replace Zb := Lib.hid (Zb.out.below b13)
            replace Zc := Lib.hid (Zc.out.below b13)
            replace Zx := Lib.hid (Zx.out.below b13)
            replace HB := Lib.hid (HB.out.trans (b13.mono HB.out.size))
            clear b13
            clear CC
            by_cases z4 : k4 = 0
            · subst z4
              obtain ⟨f4, q4⟩ := X4.out rfl
              have CC := (gCheck f4).out
              rw [q4] at CC
              replace CC := Lib.hid CC
              obtain ⟨ax, cx, xx, gx⟩ := Zx.out
              have ex := cell_of xx 0
              go_wp2_with fail
              (refine (CC.out _ _ gx).mono ?_)
              rintro e w14 ⟨rfl, b14⟩
              clear xx gx ex
              replace Zd := Lib.hid (Zd.out.below b14)
              replace Za := Lib.hid (Za.out.below b14)
              replace Zb := Lib.hid (Zb.out.below b14)
              replace Zc := Lib.hid (Zc.out.below b14)
              replace Zx := Lib.hid (Zx.out.below b14)
              replace HB := Lib.hid (HB.out.trans (b14.mono HB.out.size))
              clear b14
              clear CC
              go_wp2
              exact bodyPost_ret (v := .bool true) (by simp [results, Try.results7, go_sem]) rfl ⟨rfl, HB.out⟩
            · skip
              go_wp2
              exact bodyPost_ret (v := .bool true) (by simp [results, Try.results7, go_sem]) rfl ⟨rfl, HB.out⟩
          · skip
            by_cases z4 : k4 = 0
            · subst z4
              obtain ⟨f4, q4⟩ := X4.out rfl
              have CC := (gCheck f4).out
              rw [q4] at CC
              replace CC := Lib.hid CC
              obtain ⟨ax, cx, xx, gx⟩ := Zx.out
              have ex := cell_of xx 0
              go_wp2_with fail
              (refine (CC.out _ _ gx).mono ?_)
              rintro e w13 ⟨rfl, b13⟩
              clear xx gx ex
              replace Zd := Lib.hid (Zd.out.below b13)
              replace Za := Lib.hid (Za.out.below b13)
              replace Zb := Lib.hid (Zb.out.below b13)
              replace Zc := Lib.hid (Zc.out.below b13)
              replace Zx := Lib.hid (Zx.out.below b13)
              replace HB := Lib.hid (HB.out.trans (b13.mono HB.out.size))
              clear b13
              clear CC
              go_wp2
              exact bodyPost_ret (v := .bool true) (by simp [results, Try.results7, go_sem]) rfl ⟨rfl, HB.out⟩
            · skip
              go_wp2
              exact bodyPost_ret (v := .bool true) (by simp [results, Try.results7, go_sem]) rfl ⟨rfl, HB.out⟩
        · skip
          obtain ⟨ad, cd, xd, gd⟩ := Zd.out
          have ed := cell_of xd 0
          go_wp2_with fail
          (refine (CLs.out _).mono ?_)
          rintro e w9 ⟨rfl, b9⟩
          clear xd gd ed
          replace Zd := Lib.hid (Zd.out.below b9)
          replace Za := Lib.hid (Za.out.below b9)
          replace Zb := Lib.hid (Zb.out.below b9)
          replace Zc := Lib.hid (Zc.out.below b9)
          replace Zx := Lib.hid (Zx.out.below b9)
          replace HB := Lib.hid (HB.out.trans (b9.mono HB.out.size))
          clear b9
          go_wp2_with fail
          (refine (newP_hid.out _).mono ?_)
          rintro e w10 ⟨sl10, rfl, o10, b10⟩
          replace Zd := Lib.hid (Zd.out.below b10)
          replace Za := Lib.hid (Za.out.below b10)
          replace Zb := Lib.hid (Zb.out.below b10)
          replace Zc := Lib.hid (Zc.out.below b10)
          replace Zx := Lib.hid (Zx.out.below b10)
          replace HB := Lib.hid (HB.out.trans (b10.mono HB.out.size))
          clear b10
          obtain ⟨an, cn, rfl⟩ := o10.form
          have Gn := OwnX.g o10
          clear o10
          go_wp2_with fail
          (refine (CW.out _ _ Gn).mono ?_)
          rintro e w11 ⟨rfl, b11⟩
          replace Zd := Lib.hid (Zd.out.below b11)
          replace Za := Lib.hid (Za.out.below b11)
          replace Zb := Lib.hid (Zb.out.below b11)
          replace Zc := Lib.hid (Zc.out.below b11)
          replace Zx := Lib.hid (Zx.out.below b11)
          replace HB := Lib.hid (HB.out.trans (b11.mono HB.out.size))
          clear b11
          clear Gn
          by_cases z3 : k3 = 0
          · subst z3
            obtain ⟨f3, q3⟩ := X3.out rfl
            have CC := (gCheck f3).out
            rw [q3] at CC
            replace CC := Lib.hid CC
            obtain ⟨ac, cc, xc, gc⟩ := Zc.out
            have ec := cell_of xc 0
            go_wp2_with fail
            (refine (CC.out _ _ gc).mono ?_)
            rintro e w12 ⟨rfl, b12⟩
            clear xc gc ec
            replace Zd := Lib.hid (Zd.out.below b12)
            replace Za := Lib.hid (Za.out.below b12)
            replace Zb := Lib.hid (Zb.out.below b12)
            replace Zc := Lib.hid (Zc.out.below b12)
            replace Zx := Lib.hid (Zx.out.below b12)
            replace HB := Lib.hid (HB.out.trans (b12.mono HB.out.size))
            clear b12
            clear CC
            by_cases z4 : k4 = 0
            · subst z4
              obtain ⟨f4, q4⟩ := X4.out rfl
              have CC := (gCheck f4).out
              rw [q4] at CC
              replace CC := Lib.hid CC
              obtain ⟨ax, cx, xx, gx⟩ := Zx.out
              have ex := cell_of xx 0
              go_wp2_with fail
              (refine (CC.out _ _ gx).mono ?_)
              rintro e w13 ⟨rfl, b13⟩
              clear xx gx ex
              replace Zd := Lib.hid (Zd.out.below b13)
              replace Za := Lib.hid (Za.out.below b13)
              replace Zb := Lib.hid (Zb.out.below b13)
              replace Zc := Lib.hid (Zc.out.below b13)
              replace Zx := Lib.hid (Zx.out.below b13)
              replace HB := Lib.hid (HB.out.trans (b13.mono HB.out.size))
              clear b13
              clear CC
              go_wp2
              exact bodyPost_ret (v := .bool true) (by simp [results, Try.results7, go_sem]) rfl ⟨rfl, HB.out⟩
            · skip
              go_wp2
              exact bodyPost_ret (v := .bool true) (by simp [results, Try.results7, go_sem]) rfl ⟨rfl, HB.out⟩
          · skip
            by_cases z4 : k4 = 0
            · subst z4
              obtain ⟨f4, q4⟩ := X4.out rfl
              have CC := (gCheck f4).out
              rw [q4] at CC
              replace CC := Lib.hid CC
              obtain ⟨ax, cx, xx, gx⟩ := Zx.out
              have ex := cell_of xx 0
              go_wp2_with fail
              (refine (CC.out _ _ gx).mono ?_)
              rintro e w12 ⟨rfl, b12⟩
              clear xx gx ex
              replace Zd := Lib.hid (Zd.out.below b12)
              replace Za := Lib.hid (Za.out.below b12)
              replace Zb := Lib.hid (Zb.out.below b12)
              replace Zc := Lib.hid (Zc.out.below b12)
              replace Zx := Lib.hid (Zx.out.below b12)
              replace HB := Lib.hid (HB.out.trans (b12.mono HB.out.size))
              clear b12
              clear CC
              go_wp2
              exact bodyPost_ret (v := .bool true) (by simp [results, Try.results7, go_sem]) rfl ⟨rfl, HB.out⟩
            · skip
              go_wp2
              exact bodyPost_ret (v := .bool true) (by simp [results, Try.results7, go_sem]) rfl ⟨rfl, HB.out⟩
      · skip
        by_cases z2 : k2 = 0
        · subst z2
          obtain ⟨f2, q2⟩ := X2.out rfl
          have CC := (gCheck f2).out
          rw [q2] at CC
          replace CC := Lib.hid CC
          obtain ⟨ab, cb, xb, gb⟩ := Zb.out
          have eb := cell_of xb 0
          go_wp2_with fail
          (refine (CC.out _ _ gb).mono ?_)
          rintro e w8 ⟨rfl, b8⟩
          clear xb gb eb
          replace Zd := Lib.hid (Zd.out.below b8)
          replace Za := Lib.hid (Za.out.below b8)
          replace Zb := Lib.hid (Zb.out.below b8)
          replace Zc := Lib.hid (Zc.out.below b8)
          replace Zx := Lib.hid (Zx.out.below b8)
          replace HB := Lib.hid (HB.out.trans (b8.mono HB.out.size))
          clear b8
          clear CC
          go_wp2_with fail
          (refine (CLs.out _).mono ?_)
          rintro e w9 ⟨rfl, b9⟩
          replace Zd := Lib.hid (Zd.out.below b9)
          replace Za := Lib.hid (Za.out.below b9)
          replace Zb := Lib.hid (Zb.out.below b9)
          replace Zc := Lib.hid (Zc.out.below b9)
          replace Zx := Lib.hid (Zx.out.below b9)
          replace HB := Lib.hid (HB.out.trans (b9.mono HB.out.size))
          clear b9
          go_wp2_with fail
          (refine (newP_hid.out _).mono ?_)
          rintro e w10 ⟨sl10, rfl, o10, b10⟩
          replace Zd := Lib.hid (Zd.out.below b10)
          replace Za := Lib.hid (Za.out.below b10)
          replace Zb := Lib.hid (Zb.out.below b10)
          replace Zc := Lib.hid (Zc.out.below b10)
          replace Zx := Lib.hid (Zx.out.below b10)
          replace HB := Lib.hid (HB.out.trans (b10.mono HB.out.size))
          clear b10
          obtain ⟨an, cn, rfl⟩ := o10.form
          have Gn := OwnX.g o10
          clear o10
          go_wp2_with fail
          (refine (CW.out _ _ Gn).mono ?_)
          rintro e w11 ⟨rfl, b11⟩
          replace Zd := Lib.hid (Zd.out.below b11)
          replace Za := Lib.hid (Za.out.below b11)
          replace Zb := Lib.hid (Zb.out.below b11)
          replace Zc := Lib.hid (Zc.out.below b11)
          replace Zx := Lib.hid (Zx.out.below b11)
          replace HB := Lib.hid (HB.out.trans (b11.mono HB.out.size))
          clear b11
          clear Gn
          by_cases z3 : k3 = 0
          · subst z3
            obtain ⟨f3, q3⟩ := X3.out rfl
            have CC := (gCheck f3).out
            rw [q3] at CC
            replace CC := Lib.hid CC
            obtain ⟨ac, cc, xc, gc⟩ := Zc.out
            have ec := cell_of xc 0
            go_wp2_with fail
            (refine (CC.out _ _ gc).mono ?_)
            rintro e w12 ⟨rfl, b12⟩
            clear xc gc ec
            replace Zd := Lib.hid (Zd.out.below b12)
            replace Za := Lib.hid (Za.out.below b12)
            replace Zb := Lib.hid (Zb.out.below b12)
            replace Zc := Lib.hid (Zc.out.below b12)
            replace Zx := Lib.hid (Zx.out.below b12)
            replace HB := Lib.hid (HB.out.trans (b12.mono HB.out.size))
            clear b12
            clear CC
            by_cases z4 : k4 = 0
            · subst z4
              obtain ⟨f4, q4⟩ := X4.out rfl
              have CC := (gCheck f4).out
              rw [q4] at CC
              replace CC := Lib.hid CC
              obtain ⟨ax, cx, xx, gx⟩ := Zx.out
              have ex := cell_of xx 0
              go_wp2_with fail
              (refine (CC.out _ _ gx).mono ?_)
              rintro e w13 ⟨rfl, b13⟩
              clear xx gx ex
              replace Zd := Lib.hid (Zd.out.below b13)
              replace Za := Lib.hid (Za.out.below b13)
              replace Zb := Lib.hid (Zb.out.below b13)
              replace Zc := Lib.hid (Zc.out.below b13)
              replace Zx := Lib.hid (Zx.out.below b13)
              replace HB := Lib.hid (HB.out.trans (b13.mono HB.out.size))
              clear b13
              clear CC
              go_wp2
              exact bodyPost_ret (v := .bool true) (by simp [results, Try.results7, go_sem]) rfl ⟨rfl, HB.out⟩
            · skip
              go_wp2
              exact bodyPost_ret (v := .bool true) (by simp [results, Try.results7, go_sem]) rfl ⟨rfl, HB.out⟩
          · skip
            by_cases z4 : k4 = 0
            · subst z4
              obtain ⟨f4, q4⟩ := X4.out rfl
              have CC := (gCheck f4).out
              rw [q4] at CC
              replace CC := Lib.hid CC
              obtain ⟨ax, cx, xx, gx⟩ := Zx.out
              have ex := cell_of xx 0
              go_wp2_with fail
              (refine (CC.out _ _ gx).mono ?_)
              rintro e w12 ⟨rfl, b12⟩
              clear xx gx ex
              replace Zd := Lib.hid (Zd.out.below b12)
              replace Za := Lib.hid (Za.out.below b12)
              replace Zb := Lib.hid (Zb.out.below b12)
              replace Zc := Lib.hid (Zc.out.below b12)
              replace Zx := Lib.hid (Zx.out.below b12)
              replace HB := Lib.hid (HB.out.trans (b12.mono HB.out.size))
              clear b12
              clear CC
              go_wp2
              exact bodyPost_ret (v := .bool true) (by simp [results, Try.results7, go_sem]) rfl ⟨rfl, HB.out⟩
            · skip
              go_wp2
              exact bodyPost_ret (v := .bool true) (by simp [results, Try.results7, go_sem]) rfl ⟨rfl, HB.out⟩
        · skip
          go_wp2_with fail
          (refine (CLs.out _).mono ?_)
          rintro e w8 ⟨rfl, b8⟩
          replace Zd := Lib.hid (Zd.out.below b8)
          replace Za := Lib.hid (Za.out.below b8)
          replace Zb := Lib.hid (Zb.out.below b8)
          replace Zc := Lib.hid (Zc.out.below b8)
          replace Zx := Lib.hid (Zx.out.below b8)
          replace HB := Lib.hid (HB.out.trans (b8.mono HB.out.size))
          clear b8
          go_wp2_with fail
          (refine (newP_hid.out _).mono ?_)
          rintro e w9 ⟨sl9, rfl, o9, b9⟩
          replace Zd := Lib.hid (Zd.out.below b9)
          replace Za := Lib.hid (Za.out.below b9)
          replace Zb := Lib.hid (Zb.out.below b9)
          replace Zc := Lib.hid (Zc.out.below b9)
          replace Zx := Lib.hid (Zx.out.below b9)
          replace HB := Lib.hid (HB.out.trans (b9.mono HB.out.size))
          clear b9
          obtain ⟨an, cn, rfl⟩ := o9.form
          have Gn := OwnX.g o9
          clear o9
          go_wp2_with fail
          (refine (CW.out _ _ Gn).mono ?_)
          rintro e w10 ⟨rfl, b10⟩
          replace Zd := Lib.hid (Zd.out.below b10)
          replace Za := Lib.hid (Za.out.below b10)
          replace Zb := Lib.hid (Zb.out.below b10)
          replace Zc := Lib.hid (Zc.out.below b10)
          replace Zx := Lib.hid (Zx.out.below b10)
          replace HB := Lib.hid (HB.out.trans (b10.mono HB.out.size))
          clear b10
          clear Gn
          by_cases z3 : k3 = 0
          · subst z3
            obtain ⟨f3, q3⟩ := X3.out rfl
            have CC := (gCheck f3).out
            rw [q3] at CC
            replace CC := Lib.hid CC
            obtain ⟨ac, cc, xc, gc⟩ := Zc.out
            have ec := cell_of xc 0
            go_wp2_with fail
            (refine (CC.out _ _ gc).mono ?_)
            rintro e w11 ⟨rfl, b11⟩
            clear xc gc ec
            replace Zd := Lib.hid (Zd.out.below b11)
            replace Za := Lib.hid (Za.out.below b11)
            replace Zb := Lib.hid (Zb.out.below b11)
            replace Zc := Lib.hid (Zc.out.below b11)
            replace Zx := Lib.hid (Zx.out.below b11)
            replace HB := Lib.hid (HB.out.trans (b11.mono HB.out.size))
            clear b11
            clear CC
            by_cases z4 : k4 = 0
            · subst z4
              obtain ⟨f4, q4⟩ := X4.out rfl
              have CC := (gCheck f4).out
              rw [q4] at CC
              replace CC := Lib.hid CC
              obtain ⟨ax, cx, xx, gx⟩ := Zx.out
              have ex := cell_of xx 0
              go_wp2_with fail
              (refine (CC.out _ _ gx).mono ?_)
              rintro e w12 ⟨rfl, b12⟩
              clear xx gx ex
              replace Zd := Lib.hid (Zd.out.below b12)
              replace Za := Lib.hid (Za.out.below b12)
              replace Zb := Lib.hid (Zb.out.below b12)
              replace Zc := Lib.hid (Zc.out.below b12)
              replace Zx := Lib.hid (Zx.out.below b12)
              replace HB := Lib.hid (HB.out.trans (b12.mono HB.out.size))
              clear b12
              clear CC
              go_wp2
              exact bodyPost_ret (v := .bool true) (by simp [results, Try.results7, go_sem]) rfl ⟨rfl, HB.out⟩
            · skip
              go_wp2
              exact bodyPost_ret (v := .bool true) (by simp [results, Try.results7, go_sem]) rfl ⟨rfl, HB.out⟩
          · skip
            by_cases z4 : k4 = 0
            · subst z4
              obtain ⟨f4, q4⟩ := X4.out rfl
              have CC := (gCheck f4).out
              rw [q4] at CC
              replace CC := Lib.hid CC
              obtain ⟨ax, cx, xx, gx⟩ := Zx.out
              have ex := cell_of xx 0
              go_wp2_with fail
              (refine (CC.out _ _ gx).mono ?_)
              rintro e w11 ⟨rfl, b11⟩
              clear xx gx ex
              replace Zd := Lib.hid (Zd.out.below b11)
              replace Za := Lib.hid (Za.out.below b11)
              replace Zb := Lib.hid (Zb.out.below b11)
              replace Zc := Lib.hid (Zc.out.below b11)
              replace Zx := Lib.hid (Zx.out.below b11)
              replace HB := Lib.hid (HB.out.trans (b11.mono HB.out.size))
              clear b11
              clear CC
              go_wp2
              exact bodyPost_ret (v := .bool true) (by simp [results, Try.results7, go_sem]) rfl ⟨rfl, HB.out⟩
            · skip
              go_wp2
              exact bodyPost_ret (v := .bool true) (by simp [results, Try.results7, go_sem]) rfl ⟨rfl, HB.out⟩

end Go.Proofs.Ytcmbkhlnigbooaa.Dm
