/- The law's own: DomMakes. -/
import Derived.Test.YtcmbkhlnigbooaaLwG
import Derived.Test.YtcmbkhlnigbooaaLwL
namespace Go.Proofs.Ytcmbkhlnigbooaa.Dm
open Go.RowKit

set_option maxRecDepth 100000 in
set_option maxHeartbeats 8000000 in
theorem makes_hid (D : List Nd) (hl : D.length ≤ 9223372036854775807) (hk : ∀ x ∈ D, x.a.length ≤ 9223372036854775807 ∧ x.c.length ≤ 9223372036854775807) (y : Nd) (hya : y.a.length ≤ 9223372036854775807) (hyc : y.c.length ≤ 9223372036854775807) : Hid (∀ W sl av kv, DocG W sl D → AtIn W av y.a → IntIn W kv y.c → Calls Try.prog 4 #[.agg #[sl], nodeV y av kv] W fun e w' => e = .returned (.bool true) ∧ Below W.heap.size W w') := Lib.hid fun w sl av kv hd hat hkd => by
  have CB := gBig hl hk
  obtain ⟨a, c, rfl⟩ := hd.form
  obtain ⟨aa, ac, rfl⟩ := hat.form
  obtain ⟨ka, kc, rfl⟩ := hkd.form
  obtain ⟨N, hN⟩ := text_of y.n
  obtain ⟨T, hT⟩ := text_of y.d
  have CLs := lays_hid
  have CBN := gBigNode y hya hyc
  unfold nodeV
  unfold nodeV at CBN
  rw [strV_of hN, strV_of hT]
  rw [strV_of hN, strV_of hT] at CBN
  have HN := Lib.hid (And.intro hN hT)
  have al := (Below.refl w.heap.size w).alloc (Nat.le_refl _) (.cells #[.slice a D.length c] 24)
  have Zd := VD.new hd
  generalize hW0 : w.alloc (.cells #[.slice a D.length c] 24) = W0 at al Zd
  obtain ⟨R0, hR0⟩ : ∃ R, W0.heap.size = R := ⟨_, rfl⟩
  have al2 := (Below.refl W0.heap.size W0).alloc (Nat.le_refl _) (.cells #[.int .i64 y.k, .string N, .string T, .slice aa y.a.length ac, .int .i64 y.p, .slice ka y.c.length kc, .bool y.b, .bool y.s] 42)
  have HB := Lib.hid (al.trans (al2.mono al.size))
  have Zn : NX (W0.alloc (.cells #[.int .i64 y.k, .string N, .string T, .slice aa y.a.length ac, .int .i64 y.p, .slice ka y.c.length kc, .bool y.b, .bool y.s] 42)) W0.heap.size y N T (.slice aa y.a.length ac) (.slice ka y.c.length kc) := ⟨new_block _ _, (hat.below al).below al2, (hkd.below al).below al2⟩
  replace Zd := Lib.hid (Zd.below al2)
  replace Zn := Lib.hid Zn
  generalize hW1 : W0.alloc (.cells #[.int .i64 y.k, .string N, .string T, .slice aa y.a.length ac, .int .i64 y.p, .slice ka y.c.length kc, .bool y.b, .bool y.s] 42) = W1 at Zd Zn HB
  clear al al2 hd hat hkd hN hT hR0
  go_enter Try.func4, Try.ntmps4
  obtain ⟨ad, cd, xd, gd⟩ := Zd.out
  have ed := cell_of xd 0
  go_wp2_with fail
  (refine (CB.out _ _ gd).mono ?_)
  rintro e w2 ⟨bg, rfl, hb, b2⟩
  clear xd gd ed
  replace Zd := Lib.hid (Zd.out.below b2)
  replace HB := Lib.hid (HB.out.trans (b2.mono HB.out.size))
  replace Zn := Lib.hid (Zn.out.below b2)
  clear b2
  cases bg with
  | true =>
    go_wp2
    exact bodyPost_ret (v := .bool true) (by simp [results, Try.results4, go_sem]) rfl ⟨rfl, HB.out⟩
  | false =>
    have HF := hb rfl
    have hf := HF.fit
    clear hb
    have zn := Zn.out
    have n0 := cell_of zn.1 0
    have n1 := cell_of zn.1 1
    have n2 := cell_of zn.1 2
    have n3 := cell_of zn.1 3
    have n4 := cell_of zn.1 4
    have n5 := cell_of zn.1 5
    have n6 := cell_of zn.1 6
    have n7 := cell_of zn.1 7
    go_wp2_with fail
    (refine (CBN.out _ _ _ zn.2.1 zn.2.2).mono ?_)
    rintro e w3 ⟨bg, rfl, hb, b3⟩
    replace Zd := Lib.hid (Zd.out.below b3)
    replace HB := Lib.hid (HB.out.trans (b3.mono HB.out.size))
    replace Zn := Lib.hid (Zn.out.below b3)
    clear b3
    clear zn n0 n1 n2 n3 n4 n5 n6 n7
    cases bg with
    | true =>
      go_wp2
      exact bodyPost_ret (v := .bool true) (by simp [results, Try.results4, go_sem]) rfl ⟨rfl, HB.out⟩
    | false =>
      have HS := hb rfl
      clear hb
      have C1 := gOwn hf
      have CS := gSame hf
      have CN := (ownNode_hid y HS.fit).out
      have CO := (one_hid y HS.fit).out
      have C2 := (gMake hf y HS.fit).out
      have D2 := (rMake hf y HS.fit).out
      have f2 := fitMake hf HS.fit
      obtain ⟨E2, i2, k2, he2⟩ : ∃ E i k, makeR D y = (E, i, k) := ⟨_, _, _, rfl⟩
      unfold nodeV at C2 D2 CN CO
      rw [he2] at C2 D2 f2
      rw [strV_of HN.out.1, strV_of HN.out.2] at C2 D2 CN CO
      replace C2 := Lib.hid C2
      replace D2 := Lib.hid D2
      replace CN := Lib.hid CN
      replace CO := Lib.hid CO
      have CSa := gSame (D := E2) f2
      have CMa := gSmudge (E := E2) f2.short
      clear CB CBN he2 f2
      obtain ⟨ad, cd, xd, gd⟩ := Zd.out
      have ed := cell_of xd 0
      go_wp2_with fail
      (refine (C1.out _ _ gd).mono ?_)
      rintro e w4 ⟨a4, c4, rfl, o4, b4⟩
      clear xd gd ed
      replace Zd := Lib.hid (Zd.out.below b4)
      replace HB := Lib.hid (HB.out.trans (b4.mono HB.out.size))
      replace Zn := Lib.hid (Zn.out.below b4)
      clear b4
      have al := (Below.refl w4.heap.size w4).alloc (Nat.le_refl _) (.cells #[.slice a4 D.length c4] 24)
      have Zu := Lib.hid (VD.new (OwnX.g o4))
      replace Zd := Lib.hid (Zd.out.below al)
      replace Zn := Lib.hid (Zn.out.below al)
      replace HB := Lib.hid (HB.out.trans (al.mono HB.out.size))
      generalize hW4 : w4.alloc (.cells #[.slice a4 D.length c4] 24) = W4 at al Zu Zd Zn HB
      clear al o4
      have zn := Zn.out
      have n0 := cell_of zn.1 0
      have n1 := cell_of zn.1 1
      have n2 := cell_of zn.1 2
      have n3 := cell_of zn.1 3
      have n4 := cell_of zn.1 4
      have n5 := cell_of zn.1 5
      have n6 := cell_of zn.1 6
      have n7 := cell_of zn.1 7
      go_wp2_with fail
      (refine (CN.out _ _ _ zn.2.1 zn.2.2).mono ?_)
      rintro e w5 ⟨av5, kv5, rfl, oa5, ok5, b5⟩
      replace Zd := Lib.hid (Zd.out.below b5)
      replace Zu := Lib.hid (Zu.out.below b5)
      replace HB := Lib.hid (HB.out.trans (b5.mono HB.out.size))
      replace Zn := Lib.hid (Zn.out.below b5)
      clear b5
      clear zn n0 n1 n2 n3 n4 n5 n6 n7
      obtain ⟨xa, xc, rfl⟩ := row_form oa5
      obtain ⟨ya, yc, rfl⟩ := row_form ok5
      have ra := RowIn.of_own oa5 (atC_one _)
      have rk := IntIn.of ok5
      have al := (Below.refl w5.heap.size w5).alloc (Nat.le_refl _) (.cells #[.int .i64 y.k, .string N, .string T, .slice xa y.a.length xc, .int .i64 y.p, .slice ya y.c.length yc, .bool y.b, .bool y.s] 42)
      have Zk : NX (w5.alloc (.cells #[.int .i64 y.k, .string N, .string T, .slice xa y.a.length xc, .int .i64 y.p, .slice ya y.c.length yc, .bool y.b, .bool y.s] 42)) w5.heap.size y N T (.slice xa y.a.length xc) (.slice ya y.c.length yc) := ⟨new_block _ _, AtIn.below ra al, rk.below al⟩
      replace Zk := Lib.hid Zk
      clear oa5 ok5 ra rk
      replace Zd := Lib.hid (Zd.out.below al)
      replace Zu := Lib.hid (Zu.out.below al)
      replace Zn := Lib.hid (Zn.out.below al)
      replace HB := Lib.hid (HB.out.trans (al.mono HB.out.size))
      generalize hW5 : w5.alloc (.cells #[.int .i64 y.k, .string N, .string T, .slice xa y.a.length xc, .int .i64 y.p, .slice ya y.c.length yc, .bool y.b, .bool y.s] 42) = W5 at al Zk Zd Zu Zn HB
      clear al
      have A0 := Lib.hid (And.intro Zd.out (And.intro Zu.out (And.intro Zn.out (And.intro Zk.out (trivial)))))
      have HB0 := HB
      have AB := Lib.hid (Bel.refl W5)
      have zn := Zn.out
      have n0 := cell_of zn.1 0
      have n1 := cell_of zn.1 1
      have n2 := cell_of zn.1 2
      have n3 := cell_of zn.1 3
      have n4 := cell_of zn.1 4
      have n5 := cell_of zn.1 5
      have n6 := cell_of zn.1 6
      have n7 := cell_of zn.1 7
      have hl_a : W5.heap.size ≤ W5.heap.size := AB.out.b.size
      obtain ⟨ad, cd, xd, gd⟩ := Zd.out
      have ed := cell_of xd 0
      go_wp2_with fail
      (refine (C2.out _ _ _ _ gd zn.2.1 zn.2.2).mono ?_)
      rintro e w6 ⟨a6, c6, rfl, o6, b6⟩
      have b_a := b6
      clear xd gd ed
      replace Zd := Lib.hid (Zd.out.below b6)
      replace Zu := Lib.hid (Zu.out.below b6)
      replace HB := Lib.hid (HB.out.trans (b6.mono HB.out.size))
      replace Zn := Lib.hid (Zn.out.below b6)
      replace Zk := Lib.hid (Zk.out.below b6)
      replace AB := Lib.hid (AB.out.below b6)
      clear b6
      have hb_a := b_a.size
      have al := (Below.refl w6.heap.size w6).alloc (Nat.le_refl _) (.cells #[.slice a6 E2.length c6] 24)
      have Za := Lib.hid (VO.new o6)
      replace Zd := Lib.hid (Zd.out.below al)
      replace Zu := Lib.hid (Zu.out.below al)
      replace Zn := Lib.hid (Zn.out.below al)
      replace Zk := Lib.hid (Zk.out.below al)
      replace AB := Lib.hid (AB.out.below al)
      replace HB := Lib.hid (HB.out.trans (al.mono HB.out.size))
      generalize hW6 : w6.alloc (.cells #[.slice a6 E2.length c6] 24) = W6 at al Za Zd Zu Zn Zk AB HB
      clear al o6 b_a
      clear zn n0 n1 n2 n3 n4 n5 n6 n7
      have zk := Zk.out
      have m0 := cell_of zk.1 0
      have m1 := cell_of zk.1 1
      have m2 := cell_of zk.1 2
      have m3 := cell_of zk.1 3
      have m4 := cell_of zk.1 4
      have m5 := cell_of zk.1 5
      have m6 := cell_of zk.1 6
      have m7 := cell_of zk.1 7
      obtain ⟨au, cu, xu, gu⟩ := Zu.out
      have eu := cell_of xu 0
      go_wp2_with fail
      (refine (D2.out _ _ _ _ gu zk.2.1 zk.2.2).mono ?_)
      rintro e w7 ⟨a7, c7, rfl, o7, b7⟩
      clear xu gu eu
      replace Zd := Lib.hid (Zd.out.below b7)
      replace Zu := Lib.hid (Zu.out.below b7)
      replace Za := Lib.hid (Za.out.below b7)
      replace HB := Lib.hid (HB.out.trans (b7.mono HB.out.size))
      replace Zn := Lib.hid (Zn.out.below b7)
      replace Zk := Lib.hid (Zk.out.below b7)
      replace AB := Lib.hid (AB.out.below b7)
      clear b7
      clear zk m0 m1 m2 m3 m4 m5 m6 m7
      have al := (Below.refl w7.heap.size w7).alloc (Nat.le_refl _) (.cells #[.slice a7 E2.length c7] 24)
      have Zb := Lib.hid (VD.new (OwnX.g o7))
      replace Zd := Lib.hid (Zd.out.below al)
      replace Zu := Lib.hid (Zu.out.below al)
      replace Za := Lib.hid (Za.out.below al)
      replace Zn := Lib.hid (Zn.out.below al)
      replace Zk := Lib.hid (Zk.out.below al)
      replace AB := Lib.hid (AB.out.below al)
      replace HB := Lib.hid (HB.out.trans (al.mono HB.out.size))
      generalize hW7 : w7.alloc (.cells #[.slice a7 E2.length c7] 24) = W7 at al Zb Zd Zu Za Zn Zk AB HB
      clear al o7
      clear C1 C2 D2 CN
      obtain ⟨aa, ca, xa, ga⟩ := Za.out.vd
      have ea := cell_of xa 0
      obtain ⟨ab, cb, xb, gb⟩ := Zb.out
      have eb := cell_of xb 0
      go_wp2_with fail
      (refine (CSa.out _ _ _ ga gb).mono ?_)
      rintro e w8 ⟨rfl, b8⟩
      clear xa ga ea xb gb eb
      replace Zd := Lib.hid (Zd.out.below b8)
      replace Zu := Lib.hid (Zu.out.below b8)
      replace Za := Lib.hid (Za.out.below b8)
      replace Zb := Lib.hid (Zb.out.below b8)
      replace HB := Lib.hid (HB.out.trans (b8.mono HB.out.size))
      replace Zn := Lib.hid (Zn.out.below b8)
      replace Zk := Lib.hid (Zk.out.below b8)
      replace AB := Lib.hid (AB.out.below b8)
      clear b8
      clear Zn Zk
      clear Zd
      clear Zu
      clear Zb
      obtain ⟨aa, ca, Xa⟩ := Za.out
      have ea := Xa.c0
      go_wp2_with fail
      (refine (CMa.out _ _ _ _ _ Xa).mono ?_)
      rintro e w9 ⟨rfl, kp⟩
      clear ea Xa Za
      replace AB := Lib.hid (AB.out.kp kp (fun j t e => Nat.le_trans hl_a e.1))
      clear kp
      replace HB := Lib.hid (HB0.out.trans (AB.out.b.mono HB0.out.size))
      have Zd := Lib.hid (A0.out.1.below AB.out.b)
      have Zu := Lib.hid (A0.out.2.1.below AB.out.b)
      have Zn := Lib.hid (A0.out.2.2.1.below AB.out.b)
      have Zk := Lib.hid (A0.out.2.2.2.1.below AB.out.b)
      clear A0 AB HB0
      go_wp2_with fail
      (refine (CLs.out _).mono ?_)
      rintro e w10 ⟨rfl, b10⟩
      replace Zd := Lib.hid (Zd.out.below b10)
      replace Zu := Lib.hid (Zu.out.below b10)
      replace HB := Lib.hid (HB.out.trans (b10.mono HB.out.size))
      replace Zn := Lib.hid (Zn.out.below b10)
      replace Zk := Lib.hid (Zk.out.below b10)
      clear b10
      obtain ⟨ad, cd, xd, gd⟩ := Zd.out
      have ed := cell_of xd 0
      obtain ⟨au, cu, xu, gu⟩ := Zu.out
      have eu := cell_of xu 0
      go_wp2_with fail
      (refine (CS.out _ _ _ gd gu).mono ?_)
      rintro e w11 ⟨rfl, b11⟩
      clear xd gd ed xu gu eu
      replace Zd := Lib.hid (Zd.out.below b11)
      replace Zu := Lib.hid (Zu.out.below b11)
      replace HB := Lib.hid (HB.out.trans (b11.mono HB.out.size))
      replace Zn := Lib.hid (Zn.out.below b11)
      replace Zk := Lib.hid (Zk.out.below b11)
      clear b11
      have zn := Zn.out
      have n0 := cell_of zn.1 0
      have n1 := cell_of zn.1 1
      have n2 := cell_of zn.1 2
      have n3 := cell_of zn.1 3
      have n4 := cell_of zn.1 4
      have n5 := cell_of zn.1 5
      have n6 := cell_of zn.1 6
      have n7 := cell_of zn.1 7
      have zk := Zk.out
      have m0 := cell_of zk.1 0
      have m1 := cell_of zk.1 1
      have m2 := cell_of zk.1 2
      have m3 := cell_of zk.1 3
      have m4 := cell_of zk.1 4
      have m5 := cell_of zk.1 5
      have m6 := cell_of zk.1 6
      have m7 := cell_of zk.1 7
      go_wp2_with fail
      (refine (CO.out _ _ _ _ _ zn.2.1 zn.2.2 zk.2.1 zk.2.2).mono ?_)
      rintro e w12 ⟨rfl, b12⟩
      replace Zd := Lib.hid (Zd.out.below b12)
      replace Zu := Lib.hid (Zu.out.below b12)
      replace HB := Lib.hid (HB.out.trans (b12.mono HB.out.size))
      replace Zn := Lib.hid (Zn.out.below b12)
      replace Zk := Lib.hid (Zk.out.below b12)
      clear b12
      clear zn n0 n1 n2 n3 n4 n5 n6 n7
      clear zk m0 m1 m2 m3 m4 m5 m6 m7
      go_wp2
      exact bodyPost_ret (v := .bool true) (by simp [results, Try.results4, go_sem]) rfl ⟨rfl, HB.out⟩

end Go.Proofs.Ytcmbkhlnigbooaa.Dm
