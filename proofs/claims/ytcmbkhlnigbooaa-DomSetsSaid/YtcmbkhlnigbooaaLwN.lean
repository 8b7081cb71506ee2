/- The law's own: DomSets. -/
import Derived.Test.YtcmbkhlnigbooaaLwE
import Derived.Test.YtcmbkhlnigbooaaLwL
namespace Go.Proofs.Ytcmbkhlnigbooaa.Dm
open Go.RowKit

set_option maxRecDepth 100000 in
set_option maxHeartbeats 8000000 in
theorem sets_hid (D : List Nd) (hl : D.length ≤ 9223372036854775807) (hk : ∀ x ∈ D, x.a.length ≤ 9223372036854775807 ∧ x.c.length ≤ 9223372036854775807) (n : Int) (nm vl : ByteArray) : Hid (∀ W sl, DocG W sl D → Calls Try.prog 6 #[.agg #[sl], .int .i64 n, .string nm, .string vl] W fun e w' => e = .returned (.bool true) ∧ Below W.heap.size W w') := Lib.hid fun w sl hd => by
  have CB := gBig hl hk
  obtain ⟨a, c, rfl⟩ := hd.form
  have CLs := lays_hid
  have al := (Below.refl w.heap.size w).alloc (Nat.le_refl _) (.cells #[.slice a D.length c] 24)
  have Zd := Lib.hid (VD.new hd)
  have HB := Lib.hid al
  generalize hW1 : w.alloc (.cells #[.slice a D.length c] 24) = W1 at al Zd HB
  clear al hd
  go_enter Try.func6, Try.ntmps6
  obtain ⟨ad, cd, xd, gd⟩ := Zd.out
  have ed := cell_of xd 0
  go_wp2_with fail
  (refine (CB.out _ _ gd).mono ?_)
  rintro e w2 ⟨bg, rfl, hb, b2⟩
  clear xd gd ed
  replace Zd := Lib.hid (Zd.out.below b2)
  replace HB := Lib.hid (HB.out.trans (b2.mono HB.out.size))
  clear b2
  cases bg with
  | true =>
    go_wp2
    exact bodyPost_ret (v := .bool true) (by simp [results, Try.results6, go_sem]) rfl ⟨rfl, HB.out⟩
  | false =>
    have HF := hb rfl
    have hf := HF.fit
    clear hb
    by_cases snm : (300 : Int) < (nm.size : Int)
    case pos =>
      go_wp2
      exact bodyPost_ret (v := .bool true) (by simp [results, Try.results6, go_sem]) rfl ⟨rfl, HB.out⟩
    by_cases svl : (1000 : Int) < (vl.size : Int)
    case pos =>
      go_wp2
      exact bodyPost_ret (v := .bool true) (by simp [results, Try.results6, go_sem]) rfl ⟨rfl, HB.out⟩
    have C1 := gOwn hf
    have CS := gSame hf
    have C2 := (gSet hf n nm vl).out
    have D2 := (rSet hf n nm vl).out
    have f2 := fitSet HF n (nm := nm.data.toList) (v := vl.data.toList) (by rw [lsize]; omega) (by rw [lsize]; omega)
    obtain ⟨E2, k2, he2⟩ : ∃ E z, setR D n nm.data.toList vl.data.toList = (E, z) := ⟨(setR D n nm.data.toList vl.data.toList).1, (setR D n nm.data.toList vl.data.toList).2, rfl⟩
    rw [he2] at C2 D2 f2
    replace C2 := Lib.hid C2
    replace D2 := Lib.hid D2
    have CSa := gSame (D := E2) f2
    have CMa := gSmudge (E := E2) f2.short
    clear CB he2 f2
    obtain ⟨ad, cd, xd, gd⟩ := Zd.out
    have ed := cell_of xd 0
    go_wp2_with fail
    (refine (C1.out _ _ gd).mono ?_)
    rintro e w3 ⟨a3, c3, rfl, o3, b3⟩
    clear xd gd ed
    replace Zd := Lib.hid (Zd.out.below b3)
    replace HB := Lib.hid (HB.out.trans (b3.mono HB.out.size))
    clear b3
    have al := (Below.refl w3.heap.size w3).alloc (Nat.le_refl _) (.cells #[.slice a3 D.length c3] 24)
    have Zu := Lib.hid (VD.new (OwnX.g o3))
    replace Zd := Lib.hid (Zd.out.below al)
    replace HB := Lib.hid (HB.out.trans (al.mono HB.out.size))
    generalize hW3 : w3.alloc (.cells #[.slice a3 D.length c3] 24) = W3 at al Zu Zd HB
    clear al o3
    have A0 := Lib.hid (And.intro Zd.out (And.intro Zu.out (trivial)))
    have HB0 := HB
    have AB := Lib.hid (Bel.refl W3)
    have hl_a : W3.heap.size ≤ W3.heap.size := AB.out.b.size
    obtain ⟨ad, cd, xd, gd⟩ := Zd.out
    have ed := cell_of xd 0
    go_wp2_with fail
    (refine (C2.out _ _ gd).mono ?_)
    rintro e w4 ⟨a4, c4, rfl, o4, b4⟩
    have b_a := b4
    clear xd gd ed
    replace Zd := Lib.hid (Zd.out.below b4)
    replace Zu := Lib.hid (Zu.out.below b4)
    replace HB := Lib.hid (HB.out.trans (b4.mono HB.out.size))
    replace AB := Lib.hid (AB.out.below b4)
    clear b4
    have hb_a := b_a.size
    have al := (Below.refl w4.heap.size w4).alloc (Nat.le_refl _) (.cells #[.slice a4 E2.length c4] 24)
    have Za := Lib.hid (VO.new o4)
    replace Zd := Lib.hid (Zd.out.below al)
    replace Zu := Lib.hid (Zu.out.below al)
    replace AB := Lib.hid (AB.out.below al)
    replace HB := Lib.hid (HB.out.trans (al.mono HB.out.size))
    generalize hW4 : w4.alloc (.cells #[.slice a4 E2.length c4] 24) = W4 at al Za Zd Zu AB HB
    clear al o4 b_a
    obtain ⟨au, cu, xu, gu⟩ := Zu.out
    have eu := cell_of xu 0
    go_wp2_with fail
    (refine (D2.out _ _ gu).mono ?_)
    rintro e w5 ⟨a5, c5, rfl, o5, b5⟩
    clear xu gu eu
    replace Zd := Lib.hid (Zd.out.below b5)
    replace Zu := Lib.hid (Zu.out.below b5)
    replace Za := Lib.hid (Za.out.below b5)
    replace HB := Lib.hid (HB.out.trans (b5.mono HB.out.size))
    replace AB := Lib.hid (AB.out.below b5)
    clear b5
    have al := (Below.refl w5.heap.size w5).alloc (Nat.le_refl _) (.cells #[.slice a5 E2.length c5] 24)
    have Zb := Lib.hid (VD.new (OwnX.g o5))
    replace Zd := Lib.hid (Zd.out.below al)
    replace Zu := Lib.hid (Zu.out.below al)
    replace Za := Lib.hid (Za.out.below al)
    replace AB := Lib.hid (AB.out.below al)
    replace HB := Lib.hid (HB.out.trans (al.mono HB.out.size))
    generalize hW5 : w5.alloc (.cells #[.slice a5 E2.length c5] 24) = W5 at al Zb Zd Zu Za AB HB
    clear al o5
    clear C1 C2 D2
    obtain ⟨aa, ca, xa, ga⟩ := Za.out.vd
    have ea := cell_of xa 0
    obtain ⟨ab, cb, xb, gb⟩ := Zb.out
    have eb := cell_of xb 0
    go_wp2_with fail
    (refine (CSa.out _ _ _ ga gb).mono ?_)
    rintro e w6 ⟨rfl, b6⟩
    clear xa ga ea xb gb eb
    replace Zd := Lib.hid (Zd.out.below b6)
    replace Zu := Lib.hid (Zu.out.below b6)
    replace Za := Lib.hid (Za.out.below b6)
    replace Zb := Lib.hid (Zb.out.below b6)
    replace HB := Lib.hid (HB.out.trans (b6.mono HB.out.size))
    replace AB := Lib.hid (AB.out.below b6)
    clear b6
    clear Zd
    clear Zu
    clear Zb
    obtain ⟨aa, ca, Xa⟩ := Za.out
    have ea := Xa.c0
    go_wp2_with fail
    (refine (CMa.out _ _ _ _ _ Xa).mono ?_)
    rintro e w7 ⟨rfl, kp⟩
    clear ea Xa Za
    replace AB := Lib.hid (AB.out.kp kp (fun j t e => Nat.le_trans hl_a e.1))
    clear kp
    replace HB := Lib.hid (HB0.out.trans (AB.out.b.mono HB0.out.size))
    have Zd := Lib.hid (A0.out.1.below AB.out.b)
    have Zu := Lib.hid (A0.out.2.1.below AB.out.b)
    clear A0 AB HB0
    go_wp2_with fail
    (refine (CLs.out _).mono ?_)
    rintro e w8 ⟨rfl, b8⟩
    replace Zd := Lib.hid (Zd.out.below b8)
    replace Zu := Lib.hid (Zu.out.below b8)
    replace HB := Lib.hid (HB.out.trans (b8.mono HB.out.size))
    clear b8
    obtain ⟨ad, cd, xd, gd⟩ := Zd.out
    have ed := cell_of xd 0
    obtain ⟨au, cu, xu, gu⟩ := Zu.out
    have eu := cell_of xu 0
    go_wp2_with fail
    (refine (CS.out _ _ _ gd gu).mono ?_)
    rintro e w9 ⟨rfl, b9⟩
    clear xd gd ed xu gu eu
    replace Zd := Lib.hid (Zd.out.below b9)
    replace Zu := Lib.hid (Zu.out.below b9)
    replace HB := Lib.hid (HB.out.trans (b9.mono HB.out.size))
    clear b9
    go_wp2
    exact bodyPost_ret (v := .bool true) (by simp [results, Try.results6, go_sem]) rfl ⟨rfl, HB.out⟩

end Go.Proofs.Ytcmbkhlnigbooaa.Dm
