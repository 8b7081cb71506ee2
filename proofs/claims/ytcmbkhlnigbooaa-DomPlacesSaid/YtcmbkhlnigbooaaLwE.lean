/- The law's own: what needs no document's answer. -/
import Derived.Test.YtcmbkhlnigbooaaLwBC
import Derived.Test.YtcmbkhlnigbooaaLwD
namespace Go.Proofs.Ytcmbkhlnigbooaa.Dm
open Go.RowKit

theorem gBig {D : List Nd} (hl : D.length ≤ 9223372036854775807) (hk : ∀ x ∈ D, x.a.length ≤ 9223372036854775807 ∧ x.c.length ≤ 9223372036854775807) : Hid (∀ W sl, DocG W sl D → Calls Try.prog 11 #[.agg #[sl]] W (BigR (FitT D) W)) := Lib.hid fun W sl ⟨A, K, h, _⟩ => (big_hid D hl hk).out W sl A K h
theorem attrV_form (o : Option (List UInt8)) : ∃ s b, attrV o = .tuple #[.string s, .bool b] := by
  cases o with
  | none => exact ⟨_, _, rfl⟩
  | some v =>
    obtain ⟨t, ht⟩ := text_of v
    exact ⟨t, true, by rw [← strV_of ht]; rfl⟩
theorem bytes_ext {a b : ByteArray} (h : a.data.toList = b.data.toList) : a = b := by
  cases a; cases b
  simpa using Array.toList_inj.1 h
set_option maxRecDepth 100000 in
set_option maxHeartbeats 8000000 in
theorem twice_hid (D : List Nd) (hl : D.length ≤ 9223372036854775807) (hk : ∀ x ∈ D, x.a.length ≤ 9223372036854775807 ∧ x.c.length ≤ 9223372036854775807) (q n : Int) : Hid (∀ W sl, DocG W sl D → Calls Try.prog 10 #[.agg #[sl], .int .i64 q, .int .i64 n] W fun e w' => e = .returned (.bool true) ∧ Below W.heap.size W w') := Lib.hid fun w sl hd => by
  have CB := gBig hl hk
  obtain ⟨a, c, rfl⟩ := hd.form
  have CLs := lays_hid
  have al := (Below.refl w.heap.size w).alloc (Nat.le_refl _) (.cells #[.slice a D.length c] 24)
  have Zd := Lib.hid (VD.new hd)
  have HB := Lib.hid al
  generalize hW1 : w.alloc (.cells #[.slice a D.length c] 24) = W1 at al Zd HB
  clear al hd
  go_enter Try.func10, Try.ntmps10
  obtain ⟨ad, cd, xd, gd⟩ := Zd.out
  have ed := cell_of xd 0
  go_wp2_with fail
  (refine (CB.out _ _ gd).mono ?_)
  rintro e w2 ⟨bg, rfl, hb, b2⟩
  clear xd gd ed
  replace Zd := Lib.hid (Zd.out.below b2)
  replace HB := Lib.hid (HB.out.trans (b2.mono HB.out.size))
  clear b2
  cases bg with
  | true =>
    go_wp2
    exact bodyPost_ret (v := .bool true) (by simp [results, Try.results10, go_sem]) rfl ⟨rfl, HB.out⟩
  | false =>
    have HF := hb rfl
    have hf := HF.fit
    clear hb
    have C1 := (gCut hf n).out
    obtain ⟨E1, k1, he1⟩ : ∃ E k, cutR D n = (E, k) := ⟨_, _, rfl⟩
    rw [he1] at C1
    replace C1 := Lib.hid C1
    obtain ⟨ad, cd, xd, gd⟩ := Zd.out
    have ed := cell_of xd 0
    go_wp2_with fail
    (refine (C1.out _ _ gd).mono ?_)
    rintro e w3 ⟨a3, c3, rfl, o3, b3⟩
    clear xd gd ed
    replace Zd := Lib.hid (Zd.out.below b3)
    replace HB := Lib.hid (HB.out.trans (b3.mono HB.out.size))
    clear b3
    have al := (Below.refl w3.heap.size w3).alloc (Nat.le_refl _) (.cells #[.slice a3 E1.length c3] 24)
    have Za := Lib.hid (VD.new (OwnX.g o3))
    replace Zd := Lib.hid (Zd.out.below al)
    replace HB := Lib.hid (HB.out.trans (al.mono HB.out.size))
    generalize hW3 : w3.alloc (.cells #[.slice a3 E1.length c3] 24) = W3 at al Za Zd HB
    clear al o3
    by_cases z1 : k1 = 0
    case neg =>
      go_wp2_with fail
      (refine (CLs.out _).mono ?_)
      rintro e w4 ⟨rfl, b4⟩
      replace Zd := Lib.hid (Zd.out.below b4)
      replace Za := Lib.hid (Za.out.below b4)
      replace HB := Lib.hid (HB.out.trans (b4.mono HB.out.size))
      clear b4
      go_wp2
      exact bodyPost_ret (v := .bool true) (by simp [results, Try.results10, go_sem]) rfl ⟨rfl, HB.out⟩
    subst z1
    obtain ⟨m, rfl, R, hm0, hm, he2⟩ := cutR_inv (D := D) (n := n) (by rw [he1])
    have he3 := he1.symm.trans he2
    obtain rfl : E1 = cutM D m := (Prod.mk.inj he3).1
    have R1 := R.cut hm0
    have f1 := R1.fit (hf.txt.cut m)
    have C2 := (gCut f1 m).out
    rw [cutR_ok (check_right.2 R1) hm0 (by rw [cut_len]; exact hm), cut_cut] at C2
    replace C2 := Lib.hid C2
    have C3 := (gPut hf q m).out
    obtain ⟨E3, k3, he4⟩ : ∃ E k, putR D q m = (E, k) := ⟨_, _, rfl⟩
    rw [he4] at C3
    replace C3 := Lib.hid C3
    have C4 := gSame f1
    clear C1 he1 he2 he3
    obtain ⟨aa, ca, xa, ga⟩ := Za.out
    have ea := cell_of xa 0
    go_wp2_with fail
    (refine (C2.out _ _ ga).mono ?_)
    rintro e w4 ⟨a4, c4, rfl, o4, b4⟩
    clear xa ga ea
    replace Zd := Lib.hid (Zd.out.below b4)
    replace Za := Lib.hid (Za.out.below b4)
    replace HB := Lib.hid (HB.out.trans (b4.mono HB.out.size))
    clear b4
    have al := (Below.refl w4.heap.size w4).alloc (Nat.le_refl _) (.cells #[.slice a4 (cutM D m).length c4] 24)
    have Zb := Lib.hid (VD.new (OwnX.g o4))
    replace Zd := Lib.hid (Zd.out.below al)
    replace Za := Lib.hid (Za.out.below al)
    replace HB := Lib.hid (HB.out.trans (al.mono HB.out.size))
    generalize hW4 : w4.alloc (.cells #[.slice a4 (cutM D m).length c4] 24) = W4 at al Zb Zd Za HB
    clear al o4
    obtain ⟨ad, cd, xd, gd⟩ := Zd.out
    have ed := cell_of xd 0
    go_wp2_with fail
    (refine (C3.out _ _ gd).mono ?_)
    rintro e w5 ⟨a5, c5, rfl, o5, b5⟩
    clear xd gd ed
    replace Zd := Lib.hid (Zd.out.below b5)
    replace Za := Lib.hid (Za.out.below b5)
    replace Zb := Lib.hid (Zb.out.below b5)
    replace HB := Lib.hid (HB.out.trans (b5.mono HB.out.size))
    clear b5
    have al := (Below.refl w5.heap.size w5).alloc (Nat.le_refl _) (.cells #[.slice a5 E3.length c5] 24)
    have Zc := Lib.hid (VD.new (OwnX.g o5))
    replace Zd := Lib.hid (Zd.out.below al)
    replace Za := Lib.hid (Za.out.below al)
    replace Zb := Lib.hid (Zb.out.below al)
    replace HB := Lib.hid (HB.out.trans (al.mono HB.out.size))
    generalize hW5 : w5.alloc (.cells #[.slice a5 E3.length c5] 24) = W5 at al Zc Zd Za Zb HB
    clear al o5
    obtain ⟨aa, ca, xa, ga⟩ := Za.out
    have ea := cell_of xa 0
    obtain ⟨ab, cb, xb, gb⟩ := Zb.out
    have eb := cell_of xb 0
    go_wp2_with fail
    (refine (C4.out _ _ _ ga gb).mono ?_)
    rintro e w6 ⟨rfl, b6⟩
    clear xa ga ea xb gb eb
    replace Zd := Lib.hid (Zd.out.below b6)
    replace Za := Lib.hid (Za.out.below b6)
    replace Zb := Lib.hid (Zb.out.below b6)
    replace Zc := Lib.hid (Zc.out.below b6)
    replace HB := Lib.hid (HB.out.trans (b6.mono HB.out.size))
    clear b6
    by_cases z3 : k3 = 0
    case neg =>
      go_wp2_with fail
      (refine (CLs.out _).mono ?_)
      rintro e w7 ⟨rfl, b7⟩
      replace Zd := Lib.hid (Zd.out.below b7)
      replace Za := Lib.hid (Za.out.below b7)
      replace Zb := Lib.hid (Zb.out.below b7)
      replace Zc := Lib.hid (Zc.out.below b7)
      replace HB := Lib.hid (HB.out.trans (b7.mono HB.out.size))
      clear b7
      go_wp2
      exact bodyPost_ret (v := .bool true) (by simp [results, Try.results10, go_sem]) rfl ⟨rfl, HB.out⟩
    subst z3
    obtain ⟨p, m', rfl, hmm, _, _, _, hp, hh, hu, he5⟩ := putR_inv (D := D) (q := q) (n := m) (by rw [he4])
    obtain rfl : m = m' := by omega
    have he6 := he4.symm.trans he5
    obtain rfl : E3 = putM D p m := (Prod.mk.inj he6).1
    have R3 := R.put hm0 hm hp hh hu
    have f3 := R3.fit (hf.txt.put p m)
    have C5 := (gPut f3 p m).out
    rw [putR_ok (check_right.2 R3) ⟨by omega, by rw [put_len]; omega, by omega, by rw [put_len]; omega, by rw [Int.toNat_natCast, put_holds]; exact hh⟩ (put_up R hm0 hm hp hh hu), put_put] at C5
    replace C5 := Lib.hid C5
    have C6 := (gCut f3 m).out
    rw [cutR_ok (check_right.2 R3) hm0 (by rw [put_len]; exact hm), put_cut] at C6
    replace C6 := Lib.hid C6
    have C7 := gSame f3
    clear C2 C3 he4 he5 he6 hmm
    obtain ⟨ac, cc, xc, gc⟩ := Zc.out
    have ec := cell_of xc 0
    go_wp2_with fail
    (refine (C5.out _ _ gc).mono ?_)
    rintro e w7 ⟨a7, c7, rfl, o7, b7⟩
    clear xc gc ec
    replace Zd := Lib.hid (Zd.out.below b7)
    replace Za := Lib.hid (Za.out.below b7)
    replace Zb := Lib.hid (Zb.out.below b7)
    replace Zc := Lib.hid (Zc.out.below b7)
    replace HB := Lib.hid (HB.out.trans (b7.mono HB.out.size))
    clear b7
    have al := (Below.refl w7.heap.size w7).alloc (Nat.le_refl _) (.cells #[.slice a7 (putM D p m).length c7] 24)
    have Zx := Lib.hid (VD.new (OwnX.g o7))
    replace Zd := Lib.hid (Zd.out.below al)
    replace Za := Lib.hid (Za.out.below al)
    replace Zb := Lib.hid (Zb.out.below al)
    replace Zc := Lib.hid (Zc.out.below al)
    replace HB := Lib.hid (HB.out.trans (al.mono HB.out.size))
    generalize hW7 : w7.alloc (.cells #[.slice a7 (putM D p m).length c7] 24) = W7 at al Zx Zd Za Zb Zc HB
    clear al o7
    obtain ⟨ac, cc, xc, gc⟩ := Zc.out
    have ec := cell_of xc 0
    go_wp2_with fail
    (refine (C6.out _ _ gc).mono ?_)
    rintro e w8 ⟨a8, c8, rfl, o8, b8⟩
    clear xc gc ec
    replace Zd := Lib.hid (Zd.out.below b8)
    replace Za := Lib.hid (Za.out.below b8)
    replace Zb := Lib.hid (Zb.out.below b8)
    replace Zc := Lib.hid (Zc.out.below b8)
    replace Zx := Lib.hid (Zx.out.below b8)
    replace HB := Lib.hid (HB.out.trans (b8.mono HB.out.size))
    clear b8
    have al := (Below.refl w8.heap.size w8).alloc (Nat.le_refl _) (.cells #[.slice a8 (cutM D m).length c8] 24)
    have Zy := Lib.hid (VD.new (OwnX.g o8))
    replace Zd := Lib.hid (Zd.out.below al)
    replace Za := Lib.hid (Za.out.below al)
    replace Zb := Lib.hid (Zb.out.below al)
    replace Zc := Lib.hid (Zc.out.below al)
    replace Zx := Lib.hid (Zx.out.below al)
    replace HB := Lib.hid (HB.out.trans (al.mono HB.out.size))
    generalize hW8 : w8.alloc (.cells #[.slice a8 (cutM D m).length c8] 24) = W8 at al Zy Zd Za Zb Zc Zx HB
    clear al o8
    go_wp2_with fail
    (refine (CLs.out _).mono ?_)
    rintro e w9 ⟨rfl, b9⟩
    replace Zd := Lib.hid (Zd.out.below b9)
    replace Za := Lib.hid (Za.out.below b9)
    replace Zb := Lib.hid (Zb.out.below b9)
    replace Zc := Lib.hid (Zc.out.below b9)
    replace Zx := Lib.hid (Zx.out.below b9)
    replace Zy := Lib.hid (Zy.out.below b9)
    replace HB := Lib.hid (HB.out.trans (b9.mono HB.out.size))
    clear b9
    obtain ⟨ac, cc, xc, gc⟩ := Zc.out
    have ec := cell_of xc 0
    obtain ⟨ax, cx, xx, gx⟩ := Zx.out
    have ex := cell_of xx 0
    go_wp2_with fail
    (refine (C7.out _ _ _ gc gx).mono ?_)
    rintro e w10 ⟨rfl, b10⟩
    clear xc gc ec xx gx ex
    replace Zd := Lib.hid (Zd.out.below b10)
    replace Za := Lib.hid (Za.out.below b10)
    replace Zb := Lib.hid (Zb.out.below b10)
    replace Zc := Lib.hid (Zc.out.below b10)
    replace Zx := Lib.hid (Zx.out.below b10)
    replace Zy := Lib.hid (Zy.out.below b10)
    replace HB := Lib.hid (HB.out.trans (b10.mono HB.out.size))
    clear b10
    obtain ⟨ay, cy, xy, gy⟩ := Zy.out
    have ey := cell_of xy 0
    obtain ⟨aa, ca, xa, ga⟩ := Za.out
    have ea := cell_of xa 0
    go_wp2_with fail
    (refine (C4.out _ _ _ gy ga).mono ?_)
    rintro e w11 ⟨rfl, b11⟩
    clear xy gy ey xa ga ea
    replace Zd := Lib.hid (Zd.out.below b11)
    replace Za := Lib.hid (Za.out.below b11)
    replace Zb := Lib.hid (Zb.out.below b11)
    replace Zc := Lib.hid (Zc.out.below b11)
    replace Zx := Lib.hid (Zx.out.below b11)
    replace Zy := Lib.hid (Zy.out.below b11)
    replace HB := Lib.hid (HB.out.trans (b11.mono HB.out.size))
    clear b11
    go_wp2
    exact bodyPost_ret (v := .bool true) (by simp [results, Try.results10, go_sem]) rfl ⟨rfl, HB.out⟩
set_option maxRecDepth 100000 in
set_option maxHeartbeats 8000000 in
theorem attrs_hid (D : List Nd) (hl : D.length ≤ 9223372036854775807) (hk : ∀ x ∈ D, x.a.length ≤ 9223372036854775807 ∧ x.c.length ≤ 9223372036854775807) (n m : Int) (nm ot vl : ByteArray) : Hid (∀ W sl, DocG W sl D → Calls Try.prog 9 #[.agg #[sl], .int .i64 n, .int .i64 m, .string nm, .string ot, .string vl] W fun e w' => e = .returned (.bool true) ∧ Below W.heap.size W w') := Lib.hid fun w sl hd => by
  have CB := gBig hl hk
  obtain ⟨a, c, rfl⟩ := hd.form
  have CLs := lays_hid
  have al := (Below.refl w.heap.size w).alloc (Nat.le_refl _) (.cells #[.slice a D.length c] 24)
  have Zd := Lib.hid (VD.new hd)
  have HB := Lib.hid al
  generalize hW1 : w.alloc (.cells #[.slice a D.length c] 24) = W1 at al Zd HB
  clear al hd
  go_enter Try.func9, Try.ntmps9
  obtain ⟨ad, cd, xd, gd⟩ := Zd.out
  have ed := cell_of xd 0
  go_wp2_with fail
  (refine (CB.out _ _ gd).mono ?_)
  rintro e w2 ⟨bg, rfl, hb, b2⟩
  clear xd gd ed
  replace Zd := Lib.hid (Zd.out.below b2)
  replace HB := Lib.hid (HB.out.trans (b2.mono HB.out.size))
  clear b2
  cases bg with
  | true =>
    go_wp2
    exact bodyPost_ret (v := .bool true) (by simp [results, Try.results9, go_sem]) rfl ⟨rfl, HB.out⟩
  | false =>
    have HF := hb rfl
    have hf := HF.fit
    clear hb
    by_cases snm : (300 : Int) < (nm.size : Int)
    case pos =>
      go_wp2
      exact bodyPost_ret (v := .bool true) (by simp [results, Try.results9, go_sem]) rfl ⟨rfl, HB.out⟩
    by_cases sot : (300 : Int) < (ot.size : Int)
    case pos =>
      go_wp2
      exact bodyPost_ret (v := .bool true) (by simp [results, Try.results9, go_sem]) rfl ⟨rfl, HB.out⟩
    by_cases svl : (1000 : Int) < (vl.size : Int)
    case pos =>
      go_wp2
      exact bodyPost_ret (v := .bool true) (by simp [results, Try.results9, go_sem]) rfl ⟨rfl, HB.out⟩
    have C1 := (gSet hf n nm vl).out
    obtain ⟨E1, k1, he1⟩ : ∃ E k, setR D n nm.data.toList vl.data.toList = (E, k) := ⟨(setR D n nm.data.toList vl.data.toList).1, (setR D n nm.data.toList vl.data.toList).2, rfl⟩
    rw [he1] at C1
    replace C1 := Lib.hid C1
    obtain ⟨ad, cd, xd, gd⟩ := Zd.out
    have ed := cell_of xd 0
    go_wp2_with fail
    (refine (C1.out _ _ gd).mono ?_)
    rintro e w3 ⟨a3, c3, rfl, o3, b3⟩
    clear xd gd ed
    replace Zd := Lib.hid (Zd.out.below b3)
    replace HB := Lib.hid (HB.out.trans (b3.mono HB.out.size))
    clear b3
    have al := (Below.refl w3.heap.size w3).alloc (Nat.le_refl _) (.cells #[.slice a3 E1.length c3] 24)
    have Za := Lib.hid (VD.new (OwnX.g o3))
    replace Zd := Lib.hid (Zd.out.below al)
    replace HB := Lib.hid (HB.out.trans (al.mono HB.out.size))
    generalize hW3 : w3.alloc (.cells #[.slice a3 E1.length c3] 24) = W3 at al Za Zd HB
    clear al o3
    by_cases z1 : k1 = 0
    case neg =>
      go_wp2_with fail
      (refine (CLs.out _).mono ?_)
      rintro e w4 ⟨rfl, b4⟩
      replace Zd := Lib.hid (Zd.out.below b4)
      replace Za := Lib.hid (Za.out.below b4)
      replace HB := Lib.hid (HB.out.trans (b4.mono HB.out.size))
      clear b4
      go_wp2
      exact bodyPost_ret (v := .bool true) (by simp [results, Try.results9, go_sem]) rfl ⟨rfl, HB.out⟩
    subst z1
    obtain ⟨i, rfl, R, hi, hs, he2⟩ := setR_inv (D := D) (n := n) (nm := nm.data.toList) (v := vl.data.toList) (by rw [he1])
    have he3 := he1.symm.trans he2
    obtain rfl : E1 = setM D i nm.data.toList vl.data.toList := (Prod.mk.inj he3).1
    have R1 := R.set (name := nm.data.toList) (v := vl.data.toList) hs
    have f1 := R1.fit (HF.set i (nm := nm.data.toList) (v := vl.data.toList) (by rw [lsize]; omega) (by rw [lsize]; omega))
    have C2 := (gAttr f1 (i : Int) nm).out
    rw [attr_set hi R1] at C2
    replace C2 := Lib.hid C2
    have C3 := (gAttr f1 m ot).out
    have C4 := (gAttr hf m ot).out
    obtain ⟨s3, t3, h3⟩ := attrV_form (attrM (setM D i nm.data.toList vl.data.toList) m ot.data.toList)
    obtain ⟨s4, t4, h4⟩ := attrV_form (attrM D m ot.data.toList)
    have HA : ¬ (m = (i : Int) ∧ ot = nm) → s3 = s4 ∧ t3 = t4 := fun h => by
      rw [attr_else R R1 m (fun h2 => h ⟨h2.1, bytes_ext h2.2⟩), h4] at h3
      simp at h3
      exact ⟨h3.1.symm, h3.2.symm⟩
    rw [h3] at C3
    rw [h4] at C4
    replace C3 := Lib.hid C3
    replace C4 := Lib.hid C4
    clear h3 h4
    clear C1 he1 he2 he3
    obtain ⟨aa, ca, xa, ga⟩ := Za.out
    have ea := cell_of xa 0
    go_wp2_with fail
    (refine (C2.out _ _ ga).mono ?_)
    rintro e w4 ⟨rfl, b4⟩
    clear xa ga ea
    replace Zd := Lib.hid (Zd.out.below b4)
    replace Za := Lib.hid (Za.out.below b4)
    replace HB := Lib.hid (HB.out.trans (b4.mono HB.out.size))
    clear b4
    rw [show attrV (some vl.data.toList) = .tuple #[.string vl, .bool true] from by rw [← strV_of (T := vl) rfl]; rfl]
    obtain ⟨aa, ca, xa, ga⟩ := Za.out
    have ea := cell_of xa 0
    go_wp2_with fail
    (refine (C3.out _ _ ga).mono ?_)
    rintro e w5 ⟨rfl, b5⟩
    clear xa ga ea
    replace Zd := Lib.hid (Zd.out.below b5)
    replace Za := Lib.hid (Za.out.below b5)
    replace HB := Lib.hid (HB.out.trans (b5.mono HB.out.size))
    clear b5
    obtain ⟨ad, cd, xd, gd⟩ := Zd.out
    have ed := cell_of xd 0
    go_wp2_with fail
    (refine (C4.out _ _ gd).mono ?_)
    rintro e w6 ⟨rfl, b6⟩
    clear xd gd ed
    replace Zd := Lib.hid (Zd.out.below b6)
    replace Za := Lib.hid (Za.out.below b6)
    replace HB := Lib.hid (HB.out.trans (b6.mono HB.out.size))
    clear b6
    by_cases hmn : m = (i : Int) ∧ ot = nm
    · obtain ⟨rfl, rfl⟩ := hmn
      clear HA
      go_wp2_with fail
      (refine (CLs.out _).mono ?_)
      rintro e w7 ⟨rfl, b7⟩
      replace Zd := Lib.hid (Zd.out.below b7)
      replace Za := Lib.hid (Za.out.below b7)
      replace HB := Lib.hid (HB.out.trans (b7.mono HB.out.size))
      clear b7
      go_wp2
      exact bodyPost_ret (v := .bool true) (by simp [results, Try.results9, go_sem]) rfl ⟨rfl, HB.out⟩
    obtain ⟨rfl, rfl⟩ := HA hmn
    by_cases e1 : m = (i : Int)
    · subst e1
      have e2 : ¬ ot = nm := fun h => hmn ⟨rfl, h⟩
      have e3 : (ot.toList == nm.toList) = false := by rw [beq_eq_false_iff_ne, ByteArray.toList_eq, ByteArray.toList_eq]; exact fun h => e2 (bytes_ext h)
      go_wp2_with fail
      (refine (CLs.out _).mono ?_)
      rintro e w7 ⟨rfl, b7⟩
      replace Zd := Lib.hid (Zd.out.below b7)
      replace Za := Lib.hid (Za.out.below b7)
      replace HB := Lib.hid (HB.out.trans (b7.mono HB.out.size))
      clear b7
      go_wp2
      exact bodyPost_ret (v := .bool true) (by simp [results, Try.results9, go_sem]) rfl ⟨rfl, HB.out⟩
    have e3 : (m == (i : Int)) = false := by simpa using e1
    go_wp2_with fail
    (refine (CLs.out _).mono ?_)
    rintro e w7 ⟨rfl, b7⟩
    replace Zd := Lib.hid (Zd.out.below b7)
    replace Za := Lib.hid (Za.out.below b7)
    replace HB := Lib.hid (HB.out.trans (b7.mono HB.out.size))
    clear b7
    go_wp2
    exact bodyPost_ret (v := .bool true) (by simp [results, Try.results9, go_sem]) rfl ⟨rfl, HB.out⟩

end Go.Proofs.Ytcmbkhlnigbooaa.Dm
