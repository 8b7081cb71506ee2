/- The law's own: DomChecks. -/
import Derived.Test.YtcmbkhlnigbooaaLwE
namespace Go.Proofs.Ytcmbkhlnigbooaa.Dm
open Go.RowKit

set_option maxRecDepth 100000 in
set_option maxHeartbeats 8000000 in
theorem checks_hid (D : List Nd) (hl : D.length ≤ 9223372036854775807) (hk : ∀ x ∈ D, x.a.length ≤ 9223372036854775807 ∧ x.c.length ≤ 9223372036854775807) (n : Int) (nm : ByteArray) : Hid (∀ W sl, DocG W sl D → Calls Try.prog 3 #[.agg #[sl], .int .i64 n, .string nm] W fun e w' => e = .returned (.bool true) ∧ Below W.heap.size W w') := Lib.hid fun w sl hd => by
  have CB := gBig hl hk
  obtain ⟨a, c, rfl⟩ := hd.form
  have CLs := lays_hid
  have al := (Below.refl w.heap.size w).alloc (Nat.le_refl _) (.cells #[.slice a D.length c] 24)
  have Zd := Lib.hid (VD.new hd)
  have HB := Lib.hid al
  generalize hW1 : w.alloc (.cells #[.slice a D.length c] 24) = W1 at al Zd HB
  clear al hd
  go_enter Try.func3, Try.ntmps3
  obtain ⟨ad, cd, xd, gd⟩ := Zd.out
  have ed := cell_of xd 0
  go_wp2_with fail
  (refine (CB.out _ _ gd).mono ?_)
  rintro e w2 ⟨bg, rfl, hb, b2⟩
  clear xd gd ed
  replace Zd := Lib.hid (Zd.out.below b2)
  replace HB := Lib.hid (HB.out.trans (b2.mono HB.out.size))
  clear b2
  cases bg with
  | true =>
    go_wp2
    exact bodyPost_ret (v := .bool true) (by simp [results, Try.results3, go_sem]) rfl ⟨rfl, HB.out⟩
  | false =>
    have HF := hb rfl
    have hf := HF.fit
    clear hb
    by_cases snm : (300 : Int) < (nm.size : Int)
    case pos =>
      go_wp2
      exact bodyPost_ret (v := .bool true) (by simp [results, Try.results3, go_sem]) rfl ⟨rfl, HB.out⟩
    have C1 := gOwn hf
    have C2 := (gAttr hf n nm).out
    have C3 := (rAttr hf n nm).out
    obtain ⟨s3, t3, h3⟩ := attrV_form (attrM D n nm.data.toList)
    rw [h3] at C2 C3
    replace C2 := Lib.hid C2
    replace C3 := Lib.hid C3
    clear h3
    have C4 := gCheck hf
    have C5 := rCheck hf
    generalize checkM D = ck at C4 C5
    have C6 := gBelow hf n
    have C7 := rBelow hf n
    have CI := gInts (belowI_len D n)
    have C8 := (gText hf n).out
    have C9 := (rText hf n).out
    obtain ⟨tx, htx⟩ := text_of (textsM D n)
    rw [strV_of htx] at C8 C9
    replace C8 := Lib.hid C8
    replace C9 := Lib.hid C9
    clear htx
    have CJ := gIn hf n
    have CK := rIn hf n
    generalize (thereM D n && upM D 0 n.toNat) = ib at CJ CK
    have CL := gSame hf
    clear CB
    obtain ⟨ad, cd, xd, gd⟩ := Zd.out
    have ed := cell_of xd 0
    go_wp2_with fail
    (refine (C1.out _ _ gd).mono ?_)
    rintro e w3 ⟨a3, c3, rfl, o3, b3⟩
    clear xd gd ed
    replace Zd := Lib.hid (Zd.out.below b3)
    replace HB := Lib.hid (HB.out.trans (b3.mono HB.out.size))
    clear b3
    have al := (Below.refl w3.heap.size w3).alloc (Nat.le_refl _) (.cells #[.slice a3 D.length c3] 24)
    have Zu := Lib.hid (VD.new (OwnX.g o3))
    replace Zd := Lib.hid (Zd.out.below al)
    replace HB := Lib.hid (HB.out.trans (al.mono HB.out.size))
    generalize hW3 : w3.alloc (.cells #[.slice a3 D.length c3] 24) = W3 at al Zu Zd HB
    clear al o3
    obtain ⟨ad, cd, xd, gd⟩ := Zd.out
    have ed := cell_of xd 0
    go_wp2_with fail
    (refine (C2.out _ _ gd).mono ?_)
    rintro e w4 ⟨rfl, b4⟩
    clear xd gd ed
    replace Zd := Lib.hid (Zd.out.below b4)
    replace Zu := Lib.hid (Zu.out.below b4)
    replace HB := Lib.hid (HB.out.trans (b4.mono HB.out.size))
    clear b4
    obtain ⟨au, cu, xu, gu⟩ := Zu.out
    have eu := cell_of xu 0
    go_wp2_with fail
    (refine (C3.out _ _ gu).mono ?_)
    rintro e w5 ⟨rfl, b5⟩
    clear xu gu eu
    replace Zd := Lib.hid (Zd.out.below b5)
    replace Zu := Lib.hid (Zu.out.below b5)
    replace HB := Lib.hid (HB.out.trans (b5.mono HB.out.size))
    clear b5
    go_wp2_with fail
    obtain ⟨ad, cd, yd⟩ := Zd.out.x
    obtain ⟨au, cu, yu⟩ := Zu.out.x
    obtain ⟨C, hC⟩ : ∃ C : World → Prop, ∀ w', C w' ↔ (VX w' w.heap.size ad cd D ∧ VX w' w3.heap.size au cu D ∧ Below w.heap.size w w') := ⟨_, fun _ => Iff.rfl⟩
    have HC := Lib.hid hC
    clear hC
    have hC0 : C w5.drew := (HC.out _).2 ⟨yd.below (Below.refl _ _).drew, yu.below (Below.refl _ _).drew, HB.out.drew⟩
    have HK : Hid (∀ w', C w' → ∀ w7, Below w'.heap.size w' w7 → C w7) := Lib.hid fun w' hc w7 b => by
      obtain ⟨qd, qu, K4⟩ := (HC.out w').1 hc
      exact (HC.out _).2 ⟨qd.below b, qu.below b, K4.trans (b.mono K4.size)⟩
    clear yd Zd yu Zu HB
    refine region_class C (by kernel_rfl) (by kernel_rfl) hC0 ?_
    clear hC0
    repeat
      first
        | go_big_quiet_skip
        | (go_big_quiet_want; go_big_quiet_op; go_big_quiet_on)
        | (refine BigFrame.wpQuiet_want rfl (fun K hK => ?_)
           apply Exists.intro
           refine ⟨fun w' hc => ?_, hK _ ?_⟩
           · obtain ⟨qd, qu, K4⟩ := (HC.out w').1 hc
             have dd := qd.c0
             have du := qu.c0
             unfold Oper.quietAt
             go_simp
             first
               | done
               | rfl
               | ((with_reducible refine (C4.out w' _ qd.g).mono ?_); rintro e w7 ⟨rfl, b7⟩; exact ⟨rfl, HK.out w' hc w7 b7⟩)
               | ((with_reducible refine (C5.out w' _ qu.g).mono ?_); rintro e w7 ⟨rfl, b7⟩; exact ⟨rfl, HK.out w' hc w7 b7⟩)
           clear hK K
           simp only [Act.put, List.setIfInBounds_toArray, List.set_cons_zero, List.set_cons_succ])
    refine wpQuiet_nil ?_
    intro w6 hc
    obtain ⟨qd, qu, K4⟩ := (HC.out w6).1 hc
    clear hc HC HK
    have Zd := Lib.hid qd.v
    have Zu := Lib.hid qu.v
    have HB := Lib.hid K4
    clear K4 qd qu
    go_wp2_with fail
    obtain ⟨ad, cd, yd⟩ := Zd.out.x
    obtain ⟨au, cu, yu⟩ := Zu.out.x
    obtain ⟨C, hC⟩ : ∃ C : World → Prop, ∀ w', C w' ↔ (VX w' w.heap.size ad cd D ∧ VX w' w3.heap.size au cu D ∧ Below w.heap.size w w') := ⟨_, fun _ => Iff.rfl⟩
    have HC := Lib.hid hC
    clear hC
    have hC0 : C w6.drew := (HC.out _).2 ⟨yd.below (Below.refl _ _).drew, yu.below (Below.refl _ _).drew, HB.out.drew⟩
    have HS : Hid (∀ w', C w' → (w'.cell? ⟨w.heap.size, 0, none⟩ = some (.slice ad D.length cd) ∧ w'.cell? ⟨w3.heap.size, 0, none⟩ = some (.slice au D.length cu) ∧ C w')) := Lib.hid fun w' hc => by
      obtain ⟨qd, qu, K4⟩ := (HC.out w').1 hc
      exact ⟨qd.c0, qu.c0, hc⟩
    have HK : Hid (∀ w', C w' → ∀ w7, Below w'.heap.size w' w7 → C w7) := Lib.hid fun w' hc w7 b => by
      obtain ⟨qd, qu, K4⟩ := (HC.out w').1 hc
      exact (HC.out _).2 ⟨qd.below b, qu.below b, K4.trans (b.mono K4.size)⟩
    have HGd : Hid (∀ w', C w' → DocG w' (.slice ad D.length cd) D) := Lib.hid fun w' hc => ((HC.out w').1 hc).1.g
    have HGu : Hid (∀ w', C w' → DocG w' (.slice au D.length cu) D) := Lib.hid fun w' hc => ((HC.out w').1 hc).2.1.g
    have S0 := HS.out _ hC0
    clear yd Zd yu Zu HB hC0
    go_region_held3 (fun w' => w'.cell? ⟨w.heap.size, 0, none⟩ = some (.slice ad D.length cd) ∧ w'.cell? ⟨w3.heap.size, 0, none⟩ = some (.slice au D.length cu) ∧ C w') (first | assumption | fail) (first
      | (go_at_call 17
         (with_reducible refine (CLs.out _).mono ?_)
         rintro e v1 ⟨rfl, b1⟩
         have S1 := HS.out _ (HK.out _ (S0.2.2) _ b1)
         clear b1 S0)
      | (go_at_call 19
         (with_reducible refine (C6.out _ _ (HGd.out _ (S1.2.2))).mono ?_)
         rintro e v2 ⟨_, rfl, o2, b2⟩
         have S2 := HS.out _ (HK.out _ (S1.2.2) _ b2)
         have I2 := Lib.hid o2.in'
         clear b2 S1 o2)
      | (go_at_call 20
         (with_reducible refine (C7.out _ _ (HGu.out _ (S2.2.2))).mono ?_)
         rintro e v3 ⟨_, rfl, o3, b3⟩
         have S3 := HS.out _ (HK.out _ (S2.2.2) _ b3)
         have I3 := Lib.hid (And.intro (I2.out.below b3) o3.in')
         clear b3 S2 o3 I2)
      | (go_at_call 18
         (with_reducible refine (CI.out _ _ _ I3.out.1 I3.out.2).mono ?_)
         rintro e v4 ⟨rfl, b4⟩
         have S4 := HS.out _ (HK.out _ (S3.2.2) _ b4)
         clear b4 S3 I3)
      | (go_at_call 21
         (with_reducible refine (C8.out _ _ (HGd.out _ (S4.2.2))).mono ?_)
         rintro e v5 ⟨rfl, b5⟩
         have S5 := HS.out _ (HK.out _ (S4.2.2) _ b5)
         clear b5 S4)
      | (go_at_call 22
         (with_reducible refine (C9.out _ _ (HGu.out _ (S5.2.2))).mono ?_)
         rintro e v6 ⟨rfl, b6⟩
         have S6 := HS.out _ (HK.out _ (S5.2.2) _ b6)
         clear b6 S5)
      | (go_at_call 23
         (with_reducible refine (CJ.out _ _ (HGd.out _ (S6.2.2))).mono ?_)
         rintro e v7 ⟨rfl, b7⟩
         have S7 := HS.out _ (HK.out _ (S6.2.2) _ b7)
         clear b7 S6)
      | (go_at_call 24
         (with_reducible refine (CK.out _ _ (HGu.out _ (S7.2.2))).mono ?_)
         rintro e v8 ⟨rfl, b8⟩
         have S8 := HS.out _ (HK.out _ (S7.2.2) _ b8)
         clear b8 S7)
      | (go_at_call 25
         (with_reducible refine (CL.out _ _ _ (HGd.out _ (S8.2.2)) (HGu.out _ (S8.2.2))).mono ?_)
         rintro e v9 ⟨rfl, b9⟩
         have S9 := HS.out _ (HK.out _ (S8.2.2) _ b9)
         clear b9 S8))
    all_goals
      have B9 := ((HC.out _).1 (S9.2.2)).2.2
      go_wp2
      exact bodyPost_ret (v := .bool true) (by simp [results, Try.results3, go_sem]) rfl ⟨rfl, B9⟩

end Go.Proofs.Ytcmbkhlnigbooaa.Dm
