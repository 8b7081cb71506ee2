/- The law's own: DomPlaces. -/
import Derived.IntWalk
import Derived.Test.YtcmbkhlnigbooaaLwE
namespace Go.Proofs.Ytcmbkhlnigbooaa.Dm
open Go.RowKit

theorem IntIn.addr {w : World} {a : Option Addr} {c u : Nat} {L : List Nat} (h : IntIn w (.slice a L.length c) (natsI L)) (hu : u < L.length) : ∃ B off, a = some ⟨B, off, none⟩ := by
  rw [show L.length = (natsI L).length from (natsI_length L).symm] at h
  obtain ⟨B, off, h1, -⟩ := h.at (k := u) (by rw [natsI_length]; exact hu)
  exact ⟨B, off, h1⟩
theorem IntIn.nat {w : World} {B off c u x : Nat} {L : List Nat} (h : IntIn w (.slice (some ⟨B, off, none⟩) L.length c) (natsI L)) (hx : L[u]? = some x) : w.cell? ⟨B, off + u, none⟩ = some (.int .i64 (x : Int)) := by
  have hu : u < L.length := (List.getElem?_eq_some_iff.1 hx).1
  have hnl : (natsI L)[u]? = some (x : Int) := by simp [natsI, hx]
  rw [show L.length = (natsI L).length from (natsI_length L).symm] at h
  obtain ⟨B2, off2, h1, h2⟩ := h.at (k := u) (by rw [natsI_length]; exact hu)
  cases h1
  rw [h2, (List.getElem?_eq_some_iff.1 hnl).2]
theorem ints_from (C : List Nat) (a : Option Addr) (c : Nat) (hc : C.length ≤ c) (w : World) (h : IntIn w (.slice a C.length c) (natsI C)) (i : Nat) (hi : i ≤ C.length) : ∃ a2 c2, (∀ W, (Instr.slice 33 (.slice a C.length c) (some (.int .i64 (i : Int))) none none).run Try.prog W = .ok (.slice a2 (C.length - i) c2) W) ∧ IntIn w (.slice a2 (C.length - i) c2) (natsI (C.drop i)) := by
  obtain ⟨i0, hi0, hz0, hz1, hz2⟩ := info_parts Tinfo3
  have hb : ∀ W, (Instr.sliceBound (.int .i64 (i : Int)) C.length .sliceB).run Try.prog W = .ok i W := fun W => by
    have := Go.run_sliceBound (P := Try.prog) (w := W) .i64 (i : Int) C.length .sliceB (by omega) (by omega)
    simpa using this
  by_cases e : i = C.length
  · refine ⟨if c = i then a else a.map (·.add (i * 1)), c - i, fun W => ?_, ?_⟩
    · simp [Instr.slice, run_underlying Try.underlying33, Instr.sliceBounds, hb]
    · subst e
      rw [List.drop_length, Nat.sub_self]
      exact IntIn.nil _ _ _
  · have hlt : i < (natsI C).length := by rw [natsI_length]; omega
    have h' : IntIn w (.slice a (natsI C).length c) (natsI C) := by rw [natsI_length]; exact h
    obtain ⟨B, off, cap', e', hc'⟩ : ∃ B off cap', Value.slice a (natsI C).length c = .slice (some ⟨B, off, none⟩) (natsI C).length cap' ∧ ∀ j v, (inC (natsI C))[j]? = some v → w.cell? ⟨B, off + j, none⟩ = some v := by
      rcases h'.2.2 with ⟨_, h0⟩ | h0
      · omega
      · exact h0
    cases e'
    refine ⟨some ⟨B, off + i, none⟩, c - i, fun W => ?_, ?_⟩
    · have h3 : ¬ c = i := by omega
      simp [Instr.slice, run_underlying Try.underlying33, Instr.sliceBounds, hb, h3, Addr.add]
    · have hl : C.length - i = (natsI (C.drop i)).length := by rw [natsI_length, List.length_drop]
      rw [hl]
      refine ⟨?_, ?_, ?_⟩
      · exact inC_length _
      · exact inC_one _
      · refine .inr ⟨B, off + i, c - i, rfl, fun j v hj => ?_⟩
        rw [show inC (natsI (C.drop i)) = (inC (natsI C)).drop i by simp [inC, natsI, List.map_drop], List.getElem?_drop] at hj
        rw [Nat.add_assoc]
        exact hc' _ _ hj
set_option maxRecDepth 100000 in
set_option maxHeartbeats 8000000 in
theorem places_hid (D : List Nd) (hl : D.length ≤ 9223372036854775807) (hk : ∀ x ∈ D, x.a.length ≤ 9223372036854775807 ∧ x.c.length ≤ 9223372036854775807) (q n : Int) : Hid (∀ W sl, DocG W sl D → Calls Try.prog 8 #[.agg #[sl], .int .i64 q, .int .i64 n] W fun e w' => e = .returned (.bool true) ∧ Below W.heap.size W w') := Lib.hid fun w sl hd => by
  have CB := gBig hl hk
  obtain ⟨a, c, rfl⟩ := hd.form
  have CLs := lays_hid
  have al := (Below.refl w.heap.size w).alloc (Nat.le_refl _) (.cells #[.slice a D.length c] 24)
  have Zd := Lib.hid (VD.new hd)
  have HB := Lib.hid al
  generalize hW1 : w.alloc (.cells #[.slice a D.length c] 24) = W1 at al Zd HB
  clear al hd
  go_enter Try.func8, Try.ntmps8
  obtain ⟨ad, cd, xd, gd⟩ := Zd.out
  have ed := cell_of xd 0
  go_wp2_with fail
  (refine (CB.out _ _ gd).mono ?_)
  rintro e w2 ⟨bg, rfl, hb, b2⟩
  clear xd gd ed
  replace Zd := Lib.hid (Zd.out.below b2)
  replace HB := Lib.hid (HB.out.trans (b2.mono HB.out.size))
  clear b2
  cases bg with
  | true =>
    go_wp2
    exact bodyPost_ret (v := .bool true) (by simp [results, Try.results8, go_sem]) rfl ⟨rfl, HB.out⟩
  | false =>
    have HF := hb rfl
    have hf := HF.fit
    clear hb
    have C1 := gBelow hf n
    have C2 := (gPut hf q n).out
    obtain ⟨E2, k2, he2⟩ : ∃ E z, putR D q n = (E, z) := ⟨_, _, rfl⟩
    rw [he2] at C2
    replace C2 := Lib.hid C2
    have C3 := (gCut hf n).out
    obtain ⟨E3, k3, he3⟩ : ∃ E z, cutR D n = (E, z) := ⟨_, _, rfl⟩
    rw [he3] at C3
    replace C3 := Lib.hid C3
    replace he2 := Lib.hid he2
    replace he3 := Lib.hid he3
    obtain ⟨L, hL⟩ : ∃ L, belowM D n = L := ⟨_, rfl⟩
    have hLl := belowM_len D n
    rw [hL] at C1 hLl
    have CT := (gText hf n).out
    obtain ⟨tx, htx⟩ := text_of (textsM D n)
    rw [strV_of htx] at CT
    replace htx := Lib.hid htx
    replace CT := Lib.hid CT
    replace hL := Lib.hid hL
    clear CB
    obtain ⟨ad, cd, xd, gd⟩ := Zd.out
    have ed := cell_of xd 0
    go_wp2_with fail
    (refine (C1.out _ _ gd).mono ?_)
    rintro e w3 ⟨v3, rfl, o3, b3⟩
    clear xd gd ed
    replace Zd := Lib.hid (Zd.out.below b3)
    replace HB := Lib.hid (HB.out.trans (b3.mono HB.out.size))
    clear b3
    obtain ⟨la, lc, rfl⟩ := o3.form
    have Il := o3.in'
    clear o3
    replace Il := Lib.hid Il
    obtain ⟨ad, cd, xd, gd⟩ := Zd.out
    have ed := cell_of xd 0
    go_wp2_with fail
    (refine (C2.out _ _ gd).mono ?_)
    rintro e w4 ⟨a4, c4, rfl, o4, b4⟩
    clear xd gd ed
    replace Zd := Lib.hid (Zd.out.below b4)
    replace HB := Lib.hid (HB.out.trans (b4.mono HB.out.size))
    replace Il := Lib.hid (Il.out.below b4)
    clear b4
    have al := (Below.refl w4.heap.size w4).alloc (Nat.le_refl _) (.cells #[.slice a4 E2.length c4] 24)
    have Za := Lib.hid (VD.new (OwnX.g o4))
    replace Zd := Lib.hid (Zd.out.below al)
    replace Il := Lib.hid (Il.out.below al)
    replace HB := Lib.hid (HB.out.trans (al.mono HB.out.size))
    generalize hW4 : w4.alloc (.cells #[.slice a4 E2.length c4] 24) = W4 at al Za Zd Il HB
    clear al o4
    obtain ⟨ad, cd, xd, gd⟩ := Zd.out
    have ed := cell_of xd 0
    go_wp2_with fail
    (refine (C3.out _ _ gd).mono ?_)
    rintro e w5 ⟨a5, c5, rfl, o5, b5⟩
    clear xd gd ed
    replace Zd := Lib.hid (Zd.out.below b5)
    replace Za := Lib.hid (Za.out.below b5)
    replace HB := Lib.hid (HB.out.trans (b5.mono HB.out.size))
    replace Il := Lib.hid (Il.out.below b5)
    clear b5
    have al := (Below.refl w5.heap.size w5).alloc (Nat.le_refl _) (.cells #[.slice a5 E3.length c5] 24)
    have Zb := Lib.hid (VD.new (OwnX.g o5))
    replace Zd := Lib.hid (Zd.out.below al)
    replace Za := Lib.hid (Za.out.below al)
    replace Il := Lib.hid (Il.out.below al)
    replace HB := Lib.hid (HB.out.trans (al.mono HB.out.size))
    generalize hW5 : w5.alloc (.cells #[.slice a5 E3.length c5] 24) = W5 at al Zb Zd Za Il HB
    clear al o5
    clear C1 C2 C3
    by_cases z2 : k2 = 0
    · subst z2
      obtain ⟨p, m, hq, hn, R, h0, h1, h2, h3, h4, h5⟩ := putR_inv (D := D) (q := q) (n := n) (by rw [he2.out])
      have h6 := he2.out.symm.trans h5
      obtain rfl : E2 = putM D p m := (Prod.mk.inj h6).1
      have R2 := R.put h0 h1 h2 h3 h4
      have f2 := R2.fit (hf.txt.put p m)
      have P1 : ∃ l0, belowM (putM D p m) q = l0 ++ L := by
        rw [← hL.out, hq, hn]
        unfold belowM
        rw [there_of R2, there_of R, put_len, Int.toNat_natCast, Int.toNat_natCast, decide_eq_true (by omega), decide_eq_true (by omega), decide_eq_true (by omega), decide_eq_true (by omega), Bool.and_true, if_pos rfl, if_pos rfl]
        exact put_end R h0 h1 h2 h3 h4
      obtain ⟨l0, P1⟩ := P1
      have CC1 := (gBelow f2 q).out
      have hml := belowM_len (putM D p m) q
      rw [P1] at CC1 hml
      replace CC1 := Lib.hid CC1
      have P2 : (thereM (putM D p m) n && upM (putM D p m) 0 n.toNat) = (thereM (putM D p m) q && upM (putM D p m) 0 q.toNat) := by
        rw [hq, hn, there_of R2, there_of R2, put_len, Int.toNat_natCast, Int.toNat_natCast, decide_eq_true (by omega), decide_eq_true (by omega), decide_eq_true (by omega), decide_eq_true (by omega), put_in R h0 h1 h2 h3 h4]
      have CC2 := (gIn f2 n).out
      have CC3 := (gIn f2 q).out
      rw [P2] at CC2
      generalize (thereM (putM D p m) q && upM (putM D p m) 0 q.toNat) = ib at CC2 CC3
      replace CC2 := Lib.hid CC2
      replace CC3 := Lib.hid CC3
      have P3 : textsM (putM D p m) n = textsM D n := by
        unfold textsM belowM
        rw [hn, there_of R2, there_of R, put_len, Int.toNat_natCast, put_down R h1 h4]
        exact flatMap_same fun x _ => put_data D p m x
      have CC4 := (gText f2 n).out
      rw [P3, strV_of htx.out] at CC4
      replace CC4 := Lib.hid CC4
      have CI := gInts (C := natsI L) (by rw [natsI_length]; omega)
      replace hq := Lib.hid hq
      replace hn := Lib.hid hn
      clear P1 P2 P3 h5 h6 he2 R2
      obtain ⟨aa, ca, xa, ga⟩ := Za.out
      have ea := cell_of xa 0
      go_wp2_with fail
      (refine (CC1.out _ _ ga).mono ?_)
      rintro e w6 ⟨v6, rfl, o6, b6⟩
      clear xa ga ea
      replace Zd := Lib.hid (Zd.out.below b6)
      replace Za := Lib.hid (Za.out.below b6)
      replace Zb := Lib.hid (Zb.out.below b6)
      replace HB := Lib.hid (HB.out.trans (b6.mono HB.out.size))
      replace Il := Lib.hid (Il.out.below b6)
      clear b6
      obtain ⟨ma, mc, rfl⟩ := o6.form
      have hcap := cap_of (show w6.ownsRow _ 3 1 _ _ _ from o6)
      have Im := o6.in'
      clear o6
      have hlen : (l0 ++ L).length = l0.length + L.length := List.length_append
      obtain ⟨a2, c2, HR, Id⟩ := ints_from (l0 ++ L) ma mc hcap w6 Im l0.length (by omega)
      rw [List.drop_left] at Id
      rw [hlen, Nat.add_sub_cancel_left] at HR Id
      rw [hlen] at hml hcap
      clear Im hlen
      rw [List.length_append]
      obtain ⟨M, hM⟩ : ∃ M, l0.length + L.length = M := ⟨_, rfl⟩
      rw [hM] at HR hml ⊢
      have hMi : (M : Int) - (L.length : Int) = (l0.length : Int) := by omega
      rw [← hMi] at HR
      have zM : ¬ M < L.length := by omega
      have zW : IntKind.i64.wrap ((M : Int) - (L.length : Int)) = (M : Int) - (L.length : Int) := IntWalk.i64_in _ (by omega)
      replace Id := Lib.hid Id
      clear hcap hM hMi hml
      go_wp2_with fail
      obtain ⟨ad, cd, yd⟩ := Zd.out.x
      obtain ⟨aa, ca, ya⟩ := Za.out.x
      obtain ⟨ab, cb, yb⟩ := Zb.out.x
      obtain ⟨C, hC⟩ : ∃ C : World → Prop, ∀ w', C w' ↔ (VX w' w.heap.size ad cd D ∧ VX w' w4.heap.size aa ca (putM D p m) ∧ VX w' w5.heap.size ab cb E3 ∧ IntIn w' (.slice la L.length lc) (natsI L) ∧ IntIn w' (.slice a2 L.length c2) (natsI L) ∧ Below w.heap.size w w') := ⟨_, fun _ => Iff.rfl⟩
      have HC := Lib.hid hC
      clear hC
      have hC0 : C w6.drew := (HC.out _).2 ⟨yd.below (Below.refl _ _).drew, ya.below (Below.refl _ _).drew, yb.below (Below.refl _ _).drew, Il.out.below (Below.refl _ _).drew, Id.out.below (Below.refl _ _).drew, HB.out.drew⟩
      have HK : Hid (∀ w', C w' → ∀ w7, Below w'.heap.size w' w7 → C w7) := Lib.hid fun w' hc w7 b => by
        obtain ⟨qd, qa, qb, qIl, qId, K4⟩ := (HC.out w').1 hc
        exact (HC.out _).2 ⟨qd.below b, qa.below b, qb.below b, qIl.below b, qId.below b, K4.trans (b.mono K4.size)⟩
      clear yd Zd ya Za yb Zb Il Id HB
      refine region_class C (by kernel_rfl) (by kernel_rfl) hC0 ?_
      clear hC0
      repeat
        first
          | go_big_quiet_skip
          | (go_big_quiet_want; go_big_quiet_op; go_big_quiet_on)
          | (refine BigFrame.wpQuiet_want rfl (fun K hK => ?_)
             apply Exists.intro
             refine ⟨fun w' hc => ?_, hK _ ?_⟩
             · obtain ⟨qd, qa, qb, qIl, qId, K4⟩ := (HC.out w').1 hc
               have dd := qd.c0
               have da := qa.c0
               have db := qb.c0
               unfold Oper.quietAt
               go_simp
               first
                 | done
                 | rfl
                 | ((with_reducible refine (CI.out w' _ _ qId qIl).mono ?_); rintro e w7 ⟨rfl, b7⟩; exact ⟨rfl, HK.out w' hc w7 b7⟩)
                 | ((with_reducible refine (CC2.out w' _ qa.g).mono ?_); rintro e w7 ⟨rfl, b7⟩; exact ⟨rfl, HK.out w' hc w7 b7⟩)
                 | ((with_reducible refine (CC3.out w' _ qa.g).mono ?_); rintro e w7 ⟨rfl, b7⟩; exact ⟨rfl, HK.out w' hc w7 b7⟩)
                 | ((with_reducible refine (CC4.out w' _ qa.g).mono ?_); rintro e w7 ⟨rfl, b7⟩; exact ⟨rfl, HK.out w' hc w7 b7⟩)
                 | ((with_reducible refine (CT.out w' _ qd.g).mono ?_); rintro e w7 ⟨rfl, b7⟩; exact ⟨rfl, HK.out w' hc w7 b7⟩)
             clear hK K
             simp only [Act.put, List.setIfInBounds_toArray, List.set_cons_zero, List.set_cons_succ])
      refine wpQuiet_nil ?_
      intro w7 hc
      obtain ⟨qd, qa, qb, qIl, qId, K4⟩ := (HC.out w7).1 hc
      clear hc HC HK
      have Zd := Lib.hid qd.v
      have Za := Lib.hid qa.v
      have Zb := Lib.hid qb.v
      have Il := Lib.hid qIl
      have Id := Lib.hid qId
      have HB := Lib.hid K4
      clear K4 qd qa qb qIl qId
      clear HR zM zW Id
      by_cases z3 : k3 = 0
      case neg =>
        go_wp2_with fail
        (refine (CLs.out _).mono ?_)
        rintro e w8 ⟨rfl, b8⟩
        replace Zd := Lib.hid (Zd.out.below b8)
        replace Za := Lib.hid (Za.out.below b8)
        replace Zb := Lib.hid (Zb.out.below b8)
        replace HB := Lib.hid (HB.out.trans (b8.mono HB.out.size))
        replace Il := Lib.hid (Il.out.below b8)
        clear b8
        go_wp2
        exact bodyPost_ret (v := .bool true) (by simp [results, Try.results8, go_sem]) rfl ⟨rfl, HB.out⟩
      subst z3
      obtain ⟨m3, hn3, R3, hm0, hm3, he4⟩ := cutR_inv (D := D) (n := n) (by rw [he3.out])
      have he5 := he3.out.symm.trans he4
      obtain rfl : E3 = cutM D m3 := (Prod.mk.inj he5).1
      have R4 := R3.cut hm0
      have f3 := R4.fit (hf.txt.cut m3)
      have hLm : L = downM D m3 := by
        rw [← hL.out, hn3]
        unfold belowM
        rw [there_of R3, Int.toNat_natCast, decide_eq_true (by omega), decide_eq_true (by omega), Bool.and_true, if_pos rfl]
      have CF : ∀ x ∈ L, Hid (∀ W sl, DocG W sl (cutM D m3) → Calls Try.prog 23 #[.agg #[sl], .int .i64 (x : Int)] W fun e w' => e = .returned (.bool false) ∧ Below W.heap.size W w') := fun x hx => by
        have C := (gIn f3 (x : Int)).out
        rw [hLm, mem_down R3 m3 hm3] at hx
        rw [Int.toNat_natCast, cut_up R3 hm0 x hx.1 hx.2, Bool.and_false] at C
        exact Lib.hid C
      have CB3 := (gBelow f3 n).out
      rw [show belowM (cutM D m3) n = L from by
        rw [hLm, hn3]
        unfold belowM
        rw [there_of R4, cut_len, Int.toNat_natCast, decide_eq_true (by omega), decide_eq_true (by omega), Bool.and_true, if_pos rfl, cut_down R3 hm3]] at CB3
      replace CB3 := Lib.hid CB3
      have CX := (gText f3 n).out
      rw [show textsM (cutM D m3) n = textsM D n from by
        unfold textsM
        rw [show belowM (cutM D m3) n = belowM D n from by
          rw [hL.out, hLm, hn3]
          unfold belowM
          rw [there_of R4, cut_len, Int.toNat_natCast, decide_eq_true (by omega), decide_eq_true (by omega), Bool.and_true, if_pos rfl, cut_down R3 hm3]]
        exact flatMap_same fun x _ => cut_data D m3 x, strV_of htx.out] at CX
      replace CX := Lib.hid CX
      have CI := gInts (C := natsI L) (by rw [natsI_length]; omega)
      replace CF := Lib.hid CF
      replace hn3 := Lib.hid hn3
      replace hLm := Lib.hid hLm
      clear he4 he5 R4
      have H0 := Lib.hid (And.intro Zd.out (And.intro Zb.out (And.intro Il.out HB.out)))
      clear Za Zd Zb Il HB
      go_wp2
      go_loopw [13] (fun i wr => ∃ u : Nat, i = .int .i64 u ∧ u ≤ L.length ∧ Hid (VD wr w.heap.size D ∧ VD wr w5.heap.size (cutM D m3) ∧ IntIn wr (.slice la L.length lc) (natsI L) ∧ Below w.heap.size w wr)) (fun i _ => L.length - (intOf i).toNat)
      case atStart => exact ⟨0, rfl, Nat.zero_le _, H0⟩
      case round =>
        obtain ⟨u, rfl, hu, H1⟩ := hrel
        clear H0
        by_cases hlt : u < L.length
        · obtain ⟨x, hx⟩ : ∃ x, L[u]? = some x := ⟨_, List.getElem?_eq_getElem hlt⟩
          have CFx := CF.out x (List.mem_of_getElem? hx)
          have zu : (u : Int) < (L.length : Int) := by omega
          obtain ⟨BL, oL, rfl⟩ := H1.out.2.2.1.addr hlt
          replace hx := Lib.hid hx
          have Zd := Lib.hid H1.out.1
          have Zb := Lib.hid H1.out.2.1
          have Il := Lib.hid H1.out.2.2.1
          have HB := Lib.hid H1.out.2.2.2
          clear H1
          go_wp2_with fail
          obtain ⟨ad, cd, yd⟩ := Zd.out.x
          obtain ⟨ab, cb, yb⟩ := Zb.out.x
          obtain ⟨C, hC⟩ : ∃ C : World → Prop, ∀ w', C w' ↔ (VX w' w.heap.size ad cd D ∧ VX w' w5.heap.size ab cb (cutM D m3) ∧ IntIn w' (.slice (some ⟨BL, oL, none⟩) L.length lc) (natsI L) ∧ Below w.heap.size w w') := ⟨_, fun _ => Iff.rfl⟩
          have HC := Lib.hid hC
          clear hC
          have hC0 : C wr.drew := (HC.out _).2 ⟨yd.below (Below.refl _ _).drew, yb.below (Below.refl _ _).drew, Il.out.below (Below.refl _ _).drew, HB.out.drew⟩
          have HK : Hid (∀ w', C w' → ∀ w7, Below w'.heap.size w' w7 → C w7) := Lib.hid fun w' hc w7 b => by
            obtain ⟨qd, qb, qIl, K4⟩ := (HC.out w').1 hc
            exact (HC.out _).2 ⟨qd.below b, qb.below b, qIl.below b, K4.trans (b.mono K4.size)⟩
          clear yd Zd yb Zb Il HB
          refine region_class C (by kernel_rfl) (by kernel_rfl) hC0 ?_
          clear hC0
          repeat
            first
              | go_big_quiet_skip
              | (go_big_quiet_want; go_big_quiet_op; go_big_quiet_on)
              | (refine BigFrame.wpQuiet_want rfl (fun K hK => ?_)
                 apply Exists.intro
                 refine ⟨fun w' hc => ?_, hK _ ?_⟩
                 · obtain ⟨qd, qb, qIl, K4⟩ := (HC.out w').1 hc
                   have dd := qd.c0
                   have db := qb.c0
                   have dl := qIl.nat hx.out
                   unfold Oper.quietAt
                   go_simp
                   first
                     | done
                     | rfl
                     | ((with_reducible refine (CFx.out w' _ qb.g).mono ?_); rintro e w7 ⟨rfl, b7⟩; exact ⟨rfl, HK.out w' hc w7 b7⟩)
                 clear hK K
                 simp only [Act.put, List.setIfInBounds_toArray, List.set_cons_zero, List.set_cons_succ])
          refine wpQuiet_nil ?_
          intro w9 hc
          obtain ⟨qd, qb, qIl, K4⟩ := (HC.out w9).1 hc
          clear hc HC HK
          have Zd := Lib.hid qd.v
          have Zb := Lib.hid qb.v
          have Il := Lib.hid qIl
          have HB := Lib.hid K4
          clear K4 qd qb qIl
          go_wp2
          go_roundw
          case rel => exact ⟨u + 1, by go_num, by omega, Lib.hid ⟨Zd.out, Zb.out, Il.out, HB.out⟩⟩
          case measure => simp [intOf]; omega
        · obtain rfl : u = L.length := by omega
          have Zd := Lib.hid H1.out.1
          have Zb := Lib.hid H1.out.2.1
          have Il := Lib.hid H1.out.2.2.1
          have HB := Lib.hid H1.out.2.2.2
          clear H1 CF
          go_wp2_with fail
          obtain ⟨ad, cd, yd⟩ := Zd.out.x
          obtain ⟨ab, cb, yb⟩ := Zb.out.x
          obtain ⟨C, hC⟩ : ∃ C : World → Prop, ∀ w', C w' ↔ (VX w' w.heap.size ad cd D ∧ VX w' w5.heap.size ab cb (cutM D m3) ∧ IntIn w' (.slice la L.length lc) (natsI L) ∧ Below w.heap.size w w') := ⟨_, fun _ => Iff.rfl⟩
          have HC := Lib.hid hC
          clear hC
          have hC0 : C wr.drew := (HC.out _).2 ⟨yd.below (Below.refl _ _).drew, yb.below (Below.refl _ _).drew, Il.out.below (Below.refl _ _).drew, HB.out.drew⟩
          have HS : Hid (∀ w', C w' → (w'.cell? ⟨w.heap.size, 0, none⟩ = some (.slice ad D.length cd) ∧ w'.cell? ⟨w5.heap.size, 0, none⟩ = some (.slice ab (cutM D m3).length cb) ∧ C w')) := Lib.hid fun w' hc => by
            obtain ⟨qd, qb, qIl, K4⟩ := (HC.out w').1 hc
            exact ⟨qd.c0, qb.c0, hc⟩
          have HK : Hid (∀ w', C w' → ∀ w7, Below w'.heap.size w' w7 → C w7) := Lib.hid fun w' hc w7 b => by
            obtain ⟨qd, qb, qIl, K4⟩ := (HC.out w').1 hc
            exact (HC.out _).2 ⟨qd.below b, qb.below b, qIl.below b, K4.trans (b.mono K4.size)⟩
          have HGd : Hid (∀ w', C w' → DocG w' (.slice ad D.length cd) D) := Lib.hid fun w' hc => ((HC.out w').1 hc).1.g
          have HGb : Hid (∀ w', C w' → DocG w' (.slice ab (cutM D m3).length cb) (cutM D m3)) := Lib.hid fun w' hc => ((HC.out w').1 hc).2.1.g
          have HGIl : Hid (∀ w', C w' → IntIn w' (.slice la L.length lc) (natsI L)) := Lib.hid fun w' hc => ((HC.out w').1 hc).2.2.1
          have S0 := HS.out _ hC0
          clear yd Zd yb Zb Il HB hC0
          go_region_held3 (fun w' => w'.cell? ⟨w.heap.size, 0, none⟩ = some (.slice ad D.length cd) ∧ w'.cell? ⟨w5.heap.size, 0, none⟩ = some (.slice ab (cutM D m3).length cb) ∧ C w') (first | assumption | fail) (first
            | (go_at_call 17
               (with_reducible refine (CLs.out _).mono ?_)
               rintro e v1 ⟨rfl, b1⟩
               have S1 := HS.out _ (HK.out _ (S0.2.2) _ b1)
               clear b1 S0)
            | (go_at_call 19
               (with_reducible refine (CB3.out _ _ (HGb.out _ (S1.2.2))).mono ?_)
               rintro e v2 ⟨_, rfl, o2, b2⟩
               have S2 := HS.out _ (HK.out _ (S1.2.2) _ b2)
               have I2 := Lib.hid (And.intro o2.in' ((HGIl.out _ (S1.2.2)).below b2))
               clear b2 S1 o2)
            | (go_at_call 18
               (with_reducible refine (CI.out _ _ _ I2.out.1 I2.out.2).mono ?_)
               rintro e v3 ⟨rfl, b3⟩
               have S3 := HS.out _ (HK.out _ (S2.2.2) _ b3)
               clear b3 S2 I2)
            | (go_at_call 21
               (with_reducible refine (CX.out _ _ (HGb.out _ (S3.2.2))).mono ?_)
               rintro e v4 ⟨rfl, b4⟩
               have S4 := HS.out _ (HK.out _ (S3.2.2) _ b4)
               clear b4 S3)
            | (go_at_call 21
               (with_reducible refine (CT.out _ _ (HGd.out _ (S4.2.2))).mono ?_)
               rintro e v5 ⟨rfl, b5⟩
               have S5 := HS.out _ (HK.out _ (S4.2.2) _ b5)
               clear b5 S4))
          all_goals
            have B9 := ((HC.out _).1 (S5.2.2)).2.2.2
            go_wp2
            exact bodyPost_ret (v := .bool true) (by simp [results, Try.results8, go_sem]) rfl ⟨rfl, B9⟩
    · skip
      by_cases z3 : k3 = 0
      case neg =>
        go_wp2_with fail
        (refine (CLs.out _).mono ?_)
        rintro e w6 ⟨rfl, b6⟩
        replace Zd := Lib.hid (Zd.out.below b6)
        replace Za := Lib.hid (Za.out.below b6)
        replace Zb := Lib.hid (Zb.out.below b6)
        replace HB := Lib.hid (HB.out.trans (b6.mono HB.out.size))
        replace Il := Lib.hid (Il.out.below b6)
        clear b6
        go_wp2
        exact bodyPost_ret (v := .bool true) (by simp [results, Try.results8, go_sem]) rfl ⟨rfl, HB.out⟩
      subst z3
      obtain ⟨m3, hn3, R3, hm0, hm3, he4⟩ := cutR_inv (D := D) (n := n) (by rw [he3.out])
      have he5 := he3.out.symm.trans he4
      obtain rfl : E3 = cutM D m3 := (Prod.mk.inj he5).1
      have R4 := R3.cut hm0
      have f3 := R4.fit (hf.txt.cut m3)
      have hLm : L = downM D m3 := by
        rw [← hL.out, hn3]
        unfold belowM
        rw [there_of R3, Int.toNat_natCast, decide_eq_true (by omega), decide_eq_true (by omega), Bool.and_true, if_pos rfl]
      have CF : ∀ x ∈ L, Hid (∀ W sl, DocG W sl (cutM D m3) → Calls Try.prog 23 #[.agg #[sl], .int .i64 (x : Int)] W fun e w' => e = .returned (.bool false) ∧ Below W.heap.size W w') := fun x hx => by
        have C := (gIn f3 (x : Int)).out
        rw [hLm, mem_down R3 m3 hm3] at hx
        rw [Int.toNat_natCast, cut_up R3 hm0 x hx.1 hx.2, Bool.and_false] at C
        exact Lib.hid C
      have CB3 := (gBelow f3 n).out
      rw [show belowM (cutM D m3) n = L from by
        rw [hLm, hn3]
        unfold belowM
        rw [there_of R4, cut_len, Int.toNat_natCast, decide_eq_true (by omega), decide_eq_true (by omega), Bool.and_true, if_pos rfl, cut_down R3 hm3]] at CB3
      replace CB3 := Lib.hid CB3
      have CX := (gText f3 n).out
      rw [show textsM (cutM D m3) n = textsM D n from by
        unfold textsM
        rw [show belowM (cutM D m3) n = belowM D n from by
          rw [hL.out, hLm, hn3]
          unfold belowM
          rw [there_of R4, cut_len, Int.toNat_natCast, decide_eq_true (by omega), decide_eq_true (by omega), Bool.and_true, if_pos rfl, cut_down R3 hm3]]
        exact flatMap_same fun x _ => cut_data D m3 x, strV_of htx.out] at CX
      replace CX := Lib.hid CX
      have CI := gInts (C := natsI L) (by rw [natsI_length]; omega)
      replace CF := Lib.hid CF
      replace hn3 := Lib.hid hn3
      replace hLm := Lib.hid hLm
      clear he4 he5 R4
      have H0 := Lib.hid (And.intro Zd.out (And.intro Zb.out (And.intro Il.out HB.out)))
      clear Za Zd Zb Il HB
      go_wp2
      go_loopw [13] (fun i wr => ∃ u : Nat, i = .int .i64 u ∧ u ≤ L.length ∧ Hid (VD wr w.heap.size D ∧ VD wr w5.heap.size (cutM D m3) ∧ IntIn wr (.slice la L.length lc) (natsI L) ∧ Below w.heap.size w wr)) (fun i _ => L.length - (intOf i).toNat)
      case atStart => exact ⟨0, rfl, Nat.zero_le _, H0⟩
      case round =>
        obtain ⟨u, rfl, hu, H1⟩ := hrel
        clear H0
        by_cases hlt : u < L.length
        · obtain ⟨x, hx⟩ : ∃ x, L[u]? = some x := ⟨_, List.getElem?_eq_getElem hlt⟩
          have CFx := CF.out x (List.mem_of_getElem? hx)
          have zu : (u : Int) < (L.length : Int) := by omega
          obtain ⟨BL, oL, rfl⟩ := H1.out.2.2.1.addr hlt
          replace hx := Lib.hid hx
          have Zd := Lib.hid H1.out.1
          have Zb := Lib.hid H1.out.2.1
          have Il := Lib.hid H1.out.2.2.1
          have HB := Lib.hid H1.out.2.2.2
          clear H1
          go_wp2_with fail
          obtain ⟨ad, cd, yd⟩ := Zd.out.x
          obtain ⟨ab, cb, yb⟩ := Zb.out.x
          obtain ⟨C, hC⟩ : ∃ C : World → Prop, ∀ w', C w' ↔ (VX w' w.heap.size ad cd D ∧ VX w' w5.heap.size ab cb (cutM D m3) ∧ IntIn w' (.slice (some ⟨BL, oL, none⟩) L.length lc) (natsI L) ∧ Below w.heap.size w w') := ⟨_, fun _ => Iff.rfl⟩
          have HC := Lib.hid hC
          clear hC
          have hC0 : C wr.drew := (HC.out _).2 ⟨yd.below (Below.refl _ _).drew, yb.below (Below.refl _ _).drew, Il.out.below (Below.refl _ _).drew, HB.out.drew⟩
          have HK : Hid (∀ w', C w' → ∀ w7, Below w'.heap.size w' w7 → C w7) := Lib.hid fun w' hc w7 b => by
            obtain ⟨qd, qb, qIl, K4⟩ := (HC.out w').1 hc
            exact (HC.out _).2 ⟨qd.below b, qb.below b, qIl.below b, K4.trans (b.mono K4.size)⟩
          clear yd Zd yb Zb Il HB
          refine region_class C (by kernel_rfl) (by kernel_rfl) hC0 ?_
          clear hC0
          repeat
            first
              | go_big_quiet_skip
              | (go_big_quiet_want; go_big_quiet_op; go_big_quiet_on)
              | (refine BigFrame.wpQuiet_want rfl (fun K hK => ?_)
                 apply Exists.intro
                 refine ⟨fun w' hc => ?_, hK _ ?_⟩
                 · obtain ⟨qd, qb, qIl, K4⟩ := (HC.out w').1 hc
                   have dd := qd.c0
                   have db := qb.c0
                   have dl := qIl.nat hx.out
                   unfold Oper.quietAt
                   go_simp
                   first
                     | done
                     | rfl
                     | ((with_reducible refine (CFx.out w' _ qb.g).mono ?_); rintro e w7 ⟨rfl, b7⟩; exact ⟨rfl, HK.out w' hc w7 b7⟩)
                 clear hK K
                 simp only [Act.put, List.setIfInBounds_toArray, List.set_cons_zero, List.set_cons_succ])
          refine wpQuiet_nil ?_
          intro w9 hc
          obtain ⟨qd, qb, qIl, K4⟩ := (HC.out w9).1 hc
          clear hc HC HK
          have Zd := Lib.hid qd.v
          have Zb := Lib.hid qb.v
          have Il := Lib.hid qIl
          have HB := Lib.hid K4
          clear K4 qd qb qIl
          go_wp2
          go_roundw
          case rel => exact ⟨u + 1, by go_num, by omega, Lib.hid ⟨Zd.out, Zb.out, Il.out, HB.out⟩⟩
          case measure => simp [intOf]; omega
        · obtain rfl : u = L.length := by omega
          have Zd := Lib.hid H1.out.1
          have Zb := Lib.hid H1.out.2.1
          have Il := Lib.hid H1.out.2.2.1
          have HB := Lib.hid H1.out.2.2.2
          clear H1 CF
          go_wp2_with fail
          obtain ⟨ad, cd, yd⟩ := Zd.out.x
          obtain ⟨ab, cb, yb⟩ := Zb.out.x
          obtain ⟨C, hC⟩ : ∃ C : World → Prop, ∀ w', C w' ↔ (VX w' w.heap.size ad cd D ∧ VX w' w5.heap.size ab cb (cutM D m3) ∧ IntIn w' (.slice la L.length lc) (natsI L) ∧ Below w.heap.size w w') := ⟨_, fun _ => Iff.rfl⟩
          have HC := Lib.hid hC
          clear hC
          have hC0 : C wr.drew := (HC.out _).2 ⟨yd.below (Below.refl _ _).drew, yb.below (Below.refl _ _).drew, Il.out.below (Below.refl _ _).drew, HB.out.drew⟩
          have HS : Hid (∀ w', C w' → (w'.cell? ⟨w.heap.size, 0, none⟩ = some (.slice ad D.length cd) ∧ w'.cell? ⟨w5.heap.size, 0, none⟩ = some (.slice ab (cutM D m3).length cb) ∧ C w')) := Lib.hid fun w' hc => by
            obtain ⟨qd, qb, qIl, K4⟩ := (HC.out w').1 hc
            exact ⟨qd.c0, qb.c0, hc⟩
          have HK : Hid (∀ w', C w' → ∀ w7, Below w'.heap.size w' w7 → C w7) := Lib.hid fun w' hc w7 b => by
            obtain ⟨qd, qb, qIl, K4⟩ := (HC.out w').1 hc
            exact (HC.out _).2 ⟨qd.below b, qb.below b, qIl.below b, K4.trans (b.mono K4.size)⟩
          have HGd : Hid (∀ w', C w' → DocG w' (.slice ad D.length cd) D) := Lib.hid fun w' hc => ((HC.out w').1 hc).1.g
          have HGb : Hid (∀ w', C w' → DocG w' (.slice ab (cutM D m3).length cb) (cutM D m3)) := Lib.hid fun w' hc => ((HC.out w').1 hc).2.1.g
          have HGIl : Hid (∀ w', C w' → IntIn w' (.slice la L.length lc) (natsI L)) := Lib.hid fun w' hc => ((HC.out w').1 hc).2.2.1
          have S0 := HS.out _ hC0
          clear yd Zd yb Zb Il HB hC0
          go_region_held3 (fun w' => w'.cell? ⟨w.heap.size, 0, none⟩ = some (.slice ad D.length cd) ∧ w'.cell? ⟨w5.heap.size, 0, none⟩ = some (.slice ab (cutM D m3).length cb) ∧ C w') (first | assumption | fail) (first
            | (go_at_call 17
               (with_reducible refine (CLs.out _).mono ?_)
               rintro e v1 ⟨rfl, b1⟩
               have S1 := HS.out _ (HK.out _ (S0.2.2) _ b1)
               clear b1 S0)
            | (go_at_call 19
               (with_reducible refine (CB3.out _ _ (HGb.out _ (S1.2.2))).mono ?_)
               rintro e v2 ⟨_, rfl, o2, b2⟩
               have S2 := HS.out _ (HK.out _ (S1.2.2) _ b2)
               have I2 := Lib.hid (And.intro o2.in' ((HGIl.out _ (S1.2.2)).below b2))
               clear b2 S1 o2)
            | (go_at_call 18
               (with_reducible refine (CI.out _ _ _ I2.out.1 I2.out.2).mono ?_)
               rintro e v3 ⟨rfl, b3⟩
               have S3 := HS.out _ (HK.out _ (S2.2.2) _ b3)
               clear b3 S2 I2)
            | (go_at_call 21
               (with_reducible refine (CX.out _ _ (HGb.out _ (S3.2.2))).mono ?_)
               rintro e v4 ⟨rfl, b4⟩
               have S4 := HS.out _ (HK.out _ (S3.2.2) _ b4)
               clear b4 S3)
            | (go_at_call 21
               (with_reducible refine (CT.out _ _ (HGd.out _ (S4.2.2))).mono ?_)
               rintro e v5 ⟨rfl, b5⟩
               have S5 := HS.out _ (HK.out _ (S4.2.2) _ b5)
               clear b5 S4))
          all_goals
            have B9 := ((HC.out _).1 (S5.2.2)).2.2.2
            go_wp2
            exact bodyPost_ret (v := .bool true) (by simp [results, Try.results8, go_sem]) rfl ⟨rfl, B9⟩

end Go.Proofs.Ytcmbkhlnigbooaa.Dm
