/- The document's reader: what a '<' begins. -/
import Derived.Test.YtfbhpmafjehojaaGreatDoorTokAB
import Derived.Test.YtfbhpmafjehojaaGreatDoorTokAC
namespace Go.Proofs.YtfbhpmafjehojaaGreatDoor
open Go.RowKit

theorem begins_at {t l : List UInt8} (h : beginsM t l = true) (i : Nat) (z : UInt8) (hi : t[i]? = some z) : ∃ c, l[i]? = some c ∧ lowB c = z := by
  unfold beginsM at h
  rw [Bool.and_eq_true, decide_eq_true_eq, decide_eq_true_eq] at h
  have hlt := (List.getElem?_eq_some_iff.1 hi).1
  have e : (low (l.take t.length))[i]? = some z := by rw [h.2]; exact hi
  unfold low at e
  rw [List.getElem?_map, List.getElem?_take] at e
  rw [if_pos hlt] at e
  cases hc : l[i]? with
  | none => rw [hc] at e; cases e
  | some c =>
    rw [hc] at e
    exact ⟨c, rfl, by simpa using e⟩
theorem begins_bang {t l : List UInt8} (h : beginsM t l = true) (h1 : t[1]? = some 33) : l[1]? = some 33 := by
  obtain ⟨c, hc, he⟩ := begins_at h 1 33 h1
  rw [hc, low_back he (by decide)]
theorem begins_size {t l : List UInt8} (h : beginsM t l = true) : t.length ≤ l.length := by
  unfold beginsM at h
  rw [Bool.and_eq_true, decide_eq_true_eq] at h
  exact h.1

set_option maxRecDepth 100000 in
set_option maxHeartbeats 8000000 in
theorem signQ_st (s L : ByteArray) (n : Nat) (c1 : UInt8) (XR : ByteArray) (hL : L.data.toList = s.data.toList.drop n) (h1 : L.data.toList[1]? = some c1) (hl1 : letB c1 = true) (hsz : 2 ≤ L.size) (hXR : XR.data.toList = (tagM true 1 n (s.data.toList.drop n)).r) (hnd : n + 1 ≤ s.size) (hs : s.size ≤ 20000) : Hid (∀ W B m0 Q T F, QS W B m0 Q s n T F ⟨#[]⟩ → LastD T 1000000 → T.length ≤ 800000 → F.length ≤ 90000 → Calls Tryz.prog 52 #[.pointer (some ⟨Q, 0, none⟩)] W (StepP B Q s n T F XR (tagM true 1 n (s.data.toList.drop n)) W)) := Lib.hid fun w B m0 Q T F h0 hD hl hF => by
  have g0 := slice_from s L n (by omega) hL
  have hLs : L.size = s.size - n := by rw [← lsize, hL, List.length_drop, lsize]
  have z1 : (0 : Int) ≤ (n : Int) := by omega
  have z2 : (n : Int) ≤ 20000 := by omega
  have y2 : (2 : Int) ≤ (L.size : Int) := by omega
  have i1 := index_ty Tryz.underlying9 L 1 c1 h1
  rw [show (((1 : Nat)) : Int) = 1 from rfl] at i1
  have C1 := letterR_hid c1 _ hl1
  have CG := tagQ_start s XR n hXR hnd hs
  clear hL hLs hsz h1 hl1 hXR hD
  obtain ⟨tv, fv, hv⟩ := h0
  have d0 := hv.q.c0
  have d1 := hv.q.c1
  have HV := Lib.hid hv
  clear hv
  go_enter Tryz.func52, Tryz.ntmps52
  go_wp2
  go_quiet (fail)
  have HV1 := Lib.hid (HV.out.below (belowN (Below.refl w.heap.size w) nq))
  have B1 := (belowN (Below.refl w.heap.size w) nq).mono HV.out.bw
  have d1 := HV1.out.q.c1
  clear HV
  generalize w.drewN nq = w0 at HV1 B1 d1 ⊢
  go_wp2_with fail
  (with_reducible refine (C1.out _).mono ?_)
  rintro e w1 ⟨rfl, hw1⟩
  subst hw1
  go_wp2_with fail
  (with_reducible refine (CG.out _ _ _ _ _ _ HV1.out.form (by omega) (by omega)).mono ?_)
  rintro e w9 ⟨rfl, h9, b9⟩
  have HR := Lib.hid (And.intro h9 (B1.trans b9))
  clear h9 b9 HV1 B1 CG d1
  go_wp2
  (try simp only [Exit.inBlock, Exit.then])
  (try rw [Exit.noGoto_normal])
  go_end0
  exact ⟨rfl, HR.out.1, HR.out.2⟩

set_option maxRecDepth 100000 in
set_option maxHeartbeats 8000000 in
theorem signQ_end (s L : ByteArray) (n : Nat) (c2 : UInt8) (XR : ByteArray) (hL : L.data.toList = s.data.toList.drop n) (h1 : L.data.toList[1]? = some 47) (h2 : L.data.toList[2]? = some c2) (hl2 : letB c2 = true) (hsz : 3 ≤ L.size) (hXR : XR.data.toList = (tagM false 2 n (s.data.toList.drop n)).r) (hnd : n + 2 ≤ s.size) (hs : s.size ≤ 20000) : Hid (∀ W B m0 Q T F, QS W B m0 Q s n T F ⟨#[]⟩ → LastD T 1000000 → T.length ≤ 800000 → F.length ≤ 90000 → Calls Tryz.prog 52 #[.pointer (some ⟨Q, 0, none⟩)] W (StepP B Q s n T F XR (tagM false 2 n (s.data.toList.drop n)) W)) := Lib.hid fun w B m0 Q T F h0 hD hl hF => by
  have g0 := slice_from s L n (by omega) hL
  have hLs : L.size = s.size - n := by rw [← lsize, hL, List.length_drop, lsize]
  have z1 : (0 : Int) ≤ (n : Int) := by omega
  have z2 : (n : Int) ≤ 20000 := by omega
  have y2 : (2 : Int) ≤ (L.size : Int) := by omega
  have y3 : (3 : Int) ≤ (L.size : Int) := by omega
  have i1 := index_ty Tryz.underlying9 L 1 47 h1
  rw [show (((1 : Nat)) : Int) = 1 from rfl, show (((47 : UInt8).toNat : Nat) : Int) = 47 from rfl] at i1
  have C1 := letterR_hid 47 false (by decide)
  rw [show (((47 : UInt8).toNat : Nat) : Int) = 47 from rfl] at C1
  have i2 := index_ty Tryz.underlying9 L 2 c2 h2
  rw [show (((2 : Nat)) : Int) = 2 from rfl] at i2
  have C2 := letterR_hid c2 _ hl2
  have CG := tagQ_end s XR n hXR hnd hs
  clear hL hLs hsz h1 h2 hl2 hXR hD
  obtain ⟨tv, fv, hv⟩ := h0
  have d0 := hv.q.c0
  have d1 := hv.q.c1
  have HV := Lib.hid hv
  clear hv
  go_enter Tryz.func52, Tryz.ntmps52
  go_wp2
  go_quiet (fail)
  have HV1 := Lib.hid (HV.out.below (belowN (Below.refl w.heap.size w) nq))
  have B1 := (belowN (Below.refl w.heap.size w) nq).mono HV.out.bw
  have d1 := HV1.out.q.c1
  clear HV
  generalize w.drewN nq = w0 at HV1 B1 d1 ⊢
  go_wp2_with fail
  (with_reducible refine (C1.out _).mono ?_)
  rintro e w1 ⟨rfl, hw1⟩
  subst hw1
  go_wp2_with fail
  (with_reducible refine (C2.out _).mono ?_)
  rintro e w1 ⟨rfl, hw1⟩
  subst hw1
  go_wp2_with fail
  (with_reducible refine (CG.out _ _ _ _ _ _ HV1.out.form (by omega) (by omega)).mono ?_)
  rintro e w9 ⟨rfl, h9, b9⟩
  have HR := Lib.hid (And.intro h9 (B1.trans b9))
  clear h9 b9 HV1 B1 CG d1
  go_wp2
  (try simp only [Exit.inBlock, Exit.then])
  (try rw [Exit.noGoto_normal])
  go_end0
  exact ⟨rfl, HR.out.1, HR.out.2⟩

set_option maxRecDepth 100000 in
set_option maxHeartbeats 8000000 in
theorem signQ_com (s L : ByteArray) (n : Nat) (hL : L.data.toList = s.data.toList.drop n) (h1 : L.data.toList[1]? = some 33) (hsz : 3 ≤ L.size) (hb1 : beginsM [60, 33, 45, 45] L.data.toList = true) (hnd : n + 4 ≤ s.size) (hs : s.size ≤ 20000) : Hid (∀ W B m0 Q T F, QS W B m0 Q s n T F ⟨#[]⟩ → LastD T 1000000 → T.length ≤ 800000 → F.length ≤ 90000 → Calls Tryz.prog 52 #[.pointer (some ⟨Q, 0, none⟩)] W (StepP B Q s n T F ⟨#[]⟩ (noteM 4 4 n [45, 45, 62] (s.data.toList.drop n)) W)) := Lib.hid fun w B m0 Q T F h0 hD hl hF => by
  have g0 := slice_from s L n (by omega) hL
  have hLs : L.size = s.size - n := by rw [← lsize, hL, List.length_drop, lsize]
  have z1 : (0 : Int) ≤ (n : Int) := by omega
  have z2 : (n : Int) ≤ 20000 := by omega
  have y2 : (2 : Int) ≤ (L.size : Int) := by omega
  have y3 : (3 : Int) ≤ (L.size : Int) := by omega
  have i1 := index_ty Tryz.underlying9 L 1 33 h1
  rw [show (((1 : Nat)) : Int) = 1 from rfl, show (((33 : UInt8).toNat : Nat) : Int) = 33 from rfl] at i1
  have C1 := letterR_hid 33 false (by decide)
  rw [show (((33 : UInt8).toNat : Nat) : Int) = 33 from rfl] at C1
  have CB1 := beginsR_hid L ⟨#[60, 33, 45, 45]⟩ true hb1 (by decide)
  have CG := noteQ_hid s ⟨#[45, 45, 62]⟩ n 4 4 (.inl rfl) (by decide) (by decide) hnd (by omega)
  rw [show (((4 : Nat)) : Int) = 4 from rfl] at CG
  clear hL hLs hsz h1 hb1 hD
  obtain ⟨tv, fv, hv⟩ := h0
  have d0 := hv.q.c0
  have d1 := hv.q.c1
  have HV := Lib.hid hv
  clear hv
  go_enter Tryz.func52, Tryz.ntmps52
  go_wp2
  go_quiet (fail)
  have HV1 := Lib.hid (HV.out.below (belowN (Below.refl w.heap.size w) nq))
  have B1 := (belowN (Below.refl w.heap.size w) nq).mono HV.out.bw
  have d1 := HV1.out.q.c1
  clear HV
  generalize w.drewN nq = w0 at HV1 B1 d1 ⊢
  go_wp2_with fail
  (with_reducible refine (C1.out _).mono ?_)
  rintro e w1 ⟨rfl, hw1⟩
  subst hw1
  go_wp2_with fail
  (with_reducible refine (CB1.out _).mono ?_)
  rintro e w2 ⟨rfl, b2⟩
  have HV2 := Lib.hid (HV1.out.below b2)
  have B2 := B1.trans (b2.mono HV1.out.bw)
  clear b2 HV1 B1 d1 CB1
  have d1 := HV2.out.q.c1
  go_wp2_with fail
  (with_reducible refine (CG.out _ _ _ _ _ _ _ HV2.out.form (by omega) (by omega)).mono ?_)
  rintro e w9 ⟨rfl, h9, b9⟩
  have HR := Lib.hid (And.intro h9 (B2.trans b9))
  clear h9 b9 HV2 B2 CG d1
  go_wp2
  (try simp only [Exit.inBlock, Exit.then])
  (try rw [Exit.noGoto_normal])
  go_end0
  exact ⟨rfl, HR.out.1, HR.out.2⟩

set_option maxRecDepth 100000 in
set_option maxHeartbeats 8000000 in
theorem signQ_doc (s L : ByteArray) (n : Nat) (hL : L.data.toList = s.data.toList.drop n) (h1 : L.data.toList[1]? = some 33) (hsz : 3 ≤ L.size) (hb1 : beginsM [60, 33, 45, 45] L.data.toList = false) (hb2 : beginsM [60, 33, 100, 111, 99, 116, 121, 112, 101] L.data.toList = true) (hnd : n + 9 ≤ s.size) (hs : s.size ≤ 20000) : Hid (∀ W B m0 Q T F, QS W B m0 Q s n T F ⟨#[]⟩ → LastD T 1000000 → T.length ≤ 800000 → F.length ≤ 90000 → Calls Tryz.prog 52 #[.pointer (some ⟨Q, 0, none⟩)] W (StepP B Q s n T F ⟨#[]⟩ (noteM 5 9 n [62] (s.data.toList.drop n)) W)) := Lib.hid fun w B m0 Q T F h0 hD hl hF => by
  have g0 := slice_from s L n (by omega) hL
  have hLs : L.size = s.size - n := by rw [← lsize, hL, List.length_drop, lsize]
  have z1 : (0 : Int) ≤ (n : Int) := by omega
  have z2 : (n : Int) ≤ 20000 := by omega
  have y2 : (2 : Int) ≤ (L.size : Int) := by omega
  have y3 : (3 : Int) ≤ (L.size : Int) := by omega
  have i1 := index_ty Tryz.underlying9 L 1 33 h1
  rw [show (((1 : Nat)) : Int) = 1 from rfl, show (((33 : UInt8).toNat : Nat) : Int) = 33 from rfl] at i1
  have C1 := letterR_hid 33 false (by decide)
  rw [show (((33 : UInt8).toNat : Nat) : Int) = 33 from rfl] at C1
  have CB1 := beginsR_hid L ⟨#[60, 33, 45, 45]⟩ false hb1 (by decide)
  have CB2 := beginsR_hid L ⟨#[60, 33, 100, 111, 99, 116, 121, 112, 101]⟩ true hb2 (by decide)
  have CG := noteQ_hid s ⟨#[62]⟩ n 9 5 (.inr rfl) (by decide) (by decide) hnd (by omega)
  rw [show (((9 : Nat)) : Int) = 9 from rfl] at CG
  clear hL hLs hsz h1 hb1 hb2 hD
  obtain ⟨tv, fv, hv⟩ := h0
  have d0 := hv.q.c0
  have d1 := hv.q.c1
  have HV := Lib.hid hv
  clear hv
  go_enter Tryz.func52, Tryz.ntmps52
  go_wp2
  go_quiet (fail)
  have HV1 := Lib.hid (HV.out.below (belowN (Below.refl w.heap.size w) nq))
  have B1 := (belowN (Below.refl w.heap.size w) nq).mono HV.out.bw
  have d1 := HV1.out.q.c1
  clear HV
  generalize w.drewN nq = w0 at HV1 B1 d1 ⊢
  go_wp2_with fail
  (with_reducible refine (C1.out _).mono ?_)
  rintro e w1 ⟨rfl, hw1⟩
  subst hw1
  go_wp2_with fail
  (with_reducible refine (CB1.out _).mono ?_)
  rintro e w2 ⟨rfl, b2⟩
  have HV2 := Lib.hid (HV1.out.below b2)
  have B2 := B1.trans (b2.mono HV1.out.bw)
  clear b2 HV1 B1 d1 CB1
  have d1 := HV2.out.q.c1
  go_wp2_with fail
  (with_reducible refine (CB2.out _).mono ?_)
  rintro e w3 ⟨rfl, b3⟩
  have HV3 := Lib.hid (HV2.out.below b3)
  have B3 := B2.trans (b3.mono HV2.out.bw)
  clear b3 HV2 B2 d1 CB2
  have d1 := HV3.out.q.c1
  go_wp2_with fail
  (with_reducible refine (CG.out _ _ _ _ _ _ _ HV3.out.form (by omega) (by omega)).mono ?_)
  rintro e w9 ⟨rfl, h9, b9⟩
  have HR := Lib.hid (And.intro h9 (B3.trans b9))
  clear h9 b9 HV3 B3 CG d1
  go_wp2
  (try simp only [Exit.inBlock, Exit.then])
  (try rw [Exit.noGoto_normal])
  go_end0
  exact ⟨rfl, HR.out.1, HR.out.2⟩

set_option maxRecDepth 100000 in
set_option maxHeartbeats 8000000 in
theorem signQ_odd_33_2 (s L : ByteArray) (n : Nat) (hL : L.data.toList = s.data.toList.drop n) (h1 : L.data.toList[1]? = some 33) (hsz : L.size = 2) (hb1 : beginsM [60, 33, 45, 45] L.data.toList = false) (hb2 : beginsM [60, 33, 100, 111, 99, 116, 121, 112, 101] L.data.toList = false) (hnd : n + 2 ≤ s.size) (hs : s.size ≤ 20000) : Hid (∀ W B m0 Q T F, QS W B m0 Q s n T F ⟨#[]⟩ → LastD T 1000000 → T.length ≤ 800000 → F.length ≤ 90000 → Calls Tryz.prog 52 #[.pointer (some ⟨Q, 0, none⟩)] W (StepP B Q s n T F ⟨#[]⟩ ({ noteM 4 2 n [62] (s.data.toList.drop n) with f := (141, n) :: (noteM 4 2 n [62] (s.data.toList.drop n)).f }) W)) := Lib.hid fun w B m0 Q T F h0 hD hl hF => by
  have g0 := slice_from s L n (by omega) hL
  have hLs : L.size = s.size - n := by rw [← lsize, hL, List.length_drop, lsize]
  have z1 : (0 : Int) ≤ (n : Int) := by omega
  have z2 : (n : Int) ≤ 20000 := by omega
  have y2 : (2 : Int) ≤ (L.size : Int) := by omega
  have y3 : ¬ (3 : Int) ≤ (L.size : Int) := by omega
  have i1 := index_ty Tryz.underlying9 L 1 33 h1
  rw [show (((1 : Nat)) : Int) = 1 from rfl, show (((33 : UInt8).toNat : Nat) : Int) = 33 from rfl] at i1
  have C1 := letterR_hid 33 false (by decide)
  rw [show (((33 : UInt8).toNat : Nat) : Int) = 33 from rfl] at C1
  have CB1 := beginsR_hid L ⟨#[60, 33, 45, 45]⟩ false hb1 (by decide)
  have CB2 := beginsR_hid L ⟨#[60, 33, 100, 111, 99, 116, 121, 112, 101]⟩ false hb2 (by decide)
  have CG := noteQ_hid s ⟨#[62]⟩ n 2 4 (.inl rfl) (by decide) (by decide) hnd (by omega)
  rw [show (((2 : Nat)) : Int) = 2 from rfl] at CG
  clear hL hLs hsz h1 hb1 hb2 hD
  obtain ⟨tv, fv, hv⟩ := h0
  have d0 := hv.q.c0
  have d1 := hv.q.c1
  have HV := Lib.hid hv
  clear hv
  go_enter Tryz.func52, Tryz.ntmps52
  go_wp2
  go_quiet (fail)
  have HV1 := Lib.hid (HV.out.below (belowN (Below.refl w.heap.size w) nq))
  have B1 := (belowN (Below.refl w.heap.size w) nq).mono HV.out.bw
  have d1 := HV1.out.q.c1
  clear HV
  generalize w.drewN nq = w0 at HV1 B1 d1 ⊢
  go_wp2_with fail
  (with_reducible refine (C1.out _).mono ?_)
  rintro e w1 ⟨rfl, hw1⟩
  subst hw1
  go_wp2_with fail
  (with_reducible refine (CB1.out _).mono ?_)
  rintro e w2 ⟨rfl, b2⟩
  have HV2 := Lib.hid (HV1.out.below b2)
  have B2 := B1.trans (b2.mono HV1.out.bw)
  clear b2 HV1 B1 d1 CB1
  have d1 := HV2.out.q.c1
  go_wp2_with fail
  (with_reducible refine (CB2.out _).mono ?_)
  rintro e w3 ⟨rfl, b3⟩
  have HV3 := Lib.hid (HV2.out.below b3)
  have B3 := B2.trans (b3.mono HV2.out.bw)
  clear b3 HV2 B2 d1 CB2
  have d1 := HV3.out.q.c1
  go_wp2_with fail
  have CF := failQ_hid 141 n
  (with_reducible refine (CF.out _ _ _ _ _ _ _ _ _ HV3.out.form (by omega)).mono ?_)
  rintro e w5 ⟨rfl, h5, k5⟩
  have B5 := B3.trans (HV3.out.form.frb k5)
  obtain ⟨tv5, fv5, h5⟩ := h5
  have HV5 := Lib.hid h5
  clear k5 h5 HV3 B3 CF d1
  have d1 := HV5.out.q.c1
  go_wp2_with fail
  (with_reducible refine (CG.out _ _ _ _ _ _ _ HV5.out.form (by omega) (by rw [List.length_append]; simp; omega)).mono ?_)
  rintro e w9 ⟨rfl, h9, b9⟩
  have HR := Lib.hid (And.intro h9 (B5.trans b9))
  clear h9 b9 HV5 B5 CG d1
  go_wp2
  (try simp only [Exit.inBlock, Exit.then])
  (try rw [Exit.noGoto_normal])
  go_end0
  refine ⟨rfl, ?_, HR.out.2⟩
  have h := HR.out.1
  rw [List.append_assoc] at h
  exact h

set_option maxRecDepth 100000 in
set_option maxHeartbeats 8000000 in
theorem signQ_odd_33_3 (s L : ByteArray) (n : Nat) (hL : L.data.toList = s.data.toList.drop n) (h1 : L.data.toList[1]? = some 33) (hsz : 3 ≤ L.size) (hb1 : beginsM [60, 33, 45, 45] L.data.toList = false) (hb2 : beginsM [60, 33, 100, 111, 99, 116, 121, 112, 101] L.data.toList = false) (hnd : n + 2 ≤ s.size) (hs : s.size ≤ 20000) : Hid (∀ W B m0 Q T F, QS W B m0 Q s n T F ⟨#[]⟩ → LastD T 1000000 → T.length ≤ 800000 → F.length ≤ 90000 → Calls Tryz.prog 52 #[.pointer (some ⟨Q, 0, none⟩)] W (StepP B Q s n T F ⟨#[]⟩ ({ noteM 4 2 n [62] (s.data.toList.drop n) with f := (141, n) :: (noteM 4 2 n [62] (s.data.toList.drop n)).f }) W)) := Lib.hid fun w B m0 Q T F h0 hD hl hF => by
  have g0 := slice_from s L n (by omega) hL
  have hLs : L.size = s.size - n := by rw [← lsize, hL, List.length_drop, lsize]
  have z1 : (0 : Int) ≤ (n : Int) := by omega
  have z2 : (n : Int) ≤ 20000 := by omega
  have y2 : (2 : Int) ≤ (L.size : Int) := by omega
  have y3 : (3 : Int) ≤ (L.size : Int) := by omega
  have i1 := index_ty Tryz.underlying9 L 1 33 h1
  rw [show (((1 : Nat)) : Int) = 1 from rfl, show (((33 : UInt8).toNat : Nat) : Int) = 33 from rfl] at i1
  have C1 := letterR_hid 33 false (by decide)
  rw [show (((33 : UInt8).toNat : Nat) : Int) = 33 from rfl] at C1
  have CB1 := beginsR_hid L ⟨#[60, 33, 45, 45]⟩ false hb1 (by decide)
  have CB2 := beginsR_hid L ⟨#[60, 33, 100, 111, 99, 116, 121, 112, 101]⟩ false hb2 (by decide)
  have CG := noteQ_hid s ⟨#[62]⟩ n 2 4 (.inl rfl) (by decide) (by decide) hnd (by omega)
  rw [show (((2 : Nat)) : Int) = 2 from rfl] at CG
  clear hL hLs hsz h1 hb1 hb2 hD
  obtain ⟨tv, fv, hv⟩ := h0
  have d0 := hv.q.c0
  have d1 := hv.q.c1
  have HV := Lib.hid hv
  clear hv
  go_enter Tryz.func52, Tryz.ntmps52
  go_wp2
  go_quiet (fail)
  have HV1 := Lib.hid (HV.out.below (belowN (Below.refl w.heap.size w) nq))
  have B1 := (belowN (Below.refl w.heap.size w) nq).mono HV.out.bw
  have d1 := HV1.out.q.c1
  clear HV
  generalize w.drewN nq = w0 at HV1 B1 d1 ⊢
  go_wp2_with fail
  (with_reducible refine (C1.out _).mono ?_)
  rintro e w1 ⟨rfl, hw1⟩
  subst hw1
  go_wp2_with fail
  (with_reducible refine (CB1.out _).mono ?_)
  rintro e w2 ⟨rfl, b2⟩
  have HV2 := Lib.hid (HV1.out.below b2)
  have B2 := B1.trans (b2.mono HV1.out.bw)
  clear b2 HV1 B1 d1 CB1
  have d1 := HV2.out.q.c1
  go_wp2_with fail
  (with_reducible refine (CB2.out _).mono ?_)
  rintro e w3 ⟨rfl, b3⟩
  have HV3 := Lib.hid (HV2.out.below b3)
  have B3 := B2.trans (b3.mono HV2.out.bw)
  clear b3 HV2 B2 d1 CB2
  have d1 := HV3.out.q.c1
  go_wp2_with fail
  have CF := failQ_hid 141 n
  (with_reducible refine (CF.out _ _ _ _ _ _ _ _ _ HV3.out.form (by omega)).mono ?_)
  rintro e w5 ⟨rfl, h5, k5⟩
  have B5 := B3.trans (HV3.out.form.frb k5)
  obtain ⟨tv5, fv5, h5⟩ := h5
  have HV5 := Lib.hid h5
  clear k5 h5 HV3 B3 CF d1
  have d1 := HV5.out.q.c1
  go_wp2_with fail
  (with_reducible refine (CG.out _ _ _ _ _ _ _ HV5.out.form (by omega) (by rw [List.length_append]; simp; omega)).mono ?_)
  rintro e w9 ⟨rfl, h9, b9⟩
  have HR := Lib.hid (And.intro h9 (B5.trans b9))
  clear h9 b9 HV5 B5 CG d1
  go_wp2
  (try simp only [Exit.inBlock, Exit.then])
  (try rw [Exit.noGoto_normal])
  go_end0
  refine ⟨rfl, ?_, HR.out.2⟩
  have h := HR.out.1
  rw [List.append_assoc] at h
  exact h

set_option maxRecDepth 100000 in
set_option maxHeartbeats 8000000 in
theorem signQ_odd_63_2 (s L : ByteArray) (n : Nat) (hL : L.data.toList = s.data.toList.drop n) (h1 : L.data.toList[1]? = some 63) (hsz : L.size = 2) (hb1 : beginsM [60, 33, 45, 45] L.data.toList = false) (hb2 : beginsM [60, 33, 100, 111, 99, 116, 121, 112, 101] L.data.toList = false) (hnd : n + 2 ≤ s.size) (hs : s.size ≤ 20000) : Hid (∀ W B m0 Q T F, QS W B m0 Q s n T F ⟨#[]⟩ → LastD T 1000000 → T.length ≤ 800000 → F.length ≤ 90000 → Calls Tryz.prog 52 #[.pointer (some ⟨Q, 0, none⟩)] W (StepP B Q s n T F ⟨#[]⟩ ({ noteM 4 2 n [62] (s.data.toList.drop n) with f := (141, n) :: (noteM 4 2 n [62] (s.data.toList.drop n)).f }) W)) := Lib.hid fun w B m0 Q T F h0 hD hl hF => by
  have g0 := slice_from s L n (by omega) hL
  have hLs : L.size = s.size - n := by rw [← lsize, hL, List.length_drop, lsize]
  have z1 : (0 : Int) ≤ (n : Int) := by omega
  have z2 : (n : Int) ≤ 20000 := by omega
  have y2 : (2 : Int) ≤ (L.size : Int) := by omega
  have y3 : ¬ (3 : Int) ≤ (L.size : Int) := by omega
  have i1 := index_ty Tryz.underlying9 L 1 63 h1
  rw [show (((1 : Nat)) : Int) = 1 from rfl, show (((63 : UInt8).toNat : Nat) : Int) = 63 from rfl] at i1
  have C1 := letterR_hid 63 false (by decide)
  rw [show (((63 : UInt8).toNat : Nat) : Int) = 63 from rfl] at C1
  have CB1 := beginsR_hid L ⟨#[60, 33, 45, 45]⟩ false hb1 (by decide)
  have CB2 := beginsR_hid L ⟨#[60, 33, 100, 111, 99, 116, 121, 112, 101]⟩ false hb2 (by decide)
  have CG := noteQ_hid s ⟨#[62]⟩ n 2 4 (.inl rfl) (by decide) (by decide) hnd (by omega)
  rw [show (((2 : Nat)) : Int) = 2 from rfl] at CG
  clear hL hLs hsz h1 hb1 hb2 hD
  obtain ⟨tv, fv, hv⟩ := h0
  have d0 := hv.q.c0
  have d1 := hv.q.c1
  have HV := Lib.hid hv
  clear hv
  go_enter Tryz.func52, Tryz.ntmps52
  go_wp2
  go_quiet (fail)
  have HV1 := Lib.hid (HV.out.below (belowN (Below.refl w.heap.size w) nq))
  have B1 := (belowN (Below.refl w.heap.size w) nq).mono HV.out.bw
  have d1 := HV1.out.q.c1
  clear HV
  generalize w.drewN nq = w0 at HV1 B1 d1 ⊢
  go_wp2_with fail
  (with_reducible refine (C1.out _).mono ?_)
  rintro e w1 ⟨rfl, hw1⟩
  subst hw1
  go_wp2_with fail
  (with_reducible refine (CB1.out _).mono ?_)
  rintro e w2 ⟨rfl, b2⟩
  have HV2 := Lib.hid (HV1.out.below b2)
  have B2 := B1.trans (b2.mono HV1.out.bw)
  clear b2 HV1 B1 d1 CB1
  have d1 := HV2.out.q.c1
  go_wp2_with fail
  (with_reducible refine (CB2.out _).mono ?_)
  rintro e w3 ⟨rfl, b3⟩
  have HV3 := Lib.hid (HV2.out.below b3)
  have B3 := B2.trans (b3.mono HV2.out.bw)
  clear b3 HV2 B2 d1 CB2
  have d1 := HV3.out.q.c1
  go_wp2_with fail
  have CF := failQ_hid 141 n
  (with_reducible refine (CF.out _ _ _ _ _ _ _ _ _ HV3.out.form (by omega)).mono ?_)
  rintro e w5 ⟨rfl, h5, k5⟩
  have B5 := B3.trans (HV3.out.form.frb k5)
  obtain ⟨tv5, fv5, h5⟩ := h5
  have HV5 := Lib.hid h5
  clear k5 h5 HV3 B3 CF d1
  have d1 := HV5.out.q.c1
  go_wp2_with fail
  (with_reducible refine (CG.out _ _ _ _ _ _ _ HV5.out.form (by omega) (by rw [List.length_append]; simp; omega)).mono ?_)
  rintro e w9 ⟨rfl, h9, b9⟩
  have HR := Lib.hid (And.intro h9 (B5.trans b9))
  clear h9 b9 HV5 B5 CG d1
  go_wp2
  (try simp only [Exit.inBlock, Exit.then])
  (try rw [Exit.noGoto_normal])
  go_end0
  refine ⟨rfl, ?_, HR.out.2⟩
  have h := HR.out.1
  rw [List.append_assoc] at h
  exact h

set_option maxRecDepth 100000 in
set_option maxHeartbeats 8000000 in
theorem signQ_odd_63_3 (s L : ByteArray) (n : Nat) (hL : L.data.toList = s.data.toList.drop n) (h1 : L.data.toList[1]? = some 63) (hsz : 3 ≤ L.size) (hb1 : beginsM [60, 33, 45, 45] L.data.toList = false) (hb2 : beginsM [60, 33, 100, 111, 99, 116, 121, 112, 101] L.data.toList = false) (hnd : n + 2 ≤ s.size) (hs : s.size ≤ 20000) : Hid (∀ W B m0 Q T F, QS W B m0 Q s n T F ⟨#[]⟩ → LastD T 1000000 → T.length ≤ 800000 → F.length ≤ 90000 → Calls Tryz.prog 52 #[.pointer (some ⟨Q, 0, none⟩)] W (StepP B Q s n T F ⟨#[]⟩ ({ noteM 4 2 n [62] (s.data.toList.drop n) with f := (141, n) :: (noteM 4 2 n [62] (s.data.toList.drop n)).f }) W)) := Lib.hid fun w B m0 Q T F h0 hD hl hF => by
  have g0 := slice_from s L n (by omega) hL
  have hLs : L.size = s.size - n := by rw [← lsize, hL, List.length_drop, lsize]
  have z1 : (0 : Int) ≤ (n : Int) := by omega
  have z2 : (n : Int) ≤ 20000 := by omega
  have y2 : (2 : Int) ≤ (L.size : Int) := by omega
  have y3 : (3 : Int) ≤ (L.size : Int) := by omega
  have i1 := index_ty Tryz.underlying9 L 1 63 h1
  rw [show (((1 : Nat)) : Int) = 1 from rfl, show (((63 : UInt8).toNat : Nat) : Int) = 63 from rfl] at i1
  have C1 := letterR_hid 63 false (by decide)
  rw [show (((63 : UInt8).toNat : Nat) : Int) = 63 from rfl] at C1
  have CB1 := beginsR_hid L ⟨#[60, 33, 45, 45]⟩ false hb1 (by decide)
  have CB2 := beginsR_hid L ⟨#[60, 33, 100, 111, 99, 116, 121, 112, 101]⟩ false hb2 (by decide)
  have CG := noteQ_hid s ⟨#[62]⟩ n 2 4 (.inl rfl) (by decide) (by decide) hnd (by omega)
  rw [show (((2 : Nat)) : Int) = 2 from rfl] at CG
  clear hL hLs hsz h1 hb1 hb2 hD
  obtain ⟨tv, fv, hv⟩ := h0
  have d0 := hv.q.c0
  have d1 := hv.q.c1
  have HV := Lib.hid hv
  clear hv
  go_enter Tryz.func52, Tryz.ntmps52
  go_wp2
  go_quiet (fail)
  have HV1 := Lib.hid (HV.out.below (belowN (Below.refl w.heap.size w) nq))
  have B1 := (belowN (Below.refl w.heap.size w) nq).mono HV.out.bw
  have d1 := HV1.out.q.c1
  clear HV
  generalize w.drewN nq = w0 at HV1 B1 d1 ⊢
  go_wp2_with fail
  (with_reducible refine (C1.out _).mono ?_)
  rintro e w1 ⟨rfl, hw1⟩
  subst hw1
  go_wp2_with fail
  (with_reducible refine (CB1.out _).mono ?_)
  rintro e w2 ⟨rfl, b2⟩
  have HV2 := Lib.hid (HV1.out.below b2)
  have B2 := B1.trans (b2.mono HV1.out.bw)
  clear b2 HV1 B1 d1 CB1
  have d1 := HV2.out.q.c1
  go_wp2_with fail
  (with_reducible refine (CB2.out _).mono ?_)
  rintro e w3 ⟨rfl, b3⟩
  have HV3 := Lib.hid (HV2.out.below b3)
  have B3 := B2.trans (b3.mono HV2.out.bw)
  clear b3 HV2 B2 d1 CB2
  have d1 := HV3.out.q.c1
  go_wp2_with fail
  have CF := failQ_hid 141 n
  (with_reducible refine (CF.out _ _ _ _ _ _ _ _ _ HV3.out.form (by omega)).mono ?_)
  rintro e w5 ⟨rfl, h5, k5⟩
  have B5 := B3.trans (HV3.out.form.frb k5)
  obtain ⟨tv5, fv5, h5⟩ := h5
  have HV5 := Lib.hid h5
  clear k5 h5 HV3 B3 CF d1
  have d1 := HV5.out.q.c1
  go_wp2_with fail
  (with_reducible refine (CG.out _ _ _ _ _ _ _ HV5.out.form (by omega) (by rw [List.length_append]; simp; omega)).mono ?_)
  rintro e w9 ⟨rfl, h9, b9⟩
  have HR := Lib.hid (And.intro h9 (B5.trans b9))
  clear h9 b9 HV5 B5 CG d1
  go_wp2
  (try simp only [Exit.inBlock, Exit.then])
  (try rw [Exit.noGoto_normal])
  go_end0
  refine ⟨rfl, ?_, HR.out.2⟩
  have h := HR.out.1
  rw [List.append_assoc] at h
  exact h

set_option maxRecDepth 100000 in
set_option maxHeartbeats 8000000 in
theorem signQ_odd_47_2 (s L : ByteArray) (n : Nat) (hL : L.data.toList = s.data.toList.drop n) (h1 : L.data.toList[1]? = some 47) (hsz : L.size = 2) (hb1 : beginsM [60, 33, 45, 45] L.data.toList = false) (hb2 : beginsM [60, 33, 100, 111, 99, 116, 121, 112, 101] L.data.toList = false) (hnd : n + 2 ≤ s.size) (hs : s.size ≤ 20000) : Hid (∀ W B m0 Q T F, QS W B m0 Q s n T F ⟨#[]⟩ → LastD T 1000000 → T.length ≤ 800000 → F.length ≤ 90000 → Calls Tryz.prog 52 #[.pointer (some ⟨Q, 0, none⟩)] W (StepP B Q s n T F ⟨#[]⟩ ({ noteM 4 2 n [62] (s.data.toList.drop n) with f := (141, n) :: (noteM 4 2 n [62] (s.data.toList.drop n)).f }) W)) := Lib.hid fun w B m0 Q T F h0 hD hl hF => by
  have g0 := slice_from s L n (by omega) hL
  have hLs : L.size = s.size - n := by rw [← lsize, hL, List.length_drop, lsize]
  have z1 : (0 : Int) ≤ (n : Int) := by omega
  have z2 : (n : Int) ≤ 20000 := by omega
  have y2 : (2 : Int) ≤ (L.size : Int) := by omega
  have y3 : ¬ (3 : Int) ≤ (L.size : Int) := by omega
  have i1 := index_ty Tryz.underlying9 L 1 47 h1
  rw [show (((1 : Nat)) : Int) = 1 from rfl, show (((47 : UInt8).toNat : Nat) : Int) = 47 from rfl] at i1
  have C1 := letterR_hid 47 false (by decide)
  rw [show (((47 : UInt8).toNat : Nat) : Int) = 47 from rfl] at C1
  have CB1 := beginsR_hid L ⟨#[60, 33, 45, 45]⟩ false hb1 (by decide)
  have CB2 := beginsR_hid L ⟨#[60, 33, 100, 111, 99, 116, 121, 112, 101]⟩ false hb2 (by decide)
  have CG := noteQ_hid s ⟨#[62]⟩ n 2 4 (.inl rfl) (by decide) (by decide) hnd (by omega)
  rw [show (((2 : Nat)) : Int) = 2 from rfl] at CG
  clear hL hLs hsz h1 hb1 hb2 hD
  obtain ⟨tv, fv, hv⟩ := h0
  have d0 := hv.q.c0
  have d1 := hv.q.c1
  have HV := Lib.hid hv
  clear hv
  go_enter Tryz.func52, Tryz.ntmps52
  go_wp2
  go_quiet (fail)
  have HV1 := Lib.hid (HV.out.below (belowN (Below.refl w.heap.size w) nq))
  have B1 := (belowN (Below.refl w.heap.size w) nq).mono HV.out.bw
  have d1 := HV1.out.q.c1
  clear HV
  generalize w.drewN nq = w0 at HV1 B1 d1 ⊢
  go_wp2_with fail
  (with_reducible refine (C1.out _).mono ?_)
  rintro e w1 ⟨rfl, hw1⟩
  subst hw1
  go_wp2_with fail
  (with_reducible refine (CB1.out _).mono ?_)
  rintro e w2 ⟨rfl, b2⟩
  have HV2 := Lib.hid (HV1.out.below b2)
  have B2 := B1.trans (b2.mono HV1.out.bw)
  clear b2 HV1 B1 d1 CB1
  have d1 := HV2.out.q.c1
  go_wp2_with fail
  (with_reducible refine (CB2.out _).mono ?_)
  rintro e w3 ⟨rfl, b3⟩
  have HV3 := Lib.hid (HV2.out.below b3)
  have B3 := B2.trans (b3.mono HV2.out.bw)
  clear b3 HV2 B2 d1 CB2
  have d1 := HV3.out.q.c1
  go_wp2_with fail
  have CF := failQ_hid 141 n
  (with_reducible refine (CF.out _ _ _ _ _ _ _ _ _ HV3.out.form (by omega)).mono ?_)
  rintro e w5 ⟨rfl, h5, k5⟩
  have B5 := B3.trans (HV3.out.form.frb k5)
  obtain ⟨tv5, fv5, h5⟩ := h5
  have HV5 := Lib.hid h5
  clear k5 h5 HV3 B3 CF d1
  have d1 := HV5.out.q.c1
  go_wp2_with fail
  (with_reducible refine (CG.out _ _ _ _ _ _ _ HV5.out.form (by omega) (by rw [List.length_append]; simp; omega)).mono ?_)
  rintro e w9 ⟨rfl, h9, b9⟩
  have HR := Lib.hid (And.intro h9 (B5.trans b9))
  clear h9 b9 HV5 B5 CG d1
  go_wp2
  (try simp only [Exit.inBlock, Exit.then])
  (try rw [Exit.noGoto_normal])
  go_end0
  refine ⟨rfl, ?_, HR.out.2⟩
  have h := HR.out.1
  rw [List.append_assoc] at h
  exact h

set_option maxRecDepth 100000 in
set_option maxHeartbeats 8000000 in
theorem signQ_odd_47_3 (s L : ByteArray) (n : Nat) (c2 : UInt8) (hL : L.data.toList = s.data.toList.drop n) (h1 : L.data.toList[1]? = some 47) (h2 : L.data.toList[2]? = some c2) (hl2 : letB c2 = false) (hsz : 3 ≤ L.size) (hb1 : beginsM [60, 33, 45, 45] L.data.toList = false) (hb2 : beginsM [60, 33, 100, 111, 99, 116, 121, 112, 101] L.data.toList = false) (hnd : n + 2 ≤ s.size) (hs : s.size ≤ 20000) : Hid (∀ W B m0 Q T F, QS W B m0 Q s n T F ⟨#[]⟩ → LastD T 1000000 → T.length ≤ 800000 → F.length ≤ 90000 → Calls Tryz.prog 52 #[.pointer (some ⟨Q, 0, none⟩)] W (StepP B Q s n T F ⟨#[]⟩ ({ noteM 4 2 n [62] (s.data.toList.drop n) with f := (141, n) :: (noteM 4 2 n [62] (s.data.toList.drop n)).f }) W)) := Lib.hid fun w B m0 Q T F h0 hD hl hF => by
  have g0 := slice_from s L n (by omega) hL
  have hLs : L.size = s.size - n := by rw [← lsize, hL, List.length_drop, lsize]
  have z1 : (0 : Int) ≤ (n : Int) := by omega
  have z2 : (n : Int) ≤ 20000 := by omega
  have y2 : (2 : Int) ≤ (L.size : Int) := by omega
  have y3 : (3 : Int) ≤ (L.size : Int) := by omega
  have i1 := index_ty Tryz.underlying9 L 1 47 h1
  rw [show (((1 : Nat)) : Int) = 1 from rfl, show (((47 : UInt8).toNat : Nat) : Int) = 47 from rfl] at i1
  have C1 := letterR_hid 47 false (by decide)
  rw [show (((47 : UInt8).toNat : Nat) : Int) = 47 from rfl] at C1
  have i2 := index_ty Tryz.underlying9 L 2 c2 h2
  rw [show (((2 : Nat)) : Int) = 2 from rfl] at i2
  have C2 := letterR_hid c2 _ hl2
  have CB1 := beginsR_hid L ⟨#[60, 33, 45, 45]⟩ false hb1 (by decide)
  have CB2 := beginsR_hid L ⟨#[60, 33, 100, 111, 99, 116, 121, 112, 101]⟩ false hb2 (by decide)
  have CG := noteQ_hid s ⟨#[62]⟩ n 2 4 (.inl rfl) (by decide) (by decide) hnd (by omega)
  rw [show (((2 : Nat)) : Int) = 2 from rfl] at CG
  clear hL hLs hsz h1 h2 hl2 hb1 hb2 hD
  obtain ⟨tv, fv, hv⟩ := h0
  have d0 := hv.q.c0
  have d1 := hv.q.c1
  have HV := Lib.hid hv
  clear hv
  go_enter Tryz.func52, Tryz.ntmps52
  go_wp2
  go_quiet (fail)
  have HV1 := Lib.hid (HV.out.below (belowN (Below.refl w.heap.size w) nq))
  have B1 := (belowN (Below.refl w.heap.size w) nq).mono HV.out.bw
  have d1 := HV1.out.q.c1
  clear HV
  generalize w.drewN nq = w0 at HV1 B1 d1 ⊢
  go_wp2_with fail
  (with_reducible refine (C1.out _).mono ?_)
  rintro e w1 ⟨rfl, hw1⟩
  subst hw1
  go_wp2_with fail
  (with_reducible refine (C2.out _).mono ?_)
  rintro e w1 ⟨rfl, hw1⟩
  subst hw1
  go_wp2_with fail
  (with_reducible refine (CB1.out _).mono ?_)
  rintro e w2 ⟨rfl, b2⟩
  have HV2 := Lib.hid (HV1.out.below b2)
  have B2 := B1.trans (b2.mono HV1.out.bw)
  clear b2 HV1 B1 d1 CB1
  have d1 := HV2.out.q.c1
  go_wp2_with fail
  (with_reducible refine (CB2.out _).mono ?_)
  rintro e w3 ⟨rfl, b3⟩
  have HV3 := Lib.hid (HV2.out.below b3)
  have B3 := B2.trans (b3.mono HV2.out.bw)
  clear b3 HV2 B2 d1 CB2
  have d1 := HV3.out.q.c1
  go_wp2_with fail
  have CF := failQ_hid 141 n
  (with_reducible refine (CF.out _ _ _ _ _ _ _ _ _ HV3.out.form (by omega)).mono ?_)
  rintro e w5 ⟨rfl, h5, k5⟩
  have B5 := B3.trans (HV3.out.form.frb k5)
  obtain ⟨tv5, fv5, h5⟩ := h5
  have HV5 := Lib.hid h5
  clear k5 h5 HV3 B3 CF d1
  have d1 := HV5.out.q.c1
  go_wp2_with fail
  (with_reducible refine (CG.out _ _ _ _ _ _ _ HV5.out.form (by omega) (by rw [List.length_append]; simp; omega)).mono ?_)
  rintro e w9 ⟨rfl, h9, b9⟩
  have HR := Lib.hid (And.intro h9 (B5.trans b9))
  clear h9 b9 HV5 B5 CG d1
  go_wp2
  (try simp only [Exit.inBlock, Exit.then])
  (try rw [Exit.noGoto_normal])
  go_end0
  refine ⟨rfl, ?_, HR.out.2⟩
  have h := HR.out.1
  rw [List.append_assoc] at h
  exact h

set_option maxRecDepth 100000 in
set_option maxHeartbeats 8000000 in
theorem signQ_txt_1 (s L : ByteArray) (n : Nat) (hL : L.data.toList = s.data.toList.drop n) (hsz : L.size = 1) (hb1 : beginsM [60, 33, 45, 45] L.data.toList = false) (hb2 : beginsM [60, 33, 100, 111, 99, 116, 121, 112, 101] L.data.toList = false) (hnd : n + 1 ≤ s.size) (hs : s.size ≤ 20000) : Hid (∀ W B m0 Q T F, QS W B m0 Q s n T F ⟨#[]⟩ → LastD T 1000000 → T.length ≤ 800000 → F.length ≤ 90000 → Calls Tryz.prog 52 #[.pointer (some ⟨Q, 0, none⟩)] W (StepP B Q s n T F ⟨#[]⟩ (⟨some (textT [60]), [(141, n)], 1, []⟩) W)) := Lib.hid fun w B m0 Q T F h0 hD hl hF => by
  have g0 := slice_from s L n (by omega) hL
  have hLs : L.size = s.size - n := by rw [← lsize, hL, List.length_drop, lsize]
  have z1 : (0 : Int) ≤ (n : Int) := by omega
  have z2 : (n : Int) ≤ 20000 := by omega
  have y2 : ¬ (2 : Int) ≤ (L.size : Int) := by omega
  have y3 : ¬ (3 : Int) ≤ (L.size : Int) := by omega
  have CB1 := beginsR_hid L ⟨#[60, 33, 45, 45]⟩ false hb1 (by decide)
  have CB2 := beginsR_hid L ⟨#[60, 33, 100, 111, 99, 116, 121, 112, 101]⟩ false hb2 (by decide)
  have CG := textQ_hid ⟨#[60]⟩ T (by decide) hD (by omega)
  clear hL hLs hsz hb1 hb2 hD
  obtain ⟨tv, fv, hv⟩ := h0
  have d0 := hv.q.c0
  have d1 := hv.q.c1
  have HV := Lib.hid hv
  clear hv
  go_enter Tryz.func52, Tryz.ntmps52
  go_wp2
  go_quiet (fail)
  have HV1 := Lib.hid (HV.out.below (belowN (Below.refl w.heap.size w) nq))
  have B1 := (belowN (Below.refl w.heap.size w) nq).mono HV.out.bw
  have d1 := HV1.out.q.c1
  clear HV
  generalize w.drewN nq = w0 at HV1 B1 d1 ⊢
  go_wp2_with fail
  (with_reducible refine (CB1.out _).mono ?_)
  rintro e w2 ⟨rfl, b2⟩
  have HV2 := Lib.hid (HV1.out.below b2)
  have B2 := B1.trans (b2.mono HV1.out.bw)
  clear b2 HV1 B1 d1 CB1
  have d1 := HV2.out.q.c1
  go_wp2_with fail
  (with_reducible refine (CB2.out _).mono ?_)
  rintro e w3 ⟨rfl, b3⟩
  have HV3 := Lib.hid (HV2.out.below b3)
  have B3 := B2.trans (b3.mono HV2.out.bw)
  clear b3 HV2 B2 d1 CB2
  have d1 := HV3.out.q.c1
  go_wp2_with fail
  have CF := failQ_hid 141 n
  (with_reducible refine (CF.out _ _ _ _ _ _ _ _ _ HV3.out.form (by omega)).mono ?_)
  rintro e w5 ⟨rfl, h5, k5⟩
  have B5 := B3.trans (HV3.out.form.frb k5)
  have HV5 := Lib.hid h5
  clear k5 h5 HV3 B3 CF d1
  go_wp2_with fail
  (with_reducible refine (CG.out _ _ _ _ _ _ _ _ HV5.out).mono ?_)
  rintro e w6 ⟨rfl, h6, b6⟩
  have B6 := B5.trans b6
  obtain ⟨tv6, fv6, h6⟩ := h6
  have HV6 := Lib.hid h6
  clear h6 b6 HV5 B5 CG
  have d1 := HV6.out.q.c1
  have f1 := HV6.out.q.free 1
  go_wp2
  (try simp only [Exit.inBlock, Exit.then])
  (try rw [Exit.noGoto_normal])
  go_end0
  have q5 := HV6.out
  have q6 := q5.moved (q5.q.set1 (n + 1)) (q5.q.kset 1 _)
  have B7 := B6.trans (q5.form.onb (q5.q.kset 1 (.int .i64 (((n + 1 : Nat)) : Int))))
  rw [Int.natCast_add] at q6 B7
  exact ⟨rfl, (q6.up q6.mw (Nat.le_refl _)).form, B7⟩

set_option maxRecDepth 100000 in
set_option maxHeartbeats 8000000 in
theorem signQ_txt_2 (s L : ByteArray) (n : Nat) (c1 : UInt8) (hL : L.data.toList = s.data.toList.drop n) (h1 : L.data.toList[1]? = some c1) (hl1 : letB c1 = false) (h33 : c1 ≠ 33) (h63 : c1 ≠ 63) (h47 : c1 ≠ 47) (hsz : L.size = 2) (hb1 : beginsM [60, 33, 45, 45] L.data.toList = false) (hb2 : beginsM [60, 33, 100, 111, 99, 116, 121, 112, 101] L.data.toList = false) (hnd : n + 1 ≤ s.size) (hs : s.size ≤ 20000) : Hid (∀ W B m0 Q T F, QS W B m0 Q s n T F ⟨#[]⟩ → LastD T 1000000 → T.length ≤ 800000 → F.length ≤ 90000 → Calls Tryz.prog 52 #[.pointer (some ⟨Q, 0, none⟩)] W (StepP B Q s n T F ⟨#[]⟩ (⟨some (textT [60]), [(141, n)], 1, []⟩) W)) := Lib.hid fun w B m0 Q T F h0 hD hl hF => by
  have g0 := slice_from s L n (by omega) hL
  have hLs : L.size = s.size - n := by rw [← lsize, hL, List.length_drop, lsize]
  have z1 : (0 : Int) ≤ (n : Int) := by omega
  have z2 : (n : Int) ≤ 20000 := by omega
  have y2 : (2 : Int) ≤ (L.size : Int) := by omega
  have y3 : ¬ (3 : Int) ≤ (L.size : Int) := by omega
  have i1 := index_ty Tryz.underlying9 L 1 c1 h1
  rw [show (((1 : Nat)) : Int) = 1 from rfl] at i1
  have C1 := letterR_hid c1 _ hl1
  have g33 : ((c1.toNat : Int) == 33) = false := by rw [beq_eq_false_iff_ne]; exact fun e => h33 (byte_is (d := 33) e)
  have g63 : ((c1.toNat : Int) == 63) = false := by rw [beq_eq_false_iff_ne]; exact fun e => h63 (byte_is (d := 63) e)
  have g47 : ((c1.toNat : Int) == 47) = false := by rw [beq_eq_false_iff_ne]; exact fun e => h47 (byte_is (d := 47) e)
  have CB1 := beginsR_hid L ⟨#[60, 33, 45, 45]⟩ false hb1 (by decide)
  have CB2 := beginsR_hid L ⟨#[60, 33, 100, 111, 99, 116, 121, 112, 101]⟩ false hb2 (by decide)
  have CG := textQ_hid ⟨#[60]⟩ T (by decide) hD (by omega)
  clear hL hLs hsz h1 hl1 h33 h63 h47 hb1 hb2 hD
  obtain ⟨tv, fv, hv⟩ := h0
  have d0 := hv.q.c0
  have d1 := hv.q.c1
  have HV := Lib.hid hv
  clear hv
  go_enter Tryz.func52, Tryz.ntmps52
  go_wp2
  go_quiet (fail)
  have HV1 := Lib.hid (HV.out.below (belowN (Below.refl w.heap.size w) nq))
  have B1 := (belowN (Below.refl w.heap.size w) nq).mono HV.out.bw
  have d1 := HV1.out.q.c1
  clear HV
  generalize w.drewN nq = w0 at HV1 B1 d1 ⊢
  go_wp2_with fail
  (with_reducible refine (C1.out _).mono ?_)
  rintro e w1 ⟨rfl, hw1⟩
  subst hw1
  go_wp2_with fail
  (with_reducible refine (CB1.out _).mono ?_)
  rintro e w2 ⟨rfl, b2⟩
  have HV2 := Lib.hid (HV1.out.below b2)
  have B2 := B1.trans (b2.mono HV1.out.bw)
  clear b2 HV1 B1 d1 CB1
  have d1 := HV2.out.q.c1
  go_wp2_with fail
  (with_reducible refine (CB2.out _).mono ?_)
  rintro e w3 ⟨rfl, b3⟩
  have HV3 := Lib.hid (HV2.out.below b3)
  have B3 := B2.trans (b3.mono HV2.out.bw)
  clear b3 HV2 B2 d1 CB2
  have d1 := HV3.out.q.c1
  go_wp2_with fail
  have CF := failQ_hid 141 n
  (with_reducible refine (CF.out _ _ _ _ _ _ _ _ _ HV3.out.form (by omega)).mono ?_)
  rintro e w5 ⟨rfl, h5, k5⟩
  have B5 := B3.trans (HV3.out.form.frb k5)
  have HV5 := Lib.hid h5
  clear k5 h5 HV3 B3 CF d1
  go_wp2_with fail
  (with_reducible refine (CG.out _ _ _ _ _ _ _ _ HV5.out).mono ?_)
  rintro e w6 ⟨rfl, h6, b6⟩
  have B6 := B5.trans b6
  obtain ⟨tv6, fv6, h6⟩ := h6
  have HV6 := Lib.hid h6
  clear h6 b6 HV5 B5 CG
  have d1 := HV6.out.q.c1
  have f1 := HV6.out.q.free 1
  go_wp2
  (try simp only [Exit.inBlock, Exit.then])
  (try rw [Exit.noGoto_normal])
  go_end0
  have q5 := HV6.out
  have q6 := q5.moved (q5.q.set1 (n + 1)) (q5.q.kset 1 _)
  have B7 := B6.trans (q5.form.onb (q5.q.kset 1 (.int .i64 (((n + 1 : Nat)) : Int))))
  rw [Int.natCast_add] at q6 B7
  exact ⟨rfl, (q6.up q6.mw (Nat.le_refl _)).form, B7⟩

set_option maxRecDepth 100000 in
set_option maxHeartbeats 8000000 in
theorem signQ_txt_3 (s L : ByteArray) (n : Nat) (c1 : UInt8) (hL : L.data.toList = s.data.toList.drop n) (h1 : L.data.toList[1]? = some c1) (hl1 : letB c1 = false) (h33 : c1 ≠ 33) (h63 : c1 ≠ 63) (h47 : c1 ≠ 47) (hsz : 3 ≤ L.size) (hb1 : beginsM [60, 33, 45, 45] L.data.toList = false) (hb2 : beginsM [60, 33, 100, 111, 99, 116, 121, 112, 101] L.data.toList = false) (hnd : n + 1 ≤ s.size) (hs : s.size ≤ 20000) : Hid (∀ W B m0 Q T F, QS W B m0 Q s n T F ⟨#[]⟩ → LastD T 1000000 → T.length ≤ 800000 → F.length ≤ 90000 → Calls Tryz.prog 52 #[.pointer (some ⟨Q, 0, none⟩)] W (StepP B Q s n T F ⟨#[]⟩ (⟨some (textT [60]), [(141, n)], 1, []⟩) W)) := Lib.hid fun w B m0 Q T F h0 hD hl hF => by
  have g0 := slice_from s L n (by omega) hL
  have hLs : L.size = s.size - n := by rw [← lsize, hL, List.length_drop, lsize]
  have z1 : (0 : Int) ≤ (n : Int) := by omega
  have z2 : (n : Int) ≤ 20000 := by omega
  have y2 : (2 : Int) ≤ (L.size : Int) := by omega
  have y3 : (3 : Int) ≤ (L.size : Int) := by omega
  have i1 := index_ty Tryz.underlying9 L 1 c1 h1
  rw [show (((1 : Nat)) : Int) = 1 from rfl] at i1
  have C1 := letterR_hid c1 _ hl1
  have g33 : ((c1.toNat : Int) == 33) = false := by rw [beq_eq_false_iff_ne]; exact fun e => h33 (byte_is (d := 33) e)
  have g63 : ((c1.toNat : Int) == 63) = false := by rw [beq_eq_false_iff_ne]; exact fun e => h63 (byte_is (d := 63) e)
  have g47 : ((c1.toNat : Int) == 47) = false := by rw [beq_eq_false_iff_ne]; exact fun e => h47 (byte_is (d := 47) e)
  have CB1 := beginsR_hid L ⟨#[60, 33, 45, 45]⟩ false hb1 (by decide)
  have CB2 := beginsR_hid L ⟨#[60, 33, 100, 111, 99, 116, 121, 112, 101]⟩ false hb2 (by decide)
  have CG := textQ_hid ⟨#[60]⟩ T (by decide) hD (by omega)
  clear hL hLs hsz h1 hl1 h33 h63 h47 hb1 hb2 hD
  obtain ⟨tv, fv, hv⟩ := h0
  have d0 := hv.q.c0
  have d1 := hv.q.c1
  have HV := Lib.hid hv
  clear hv
  go_enter Tryz.func52, Tryz.ntmps52
  go_wp2
  go_quiet (fail)
  have HV1 := Lib.hid (HV.out.below (belowN (Below.refl w.heap.size w) nq))
  have B1 := (belowN (Below.refl w.heap.size w) nq).mono HV.out.bw
  have d1 := HV1.out.q.c1
  clear HV
  generalize w.drewN nq = w0 at HV1 B1 d1 ⊢
  go_wp2_with fail
  (with_reducible refine (C1.out _).mono ?_)
  rintro e w1 ⟨rfl, hw1⟩
  subst hw1
  go_wp2_with fail
  (with_reducible refine (CB1.out _).mono ?_)
  rintro e w2 ⟨rfl, b2⟩
  have HV2 := Lib.hid (HV1.out.below b2)
  have B2 := B1.trans (b2.mono HV1.out.bw)
  clear b2 HV1 B1 d1 CB1
  have d1 := HV2.out.q.c1
  go_wp2_with fail
  (with_reducible refine (CB2.out _).mono ?_)
  rintro e w3 ⟨rfl, b3⟩
  have HV3 := Lib.hid (HV2.out.below b3)
  have B3 := B2.trans (b3.mono HV2.out.bw)
  clear b3 HV2 B2 d1 CB2
  have d1 := HV3.out.q.c1
  go_wp2_with fail
  have CF := failQ_hid 141 n
  (with_reducible refine (CF.out _ _ _ _ _ _ _ _ _ HV3.out.form (by omega)).mono ?_)
  rintro e w5 ⟨rfl, h5, k5⟩
  have B5 := B3.trans (HV3.out.form.frb k5)
  have HV5 := Lib.hid h5
  clear k5 h5 HV3 B3 CF d1
  go_wp2_with fail
  (with_reducible refine (CG.out _ _ _ _ _ _ _ _ HV5.out).mono ?_)
  rintro e w6 ⟨rfl, h6, b6⟩
  have B6 := B5.trans b6
  obtain ⟨tv6, fv6, h6⟩ := h6
  have HV6 := Lib.hid h6
  clear h6 b6 HV5 B5 CG
  have d1 := HV6.out.q.c1
  have f1 := HV6.out.q.free 1
  go_wp2
  (try simp only [Exit.inBlock, Exit.then])
  (try rw [Exit.noGoto_normal])
  go_end0
  have q5 := HV6.out
  have q6 := q5.moved (q5.q.set1 (n + 1)) (q5.q.kset 1 _)
  have B7 := B6.trans (q5.form.onb (q5.q.kset 1 (.int .i64 (((n + 1 : Nat)) : Int))))
  rw [Int.natCast_add] at q6 B7
  exact ⟨rfl, (q6.up q6.mw (Nat.le_refl _)).form, B7⟩

theorem pos_of_get {L : ByteArray} {k : Nat} {c : UInt8} (h : L.data.toList[k]? = some c) : k < L.size := get_some h
theorem signQ_hid (s XR : ByteArray) (n : Nat) (hn : n < s.size) (hXR : XR.data.toList = (signS n (s.data.toList.drop n)).r) (hs : s.size ≤ 20000) : Hid (∀ W B m0 Q T F, QS W B m0 Q s n T F ⟨#[]⟩ → LastD T 1000000 → T.length ≤ 800000 → F.length ≤ 90000 → Calls Tryz.prog 52 #[.pointer (some ⟨Q, 0, none⟩)] W (StepP B Q s n T F XR (signS n (s.data.toList.drop n)) W)) := by
  obtain ⟨L, hL⟩ := text_of (s.data.toList.drop n)
  have hLs : L.size = s.size - n := by rw [← lsize, hL, List.length_drop, lsize]
  have hsg := signS_is n (s.data.toList.drop n)
  rw [← hL] at hsg
  by_cases hl : (L.data.toList[1]?).any letB = true
  · rw [if_pos hl] at hsg
    cases h1 : L.data.toList[1]? with
    | none => rw [h1] at hl; cases hl
    | some c1 =>
      rw [h1] at hl
      have h2 := pos_of_get h1
      rw [← hL, hsg] at hXR ⊢
      rw [hL] at hXR ⊢
      exact signQ_st s L n c1 XR hL h1 hl (by omega) hXR (by omega) hs
  · rw [if_neg hl] at hsg
    by_cases he : L.data.toList[1]? = some 47 ∧ (L.data.toList[2]?).any letB = true
    · rw [if_pos he] at hsg
      cases h2 : L.data.toList[2]? with
      | none => rw [h2] at he; cases he.2
      | some c2 =>
        rw [h2] at he
        have h3 := pos_of_get h2
        rw [← hL, hsg] at hXR ⊢
        rw [hL] at hXR ⊢
        exact signQ_end s L n c2 XR hL he.1 h2 he.2 (by omega) hXR (by omega) hs
    · rw [if_neg he] at hsg
      cases hb1 : beginsM [60, 33, 45, 45] L.data.toList with
      | true =>
        rw [if_pos hb1] at hsg
        have h1 := begins_bang hb1 rfl
        have h4 : 4 ≤ L.data.toList.length := begins_size hb1
        rw [lsize] at h4
        rw [← hL, hsg] at hXR ⊢
        rw [hL] at hXR ⊢
        have hx : XR = ⟨#[]⟩ := text_is (hXR.trans (by unfold noteM; split <;> rfl))
        rw [hx]
        exact signQ_com s L n hL h1 (by omega) hb1 (by omega) hs
      | false =>
        rw [hb1, if_neg (by decide)] at hsg
        cases hb2 : beginsM [60, 33, 100, 111, 99, 116, 121, 112, 101] L.data.toList with
        | true =>
          rw [hb2, if_pos rfl] at hsg
          have h1 := begins_bang hb2 rfl
          have h4 : 9 ≤ L.data.toList.length := begins_size hb2
          rw [lsize] at h4
          rw [← hL, hsg] at hXR ⊢
          rw [hL] at hXR ⊢
          have hx : XR = ⟨#[]⟩ := text_is (hXR.trans (by unfold noteM; split <;> rfl))
          rw [hx]
          exact signQ_doc s L n hL h1 (by omega) hb1 hb2 (by omega) hs
        | false =>
          rw [hb2, if_neg (by decide)] at hsg
          by_cases ho : L.data.toList[1]? = some 33 ∨ L.data.toList[1]? = some 63 ∨ L.data.toList[1]? = some 47
          · rw [if_pos ho] at hsg
            rw [← hL, hsg] at hXR ⊢
            rw [hL] at hXR ⊢
            have hx : XR = ⟨#[]⟩ := text_is (hXR.trans (by show (noteM 4 2 n [62] (s.data.toList.drop n)).r = _; unfold noteM; split <;> rfl))
            rw [hx]
            have h12 : 1 < L.size := by
              rcases ho with h | h | h <;> exact pos_of_get h
            by_cases h3 : L.size = 2
            · rcases ho with h | h | h
              · exact signQ_odd_33_2 s L n hL h h3 hb1 hb2 (by omega) hs
              · exact signQ_odd_63_2 s L n hL h h3 hb1 hb2 (by omega) hs
              · exact signQ_odd_47_2 s L n hL h h3 hb1 hb2 (by omega) hs
            · rcases ho with h | h | h
              · exact signQ_odd_33_3 s L n hL h (by omega) hb1 hb2 (by omega) hs
              · exact signQ_odd_63_3 s L n hL h (by omega) hb1 hb2 (by omega) hs
              · obtain ⟨c2, h2⟩ : ∃ c2, L.data.toList[2]? = some c2 := ⟨_, List.getElem?_eq_getElem (by rw [lsize]; omega)⟩
                have hl2 : letB c2 = false := by
                  cases hh : letB c2 with
                  | false => rfl
                  | true => exact absurd ⟨h, by rw [h2]; exact hh⟩ he
                exact signQ_odd_47_3 s L n c2 hL h h2 hl2 (by omega) hb1 hb2 (by omega) hs
          · rw [if_neg ho] at hsg
            rw [← hL, hsg] at hXR ⊢
            have hx : XR = ⟨#[]⟩ := text_is hXR
            rw [hx]
            by_cases h1 : L.size = 1
            · exact signQ_txt_1 s L n hL h1 hb1 hb2 (by omega) hs
            · obtain ⟨c1, hc1⟩ : ∃ c1, L.data.toList[1]? = some c1 := ⟨_, List.getElem?_eq_getElem (by rw [lsize]; omega)⟩
              have hl1 : letB c1 = false := by
                cases hh : letB c1 with
                | false => rfl
                | true => exact absurd (by rw [hc1]; exact hh) hl
              have e33 : c1 ≠ 33 := fun e => ho (.inl (by rw [hc1, e]))
              have e63 : c1 ≠ 63 := fun e => ho (.inr (.inl (by rw [hc1, e])))
              have e47 : c1 ≠ 47 := fun e => ho (.inr (.inr (by rw [hc1, e])))
              by_cases h3 : L.size = 2
              · exact signQ_txt_2 s L n c1 hL hc1 hl1 e33 e63 e47 h3 hb1 hb2 (by omega) hs
              · exact signQ_txt_3 s L n c1 hL hc1 hl1 e33 e63 e47 (by omega) hb1 hb2 (by omega) hs

end Go.Proofs.YtfbhpmafjehojaaGreatDoor
