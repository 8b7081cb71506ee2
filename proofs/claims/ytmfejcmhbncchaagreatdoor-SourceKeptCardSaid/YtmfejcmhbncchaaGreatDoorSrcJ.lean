/- What the program's cutter does: cutPlace, whole; cutKept. -/
import Derived.Test.YtmfejcmhbncchaaGreatDoorSrcI
import Derived.Test.YtmfejcmhbncchaaGreatDoorClass
namespace Go.Proofs.YtmfejcmhbncchaaGreatDoor
open Go.RowKit

theorem place_tail (B : Nat) (L S R : ByteArray) (HC : Hid (HeadC B L S R)) (hR : R.size ≤ 1000000) :
    (∀ (H PA : ByteArray) (wd : Bool) (p : Int), placeO S.data.toList R.data.toList = some ⟨12, [], S.data.toList, H.data.toList, wd, p, PA.data.toList⟩ → ∀ w, LowIn B w → CX w B 12 ⟨#[]⟩ ⟨#[]⟩ ⟨#[]⟩ false 0 ⟨#[]⟩ L →
      Calls Tryz.prog 46 #[.pointer (some ⟨B, 0, none⟩)] w fun e w' => e = .returned (.bool true) ∧ CX w' B 12 ⟨#[]⟩ S H wd p PA R ∧ Below B w w') ∧
    (placeO S.data.toList R.data.toList = none → ∀ w, LowIn B w → CX w B 12 ⟨#[]⟩ ⟨#[]⟩ ⟨#[]⟩ false 0 ⟨#[]⟩ L →
      Calls Tryz.prog 46 #[.pointer (some ⟨B, 0, none⟩)] w fun e w' => e = .returned (.bool false) ∧ Below B w w') := by
  obtain ⟨U, hU⟩ := text_of (upto (isC 47) R.data.toList)
  obtain ⟨PA, hPA⟩ := text_of (past (isC 47) R.data.toList)
  have hlen := upto_length (isC 47) R.data.toList
  rw [← hU, ← hPA, lsize, lsize, lsize] at hlen
  obtain ⟨NM, hNM⟩ := text_of (upto (isC 58) U.data.toList)
  obtain ⟨PT, hPT⟩ := text_of ((past (isC 58) U.data.toList).drop 1)
  have hlen2 := upto_length (isC 58) U.data.toList
  rw [← hNM, lsize, lsize] at hlen2
  obtain ⟨N, hN⟩ := text_of (low NM.data.toList)
  obtain ⟨told, htold⟩ : ∃ x, (!(past (isC 58) U.data.toList).isEmpty) = x := ⟨_, rfl⟩
  have CC := cutL_hid U ⟨#[58]⟩ NM PT told (by rw [hNM, hPT, ← htold]; exact cut_58 _) (by omega)
  have CL := lower_hid NM N hN (by omega)
  obtain ⟨n, hI⟩ : ∃ n, Lib.indexByte R.data.toList 47 = n := ⟨_, rfl⟩
  have CI : Hid (∀ W, Calls Tryz.prog 76 #[.string R, .string ⟨#[47]⟩] W fun e w' => e = .returned (.int .i64 n) ∧ w' = W) := Lib.hid fun W => by
    rw [← hI]; exact Tryz.strings_Index_one R 47 W
  obtain ⟨E, hn, hE, s1, s2⟩ : ∃ E : Nat, ((n = -1 ∧ E = R.size) ∨ (n = (E : Int))) ∧ E ≤ R.size ∧ (∀ W, (Instr.slice 9 (.string R) none (some (.int .i64 (E : Int))) none).run Tryz.prog W = .ok (.string U) W) ∧ (∀ W, (Instr.slice 9 (.string R) (some (.int .i64 (E : Int))) none none).run Tryz.prog W = .ok (.string PA) W) := by
    rcases byte_cut 47 R.data.toList with ⟨h1, h2, h3⟩ | ⟨k, h0, h1, h2, h3⟩
    · refine ⟨R.size, .inl ⟨by rw [← hI, h1], rfl⟩, Nat.le_refl _, slice_to R U R.size (Nat.le_refl _) ?_, slice_from R PA R.size (Nat.le_refl _) ?_⟩
      · rw [hU, h2, take_all]
      · rw [hPA, h3, ← lsize, List.drop_length]
    · rw [lsize] at h0
      refine ⟨k, .inr (by rw [← hI, h1]), by omega, slice_to R U k (by omega) ?_, slice_from R PA k (by omega) ?_⟩
      · rw [hU, h2]
      · rw [hPA, h3]
  have hO : placeO S.data.toList R.data.toList = match nameO N.data.toList with
      | none => none
      | some (h, wd) => toldO S.data.toList h wd PA.data.toList (past (isC 58) U.data.toList) := by
    unfold placeO
    rw [← hU, ← hPA, ← hNM, ← hN]
    cases nameO N.data.toList <;> rfl
  have hUR : U.size ≤ R.size := by omega
  clear hU hPA hlen hNM hlen2 hN hI
  cases hname : nameO N.data.toList with
  | none =>
    rw [hname] at hO
    refine ⟨fun H PA2 wd p h => ?_, fun _ w hl a => ?_⟩
    · rw [hO] at h; cases h
    · exact place_hno L S R U PA NM N PT told B HC E n CI hn hE s1 s2 CC CL (Lib.hid fun W a => takeH_no N hname B W 12 ⟨#[]⟩ S 0 PA R a) w hl a
  | some x =>
    obtain ⟨hl, wd⟩ := x
    obtain ⟨H, hH⟩ := text_of hl
    rw [hname] at hO
    simp only [] at hO
    rw [← hH] at hO hname
    have HH := fun q : Int => Lib.hid fun W a => takeH_yes N H wd hname B W 12 ⟨#[]⟩ S q PA R a
    cases hpt : past (isC 58) U.data.toList with
    | nil =>
      obtain rfl : told = false := by rw [← htold, hpt]; rfl
      rw [hpt] at hO
      refine ⟨fun H2 PA2 wd2 p h w hl a => ?_, fun h => ?_⟩
      · rw [hO] at h
        have h2 := Option.some.inj h
        unfold toldO at h2
        rw [Src.mk.injEq] at h2
        obtain ⟨_, _, _, e1, e2, e3, e4⟩ := h2
        obtain rfl : H2 = H := (text_is e1.symm).trans (text_is rfl).symm
        obtain rfl : PA2 = PA := (text_is e4.symm).trans (text_is rfl).symm
        subst e2; subst e3
        exact place_untold L S R U PA2 NM N PT B HC E n CI hn hE s1 s2 CC CL H2 wd (HH 0) w hl a
      · rw [hO] at h; cases h
    | cons c ds =>
      obtain rfl : told = true := by rw [← htold, hpt]; rfl
      rw [hpt] at hO hPT
      have hPT2 : PT.data.toList = ds := hPT
      cases hq : portO ds with
      | none =>
        unfold toldO at hO
        simp only [hq, Option.map_none] at hO
        refine ⟨fun H2 PA2 wd2 p h => ?_, fun _ w hl a => ?_⟩
        · rw [hO] at h; cases h
        · have hPTs : PT.size ≤ 1000000 := by
            have e1 := upto_length (isC 58) U.data.toList
            rw [hpt, lsize] at e1
            rw [← lsize, hPT2]
            simp only [List.length_cons] at e1
            have e3 : U.size ≤ R.size := hUR
            omega
          exact place_pno L S R U PA NM N PT B HC E n CI hn hE s1 s2 CC CL H wd (HH 0) (Lib.hid fun W hw a => takeP_no PT (by rw [hPT2]; exact hq) hPTs B W hw 12 ⟨#[]⟩ S H wd 0 PA R a) w hl a
      | some q =>
        unfold toldO at hO
        simp only [hq, Option.map_some] at hO
        refine ⟨fun H2 PA2 wd2 p h w hl a => ?_, fun h => ?_⟩
        · rw [hO] at h
          have h2 := Option.some.inj h
          rw [Src.mk.injEq] at h2
          obtain ⟨_, _, _, e1, e2, e3, e4⟩ := h2
          obtain rfl : H2 = H := (text_is e1.symm).trans (text_is rfl).symm
          obtain rfl : PA2 = PA := (text_is e4.symm).trans (text_is rfl).symm
          subst e2; subst e3
          exact place_pyes L S R U PA2 NM N PT B HC E n CI hn hE s1 s2 CC CL H2 wd (HH 0) q (Lib.hid fun W a => takeP_yes PT q (by rw [hPT2]; exact hq) B W 12 ⟨#[]⟩ S H2 wd 0 PA2 R a) w hl a
        · rw [hO] at h; cases h

def placeAll (l : List UInt8) : Option Src := match sp3 l with
  | some (sc, r) => if sc = [] then none else placeO (low sc) r
  | none => placeO [] l
theorem placeO_form {sc l : List UInt8} {a : Src} (h : placeO sc l = some a) : a.k = 12 ∧ a.t = [] ∧ a.s = sc := by
  unfold placeO at h
  split at h
  · cases h
  · unfold toldO at h
    split at h
    · injection h with h
      subst h
      exact ⟨rfl, rfl, rfl⟩
    · rw [Option.map_eq_some_iff] at h
      obtain ⟨_, _, h⟩ := h
      subst h
      exact ⟨rfl, rfl, rfl⟩
theorem sp3_len {l sc r : List UInt8} (h : sp3 l = some (sc, r)) : sc.length + r.length ≤ l.length := by
  rcases index_sp3 l with ⟨h1, _⟩ | ⟨x, y, h1, _, h3⟩
  · rw [h] at h1; cases h1
  · rw [h] at h1
    injection h1 with h1
    rw [Prod.mk.injEq] at h1
    rw [h3, h1.1, h1.2]
    simp
    omega
set_option maxRecDepth 100000 in
theorem placeC_bad (L R : ByteArray) (hs : sp3 L.data.toList = some ([], R.data.toList)) (hL : L.size ≤ 1000000) (B : Nat) (w : World) (hlow : LowIn B w) (a : CX w B 12 ⟨#[]⟩ ⟨#[]⟩ ⟨#[]⟩ false 0 ⟨#[]⟩ L) :
    Calls Tryz.prog 46 #[.pointer (some ⟨B, 0, none⟩)] w fun e w' => e = .returned (.bool false) ∧ Below B w w' := by
  have HC := Lib.hid (cutS_bad L R hs hL B w hlow _ _ _ _ _ _ _ a)
  clear hs
  go_enter Tryz.func46, Tryz.ntmps46
  go_wp2_with fail
  refine HC.out.mono ?_
  rintro e w1 ⟨rfl, B1⟩
  go_wp2
  go_ret
  exact ⟨rfl, B1⟩
/-- A place's word is cut: where it is one. -/
theorem placeC_yes (L S H PA : ByteArray) (wd : Bool) (p : Int) (h : placeAll L.data.toList = some ⟨12, [], S.data.toList, H.data.toList, wd, p, PA.data.toList⟩) (hL : L.size ≤ 1000000) (B : Nat) : Hid (∀ w, LowIn B w → CX w B 12 ⟨#[]⟩ ⟨#[]⟩ ⟨#[]⟩ false 0 ⟨#[]⟩ L →
    Calls Tryz.prog 46 #[.pointer (some ⟨B, 0, none⟩)] w fun e w' => e = .returned (.bool true) ∧ (∃ l, CX w' B 12 ⟨#[]⟩ S H wd p PA l) ∧ Below B w w') := Lib.hid fun w hl a => by
  unfold placeAll at h
  cases hs : sp3 L.data.toList with
  | none =>
    rw [hs] at h
    simp only [] at h
    obtain rfl : S = ⟨#[]⟩ := text_is (placeO_form h).2.2
    exact ((place_tail B L ⟨#[]⟩ L (Lib.hid fun W hw a => cutS_none L hs hL B W hw _ _ _ _ _ _ _ a) hL).1 H PA wd p h w hl a).mono fun e w' ⟨h1, h2, h3⟩ => ⟨h1, ⟨L, h2⟩, h3⟩
  | some x =>
    obtain ⟨sc, r⟩ := x
    rw [hs] at h
    simp only [] at h
    by_cases h0 : sc = []
    · rw [if_pos h0] at h; cases h
    · rw [if_neg h0] at h
      have hS : S.data.toList = low sc := (placeO_form h).2.2
      obtain ⟨R, hR⟩ := text_of r
      have hRs : R.size ≤ 1000000 := by have := sp3_len hs; rw [← hR, lsize, lsize] at this; omega
      rw [← hR] at hs h
      rw [← hS] at h
      exact ((place_tail B L S R (Lib.hid fun W hw a => cutS_some L S R sc hs h0 hS hL B W hw _ _ _ _ _ _ _ a) hRs).1 H PA wd p h w hl a).mono fun e w' ⟨h1, h2, h3⟩ => ⟨h1, ⟨R, h2⟩, h3⟩
/-- .. and where it is none. -/
theorem placeC_no (L : ByteArray) (h : placeAll L.data.toList = none) (hL : L.size ≤ 1000000) (B : Nat) : Hid (∀ w, LowIn B w → CX w B 12 ⟨#[]⟩ ⟨#[]⟩ ⟨#[]⟩ false 0 ⟨#[]⟩ L →
    Calls Tryz.prog 46 #[.pointer (some ⟨B, 0, none⟩)] w fun e w' => e = .returned (.bool false) ∧ Below B w w') := Lib.hid fun w hl a => by
  unfold placeAll at h
  cases hs : sp3 L.data.toList with
  | none =>
    rw [hs] at h
    simp only [] at h
    exact (place_tail B L ⟨#[]⟩ L (Lib.hid fun W hw a => cutS_none L hs hL B W hw _ _ _ _ _ _ _ a) hL).2 h w hl a
  | some x =>
    obtain ⟨sc, r⟩ := x
    rw [hs] at h
    simp only [] at h
    obtain ⟨R, hR⟩ := text_of r
    have hRs : R.size ≤ 1000000 := by have := sp3_len hs; rw [← hR, lsize, lsize] at this; omega
    rw [← hR] at hs h
    by_cases h0 : sc = []
    · subst h0
      exact placeC_bad L R hs hL B w hl a
    · rw [if_neg h0] at h
      obtain ⟨S, hS⟩ := text_of (low sc)
      rw [← hS] at h
      exact (place_tail B L S R (Lib.hid fun W hw a => cutS_some L S R sc hs h0 hS hL B W hw _ _ _ _ _ _ _ a) hRs).2 h w hl a

end Go.Proofs.YtmfejcmhbncchaaGreatDoor
