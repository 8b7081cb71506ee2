/- What the program's cutter does: cutQuoted, cut. -/
import Derived.Test.YtmfejcmhbncchaaGreatDoorSrcK
namespace Go.Proofs.YtmfejcmhbncchaaGreatDoor
open Go.RowKit

theorem suffix_one (l : List UInt8) (c : UInt8) : Lib.hasSuffix l [c] = decide (l.getLast? = some c) := by
  unfold Lib.hasSuffix
  rw [Bool.eq_iff_iff, List.isSuffixOf_iff_suffix, decide_eq_true_eq]
  constructor
  · rintro ⟨a, rfl⟩
    simp
  · intro h
    have hne : l ≠ [] := by intro e; rw [e] at h; cases h
    rw [List.getLast?_eq_some_getLast hne] at h
    exact ⟨l.dropLast, by rw [← Option.some.inj h]; exact List.dropLast_concat_getLast hne⟩
theorem trim_one (l : List UInt8) (c : UInt8) : Lib.trimSuffix l [c] = if l.getLast? = some c then l.dropLast else l := by
  unfold Lib.trimSuffix
  rw [suffix_one]
  by_cases h : l.getLast? = some c
  · rw [if_pos (decide_eq_true h), if_pos h, List.dropLast_eq_take]
    rfl
  · rw [if_neg (by simpa using h), if_neg h]
theorem prefix_one (l : List UInt8) (c : UInt8) : Lib.hasPrefix l [c] = decide (l.head? = some c) := by
  unfold Lib.hasPrefix
  cases l with
  | nil => rfl
  | cons b l =>
    rw [isPrefixOf_one, Bool.eq_iff_iff, decide_eq_true_eq, beq_iff_eq, List.head?_cons, Option.some.injEq]
    exact eq_comm
/-- Every source is one of texts. -/
theorem src_of (a : Src) : ∃ t s h pa : ByteArray, a = srcM a.k t s h a.w a.p pa :=
  ⟨⟨a.t.toArray⟩, ⟨a.s.toArray⟩, ⟨a.h.toArray⟩, ⟨a.pa.toArray⟩, rfl⟩

set_option maxRecDepth 100000 in
set_option maxHeartbeats 4000000 in
/-- What a text that begins with a quote is, but for the kept words. -/
theorem cutQ_any (L M : ByteArray) (r : Bool) (hr : decide (L.data.toList.getLast? = some 39) = r) (hM : M.data.toList = if L.data.toList.getLast? = some 39 then L.data.toList.dropLast else L.data.toList) (k2 : Int) (t2 : ByteArray) (hQ : quotedO M.data.toList = bareK k2 t2.data.toList) (hL : L.size ≤ 10000) (B : Nat) (w : World) (a : CX w B 0 ⟨#[]⟩ ⟨#[]⟩ ⟨#[]⟩ false 0 ⟨#[]⟩ L) :
    Calls Tryz.prog 43 #[.pointer (some ⟨B, 0, none⟩)] w fun e w' => e = .returned (.bool r) ∧ (∃ l, CX w' B k2 t2 ⟨#[]⟩ ⟨#[]⟩ false 0 ⟨#[]⟩ l) ∧ Below B w w' := by
  have hlt := a.lt
  have hMs : M.size ≤ L.size := by
    rw [← lsize, hM, ← lsize L]
    split
    · rw [List.length_dropLast]; omega
    · exact Nat.le_refl _
  have C : Hid (∀ W, Calls Tryz.prog 70 #[.string L, .string ⟨#[39]⟩] W fun e w' => e = .returned (.tuple #[.string M, .bool r]) ∧ w' = W) := Lib.hid fun W => by
    have := Tryz.strings_CutSuffix L ⟨#[39]⟩ W (by omega)
    rw [show (⟨#[39]⟩ : ByteArray).data.toList = [39] from rfl, suffix_one, trim_one, ← hM, hr, ← text_is (T := M) rfl] at this
    exact this
  have c7 := a.c7
  have f7 := a.free 7
  have a1 := a.set7 M
  have B1 : Below B w (w.setCell ⟨B, 7, none⟩ (.string M)) := ((Below.refl w.heap.size w).mono (Nat.le_of_lt hlt)).setCell (Nat.le_refl _) _
  clear a hM
  unfold quotedO at hQ
  cases h1 : beg M.data.toList NON
  · rw [h1] at hQ
    simp only [Bool.false_eq_true, if_false] at hQ
    have S1 := Lib.hid fun W a => skipC_any ⟨#[39, 110, 111, 110, 99, 101, 45]⟩ M M false (by decide) h1 rfl (by omega) (by decide) B W 0 ⟨#[]⟩ ⟨#[]⟩ ⟨#[]⟩ false 0 ⟨#[]⟩ a
    cases h2 : beg M.data.toList MRK
    · rw [h2] at hQ
      simp only [Bool.false_eq_true, if_false] at hQ
      have e : k2 = 0 ∧ t2 = ⟨#[]⟩ := by
        have e1 := congrArg Src.k hQ
        have e2 := congrArg Src.t hQ
        exact ⟨e1.symm, text_is e2.symm⟩
      obtain ⟨rfl, rfl⟩ := e
      have S2 := Lib.hid fun W a => skipC_any ⟨#[39, 109, 97, 114, 107, 45]⟩ M M false (by decide) h2 rfl (by omega) (by decide) B W 0 ⟨#[]⟩ ⟨#[]⟩ ⟨#[]⟩ false 0 ⟨#[]⟩ a
      clear h1 h2 hQ hr hMs hL
      go_enter Tryz.func43, Tryz.ntmps43
      go_wp2_with fail
      refine (C.out _).mono ?_
      rintro e w ⟨rfl, rfl⟩
      go_wp2_with fail
      clear c7 f7
      generalize w.setCell ⟨B, 7, none⟩ (.string M) = w1 at a1 B1 ⊢
      refine (S1.out _ a1).mono ?_
      rintro e w2 ⟨rfl, a2, B2⟩
      have B3 := B1.trans B2
      clear a1 B1 B2
      go_wp2_with fail
      refine (S2.out _ a2).mono ?_
      rintro e w4 ⟨rfl, a4, B4⟩
      go_wp2
      go_ret
      exact ⟨rfl, ⟨M, a4⟩, B3.trans B4⟩
    · rw [h2] at hQ
      simp only [if_true] at hQ
      obtain ⟨M3, hM3⟩ := text_of (M.data.toList.drop 6)
      have hM3s : M3.size ≤ M.size := by rw [← lsize, hM3, ← lsize M, List.length_drop]; omega
      have e : k2 = 10 ∧ t2.data.toList = (decM M3.data.toList).1 := by
        rw [hM3]
        exact ⟨(congrArg Src.k hQ).symm, (congrArg Src.t hQ).symm⟩
      obtain ⟨rfl, e2⟩ := e
      obtain ⟨ok, hok⟩ : ∃ x, (decM M3.data.toList).2 = x := ⟨_, rfl⟩
      have CD := decode_hid M3 (by omega) t2 ok (by rw [e2, ← hok])
      have S2 := Lib.hid fun W a => skipC_any ⟨#[39, 109, 97, 114, 107, 45]⟩ M M3 true (by decide) h2 hM3 (by omega) (by decide) B W 0 ⟨#[]⟩ ⟨#[]⟩ ⟨#[]⟩ false 0 ⟨#[]⟩ a
      clear h1 h2 hQ hr hMs hL hM3 hM3s e2 hok
      go_enter Tryz.func43, Tryz.ntmps43
      go_wp2_with fail
      refine (C.out _).mono ?_
      rintro e w ⟨rfl, rfl⟩
      go_wp2_with fail
      clear c7 f7
      generalize w.setCell ⟨B, 7, none⟩ (.string M) = w1 at a1 B1 ⊢
      refine (S1.out _ a1).mono ?_
      rintro e w2 ⟨rfl, a2, B2⟩
      have B3 := B1.trans B2
      clear a1 B1 B2
      go_wp2_with fail
      refine (S2.out _ a2).mono ?_
      rintro e w4 ⟨rfl, a4, B4⟩
      have B5 := B3.trans B4
      clear a2 B3 B4
      have c0 := a4.c0
      have f0 := a4.free 0
      have a5 := a4.set0 10
      have c7 := a5.c7
      have B6 := B5.setCell (p := ⟨B, 0, none⟩) (Nat.le_refl _) (.int .i64 10)
      go_wp2_with fail
      clear c7 c0 f0 a4 B5
      generalize w4.setCell ⟨B, 0, none⟩ (.int .i64 10) = w5 at a5 B6 ⊢
      refine (CD.out _).mono ?_
      rintro e w6 ⟨rfl, b6⟩
      have a6 := a5.below b6
      have B7 := B6.trans (b6.mono (Nat.le_of_lt a5.lt))
      have c1 := a6.c1
      have f1 := a6.free 1
      have a7 := a6.set1 t2
      have B8 := B7.setCell (p := ⟨B, 1, none⟩) (Nat.le_refl _) (.string t2)
      clear a5 B6 b6
      go_wp2
      go_ret
      exact ⟨rfl, ⟨M3, a7⟩, B8⟩
  · rw [h1] at hQ
    simp only [if_true] at hQ
    have e : k2 = 9 ∧ t2.data.toList = M.data.toList.drop 7 := ⟨(congrArg Src.k hQ).symm, (congrArg Src.t hQ).symm⟩
    obtain ⟨rfl, e2⟩ := e
    have S1 := Lib.hid fun W a => skipC_any ⟨#[39, 110, 111, 110, 99, 101, 45]⟩ M t2 true (by decide) h1 e2 (by omega) (by decide) B W 0 ⟨#[]⟩ ⟨#[]⟩ ⟨#[]⟩ false 0 ⟨#[]⟩ a
    clear h1 hQ hr hMs hL e2
    go_enter Tryz.func43, Tryz.ntmps43
    go_wp2_with fail
    refine (C.out _).mono ?_
    rintro e w ⟨rfl, rfl⟩
    go_wp2_with fail
    clear c7 f7
    generalize w.setCell ⟨B, 7, none⟩ (.string M) = w1 at a1 B1 ⊢
    refine (S1.out _ a1).mono ?_
    rintro e w2 ⟨rfl, a2, B2⟩
    have B3 := B1.trans B2
    clear a1 B1 B2
    have c7 := a2.c7
    have c0 := a2.c0
    have f0 := a2.free 0
    have a3 := a2.set0 9
    have c1 := a3.c1
    have f1 := a3.free 1
    have a4 := a3.set1 t2
    have B4 := (B3.setCell (p := ⟨B, 0, none⟩) (Nat.le_refl _) (.int .i64 9)).setCell (p := ⟨B, 1, none⟩) (Nat.le_refl _) (.string t2)
    clear a3 B3
    go_wp2
    go_ret
    exact ⟨rfl, ⟨t2, a4⟩, B4⟩

theorem cutO_place {l : List UInt8} (h1 : ¬ l.head? = some 39) (h2 : ¬ l.getLast? = some 58) : cutO l = placeAll l := by
  unfold cutO placeAll
  rw [if_neg h1, if_neg h2]
  cases sp3 l with
  | none => rfl
  | some x => obtain ⟨sc, r⟩ := x; rfl

set_option maxRecDepth 100000 in
set_option maxHeartbeats 4000000 in
/-- What is cut off a word. -/
theorem cut_all (L : ByteArray) (hL : L.size ≤ 10000) (B : Nat) (w : World) (hlow : LowIn B w) (a : CX w B 0 ⟨#[]⟩ ⟨#[]⟩ ⟨#[]⟩ false 0 ⟨#[]⟩ L) :
    Calls Tryz.prog 24 #[.pointer (some ⟨B, 0, none⟩)] w fun e w' => ((cutO L.data.toList = none ∧ e = .returned (.bool false)) ∨ ∃ k t s h b p pa l, cutO L.data.toList = some (srcM k t s h b p pa) ∧ e = .returned (.bool true) ∧ CX w' B k t s h b p pa l) ∧ Below B w w' := by
  have hlt := a.lt
  have c7 := a.c7
  have hpre := prefix_one L.data.toList 39
  have CP : Hid (∀ W, Calls Tryz.prog 41 #[.string L, .string ⟨#[39]⟩] W fun e w' => e = .returned (.bool (decide (L.data.toList.head? = some 39))) ∧ w' = W) := Lib.hid fun W => by
    rw [← hpre]; exact Tryz.strings_HasPrefix L ⟨#[39]⟩ W
  clear hpre
  by_cases h1 : L.data.toList.head? = some 39
  · rw [decide_eq_true h1] at CP
    have CK := Lib.hid (cutK_any L (by omega) B w hlow 0 ⟨#[]⟩ ⟨#[]⟩ ⟨#[]⟩ false 0 ⟨#[]⟩ a)
    obtain ⟨M, hM⟩ := text_of (if L.data.toList.getLast? = some 39 then L.data.toList.dropLast else L.data.toList)
    obtain ⟨k2, tl, hq⟩ : ∃ k2 tl, quotedO M.data.toList = bareK k2 tl := by
      unfold quotedO
      split
      · exact ⟨_, _, rfl⟩
      · split
        · exact ⟨_, _, rfl⟩
        · exact ⟨0, [], rfl⟩
    obtain ⟨t2, ht2⟩ := text_of tl
    rw [← ht2] at hq
    obtain ⟨r, hr⟩ : ∃ x, decide (L.data.toList.getLast? = some 39) = x := ⟨_, rfl⟩
    have CQ := Lib.hid fun W a => cutQ_any L M r hr hM k2 t2 hq hL B W a
    have HQ : Hid (keptO L.data.toList = none → cutO L.data.toList = if r then some (srcM k2 t2 ⟨#[]⟩ ⟨#[]⟩ false 0 ⟨#[]⟩) else none) := Lib.hid (fun hk => by
      unfold cutO
      rw [if_pos h1, hk]
      simp only []
      cases r
      · rw [if_neg (of_decide_eq_false hr)]; rfl
      · have hz := of_decide_eq_true hr
        rw [if_pos hz] at hM ⊢
        rw [← hM, hq]; rfl)
    have HK : Hid (∀ k, keptO L.data.toList = some k → cutO L.data.toList = some (srcM k ⟨#[]⟩ ⟨#[]⟩ ⟨#[]⟩ false 0 ⟨#[]⟩)) := Lib.hid (fun k hk => by
      unfold cutO
      rw [if_pos h1, hk]; rfl)
    clear h1 hM hq ht2 hr hL hlow a
    go_enter Tryz.func24, Tryz.ntmps24
    go_wp2_with fail
    refine (CP.out _).mono ?_
    rintro e w ⟨rfl, rfl⟩
    go_wp2_with fail
    refine CK.out.mono ?_
    rintro e w1 ⟨r1, rfl, hx, B1⟩
    rcases hx with ⟨k', hk', rfl, a1⟩ | ⟨hk', rfl, a1⟩
    · have HF := Lib.hid (HK.out k' hk')
      clear hk' HK HQ
      go_wp2
      go_ret
      exact ⟨.inr ⟨_, _, _, _, _, _, _, _, HF.out, rfl, a1⟩, B1⟩
    · have HF := Lib.hid (HQ.out hk')
      clear hk' HK HQ
      go_wp2_with fail
      refine (CQ.out _ a1).mono ?_
      rintro e w2 ⟨rfl, ⟨l, a2⟩, B2⟩
      go_wp2
      go_ret
      refine ⟨?_, B1.trans B2⟩
      cases r
      · exact .inl ⟨HF.out, rfl⟩
      · exact .inr ⟨_, _, _, _, _, _, _, _, HF.out, rfl, a2⟩
  rw [decide_eq_false h1] at CP
  have hsuf := suffix_one L.data.toList 58
  have CU : Hid (∀ W, Calls Tryz.prog 44 #[.string L, .string ⟨#[58]⟩] W fun e w' => e = .returned (.bool (decide (L.data.toList.getLast? = some 58))) ∧ w' = W) := Lib.hid fun W => by
    rw [← hsuf]; exact Tryz.strings_HasSuffix L ⟨#[58]⟩ W (by omega)
  clear hsuf
  by_cases h2 : L.data.toList.getLast? = some 58
  · rw [decide_eq_true h2] at CU
    obtain ⟨M, hM⟩ := text_of L.data.toList.dropLast
    have hMs : M.size ≤ L.size := by rw [← lsize, hM, ← lsize L, List.length_dropLast]; omega
    have CT : Hid (∀ W, Calls Tryz.prog 45 #[.string L, .string ⟨#[58]⟩] W fun e w' => e = .returned (.string M) ∧ w' = W) := Lib.hid fun W => by
      have := Tryz.strings_TrimSuffix L ⟨#[58]⟩ W (by omega)
      rw [show (⟨#[58]⟩ : ByteArray).data.toList = [58] from rfl, trim_one, if_pos h2, ← hM, ← text_is (T := M) rfl] at this
      exact this
    obtain ⟨S, hS⟩ := text_of (low M.data.toList)
    have CL := lower_hid M S hS (by omega)
    have HF : Hid (cutO L.data.toList = some (srcM 11 ⟨#[]⟩ S ⟨#[]⟩ false 0 ⟨#[]⟩)) := Lib.hid (by
      unfold cutO srcM
      rw [if_neg h1, if_pos h2, hS, hM])
    clear h1 h2 hM hMs hS hL hlow
    go_enter Tryz.func24, Tryz.ntmps24
    go_wp2_with fail
    refine (CP.out _).mono ?_
    rintro e w ⟨rfl, rfl⟩
    go_wp2_with fail
    refine (CU.out _).mono ?_
    rintro e w ⟨rfl, rfl⟩
    go_wp2_with fail
    refine (CT.out _).mono ?_
    rintro e w ⟨rfl, rfl⟩
    go_wp2_with fail
    refine (CL.out _).mono ?_
    rintro e w1 ⟨rfl, b1⟩
    have a1 := a.below b1
    have c0 := a1.c0
    have f0 := a1.free 0
    have a2 := a1.set0 11
    have c2 := a2.c2
    have f2 := a2.free 2
    have a3 := a2.set2 S
    have B3 := ((b1.mono (Nat.le_of_lt hlt)).setCell (p := ⟨B, 0, none⟩) (Nat.le_refl _) (.int .i64 11)).setCell (p := ⟨B, 2, none⟩) (Nat.le_refl _) (.string S)
    clear a2 b1 a c7
    go_wp2
    go_ret
    exact ⟨.inr ⟨_, _, _, _, _, _, _, _, HF.out, rfl, a3⟩, B3⟩
  rw [decide_eq_false h2] at CU
  have hP := cutO_place h1 h2
  have c0 := a.c0
  have f0 := a.free 0
  have a1 := a.set0 12
  have l1 := hlow.on ((Below.refl B w).setCell (p := ⟨B, 0, none⟩) (Nat.le_refl _) (.int .i64 12))
  have B1 := (Below.refl B w).setCell (p := ⟨B, 0, none⟩) (Nat.le_refl _) (.int .i64 12)
  clear a hlow h1 h2
  cases hpl : placeAll L.data.toList with
  | none =>
    rw [hpl] at hP
    have HF := Lib.hid hP
    have CC := placeC_no L hpl (by omega) B
    clear hP hpl hL
    go_enter Tryz.func24, Tryz.ntmps24
    go_wp2_with fail
    refine (CP.out _).mono ?_
    rintro e w ⟨rfl, rfl⟩
    go_wp2_with fail
    refine (CU.out _).mono ?_
    rintro e w ⟨rfl, rfl⟩
    go_wp2_with fail
    clear c0 f0 c7
    generalize w.setCell ⟨B, 0, none⟩ (.int .i64 12) = w1 at a1 B1 l1 ⊢
    refine (CC.out _ l1 a1).mono ?_
    rintro e w2 ⟨rfl, B2⟩
    go_wp2
    go_ret
    exact ⟨.inl ⟨HF.out, rfl⟩, B1.trans B2⟩
  | some x =>
    rw [hpl] at hP
    have hform : x.k = 12 ∧ x.t = [] := by
      unfold placeAll at hpl
      split at hpl
      · split at hpl
        · cases hpl
        · exact ⟨(placeO_form hpl).1, (placeO_form hpl).2.1⟩
      · exact ⟨(placeO_form hpl).1, (placeO_form hpl).2.1⟩
    obtain ⟨t, S, H, PA, hx⟩ := src_of x
    obtain ⟨xk, xt, xs, xh, xw, xp, xpa⟩ := x
    simp only [srcM] at hform hx
    rw [Src.mk.injEq] at hx
    obtain ⟨_, e1, e2, e3, _, _, e4⟩ := hx
    obtain ⟨rfl, rfl⟩ := hform
    obtain rfl : t = ⟨#[]⟩ := text_is e1.symm
    subst e2; subst e3; subst e4
    have HF : Hid (cutO L.data.toList = some (srcM 12 ⟨#[]⟩ S H xw xp PA)) := Lib.hid hP
    have CC := placeC_yes L S H PA xw xp hpl (by omega) B
    clear hP hpl hL e1
    go_enter Tryz.func24, Tryz.ntmps24
    go_wp2_with fail
    refine (CP.out _).mono ?_
    rintro e w ⟨rfl, rfl⟩
    go_wp2_with fail
    refine (CU.out _).mono ?_
    rintro e w ⟨rfl, rfl⟩
    go_wp2_with fail
    clear c0 f0 c7
    generalize w.setCell ⟨B, 0, none⟩ (.int .i64 12) = w1 at a1 B1 l1 ⊢
    refine (CC.out _ l1 a1).mono ?_
    rintro e w2 ⟨rfl, ⟨l, a2⟩, B2⟩
    go_wp2
    go_ret
    exact ⟨.inr ⟨_, _, _, _, _, _, _, _, HF.out, rfl, a2⟩, B1.trans B2⟩

end Go.Proofs.YtmfejcmhbncchaaGreatDoor
