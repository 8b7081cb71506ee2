/- The walk of what an address' text begins with, for every address. -/
import Derived.Test.YteoeppmigngkeaaDoorLawA
namespace Go.Proofs.YteoeppmigngkeaaDoor
open Go.RowKit

theorem dfl_vals (l : List UInt8) : dfl l = 0 ∨ dfl l = 80 ∨ dfl l = 443 := by
  unfold dfl
  split
  · exact .inr (.inl rfl)
  · split
    · exact .inr (.inr rfl)
    · exact .inl rfl

set_option maxRecDepth 100000 in
set_option maxHeartbeats 4000000 in
theorem front_law (o : Bool) (s h : ByteArray) (p : Int) (pa q : ByteArray) (w : World) (hm : MaxIn w) (ht : TabIn w) : Calls Tryd.prog 6 #[uV o s h p pa q] w fun e w' => e = .returned (.bool true) ∧ Below w.heap.size w w' := by
  obtain ⟨bg, hbg⟩ : ∃ b, (decide (2000 < s.size) || decide (2000 < h.size) || decide (2000 < pa.size) || decide (2000 < q.size)) = b := ⟨_, rfl⟩
  have CB := big_hid o s h p pa q bg hbg
  cases bg
  case true =>
    clear hbg
    unfold uV at *
    go_enter Tryd.func6, Tryd.ntmps6
    go_wp2_with fail
    have x1 := BX.made w o s h p pa q
    have m1 := hm.made (.cells #[.bool o, .string s, .string h, .int .i64 p, .string pa, .string q] 27)
    have t1 := ht.made (.cells #[.bool o, .string s, .string h, .int .i64 p, .string pa, .string q] 27)
    have B1 : Below w.heap.size w (w.alloc (.cells #[.bool o, .string s, .string h, .int .i64 p, .string pa, .string q] 27)) := (Below.refl _ _).alloc (Nat.le_refl _) _
    generalize hR : w.heap.size = R at x1 B1 ⊢
    have HR := Lib.hid hR
    clear hR
    generalize w.alloc (.cells #[.bool o, .string s, .string h, .int .i64 p, .string pa, .string q] 27) = w1 at x1 B1 m1 t1 ⊢
    refine (CB.out _).mono ?_
    rintro e w2 ⟨rfl, b2⟩
    have x2 := x1.below b2
    have m2 := m1.below b2
    have t2 := t1.below b2
    have B2 := B1.trans (b2.mono (Nat.le_of_lt x1.lt))
    have c0 := x2.c0
    have c1 := x2.c1
    have c2 := x2.c2
    have c3 := x2.c3
    have c4 := x2.c4
    have c5 := x2.c5
    clear b2 x1 m1 t1 B1
    go_wp2
    go_ret
    exact ⟨rfl, by rw [HR.out]; exact B2⟩
  simp only [Bool.or_eq_false_iff, decide_eq_false_iff_not] at hbg
  obtain ⟨⟨⟨z1, z2⟩, z3⟩, z4⟩ := hbg
  cases hr : rightM (uM o s h p pa q)
  case false =>
    have CP := print_hid o s h p pa q (by omega) (by omega) (by omega) (by omega) ⟨#[]⟩ (by rw [hr]; rfl) 50 (chk_wrong hr)
    clear hr
    unfold uV at *
    go_enter Tryd.func6, Tryd.ntmps6
    go_wp2_with fail
    have x1 := BX.made w o s h p pa q
    have m1 := hm.made (.cells #[.bool o, .string s, .string h, .int .i64 p, .string pa, .string q] 27)
    have t1 := ht.made (.cells #[.bool o, .string s, .string h, .int .i64 p, .string pa, .string q] 27)
    have B1 : Below w.heap.size w (w.alloc (.cells #[.bool o, .string s, .string h, .int .i64 p, .string pa, .string q] 27)) := (Below.refl _ _).alloc (Nat.le_refl _) _
    generalize hR : w.heap.size = R at x1 B1 ⊢
    have HR := Lib.hid hR
    clear hR
    generalize w.alloc (.cells #[.bool o, .string s, .string h, .int .i64 p, .string pa, .string q] 27) = w1 at x1 B1 m1 t1 ⊢
    refine (CB.out _).mono ?_
    rintro e w2 ⟨rfl, b2⟩
    have x2 := x1.below b2
    have m2 := m1.below b2
    have t2 := t1.below b2
    have B2 := B1.trans (b2.mono (Nat.le_of_lt x1.lt))
    have c0 := x2.c0
    have c1 := x2.c1
    have c2 := x2.c2
    have c3 := x2.c3
    have c4 := x2.c4
    have c5 := x2.c5
    clear b2 x1 m1 t1 B1
    go_wp2_with fail
    refine (CP.out _ m2 t2).mono ?_
    rintro e w3 ⟨rfl, b3⟩
    have x3 := x2.below b3
    have m3 := m2.below b3
    have t3 := t2.below b3
    have B3 := B2.trans (b3.mono (Nat.le_of_lt x2.lt))
    clear c0 c1 c2 c3 c4 c5
    have c0 := x3.c0
    have c1 := x3.c1
    have c2 := x3.c2
    clear b3 x2 m2 t2 B2
    go_wp2_with fail
    refine (parses_any _ m3 t3).mono ?_
    rintro e w4 ⟨rfl, b4⟩
    have B4 := B3.trans (b4.mono (Nat.le_of_lt x3.lt))
    go_wp2
    go_ret
    exact ⟨rfl, by rw [HR.out]; exact B4⟩
  obtain ⟨T, hT⟩ := text_of (textM (uM o s h p pa q))
  have CP := print_hid o s h p pa q (by omega) (by omega) (by omega) (by omega) T (by rw [hr]; exact hT) 0 (chk_right hr)
  obtain ⟨F9, hF⟩ := text_of (frontM (uM o s h p pa q))
  obtain ⟨f1, f2⟩ := front_text (uM o s h p pa q)
  rw [← hT, ← hF, lsize] at f1
  rw [← hT, ← hF, lsize, lsize] at f2
  have hTl := right_len hr
  rw [← hT, lsize] at hTl
  have hdf := right_dfl hr
  obtain ⟨d, hd⟩ : ∃ d, dfl s.data.toList = d := ⟨_, rfl⟩
  have CD := default_hid s d hd
  have hdo : decide (0 < d) = !o := by rw [← hd]; exact hdf
  have sl := slice_to T F9 F9.size f2 f1.symm
  have hFF : (F9.toList == F9.toList) = true := by rw [beq_iff_eq]
  have z5 : (T.size : Int) ≤ 500 := by omega
  have z6 : (F9.size : Int) ≤ (T.size : Int) := by omega
  obtain ⟨S1, hS1⟩ := text_of (s.data.toList ++ [58])
  have y1 : S1.size = s.size + 1 := by rw [← lsize, hS1, List.length_append, lsize]; rfl
  have a1 := add_to s ⟨#[58]⟩ S1 hS1 (by show s.size + 1 ≤ _; omega)
  cases o
  case true =>
    obtain rfl : F9 = S1 := by
      have e : F9.data.toList = S1.data.toList := by rw [hF, hS1]; rfl
      rw [text_is e, ← text_is rfl]
    obtain rfl : d = 0 := by
      have : ¬ 0 < d := by simpa using hdo
      omega
    clear hT hF hr f1 f2 hTl hdf hd hdo hS1 y1 z1 z2 z3 z4
    unfold uV at *
    go_enter Tryd.func6, Tryd.ntmps6
    go_wp2_with fail
    have x1 := BX.made w true s h p pa q
    have m1 := hm.made (.cells #[.bool true, .string s, .string h, .int .i64 p, .string pa, .string q] 27)
    have t1 := ht.made (.cells #[.bool true, .string s, .string h, .int .i64 p, .string pa, .string q] 27)
    have B1 : Below w.heap.size w (w.alloc (.cells #[.bool true, .string s, .string h, .int .i64 p, .string pa, .string q] 27)) := (Below.refl _ _).alloc (Nat.le_refl _) _
    generalize hR : w.heap.size = R at x1 B1 ⊢
    have HR := Lib.hid hR
    clear hR
    generalize w.alloc (.cells #[.bool true, .string s, .string h, .int .i64 p, .string pa, .string q] 27) = w1 at x1 B1 m1 t1 ⊢
    refine (CB.out _).mono ?_
    rintro e w2 ⟨rfl, b2⟩
    have x2 := x1.below b2
    have m2 := m1.below b2
    have t2 := t1.below b2
    have B2 := B1.trans (b2.mono (Nat.le_of_lt x1.lt))
    have c0 := x2.c0
    have c1 := x2.c1
    have c2 := x2.c2
    have c3 := x2.c3
    have c4 := x2.c4
    have c5 := x2.c5
    clear b2 x1 m1 t1 B1
    go_wp2_with fail
    refine (CP.out _ m2 t2).mono ?_
    rintro e w3 ⟨rfl, b3⟩
    have x3 := x2.below b3
    have m3 := m2.below b3
    have t3 := t2.below b3
    have B3 := B2.trans (b3.mono (Nat.le_of_lt x2.lt))
    clear c0 c1 c2 c3 c4 c5
    have c0 := x3.c0
    have c1 := x3.c1
    have c2 := x3.c2
    clear b3 x2 m2 t2 B2
    go_wp2
    have K1 : w3.drew.cell? ⟨R, 1, none⟩ = some (.string s) ∧ w3.drew.cell? ⟨R, 0, none⟩ = some (.bool true) ∧ Below R w w3.drew := ⟨x3.c1, x3.c0, B3.drew⟩
    have K2 : ∀ w4, Below w3.drew.heap.size w3.drew w4 → w4.cell? ⟨R, 1, none⟩ = some (.string s) ∧ w4.cell? ⟨R, 0, none⟩ = some (.bool true) ∧ Below R w w4 := fun w4 b => by
      have x4 := BX.below (w := w3.drew) x3 b
      exact ⟨x4.c1, x4.c0, B3.drew.trans (b.mono (Nat.le_of_lt x3.lt))⟩
    have HK2 := Lib.hid K2
    have m3d : MaxIn w3.drew := m3
    have t3d : TabIn w3.drew := t3
    clear K2
    go_region_held3 (fun w' => w'.cell? ⟨R, 1, none⟩ = some (.string s) ∧ w'.cell? ⟨R, 0, none⟩ = some (.bool true) ∧ Below R w w') (first | exact K1 | exact K4)
      (first
        | (go_at_call 7; (with_reducible refine (parses_any _ m3d t3d).mono ?_); rintro e w4 ⟨rfl, b4⟩
           have K4 := HK2.out _ b4
           clear b4)
        | (go_at_call 10; (with_reducible refine (CD.out _).mono ?_); rintro e w' ⟨rfl, rfl⟩))
    all_goals go_wp2
    all_goals go_ret
    all_goals exact ⟨rfl, by rw [HR.out]; exact K4.2.2⟩
  case false =>
    obtain ⟨S2, hS2⟩ := text_of (S1.data.toList ++ [47, 47])
    have y2 : S2.size = S1.size + 2 := by rw [← lsize, hS2, List.length_append, lsize]; rfl
    have a2 := add_to S1 ⟨#[47, 47]⟩ S2 hS2 (by show S1.size + 2 ≤ _; omega)
    have a3 := add_to S2 h F9 (by
      rw [hF, hS2, hS1]
      show s.data.toList ++ [58] ++ ([47, 47] ++ h.data.toList) = _
      simp) (by omega)
    have hv : d = 80 ∨ d = 443 := by
      have : 0 < d := by simpa using hdo
      have hv := dfl_vals s.data.toList
      rw [hd] at hv
      omega
    clear hT hF hr f1 f2 hTl hdf hd hdo hS1 hS2 y1 y2 z1 z2 z3 z4
    unfold uV at *
    rcases hv with rfl | rfl
    all_goals
      go_enter Tryd.func6, Tryd.ntmps6
      go_wp2_with fail
      have x1 := BX.made w false s h p pa q
      have m1 := hm.made (.cells #[.bool false, .string s, .string h, .int .i64 p, .string pa, .string q] 27)
      have t1 := ht.made (.cells #[.bool false, .string s, .string h, .int .i64 p, .string pa, .string q] 27)
      have B1 : Below w.heap.size w (w.alloc (.cells #[.bool false, .string s, .string h, .int .i64 p, .string pa, .string q] 27)) := (Below.refl _ _).alloc (Nat.le_refl _) _
      generalize hR : w.heap.size = R at x1 B1 ⊢
      have HR := Lib.hid hR
      clear hR
      generalize w.alloc (.cells #[.bool false, .string s, .string h, .int .i64 p, .string pa, .string q] 27) = w1 at x1 B1 m1 t1 ⊢
      refine (CB.out _).mono ?_
      rintro e w2 ⟨rfl, b2⟩
      have x2 := x1.below b2
      have m2 := m1.below b2
      have t2 := t1.below b2
      have B2 := B1.trans (b2.mono (Nat.le_of_lt x1.lt))
      have c0 := x2.c0
      have c1 := x2.c1
      have c2 := x2.c2
      have c3 := x2.c3
      have c4 := x2.c4
      have c5 := x2.c5
      clear b2 x1 m1 t1 B1
      go_wp2_with fail
      refine (CP.out _ m2 t2).mono ?_
      rintro e w3 ⟨rfl, b3⟩
      have x3 := x2.below b3
      have m3 := m2.below b3
      have t3 := t2.below b3
      have B3 := B2.trans (b3.mono (Nat.le_of_lt x2.lt))
      clear c0 c1 c2 c3 c4 c5
      have c0 := x3.c0
      have c1 := x3.c1
      have c2 := x3.c2
      clear b3 x2 m2 t2 B2
      go_wp2
      have K1 : w3.drew.cell? ⟨R, 1, none⟩ = some (.string s) ∧ w3.drew.cell? ⟨R, 0, none⟩ = some (.bool false) ∧ Below R w w3.drew := ⟨x3.c1, x3.c0, B3.drew⟩
      have K2 : ∀ w4, Below w3.drew.heap.size w3.drew w4 → w4.cell? ⟨R, 1, none⟩ = some (.string s) ∧ w4.cell? ⟨R, 0, none⟩ = some (.bool false) ∧ Below R w w4 := fun w4 b => by
        have x4 := BX.below (w := w3.drew) x3 b
        exact ⟨x4.c1, x4.c0, B3.drew.trans (b.mono (Nat.le_of_lt x3.lt))⟩
      have HK2 := Lib.hid K2
      have m3d : MaxIn w3.drew := m3
      have t3d : TabIn w3.drew := t3
      clear K2
      go_region_held3 (fun w' => w'.cell? ⟨R, 1, none⟩ = some (.string s) ∧ w'.cell? ⟨R, 0, none⟩ = some (.bool false) ∧ Below R w w') (first | exact K1 | exact K4)
        (first
            | (go_at_call 7; (with_reducible refine (parses_any _ m3d t3d).mono ?_); rintro e w4 ⟨rfl, b4⟩
               have K4 := HK2.out _ b4
               clear b4)
            | (go_at_call 10; (with_reducible refine (CD.out _).mono ?_); rintro e w' ⟨rfl, rfl⟩))
      all_goals go_wp2
      all_goals go_ret
      all_goals exact ⟨rfl, by rw [HR.out]; exact K4.2.2⟩

end Go.Proofs.YteoeppmigngkeaaDoor
