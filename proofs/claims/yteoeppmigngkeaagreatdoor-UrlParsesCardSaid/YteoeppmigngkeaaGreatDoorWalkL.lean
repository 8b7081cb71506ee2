/- The document's rows. -/
import Derived.Test.YteoeppmigngkeaaGreatDoorWalkK
namespace Go.Proofs.YteoeppmigngkeaaGreatDoor
open Go.RowKit

theorem dec_444 : Lib.decDigits 444 = [52, 52, 52] := by
  rw [Lib.decDigits, dif_neg (by decide), Lib.decDigits, dif_neg (by decide), Lib.decDigits, dif_pos (by decide)]
  rfl
theorem right_c : rightM (uM false ⟨#[104, 116, 116, 112, 115]⟩ ⟨#[97]⟩ 444 ⟨#[47]⟩ ⟨#[]⟩) = true := by
  unfold rightM
  have e1 : rankedM (uM false ⟨#[104, 116, 116, 112, 115]⟩ ⟨#[97]⟩ 444 ⟨#[47]⟩ ⟨#[]⟩) = true := by decide +kernel
  have e2 : (textM (uM false ⟨#[104, 116, 116, 112, 115]⟩ ⟨#[97]⟩ 444 ⟨#[47]⟩ ⟨#[]⟩)).length = 14 := by
    unfold textM uM portT
    have e : ((444 : Int)).toNat = 444 := rfl
    simp [e, dec_444]
  rw [e2]
  show (rankedM _ && decide (14 ≤ 500)) = true
  rw [e1]; rfl
theorem row_a : parseM (⟨#[72, 84, 84, 80, 58, 47, 47, 65, 46, 98, 58, 56, 48, 47, 120, 47, 46, 47, 121, 47, 46, 46, 47, 122, 63, 113, 35, 102]⟩ : ByteArray).data.toList = some (uM false ⟨#[104, 116, 116, 112]⟩ ⟨#[97, 46, 98]⟩ 0 ⟨#[47, 120, 47, 122]⟩ ⟨#[63, 113]⟩) := by decide +kernel
theorem row_b : parseM (⟨#[106, 97, 118, 97, 115, 99, 114, 105, 112, 116, 58, 32, 102, 40, 41]⟩ : ByteArray).data.toList = some (uM true ⟨#[106, 97, 118, 97, 115, 99, 114, 105, 112, 116]⟩ ⟨#[]⟩ 0 ⟨#[102, 40, 41]⟩ ⟨#[]⟩) := by decide +kernel
theorem row_c : parseM (⟨#[104, 116, 116, 112, 115, 58, 47, 47, 97, 58, 52, 52, 52]⟩ : ByteArray).data.toList = some (uM false ⟨#[104, 116, 116, 112, 115]⟩ ⟨#[97]⟩ 444 ⟨#[47]⟩ ⟨#[]⟩) := by
  unfold parseM
  have e : parseT (upto (isC 35) (trim (⟨#[104, 116, 116, 112, 115, 58, 47, 47, 97, 58, 52, 52, 52]⟩ : ByteArray).data.toList)) = some (uM false ⟨#[104, 116, 116, 112, 115]⟩ ⟨#[97]⟩ 444 ⟨#[47]⟩ ⟨#[]⟩) := by decide +kernel
  rw [e]
  simp [right_c]
theorem row_h : parseM (⟨#[104, 116, 116, 112, 58, 47, 97]⟩ : ByteArray).data.toList = none := by decide +kernel
theorem row_i : parseM (⟨#[104, 116, 116, 112, 58, 47, 47, 97, 46, 46, 98, 47]⟩ : ByteArray).data.toList = none := by decide +kernel
theorem right_a : rightM (uM false ⟨#[104, 116, 116, 112]⟩ ⟨#[97, 46, 98]⟩ 0 ⟨#[47, 120, 47, 122]⟩ ⟨#[63, 113]⟩) = true := by decide +kernel
theorem text_a : (⟨#[104, 116, 116, 112, 58, 47, 47, 97, 46, 98, 47, 120, 47, 122, 63, 113]⟩ : ByteArray).data.toList = textM (uM false ⟨#[104, 116, 116, 112]⟩ ⟨#[97, 46, 98]⟩ 0 ⟨#[47, 120, 47, 122]⟩ ⟨#[63, 113]⟩) := by decide +kernel
theorem wrong_z : rightM (uM false ⟨#[]⟩ ⟨#[]⟩ 0 ⟨#[]⟩ ⟨#[]⟩) = false := by decide +kernel

set_option maxRecDepth 100000 in
set_option maxHeartbeats 4000000 in
/-- The document's rows. -/
theorem parses_any (w : World) (hm : MaxIn w) (ht : TabIn w) : Calls Tryz.prog 7 #[] w fun e w' => e = .returned (.bool true) ∧ Below w.heap.size w w' := by
  have P0 := parse_is ⟨#[72, 84, 84, 80, 58, 47, 47, 65, 46, 98, 58, 56, 48, 47, 120, 47, 46, 47, 121, 47, 46, 46, 47, 122, 63, 113, 35, 102]⟩ (by decide) false ⟨#[104, 116, 116, 112]⟩ ⟨#[97, 46, 98]⟩ 0 ⟨#[47, 120, 47, 122]⟩ ⟨#[63, 113]⟩ row_a
  have P1 := parse_is ⟨#[106, 97, 118, 97, 115, 99, 114, 105, 112, 116, 58, 32, 102, 40, 41]⟩ (by decide) true ⟨#[106, 97, 118, 97, 115, 99, 114, 105, 112, 116]⟩ ⟨#[]⟩ 0 ⟨#[102, 40, 41]⟩ ⟨#[]⟩ row_b
  have P2 := parse_is ⟨#[104, 116, 116, 112, 115, 58, 47, 47, 97, 58, 52, 52, 52]⟩ (by decide) false ⟨#[104, 116, 116, 112, 115]⟩ ⟨#[97]⟩ 444 ⟨#[47]⟩ ⟨#[]⟩ row_c
  have P3 := parse_not ⟨#[104, 116, 116, 112, 58, 47, 97]⟩ (by decide) row_h
  have P4 := parse_not ⟨#[104, 116, 116, 112, 58, 47, 47, 97, 46, 46, 98, 47]⟩ (by decide) row_i
  have PP := print_hid false ⟨#[104, 116, 116, 112]⟩ ⟨#[97, 46, 98]⟩ 0 ⟨#[47, 120, 47, 122]⟩ ⟨#[63, 113]⟩ (by decide) (by decide) (by decide) (by decide) ⟨#[104, 116, 116, 112, 58, 47, 47, 97, 46, 98, 47, 120, 47, 122, 63, 113]⟩ (by rw [right_a]; exact text_a) 0 (chk_right right_a)
  have CA := check_hid false ⟨#[104, 116, 116, 112]⟩ ⟨#[97, 46, 98]⟩ 0 ⟨#[47, 120, 47, 122]⟩ ⟨#[63, 113]⟩ 0 (chk_right right_a) (by decide) (by decide) (by decide) (by decide)
  have CZ := check_hid false ⟨#[]⟩ ⟨#[]⟩ 0 ⟨#[]⟩ ⟨#[]⟩ 50 (chk_wrong wrong_z) (by decide) (by decide) (by decide) (by decide)
  have CC := clean_hid ⟨#[47, 97, 47, 46, 46]⟩ (by decide) ⟨#[47]⟩ (by decide +kernel)
  have CD := default_hid ⟨#[119, 115]⟩ 80 (by decide +kernel)
  have HP : Hid (∀ (o : Bool) (s h : ByteArray) (p : Int) (pa q : ByteArray), uV o s h p pa q = .agg #[.bool o, .string s, .string h, .int .i64 p, .string pa, .string q]) := Lib.hid fun _ _ _ _ _ _ => rfl
  unfold PC at P0 P1 P2 P3 P4
  unfold uV at *
  go_enter Tryz.func7, Tryz.ntmps7
  go_wp2_with fail
  refine (P0.out _ hm ht).mono ?_
  rintro e w1 ⟨rfl, b1⟩
  have m1 := hm.below b1
  have t1 := ht.below b1
  clear hm ht P0
  go_wp2_with fail
  have xn := BX.made w1 false ⟨#[104, 116, 116, 112]⟩ ⟨#[97, 46, 98]⟩ 0 ⟨#[47, 120, 47, 122]⟩ ⟨#[63, 113]⟩
  have m2 := m1.made (.cells #[.bool false, .string ⟨#[104, 116, 116, 112]⟩, .string ⟨#[97, 46, 98]⟩, .int .i64 0, .string ⟨#[47, 120, 47, 122]⟩, .string ⟨#[63, 113]⟩] 23)
  have t2 := t1.made (.cells #[.bool false, .string ⟨#[104, 116, 116, 112]⟩, .string ⟨#[97, 46, 98]⟩, .int .i64 0, .string ⟨#[47, 120, 47, 122]⟩, .string ⟨#[63, 113]⟩] 23)
  have B2 := b1.trans (((Below.refl w1.heap.size w1).alloc (Nat.le_refl _) (.cells #[.bool false, .string ⟨#[104, 116, 116, 112]⟩, .string ⟨#[97, 46, 98]⟩, .int .i64 0, .string ⟨#[47, 120, 47, 122]⟩, .string ⟨#[63, 113]⟩] 23)).mono b1.size)
  clear m1 t1 b1
  generalize w1.heap.size = R0_ at xn ⊢
  generalize w1.alloc (.cells #[.bool false, .string ⟨#[104, 116, 116, 112]⟩, .string ⟨#[97, 46, 98]⟩, .int .i64 0, .string ⟨#[47, 120, 47, 122]⟩, .string ⟨#[63, 113]⟩] 23) = w2 at xn m2 t2 B2  ⊢
  have xR0_2 := xn
  clear xn
  refine (P1.out _ m2 t2).mono ?_
  rintro e w3 ⟨rfl, b3⟩
  have m3 := m2.below b3
  have t3 := t2.below b3
  have B3 := B2.trans (b3.mono B2.size)
  have xR0_3 := xR0_2.below b3
  clear m2 t2 B2 b3 P1 xR0_2
  go_wp2_with fail
  have xn := BX.made w3 true ⟨#[106, 97, 118, 97, 115, 99, 114, 105, 112, 116]⟩ ⟨#[]⟩ 0 ⟨#[102, 40, 41]⟩ ⟨#[]⟩
  have m4 := m3.made (.cells #[.bool true, .string ⟨#[106, 97, 118, 97, 115, 99, 114, 105, 112, 116]⟩, .string ⟨#[]⟩, .int .i64 0, .string ⟨#[102, 40, 41]⟩, .string ⟨#[]⟩] 23)
  have t4 := t3.made (.cells #[.bool true, .string ⟨#[106, 97, 118, 97, 115, 99, 114, 105, 112, 116]⟩, .string ⟨#[]⟩, .int .i64 0, .string ⟨#[102, 40, 41]⟩, .string ⟨#[]⟩] 23)
  have B4 := B3.trans (((Below.refl w3.heap.size w3).alloc (Nat.le_refl _) (.cells #[.bool true, .string ⟨#[106, 97, 118, 97, 115, 99, 114, 105, 112, 116]⟩, .string ⟨#[]⟩, .int .i64 0, .string ⟨#[102, 40, 41]⟩, .string ⟨#[]⟩] 23)).mono B3.size)
  have xR0_4 := xR0_3.below ((Below.refl w3.heap.size w3).alloc (Nat.le_refl _) (.cells #[.bool true, .string ⟨#[106, 97, 118, 97, 115, 99, 114, 105, 112, 116]⟩, .string ⟨#[]⟩, .int .i64 0, .string ⟨#[102, 40, 41]⟩, .string ⟨#[]⟩] 23))
  clear m3 t3 B3 xR0_3
  generalize w3.heap.size = R1_ at xn ⊢
  generalize w3.alloc (.cells #[.bool true, .string ⟨#[106, 97, 118, 97, 115, 99, 114, 105, 112, 116]⟩, .string ⟨#[]⟩, .int .i64 0, .string ⟨#[102, 40, 41]⟩, .string ⟨#[]⟩] 23) = w4 at xn m4 t4 B4 xR0_4 ⊢
  have xR1_4 := xn
  clear xn
  refine (P2.out _ m4 t4).mono ?_
  rintro e w5 ⟨rfl, b5⟩
  have m5 := m4.below b5
  have t5 := t4.below b5
  have B5 := B4.trans (b5.mono B4.size)
  have xR0_5 := xR0_4.below b5
  have xR1_5 := xR1_4.below b5
  clear m4 t4 B4 b5 P2 xR0_4 xR1_4
  go_wp2_with fail
  have xn := BX.made w5 false ⟨#[104, 116, 116, 112, 115]⟩ ⟨#[97]⟩ 444 ⟨#[47]⟩ ⟨#[]⟩
  have m6 := m5.made (.cells #[.bool false, .string ⟨#[104, 116, 116, 112, 115]⟩, .string ⟨#[97]⟩, .int .i64 444, .string ⟨#[47]⟩, .string ⟨#[]⟩] 23)
  have t6 := t5.made (.cells #[.bool false, .string ⟨#[104, 116, 116, 112, 115]⟩, .string ⟨#[97]⟩, .int .i64 444, .string ⟨#[47]⟩, .string ⟨#[]⟩] 23)
  have B6 := B5.trans (((Below.refl w5.heap.size w5).alloc (Nat.le_refl _) (.cells #[.bool false, .string ⟨#[104, 116, 116, 112, 115]⟩, .string ⟨#[97]⟩, .int .i64 444, .string ⟨#[47]⟩, .string ⟨#[]⟩] 23)).mono B5.size)
  have xR0_6 := xR0_5.below ((Below.refl w5.heap.size w5).alloc (Nat.le_refl _) (.cells #[.bool false, .string ⟨#[104, 116, 116, 112, 115]⟩, .string ⟨#[97]⟩, .int .i64 444, .string ⟨#[47]⟩, .string ⟨#[]⟩] 23))
  have xR1_6 := xR1_5.below ((Below.refl w5.heap.size w5).alloc (Nat.le_refl _) (.cells #[.bool false, .string ⟨#[104, 116, 116, 112, 115]⟩, .string ⟨#[97]⟩, .int .i64 444, .string ⟨#[47]⟩, .string ⟨#[]⟩] 23))
  clear m5 t5 B5 xR0_5 xR1_5
  generalize w5.heap.size = R2_ at xn ⊢
  generalize w5.alloc (.cells #[.bool false, .string ⟨#[104, 116, 116, 112, 115]⟩, .string ⟨#[97]⟩, .int .i64 444, .string ⟨#[47]⟩, .string ⟨#[]⟩] 23) = w6 at xn m6 t6 B6 xR0_6 xR1_6 ⊢
  have xR2_6 := xn
  clear xn
  refine (P3.out _ m6 t6).mono ?_
  rintro e w7 ⟨rfl, b7⟩
  have m7 := m6.below b7
  have t7 := t6.below b7
  have B7 := B6.trans (b7.mono B6.size)
  have xR0_7 := xR0_6.below b7
  have xR1_7 := xR1_6.below b7
  have xR2_7 := xR2_6.below b7
  clear m6 t6 B6 b7 P3 xR0_6 xR1_6 xR2_6
  go_wp2_with fail
  have xn := BX.made w7 false ⟨#[]⟩ ⟨#[]⟩ 0 ⟨#[]⟩ ⟨#[]⟩
  have m8 := m7.made (.cells #[.bool false, .string ⟨#[]⟩, .string ⟨#[]⟩, .int .i64 0, .string ⟨#[]⟩, .string ⟨#[]⟩] 23)
  have t8 := t7.made (.cells #[.bool false, .string ⟨#[]⟩, .string ⟨#[]⟩, .int .i64 0, .string ⟨#[]⟩, .string ⟨#[]⟩] 23)
  have B8 := B7.trans (((Below.refl w7.heap.size w7).alloc (Nat.le_refl _) (.cells #[.bool false, .string ⟨#[]⟩, .string ⟨#[]⟩, .int .i64 0, .string ⟨#[]⟩, .string ⟨#[]⟩] 23)).mono B7.size)
  have xR0_8 := xR0_7.below ((Below.refl w7.heap.size w7).alloc (Nat.le_refl _) (.cells #[.bool false, .string ⟨#[]⟩, .string ⟨#[]⟩, .int .i64 0, .string ⟨#[]⟩, .string ⟨#[]⟩] 23))
  have xR1_8 := xR1_7.below ((Below.refl w7.heap.size w7).alloc (Nat.le_refl _) (.cells #[.bool false, .string ⟨#[]⟩, .string ⟨#[]⟩, .int .i64 0, .string ⟨#[]⟩, .string ⟨#[]⟩] 23))
  have xR2_8 := xR2_7.below ((Below.refl w7.heap.size w7).alloc (Nat.le_refl _) (.cells #[.bool false, .string ⟨#[]⟩, .string ⟨#[]⟩, .int .i64 0, .string ⟨#[]⟩, .string ⟨#[]⟩] 23))
  clear m7 t7 B7 xR0_7 xR1_7 xR2_7
  generalize w7.heap.size = R3_ at xn ⊢
  clear xn
  generalize w7.alloc (.cells #[.bool false, .string ⟨#[]⟩, .string ⟨#[]⟩, .int .i64 0, .string ⟨#[]⟩, .string ⟨#[]⟩] 23) = w8 at m8 t8 B8 xR0_8 xR1_8 xR2_8 ⊢
  refine (P4.out _ m8 t8).mono ?_
  rintro e w9 ⟨rfl, b9⟩
  have m9 := m8.below b9
  have t9 := t8.below b9
  have B9 := B8.trans (b9.mono B8.size)
  have xR0_9 := xR0_8.below b9
  have xR1_9 := xR1_8.below b9
  have xR2_9 := xR2_8.below b9
  clear m8 t8 B8 b9 P4 xR0_8 xR1_8 xR2_8
  have xq := xR0_9.below ((Below.refl w9.heap.size w9).alloc (Nat.le_refl _) (.cells #[.bool false, .string ⟨#[]⟩, .string ⟨#[]⟩, .int .i64 0, .string ⟨#[]⟩, .string ⟨#[]⟩] 23))
  have d0 := xq.c0
  have d1 := xq.c1
  have d2 := xq.c2
  have d3 := xq.c3
  have d4 := xq.c4
  have d5 := xq.c5
  go_wp2_with fail
  have xn := BX.made w9 false ⟨#[]⟩ ⟨#[]⟩ 0 ⟨#[]⟩ ⟨#[]⟩
  have m10 := m9.made (.cells #[.bool false, .string ⟨#[]⟩, .string ⟨#[]⟩, .int .i64 0, .string ⟨#[]⟩, .string ⟨#[]⟩] 23)
  have t10 := t9.made (.cells #[.bool false, .string ⟨#[]⟩, .string ⟨#[]⟩, .int .i64 0, .string ⟨#[]⟩, .string ⟨#[]⟩] 23)
  have B10 := B9.trans (((Below.refl w9.heap.size w9).alloc (Nat.le_refl _) (.cells #[.bool false, .string ⟨#[]⟩, .string ⟨#[]⟩, .int .i64 0, .string ⟨#[]⟩, .string ⟨#[]⟩] 23)).mono B9.size)
  have xR0_10 := xR0_9.below ((Below.refl w9.heap.size w9).alloc (Nat.le_refl _) (.cells #[.bool false, .string ⟨#[]⟩, .string ⟨#[]⟩, .int .i64 0, .string ⟨#[]⟩, .string ⟨#[]⟩] 23))
  have xR1_10 := xR1_9.below ((Below.refl w9.heap.size w9).alloc (Nat.le_refl _) (.cells #[.bool false, .string ⟨#[]⟩, .string ⟨#[]⟩, .int .i64 0, .string ⟨#[]⟩, .string ⟨#[]⟩] 23))
  have xR2_10 := xR2_9.below ((Below.refl w9.heap.size w9).alloc (Nat.le_refl _) (.cells #[.bool false, .string ⟨#[]⟩, .string ⟨#[]⟩, .int .i64 0, .string ⟨#[]⟩, .string ⟨#[]⟩] 23))
  clear m9 t9 B9 xR0_9 xR1_9 xR2_9
  generalize w9.heap.size = R4_ at xn ⊢
  clear xn xq d0 d1 d2 d3 d4 d5
  generalize w9.alloc (.cells #[.bool false, .string ⟨#[]⟩, .string ⟨#[]⟩, .int .i64 0, .string ⟨#[]⟩, .string ⟨#[]⟩] 23) = w10 at m10 t10 B10 xR0_10 xR1_10 xR2_10 ⊢
  refine (PP.out _ m10 t10).mono ?_
  rintro e w11 ⟨rfl, b11⟩
  have m11 := m10.below b11
  have t11 := t10.below b11
  have B11 := B10.trans (b11.mono B10.size)
  have xR0_11 := xR0_10.below b11
  have xR1_11 := xR1_10.below b11
  have xR2_11 := xR2_10.below b11
  clear m10 t10 B10 b11 PP xR0_10 xR1_10 xR2_10
  have d00 := xR0_11.c0
  have d01 := xR0_11.c1
  have d02 := xR0_11.c2
  have d03 := xR0_11.c3
  have d04 := xR0_11.c4
  have d05 := xR0_11.c5
  have d10 := xR1_11.c0
  have d11 := xR1_11.c1
  have d12 := xR1_11.c2
  have d13 := xR1_11.c3
  have d14 := xR1_11.c4
  have d15 := xR1_11.c5
  have d20 := xR2_11.c0
  have d21 := xR2_11.c1
  have d22 := xR2_11.c2
  have d23 := xR2_11.c3
  have d24 := xR2_11.c4
  have d25 := xR2_11.c5
  go_wp2_with fail
  refine (CA.out _ m11 t11).mono ?_
  rintro e w20 ⟨rfl, b20⟩
  have m20 := m11.below b20
  have t20 := t11.below b20
  have B20 := B11.trans (b20.mono B11.size)
  clear m11 t11 B11 b20 CA d00 d01 d02 d03 d04 d05 d10 d11 d12 d13 d14 d15 d20 d21 d22 d23 d24 d25 xR0_11 xR1_11 xR2_11
  go_wp2_with fail
  refine (CZ.out _ m20 t20).mono ?_
  rintro e w21 ⟨rfl, b21⟩
  have m21 := m20.below b21
  have B21 := B20.trans (b21.mono B20.size)
  clear m20 t20 B20 b21 CZ
  go_wp2_with fail
  refine (CC.out _ m21).mono ?_
  rintro e w22 ⟨rfl, b22⟩
  have B22 := B21.trans (b22.mono B21.size)
  clear m21 B21 b22 CC
  go_wp2_with fail
  refine (CD.out _).mono ?_
  rintro e w22 ⟨rfl, rfl⟩
  go_wp2
  go_ret
  exact ⟨rfl, B22⟩

end Go.Proofs.YteoeppmigngkeaaGreatDoor
