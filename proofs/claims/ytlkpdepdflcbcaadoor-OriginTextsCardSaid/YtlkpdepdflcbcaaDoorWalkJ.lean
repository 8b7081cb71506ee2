/- What is parsed, branch by branch: the program's Parse. -/
import Derived.Test.YtlkpdepdflcbcaaDoorWalkI
namespace Go.Proofs.YtlkpdepdflcbcaaDoor
open Go.RowKit

set_option maxRecDepth 100000 in
set_option maxHeartbeats 4000000 in
/-- An opaque address that is right. -/
theorem parse_b (s : ByteArray) (hs : s.size ≤ 10000) (L : ByteArray) (hL : L.data.toList = upto (isC 35) (trim s.data.toList)) (L3 sc : ByteArray) (h58 : past (isC 58) L.data.toList = 58 :: L3.data.toList) (hsc : sc.data.toList = low (upto (isC 58) L.data.toList)) (d : Nat) (hd : dfl sc.data.toList = d) (hd0 : d = 0) (pa : ByteArray) (hpa : pa.data.toList = trim L3.data.toList) (hn : chk (uM true sc ⟨#[]⟩ 0 pa ⟨#[]⟩) = 0) (w : World) (hmx : MaxIn w) (ht : TabIn w) : Calls Tryd.prog 16 #[.string s] w fun e w' => e = .returned (.tuple #[uV true sc ⟨#[]⟩ 0 pa ⟨#[]⟩, .int .i64 0]) ∧ Below w.heap.size w w' := by
  obtain ⟨hLs, T1, C1, C2⟩ := pre_texts s hs L hL
  obtain ⟨L2, hL2⟩ := text_of (past (isC 58) L.data.toList)
  have z2 := upto_length (isC 58) L.data.toList
  rw [lsize, h58, List.length_cons, lsize] at z2
  have zsc : sc.size ≤ L.size := by
    rw [← lsize sc, hsc, low_length, ← lsize L]
    have := upto_length (isC 58) L.data.toList
    omega
  have C3 := fun B w a => cutScheme_any L sc L2 L3 true hsc hL2 (by rw [hL2, h58]; rfl) (by rw [hL2, h58]; rfl) (by omega) B w false ⟨#[]⟩ ⟨#[]⟩ 0 ⟨#[]⟩ ⟨#[]⟩ a
  have HC3 := Lib.hid C3
  have CD := default_hid sc d hd
  have zpa : pa.size ≤ L.size := by
    rw [← lsize pa, hpa]
    have := trim_length L3.data.toList
    rw [lsize] at this; omega
  have HC4 := Lib.hid (fun B w a => cutOpaque_any L3 pa hpa (by omega) B w false sc ⟨#[]⟩ 0 ⟨#[]⟩ ⟨#[]⟩ a)
  have CC := check_hid true sc ⟨#[]⟩ 0 pa ⟨#[]⟩ 0 hn (by omega) (by decide) (by omega) (by decide)
  have g1 : ((d : Int) == 0) = true := by rw [beq_iff_eq]; omega
  clear hL h58 hsc hd hL2 C3 hd0 hpa hn
  go_enter Tryd.func16, Tryd.ntmps16
  go_wp2_with fail
  have x1 := BX.made w false ⟨#[]⟩ ⟨#[]⟩ 0 ⟨#[]⟩ ⟨#[]⟩
  have m1 := hmx.made (.cells #[.bool false, .string ⟨#[]⟩, .string ⟨#[]⟩, .int .i64 0, .string ⟨#[]⟩, .string ⟨#[]⟩] 28)
  have t1 := ht.made (.cells #[.bool false, .string ⟨#[]⟩, .string ⟨#[]⟩, .int .i64 0, .string ⟨#[]⟩, .string ⟨#[]⟩] 28)
  have B1 : Below w.heap.size w (w.alloc (.cells #[.bool false, .string ⟨#[]⟩, .string ⟨#[]⟩, .int .i64 0, .string ⟨#[]⟩, .string ⟨#[]⟩] 28)) := (Below.refl _ _).alloc (Nat.le_refl _) _
  generalize hR : w.heap.size = R at x1 B1 ⊢
  have HR := Lib.hid hR
  clear hR
  generalize w.alloc (.cells #[.bool false, .string ⟨#[]⟩, .string ⟨#[]⟩, .int .i64 0, .string ⟨#[]⟩, .string ⟨#[]⟩] 28) = w1 at x1 B1 m1 t1 ⊢
  go_step3
  go_wp2_with fail
  refine (C1.out _).mono ?_
  rintro e w2 ⟨rfl, b2⟩
  have x2 := x1.below b2
  have m2 := m1.below b2
  have t2 := t1.below b2
  have B2 := B1.trans (b2.mono (Nat.le_of_lt x1.lt))
  clear b2 x1 m1 t1 B1
  go_wp2_with fail
  refine (C2.out _ m2).mono ?_
  rintro e w3 ⟨⟨ca, cb, rfl⟩, n3, rfl⟩
  have x3 : BX (w2.drewN n3) R false ⟨#[]⟩ ⟨#[]⟩ 0 ⟨#[]⟩ ⟨#[]⟩ := x2
  have m3 : MaxIn (w2.drewN n3) := m2
  have t3 : TabIn (w2.drewN n3) := t2
  have B3 := belowN B2 n3
  generalize w2.drewN n3 = w3 at x3 m3 t3 B3 ⊢
  clear x2 m2 t2 B2
  go_wp2_with fail
  have a4 : AT (w3.alloc (.cells #[.string L, .bool false, .string ⟨#[]⟩, .string ⟨#[]⟩, .int .i64 0, .string ⟨#[]⟩, .string ⟨#[]⟩] 48)) w3.heap.size L false ⟨#[]⟩ ⟨#[]⟩ 0 ⟨#[]⟩ ⟨#[]⟩ := new_block w3 _
  have K4 : Below w3.heap.size w3 (w3.alloc (.cells #[.string L, .bool false, .string ⟨#[]⟩, .string ⟨#[]⟩, .int .i64 0, .string ⟨#[]⟩, .string ⟨#[]⟩] 48)) := (Below.refl _ _).alloc (Nat.le_refl _) _
  have HB : Hid (∀ w', Below w3.heap.size w3 w' → MaxIn w' ∧ TabIn w' ∧ BX w' R false ⟨#[]⟩ ⟨#[]⟩ 0 ⟨#[]⟩ ⟨#[]⟩ ∧ Below R w w') := Lib.hid fun w' b => ⟨m3.below b, t3.below b, x3.below b, B3.trans (b.mono (Nat.le_of_lt x3.lt))⟩
  have hg : 0 < w3.heap.size := by obtain ⟨_, hm9⟩ := m3; exact lt_of_cell hm9
  clear x3 m3 t3 B3
  generalize w3.heap.size = B at a4 K4 HB hg ⊢
  generalize w3.alloc (.cells #[.string L, .bool false, .string ⟨#[]⟩, .string ⟨#[]⟩, .int .i64 0, .string ⟨#[]⟩, .string ⟨#[]⟩] 48) = w4 at a4 K4 ⊢
  refine (HC3.out B w4 a4).mono ?_
  rintro e w5 ⟨rfl, a5, b5⟩
  have K5 := K4.trans b5
  clear a4 K4 b5
  have s5 := a5.c2
  go_wp2_with fail
  refine (CD.out _).mono ?_
  rintro e w5 ⟨rfl, rfl⟩
  clear s5
  go_wp2_with fail
  refine (HC4.out B w5 a5).mono ?_
  rintro e w6 ⟨rfl, a6, b6⟩
  have K6 := K5.trans b6
  clear a5 K5 b6
  obtain ⟨m6, t6, x6, y6⟩ := HB.out _ K6
  have k1 := a6.c1
  have k2 := a6.c2
  have k3 := a6.c3
  have k4 := a6.c4
  have k5 := a6.c5
  have k6 := a6.c6
  go_wp2_with fail
  refine (CC.out _ m6 t6).mono ?_
  rintro e w7 ⟨rfl, b7⟩
  have a7 := a6.below b7
  have K7 := K6.trans (b7.mono (Nat.le_of_lt a6.lt))
  obtain ⟨m7, t7, x7, y7⟩ := HB.out _ K7
  clear k1 k2 k3 k4 k5 k6 m6 t6 x6 y6 b7 K6 a6 HB m7 t7
  have k1 := a7.c1
  have k2 := a7.c2
  have k3 := a7.c3
  have k4 := a7.c4
  have k5 := a7.c5
  have k6 := a7.c6
  have r0 := x7.c0
  have f0 := open_of x7 0
  have r1 := x7.c1
  have f1 := open_of x7 1
  have r2 := x7.c2
  have f2 := open_of x7 2
  have r3 := x7.c3
  have f3 := open_of x7 3
  have r4 := x7.c4
  have f4 := open_of x7 4
  have r5 := x7.c5
  have f5 := open_of x7 5
  have xz := BX.store x7 true sc ⟨#[]⟩ 0 pa ⟨#[]⟩
  have yz := stU_below y7 true sc ⟨#[]⟩ 0 pa ⟨#[]⟩
  go_wp2
  clear r0 f0 r1 f1 r2 f2 r3 f3 r4 f4 r5 f5
  unfold stU at xz yz
  generalize (((((w7.setCell ⟨R, 0, none⟩ (.bool true)).setCell ⟨R, 1, none⟩ (.string sc)).setCell ⟨R, 2, none⟩ (.string ⟨#[]⟩)).setCell ⟨R, 3, none⟩ (.int .i64 0)).setCell ⟨R, 4, none⟩ (.string pa)).setCell ⟨R, 5, none⟩ (.string ⟨#[]⟩) = wz at xz yz ⊢
  have c0 := xz.c0
  have c1 := xz.c1
  have c2 := xz.c2
  have c3 := xz.c3
  have c4 := xz.c4
  have c5 := xz.c5
  rw [Exit.noGoto_ret]
  exact bodyPost_ret (v := .tuple #[uV true sc ⟨#[]⟩ 0 pa ⟨#[]⟩, .int .i64 0]) (by simp [results, Tryd.results16, go_sem, uV, c0, c1, c2, c3, c4, c5]) rfl ⟨rfl, by rw [HR.out]; exact yz⟩

set_option maxRecDepth 100000 in
set_option maxHeartbeats 4000000 in
/-- An opaque address that is not right. -/
theorem parse_b9 (s : ByteArray) (hs : s.size ≤ 10000) (L : ByteArray) (hL : L.data.toList = upto (isC 35) (trim s.data.toList)) (L3 sc : ByteArray) (h58 : past (isC 58) L.data.toList = 58 :: L3.data.toList) (hsc : sc.data.toList = low (upto (isC 58) L.data.toList)) (d : Nat) (hd : dfl sc.data.toList = d) (hd0 : d = 0) (pa : ByteArray) (hpa : pa.data.toList = trim L3.data.toList) (hn : chk (uM true sc ⟨#[]⟩ 0 pa ⟨#[]⟩) = 50) (w : World) (hmx : MaxIn w) (ht : TabIn w) : Calls Tryd.prog 16 #[.string s] w fun e w' => e = .returned (.tuple #[uV false ⟨#[]⟩ ⟨#[]⟩ 0 ⟨#[]⟩ ⟨#[]⟩, .int .i64 50]) ∧ Below w.heap.size w w' := by
  obtain ⟨hLs, T1, C1, C2⟩ := pre_texts s hs L hL
  obtain ⟨L2, hL2⟩ := text_of (past (isC 58) L.data.toList)
  have z2 := upto_length (isC 58) L.data.toList
  rw [lsize, h58, List.length_cons, lsize] at z2
  have zsc : sc.size ≤ L.size := by
    rw [← lsize sc, hsc, low_length, ← lsize L]
    have := upto_length (isC 58) L.data.toList
    omega
  have C3 := fun B w a => cutScheme_any L sc L2 L3 true hsc hL2 (by rw [hL2, h58]; rfl) (by rw [hL2, h58]; rfl) (by omega) B w false ⟨#[]⟩ ⟨#[]⟩ 0 ⟨#[]⟩ ⟨#[]⟩ a
  have HC3 := Lib.hid C3
  have CD := default_hid sc d hd
  have zpa : pa.size ≤ L.size := by
    rw [← lsize pa, hpa]
    have := trim_length L3.data.toList
    rw [lsize] at this; omega
  have HC4 := Lib.hid (fun B w a => cutOpaque_any L3 pa hpa (by omega) B w false sc ⟨#[]⟩ 0 ⟨#[]⟩ ⟨#[]⟩ a)
  have CC := check_hid true sc ⟨#[]⟩ 0 pa ⟨#[]⟩ 50 hn (by omega) (by decide) (by omega) (by decide)
  have g1 : ((d : Int) == 0) = true := by rw [beq_iff_eq]; omega
  clear hL h58 hsc hd hL2 C3 hd0 hpa hn
  go_enter Tryd.func16, Tryd.ntmps16
  go_wp2_with fail
  have x1 := BX.made w false ⟨#[]⟩ ⟨#[]⟩ 0 ⟨#[]⟩ ⟨#[]⟩
  have m1 := hmx.made (.cells #[.bool false, .string ⟨#[]⟩, .string ⟨#[]⟩, .int .i64 0, .string ⟨#[]⟩, .string ⟨#[]⟩] 28)
  have t1 := ht.made (.cells #[.bool false, .string ⟨#[]⟩, .string ⟨#[]⟩, .int .i64 0, .string ⟨#[]⟩, .string ⟨#[]⟩] 28)
  have B1 : Below w.heap.size w (w.alloc (.cells #[.bool false, .string ⟨#[]⟩, .string ⟨#[]⟩, .int .i64 0, .string ⟨#[]⟩, .string ⟨#[]⟩] 28)) := (Below.refl _ _).alloc (Nat.le_refl _) _
  generalize hR : w.heap.size = R at x1 B1 ⊢
  have HR := Lib.hid hR
  clear hR
  generalize w.alloc (.cells #[.bool false, .string ⟨#[]⟩, .string ⟨#[]⟩, .int .i64 0, .string ⟨#[]⟩, .string ⟨#[]⟩] 28) = w1 at x1 B1 m1 t1 ⊢
  refine wp_scope_jumps 0 (fun a' w' => (∃ (u4 u5 u6 u7 u8 u9 u10 u11 u12 u13 u14 u15 u16 u17 u18 u19 u20 u21 u22 u23 u24 u25 u26 u27 u28 u29 u30 u31 u32 u33 u34 u35 u36 u37 u38 u39 u40 : Value), a' = { tmps := #[.string s, undef, .pointer (some ⟨R, 0, none⟩), .int .i64 0, u4, u5, u6, u7, u8, u9, u10, u11, u12, u13, u14, u15, u16, u17, u18, u19, u20, u21, u22, u23, u24, u25, u26, u27, u28, u29, u30, u31, u32, u33, u34, u35, u36, u37, u38, u39, u40], defers := [] }) ∧ BX w' R false ⟨#[]⟩ ⟨#[]⟩ 0 ⟨#[]⟩ ⟨#[]⟩ ∧ Below R w w') (fun _ _ => 0) rfl ?_ ?_
  case refine_2 =>
    rintro a' w5 ⟨⟨u4, u5, u6, u7, u8, u9, u10, u11, u12, u13, u14, u15, u16, u17, u18, u19, u20, u21, u22, u23, u24, u25, u26, u27, u28, u29, u30, u31, u32, u33, u34, u35, u36, u37, u38, u39, u40, rfl⟩, x5, y5⟩
    clear x1 m1 t1 B1
    have r0 := x5.c0
    have f0 := open_of x5 0
    have r1 := x5.c1
    have f1 := open_of x5 1
    have r2 := x5.c2
    have f2 := open_of x5 2
    have r3 := x5.c3
    have f3 := open_of x5 3
    have r4 := x5.c4
    have f4 := open_of x5 4
    have r5 := x5.c5
    have f5 := open_of x5 5
    have xz := BX.store x5 false ⟨#[]⟩ ⟨#[]⟩ 0 ⟨#[]⟩ ⟨#[]⟩
    have yz := stU_below y5 false ⟨#[]⟩ ⟨#[]⟩ 0 ⟨#[]⟩ ⟨#[]⟩
    go_wp2
    clear r0 f0 r1 f1 r2 f2 r3 f3 r4 f4 r5 f5
    unfold stU at xz yz
    generalize (((((w5.setCell ⟨R, 0, none⟩ (.bool false)).setCell ⟨R, 1, none⟩ (.string ⟨#[]⟩)).setCell ⟨R, 2, none⟩ (.string ⟨#[]⟩)).setCell ⟨R, 3, none⟩ (.int .i64 0)).setCell ⟨R, 4, none⟩ (.string ⟨#[]⟩)).setCell ⟨R, 5, none⟩ (.string ⟨#[]⟩) = wz at xz yz ⊢
    have c0 := xz.c0
    have c1 := xz.c1
    have c2 := xz.c2
    have c3 := xz.c3
    have c4 := xz.c4
    have c5 := xz.c5
    simp only [Exit.jump]
    exact bodyPost_ret (v := .tuple #[uV false ⟨#[]⟩ ⟨#[]⟩ 0 ⟨#[]⟩ ⟨#[]⟩, .int .i64 50]) (by simp [results, Tryd.results16, go_sem, uV, c0, c1, c2, c3, c4, c5]) rfl ⟨rfl, by rw [HR.out]; exact yz⟩
  go_wp2_with fail
  refine (C1.out _).mono ?_
  rintro e w2 ⟨rfl, b2⟩
  have x2 := x1.below b2
  have m2 := m1.below b2
  have t2 := t1.below b2
  have B2 := B1.trans (b2.mono (Nat.le_of_lt x1.lt))
  clear b2 x1 m1 t1 B1
  go_wp2_with fail
  refine (C2.out _ m2).mono ?_
  rintro e w3 ⟨⟨ca, cb, rfl⟩, n3, rfl⟩
  have x3 : BX (w2.drewN n3) R false ⟨#[]⟩ ⟨#[]⟩ 0 ⟨#[]⟩ ⟨#[]⟩ := x2
  have m3 : MaxIn (w2.drewN n3) := m2
  have t3 : TabIn (w2.drewN n3) := t2
  have B3 := belowN B2 n3
  generalize w2.drewN n3 = w3 at x3 m3 t3 B3 ⊢
  clear x2 m2 t2 B2
  go_wp2_with fail
  have a4 : AT (w3.alloc (.cells #[.string L, .bool false, .string ⟨#[]⟩, .string ⟨#[]⟩, .int .i64 0, .string ⟨#[]⟩, .string ⟨#[]⟩] 48)) w3.heap.size L false ⟨#[]⟩ ⟨#[]⟩ 0 ⟨#[]⟩ ⟨#[]⟩ := new_block w3 _
  have K4 : Below w3.heap.size w3 (w3.alloc (.cells #[.string L, .bool false, .string ⟨#[]⟩, .string ⟨#[]⟩, .int .i64 0, .string ⟨#[]⟩, .string ⟨#[]⟩] 48)) := (Below.refl _ _).alloc (Nat.le_refl _) _
  have HB : Hid (∀ w', Below w3.heap.size w3 w' → MaxIn w' ∧ TabIn w' ∧ BX w' R false ⟨#[]⟩ ⟨#[]⟩ 0 ⟨#[]⟩ ⟨#[]⟩ ∧ Below R w w') := Lib.hid fun w' b => ⟨m3.below b, t3.below b, x3.below b, B3.trans (b.mono (Nat.le_of_lt x3.lt))⟩
  have hg : 0 < w3.heap.size := by obtain ⟨_, hm9⟩ := m3; exact lt_of_cell hm9
  clear x3 m3 t3 B3
  generalize w3.heap.size = B at a4 K4 HB hg ⊢
  generalize w3.alloc (.cells #[.string L, .bool false, .string ⟨#[]⟩, .string ⟨#[]⟩, .int .i64 0, .string ⟨#[]⟩, .string ⟨#[]⟩] 48) = w4 at a4 K4 ⊢
  refine (HC3.out B w4 a4).mono ?_
  rintro e w5 ⟨rfl, a5, b5⟩
  have K5 := K4.trans b5
  clear a4 K4 b5
  have s5 := a5.c2
  go_wp2_with fail
  refine (CD.out _).mono ?_
  rintro e w5 ⟨rfl, rfl⟩
  clear s5
  go_wp2_with fail
  refine (HC4.out B w5 a5).mono ?_
  rintro e w6 ⟨rfl, a6, b6⟩
  have K6 := K5.trans b6
  clear a5 K5 b6
  obtain ⟨m6, t6, x6, y6⟩ := HB.out _ K6
  have k1 := a6.c1
  have k2 := a6.c2
  have k3 := a6.c3
  have k4 := a6.c4
  have k5 := a6.c5
  have k6 := a6.c6
  go_wp2_with fail
  refine (CC.out _ m6 t6).mono ?_
  rintro e w7 ⟨rfl, b7⟩
  have a7 := a6.below b7
  have K7 := K6.trans (b7.mono (Nat.le_of_lt a6.lt))
  obtain ⟨m7, t7, x7, y7⟩ := HB.out _ K7
  clear k1 k2 k3 k4 k5 k6 m6 t6 x6 y6 b7 K6 a6 HB m7 t7
  go_wp2_with fail
  go_step3
  exact ⟨rfl, ⟨_, _, _, _, _, _, _, _, _, _, _, _, _, _, _, _, _, _, _, _, _, _, _, _, _, _, _, _, _, _, _, _, _, _, _, _, _, rfl⟩, x7, y7⟩

set_option maxRecDepth 100000 in
set_option maxHeartbeats 4000000 in
/-- A ranked scheme without two strokes. -/
theorem parse_c (s : ByteArray) (hs : s.size ≤ 10000) (L : ByteArray) (hL : L.data.toList = upto (isC 35) (trim s.data.toList)) (L3 sc : ByteArray) (h58 : past (isC 58) L.data.toList = 58 :: L3.data.toList) (hsc : sc.data.toList = low (upto (isC 58) L.data.toList)) (d : Nat) (hd : dfl sc.data.toList = d) (hd0 : d ≠ 0) (hsl : [47, 47].isPrefixOf L3.data.toList = false) (w : World) (hmx : MaxIn w) (ht : TabIn w) : Calls Tryd.prog 16 #[.string s] w fun e w' => e = .returned (.tuple #[uV false ⟨#[]⟩ ⟨#[]⟩ 0 ⟨#[]⟩ ⟨#[]⟩, .int .i64 50]) ∧ Below w.heap.size w w' := by
  obtain ⟨hLs, T1, C1, C2⟩ := pre_texts s hs L hL
  obtain ⟨L2, hL2⟩ := text_of (past (isC 58) L.data.toList)
  have z2 := upto_length (isC 58) L.data.toList
  rw [lsize, h58, List.length_cons, lsize] at z2
  have zsc : sc.size ≤ L.size := by
    rw [← lsize sc, hsc, low_length, ← lsize L]
    have := upto_length (isC 58) L.data.toList
    omega
  have C3 := fun B w a => cutScheme_any L sc L2 L3 true hsc hL2 (by rw [hL2, h58]; rfl) (by rw [hL2, h58]; rfl) (by omega) B w false ⟨#[]⟩ ⟨#[]⟩ 0 ⟨#[]⟩ ⟨#[]⟩ a
  have HC3 := Lib.hid C3
  have CD := default_hid sc d hd
  have C5 := fun B => skip_any ⟨#[47, 47]⟩ L3 L3 false hsl rfl B
  have g1 : ((d : Int) == 0) = false := by rw [beq_eq_false_iff_ne]; omega
  clear hL h58 hsc hd hL2 C3 hd0 hsl
  go_enter Tryd.func16, Tryd.ntmps16
  go_wp2_with fail
  have x1 := BX.made w false ⟨#[]⟩ ⟨#[]⟩ 0 ⟨#[]⟩ ⟨#[]⟩
  have m1 := hmx.made (.cells #[.bool false, .string ⟨#[]⟩, .string ⟨#[]⟩, .int .i64 0, .string ⟨#[]⟩, .string ⟨#[]⟩] 28)
  have t1 := ht.made (.cells #[.bool false, .string ⟨#[]⟩, .string ⟨#[]⟩, .int .i64 0, .string ⟨#[]⟩, .string ⟨#[]⟩] 28)
  have B1 : Below w.heap.size w (w.alloc (.cells #[.bool false, .string ⟨#[]⟩, .string ⟨#[]⟩, .int .i64 0, .string ⟨#[]⟩, .string ⟨#[]⟩] 28)) := (Below.refl _ _).alloc (Nat.le_refl _) _
  generalize hR : w.heap.size = R at x1 B1 ⊢
  have HR := Lib.hid hR
  clear hR
  generalize w.alloc (.cells #[.bool false, .string ⟨#[]⟩, .string ⟨#[]⟩, .int .i64 0, .string ⟨#[]⟩, .string ⟨#[]⟩] 28) = w1 at x1 B1 m1 t1 ⊢
  refine wp_scope_jumps 0 (fun a' w' => (∃ (u4 u5 u6 u7 u8 u9 u10 u11 u12 u13 u14 u15 u16 u17 u18 u19 u20 u21 u22 u23 u24 u25 u26 u27 u28 u29 u30 u31 u32 u33 u34 u35 u36 u37 u38 u39 u40 : Value), a' = { tmps := #[.string s, undef, .pointer (some ⟨R, 0, none⟩), .int .i64 0, u4, u5, u6, u7, u8, u9, u10, u11, u12, u13, u14, u15, u16, u17, u18, u19, u20, u21, u22, u23, u24, u25, u26, u27, u28, u29, u30, u31, u32, u33, u34, u35, u36, u37, u38, u39, u40], defers := [] }) ∧ BX w' R false ⟨#[]⟩ ⟨#[]⟩ 0 ⟨#[]⟩ ⟨#[]⟩ ∧ Below R w w') (fun _ _ => 0) rfl ?_ ?_
  case refine_2 =>
    rintro a' w5 ⟨⟨u4, u5, u6, u7, u8, u9, u10, u11, u12, u13, u14, u15, u16, u17, u18, u19, u20, u21, u22, u23, u24, u25, u26, u27, u28, u29, u30, u31, u32, u33, u34, u35, u36, u37, u38, u39, u40, rfl⟩, x5, y5⟩
    clear x1 m1 t1 B1
    have r0 := x5.c0
    have f0 := open_of x5 0
    have r1 := x5.c1
    have f1 := open_of x5 1
    have r2 := x5.c2
    have f2 := open_of x5 2
    have r3 := x5.c3
    have f3 := open_of x5 3
    have r4 := x5.c4
    have f4 := open_of x5 4
    have r5 := x5.c5
    have f5 := open_of x5 5
    have xz := BX.store x5 false ⟨#[]⟩ ⟨#[]⟩ 0 ⟨#[]⟩ ⟨#[]⟩
    have yz := stU_below y5 false ⟨#[]⟩ ⟨#[]⟩ 0 ⟨#[]⟩ ⟨#[]⟩
    go_wp2
    clear r0 f0 r1 f1 r2 f2 r3 f3 r4 f4 r5 f5
    unfold stU at xz yz
    generalize (((((w5.setCell ⟨R, 0, none⟩ (.bool false)).setCell ⟨R, 1, none⟩ (.string ⟨#[]⟩)).setCell ⟨R, 2, none⟩ (.string ⟨#[]⟩)).setCell ⟨R, 3, none⟩ (.int .i64 0)).setCell ⟨R, 4, none⟩ (.string ⟨#[]⟩)).setCell ⟨R, 5, none⟩ (.string ⟨#[]⟩) = wz at xz yz ⊢
    have c0 := xz.c0
    have c1 := xz.c1
    have c2 := xz.c2
    have c3 := xz.c3
    have c4 := xz.c4
    have c5 := xz.c5
    simp only [Exit.jump]
    exact bodyPost_ret (v := .tuple #[uV false ⟨#[]⟩ ⟨#[]⟩ 0 ⟨#[]⟩ ⟨#[]⟩, .int .i64 50]) (by simp [results, Tryd.results16, go_sem, uV, c0, c1, c2, c3, c4, c5]) rfl ⟨rfl, by rw [HR.out]; exact yz⟩
  go_wp2_with fail
  refine (C1.out _).mono ?_
  rintro e w2 ⟨rfl, b2⟩
  have x2 := x1.below b2
  have m2 := m1.below b2
  have t2 := t1.below b2
  have B2 := B1.trans (b2.mono (Nat.le_of_lt x1.lt))
  clear b2 x1 m1 t1 B1
  go_wp2_with fail
  refine (C2.out _ m2).mono ?_
  rintro e w3 ⟨⟨ca, cb, rfl⟩, n3, rfl⟩
  have x3 : BX (w2.drewN n3) R false ⟨#[]⟩ ⟨#[]⟩ 0 ⟨#[]⟩ ⟨#[]⟩ := x2
  have m3 : MaxIn (w2.drewN n3) := m2
  have t3 : TabIn (w2.drewN n3) := t2
  have B3 := belowN B2 n3
  generalize w2.drewN n3 = w3 at x3 m3 t3 B3 ⊢
  clear x2 m2 t2 B2
  go_wp2_with fail
  have a4 : AT (w3.alloc (.cells #[.string L, .bool false, .string ⟨#[]⟩, .string ⟨#[]⟩, .int .i64 0, .string ⟨#[]⟩, .string ⟨#[]⟩] 48)) w3.heap.size L false ⟨#[]⟩ ⟨#[]⟩ 0 ⟨#[]⟩ ⟨#[]⟩ := new_block w3 _
  have K4 : Below w3.heap.size w3 (w3.alloc (.cells #[.string L, .bool false, .string ⟨#[]⟩, .string ⟨#[]⟩, .int .i64 0, .string ⟨#[]⟩, .string ⟨#[]⟩] 48)) := (Below.refl _ _).alloc (Nat.le_refl _) _
  have HB : Hid (∀ w', Below w3.heap.size w3 w' → MaxIn w' ∧ TabIn w' ∧ BX w' R false ⟨#[]⟩ ⟨#[]⟩ 0 ⟨#[]⟩ ⟨#[]⟩ ∧ Below R w w') := Lib.hid fun w' b => ⟨m3.below b, t3.below b, x3.below b, B3.trans (b.mono (Nat.le_of_lt x3.lt))⟩
  have hg : 0 < w3.heap.size := by obtain ⟨_, hm9⟩ := m3; exact lt_of_cell hm9
  clear x3 m3 t3 B3
  generalize w3.heap.size = B at a4 K4 HB hg ⊢
  generalize w3.alloc (.cells #[.string L, .bool false, .string ⟨#[]⟩, .string ⟨#[]⟩, .int .i64 0, .string ⟨#[]⟩, .string ⟨#[]⟩] 48) = w4 at a4 K4 ⊢
  refine (HC3.out B w4 a4).mono ?_
  rintro e w5 ⟨rfl, a5, b5⟩
  have K5 := K4.trans b5
  clear a4 K4 b5
  have s5 := a5.c2
  go_wp2_with fail
  refine (CD.out _).mono ?_
  rintro e w5 ⟨rfl, rfl⟩
  clear s5
  go_wp2_with fail
  refine ((C5 B).out _ a5.c0 (a5.free 0)).mono ?_
  rintro e w6 ⟨rfl, rfl⟩
  have a6 := a5.set0 L3
  have K6 := K5.setCell (p := ⟨B, 0, none⟩) (Nat.le_refl _) (.string L3)
  generalize w5.setCell ⟨B, 0, none⟩ (.string L3) = w6 at a6 K6 ⊢
  clear a5 K5
  obtain ⟨m6, t6, x6, y6⟩ := HB.out _ K6
  clear HB
  go_wp2_with fail
  go_step3
  exact ⟨rfl, ⟨_, _, _, _, _, _, _, _, _, _, _, _, _, _, _, _, _, _, _, _, _, _, _, _, _, _, _, _, _, _, _, _, _, _, _, _, _, rfl⟩, x6, y6⟩

set_option maxRecDepth 100000 in
set_option maxHeartbeats 4000000 in
/-- A port that is none. -/
theorem parse_d (s : ByteArray) (hs : s.size ≤ 10000) (L : ByteArray) (hL : L.data.toList = upto (isC 35) (trim s.data.toList)) (L3 sc : ByteArray) (h58 : past (isC 58) L.data.toList = 58 :: L3.data.toList) (hsc : sc.data.toList = low (upto (isC 58) L.data.toList)) (d : Nat) (hd : dfl sc.data.toList = d) (hd0 : d ≠ 0) (hsl : [47, 47].isPrefixOf L3.data.toList = true) (L4 ho : ByteArray) (hL4 : L4.data.toList = L3.data.toList.drop 2) (hho : ho.data.toList = low (upto (isC 58) (upto isE L4.data.toList))) (n : Nat) (hnum : (past (isC 58) (upto isE L4.data.toList) = [] ∧ n = 0 ∧ false = true) ∨ ∃ c ds, past (isC 58) (upto isE L4.data.toList) = c :: ds ∧ numP ds = (n, false)) (w : World) (hmx : MaxIn w) (ht : TabIn w) : Calls Tryd.prog 16 #[.string s] w fun e w' => e = .returned (.tuple #[uV false ⟨#[]⟩ ⟨#[]⟩ 0 ⟨#[]⟩ ⟨#[]⟩, .int .i64 50]) ∧ Below w.heap.size w w' := by
  obtain ⟨hLs, T1, C1, C2⟩ := pre_texts s hs L hL
  obtain ⟨L2, hL2⟩ := text_of (past (isC 58) L.data.toList)
  have z2 := upto_length (isC 58) L.data.toList
  rw [lsize, h58, List.length_cons, lsize] at z2
  have zsc : sc.size ≤ L.size := by
    rw [← lsize sc, hsc, low_length, ← lsize L]
    have := upto_length (isC 58) L.data.toList
    omega
  have C3 := fun B w a => cutScheme_any L sc L2 L3 true hsc hL2 (by rw [hL2, h58]; rfl) (by rw [hL2, h58]; rfl) (by omega) B w false ⟨#[]⟩ ⟨#[]⟩ 0 ⟨#[]⟩ ⟨#[]⟩ a
  have HC3 := Lib.hid C3
  have CD := default_hid sc d hd
  have zL4 : L4.size ≤ L3.size := by
    rw [← lsize L4, hL4, List.length_drop, lsize]; omega
  have C5 := fun B => skip_any ⟨#[47, 47]⟩ L3 L4 true hsl (by rw [hL4]; rfl) B
  have g1 : ((d : Int) == 0) = false := by rw [beq_eq_false_iff_ne]; omega
  obtain ⟨LF, hLF⟩ := text_of (past isE L4.data.toList)
  have zLF : LF.size ≤ L4.size := by
    rw [← lsize LF, ← lsize L4, hLF]
    have := upto_length isE L4.data.toList
    omega
  have zho : ho.size ≤ L4.size := by
    rw [← lsize ho, hho, low_length, ← lsize L4]
    have e1 := upto_length isE L4.data.toList
    have e2 := upto_length (isC 58) (upto isE L4.data.toList)
    omega
  have HC6 := Lib.hid (fun B w a => cutHost_any L4 LF ho n false hLF hho d sc hd hnum (by omega) B w false ⟨#[]⟩ ⟨#[]⟩ ⟨#[]⟩ a hd0 _ rfl)
  clear hL h58 hsc hd hL2 C3 hd0 hsl hL4 hho hnum hLF
  go_enter Tryd.func16, Tryd.ntmps16
  go_wp2_with fail
  have x1 := BX.made w false ⟨#[]⟩ ⟨#[]⟩ 0 ⟨#[]⟩ ⟨#[]⟩
  have m1 := hmx.made (.cells #[.bool false, .string ⟨#[]⟩, .string ⟨#[]⟩, .int .i64 0, .string ⟨#[]⟩, .string ⟨#[]⟩] 28)
  have t1 := ht.made (.cells #[.bool false, .string ⟨#[]⟩, .string ⟨#[]⟩, .int .i64 0, .string ⟨#[]⟩, .string ⟨#[]⟩] 28)
  have B1 : Below w.heap.size w (w.alloc (.cells #[.bool false, .string ⟨#[]⟩, .string ⟨#[]⟩, .int .i64 0, .string ⟨#[]⟩, .string ⟨#[]⟩] 28)) := (Below.refl _ _).alloc (Nat.le_refl _) _
  generalize hR : w.heap.size = R at x1 B1 ⊢
  have HR := Lib.hid hR
  clear hR
  generalize w.alloc (.cells #[.bool false, .string ⟨#[]⟩, .string ⟨#[]⟩, .int .i64 0, .string ⟨#[]⟩, .string ⟨#[]⟩] 28) = w1 at x1 B1 m1 t1 ⊢
  refine wp_scope_jumps 0 (fun a' w' => (∃ (u4 u5 u6 u7 u8 u9 u10 u11 u12 u13 u14 u15 u16 u17 u18 u19 u20 u21 u22 u23 u24 u25 u26 u27 u28 u29 u30 u31 u32 u33 u34 u35 u36 u37 u38 u39 u40 : Value), a' = { tmps := #[.string s, undef, .pointer (some ⟨R, 0, none⟩), .int .i64 0, u4, u5, u6, u7, u8, u9, u10, u11, u12, u13, u14, u15, u16, u17, u18, u19, u20, u21, u22, u23, u24, u25, u26, u27, u28, u29, u30, u31, u32, u33, u34, u35, u36, u37, u38, u39, u40], defers := [] }) ∧ BX w' R false ⟨#[]⟩ ⟨#[]⟩ 0 ⟨#[]⟩ ⟨#[]⟩ ∧ Below R w w') (fun _ _ => 0) rfl ?_ ?_
  case refine_2 =>
    rintro a' w5 ⟨⟨u4, u5, u6, u7, u8, u9, u10, u11, u12, u13, u14, u15, u16, u17, u18, u19, u20, u21, u22, u23, u24, u25, u26, u27, u28, u29, u30, u31, u32, u33, u34, u35, u36, u37, u38, u39, u40, rfl⟩, x5, y5⟩
    clear x1 m1 t1 B1
    have r0 := x5.c0
    have f0 := open_of x5 0
    have r1 := x5.c1
    have f1 := open_of x5 1
    have r2 := x5.c2
    have f2 := open_of x5 2
    have r3 := x5.c3
    have f3 := open_of x5 3
    have r4 := x5.c4
    have f4 := open_of x5 4
    have r5 := x5.c5
    have f5 := open_of x5 5
    have xz := BX.store x5 false ⟨#[]⟩ ⟨#[]⟩ 0 ⟨#[]⟩ ⟨#[]⟩
    have yz := stU_below y5 false ⟨#[]⟩ ⟨#[]⟩ 0 ⟨#[]⟩ ⟨#[]⟩
    go_wp2
    clear r0 f0 r1 f1 r2 f2 r3 f3 r4 f4 r5 f5
    unfold stU at xz yz
    generalize (((((w5.setCell ⟨R, 0, none⟩ (.bool false)).setCell ⟨R, 1, none⟩ (.string ⟨#[]⟩)).setCell ⟨R, 2, none⟩ (.string ⟨#[]⟩)).setCell ⟨R, 3, none⟩ (.int .i64 0)).setCell ⟨R, 4, none⟩ (.string ⟨#[]⟩)).setCell ⟨R, 5, none⟩ (.string ⟨#[]⟩) = wz at xz yz ⊢
    have c0 := xz.c0
    have c1 := xz.c1
    have c2 := xz.c2
    have c3 := xz.c3
    have c4 := xz.c4
    have c5 := xz.c5
    simp only [Exit.jump]
    exact bodyPost_ret (v := .tuple #[uV false ⟨#[]⟩ ⟨#[]⟩ 0 ⟨#[]⟩ ⟨#[]⟩, .int .i64 50]) (by simp [results, Tryd.results16, go_sem, uV, c0, c1, c2, c3, c4, c5]) rfl ⟨rfl, by rw [HR.out]; exact yz⟩
  go_wp2_with fail
  refine (C1.out _).mono ?_
  rintro e w2 ⟨rfl, b2⟩
  have x2 := x1.below b2
  have m2 := m1.below b2
  have t2 := t1.below b2
  have B2 := B1.trans (b2.mono (Nat.le_of_lt x1.lt))
  clear b2 x1 m1 t1 B1
  go_wp2_with fail
  refine (C2.out _ m2).mono ?_
  rintro e w3 ⟨⟨ca, cb, rfl⟩, n3, rfl⟩
  have x3 : BX (w2.drewN n3) R false ⟨#[]⟩ ⟨#[]⟩ 0 ⟨#[]⟩ ⟨#[]⟩ := x2
  have m3 : MaxIn (w2.drewN n3) := m2
  have t3 : TabIn (w2.drewN n3) := t2
  have B3 := belowN B2 n3
  generalize w2.drewN n3 = w3 at x3 m3 t3 B3 ⊢
  clear x2 m2 t2 B2
  go_wp2_with fail
  have a4 : AT (w3.alloc (.cells #[.string L, .bool false, .string ⟨#[]⟩, .string ⟨#[]⟩, .int .i64 0, .string ⟨#[]⟩, .string ⟨#[]⟩] 48)) w3.heap.size L false ⟨#[]⟩ ⟨#[]⟩ 0 ⟨#[]⟩ ⟨#[]⟩ := new_block w3 _
  have K4 : Below w3.heap.size w3 (w3.alloc (.cells #[.string L, .bool false, .string ⟨#[]⟩, .string ⟨#[]⟩, .int .i64 0, .string ⟨#[]⟩, .string ⟨#[]⟩] 48)) := (Below.refl _ _).alloc (Nat.le_refl _) _
  have HB : Hid (∀ w', Below w3.heap.size w3 w' → MaxIn w' ∧ TabIn w' ∧ BX w' R false ⟨#[]⟩ ⟨#[]⟩ 0 ⟨#[]⟩ ⟨#[]⟩ ∧ Below R w w') := Lib.hid fun w' b => ⟨m3.below b, t3.below b, x3.below b, B3.trans (b.mono (Nat.le_of_lt x3.lt))⟩
  have hg : 0 < w3.heap.size := by obtain ⟨_, hm9⟩ := m3; exact lt_of_cell hm9
  clear x3 m3 t3 B3
  generalize w3.heap.size = B at a4 K4 HB hg ⊢
  generalize w3.alloc (.cells #[.string L, .bool false, .string ⟨#[]⟩, .string ⟨#[]⟩, .int .i64 0, .string ⟨#[]⟩, .string ⟨#[]⟩] 48) = w4 at a4 K4 ⊢
  refine (HC3.out B w4 a4).mono ?_
  rintro e w5 ⟨rfl, a5, b5⟩
  have K5 := K4.trans b5
  clear a4 K4 b5
  have s5 := a5.c2
  go_wp2_with fail
  refine (CD.out _).mono ?_
  rintro e w5 ⟨rfl, rfl⟩
  clear s5
  go_wp2_with fail
  refine ((C5 B).out _ a5.c0 (a5.free 0)).mono ?_
  rintro e w6 ⟨rfl, rfl⟩
  have a6 := a5.set0 L4
  have K6 := K5.setCell (p := ⟨B, 0, none⟩) (Nat.le_refl _) (.string L4)
  generalize w5.setCell ⟨B, 0, none⟩ (.string L4) = w6 at a6 K6 ⊢
  clear a5 K5
  go_wp2_with fail
  refine (HC6.out B w6 a6).mono ?_
  rintro e w7 ⟨rfl, a7, b7⟩
  have K7 := K6.trans b7
  clear a6 K6 b7
  obtain ⟨m7, t7, x7, y7⟩ := HB.out _ K7
  clear HB
  go_wp2_with fail
  go_step3
  exact ⟨rfl, ⟨_, _, _, _, _, _, _, _, _, _, _, _, _, _, _, _, _, _, _, _, _, _, _, _, _, _, _, _, _, _, _, _, _, _, _, _, _, rfl⟩, x7, y7⟩

set_option maxRecDepth 100000 in
set_option maxHeartbeats 4000000 in
/-- A ranked address that is right. -/
theorem parse_e (s : ByteArray) (hs : s.size ≤ 10000) (L : ByteArray) (hL : L.data.toList = upto (isC 35) (trim s.data.toList)) (L3 sc : ByteArray) (h58 : past (isC 58) L.data.toList = 58 :: L3.data.toList) (hsc : sc.data.toList = low (upto (isC 58) L.data.toList)) (d : Nat) (hd : dfl sc.data.toList = d) (hd0 : d ≠ 0) (hsl : [47, 47].isPrefixOf L3.data.toList = true) (L4 ho : ByteArray) (hL4 : L4.data.toList = L3.data.toList.drop 2) (hho : ho.data.toList = low (upto (isC 58) (upto isE L4.data.toList))) (n : Nat) (hnum : (past (isC 58) (upto isE L4.data.toList) = [] ∧ n = 0 ∧ true = true) ∨ ∃ c ds, past (isC 58) (upto isE L4.data.toList) = c :: ds ∧ numP ds = (n, true)) (pr : Int) (hpr : pr = if n = d then 0 else (n : Int)) (pa1 pa q : ByteArray) (hpa1 : pa1.data.toList = if upto (isC 63) (past isE L4.data.toList) = [] then [47] else upto (isC 63) (past isE L4.data.toList)) (hpa : pa.data.toList = cleanP pa1.data.toList) (hq : q.data.toList = past (isC 63) (past isE L4.data.toList)) (hn : chk (uM false sc ho pr pa q) = 0) (w : World) (hmx : MaxIn w) (ht : TabIn w) : Calls Tryd.prog 16 #[.string s] w fun e w' => e = .returned (.tuple #[uV false sc ho pr pa q, .int .i64 0]) ∧ Below w.heap.size w w' := by
  obtain ⟨hLs, T1, C1, C2⟩ := pre_texts s hs L hL
  obtain ⟨L2, hL2⟩ := text_of (past (isC 58) L.data.toList)
  have z2 := upto_length (isC 58) L.data.toList
  rw [lsize, h58, List.length_cons, lsize] at z2
  have zsc : sc.size ≤ L.size := by
    rw [← lsize sc, hsc, low_length, ← lsize L]
    have := upto_length (isC 58) L.data.toList
    omega
  have C3 := fun B w a => cutScheme_any L sc L2 L3 true hsc hL2 (by rw [hL2, h58]; rfl) (by rw [hL2, h58]; rfl) (by omega) B w false ⟨#[]⟩ ⟨#[]⟩ 0 ⟨#[]⟩ ⟨#[]⟩ a
  have HC3 := Lib.hid C3
  have CD := default_hid sc d hd
  have zL4 : L4.size ≤ L3.size := by
    rw [← lsize L4, hL4, List.length_drop, lsize]; omega
  have C5 := fun B => skip_any ⟨#[47, 47]⟩ L3 L4 true hsl (by rw [hL4]; rfl) B
  have g1 : ((d : Int) == 0) = false := by rw [beq_eq_false_iff_ne]; omega
  obtain ⟨LF, hLF⟩ := text_of (past isE L4.data.toList)
  have zLF : LF.size ≤ L4.size := by
    rw [← lsize LF, ← lsize L4, hLF]
    have := upto_length isE L4.data.toList
    omega
  have zho : ho.size ≤ L4.size := by
    rw [← lsize ho, hho, low_length, ← lsize L4]
    have e1 := upto_length isE L4.data.toList
    have e2 := upto_length (isC 58) (upto isE L4.data.toList)
    omega
  have HC6 := Lib.hid (fun B w a => cutHost_any L4 LF ho n true hLF hho d sc hd hnum (by omega) B w false ⟨#[]⟩ ⟨#[]⟩ ⟨#[]⟩ a hd0 pr hpr)
  rw [← hLF] at hpa1 hq
  have zq : q.size ≤ LF.size := by
    rw [← lsize q, ← lsize LF, hq]
    have := upto_length (isC 63) LF.data.toList
    omega
  have zpa : pa.size ≤ LF.size + 1 := by
    have e1 := cleanP_length pa1.data.toList
    rw [← hpa, lsize, lsize] at e1
    have e2 : pa1.size ≤ LF.size + 1 := by
      rw [← lsize pa1, hpa1]
      split
      · exact Nat.le_add_left _ _
      · have := upto_length (isC 63) LF.data.toList
        rw [lsize] at this; omega
    omega
  have HC7 := Lib.hid (fun B w hm a hB => cutPath_any LF pa1 pa q hpa1 hpa hq (by omega) B w hm false sc ho pr ⟨#[]⟩ ⟨#[]⟩ a hB)
  have CC := check_hid false sc ho pr pa q 0 hn (by omega) (by omega) (by omega) (by omega)
  clear hL h58 hsc hd hL2 C3 hd0 hsl hL4 hho hnum hLF hpa1 hpa hq hn hpr
  go_enter Tryd.func16, Tryd.ntmps16
  go_wp2_with fail
  have x1 := BX.made w false ⟨#[]⟩ ⟨#[]⟩ 0 ⟨#[]⟩ ⟨#[]⟩
  have m1 := hmx.made (.cells #[.bool false, .string ⟨#[]⟩, .string ⟨#[]⟩, .int .i64 0, .string ⟨#[]⟩, .string ⟨#[]⟩] 28)
  have t1 := ht.made (.cells #[.bool false, .string ⟨#[]⟩, .string ⟨#[]⟩, .int .i64 0, .string ⟨#[]⟩, .string ⟨#[]⟩] 28)
  have B1 : Below w.heap.size w (w.alloc (.cells #[.bool false, .string ⟨#[]⟩, .string ⟨#[]⟩, .int .i64 0, .string ⟨#[]⟩, .string ⟨#[]⟩] 28)) := (Below.refl _ _).alloc (Nat.le_refl _) _
  generalize hR : w.heap.size = R at x1 B1 ⊢
  have HR := Lib.hid hR
  clear hR
  generalize w.alloc (.cells #[.bool false, .string ⟨#[]⟩, .string ⟨#[]⟩, .int .i64 0, .string ⟨#[]⟩, .string ⟨#[]⟩] 28) = w1 at x1 B1 m1 t1 ⊢
  go_step3
  go_wp2_with fail
  refine (C1.out _).mono ?_
  rintro e w2 ⟨rfl, b2⟩
  have x2 := x1.below b2
  have m2 := m1.below b2
  have t2 := t1.below b2
  have B2 := B1.trans (b2.mono (Nat.le_of_lt x1.lt))
  clear b2 x1 m1 t1 B1
  go_wp2_with fail
  refine (C2.out _ m2).mono ?_
  rintro e w3 ⟨⟨ca, cb, rfl⟩, n3, rfl⟩
  have x3 : BX (w2.drewN n3) R false ⟨#[]⟩ ⟨#[]⟩ 0 ⟨#[]⟩ ⟨#[]⟩ := x2
  have m3 : MaxIn (w2.drewN n3) := m2
  have t3 : TabIn (w2.drewN n3) := t2
  have B3 := belowN B2 n3
  generalize w2.drewN n3 = w3 at x3 m3 t3 B3 ⊢
  clear x2 m2 t2 B2
  go_wp2_with fail
  have a4 : AT (w3.alloc (.cells #[.string L, .bool false, .string ⟨#[]⟩, .string ⟨#[]⟩, .int .i64 0, .string ⟨#[]⟩, .string ⟨#[]⟩] 48)) w3.heap.size L false ⟨#[]⟩ ⟨#[]⟩ 0 ⟨#[]⟩ ⟨#[]⟩ := new_block w3 _
  have K4 : Below w3.heap.size w3 (w3.alloc (.cells #[.string L, .bool false, .string ⟨#[]⟩, .string ⟨#[]⟩, .int .i64 0, .string ⟨#[]⟩, .string ⟨#[]⟩] 48)) := (Below.refl _ _).alloc (Nat.le_refl _) _
  have HB : Hid (∀ w', Below w3.heap.size w3 w' → MaxIn w' ∧ TabIn w' ∧ BX w' R false ⟨#[]⟩ ⟨#[]⟩ 0 ⟨#[]⟩ ⟨#[]⟩ ∧ Below R w w') := Lib.hid fun w' b => ⟨m3.below b, t3.below b, x3.below b, B3.trans (b.mono (Nat.le_of_lt x3.lt))⟩
  have hg : 0 < w3.heap.size := by obtain ⟨_, hm9⟩ := m3; exact lt_of_cell hm9
  clear x3 m3 t3 B3
  generalize w3.heap.size = B at a4 K4 HB hg ⊢
  generalize w3.alloc (.cells #[.string L, .bool false, .string ⟨#[]⟩, .string ⟨#[]⟩, .int .i64 0, .string ⟨#[]⟩, .string ⟨#[]⟩] 48) = w4 at a4 K4 ⊢
  refine (HC3.out B w4 a4).mono ?_
  rintro e w5 ⟨rfl, a5, b5⟩
  have K5 := K4.trans b5
  clear a4 K4 b5
  have s5 := a5.c2
  go_wp2_with fail
  refine (CD.out _).mono ?_
  rintro e w5 ⟨rfl, rfl⟩
  clear s5
  go_wp2_with fail
  refine ((C5 B).out _ a5.c0 (a5.free 0)).mono ?_
  rintro e w6 ⟨rfl, rfl⟩
  have a6 := a5.set0 L4
  have K6 := K5.setCell (p := ⟨B, 0, none⟩) (Nat.le_refl _) (.string L4)
  generalize w5.setCell ⟨B, 0, none⟩ (.string L4) = w6 at a6 K6 ⊢
  clear a5 K5
  go_wp2_with fail
  refine (HC6.out B w6 a6).mono ?_
  rintro e w7 ⟨rfl, a7, b7⟩
  have K7 := K6.trans b7
  clear a6 K6 b7
  obtain ⟨m7, t7, x7, y7⟩ := HB.out _ K7
  go_wp2_with fail
  refine (HC7.out B w7 m7 a7 hg).mono ?_
  rintro e w8 ⟨rfl, a8, b8⟩
  have K8 := K7.trans b8
  clear a7 K7 b8 m7 t7 x7 y7
  obtain ⟨m8, t8, x8, y8⟩ := HB.out _ K8
  have k1 := a8.c1
  have k2 := a8.c2
  have k3 := a8.c3
  have k4 := a8.c4
  have k5 := a8.c5
  have k6 := a8.c6
  go_wp2_with fail
  refine (CC.out _ m8 t8).mono ?_
  rintro e w9 ⟨rfl, b9⟩
  have a9 := a8.below b9
  have K9 := K8.trans (b9.mono (Nat.le_of_lt a8.lt))
  obtain ⟨m9, t9, x9, y9⟩ := HB.out _ K9
  clear k1 k2 k3 k4 k5 k6 m8 t8 x8 y8 b9 K8 a8 HB m9 t9
  have k1 := a9.c1
  have k2 := a9.c2
  have k3 := a9.c3
  have k4 := a9.c4
  have k5 := a9.c5
  have k6 := a9.c6
  have r0 := x9.c0
  have f0 := open_of x9 0
  have r1 := x9.c1
  have f1 := open_of x9 1
  have r2 := x9.c2
  have f2 := open_of x9 2
  have r3 := x9.c3
  have f3 := open_of x9 3
  have r4 := x9.c4
  have f4 := open_of x9 4
  have r5 := x9.c5
  have f5 := open_of x9 5
  have xz := BX.store x9 false sc ho pr pa q
  have yz := stU_below y9 false sc ho pr pa q
  go_wp2
  clear r0 f0 r1 f1 r2 f2 r3 f3 r4 f4 r5 f5
  unfold stU at xz yz
  generalize (((((w9.setCell ⟨R, 0, none⟩ (.bool false)).setCell ⟨R, 1, none⟩ (.string sc)).setCell ⟨R, 2, none⟩ (.string ho)).setCell ⟨R, 3, none⟩ (.int .i64 pr)).setCell ⟨R, 4, none⟩ (.string pa)).setCell ⟨R, 5, none⟩ (.string q) = wz at xz yz ⊢
  have c0 := xz.c0
  have c1 := xz.c1
  have c2 := xz.c2
  have c3 := xz.c3
  have c4 := xz.c4
  have c5 := xz.c5
  rw [Exit.noGoto_ret]
  exact bodyPost_ret (v := .tuple #[uV false sc ho pr pa q, .int .i64 0]) (by simp [results, Tryd.results16, go_sem, uV, c0, c1, c2, c3, c4, c5]) rfl ⟨rfl, by rw [HR.out]; exact yz⟩

set_option maxRecDepth 100000 in
set_option maxHeartbeats 4000000 in
/-- A ranked address that is not right. -/
theorem parse_e9 (s : ByteArray) (hs : s.size ≤ 10000) (L : ByteArray) (hL : L.data.toList = upto (isC 35) (trim s.data.toList)) (L3 sc : ByteArray) (h58 : past (isC 58) L.data.toList = 58 :: L3.data.toList) (hsc : sc.data.toList = low (upto (isC 58) L.data.toList)) (d : Nat) (hd : dfl sc.data.toList = d) (hd0 : d ≠ 0) (hsl : [47, 47].isPrefixOf L3.data.toList = true) (L4 ho : ByteArray) (hL4 : L4.data.toList = L3.data.toList.drop 2) (hho : ho.data.toList = low (upto (isC 58) (upto isE L4.data.toList))) (n : Nat) (hnum : (past (isC 58) (upto isE L4.data.toList) = [] ∧ n = 0 ∧ true = true) ∨ ∃ c ds, past (isC 58) (upto isE L4.data.toList) = c :: ds ∧ numP ds = (n, true)) (pr : Int) (hpr : pr = if n = d then 0 else (n : Int)) (pa1 pa q : ByteArray) (hpa1 : pa1.data.toList = if upto (isC 63) (past isE L4.data.toList) = [] then [47] else upto (isC 63) (past isE L4.data.toList)) (hpa : pa.data.toList = cleanP pa1.data.toList) (hq : q.data.toList = past (isC 63) (past isE L4.data.toList)) (hn : chk (uM false sc ho pr pa q) = 50) (w : World) (hmx : MaxIn w) (ht : TabIn w) : Calls Tryd.prog 16 #[.string s] w fun e w' => e = .returned (.tuple #[uV false ⟨#[]⟩ ⟨#[]⟩ 0 ⟨#[]⟩ ⟨#[]⟩, .int .i64 50]) ∧ Below w.heap.size w w' := by
  obtain ⟨hLs, T1, C1, C2⟩ := pre_texts s hs L hL
  obtain ⟨L2, hL2⟩ := text_of (past (isC 58) L.data.toList)
  have z2 := upto_length (isC 58) L.data.toList
  rw [lsize, h58, List.length_cons, lsize] at z2
  have zsc : sc.size ≤ L.size := by
    rw [← lsize sc, hsc, low_length, ← lsize L]
    have := upto_length (isC 58) L.data.toList
    omega
  have C3 := fun B w a => cutScheme_any L sc L2 L3 true hsc hL2 (by rw [hL2, h58]; rfl) (by rw [hL2, h58]; rfl) (by omega) B w false ⟨#[]⟩ ⟨#[]⟩ 0 ⟨#[]⟩ ⟨#[]⟩ a
  have HC3 := Lib.hid C3
  have CD := default_hid sc d hd
  have zL4 : L4.size ≤ L3.size := by
    rw [← lsize L4, hL4, List.length_drop, lsize]; omega
  have C5 := fun B => skip_any ⟨#[47, 47]⟩ L3 L4 true hsl (by rw [hL4]; rfl) B
  have g1 : ((d : Int) == 0) = false := by rw [beq_eq_false_iff_ne]; omega
  obtain ⟨LF, hLF⟩ := text_of (past isE L4.data.toList)
  have zLF : LF.size ≤ L4.size := by
    rw [← lsize LF, ← lsize L4, hLF]
    have := upto_length isE L4.data.toList
    omega
  have zho : ho.size ≤ L4.size := by
    rw [← lsize ho, hho, low_length, ← lsize L4]
    have e1 := upto_length isE L4.data.toList
    have e2 := upto_length (isC 58) (upto isE L4.data.toList)
    omega
  have HC6 := Lib.hid (fun B w a => cutHost_any L4 LF ho n true hLF hho d sc hd hnum (by omega) B w false ⟨#[]⟩ ⟨#[]⟩ ⟨#[]⟩ a hd0 pr hpr)
  rw [← hLF] at hpa1 hq
  have zq : q.size ≤ LF.size := by
    rw [← lsize q, ← lsize LF, hq]
    have := upto_length (isC 63) LF.data.toList
    omega
  have zpa : pa.size ≤ LF.size + 1 := by
    have e1 := cleanP_length pa1.data.toList
    rw [← hpa, lsize, lsize] at e1
    have e2 : pa1.size ≤ LF.size + 1 := by
      rw [← lsize pa1, hpa1]
      split
      · exact Nat.le_add_left _ _
      · have := upto_length (isC 63) LF.data.toList
        rw [lsize] at this; omega
    omega
  have HC7 := Lib.hid (fun B w hm a hB => cutPath_any LF pa1 pa q hpa1 hpa hq (by omega) B w hm false sc ho pr ⟨#[]⟩ ⟨#[]⟩ a hB)
  have CC := check_hid false sc ho pr pa q 50 hn (by omega) (by omega) (by omega) (by omega)
  clear hL h58 hsc hd hL2 C3 hd0 hsl hL4 hho hnum hLF hpa1 hpa hq hn hpr
  go_enter Tryd.func16, Tryd.ntmps16
  go_wp2_with fail
  have x1 := BX.made w false ⟨#[]⟩ ⟨#[]⟩ 0 ⟨#[]⟩ ⟨#[]⟩
  have m1 := hmx.made (.cells #[.bool false, .string ⟨#[]⟩, .string ⟨#[]⟩, .int .i64 0, .string ⟨#[]⟩, .string ⟨#[]⟩] 28)
  have t1 := ht.made (.cells #[.bool false, .string ⟨#[]⟩, .string ⟨#[]⟩, .int .i64 0, .string ⟨#[]⟩, .string ⟨#[]⟩] 28)
  have B1 : Below w.heap.size w (w.alloc (.cells #[.bool false, .string ⟨#[]⟩, .string ⟨#[]⟩, .int .i64 0, .string ⟨#[]⟩, .string ⟨#[]⟩] 28)) := (Below.refl _ _).alloc (Nat.le_refl _) _
  generalize hR : w.heap.size = R at x1 B1 ⊢
  have HR := Lib.hid hR
  clear hR
  generalize w.alloc (.cells #[.bool false, .string ⟨#[]⟩, .string ⟨#[]⟩, .int .i64 0, .string ⟨#[]⟩, .string ⟨#[]⟩] 28) = w1 at x1 B1 m1 t1 ⊢
  refine wp_scope_jumps 0 (fun a' w' => (∃ (u4 u5 u6 u7 u8 u9 u10 u11 u12 u13 u14 u15 u16 u17 u18 u19 u20 u21 u22 u23 u24 u25 u26 u27 u28 u29 u30 u31 u32 u33 u34 u35 u36 u37 u38 u39 u40 : Value), a' = { tmps := #[.string s, undef, .pointer (some ⟨R, 0, none⟩), .int .i64 0, u4, u5, u6, u7, u8, u9, u10, u11, u12, u13, u14, u15, u16, u17, u18, u19, u20, u21, u22, u23, u24, u25, u26, u27, u28, u29, u30, u31, u32, u33, u34, u35, u36, u37, u38, u39, u40], defers := [] }) ∧ BX w' R false ⟨#[]⟩ ⟨#[]⟩ 0 ⟨#[]⟩ ⟨#[]⟩ ∧ Below R w w') (fun _ _ => 0) rfl ?_ ?_
  case refine_2 =>
    rintro a' w5 ⟨⟨u4, u5, u6, u7, u8, u9, u10, u11, u12, u13, u14, u15, u16, u17, u18, u19, u20, u21, u22, u23, u24, u25, u26, u27, u28, u29, u30, u31, u32, u33, u34, u35, u36, u37, u38, u39, u40, rfl⟩, x5, y5⟩
    clear x1 m1 t1 B1
    have r0 := x5.c0
    have f0 := open_of x5 0
    have r1 := x5.c1
    have f1 := open_of x5 1
    have r2 := x5.c2
    have f2 := open_of x5 2
    have r3 := x5.c3
    have f3 := open_of x5 3
    have r4 := x5.c4
    have f4 := open_of x5 4
    have r5 := x5.c5
    have f5 := open_of x5 5
    have xz := BX.store x5 false ⟨#[]⟩ ⟨#[]⟩ 0 ⟨#[]⟩ ⟨#[]⟩
    have yz := stU_below y5 false ⟨#[]⟩ ⟨#[]⟩ 0 ⟨#[]⟩ ⟨#[]⟩
    go_wp2
    clear r0 f0 r1 f1 r2 f2 r3 f3 r4 f4 r5 f5
    unfold stU at xz yz
    generalize (((((w5.setCell ⟨R, 0, none⟩ (.bool false)).setCell ⟨R, 1, none⟩ (.string ⟨#[]⟩)).setCell ⟨R, 2, none⟩ (.string ⟨#[]⟩)).setCell ⟨R, 3, none⟩ (.int .i64 0)).setCell ⟨R, 4, none⟩ (.string ⟨#[]⟩)).setCell ⟨R, 5, none⟩ (.string ⟨#[]⟩) = wz at xz yz ⊢
    have c0 := xz.c0
    have c1 := xz.c1
    have c2 := xz.c2
    have c3 := xz.c3
    have c4 := xz.c4
    have c5 := xz.c5
    simp only [Exit.jump]
    exact bodyPost_ret (v := .tuple #[uV false ⟨#[]⟩ ⟨#[]⟩ 0 ⟨#[]⟩ ⟨#[]⟩, .int .i64 50]) (by simp [results, Tryd.results16, go_sem, uV, c0, c1, c2, c3, c4, c5]) rfl ⟨rfl, by rw [HR.out]; exact yz⟩
  go_wp2_with fail
  refine (C1.out _).mono ?_
  rintro e w2 ⟨rfl, b2⟩
  have x2 := x1.below b2
  have m2 := m1.below b2
  have t2 := t1.below b2
  have B2 := B1.trans (b2.mono (Nat.le_of_lt x1.lt))
  clear b2 x1 m1 t1 B1
  go_wp2_with fail
  refine (C2.out _ m2).mono ?_
  rintro e w3 ⟨⟨ca, cb, rfl⟩, n3, rfl⟩
  have x3 : BX (w2.drewN n3) R false ⟨#[]⟩ ⟨#[]⟩ 0 ⟨#[]⟩ ⟨#[]⟩ := x2
  have m3 : MaxIn (w2.drewN n3) := m2
  have t3 : TabIn (w2.drewN n3) := t2
  have B3 := belowN B2 n3
  generalize w2.drewN n3 = w3 at x3 m3 t3 B3 ⊢
  clear x2 m2 t2 B2
  go_wp2_with fail
  have a4 : AT (w3.alloc (.cells #[.string L, .bool false, .string ⟨#[]⟩, .string ⟨#[]⟩, .int .i64 0, .string ⟨#[]⟩, .string ⟨#[]⟩] 48)) w3.heap.size L false ⟨#[]⟩ ⟨#[]⟩ 0 ⟨#[]⟩ ⟨#[]⟩ := new_block w3 _
  have K4 : Below w3.heap.size w3 (w3.alloc (.cells #[.string L, .bool false, .string ⟨#[]⟩, .string ⟨#[]⟩, .int .i64 0, .string ⟨#[]⟩, .string ⟨#[]⟩] 48)) := (Below.refl _ _).alloc (Nat.le_refl _) _
  have HB : Hid (∀ w', Below w3.heap.size w3 w' → MaxIn w' ∧ TabIn w' ∧ BX w' R false ⟨#[]⟩ ⟨#[]⟩ 0 ⟨#[]⟩ ⟨#[]⟩ ∧ Below R w w') := Lib.hid fun w' b => ⟨m3.below b, t3.below b, x3.below b, B3.trans (b.mono (Nat.le_of_lt x3.lt))⟩
  have hg : 0 < w3.heap.size := by obtain ⟨_, hm9⟩ := m3; exact lt_of_cell hm9
  clear x3 m3 t3 B3
  generalize w3.heap.size = B at a4 K4 HB hg ⊢
  generalize w3.alloc (.cells #[.string L, .bool false, .string ⟨#[]⟩, .string ⟨#[]⟩, .int .i64 0, .string ⟨#[]⟩, .string ⟨#[]⟩] 48) = w4 at a4 K4 ⊢
  refine (HC3.out B w4 a4).mono ?_
  rintro e w5 ⟨rfl, a5, b5⟩
  have K5 := K4.trans b5
  clear a4 K4 b5
  have s5 := a5.c2
  go_wp2_with fail
  refine (CD.out _).mono ?_
  rintro e w5 ⟨rfl, rfl⟩
  clear s5
  go_wp2_with fail
  refine ((C5 B).out _ a5.c0 (a5.free 0)).mono ?_
  rintro e w6 ⟨rfl, rfl⟩
  have a6 := a5.set0 L4
  have K6 := K5.setCell (p := ⟨B, 0, none⟩) (Nat.le_refl _) (.string L4)
  generalize w5.setCell ⟨B, 0, none⟩ (.string L4) = w6 at a6 K6 ⊢
  clear a5 K5
  go_wp2_with fail
  refine (HC6.out B w6 a6).mono ?_
  rintro e w7 ⟨rfl, a7, b7⟩
  have K7 := K6.trans b7
  clear a6 K6 b7
  obtain ⟨m7, t7, x7, y7⟩ := HB.out _ K7
  go_wp2_with fail
  refine (HC7.out B w7 m7 a7 hg).mono ?_
  rintro e w8 ⟨rfl, a8, b8⟩
  have K8 := K7.trans b8
  clear a7 K7 b8 m7 t7 x7 y7
  obtain ⟨m8, t8, x8, y8⟩ := HB.out _ K8
  have k1 := a8.c1
  have k2 := a8.c2
  have k3 := a8.c3
  have k4 := a8.c4
  have k5 := a8.c5
  have k6 := a8.c6
  go_wp2_with fail
  refine (CC.out _ m8 t8).mono ?_
  rintro e w9 ⟨rfl, b9⟩
  have a9 := a8.below b9
  have K9 := K8.trans (b9.mono (Nat.le_of_lt a8.lt))
  obtain ⟨m9, t9, x9, y9⟩ := HB.out _ K9
  clear k1 k2 k3 k4 k5 k6 m8 t8 x8 y8 b9 K8 a8 HB m9 t9
  go_wp2_with fail
  go_step3
  exact ⟨rfl, ⟨_, _, _, _, _, _, _, _, _, _, _, _, _, _, _, _, _, _, _, _, _, _, _, _, _, _, _, _, _, _, _, _, _, _, _, _, _, rfl⟩, x9, y9⟩


end Go.Proofs.YtlkpdepdflcbcaaDoor
