/- The law FeedLimits. -/
import Derived.Laws.OwnMore
import Derived.Test.YtfbhpmafjehojaaGreatDoorLawFA
namespace Go.Proofs.YtfbhpmafjehojaaGreatDoor.U1
open Go.RowKit

def zs (n : Nat) : List UInt8 := List.replicate n 0
theorem zs_len (n : Nat) : ((zs n).length : Int) = (n : Int) := by simp [zs]
theorem zs_len2 (n k : Nat) : ((zs n ++ zs k).length : Int) = (n : Int) + (k : Int) := by rw [List.length_append]; simp [zs]
theorem zs_in {w : World} {base n : Nat} {v : Value} (h : w.ownsRow base 5 1 v n (List.replicate n (Value.int .u8 0))) : BytesIn w v (zs n) := by
  apply BytesIn.of_row (base := base)
  have e : Lib.byteCells (zs n) = List.replicate n (Value.int .u8 0) := by simp [zs, Lib.byteCells]
  rw [e, show (zs n).length = n by simp [zs]]
  exact h
/-- Zeros made. -/
theorem made_zs (w : World) (n : Nat) (hn : n ≤ 30000) : ∃ w', (Instr.makeSlice 22 (.int .i64 (n : Int)) (.int .i64 (n : Int))).run Tryz.prog w = .ok (.slice (some ⟨w.heap.size, 0, none⟩) n n) w' ∧ BytesIn w' (.slice (some ⟨w.heap.size, 0, none⟩) n n) (zs n) ∧ Below w.heap.size w w' := by
  obtain ⟨i0, hi, hz0, hz1, hz2⟩ := info_parts Tinfo5
  obtain ⟨w', h1, h2, h3⟩ := run_make_full (P := Tryz.prog) w w.heap.size 22 5 i0 _ 1 Tryz.underlying22 hi hz0 hz1 .i64 .i64 n (by rw [hz2]; omega) (by unfold maxLen; omega) (Nat.le_refl _)
  rw [show (Value.int .u8 0).cells = #[Value.int .u8 0] from rfl, Nat.mul_one, toList_madeCells_one] at h2
  exact ⟨w', h1, zs_in h2, Below.grown (Below.refl _ _) h3 (Nat.le_refl _) (fun j hj => by cases hj)⟩

set_option maxRecDepth 100000 in
set_option maxHeartbeats 8000000 in
theorem limits_tt (p q : Nat) (w : World) (hw : Lw w) (hp : p ≤ 30000) (hq : q ≤ 30000) (h1 : p ≤ 20000) (h2 : p + q ≤ 20000) :
    Calls Tryz.prog 5 #[.int .i64 (p : Int), .int .i64 (q : Int)] w fun e w' => e = .returned (.bool true) ∧ Below w.heap.size w w' := by
  have z1 : ¬ (p : Int) < 0 := by omega
  have z2 : ¬ (30000 : Int) < (p : Int) := by omega
  have z3 : ¬ (q : Int) < 0 := by omega
  have z4 : ¬ (30000 : Int) < (q : Int) := by omega
  have z5 : (p : Int) ≤ 20000 := by omega
  have z6 : (p : Int) + (q : Int) ≤ 20000 := by omega
  have z7 : decide ((p : Int) ≤ 20000) = true := by simp; omega
  have z8 : decide ((p : Int) + (q : Int) ≤ 20000) = true := by simp; omega
  have zp : (zs p).length = p := by simp [zs]
  have zq : (zs q).length = q := by simp [zs]
  have CL := feeds_hid w hw
  have CN := newF_hid
  have CF := feedF_hid
  have CX := feedX_hid
  have CC := count_hid
  have HW : Hid (∀ w', Below w.heap.size w w' → Lw w') := Lib.hid fun w' b => hw.below b
  have HZ := Lib.hid (And.intro (And.intro zp zq) (And.intro h1 h2))
  clear hw h1 h2 zp zq
  go_enter Tryz.func5, Tryz.ntmps5
  go_wp2_with fail
  (with_reducible refine (CN.out _).mono ?_)
  rintro e w1 ⟨rfl, p1, p2⟩
  obtain ⟨R, hR⟩ : ∃ R, R = w.heap.size := ⟨_, rfl⟩
  rw [← hR] at p1
  rw [← hR]
  obtain ⟨w2, hmk, i2, b2⟩ := made_zs w1 p hp
  have H2 := Lib.hid (And.intro (p1.below b2) (And.intro (p2.trans (b2.mono p2.size)) (And.intro (show w.heap.size ≤ R by omega) i2)))
  clear p1 p2 hR CN i2 b2
  go_wp2_with fail
  (refine (CF.out _ R [] (zs p) _ H2.out.1 H2.out.2.2.2 (by rw [List.length_nil, HZ.out.1.1]; have := HZ.out.2.1; omega) (HW.out _ H2.out.2.1).2).mono ?_)
  rintro e w3 ⟨rfl, k3, f3⟩
  have H3 : Hid (FdAt w3 R (zs p) ∧ Below w.heap.size w w3 ∧ w.heap.size ≤ R) := Lib.hid (And.intro f3 (And.intro (kpR_below k3 H2.out.2.2.1 H2.out.1.lt H2.out.2.1) H2.out.2.2.1))
  clear k3 f3 H2 hmk
  go_wp2_with fail
  (refine (CC.out _ R _ H3.out.1).mono ?_)
  rintro e w4 ⟨rfl, rfl⟩
  rw [zs_len]
  obtain ⟨w5, hmk, i5, b5⟩ := made_zs w4 q hq
  have H5 := Lib.hid (And.intro (H3.out.1.below b5) (And.intro (H3.out.2.1.trans (b5.mono H3.out.2.1.size)) (And.intro H3.out.2.2 i5)))
  clear i5 b5 H3
  go_wp2_with fail
  (refine (CF.out _ R (zs p) (zs q) _ H5.out.1 H5.out.2.2.2 (by rw [HZ.out.1.2]; rw [HZ.out.1.1]; have := HZ.out.2.2; omega) (HW.out _ H5.out.2.1).2).mono ?_)
  rintro e w6 ⟨rfl, k6, f6⟩
  have H6 : Hid (FdAt w6 R (zs p ++ zs q) ∧ Below w.heap.size w w6 ∧ w.heap.size ≤ R) := Lib.hid (And.intro f6 (And.intro (kpR_below k6 H5.out.2.2.1 H5.out.1.lt H5.out.2.1) H5.out.2.2.1))
  clear k6 f6 H5 hmk
  go_wp2_with fail
  (refine (CL.out _ H6.out.2.1).mono ?_)
  rintro e w7 ⟨rfl, b7⟩
  have H7 := Lib.hid (And.intro (H6.out.1.below b7) (H6.out.2.1.trans (b7.mono H6.out.2.1.size)))
  clear b7 H6 CL
  go_wp2_with fail
  (refine (CC.out _ R _ H7.out.1).mono ?_)
  rintro e w8 ⟨rfl, rfl⟩
  rw [zs_len2]
  go_wp2
  go_ret
  exact ⟨rfl, H7.out.2⟩

set_option maxRecDepth 100000 in
set_option maxHeartbeats 8000000 in
theorem limits_tf (p q : Nat) (w : World) (hw : Lw w) (hp : p ≤ 30000) (hq : q ≤ 30000) (h1 : p ≤ 20000) (h2 : 20000 < p + q) :
    Calls Tryz.prog 5 #[.int .i64 (p : Int), .int .i64 (q : Int)] w fun e w' => e = .returned (.bool true) ∧ Below w.heap.size w w' := by
  have z1 : ¬ (p : Int) < 0 := by omega
  have z2 : ¬ (30000 : Int) < (p : Int) := by omega
  have z3 : ¬ (q : Int) < 0 := by omega
  have z4 : ¬ (30000 : Int) < (q : Int) := by omega
  have z5 : (p : Int) ≤ 20000 := by omega
  have z6 : ¬ (p : Int) + (q : Int) ≤ 20000 := by omega
  have z7 : decide ((p : Int) ≤ 20000) = true := by simp; omega
  have z8 : decide ((p : Int) + (q : Int) ≤ 20000) = false := by simp; omega
  have zp : (zs p).length = p := by simp [zs]
  have zq : (zs q).length = q := by simp [zs]
  have CL := feeds_hid w hw
  have CN := newF_hid
  have CF := feedF_hid
  have CX := feedX_hid
  have CC := count_hid
  have HW : Hid (∀ w', Below w.heap.size w w' → Lw w') := Lib.hid fun w' b => hw.below b
  have HZ := Lib.hid (And.intro (And.intro zp zq) (And.intro h1 h2))
  clear hw h1 h2 zp zq
  go_enter Tryz.func5, Tryz.ntmps5
  go_wp2_with fail
  (with_reducible refine (CN.out _).mono ?_)
  rintro e w1 ⟨rfl, p1, p2⟩
  obtain ⟨R, hR⟩ : ∃ R, R = w.heap.size := ⟨_, rfl⟩
  rw [← hR] at p1
  rw [← hR]
  obtain ⟨w2, hmk, i2, b2⟩ := made_zs w1 p hp
  have H2 := Lib.hid (And.intro (p1.below b2) (And.intro (p2.trans (b2.mono p2.size)) (And.intro (show w.heap.size ≤ R by omega) i2)))
  clear p1 p2 hR CN i2 b2
  go_wp2_with fail
  (refine (CF.out _ R [] (zs p) _ H2.out.1 H2.out.2.2.2 (by rw [List.length_nil, HZ.out.1.1]; have := HZ.out.2.1; omega) (HW.out _ H2.out.2.1).2).mono ?_)
  rintro e w3 ⟨rfl, k3, f3⟩
  have H3 : Hid (FdAt w3 R (zs p) ∧ Below w.heap.size w w3 ∧ w.heap.size ≤ R) := Lib.hid (And.intro f3 (And.intro (kpR_below k3 H2.out.2.2.1 H2.out.1.lt H2.out.2.1) H2.out.2.2.1))
  clear k3 f3 H2 hmk
  go_wp2_with fail
  (refine (CC.out _ R _ H3.out.1).mono ?_)
  rintro e w4 ⟨rfl, rfl⟩
  rw [zs_len]
  obtain ⟨w5, hmk, i5, b5⟩ := made_zs w4 q hq
  have H5 := Lib.hid (And.intro (H3.out.1.below b5) (And.intro (H3.out.2.1.trans (b5.mono H3.out.2.1.size)) (And.intro H3.out.2.2 i5)))
  clear i5 b5 H3
  go_wp2_with fail
  (refine (CX.out _ R (zs p) (zs q) _ H5.out.1 H5.out.2.2.2 (by rw [HZ.out.1.2]; rw [HZ.out.1.1]; have := HZ.out.2.2; omega) (by rw [HZ.out.1.1]; exact HZ.out.2.1)).mono ?_)
  rintro e w6 ⟨rfl, rfl⟩
  have H6 : Hid (FdAt w6 R (zs p) ∧ Below w.heap.size w w6 ∧ w.heap.size ≤ R) := Lib.hid (And.intro H5.out.1 (And.intro H5.out.2.1 H5.out.2.2.1))
  clear H5 hmk
  go_wp2_with fail
  (refine (CL.out _ H6.out.2.1).mono ?_)
  rintro e w7 ⟨rfl, b7⟩
  have H7 := Lib.hid (And.intro (H6.out.1.below b7) (H6.out.2.1.trans (b7.mono H6.out.2.1.size)))
  clear b7 H6 CL
  go_wp2_with fail
  (refine (CC.out _ R _ H7.out.1).mono ?_)
  rintro e w8 ⟨rfl, rfl⟩
  rw [zs_len]
  go_wp2
  go_ret
  exact ⟨rfl, H7.out.2⟩

set_option maxRecDepth 100000 in
set_option maxHeartbeats 8000000 in
theorem limits_ft (p q : Nat) (w : World) (hw : Lw w) (hp : p ≤ 30000) (hq : q ≤ 30000) (h1 : 20000 < p) (h2 : q ≤ 20000) :
    Calls Tryz.prog 5 #[.int .i64 (p : Int), .int .i64 (q : Int)] w fun e w' => e = .returned (.bool true) ∧ Below w.heap.size w w' := by
  have z1 : ¬ (p : Int) < 0 := by omega
  have z2 : ¬ (30000 : Int) < (p : Int) := by omega
  have z3 : ¬ (q : Int) < 0 := by omega
  have z4 : ¬ (30000 : Int) < (q : Int) := by omega
  have z5 : ¬ (p : Int) ≤ 20000 := by omega
  have z6 : (q : Int) ≤ 20000 := by omega
  have z7 : decide ((p : Int) ≤ 20000) = false := by simp; omega
  have z8 : decide ((q : Int) ≤ 20000) = true := by simp; omega
  have zp : (zs p).length = p := by simp [zs]
  have zq : (zs q).length = q := by simp [zs]
  have CL := feeds_hid w hw
  have CN := newF_hid
  have CF := feedF_hid
  have CX := feedX_hid
  have CC := count_hid
  have HW : Hid (∀ w', Below w.heap.size w w' → Lw w') := Lib.hid fun w' b => hw.below b
  have HZ := Lib.hid (And.intro (And.intro zp zq) (And.intro h1 h2))
  clear hw h1 h2 zp zq
  go_enter Tryz.func5, Tryz.ntmps5
  go_wp2_with fail
  (with_reducible refine (CN.out _).mono ?_)
  rintro e w1 ⟨rfl, p1, p2⟩
  obtain ⟨R, hR⟩ : ∃ R, R = w.heap.size := ⟨_, rfl⟩
  rw [← hR] at p1
  rw [← hR]
  obtain ⟨w2, hmk, i2, b2⟩ := made_zs w1 p hp
  have H2 := Lib.hid (And.intro (p1.below b2) (And.intro (p2.trans (b2.mono p2.size)) (And.intro (show w.heap.size ≤ R by omega) i2)))
  clear p1 p2 hR CN i2 b2
  go_wp2_with fail
  (refine (CX.out _ R [] (zs p) _ H2.out.1 H2.out.2.2.2 (by rw [List.length_nil, HZ.out.1.1]; have := HZ.out.2.1; omega) (Nat.zero_le _)).mono ?_)
  rintro e w3 ⟨rfl, rfl⟩
  have H3 : Hid (FdAt w3 R [] ∧ Below w.heap.size w w3 ∧ w.heap.size ≤ R) := Lib.hid (And.intro H2.out.1 (And.intro H2.out.2.1 H2.out.2.2.1))
  clear H2 hmk
  go_wp2_with fail
  (refine (CC.out _ R _ H3.out.1).mono ?_)
  rintro e w4 ⟨rfl, rfl⟩
  rw [show ((([] : List UInt8).length : Nat) : Int) = 0 from rfl]
  obtain ⟨w5, hmk, i5, b5⟩ := made_zs w4 q hq
  have H5 := Lib.hid (And.intro (H3.out.1.below b5) (And.intro (H3.out.2.1.trans (b5.mono H3.out.2.1.size)) (And.intro H3.out.2.2 i5)))
  clear i5 b5 H3
  go_wp2_with fail
  (refine (CF.out _ R ([]) (zs q) _ H5.out.1 H5.out.2.2.2 (by rw [HZ.out.1.2]; rw [List.length_nil]; have := HZ.out.2.2; omega) (HW.out _ H5.out.2.1).2).mono ?_)
  rintro e w6 ⟨rfl, k6, f6⟩
  have H6 : Hid (FdAt w6 R ([] ++ zs q) ∧ Below w.heap.size w w6 ∧ w.heap.size ≤ R) := Lib.hid (And.intro f6 (And.intro (kpR_below k6 H5.out.2.2.1 H5.out.1.lt H5.out.2.1) H5.out.2.2.1))
  clear k6 f6 H5 hmk
  go_wp2_with fail
  (refine (CL.out _ H6.out.2.1).mono ?_)
  rintro e w7 ⟨rfl, b7⟩
  have H7 := Lib.hid (And.intro (H6.out.1.below b7) (H6.out.2.1.trans (b7.mono H6.out.2.1.size)))
  clear b7 H6 CL
  go_wp2_with fail
  (refine (CC.out _ R _ H7.out.1).mono ?_)
  rintro e w8 ⟨rfl, rfl⟩
  rw [show ((([] ++ zs q : List UInt8).length : Nat) : Int) = (q : Int) from zs_len q]
  go_wp2
  go_ret
  exact ⟨rfl, H7.out.2⟩

set_option maxRecDepth 100000 in
set_option maxHeartbeats 8000000 in
theorem limits_ff (p q : Nat) (w : World) (hw : Lw w) (hp : p ≤ 30000) (hq : q ≤ 30000) (h1 : 20000 < p) (h2 : 20000 < q) :
    Calls Tryz.prog 5 #[.int .i64 (p : Int), .int .i64 (q : Int)] w fun e w' => e = .returned (.bool true) ∧ Below w.heap.size w w' := by
  have z1 : ¬ (p : Int) < 0 := by omega
  have z2 : ¬ (30000 : Int) < (p : Int) := by omega
  have z3 : ¬ (q : Int) < 0 := by omega
  have z4 : ¬ (30000 : Int) < (q : Int) := by omega
  have z5 : ¬ (p : Int) ≤ 20000 := by omega
  have z6 : ¬ (q : Int) ≤ 20000 := by omega
  have z7 : decide ((p : Int) ≤ 20000) = false := by simp; omega
  have z8 : decide ((q : Int) ≤ 20000) = false := by simp; omega
  have zp : (zs p).length = p := by simp [zs]
  have zq : (zs q).length = q := by simp [zs]
  have CL := feeds_hid w hw
  have CN := newF_hid
  have CF := feedF_hid
  have CX := feedX_hid
  have CC := count_hid
  have HW : Hid (∀ w', Below w.heap.size w w' → Lw w') := Lib.hid fun w' b => hw.below b
  have HZ := Lib.hid (And.intro (And.intro zp zq) (And.intro h1 h2))
  clear hw h1 h2 zp zq
  go_enter Tryz.func5, Tryz.ntmps5
  go_wp2_with fail
  (with_reducible refine (CN.out _).mono ?_)
  rintro e w1 ⟨rfl, p1, p2⟩
  obtain ⟨R, hR⟩ : ∃ R, R = w.heap.size := ⟨_, rfl⟩
  rw [← hR] at p1
  rw [← hR]
  obtain ⟨w2, hmk, i2, b2⟩ := made_zs w1 p hp
  have H2 := Lib.hid (And.intro (p1.below b2) (And.intro (p2.trans (b2.mono p2.size)) (And.intro (show w.heap.size ≤ R by omega) i2)))
  clear p1 p2 hR CN i2 b2
  go_wp2_with fail
  (refine (CX.out _ R [] (zs p) _ H2.out.1 H2.out.2.2.2 (by rw [List.length_nil, HZ.out.1.1]; have := HZ.out.2.1; omega) (Nat.zero_le _)).mono ?_)
  rintro e w3 ⟨rfl, rfl⟩
  have H3 : Hid (FdAt w3 R [] ∧ Below w.heap.size w w3 ∧ w.heap.size ≤ R) := Lib.hid (And.intro H2.out.1 (And.intro H2.out.2.1 H2.out.2.2.1))
  clear H2 hmk
  go_wp2_with fail
  (refine (CC.out _ R _ H3.out.1).mono ?_)
  rintro e w4 ⟨rfl, rfl⟩
  rw [show ((([] : List UInt8).length : Nat) : Int) = 0 from rfl]
  obtain ⟨w5, hmk, i5, b5⟩ := made_zs w4 q hq
  have H5 := Lib.hid (And.intro (H3.out.1.below b5) (And.intro (H3.out.2.1.trans (b5.mono H3.out.2.1.size)) (And.intro H3.out.2.2 i5)))
  clear i5 b5 H3
  go_wp2_with fail
  (refine (CX.out _ R ([]) (zs q) _ H5.out.1 H5.out.2.2.2 (by rw [HZ.out.1.2]; rw [List.length_nil]; have := HZ.out.2.2; omega) (Nat.zero_le _)).mono ?_)
  rintro e w6 ⟨rfl, rfl⟩
  have H6 : Hid (FdAt w6 R ([]) ∧ Below w.heap.size w w6 ∧ w.heap.size ≤ R) := Lib.hid (And.intro H5.out.1 (And.intro H5.out.2.1 H5.out.2.2.1))
  clear H5 hmk
  go_wp2_with fail
  (refine (CL.out _ H6.out.2.1).mono ?_)
  rintro e w7 ⟨rfl, b7⟩
  have H7 := Lib.hid (And.intro (H6.out.1.below b7) (H6.out.2.1.trans (b7.mono H6.out.2.1.size)))
  clear b7 H6 CL
  go_wp2_with fail
  (refine (CC.out _ R _ H7.out.1).mono ?_)
  rintro e w8 ⟨rfl, rfl⟩
  rw [show ((([] : List UInt8).length : Nat) : Int) = 0 from rfl]
  go_wp2
  go_ret
  exact ⟨rfl, H7.out.2⟩

set_option maxRecDepth 100000 in
set_option maxHeartbeats 4000000 in
theorem limits_law (x y : Int) (w : World) (hw : Lw w) :
    Calls Tryz.prog 5 #[.int .i64 x, .int .i64 y] w fun e w' => e = .returned (.bool true) ∧ Below w.heap.size w w' := by
  by_cases h : (0 ≤ x ∧ x ≤ 30000) ∧ 0 ≤ y ∧ y ≤ 30000
  · obtain ⟨p, rfl⟩ : ∃ p : Nat, x = (p : Int) := ⟨x.toNat, by omega⟩
    obtain ⟨q, rfl⟩ : ∃ q : Nat, y = (q : Int) := ⟨y.toNat, by omega⟩
    have hp : p ≤ 30000 := by omega
    have hq : q ≤ 30000 := by omega
    by_cases h1 : p ≤ 20000
    · by_cases h2 : p + q ≤ 20000
      · exact limits_tt p q w hw hp hq h1 h2
      · exact limits_tf p q w hw hp hq h1 (by omega)
    · by_cases h2 : q ≤ 20000
      · exact limits_ft p q w hw hp hq (by omega) h2
      · exact limits_ff p q w hw hp hq (by omega) (by omega)
  · clear hw
    by_cases a1 : x < 0
    · clear h
      go_enter Tryz.func5, Tryz.ntmps5
      go_wp2
      go_ret
      exact ⟨rfl, Below.refl _ _⟩
    · by_cases a2 : 30000 < x
      · clear h
        go_enter Tryz.func5, Tryz.ntmps5
        go_wp2
        go_ret
        exact ⟨rfl, Below.refl _ _⟩
      · by_cases a3 : y < 0
        · clear h
          go_enter Tryz.func5, Tryz.ntmps5
          go_wp2
          go_ret
          exact ⟨rfl, Below.refl _ _⟩
        · have a4 : 30000 < y := by omega
          clear h
          go_enter Tryz.func5, Tryz.ntmps5
          go_wp2
          go_ret
          exact ⟨rfl, Below.refl _ _⟩

end Go.Proofs.YtfbhpmafjehojaaGreatDoor.U1
