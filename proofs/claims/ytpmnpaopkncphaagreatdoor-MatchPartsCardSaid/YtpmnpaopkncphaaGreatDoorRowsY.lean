/- What every law of match asks first: the document's rows, and whether something is too big to be looked at. -/
import Derived.Test.YtpmnpaopkncphaaGreatDoorRefYB
import Derived.Test.YtpmnpaopkncphaaGreatDoorBigY
import Derived.Test.YtpmnpaopkncphaaGreatDoorClass
namespace Go.Proofs.YtpmnpaopkncphaaGreatDoor
open Go.RowKit

theorem Low.drew {w : World} (h : Low w) : Low w.drew := h.below (Below.refl _ _).drew


set_option maxRecDepth 100000 in
set_option maxHeartbeats 8000000 in
theorem lets_any (A B C : ByteArray) (m r : Bool) (k : Int) (t s h : ByteArray) (wd : Bool) (sp : Int) (pa : ByteArray) (o : Bool) (s2 h2 : ByteArray) (p : Int) (pa2 q2 : ByteArray) (o3 : Bool) (s3 h3 : ByteArray) (p3 : Int) (pa3 q3 : ByteArray) (CS : Hid (∀ W, Low W → Calls Tryz.prog 45 #[.string A] W fun e w' => e = .returned (.tuple #[srcV k t s h wd sp pa, .bool true]) ∧ Below W.heap.size W w')) (CU : Hid (∀ W, Low W → Calls Tryz.prog 46 #[.string B] W fun e w' => e = .returned (.tuple #[uV o s2 h2 p pa2 q2, .int .i64 0]) ∧ Below W.heap.size W w')) (CV : Hid (∀ W, Low W → Calls Tryz.prog 46 #[.string C] W fun e w' => e = .returned (.tuple #[uV o3 s3 h3 p3 pa3 q3, .int .i64 0]) ∧ Below W.heap.size W w')) (CM : Hid (∀ W, Low W → Calls Tryz.prog 20 #[srcV k t s h wd sp pa, uV o s2 h2 p pa2 q2, uV o3 s3 h3 p3 pa3 q3, .bool m] W fun e w' => e = .returned (.bool r) ∧ Below W.heap.size W w')) (w : World) (hw : Low w) : Calls Tryz.prog 27 #[.string A, .string B, .string C, .bool m] w fun e w' => e = .returned (.bool r) ∧ Below w.heap.size w w' := by
  unfold srcV uV at *
  go_enter Tryz.func27, Tryz.ntmps27
  go_wp2_with fail
  refine (CS.out _ hw).mono ?_
  rintro e w1 ⟨rfl, b_⟩
  have gw1 := hw.below b_
  have Bw1 := b_
  clear b_ hw
  go_wp2_with fail
  have xn := SX.made w1 k t s h wd sp pa
  have gw2 := gw1.made (.cells #[.int .i64 k, .string t, .string s, .string h, .bool wd, .int .i64 sp, .string pa] 24)
  have Bw2 := Bw1.trans (((Below.refl w1.heap.size w1).alloc (Nat.le_refl _) (.cells #[.int .i64 k, .string t, .string s, .string h, .bool wd, .int .i64 sp, .string pa] 24)).mono Bw1.size)
  generalize w1.heap.size = Ra at xn ⊢
  generalize w1.alloc (.cells #[.int .i64 k, .string t, .string s, .string h, .bool wd, .int .i64 sp, .string pa] 24) = w2 at xn gw2 Bw2  ⊢
  have xRa_w2 := xn
  clear xn gw1 Bw1
  refine (CU.out _ gw2).mono ?_
  rintro e w3 ⟨rfl, b_⟩
  have gw3 := gw2.below b_
  have Bw3 := Bw2.trans (b_.mono Bw2.size)
  have xRa_w3 := xRa_w2.below b_
  clear b_ gw2 Bw2 xRa_w2
  go_wp2_with fail
  have xn := BX.made w3 o s2 h2 p pa2 q2
  have gw4 := gw3.made (.cells #[.bool o, .string s2, .string h2, .int .i64 p, .string pa2, .string q2] 26)
  have Bw4 := Bw3.trans (((Below.refl w3.heap.size w3).alloc (Nat.le_refl _) (.cells #[.bool o, .string s2, .string h2, .int .i64 p, .string pa2, .string q2] 26)).mono Bw3.size)
  have xRa_w4 := xRa_w3.below ((Below.refl w3.heap.size w3).alloc (Nat.le_refl _) (.cells #[.bool o, .string s2, .string h2, .int .i64 p, .string pa2, .string q2] 26))
  generalize w3.heap.size = Rb at xn ⊢
  generalize w3.alloc (.cells #[.bool o, .string s2, .string h2, .int .i64 p, .string pa2, .string q2] 26) = w4 at xn gw4 Bw4 xRa_w4 ⊢
  have xRb_w4 := xn
  clear xn gw3 Bw3 xRa_w3
  refine (CV.out _ gw4).mono ?_
  rintro e w5 ⟨rfl, b_⟩
  have gw5 := gw4.below b_
  have Bw5 := Bw4.trans (b_.mono Bw4.size)
  have xRa_w5 := xRa_w4.below b_
  have xRb_w5 := xRb_w4.below b_
  clear b_ gw4 Bw4 xRa_w4 xRb_w4
  have al := ((Below.refl w5.heap.size w5).alloc (Nat.le_refl _) (.cells #[.bool o3, .string s3, .string h3, .int .i64 p3, .string pa3, .string q3] 26))
  have q0 := (xRa_w5.below al).c0
  have q1 := (xRa_w5.below al).c1
  have q2 := (xRa_w5.below al).c2
  have q3 := (xRa_w5.below al).c3
  have q4 := (xRa_w5.below al).c4
  have q5 := (xRa_w5.below al).c5
  have q6 := (xRa_w5.below al).c6
  have r0 := (xRb_w5.below al).c0
  have r1 := (xRb_w5.below al).c1
  have r2 := (xRb_w5.below al).c2
  have r3 := (xRb_w5.below al).c3
  have r4 := (xRb_w5.below al).c4
  have r5 := (xRb_w5.below al).c5
  go_wp2_with fail
  clear q0 q1 q2 q3 q4 q5 q6 r0 r1 r2 r3 r4 r5 al
  have xn := BX.made w5 o3 s3 h3 p3 pa3 q3
  have gw6 := gw5.made (.cells #[.bool o3, .string s3, .string h3, .int .i64 p3, .string pa3, .string q3] 26)
  have Bw6 := Bw5.trans (((Below.refl w5.heap.size w5).alloc (Nat.le_refl _) (.cells #[.bool o3, .string s3, .string h3, .int .i64 p3, .string pa3, .string q3] 26)).mono Bw5.size)
  have xRa_w6 := xRa_w5.below ((Below.refl w5.heap.size w5).alloc (Nat.le_refl _) (.cells #[.bool o3, .string s3, .string h3, .int .i64 p3, .string pa3, .string q3] 26))
  have xRb_w6 := xRb_w5.below ((Below.refl w5.heap.size w5).alloc (Nat.le_refl _) (.cells #[.bool o3, .string s3, .string h3, .int .i64 p3, .string pa3, .string q3] 26))
  generalize w5.heap.size = Rc at xn ⊢
  generalize w5.alloc (.cells #[.bool o3, .string s3, .string h3, .int .i64 p3, .string pa3, .string q3] 26) = w6 at xn gw6 Bw6 xRa_w6 xRb_w6 ⊢
  have xRc_w6 := xn
  clear xn gw5 Bw5 xRa_w5 xRb_w5
  refine (CM.out _ gw6).mono ?_
  rintro e w7 ⟨rfl, b_⟩
  have gw7 := gw6.below b_
  have Bw7 := Bw6.trans (b_.mono Bw6.size)
  have xRa_w7 := xRa_w6.below b_
  have xRb_w7 := xRb_w6.below b_
  have xRc_w7 := xRc_w6.below b_
  clear b_ gw6 Bw6 xRa_w6 xRb_w6 xRc_w6
  go_wp2
  go_ret
  exact ⟨rfl, Bw7⟩

/-- A row, by what its texts are. -/
theorem lets_row (A B C : ByteArray) (hA : A.size ≤ 10000) (hB : B.size ≤ 10000) (hC : C.size ≤ 10000) (m r : Bool) (k : Int) (t s h : ByteArray) (wd : Bool) (sp : Int) (pa : ByteArray) (o : Bool) (s2 h2 : ByteArray) (p : Int) (pa2 q2 : ByteArray) (o3 : Bool) (s3 h3 : ByteArray) (p3 : Int) (pa3 q3 : ByteArray) (pA : parseS A.data.toList = some (srcM k t s h wd sp pa)) (pB : parseM B.data.toList = some (uM o s2 h2 p pa2 q2)) (pC : parseM C.data.toList = some (uM o3 s3 h3 p3 pa3 q3)) (z1 : h.size ≤ 100000) (z2 : pa.size ≤ 100000) (u1 : s2.size ≤ 100000) (u2 : h2.size ≤ 100000) (u3 : pa2.size ≤ 100000) (u4 : q2.size ≤ 100000) (v1 : s3.size ≤ 100000) (v2 : h3.size ≤ 100000) (v3 : pa3.size ≤ 100000) (v4 : q3.size ≤ 100000) (hr : urlL (srcM k t s h wd sp pa) (uM o s2 h2 p pa2 q2) (uM o3 s3 h3 p3 pa3 q3) m = r) : Hid (∀ W, Low W → Calls Tryz.prog 27 #[.string A, .string B, .string C, .bool m] W fun e w' => e = .returned (.bool r) ∧ Below W.heap.size W w') := Lib.hid fun W hw =>
  lets_any A B C m r k t s h wd sp pa o s2 h2 p pa2 q2 o3 s3 h3 p3 pa3 q3 (parseS_is A hA k t s h wd sp pa pA) (Lib.hid fun W h => (parse_is B hB o s2 h2 p pa2 q2 pB).out W h.m h.t) (Lib.hid fun W h => (parse_is C hC o3 s3 h3 p3 pa3 q3 pC).out W h.m h.t) (matUrl_hid k t s h wd sp pa o s2 h2 p pa2 q2 o3 s3 h3 p3 pa3 q3 m z1 z2 u1 u2 u3 u4 v1 v2 v3 v4 r hr) W hw

theorem pS10_0 : parseS (⟨#[42, 46, 97, 46, 98]⟩ : ByteArray).data.toList = some (srcM 12 ⟨#[]⟩ ⟨#[]⟩ ⟨#[97, 46, 98]⟩ true 0 ⟨#[]⟩) := by decide +kernel
theorem pS10_1 : parseS (⟨#[97, 47, 120, 47]⟩ : ByteArray).data.toList = some (srcM 12 ⟨#[]⟩ ⟨#[]⟩ ⟨#[97]⟩ false 0 ⟨#[47, 120, 47]⟩) := by decide +kernel
theorem pS10_2 : parseS (⟨#[97, 47, 120]⟩ : ByteArray).data.toList = some (srcM 12 ⟨#[]⟩ ⟨#[]⟩ ⟨#[97]⟩ false 0 ⟨#[47, 120]⟩) := by decide +kernel
theorem pS10_3 : parseS (⟨#[39, 115, 101, 108, 102, 39]⟩ : ByteArray).data.toList = some (srcM 2 ⟨#[]⟩ ⟨#[]⟩ ⟨#[]⟩ false 0 ⟨#[]⟩) := by decide +kernel
theorem pS10_4 : parseS (⟨#[100, 97, 116, 97, 58]⟩ : ByteArray).data.toList = some (srcM 11 ⟨#[]⟩ ⟨#[100, 97, 116, 97]⟩ ⟨#[]⟩ false 0 ⟨#[]⟩) := by decide +kernel
theorem pU10_0 : parseM (⟨#[104, 116, 116, 112, 115, 58, 47, 47, 120, 46, 97, 46, 98, 47, 121]⟩ : ByteArray).data.toList = some (uM false ⟨#[104, 116, 116, 112, 115]⟩ ⟨#[120, 46, 97, 46, 98]⟩ 0 ⟨#[47, 121]⟩ ⟨#[]⟩) := by decide +kernel
theorem pU10_1 : parseM (⟨#[104, 116, 116, 112, 58, 47, 47, 97]⟩ : ByteArray).data.toList = some (uM false ⟨#[104, 116, 116, 112]⟩ ⟨#[97]⟩ 0 ⟨#[47]⟩ ⟨#[]⟩) := by decide +kernel
theorem pU10_2 : parseM (⟨#[104, 116, 116, 112, 115, 58, 47, 47, 97, 46, 98, 47]⟩ : ByteArray).data.toList = some (uM false ⟨#[104, 116, 116, 112, 115]⟩ ⟨#[97, 46, 98]⟩ 0 ⟨#[47]⟩ ⟨#[]⟩) := by decide +kernel
theorem pU10_3 : parseM (⟨#[104, 116, 116, 112, 115, 58, 47, 47, 97]⟩ : ByteArray).data.toList = some (uM false ⟨#[104, 116, 116, 112, 115]⟩ ⟨#[97]⟩ 0 ⟨#[47]⟩ ⟨#[]⟩) := by decide +kernel
theorem pU10_4 : parseM (⟨#[104, 116, 116, 112, 58, 47, 47, 97, 47, 120, 47, 121]⟩ : ByteArray).data.toList = some (uM false ⟨#[104, 116, 116, 112]⟩ ⟨#[97]⟩ 0 ⟨#[47, 120, 47, 121]⟩ ⟨#[]⟩) := by decide +kernel
theorem pU10_5 : parseM (⟨#[104, 116, 116, 112, 58, 47, 47, 98]⟩ : ByteArray).data.toList = some (uM false ⟨#[104, 116, 116, 112]⟩ ⟨#[98]⟩ 0 ⟨#[47]⟩ ⟨#[]⟩) := by decide +kernel
theorem pU10_6 : parseM (⟨#[104, 116, 116, 112, 115, 58, 47, 47, 97, 47]⟩ : ByteArray).data.toList = some (uM false ⟨#[104, 116, 116, 112, 115]⟩ ⟨#[97]⟩ 0 ⟨#[47]⟩ ⟨#[]⟩) := by decide +kernel
theorem pU10_7 : parseM (⟨#[104, 116, 116, 112, 58, 47, 47, 97, 47, 122]⟩ : ByteArray).data.toList = some (uM false ⟨#[104, 116, 116, 112]⟩ ⟨#[97]⟩ 0 ⟨#[47, 122]⟩ ⟨#[]⟩) := by decide +kernel
theorem pU10_8 : parseM (⟨#[104, 116, 116, 112, 58, 47, 47, 97, 47]⟩ : ByteArray).data.toList = some (uM false ⟨#[104, 116, 116, 112]⟩ ⟨#[97]⟩ 0 ⟨#[47]⟩ ⟨#[]⟩) := by decide +kernel
theorem pU10_9 : parseM (⟨#[100, 97, 116, 97, 58, 120]⟩ : ByteArray).data.toList = some (uM true ⟨#[100, 97, 116, 97]⟩ ⟨#[]⟩ 0 ⟨#[120]⟩ ⟨#[]⟩) := by decide +kernel

set_option maxRecDepth 100000 in
set_option maxHeartbeats 8000000 in
theorem matches_any (w : World) (hw : Low w) : Calls Tryz.prog 11 #[] w fun e w' => e = .returned (.bool true) ∧ Below w.heap.size w w' := by
  have L0 := lets_row ⟨#[42, 46, 97, 46, 98]⟩ ⟨#[104, 116, 116, 112, 115, 58, 47, 47, 120, 46, 97, 46, 98, 47, 121]⟩ ⟨#[104, 116, 116, 112, 58, 47, 47, 97]⟩ (by decide) (by decide) (by decide) false true 12 ⟨#[]⟩ ⟨#[]⟩ ⟨#[97, 46, 98]⟩ true 0 ⟨#[]⟩ false ⟨#[104, 116, 116, 112, 115]⟩ ⟨#[120, 46, 97, 46, 98]⟩ 0 ⟨#[47, 121]⟩ ⟨#[]⟩ false ⟨#[104, 116, 116, 112]⟩ ⟨#[97]⟩ 0 ⟨#[47]⟩ ⟨#[]⟩ pS10_0 pU10_0 pU10_1 (by decide) (by decide) (by decide) (by decide) (by decide) (by decide) (by decide) (by decide) (by decide) (by decide) (by decide +kernel)
  have L1 := lets_row ⟨#[42, 46, 97, 46, 98]⟩ ⟨#[104, 116, 116, 112, 115, 58, 47, 47, 97, 46, 98, 47]⟩ ⟨#[104, 116, 116, 112, 115, 58, 47, 47, 97]⟩ (by decide) (by decide) (by decide) false false 12 ⟨#[]⟩ ⟨#[]⟩ ⟨#[97, 46, 98]⟩ true 0 ⟨#[]⟩ false ⟨#[104, 116, 116, 112, 115]⟩ ⟨#[97, 46, 98]⟩ 0 ⟨#[47]⟩ ⟨#[]⟩ false ⟨#[104, 116, 116, 112, 115]⟩ ⟨#[97]⟩ 0 ⟨#[47]⟩ ⟨#[]⟩ pS10_0 pU10_2 pU10_3 (by decide) (by decide) (by decide) (by decide) (by decide) (by decide) (by decide) (by decide) (by decide) (by decide) (by decide +kernel)
  have L2 := lets_row ⟨#[97, 47, 120, 47]⟩ ⟨#[104, 116, 116, 112, 58, 47, 47, 97, 47, 120, 47, 121]⟩ ⟨#[104, 116, 116, 112, 58, 47, 47, 98]⟩ (by decide) (by decide) (by decide) false true 12 ⟨#[]⟩ ⟨#[]⟩ ⟨#[97]⟩ false 0 ⟨#[47, 120, 47]⟩ false ⟨#[104, 116, 116, 112]⟩ ⟨#[97]⟩ 0 ⟨#[47, 120, 47, 121]⟩ ⟨#[]⟩ false ⟨#[104, 116, 116, 112]⟩ ⟨#[98]⟩ 0 ⟨#[47]⟩ ⟨#[]⟩ pS10_1 pU10_4 pU10_5 (by decide) (by decide) (by decide) (by decide) (by decide) (by decide) (by decide) (by decide) (by decide) (by decide) (by decide +kernel)
  have L3 := lets_row ⟨#[97, 47, 120]⟩ ⟨#[104, 116, 116, 112, 58, 47, 47, 97, 47, 120, 47, 121]⟩ ⟨#[104, 116, 116, 112, 58, 47, 47, 98]⟩ (by decide) (by decide) (by decide) false false 12 ⟨#[]⟩ ⟨#[]⟩ ⟨#[97]⟩ false 0 ⟨#[47, 120]⟩ false ⟨#[104, 116, 116, 112]⟩ ⟨#[97]⟩ 0 ⟨#[47, 120, 47, 121]⟩ ⟨#[]⟩ false ⟨#[104, 116, 116, 112]⟩ ⟨#[98]⟩ 0 ⟨#[47]⟩ ⟨#[]⟩ pS10_2 pU10_4 pU10_5 (by decide) (by decide) (by decide) (by decide) (by decide) (by decide) (by decide) (by decide) (by decide) (by decide) (by decide +kernel)
  have L4 := lets_row ⟨#[97, 47, 120]⟩ ⟨#[104, 116, 116, 112, 58, 47, 47, 97, 47, 120, 47, 121]⟩ ⟨#[104, 116, 116, 112, 58, 47, 47, 98]⟩ (by decide) (by decide) (by decide) true true 12 ⟨#[]⟩ ⟨#[]⟩ ⟨#[97]⟩ false 0 ⟨#[47, 120]⟩ false ⟨#[104, 116, 116, 112]⟩ ⟨#[97]⟩ 0 ⟨#[47, 120, 47, 121]⟩ ⟨#[]⟩ false ⟨#[104, 116, 116, 112]⟩ ⟨#[98]⟩ 0 ⟨#[47]⟩ ⟨#[]⟩ pS10_2 pU10_4 pU10_5 (by decide) (by decide) (by decide) (by decide) (by decide) (by decide) (by decide) (by decide) (by decide) (by decide) (by decide +kernel)
  have L5 := lets_row ⟨#[39, 115, 101, 108, 102, 39]⟩ ⟨#[104, 116, 116, 112, 115, 58, 47, 47, 97, 47]⟩ ⟨#[104, 116, 116, 112, 58, 47, 47, 97, 47, 122]⟩ (by decide) (by decide) (by decide) false true 2 ⟨#[]⟩ ⟨#[]⟩ ⟨#[]⟩ false 0 ⟨#[]⟩ false ⟨#[104, 116, 116, 112, 115]⟩ ⟨#[97]⟩ 0 ⟨#[47]⟩ ⟨#[]⟩ false ⟨#[104, 116, 116, 112]⟩ ⟨#[97]⟩ 0 ⟨#[47, 122]⟩ ⟨#[]⟩ pS10_3 pU10_6 pU10_7 (by decide) (by decide) (by decide) (by decide) (by decide) (by decide) (by decide) (by decide) (by decide) (by decide) (by decide +kernel)
  have L6 := lets_row ⟨#[39, 115, 101, 108, 102, 39]⟩ ⟨#[104, 116, 116, 112, 58, 47, 47, 97, 47]⟩ ⟨#[104, 116, 116, 112, 115, 58, 47, 47, 97, 47]⟩ (by decide) (by decide) (by decide) false false 2 ⟨#[]⟩ ⟨#[]⟩ ⟨#[]⟩ false 0 ⟨#[]⟩ false ⟨#[104, 116, 116, 112]⟩ ⟨#[97]⟩ 0 ⟨#[47]⟩ ⟨#[]⟩ false ⟨#[104, 116, 116, 112, 115]⟩ ⟨#[97]⟩ 0 ⟨#[47]⟩ ⟨#[]⟩ pS10_3 pU10_8 pU10_6 (by decide) (by decide) (by decide) (by decide) (by decide) (by decide) (by decide) (by decide) (by decide) (by decide) (by decide +kernel)
  have L7 := lets_row ⟨#[100, 97, 116, 97, 58]⟩ ⟨#[100, 97, 116, 97, 58, 120]⟩ ⟨#[104, 116, 116, 112, 58, 47, 47, 97]⟩ (by decide) (by decide) (by decide) false true 11 ⟨#[]⟩ ⟨#[100, 97, 116, 97]⟩ ⟨#[]⟩ false 0 ⟨#[]⟩ true ⟨#[100, 97, 116, 97]⟩ ⟨#[]⟩ 0 ⟨#[120]⟩ ⟨#[]⟩ false ⟨#[104, 116, 116, 112]⟩ ⟨#[97]⟩ 0 ⟨#[47]⟩ ⟨#[]⟩ pS10_4 pU10_9 pU10_1 (by decide) (by decide) (by decide) (by decide) (by decide) (by decide) (by decide) (by decide) (by decide) (by decide) (by decide +kernel)
  go_enter Tryz.func11, Tryz.ntmps11
  go_wp2_with fail
  refine (L0.out _ hw).mono ?_
  rintro e w1 ⟨rfl, b_⟩
  have gw1 := hw.below b_
  have Bw1 := b_
  clear b_ hw
  go_wp2_with fail
  refine (L1.out _ gw1).mono ?_
  rintro e w2 ⟨rfl, b_⟩
  have gw2 := gw1.below b_
  have Bw2 := Bw1.trans (b_.mono Bw1.size)
  clear b_ gw1 Bw1
  go_wp2_with fail
  refine (L2.out _ gw2).mono ?_
  rintro e w3 ⟨rfl, b_⟩
  have gw3 := gw2.below b_
  have Bw3 := Bw2.trans (b_.mono Bw2.size)
  clear b_ gw2 Bw2
  go_wp2_with fail
  refine (L3.out _ gw3).mono ?_
  rintro e w4 ⟨rfl, b_⟩
  have gw4 := gw3.below b_
  have Bw4 := Bw3.trans (b_.mono Bw3.size)
  clear b_ gw3 Bw3
  go_wp2_with fail
  refine (L4.out _ gw4).mono ?_
  rintro e w5 ⟨rfl, b_⟩
  have gw5 := gw4.below b_
  have Bw5 := Bw4.trans (b_.mono Bw4.size)
  clear b_ gw4 Bw4
  go_wp2_with fail
  refine (L5.out _ gw5).mono ?_
  rintro e w6 ⟨rfl, b_⟩
  have gw6 := gw5.below b_
  have Bw6 := Bw5.trans (b_.mono Bw5.size)
  clear b_ gw5 Bw5
  go_wp2_with fail
  refine (L6.out _ gw6).mono ?_
  rintro e w7 ⟨rfl, b_⟩
  have gw7 := gw6.below b_
  have Bw7 := Bw6.trans (b_.mono Bw6.size)
  clear b_ gw6 Bw6
  go_wp2_with fail
  refine (L7.out _ gw7).mono ?_
  rintro e w8 ⟨rfl, b_⟩
  have gw8 := gw7.below b_
  have Bw8 := Bw7.trans (b_.mono Bw7.size)
  clear b_ gw7 Bw7
  go_wp2
  go_ret
  exact ⟨rfl, Bw8⟩

theorem matches_hid : Hid (∀ W, Low W → Calls Tryz.prog 11 #[] W fun e w' => e = .returned (.bool true) ∧ Below W.heap.size W w') := Lib.hid fun W hw => matches_any W hw

/-- What is not too big. -/
def Fits (t s h pa s2 h2 pa2 q2 s3 h3 pa3 q3 : ByteArray) : Prop := (t.size ≤ 500 ∧ s.size ≤ 500 ∧ h.size ≤ 500 ∧ pa.size ≤ 500) ∧ (s2.size ≤ 2000 ∧ h2.size ≤ 2000 ∧ pa2.size ≤ 2000 ∧ q2.size ≤ 2000) ∧ (s3.size ≤ 2000 ∧ h3.size ≤ 2000 ∧ pa3.size ≤ 2000 ∧ q3.size ≤ 2000)
theorem one_src (w : World) (k : Int) (t s h : ByteArray) (wd : Bool) (sp : Int) (pa : ByteArray) (R : Nat) (hR : R = w.heap.size) : SrcsIn (w.alloc (.cells #[.int .i64 k, .string t, .string s, .string h, .bool wd, .int .i64 sp, .string pa] 24)) (.slice (some ⟨R, 0, none⟩) 1 1) [srcM k t s h wd sp pa] := by
  subst hR
  refine .inr ⟨w.heap.size, 0, 1, rfl, fun i hi j u hu => ?_⟩
  obtain rfl : i = 0 := by simpa using hi
  rw [List.getElem_cons_zero, srcC_M] at hu
  rw [cell_of (new_block w _), ← hu]
  simp


set_option maxRecDepth 100000 in
set_option maxHeartbeats 8000000 in
theorem large_any (k : Int) (t s h : ByteArray) (wd : Bool) (sp : Int) (pa : ByteArray) (o : Bool) (s2 h2 : ByteArray) (p : Int) (pa2 q2 : ByteArray) (o3 : Bool) (s3 h3 : ByteArray) (p3 : Int) (pa3 q3 : ByteArray) (w : World) : Calls Tryz.prog 10 #[srcV k t s h wd sp pa, uV o s2 h2 p pa2 q2, uV o3 s3 h3 p3 pa3 q3] w fun e w' => ∃ b, e = .returned (.bool b) ∧ Below w.heap.size w w' ∧ (b = false → Fits t s h pa s2 h2 pa2 q2 s3 h3 pa3 q3) := by
  obtain ⟨g1, h1⟩ : ∃ b, (decide (2000 < s2.size) || decide (2000 < h2.size) || decide (2000 < pa2.size) || decide (2000 < q2.size)) = b := ⟨_, rfl⟩
  obtain ⟨g2, h2'⟩ : ∃ b, (decide (2000 < s3.size) || decide (2000 < h3.size) || decide (2000 < pa3.size) || decide (2000 < q3.size)) = b := ⟨_, rfl⟩
  have C1 := big_hid o s2 h2 p pa2 q2 g1 h1
  have C2 := big_hid o3 s3 h3 p3 pa3 q3 g2 h2'
  have H1 := Lib.hid h1
  have H2 := Lib.hid h2'
  clear h1 h2'
  unfold srcV uV at *
  go_enter Tryz.func10, Tryz.ntmps10
  go_wp2_with fail
  obtain ⟨x1, x2, x3, BB⟩ := urlBlocks w k t s h wd sp pa o s2 h2 p pa2 q2 o3 s3 h3 p3 pa3 q3
  have hsz : (((w.alloc (.cells #[.int .i64 k, .string t, .string s, .string h, .bool wd, .int .i64 sp, .string pa] 24)).alloc (.cells #[.bool o, .string s2, .string h2, .int .i64 p, .string pa2, .string q2] 26)).alloc (.cells #[.bool o3, .string s3, .string h3, .int .i64 p3, .string pa3, .string q3] 26)).heap.size = w.heap.size + 1 + 1 + 1 := by simp
  generalize hR : w.heap.size = Ra at x1 x2 x3 BB hsz ⊢
  have HR := Lib.hid hR
  clear hR
  generalize ((w.alloc (.cells #[.int .i64 k, .string t, .string s, .string h, .bool wd, .int .i64 sp, .string pa] 24)).alloc (.cells #[.bool o, .string s2, .string h2, .int .i64 p, .string pa2, .string q2] 26)).alloc (.cells #[.bool o3, .string s3, .string h3, .int .i64 p3, .string pa3, .string q3] 26) = w1 at x1 x2 x3 BB hsz ⊢
  have h9 := one_src w1 k t s h wd sp pa (Ra + 1 + 1 + 1) hsz.symm
  have al := ((Below.refl w1.heap.size w1).alloc (Nat.le_refl _) (.cells #[.int .i64 k, .string t, .string s, .string h, .bool wd, .int .i64 sp, .string pa] 24))
  have y2 := x2.below al
  have y3 := x3.below al
  have B2 := BB.trans (al.mono (by omega))
  clear x1 x2 x3 BB al hsz
  generalize w1.alloc (.cells #[.int .i64 k, .string t, .string s, .string h, .bool wd, .int .i64 sp, .string pa] 24) = w2 at y2 y3 B2 h9 ⊢
  refine (refBig9_any _ _ w2 h9 (by show 1 ≤ 9223372036854775807; decide)).mono ?_
  clear h9
  rintro e w2 ⟨b0, rfl, rfl, hb⟩
  have HB := Lib.hid hb
  clear hb
  cases b0
  case true =>
    go_wp2
    go_ret
    exact ⟨true, rfl, by rw [HR.out]; exact B2, fun h => by cases h⟩
  have HS := Lib.hid (HB.out rfl)
  clear HB
  have d0 := y2.c0
  have d1 := y2.c1
  have d2 := y2.c2
  have d3 := y2.c3
  have d4 := y2.c4
  have d5 := y2.c5
  go_wp2_with fail
  clear d0 d1 d2 d3 d4 d5
  refine (C1.out _).mono ?_
  rintro e w3 ⟨rfl, b3⟩
  have z3 := y3.below b3
  have B3 := B2.trans (b3.mono (Nat.le_of_lt (by have := y2.lt; omega)))
  clear y2 y3 B2 b3
  cases g1
  case true =>
    go_wp2
    go_ret
    exact ⟨true, rfl, by rw [HR.out]; exact B3, fun h => by cases h⟩
  have d0 := z3.c0
  have d1 := z3.c1
  have d2 := z3.c2
  have d3 := z3.c3
  have d4 := z3.c4
  have d5 := z3.c5
  go_wp2_with fail
  clear d0 d1 d2 d3 d4 d5
  refine (C2.out _).mono ?_
  rintro e w4 ⟨rfl, b4⟩
  have B4 := B3.trans (b4.mono (Nat.le_of_lt (by have := z3.lt; omega)))
  clear z3 B3 b4
  go_wp2
  go_ret
  refine ⟨g2, rfl, by rw [HR.out]; exact B4, fun h => ?_⟩
  subst h
  have k1 := H1.out
  have k2 := H2.out
  simp only [Bool.or_eq_false_iff, decide_eq_false_iff_not] at k1 k2
  obtain ⟨_, k0⟩ := HS.out
  have k3 := k0 _ (List.mem_singleton.2 rfl)
  unfold SmallS srcM at k3
  simp only [lsize] at k3
  exact ⟨k3, ⟨by omega, by omega, by omega, by omega⟩, ⟨by omega, by omega, by omega, by omega⟩⟩

theorem large_hid (k : Int) (t s h : ByteArray) (wd : Bool) (sp : Int) (pa : ByteArray) (o : Bool) (s2 h2 : ByteArray) (p : Int) (pa2 q2 : ByteArray) (o3 : Bool) (s3 h3 : ByteArray) (p3 : Int) (pa3 q3 : ByteArray) : Hid (∀ W, Calls Tryz.prog 10 #[srcV k t s h wd sp pa, uV o s2 h2 p pa2 q2, uV o3 s3 h3 p3 pa3 q3] W fun e w' => ∃ b, e = .returned (.bool b) ∧ Below W.heap.size W w' ∧ (b = false → Fits t s h pa s2 h2 pa2 q2 s3 h3 pa3 q3)) := Lib.hid fun W => large_any k t s h wd sp pa o s2 h2 p pa2 q2 o3 s3 h3 p3 pa3 q3 W

end Go.Proofs.YtpmnpaopkncphaaGreatDoor
