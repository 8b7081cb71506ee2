/- The document's rows, which every law asks first: words. -/
import Derived.Test.YtmfejcmhbncchaaGreatDoorSrcN
import Derived.Test.YtmfejcmhbncchaaGreatDoorRefBig
import Derived.Test.YtmfejcmhbncchaaGreatDoorSrcEq
namespace Go.Proofs.YtmfejcmhbncchaaGreatDoor
open Go.RowKit

set_option maxRecDepth 100000 in
set_option maxHeartbeats 8000000 in
theorem words_any (w : World) (hw : Low w) : Calls Tryz.prog 11 #[] w fun e w' => e = .returned (.bool true) ∧ Below w.heap.size w w' := by
  have C0 := parseS_is ⟨#[39, 83, 69, 76, 70, 39]⟩ (by decide) 2 ⟨#[]⟩ ⟨#[]⟩ ⟨#[]⟩ false 0 ⟨#[]⟩ (by decide +kernel)
  have C1 := parseS_is ⟨#[39, 110, 111, 110, 99, 101, 45, 97, 66, 49, 61, 39]⟩ (by decide) 9 ⟨#[97, 66, 49, 61]⟩ ⟨#[]⟩ ⟨#[]⟩ false 0 ⟨#[]⟩ (by decide +kernel)
  have C2 := parseS_is ⟨#[72, 84, 84, 80, 83, 58, 47, 47, 42, 46, 65, 46, 98, 58, 42, 47, 120]⟩ (by decide) 12 ⟨#[]⟩ ⟨#[104, 116, 116, 112, 115]⟩ ⟨#[97, 46, 98]⟩ true (-1) ⟨#[47, 120]⟩ (by decide +kernel)
  have C3 := parseS_is ⟨#[42]⟩ (by decide) 12 ⟨#[]⟩ ⟨#[]⟩ ⟨#[]⟩ true 0 ⟨#[]⟩ (by decide +kernel)
  have C4 := parseS_is ⟨#[97, 58, 48, 56, 48]⟩ (by decide) 12 ⟨#[]⟩ ⟨#[]⟩ ⟨#[97]⟩ false 80 ⟨#[]⟩ (by decide +kernel)
  have C5 := parseS_not ⟨#[39, 120, 39]⟩ (by decide) (by decide +kernel)
  have C6 := parseS_not ⟨#[97, 46, 46, 98]⟩ (by decide) (by decide +kernel)
  have C7 := parseS_not ⟨#[104, 116, 116, 112, 115, 58, 47, 47]⟩ (by decide) (by decide +kernel)
  have CP := printL_hid 12 ⟨#[]⟩ ⟨#[104, 116, 116, 112, 115]⟩ ⟨#[97, 46, 98]⟩ true (-1) ⟨#[47, 120]⟩ (by decide) (by decide) (by decide) (by decide) true (by decide +kernel) ⟨#[104, 116, 116, 112, 115, 58, 47, 47, 42, 46, 97, 46, 98, 58, 42, 47, 120]⟩ (by decide +kernel)
  have CL : Hid (∀ W v, Low W → TextsIn W v [[120, 32, 121], [104, 116, 116, 112, 115, 58], []] → Calls Tryz.prog 17 #[v] W fun e w' => (∃ a c, e = .returned (.slice a 1 c)) ∧ Below W.heap.size W w') := Lib.hid fun W v h1 h2 =>
    (listP_any [[120, 32, 121], [104, 116, 116, 112, 115, 58], []] v (by decide) (by decide) W h1 h2).mono fun e w' ⟨u, he, hr, hb⟩ => by
      obtain ⟨a, c, rfl⟩ := (SrcsIn.of_row hr).form
      have e1 : (listS [[120, 32, 121], [104, 116, 116, 112, 115, 58], []]).length = 1 := by decide +kernel
      rw [e1] at he
      exact ⟨⟨a, c, he⟩, hb⟩
  unfold srcV at *
  go_enter Tryz.func11, Tryz.ntmps11
  go_wp2_with fail
  refine (C0.out _ hw).mono ?_
  rintro e w1 ⟨rfl, b_⟩
  have gw1 := hw.below b_
  have Bw1 := b_
  clear b_ hw
  go_wp2_with fail
  have xn := SX.made w1 2 ⟨#[]⟩ ⟨#[]⟩ ⟨#[]⟩ false 0 ⟨#[]⟩
  have gw2 := gw1.made (.cells #[.int .i64 2, .string ⟨#[]⟩, .string ⟨#[]⟩, .string ⟨#[]⟩, .bool false, .int .i64 0, .string ⟨#[]⟩] 24)
  have Bw2 := Bw1.trans (((Below.refl w1.heap.size w1).alloc (Nat.le_refl _) (.cells #[.int .i64 2, .string ⟨#[]⟩, .string ⟨#[]⟩, .string ⟨#[]⟩, .bool false, .int .i64 0, .string ⟨#[]⟩] 24)).mono Bw1.size)
  generalize w1.heap.size = Ra at xn ⊢
  generalize w1.alloc (.cells #[.int .i64 2, .string ⟨#[]⟩, .string ⟨#[]⟩, .string ⟨#[]⟩, .bool false, .int .i64 0, .string ⟨#[]⟩] 24) = w2 at xn gw2 Bw2  ⊢
  have xRa_w2 := xn
  clear xn gw1 Bw1
  refine (C1.out _ gw2).mono ?_
  rintro e w3 ⟨rfl, b_⟩
  have gw3 := gw2.below b_
  have Bw3 := Bw2.trans (b_.mono Bw2.size)
  have xRa_w3 := xRa_w2.below b_
  clear b_ gw2 Bw2 xRa_w2
  go_wp2_with fail
  have xn := SX.made w3 9 ⟨#[97, 66, 49, 61]⟩ ⟨#[]⟩ ⟨#[]⟩ false 0 ⟨#[]⟩
  have gw4 := gw3.made (.cells #[.int .i64 9, .string ⟨#[97, 66, 49, 61]⟩, .string ⟨#[]⟩, .string ⟨#[]⟩, .bool false, .int .i64 0, .string ⟨#[]⟩] 24)
  have Bw4 := Bw3.trans (((Below.refl w3.heap.size w3).alloc (Nat.le_refl _) (.cells #[.int .i64 9, .string ⟨#[97, 66, 49, 61]⟩, .string ⟨#[]⟩, .string ⟨#[]⟩, .bool false, .int .i64 0, .string ⟨#[]⟩] 24)).mono Bw3.size)
  have xRa_w4 := xRa_w3.below ((Below.refl w3.heap.size w3).alloc (Nat.le_refl _) (.cells #[.int .i64 9, .string ⟨#[97, 66, 49, 61]⟩, .string ⟨#[]⟩, .string ⟨#[]⟩, .bool false, .int .i64 0, .string ⟨#[]⟩] 24))
  generalize w3.heap.size = Rb at xn ⊢
  generalize w3.alloc (.cells #[.int .i64 9, .string ⟨#[97, 66, 49, 61]⟩, .string ⟨#[]⟩, .string ⟨#[]⟩, .bool false, .int .i64 0, .string ⟨#[]⟩] 24) = w4 at xn gw4 Bw4 xRa_w4 ⊢
  have xRb_w4 := xn
  clear xn gw3 Bw3 xRa_w3
  refine (C2.out _ gw4).mono ?_
  rintro e w5 ⟨rfl, b_⟩
  have gw5 := gw4.below b_
  have Bw5 := Bw4.trans (b_.mono Bw4.size)
  have xRa_w5 := xRa_w4.below b_
  have xRb_w5 := xRb_w4.below b_
  clear b_ gw4 Bw4 xRa_w4 xRb_w4
  go_wp2_with fail
  have xn := SX.made w5 12 ⟨#[]⟩ ⟨#[104, 116, 116, 112, 115]⟩ ⟨#[97, 46, 98]⟩ true (-1) ⟨#[47, 120]⟩
  have gw6 := gw5.made (.cells #[.int .i64 12, .string ⟨#[]⟩, .string ⟨#[104, 116, 116, 112, 115]⟩, .string ⟨#[97, 46, 98]⟩, .bool true, .int .i64 (-1), .string ⟨#[47, 120]⟩] 24)
  have Bw6 := Bw5.trans (((Below.refl w5.heap.size w5).alloc (Nat.le_refl _) (.cells #[.int .i64 12, .string ⟨#[]⟩, .string ⟨#[104, 116, 116, 112, 115]⟩, .string ⟨#[97, 46, 98]⟩, .bool true, .int .i64 (-1), .string ⟨#[47, 120]⟩] 24)).mono Bw5.size)
  have xRa_w6 := xRa_w5.below ((Below.refl w5.heap.size w5).alloc (Nat.le_refl _) (.cells #[.int .i64 12, .string ⟨#[]⟩, .string ⟨#[104, 116, 116, 112, 115]⟩, .string ⟨#[97, 46, 98]⟩, .bool true, .int .i64 (-1), .string ⟨#[47, 120]⟩] 24))
  have xRb_w6 := xRb_w5.below ((Below.refl w5.heap.size w5).alloc (Nat.le_refl _) (.cells #[.int .i64 12, .string ⟨#[]⟩, .string ⟨#[104, 116, 116, 112, 115]⟩, .string ⟨#[97, 46, 98]⟩, .bool true, .int .i64 (-1), .string ⟨#[47, 120]⟩] 24))
  generalize w5.heap.size = Rc at xn ⊢
  generalize w5.alloc (.cells #[.int .i64 12, .string ⟨#[]⟩, .string ⟨#[104, 116, 116, 112, 115]⟩, .string ⟨#[97, 46, 98]⟩, .bool true, .int .i64 (-1), .string ⟨#[47, 120]⟩] 24) = w6 at xn gw6 Bw6 xRa_w6 xRb_w6 ⊢
  have xRc_w6 := xn
  clear xn gw5 Bw5 xRa_w5 xRb_w5
  refine (C3.out _ gw6).mono ?_
  rintro e w7 ⟨rfl, b_⟩
  have gw7 := gw6.below b_
  have Bw7 := Bw6.trans (b_.mono Bw6.size)
  have xRa_w7 := xRa_w6.below b_
  have xRb_w7 := xRb_w6.below b_
  have xRc_w7 := xRc_w6.below b_
  clear b_ gw6 Bw6 xRa_w6 xRb_w6 xRc_w6
  go_wp2_with fail
  have xn := SX.made w7 12 ⟨#[]⟩ ⟨#[]⟩ ⟨#[]⟩ true 0 ⟨#[]⟩
  have gw8 := gw7.made (.cells #[.int .i64 12, .string ⟨#[]⟩, .string ⟨#[]⟩, .string ⟨#[]⟩, .bool true, .int .i64 0, .string ⟨#[]⟩] 24)
  have Bw8 := Bw7.trans (((Below.refl w7.heap.size w7).alloc (Nat.le_refl _) (.cells #[.int .i64 12, .string ⟨#[]⟩, .string ⟨#[]⟩, .string ⟨#[]⟩, .bool true, .int .i64 0, .string ⟨#[]⟩] 24)).mono Bw7.size)
  have xRa_w8 := xRa_w7.below ((Below.refl w7.heap.size w7).alloc (Nat.le_refl _) (.cells #[.int .i64 12, .string ⟨#[]⟩, .string ⟨#[]⟩, .string ⟨#[]⟩, .bool true, .int .i64 0, .string ⟨#[]⟩] 24))
  have xRb_w8 := xRb_w7.below ((Below.refl w7.heap.size w7).alloc (Nat.le_refl _) (.cells #[.int .i64 12, .string ⟨#[]⟩, .string ⟨#[]⟩, .string ⟨#[]⟩, .bool true, .int .i64 0, .string ⟨#[]⟩] 24))
  have xRc_w8 := xRc_w7.below ((Below.refl w7.heap.size w7).alloc (Nat.le_refl _) (.cells #[.int .i64 12, .string ⟨#[]⟩, .string ⟨#[]⟩, .string ⟨#[]⟩, .bool true, .int .i64 0, .string ⟨#[]⟩] 24))
  generalize w7.heap.size = Rd at xn ⊢
  generalize w7.alloc (.cells #[.int .i64 12, .string ⟨#[]⟩, .string ⟨#[]⟩, .string ⟨#[]⟩, .bool true, .int .i64 0, .string ⟨#[]⟩] 24) = w8 at xn gw8 Bw8 xRa_w8 xRb_w8 xRc_w8 ⊢
  have xRd_w8 := xn
  clear xn gw7 Bw7 xRa_w7 xRb_w7 xRc_w7
  refine (C4.out _ gw8).mono ?_
  rintro e w9 ⟨rfl, b_⟩
  have gw9 := gw8.below b_
  have Bw9 := Bw8.trans (b_.mono Bw8.size)
  have xRa_w9 := xRa_w8.below b_
  have xRb_w9 := xRb_w8.below b_
  have xRc_w9 := xRc_w8.below b_
  have xRd_w9 := xRd_w8.below b_
  clear b_ gw8 Bw8 xRa_w8 xRb_w8 xRc_w8 xRd_w8
  go_wp2_with fail
  have xn := SX.made w9 12 ⟨#[]⟩ ⟨#[]⟩ ⟨#[97]⟩ false 80 ⟨#[]⟩
  have gw10 := gw9.made (.cells #[.int .i64 12, .string ⟨#[]⟩, .string ⟨#[]⟩, .string ⟨#[97]⟩, .bool false, .int .i64 80, .string ⟨#[]⟩] 24)
  have Bw10 := Bw9.trans (((Below.refl w9.heap.size w9).alloc (Nat.le_refl _) (.cells #[.int .i64 12, .string ⟨#[]⟩, .string ⟨#[]⟩, .string ⟨#[97]⟩, .bool false, .int .i64 80, .string ⟨#[]⟩] 24)).mono Bw9.size)
  have xRa_w10 := xRa_w9.below ((Below.refl w9.heap.size w9).alloc (Nat.le_refl _) (.cells #[.int .i64 12, .string ⟨#[]⟩, .string ⟨#[]⟩, .string ⟨#[97]⟩, .bool false, .int .i64 80, .string ⟨#[]⟩] 24))
  have xRb_w10 := xRb_w9.below ((Below.refl w9.heap.size w9).alloc (Nat.le_refl _) (.cells #[.int .i64 12, .string ⟨#[]⟩, .string ⟨#[]⟩, .string ⟨#[97]⟩, .bool false, .int .i64 80, .string ⟨#[]⟩] 24))
  have xRc_w10 := xRc_w9.below ((Below.refl w9.heap.size w9).alloc (Nat.le_refl _) (.cells #[.int .i64 12, .string ⟨#[]⟩, .string ⟨#[]⟩, .string ⟨#[97]⟩, .bool false, .int .i64 80, .string ⟨#[]⟩] 24))
  have xRd_w10 := xRd_w9.below ((Below.refl w9.heap.size w9).alloc (Nat.le_refl _) (.cells #[.int .i64 12, .string ⟨#[]⟩, .string ⟨#[]⟩, .string ⟨#[97]⟩, .bool false, .int .i64 80, .string ⟨#[]⟩] 24))
  generalize w9.heap.size = Rp at xn ⊢
  generalize w9.alloc (.cells #[.int .i64 12, .string ⟨#[]⟩, .string ⟨#[]⟩, .string ⟨#[97]⟩, .bool false, .int .i64 80, .string ⟨#[]⟩] 24) = w10 at xn gw10 Bw10 xRa_w10 xRb_w10 xRc_w10 xRd_w10 ⊢
  have xRp_w10 := xn
  clear xn gw9 Bw9 xRa_w9 xRb_w9 xRc_w9 xRd_w9
  refine (C5.out _ gw10).mono ?_
  rintro e w11 ⟨rfl, b_⟩
  have gw11 := gw10.below b_
  have Bw11 := Bw10.trans (b_.mono Bw10.size)
  have xRa_w11 := xRa_w10.below b_
  have xRb_w11 := xRb_w10.below b_
  have xRc_w11 := xRc_w10.below b_
  have xRd_w11 := xRd_w10.below b_
  have xRp_w11 := xRp_w10.below b_
  clear b_ gw10 Bw10 xRa_w10 xRb_w10 xRc_w10 xRd_w10 xRp_w10
  go_wp2_with fail
  have xn := SX.made w11 0 ⟨#[]⟩ ⟨#[]⟩ ⟨#[]⟩ false 0 ⟨#[]⟩
  have gw12 := gw11.made (.cells #[.int .i64 0, .string ⟨#[]⟩, .string ⟨#[]⟩, .string ⟨#[]⟩, .bool false, .int .i64 0, .string ⟨#[]⟩] 24)
  have Bw12 := Bw11.trans (((Below.refl w11.heap.size w11).alloc (Nat.le_refl _) (.cells #[.int .i64 0, .string ⟨#[]⟩, .string ⟨#[]⟩, .string ⟨#[]⟩, .bool false, .int .i64 0, .string ⟨#[]⟩] 24)).mono Bw11.size)
  have xRa_w12 := xRa_w11.below ((Below.refl w11.heap.size w11).alloc (Nat.le_refl _) (.cells #[.int .i64 0, .string ⟨#[]⟩, .string ⟨#[]⟩, .string ⟨#[]⟩, .bool false, .int .i64 0, .string ⟨#[]⟩] 24))
  have xRb_w12 := xRb_w11.below ((Below.refl w11.heap.size w11).alloc (Nat.le_refl _) (.cells #[.int .i64 0, .string ⟨#[]⟩, .string ⟨#[]⟩, .string ⟨#[]⟩, .bool false, .int .i64 0, .string ⟨#[]⟩] 24))
  have xRc_w12 := xRc_w11.below ((Below.refl w11.heap.size w11).alloc (Nat.le_refl _) (.cells #[.int .i64 0, .string ⟨#[]⟩, .string ⟨#[]⟩, .string ⟨#[]⟩, .bool false, .int .i64 0, .string ⟨#[]⟩] 24))
  have xRd_w12 := xRd_w11.below ((Below.refl w11.heap.size w11).alloc (Nat.le_refl _) (.cells #[.int .i64 0, .string ⟨#[]⟩, .string ⟨#[]⟩, .string ⟨#[]⟩, .bool false, .int .i64 0, .string ⟨#[]⟩] 24))
  have xRp_w12 := xRp_w11.below ((Below.refl w11.heap.size w11).alloc (Nat.le_refl _) (.cells #[.int .i64 0, .string ⟨#[]⟩, .string ⟨#[]⟩, .string ⟨#[]⟩, .bool false, .int .i64 0, .string ⟨#[]⟩] 24))
  generalize w11.heap.size = Rj at xn ⊢
  generalize w11.alloc (.cells #[.int .i64 0, .string ⟨#[]⟩, .string ⟨#[]⟩, .string ⟨#[]⟩, .bool false, .int .i64 0, .string ⟨#[]⟩] 24) = w12 at xn gw12 Bw12 xRa_w12 xRb_w12 xRc_w12 xRd_w12 xRp_w12 ⊢
  have xRj_w12 := xn
  clear xn gw11 Bw11 xRa_w11 xRb_w11 xRc_w11 xRd_w11 xRp_w11
  clear xRj_w12
  refine (C6.out _ gw12).mono ?_
  rintro e w13 ⟨rfl, b_⟩
  have gw13 := gw12.below b_
  have Bw13 := Bw12.trans (b_.mono Bw12.size)
  have xRa_w13 := xRa_w12.below b_
  have xRb_w13 := xRb_w12.below b_
  have xRc_w13 := xRc_w12.below b_
  have xRd_w13 := xRd_w12.below b_
  have xRp_w13 := xRp_w12.below b_
  clear b_ gw12 Bw12 xRa_w12 xRb_w12 xRc_w12 xRd_w12 xRp_w12
  go_wp2_with fail
  have xn := SX.made w13 0 ⟨#[]⟩ ⟨#[]⟩ ⟨#[]⟩ false 0 ⟨#[]⟩
  have gw14 := gw13.made (.cells #[.int .i64 0, .string ⟨#[]⟩, .string ⟨#[]⟩, .string ⟨#[]⟩, .bool false, .int .i64 0, .string ⟨#[]⟩] 24)
  have Bw14 := Bw13.trans (((Below.refl w13.heap.size w13).alloc (Nat.le_refl _) (.cells #[.int .i64 0, .string ⟨#[]⟩, .string ⟨#[]⟩, .string ⟨#[]⟩, .bool false, .int .i64 0, .string ⟨#[]⟩] 24)).mono Bw13.size)
  have xRa_w14 := xRa_w13.below ((Below.refl w13.heap.size w13).alloc (Nat.le_refl _) (.cells #[.int .i64 0, .string ⟨#[]⟩, .string ⟨#[]⟩, .string ⟨#[]⟩, .bool false, .int .i64 0, .string ⟨#[]⟩] 24))
  have xRb_w14 := xRb_w13.below ((Below.refl w13.heap.size w13).alloc (Nat.le_refl _) (.cells #[.int .i64 0, .string ⟨#[]⟩, .string ⟨#[]⟩, .string ⟨#[]⟩, .bool false, .int .i64 0, .string ⟨#[]⟩] 24))
  have xRc_w14 := xRc_w13.below ((Below.refl w13.heap.size w13).alloc (Nat.le_refl _) (.cells #[.int .i64 0, .string ⟨#[]⟩, .string ⟨#[]⟩, .string ⟨#[]⟩, .bool false, .int .i64 0, .string ⟨#[]⟩] 24))
  have xRd_w14 := xRd_w13.below ((Below.refl w13.heap.size w13).alloc (Nat.le_refl _) (.cells #[.int .i64 0, .string ⟨#[]⟩, .string ⟨#[]⟩, .string ⟨#[]⟩, .bool false, .int .i64 0, .string ⟨#[]⟩] 24))
  have xRp_w14 := xRp_w13.below ((Below.refl w13.heap.size w13).alloc (Nat.le_refl _) (.cells #[.int .i64 0, .string ⟨#[]⟩, .string ⟨#[]⟩, .string ⟨#[]⟩, .bool false, .int .i64 0, .string ⟨#[]⟩] 24))
  generalize w13.heap.size = Rk at xn ⊢
  generalize w13.alloc (.cells #[.int .i64 0, .string ⟨#[]⟩, .string ⟨#[]⟩, .string ⟨#[]⟩, .bool false, .int .i64 0, .string ⟨#[]⟩] 24) = w14 at xn gw14 Bw14 xRa_w14 xRb_w14 xRc_w14 xRd_w14 xRp_w14 ⊢
  have xRk_w14 := xn
  clear xn gw13 Bw13 xRa_w13 xRb_w13 xRc_w13 xRd_w13 xRp_w13
  clear xRk_w14
  refine (C7.out _ gw14).mono ?_
  rintro e w15 ⟨rfl, b_⟩
  have gw15 := gw14.below b_
  have Bw15 := Bw14.trans (b_.mono Bw14.size)
  have xRa_w15 := xRa_w14.below b_
  have xRb_w15 := xRb_w14.below b_
  have xRc_w15 := xRc_w14.below b_
  have xRd_w15 := xRd_w14.below b_
  have xRp_w15 := xRp_w14.below b_
  clear b_ gw14 Bw14 xRa_w14 xRb_w14 xRc_w14 xRd_w14 xRp_w14
  have al := ((Below.refl w15.heap.size w15).alloc (Nat.le_refl _) (.cells #[.int .i64 0, .string ⟨#[]⟩, .string ⟨#[]⟩, .string ⟨#[]⟩, .bool false, .int .i64 0, .string ⟨#[]⟩] 24))
  have q0 := (xRc_w15.below al).c0
  have q1 := (xRc_w15.below al).c1
  have q2 := (xRc_w15.below al).c2
  have q3 := (xRc_w15.below al).c3
  have q4 := (xRc_w15.below al).c4
  have q5 := (xRc_w15.below al).c5
  have q6 := (xRc_w15.below al).c6
  go_wp2_with fail
  clear q0 q1 q2 q3 q4 q5 q6 al
  have xn := SX.made w15 0 ⟨#[]⟩ ⟨#[]⟩ ⟨#[]⟩ false 0 ⟨#[]⟩
  have gw16 := gw15.made (.cells #[.int .i64 0, .string ⟨#[]⟩, .string ⟨#[]⟩, .string ⟨#[]⟩, .bool false, .int .i64 0, .string ⟨#[]⟩] 24)
  have Bw16 := Bw15.trans (((Below.refl w15.heap.size w15).alloc (Nat.le_refl _) (.cells #[.int .i64 0, .string ⟨#[]⟩, .string ⟨#[]⟩, .string ⟨#[]⟩, .bool false, .int .i64 0, .string ⟨#[]⟩] 24)).mono Bw15.size)
  have xRa_w16 := xRa_w15.below ((Below.refl w15.heap.size w15).alloc (Nat.le_refl _) (.cells #[.int .i64 0, .string ⟨#[]⟩, .string ⟨#[]⟩, .string ⟨#[]⟩, .bool false, .int .i64 0, .string ⟨#[]⟩] 24))
  have xRb_w16 := xRb_w15.below ((Below.refl w15.heap.size w15).alloc (Nat.le_refl _) (.cells #[.int .i64 0, .string ⟨#[]⟩, .string ⟨#[]⟩, .string ⟨#[]⟩, .bool false, .int .i64 0, .string ⟨#[]⟩] 24))
  have xRc_w16 := xRc_w15.below ((Below.refl w15.heap.size w15).alloc (Nat.le_refl _) (.cells #[.int .i64 0, .string ⟨#[]⟩, .string ⟨#[]⟩, .string ⟨#[]⟩, .bool false, .int .i64 0, .string ⟨#[]⟩] 24))
  have xRd_w16 := xRd_w15.below ((Below.refl w15.heap.size w15).alloc (Nat.le_refl _) (.cells #[.int .i64 0, .string ⟨#[]⟩, .string ⟨#[]⟩, .string ⟨#[]⟩, .bool false, .int .i64 0, .string ⟨#[]⟩] 24))
  have xRp_w16 := xRp_w15.below ((Below.refl w15.heap.size w15).alloc (Nat.le_refl _) (.cells #[.int .i64 0, .string ⟨#[]⟩, .string ⟨#[]⟩, .string ⟨#[]⟩, .bool false, .int .i64 0, .string ⟨#[]⟩] 24))
  generalize w15.heap.size = Rl at xn ⊢
  generalize w15.alloc (.cells #[.int .i64 0, .string ⟨#[]⟩, .string ⟨#[]⟩, .string ⟨#[]⟩, .bool false, .int .i64 0, .string ⟨#[]⟩] 24) = w16 at xn gw16 Bw16 xRa_w16 xRb_w16 xRc_w16 xRd_w16 xRp_w16 ⊢
  have xRl_w16 := xn
  clear xn gw15 Bw15 xRa_w15 xRb_w15 xRc_w15 xRd_w15 xRp_w15
  clear xRl_w16
  refine (CP.out _ gw16).mono ?_
  rintro e w17 ⟨rfl, b_⟩
  have gw17 := gw16.below b_
  have Bw17 := Bw16.trans (b_.mono Bw16.size)
  have xRa_w17 := xRa_w16.below b_
  have xRb_w17 := xRb_w16.below b_
  have xRc_w17 := xRc_w16.below b_
  have xRd_w17 := xRd_w16.below b_
  have xRp_w17 := xRp_w16.below b_
  clear b_ gw16 Bw16 xRa_w16 xRb_w16 xRc_w16 xRd_w16 xRp_w16
  have dRa0 := xRa_w17.c0
  have dRa1 := xRa_w17.c1
  have dRa2 := xRa_w17.c2
  have dRa3 := xRa_w17.c3
  have dRa4 := xRa_w17.c4
  have dRa5 := xRa_w17.c5
  have dRa6 := xRa_w17.c6
  have dRb0 := xRb_w17.c0
  have dRb1 := xRb_w17.c1
  have dRb2 := xRb_w17.c2
  have dRb3 := xRb_w17.c3
  have dRb4 := xRb_w17.c4
  have dRb5 := xRb_w17.c5
  have dRb6 := xRb_w17.c6
  have dRc0 := xRc_w17.c0
  have dRc1 := xRc_w17.c1
  have dRc2 := xRc_w17.c2
  have dRc3 := xRc_w17.c3
  have dRc4 := xRc_w17.c4
  have dRc5 := xRc_w17.c5
  have dRc6 := xRc_w17.c6
  have dRd0 := xRd_w17.c0
  have dRd1 := xRd_w17.c1
  have dRd2 := xRd_w17.c2
  have dRd3 := xRd_w17.c3
  have dRd4 := xRd_w17.c4
  have dRd5 := xRd_w17.c5
  have dRd6 := xRd_w17.c6
  have dRp0 := xRp_w17.c0
  have dRp1 := xRp_w17.c1
  have dRp2 := xRp_w17.c2
  have dRp3 := xRp_w17.c3
  have dRp4 := xRp_w17.c4
  have dRp5 := xRp_w17.c5
  have dRp6 := xRp_w17.c6
  go_wp2_with fail
  clear dRa0 dRa1 dRa2 dRa3 dRa4 dRa5 dRa6 dRb0 dRb1 dRb2 dRb3 dRb4 dRb5 dRb6 dRc0 dRc1 dRc2 dRc3 dRc4 dRc5 dRc6 dRd0 dRd1 dRd2 dRd3 dRd4 dRd5 dRd6 dRp0 dRp1 dRp2 dRp3 dRp4 dRp5 dRp6
  have gz := gw17.made (.cells #[.string ⟨#[120, 32, 121]⟩, .string ⟨#[104, 116, 116, 112, 115, 58]⟩, .string ⟨#[]⟩] 9)
  have tz := textsIn_new w17 [[120, 32, 121], [104, 116, 116, 112, 115, 58], []] _ rfl 3 rfl 3
  have Bz := Bw17.alloc Bw17.size (.cells #[.string ⟨#[120, 32, 121]⟩, .string ⟨#[104, 116, 116, 112, 115, 58]⟩, .string ⟨#[]⟩] 9)
  refine (CL.out _ _ gz tz).mono ?_
  rintro e wz ⟨⟨aL, cL, rfl⟩, bz⟩
  go_wp2
  go_ret
  exact ⟨rfl, Bz.trans (bz.mono Bz.size)⟩
theorem words_hid : Hid (∀ W, Low W → Calls Tryz.prog 11 #[] W fun e w' => e = .returned (.bool true) ∧ Below W.heap.size W w') := Lib.hid fun W hw => words_any W hw

end Go.Proofs.YtmfejcmhbncchaaGreatDoor
