/- The document's rows: where three addresses come from. -/
import Derived.Test.YtlkpdepdflcbcaaDoorWalkQ
import Derived.Test.YtlkpdepdflcbcaaDoorWalkR
import Derived.BigQuiet
namespace Go.Proofs.YtlkpdepdflcbcaaDoor
open Go.RowKit

/-- A region that draws its order, walked once in the order of the text: every operation yields one value in each world of a class, and a call leaves a world of the class. -/
theorem region_class {P : Program} {id : Nat} {Q : Exit → Act → World → Prop} {a : Act} {w : World} {l : List Oper} (C : World → Prop) (hm : P.follows .mixedOrders = true) (hB : Region.lexB .any l.toArray = true) (hC : C w.drew)
    (h : wpQuiet P l.toArray C (fun a' => ∀ w', C w' → Q .normal a' w') l a) : (Code.region id l.toArray true).wp P Q a w :=
  wp_region_quiet (C := C) hm hB hC (by simpa using h)

theorem rightB : rightM (uM false ⟨#[104, 116, 116, 112, 115]⟩ ⟨#[97, 46, 98]⟩ 444 ⟨#[47]⟩ ⟨#[]⟩) = true := by
  unfold rightM
  have e1 : rankedM (uM false ⟨#[104, 116, 116, 112, 115]⟩ ⟨#[97, 46, 98]⟩ 444 ⟨#[47]⟩ ⟨#[]⟩) = true := by decide +kernel
  have e2 : (textM (uM false ⟨#[104, 116, 116, 112, 115]⟩ ⟨#[97, 46, 98]⟩ 444 ⟨#[47]⟩ ⟨#[]⟩)).length = 16 := by
    unfold textM uM portT
    have e : ((444 : Int)).toNat = 444 := rfl
    simp [e, dec_444]
  rw [e2]
  show (rankedM _ && decide (16 ≤ 500)) = true
  rw [e1]; rfl
theorem rowA : parseM (⟨#[104, 116, 116, 112, 115, 58, 47, 47, 97, 46, 98, 47, 120]⟩ : ByteArray).data.toList = some (uM false ⟨#[104, 116, 116, 112, 115]⟩ ⟨#[97, 46, 98]⟩ 0 ⟨#[47, 120]⟩ ⟨#[]⟩) := by decide +kernel
theorem rowC : parseM (⟨#[100, 97, 116, 97, 58, 120]⟩ : ByteArray).data.toList = some (uM true ⟨#[100, 97, 116, 97]⟩ ⟨#[]⟩ 0 ⟨#[120]⟩ ⟨#[]⟩) := by decide +kernel
theorem rowB : parseM (⟨#[104, 116, 116, 112, 115, 58, 47, 47, 97, 46, 98, 58, 52, 52, 52, 47]⟩ : ByteArray).data.toList = some (uM false ⟨#[104, 116, 116, 112, 115]⟩ ⟨#[97, 46, 98]⟩ 444 ⟨#[47]⟩ ⟨#[]⟩) := by
  unfold parseM
  have e : parseT (upto (isC 35) (trim (⟨#[104, 116, 116, 112, 115, 58, 47, 47, 97, 46, 98, 58, 52, 52, 52, 47]⟩ : ByteArray).data.toList)) = some (uM false ⟨#[104, 116, 116, 112, 115]⟩ ⟨#[97, 46, 98]⟩ 444 ⟨#[47]⟩ ⟨#[]⟩) := by decide +kernel
  rw [e]
  simp [rightB]
theorem orgA : originM (uM false ⟨#[104, 116, 116, 112, 115]⟩ ⟨#[97, 46, 98]⟩ 0 ⟨#[47, 120]⟩ ⟨#[]⟩) = oM false ⟨#[104, 116, 116, 112, 115]⟩ ⟨#[97, 46, 98]⟩ 443 := by decide +kernel
theorem orgB : originM (uM false ⟨#[104, 116, 116, 112, 115]⟩ ⟨#[97, 46, 98]⟩ 444 ⟨#[47]⟩ ⟨#[]⟩) = oM false ⟨#[104, 116, 116, 112, 115]⟩ ⟨#[97, 46, 98]⟩ 444 := by rw [origin_some rightB rfl]; decide +kernel
theorem orgC : originM (uM true ⟨#[100, 97, 116, 97]⟩ ⟨#[]⟩ 0 ⟨#[120]⟩ ⟨#[]⟩) = oM true ⟨#[]⟩ ⟨#[]⟩ 0 := by decide +kernel
theorem otxA : (⟨#[104, 116, 116, 112, 115, 58, 47, 47, 97, 46, 98]⟩ : ByteArray).data.toList = otextM (oM false ⟨#[104, 116, 116, 112, 115]⟩ ⟨#[97, 46, 98]⟩ 443) := by decide +kernel
theorem otxB : (⟨#[104, 116, 116, 112, 115, 58, 47, 47, 97, 46, 98, 58, 52, 52, 52]⟩ : ByteArray).data.toList = otextM (oM false ⟨#[104, 116, 116, 112, 115]⟩ ⟨#[97, 46, 98]⟩ 444) := by
  have e1 : dfl (⟨#[104, 116, 116, 112, 115]⟩ : ByteArray).data.toList = 443 := by decide +kernel
  have e2 : Lib.itoa 444 = [52, 52, 52] := by unfold Lib.itoa; rw [if_neg (by decide)]; exact dec_444
  show _ = (⟨#[104, 116, 116, 112, 115]⟩ : ByteArray).data.toList ++ 58 :: 47 :: 47 :: ((⟨#[97, 46, 98]⟩ : ByteArray).data.toList ++ oportT (⟨#[104, 116, 116, 112, 115]⟩ : ByteArray).data.toList 444)
  unfold oportT
  rw [e1, if_neg (by decide), e2]
  rfl
theorem otxC : (⟨#[110, 117, 108, 108]⟩ : ByteArray).data.toList = otextM (oM true ⟨#[]⟩ ⟨#[]⟩ 0) := by decide +kernel
theorem same_hid (o : Bool) (s h : ByteArray) (p : Int) (o2 : Bool) (s2 h2 : ByteArray) (p2 : Int) (b : Bool) (hb : sameM (oM o s h p) (oM o2 s2 h2 p2) = b) : Hid (∀ W, Calls Tryd.prog 8 #[oV o s h p, oV o2 s2 h2 p2] W fun e w' => e = .returned (.bool b) ∧ Below W.heap.size W w') :=
  Lib.hid fun W => by rw [← hb]; exact same_any o s h p o2 s2 h2 p2 W

set_option maxRecDepth 100000 in
set_option maxHeartbeats 8000000 in
/-- The document's rows. -/
theorem froms_any (w : World) (hm : MaxIn w) (ht : TabIn w) : Calls Tryd.prog 7 #[] w fun e w' => e = .returned (.bool true) ∧ Below w.heap.size w w' := by
  have PA1 := parse_is ⟨#[104, 116, 116, 112, 115, 58, 47, 47, 97, 46, 98, 47, 120]⟩ (by decide) false ⟨#[104, 116, 116, 112, 115]⟩ ⟨#[97, 46, 98]⟩ 0 ⟨#[47, 120]⟩ ⟨#[]⟩ rowA
  have PB1 := parse_is ⟨#[104, 116, 116, 112, 115, 58, 47, 47, 97, 46, 98, 58, 52, 52, 52, 47]⟩ (by decide) false ⟨#[104, 116, 116, 112, 115]⟩ ⟨#[97, 46, 98]⟩ 444 ⟨#[47]⟩ ⟨#[]⟩ rowB
  have PC1 := parse_is ⟨#[100, 97, 116, 97, 58, 120]⟩ (by decide) true ⟨#[100, 97, 116, 97]⟩ ⟨#[]⟩ 0 ⟨#[120]⟩ ⟨#[]⟩ rowC
  have FA := of_hid false ⟨#[104, 116, 116, 112, 115]⟩ ⟨#[97, 46, 98]⟩ 0 ⟨#[47, 120]⟩ ⟨#[]⟩ (by decide) (by decide) (by decide) (by decide) false ⟨#[104, 116, 116, 112, 115]⟩ ⟨#[97, 46, 98]⟩ 443 orgA
  have FB := of_hid false ⟨#[104, 116, 116, 112, 115]⟩ ⟨#[97, 46, 98]⟩ 444 ⟨#[47]⟩ ⟨#[]⟩ (by decide) (by decide) (by decide) (by decide) false ⟨#[104, 116, 116, 112, 115]⟩ ⟨#[97, 46, 98]⟩ 444 orgB
  have FC := of_hid true ⟨#[100, 97, 116, 97]⟩ ⟨#[]⟩ 0 ⟨#[120]⟩ ⟨#[]⟩ (by decide) (by decide) (by decide) (by decide) true ⟨#[]⟩ ⟨#[]⟩ 0 orgC
  have TA := otext_hid false ⟨#[104, 116, 116, 112, 115]⟩ ⟨#[97, 46, 98]⟩ 443 (by decide) (by decide) (by decide) (by decide) ⟨#[104, 116, 116, 112, 115, 58, 47, 47, 97, 46, 98]⟩ otxA
  have TB := otext_hid false ⟨#[104, 116, 116, 112, 115]⟩ ⟨#[97, 46, 98]⟩ 444 (by decide) (by decide) (by decide) (by decide) ⟨#[104, 116, 116, 112, 115, 58, 47, 47, 97, 46, 98, 58, 52, 52, 52]⟩ otxB
  have TC := otext_hid true ⟨#[]⟩ ⟨#[]⟩ 0 (by decide) (by decide) (by decide) (by decide) ⟨#[110, 117, 108, 108]⟩ otxC
  have SAA := same_hid false ⟨#[104, 116, 116, 112, 115]⟩ ⟨#[97, 46, 98]⟩ 443 false ⟨#[104, 116, 116, 112, 115]⟩ ⟨#[97, 46, 98]⟩ 443 true (by decide +kernel)
  have SAB := same_hid false ⟨#[104, 116, 116, 112, 115]⟩ ⟨#[97, 46, 98]⟩ 443 false ⟨#[104, 116, 116, 112, 115]⟩ ⟨#[97, 46, 98]⟩ 444 false (by decide +kernel)
  have SCC := same_hid true ⟨#[]⟩ ⟨#[]⟩ 0 true ⟨#[]⟩ ⟨#[]⟩ 0 false (by decide +kernel)
  have GA := secure_hid false ⟨#[104, 116, 116, 112, 115]⟩ ⟨#[97, 46, 98]⟩ 0 ⟨#[47, 120]⟩ ⟨#[]⟩ true (by decide +kernel) (by decide) (by decide) (by decide) (by decide)
  have GC := secure_hid true ⟨#[100, 97, 116, 97]⟩ ⟨#[]⟩ 0 ⟨#[120]⟩ ⟨#[]⟩ false (by decide +kernel) (by decide) (by decide) (by decide) (by decide)
  unfold PC at PA1 PB1 PC1
  unfold uV oV at *
  go_enter Tryd.func7, Tryd.ntmps7
  go_wp2_with fail
  refine (PA1.out _ hm ht).mono ?_
  rintro e w1 ⟨rfl, b_⟩
  have mw1 := hm.below b_
  have tw1 := ht.below b_
  have Bw1 := b_
  clear b_ hm ht
  go_wp2_with fail
  have xn := BX.made w1 false ⟨#[104, 116, 116, 112, 115]⟩ ⟨#[97, 46, 98]⟩ 0 ⟨#[47, 120]⟩ ⟨#[]⟩
  have mw2 := mw1.made (.cells #[.bool false, .string ⟨#[104, 116, 116, 112, 115]⟩, .string ⟨#[97, 46, 98]⟩, .int .i64 0, .string ⟨#[47, 120]⟩, .string ⟨#[]⟩] 28)
  have tw2 := tw1.made (.cells #[.bool false, .string ⟨#[104, 116, 116, 112, 115]⟩, .string ⟨#[97, 46, 98]⟩, .int .i64 0, .string ⟨#[47, 120]⟩, .string ⟨#[]⟩] 28)
  have Bw2 := Bw1.trans (((Below.refl w1.heap.size w1).alloc (Nat.le_refl _) (.cells #[.bool false, .string ⟨#[104, 116, 116, 112, 115]⟩, .string ⟨#[97, 46, 98]⟩, .int .i64 0, .string ⟨#[47, 120]⟩, .string ⟨#[]⟩] 28)).mono Bw1.size)
  generalize w1.heap.size = Ra at xn ⊢
  generalize w1.alloc (.cells #[.bool false, .string ⟨#[104, 116, 116, 112, 115]⟩, .string ⟨#[97, 46, 98]⟩, .int .i64 0, .string ⟨#[47, 120]⟩, .string ⟨#[]⟩] 28) = w2 at xn mw2 tw2 Bw2  ⊢
  have xRa_w2 := xn
  clear xn mw1 tw1 Bw1
  refine (PB1.out _ mw2 tw2).mono ?_
  rintro e w3 ⟨rfl, b_⟩
  have mw3 := mw2.below b_
  have tw3 := tw2.below b_
  have Bw3 := Bw2.trans (b_.mono (by first | exact Bw2.size | exact Nat.le_of_lt xRa_w2.lt))
  have xRa_w3 := xRa_w2.below b_
  clear b_ mw2 tw2 Bw2 xRa_w2
  go_wp2_with fail
  have xn := BX.made w3 false ⟨#[104, 116, 116, 112, 115]⟩ ⟨#[97, 46, 98]⟩ 444 ⟨#[47]⟩ ⟨#[]⟩
  have mw4 := mw3.made (.cells #[.bool false, .string ⟨#[104, 116, 116, 112, 115]⟩, .string ⟨#[97, 46, 98]⟩, .int .i64 444, .string ⟨#[47]⟩, .string ⟨#[]⟩] 28)
  have tw4 := tw3.made (.cells #[.bool false, .string ⟨#[104, 116, 116, 112, 115]⟩, .string ⟨#[97, 46, 98]⟩, .int .i64 444, .string ⟨#[47]⟩, .string ⟨#[]⟩] 28)
  have Bw4 := Bw3.trans (((Below.refl w3.heap.size w3).alloc (Nat.le_refl _) (.cells #[.bool false, .string ⟨#[104, 116, 116, 112, 115]⟩, .string ⟨#[97, 46, 98]⟩, .int .i64 444, .string ⟨#[47]⟩, .string ⟨#[]⟩] 28)).mono Bw3.size)
  have xRa_w4 := xRa_w3.below ((Below.refl w3.heap.size w3).alloc (Nat.le_refl _) (.cells #[.bool false, .string ⟨#[104, 116, 116, 112, 115]⟩, .string ⟨#[97, 46, 98]⟩, .int .i64 444, .string ⟨#[47]⟩, .string ⟨#[]⟩] 28))
  generalize w3.heap.size = Rb at xn ⊢
  generalize w3.alloc (.cells #[.bool false, .string ⟨#[104, 116, 116, 112, 115]⟩, .string ⟨#[97, 46, 98]⟩, .int .i64 444, .string ⟨#[47]⟩, .string ⟨#[]⟩] 28) = w4 at xn mw4 tw4 Bw4 xRa_w4 ⊢
  have xRb_w4 := xn
  clear xn mw3 tw3 Bw3 xRa_w3
  refine (PC1.out _ mw4 tw4).mono ?_
  rintro e w5 ⟨rfl, b_⟩
  have mw5 := mw4.below b_
  have tw5 := tw4.below b_
  have Bw5 := Bw4.trans (b_.mono (by first | exact Bw4.size | exact Nat.le_of_lt xRa_w4.lt))
  have xRa_w5 := xRa_w4.below b_
  have xRb_w5 := xRb_w4.below b_
  clear b_ mw4 tw4 Bw4 xRa_w4 xRb_w4
  have xq := xRa_w5.below ((Below.refl w5.heap.size w5).alloc (Nat.le_refl _) (.cells #[.bool true, .string ⟨#[100, 97, 116, 97]⟩, .string ⟨#[]⟩, .int .i64 0, .string ⟨#[120]⟩, .string ⟨#[]⟩] 28))
  have dq0 := xq.c0
  have dq1 := xq.c1
  have dq2 := xq.c2
  have dq3 := xq.c3
  have dq4 := xq.c4
  have dq5 := xq.c5
  go_wp2_with fail
  clear xq dq0 dq1 dq2 dq3 dq4 dq5
  have xn := BX.made w5 true ⟨#[100, 97, 116, 97]⟩ ⟨#[]⟩ 0 ⟨#[120]⟩ ⟨#[]⟩
  have mw6 := mw5.made (.cells #[.bool true, .string ⟨#[100, 97, 116, 97]⟩, .string ⟨#[]⟩, .int .i64 0, .string ⟨#[120]⟩, .string ⟨#[]⟩] 28)
  have tw6 := tw5.made (.cells #[.bool true, .string ⟨#[100, 97, 116, 97]⟩, .string ⟨#[]⟩, .int .i64 0, .string ⟨#[120]⟩, .string ⟨#[]⟩] 28)
  have Bw6 := Bw5.trans (((Below.refl w5.heap.size w5).alloc (Nat.le_refl _) (.cells #[.bool true, .string ⟨#[100, 97, 116, 97]⟩, .string ⟨#[]⟩, .int .i64 0, .string ⟨#[120]⟩, .string ⟨#[]⟩] 28)).mono Bw5.size)
  have xRa_w6 := xRa_w5.below ((Below.refl w5.heap.size w5).alloc (Nat.le_refl _) (.cells #[.bool true, .string ⟨#[100, 97, 116, 97]⟩, .string ⟨#[]⟩, .int .i64 0, .string ⟨#[120]⟩, .string ⟨#[]⟩] 28))
  have xRb_w6 := xRb_w5.below ((Below.refl w5.heap.size w5).alloc (Nat.le_refl _) (.cells #[.bool true, .string ⟨#[100, 97, 116, 97]⟩, .string ⟨#[]⟩, .int .i64 0, .string ⟨#[120]⟩, .string ⟨#[]⟩] 28))
  generalize w5.heap.size = Rc at xn ⊢
  generalize w5.alloc (.cells #[.bool true, .string ⟨#[100, 97, 116, 97]⟩, .string ⟨#[]⟩, .int .i64 0, .string ⟨#[120]⟩, .string ⟨#[]⟩] 28) = w6 at xn mw6 tw6 Bw6 xRa_w6 xRb_w6 ⊢
  have xRc_w6 := xn
  clear xn mw5 tw5 Bw5 xRa_w5 xRb_w5
  refine (FA.out _ mw6 tw6).mono ?_
  rintro e w7 ⟨rfl, b_⟩
  have mw7 := mw6.below b_
  have tw7 := tw6.below b_
  have Bw7 := Bw6.trans (b_.mono (by first | exact Bw6.size | exact Nat.le_of_lt xRa_w6.lt))
  have xRa_w7 := xRa_w6.below b_
  have xRb_w7 := xRb_w6.below b_
  have xRc_w7 := xRc_w6.below b_
  clear b_ mw6 tw6 Bw6 xRa_w6 xRb_w6 xRc_w6
  go_wp2_with fail
  refine (TA.out _ tw7).mono ?_
  rintro e w8 ⟨rfl, b_⟩
  have mw8 := mw7.below b_
  have tw8 := tw7.below b_
  have Bw8 := Bw7.trans (b_.mono (by first | exact Bw7.size | exact Nat.le_of_lt xRa_w7.lt))
  have xRa_w8 := xRa_w7.below b_
  have xRb_w8 := xRb_w7.below b_
  have xRc_w8 := xRc_w7.below b_
  clear b_ mw7 tw7 Bw7 xRa_w7 xRb_w7 xRc_w7
  have dRb0 := xRb_w8.c0
  have dRb1 := xRb_w8.c1
  have dRb2 := xRb_w8.c2
  have dRb3 := xRb_w8.c3
  have dRb4 := xRb_w8.c4
  have dRb5 := xRb_w8.c5
  go_wp2_with fail
  clear dRb0 dRb1 dRb2 dRb3 dRb4 dRb5
  refine (FB.out _ mw8 tw8).mono ?_
  rintro e w9 ⟨rfl, b_⟩
  have mw9 := mw8.below b_
  have tw9 := tw8.below b_
  have Bw9 := Bw8.trans (b_.mono (by first | exact Bw8.size | exact Nat.le_of_lt xRa_w8.lt))
  have xRa_w9 := xRa_w8.below b_
  have xRb_w9 := xRb_w8.below b_
  have xRc_w9 := xRc_w8.below b_
  clear b_ mw8 tw8 Bw8 xRa_w8 xRb_w8 xRc_w8
  go_wp2_with fail
  refine (TB.out _ tw9).mono ?_
  rintro e w10 ⟨rfl, b_⟩
  have mw10 := mw9.below b_
  have tw10 := tw9.below b_
  have Bw10 := Bw9.trans (b_.mono (by first | exact Bw9.size | exact Nat.le_of_lt xRa_w9.lt))
  have xRa_w10 := xRa_w9.below b_
  have xRb_w10 := xRb_w9.below b_
  have xRc_w10 := xRc_w9.below b_
  clear b_ mw9 tw9 Bw9 xRa_w9 xRb_w9 xRc_w9
  have dRc0 := xRc_w10.c0
  have dRc1 := xRc_w10.c1
  have dRc2 := xRc_w10.c2
  have dRc3 := xRc_w10.c3
  have dRc4 := xRc_w10.c4
  have dRc5 := xRc_w10.c5
  go_wp2_with fail
  clear dRc0 dRc1 dRc2 dRc3 dRc4 dRc5
  refine (FC.out _ mw10 tw10).mono ?_
  rintro e w11 ⟨rfl, b_⟩
  have mw11 := mw10.below b_
  have tw11 := tw10.below b_
  have Bw11 := Bw10.trans (b_.mono (by first | exact Bw10.size | exact Nat.le_of_lt xRa_w10.lt))
  have xRa_w11 := xRa_w10.below b_
  have xRb_w11 := xRb_w10.below b_
  have xRc_w11 := xRc_w10.below b_
  clear b_ mw10 tw10 Bw10 xRa_w10 xRb_w10 xRc_w10
  go_wp2_with fail
  refine (TC.out _ tw11).mono ?_
  rintro e w12 ⟨rfl, b_⟩
  have mw12 := mw11.below b_
  have tw12 := tw11.below b_
  have Bw12 := Bw11.trans (b_.mono (by first | exact Bw11.size | exact Nat.le_of_lt xRa_w11.lt))
  have xRa_w12 := xRa_w11.below b_
  have xRb_w12 := xRb_w11.below b_
  have xRc_w12 := xRc_w11.below b_
  clear b_ mw11 tw11 Bw11 xRa_w11 xRb_w11 xRc_w11
  have dRa0 := xRa_w12.c0
  have dRa1 := xRa_w12.c1
  have dRa2 := xRa_w12.c2
  have dRa3 := xRa_w12.c3
  have dRa4 := xRa_w12.c4
  have dRa5 := xRa_w12.c5
  have dRb0 := xRb_w12.c0
  have dRb1 := xRb_w12.c1
  have dRb2 := xRb_w12.c2
  have dRb3 := xRb_w12.c3
  have dRb4 := xRb_w12.c4
  have dRb5 := xRb_w12.c5
  have dRc0 := xRc_w12.c0
  have dRc1 := xRc_w12.c1
  have dRc2 := xRc_w12.c2
  have dRc3 := xRc_w12.c3
  have dRc4 := xRc_w12.c4
  have dRc5 := xRc_w12.c5
  go_wp2
  clear dRa0 dRa1 dRa2 dRa3 dRa4 dRa5 dRb0 dRb1 dRb2 dRb3 dRb4 dRb5 dRc0 dRc1 dRc2 dRc3 dRc4 dRc5
  obtain ⟨C, hC⟩ : ∃ C : World → Prop, ∀ w', C w' ↔ (BX w' Ra false ⟨#[104, 116, 116, 112, 115]⟩ ⟨#[97, 46, 98]⟩ 0 ⟨#[47, 120]⟩ ⟨#[]⟩ ∧ BX w' Rb false ⟨#[104, 116, 116, 112, 115]⟩ ⟨#[97, 46, 98]⟩ 444 ⟨#[47]⟩ ⟨#[]⟩ ∧ BX w' Rc true ⟨#[100, 97, 116, 97]⟩ ⟨#[]⟩ 0 ⟨#[120]⟩ ⟨#[]⟩ ∧ Below w.heap.size w w' ∧ MaxIn w' ∧ TabIn w') := ⟨_, fun _ => Iff.rfl⟩
  have HC := Lib.hid hC
  clear hC
  have hC0 : C w12.drew := (HC.out _).2 ⟨xRa_w12, xRb_w12, xRc_w12, Bw12.drew, mw12, tw12⟩
  have HK : Hid (∀ w', C w' → ∀ w7, Below w'.heap.size w' w7 → C w7) := Lib.hid fun w' hc w7 b => by
    obtain ⟨xRa, xRb, xRc, K4, m7, t7⟩ := (HC.out w').1 hc
    exact (HC.out _).2 ⟨xRa.below b, xRb.below b, xRc.below b, K4.trans (b.mono (K4.size)), m7.below b, t7.below b⟩
  clear xRa_w12 xRb_w12 xRc_w12 Bw12 mw12 tw12
  refine region_class C (by kernel_rfl) (by kernel_rfl) hC0 ?_
  clear hC0
  repeat
    first
      | go_big_quiet_skip
      | (go_big_quiet_want; go_big_quiet_op; go_big_quiet_on)
      | (refine BigFrame.wpQuiet_want rfl (fun K hK => ?_)
         apply Exists.intro
         refine ⟨fun w' hc => ?_, hK _ ?_⟩
         · obtain ⟨xRa, xRb, xRc, K4, m7, t7⟩ := (HC.out w').1 hc
           have dRa0 := xRa.c0
           have dRa1 := xRa.c1
           have dRa2 := xRa.c2
           have dRa3 := xRa.c3
           have dRa4 := xRa.c4
           have dRa5 := xRa.c5
           have dRb0 := xRb.c0
           have dRb1 := xRb.c1
           have dRb2 := xRb.c2
           have dRb3 := xRb.c3
           have dRb4 := xRb.c4
           have dRb5 := xRb.c5
           have dRc0 := xRc.c0
           have dRc1 := xRc.c1
           have dRc2 := xRc.c2
           have dRc3 := xRc.c3
           have dRc4 := xRc.c4
           have dRc5 := xRc.c5
           unfold Oper.quietAt
           go_simp
           first
             | done
             | rfl
             | ((with_reducible refine (FA.out _ m7 t7).mono ?_); rintro e w7 ⟨rfl, b7⟩; exact ⟨rfl, HK.out w' hc w7 b7⟩)
             | ((with_reducible refine (FB.out _ m7 t7).mono ?_); rintro e w7 ⟨rfl, b7⟩; exact ⟨rfl, HK.out w' hc w7 b7⟩)
             | ((with_reducible refine (FC.out _ m7 t7).mono ?_); rintro e w7 ⟨rfl, b7⟩; exact ⟨rfl, HK.out w' hc w7 b7⟩)
             | ((with_reducible refine (GA.out _ m7 t7).mono ?_); rintro e w7 ⟨rfl, b7⟩; exact ⟨rfl, HK.out w' hc w7 b7⟩)
             | ((with_reducible refine (GC.out _ m7 t7).mono ?_); rintro e w7 ⟨rfl, b7⟩; exact ⟨rfl, HK.out w' hc w7 b7⟩)
             | ((with_reducible refine (SAA.out _).mono ?_); rintro e w7 ⟨rfl, b7⟩; exact ⟨rfl, HK.out w' hc w7 b7⟩)
             | ((with_reducible refine (SAB.out _).mono ?_); rintro e w7 ⟨rfl, b7⟩; exact ⟨rfl, HK.out w' hc w7 b7⟩)
             | ((with_reducible refine (SCC.out _).mono ?_); rintro e w7 ⟨rfl, b7⟩; exact ⟨rfl, HK.out w' hc w7 b7⟩)
         clear hK K
         simp only [Act.put, List.setIfInBounds_toArray, List.set_cons_zero, List.set_cons_succ])
  refine wpQuiet_nil ?_
  intro w13 hc
  obtain ⟨xRa_w13, xRb_w13, xRc_w13, Bw13, mw13, tw13⟩ := (HC.out w13).1 hc
  clear hc HC HK
  go_wp2
  go_ret
  exact ⟨rfl, Bw13⟩

end Go.Proofs.YtlkpdepdflcbcaaDoor
