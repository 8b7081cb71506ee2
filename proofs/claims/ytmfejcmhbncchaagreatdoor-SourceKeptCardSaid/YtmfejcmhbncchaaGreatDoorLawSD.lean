/- SourceKept: each kept kind has one word. -/
import Derived.Test.YtmfejcmhbncchaaGreatDoorSrcW
namespace Go.Proofs.YtmfejcmhbncchaaGreatDoor
open Go.RowKit

theorem kept_in {k : Int} (h : 1 ≤ k ∧ k ≤ 8) : k = 1 ∨ k = 2 ∨ k = 3 ∨ k = 4 ∨ k = 5 ∨ k = 6 ∨ k = 7 ∨ k = 8 := by omega
theorem kept_right (k : Int) : rightS (srcM k ⟨#[]⟩ ⟨#[]⟩ ⟨#[]⟩ false 0 ⟨#[]⟩) = decide (1 ≤ k ∧ k ≤ 8) := by
  by_cases h : 1 ≤ k ∧ k ≤ 8
  · rcases kept_in h with rfl | rfl | rfl | rfl | rfl | rfl | rfl | rfl <;> decide +kernel
  · rw [decide_eq_false h]
    by_cases h9 : k = 9
    · subst h9; decide +kernel
    by_cases h10 : k = 10
    · subst h10; decide +kernel
    by_cases h11 : k = 11
    · subst h11; decide +kernel
    by_cases h12 : k = 12
    · subst h12; decide +kernel
    unfold rightS
    rw [if_neg (show ¬ (srcM k ⟨#[]⟩ ⟨#[]⟩ ⟨#[]⟩ false 0 ⟨#[]⟩).k = 9 from h9), if_neg (show ¬ (srcM k ⟨#[]⟩ ⟨#[]⟩ ⟨#[]⟩ false 0 ⟨#[]⟩).k = 10 from h10), if_neg (show ¬ (srcM k ⟨#[]⟩ ⟨#[]⟩ ⟨#[]⟩ false 0 ⟨#[]⟩).k = 11 from h11), if_neg (show ¬ (srcM k ⟨#[]⟩ ⟨#[]⟩ ⟨#[]⟩ false 0 ⟨#[]⟩).k = 12 from h12), show (srcM k ⟨#[]⟩ ⟨#[]⟩ ⟨#[]⟩ false 0 ⟨#[]⟩).k = k from rfl]
    unfold keptM
    rw [if_neg h]
    rfl
theorem kept_word {k : Int} (h : 1 ≤ k ∧ k ≤ 8) : wordS (srcM k ⟨#[]⟩ ⟨#[]⟩ ⟨#[]⟩ false 0 ⟨#[]⟩) = keptM k := word_kept k _ _ _ _ _ _ (by omega) (by omega) (by omega) (by omega)
theorem kept_inj {a b : Int} (ha : 1 ≤ a ∧ a ≤ 8) (hb : 1 ≤ b ∧ b ≤ 8) : decide (keptM a = keptM b) = decide (a = b) := by
  rcases kept_in ha with rfl | rfl | rfl | rfl | rfl | rfl | rfl | rfl <;> rcases kept_in hb with rfl | rfl | rfl | rfl | rfl | rfl | rfl | rfl <;> decide +kernel
theorem kept_ends (k : Int) (h : 1 ≤ k ∧ k ≤ 8) (V : ByteArray) (hV : V.data.toList = keptM k) : (2 : Int) < (V.size : Int) ∧ (∀ W, (Instr.index 9 (.string V) (.int .i64 0)).run Tryz.prog W = .ok (.int .u8 39) W) ∧ ∀ W, (Instr.index 9 (.string V) (.int .i64 ((V.size : Int) - 1))).run Tryz.prog W = .ok (.int .u8 39) W := by
  obtain rfl := text_is hV
  clear hV
  rcases kept_in h with rfl | rfl | rfl | rfl | rfl | rfl | rfl | rfl <;> exact ⟨by decide +kernel, fun W => by kernel_rfl, fun W => by kernel_rfl⟩

set_option maxRecDepth 100000 in
set_option maxHeartbeats 4000000 in
theorem kept_law (a b : Int) (w : World) (hw : Low w) : Calls Tryz.prog 7 #[.int .i64 a, .int .i64 b] w fun e w' => e = .returned (.bool true) ∧ Below w.heap.size w w' := by
  have CW := words_hid
  obtain ⟨rb, hrb⟩ : ∃ r, rightS (srcM b ⟨#[]⟩ ⟨#[]⟩ ⟨#[]⟩ false 0 ⟨#[]⟩) = r := ⟨_, rfl⟩
  obtain ⟨TB, hTB⟩ := text_of (if rb then wordS (srcM b ⟨#[]⟩ ⟨#[]⟩ ⟨#[]⟩ false 0 ⟨#[]⟩) else [])
  have CB := printL_hid b ⟨#[]⟩ ⟨#[]⟩ ⟨#[]⟩ false 0 ⟨#[]⟩ (by decide) (by decide) (by decide) (by decide) rb hrb TB hTB
  by_cases ha : 1 ≤ a ∧ a ≤ 8
  case neg =>
    have CA := printL_hid a ⟨#[]⟩ ⟨#[]⟩ ⟨#[]⟩ false 0 ⟨#[]⟩ (by decide) (by decide) (by decide) (by decide) false (by rw [kept_right, decide_eq_false ha]) ⟨#[]⟩ rfl
    unfold srcV at CA CB
    clear hrb hTB
    by_cases ha1 : 1 ≤ a
    · have ha2 : ¬ a ≤ 8 := fun h => ha ⟨ha1, h⟩
      clear ha
      go_enter Tryz.func7, Tryz.ntmps7
      go_wp2_with fail
      refine (CA.out _ hw).mono ?_
      rintro e w1 ⟨rfl, b_⟩
      have gw1 := hw.below b_
      have Bw1 := b_
      clear b_ hw
      go_wp2_with fail
      refine (CB.out _ gw1).mono ?_
      rintro e w2 ⟨rfl, b_⟩
      have gw2 := gw1.below b_
      have Bw2 := Bw1.trans (b_.mono Bw1.size)
      clear b_ gw1 Bw1
      go_wp2_with fail
      refine (CW.out _ gw2).mono ?_
      rintro e w3 ⟨rfl, b_⟩
      have gw3 := gw2.below b_
      have Bw3 := Bw2.trans (b_.mono Bw2.size)
      clear b_ gw2 Bw2
      go_wp2
      go_ret
      exact ⟨rfl, Bw3⟩

    · clear ha
      go_enter Tryz.func7, Tryz.ntmps7
      go_wp2_with fail
      refine (CA.out _ hw).mono ?_
      rintro e w1 ⟨rfl, b_⟩
      have gw1 := hw.below b_
      have Bw1 := b_
      clear b_ hw
      go_wp2_with fail
      refine (CB.out _ gw1).mono ?_
      rintro e w2 ⟨rfl, b_⟩
      have gw2 := gw1.below b_
      have Bw2 := Bw1.trans (b_.mono Bw1.size)
      clear b_ gw1 Bw1
      go_wp2_with fail
      refine (CW.out _ gw2).mono ?_
      rintro e w3 ⟨rfl, b_⟩
      have gw3 := gw2.below b_
      have Bw3 := Bw2.trans (b_.mono Bw2.size)
      clear b_ gw2 Bw2
      go_wp2
      go_ret
      exact ⟨rfl, Bw3⟩

  obtain ⟨ha1, ha2⟩ := ha
  obtain ⟨V, hV⟩ := text_of (keptM a)
  have hra : rightS (srcM a ⟨#[]⟩ ⟨#[]⟩ ⟨#[]⟩ false 0 ⟨#[]⟩) = true := by rw [kept_right, decide_eq_true ⟨ha1, ha2⟩]
  have CA := printL_hid a ⟨#[]⟩ ⟨#[]⟩ ⟨#[]⟩ false 0 ⟨#[]⟩ (by decide) (by decide) (by decide) (by decide) true hra V (by rw [if_pos rfl, kept_word ⟨ha1, ha2⟩]; exact hV)
  have hpa := parse_word hra
  rw [kept_word ⟨ha1, ha2⟩, ← hV] at hpa
  obtain ⟨e1, e2, e3⟩ := kept_ends a ⟨ha1, ha2⟩ V hV
  have hVs : V.size ≤ 10000 := by
    rw [← lsize, hV]
    rcases kept_in ⟨ha1, ha2⟩ with rfl | rfl | rfl | rfl | rfl | rfl | rfl | rfl <;> decide
  have CP := parseS_is V hVs a ⟨#[]⟩ ⟨#[]⟩ ⟨#[]⟩ false 0 ⟨#[]⟩ hpa
  have HQ := src_eql a ⟨#[]⟩ ⟨#[]⟩ ⟨#[]⟩ false 0 ⟨#[]⟩ a ⟨#[]⟩ ⟨#[]⟩ ⟨#[]⟩ false 0 ⟨#[]⟩
  rw [srcE_M, decide_eq_true rfl] at HQ
  have gx : rb = true → (V.toList == TB.toList) = decide (a = b) := fun h => by
    subst h
    rw [kept_right] at hrb
    have hb := of_decide_eq_true hrb
    rw [if_pos rfl, kept_word hb] at hTB
    rw [text_eq, hV, hTB, kept_inj ⟨ha1, ha2⟩ hb]
  have gy : (a == b) = decide (a = b) := by rw [Bool.eq_iff_iff]; simp
  unfold srcV at CA CB CP
  clear hra hrb hTB hV hpa
  cases rb
  · clear gx
    go_enter Tryz.func7, Tryz.ntmps7
    go_wp2_with fail
    refine (CA.out _ hw).mono ?_
    rintro e w1 ⟨rfl, b_⟩
    have gw1 := hw.below b_
    have Bw1 := b_
    clear b_ hw
    go_wp2_with fail
    refine (CB.out _ gw1).mono ?_
    rintro e w2 ⟨rfl, b_⟩
    have gw2 := gw1.below b_
    have Bw2 := Bw1.trans (b_.mono Bw1.size)
    clear b_ gw1 Bw1
    go_wp2_with fail
    refine (CP.out _ gw2).mono ?_
    rintro e w3 ⟨rfl, b_⟩
    have gw3 := gw2.below b_
    have Bw3 := Bw2.trans (b_.mono Bw2.size)
    clear b_ gw2 Bw2
    go_wp2_with fail
    have xn := SX.made w3 a ⟨#[]⟩ ⟨#[]⟩ ⟨#[]⟩ false 0 ⟨#[]⟩
    have gw4 := gw3.made (.cells #[.int .i64 a, .string ⟨#[]⟩, .string ⟨#[]⟩, .string ⟨#[]⟩, .bool false, .int .i64 0, .string ⟨#[]⟩] 24)
    have Bw4 := Bw3.trans (((Below.refl w3.heap.size w3).alloc (Nat.le_refl _) (.cells #[.int .i64 a, .string ⟨#[]⟩, .string ⟨#[]⟩, .string ⟨#[]⟩, .bool false, .int .i64 0, .string ⟨#[]⟩] 24)).mono Bw3.size)
    generalize w3.heap.size = R at xn ⊢
    generalize w3.alloc (.cells #[.int .i64 a, .string ⟨#[]⟩, .string ⟨#[]⟩, .string ⟨#[]⟩, .bool false, .int .i64 0, .string ⟨#[]⟩] 24) = w4 at xn gw4 Bw4  ⊢
    have xR_w4 := xn
    clear xn gw3 Bw3
    refine (CW.out _ gw4).mono ?_
    rintro e w5 ⟨rfl, b_⟩
    have gw5 := gw4.below b_
    have Bw5 := Bw4.trans (b_.mono Bw4.size)
    have xR_w5 := xR_w4.below b_
    clear b_ gw4 Bw4 xR_w4
    have dR0 := xR_w5.c0
    have dR1 := xR_w5.c1
    have dR2 := xR_w5.c2
    have dR3 := xR_w5.c3
    have dR4 := xR_w5.c4
    have dR5 := xR_w5.c5
    have dR6 := xR_w5.c6
    go_wp2
    go_ret
    exact ⟨rfl, Bw5⟩

  · have gx2 := gx rfl
    clear gx
    generalize decide (a = b) = x at gx2 gy
    go_enter Tryz.func7, Tryz.ntmps7
    go_wp2_with fail
    refine (CA.out _ hw).mono ?_
    rintro e w1 ⟨rfl, b_⟩
    have gw1 := hw.below b_
    have Bw1 := b_
    clear b_ hw
    go_wp2_with fail
    refine (CB.out _ gw1).mono ?_
    rintro e w2 ⟨rfl, b_⟩
    have gw2 := gw1.below b_
    have Bw2 := Bw1.trans (b_.mono Bw1.size)
    clear b_ gw1 Bw1
    go_wp2_with fail
    refine (CP.out _ gw2).mono ?_
    rintro e w3 ⟨rfl, b_⟩
    have gw3 := gw2.below b_
    have Bw3 := Bw2.trans (b_.mono Bw2.size)
    clear b_ gw2 Bw2
    go_wp2_with fail
    have xn := SX.made w3 a ⟨#[]⟩ ⟨#[]⟩ ⟨#[]⟩ false 0 ⟨#[]⟩
    have gw4 := gw3.made (.cells #[.int .i64 a, .string ⟨#[]⟩, .string ⟨#[]⟩, .string ⟨#[]⟩, .bool false, .int .i64 0, .string ⟨#[]⟩] 24)
    have Bw4 := Bw3.trans (((Below.refl w3.heap.size w3).alloc (Nat.le_refl _) (.cells #[.int .i64 a, .string ⟨#[]⟩, .string ⟨#[]⟩, .string ⟨#[]⟩, .bool false, .int .i64 0, .string ⟨#[]⟩] 24)).mono Bw3.size)
    generalize w3.heap.size = R at xn ⊢
    generalize w3.alloc (.cells #[.int .i64 a, .string ⟨#[]⟩, .string ⟨#[]⟩, .string ⟨#[]⟩, .bool false, .int .i64 0, .string ⟨#[]⟩] 24) = w4 at xn gw4 Bw4  ⊢
    have xR_w4 := xn
    clear xn gw3 Bw3
    refine (CW.out _ gw4).mono ?_
    rintro e w5 ⟨rfl, b_⟩
    have gw5 := gw4.below b_
    have Bw5 := Bw4.trans (b_.mono Bw4.size)
    have xR_w5 := xR_w4.below b_
    clear b_ gw4 Bw4 xR_w4
    have dR0 := xR_w5.c0
    have dR1 := xR_w5.c1
    have dR2 := xR_w5.c2
    have dR3 := xR_w5.c3
    have dR4 := xR_w5.c4
    have dR5 := xR_w5.c5
    have dR6 := xR_w5.c6
    go_wp2
    go_ret
    exact ⟨rfl, Bw5⟩

end Go.Proofs.YtmfejcmhbncchaaGreatDoor
