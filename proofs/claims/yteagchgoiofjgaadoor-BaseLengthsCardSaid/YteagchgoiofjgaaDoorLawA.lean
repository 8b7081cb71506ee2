/- The document's rows; the walks of what is encoded, decoded, and decoded again. -/
import Derived.Test.YteagchgoiofjgaaDoorWalkI
namespace Go.Proofs.YteagchgoiofjgaaDoor
open Go.RowKit

set_option maxRecDepth 100000 in
set_option maxHeartbeats 2000000 in
/-- The document's rows. -/
theorem codes_any (w : World) : Calls Tryd.prog 9 #[] w fun e w' => e = .returned (.bool true) ∧ Below w.heap.size w w' := by
  have D1 := decode_hid ⟨#[89, 81]⟩ (by decide) ⟨#[97]⟩ true (by decide +kernel)
  have D2 := decode_hid ⟨#[95, 45, 55, 57]⟩ (by decide) ⟨#[255, 238, 253]⟩ true (by decide +kernel)
  have D3 := decode_hid ⟨#[89, 82, 61, 61]⟩ (by decide) ⟨#[]⟩ false (by decide +kernel)
  have D4 := decode_hid ⟨#[89, 81, 61]⟩ (by decide) ⟨#[]⟩ false (by decide +kernel)
  have E1 := encode_hid ⟨#[97]⟩ (by decide) ⟨#[89, 81, 61, 61]⟩ (by decide +kernel)
  have E2 := encode_hid ⟨#[97, 98, 99]⟩ (by decide) ⟨#[89, 87, 74, 106]⟩ (by decide +kernel)
  have E3 := encode_hid ⟨#[255, 254, 253]⟩ (by decide) ⟨#[47, 47, 55, 57]⟩ (by decide +kernel)
  have F1 := form_hid ⟨#[89, 81]⟩ (by decide) true (by decide +kernel)
  have F2 := form_hid ⟨#[61]⟩ (by decide) false (by decide +kernel)
  have F3 := form_hid ⟨#[89, 32, 81]⟩ (by decide) false (by decide +kernel)
  go_enter Tryd.func9, Tryd.ntmps9
  go_wp2_with fail
  with_reducible refine (D1.out _).mono ?_
  rintro e w1 ⟨rfl, B1⟩
  go_wp2_with fail
  with_reducible refine (D2.out _).mono ?_
  rintro e w2 ⟨rfl, b2⟩
  have B2 := B1.trans (b2.mono B1.size)
  clear b2 B1
  go_wp2_with fail
  with_reducible refine (D3.out _).mono ?_
  rintro e w3 ⟨rfl, b3⟩
  have B3 := B2.trans (b3.mono B2.size)
  clear b3 B2
  go_wp2_with fail
  with_reducible refine (D4.out _).mono ?_
  rintro e w4 ⟨rfl, b4⟩
  have B4 := B3.trans (b4.mono B3.size)
  clear b4 B3
  go_wp2_with fail
  with_reducible refine (E1.out _).mono ?_
  rintro e w5 ⟨rfl, b5⟩
  have B5 := B4.trans (b5.mono B4.size)
  clear b5 B4
  go_wp2_with fail
  with_reducible refine (E2.out _).mono ?_
  rintro e w6 ⟨rfl, b6⟩
  have B6 := B5.trans (b6.mono B5.size)
  clear b6 B5
  go_wp2_with fail
  with_reducible refine (E3.out _).mono ?_
  rintro e w7 ⟨rfl, b7⟩
  have B7 := B6.trans (b7.mono B6.size)
  clear b7 B6
  go_wp2_with fail
  with_reducible refine (F1.out _).mono ?_
  rintro e w7 ⟨rfl, rfl⟩
  go_wp2_with fail
  with_reducible refine (F2.out _).mono ?_
  rintro e w7 ⟨rfl, rfl⟩
  go_wp2_with fail
  with_reducible refine (F3.out _).mono ?_
  rintro e w7 ⟨rfl, rfl⟩
  go_wp2
  go_ret
  exact ⟨rfl, B7⟩

theorem dec_false {l : List UInt8} (h : (decM l).2 = false) : (decM l).1 = [] := by
  unfold decM at h ⊢
  by_cases h1 : l = []
  · rw [if_pos h1]
  by_cases h2 : formM l = false
  · rw [if_neg h1, if_pos h2]
  by_cases h3 : (hd l).length < l.length ∧ l.length % 4 ≠ 0
  · rw [if_neg h1, if_neg h2, if_pos h3]
  by_cases h4 : 6 ≤ (grp 8 (bits6 (hd l))).2.length ∨ num (grp 8 (bits6 (hd l))).2 ≠ 0
  · rw [if_neg h1, if_neg h2, if_neg h3, if_pos h4]
  · rw [if_neg h1, if_neg h2, if_neg h3, if_neg h4] at h
    cases h
theorem refEncode_hid (s : ByteArray) (hs : s.size ≤ 100000) (T : ByteArray) (hT : T.data.toList = encM s.data.toList) : Hid (∀ W, Calls Tryd.prog 11 #[.string s] W fun e w' => e = .returned (.string T) ∧ Below W.heap.size W w') :=
  Lib.hid fun W => refEncode_any s hs T hT W

set_option maxRecDepth 100000 in
set_option maxHeartbeats 1000000 in
theorem encodes_law (s : ByteArray) (w : World) : Calls Tryd.prog 3 #[.string s] w fun e w' => e = .returned (.bool true) ∧ Below w.heap.size w w' := by
  by_cases hs : 2000 < s.size
  · have hz : (2000 : Int) < (s.size : Int) := by omega
    clear hs
    go_enter Tryd.func3, Tryd.ntmps3
    go_wp2
    go_ret
    exact ⟨rfl, Below.refl _ _⟩
  · have hz : ¬ (2000 : Int) < (s.size : Int) := by omega
    obtain ⟨T, hT⟩ := text_of (encM s.data.toList)
    have C1 := encode_hid s (by omega) T hT
    have C2 := refEncode_hid s (by omega) T hT
    clear hs hT
    go_enter Tryd.func3, Tryd.ntmps3
    go_wp2_with fail
    with_reducible refine (codes_any _).mono ?_
    rintro e w1 ⟨rfl, B1⟩
    go_wp2_with fail
    with_reducible refine (C1.out _).mono ?_
    rintro e w2 ⟨rfl, b2⟩
    have B2 := B1.trans (b2.mono B1.size)
    clear b2 B1
    go_wp2_with fail
    with_reducible refine (C2.out _).mono ?_
    rintro e w3 ⟨rfl, b3⟩
    have B3 := B2.trans (b3.mono B2.size)
    clear b3 B2
    go_wp2
    go_ret
    exact ⟨rfl, B3⟩

set_option maxRecDepth 100000 in
set_option maxHeartbeats 1000000 in
theorem decodes_law (s : ByteArray) (w : World) : Calls Tryd.prog 4 #[.string s] w fun e w' => e = .returned (.bool true) ∧ Below w.heap.size w w' := by
  by_cases hs : 2000 < s.size
  · have hz : (2000 : Int) < (s.size : Int) := by omega
    clear hs
    go_enter Tryd.func4, Tryd.ntmps4
    go_wp2
    go_ret
    exact ⟨rfl, Below.refl _ _⟩
  · have hz : ¬ (2000 : Int) < (s.size : Int) := by omega
    obtain ⟨T, hT⟩ := text_of (decM s.data.toList).1
    obtain ⟨b, hb⟩ : ∃ b, (decM s.data.toList).2 = b := ⟨_, rfl⟩
    obtain ⟨f, hf⟩ : ∃ f, formM s.data.toList = f := ⟨_, rfl⟩
    have C1 := decode_hid s (by omega) T b (by rw [hT, ← hb])
    have C2 := refDecode_hid s (by omega) T b (by rw [hT, ← hb])
    have C3 := form_hid s (by omega) f hf
    have C4 := refForm_hid s (by omega) f hf
    clear hs hT hb hf
    cases b <;> cases f
    all_goals
      go_enter Tryd.func4, Tryd.ntmps4
      go_wp2_with fail
      with_reducible refine (C1.out _).mono ?_
      rintro e w1 ⟨rfl, B1⟩
      go_wp2_with fail
      with_reducible refine (C2.out _).mono ?_
      rintro e w2 ⟨rfl, b2⟩
      have B2 := B1.trans (b2.mono B1.size)
      clear b2 B1
      go_wp2_with fail
      with_reducible refine (codes_any _).mono ?_
      rintro e w3 ⟨rfl, b3⟩
      have B3 := B2.trans (b3.mono B2.size)
      clear b3 B2
      go_wp2_with fail
      with_reducible refine (C3.out _).mono ?_
      rintro e w3 ⟨rfl, rfl⟩
      go_wp2_with fail
      with_reducible refine (C4.out _).mono ?_
      rintro e w3 ⟨rfl, rfl⟩
      go_wp2
      go_ret
      exact ⟨rfl, B3⟩

set_option maxRecDepth 100000 in
set_option maxHeartbeats 1000000 in
theorem back_law (s : ByteArray) (w : World) : Calls Tryd.prog 5 #[.string s] w fun e w' => e = .returned (.bool true) ∧ Below w.heap.size w w' := by
  by_cases hs : 2000 < s.size
  · have hz : (2000 : Int) < (s.size : Int) := by omega
    clear hs
    go_enter Tryd.func5, Tryd.ntmps5
    go_wp2
    go_ret
    exact ⟨rfl, Below.refl _ _⟩
  · have hz : ¬ (2000 : Int) < (s.size : Int) := by omega
    obtain ⟨T, hT⟩ := text_of (encM s.data.toList)
    have hl := encM_length s.data.toList
    rw [← hT, lsize, lsize] at hl
    have C1 := encode_hid s (by omega) T hT
    have C2 := decode_hid T (by omega) s true (by rw [hT, dec_enc])
    have h4 : ((T.size : Int) % 4 == 0) = true := by rw [beq_iff_eq]; omega
    have hfm := form_encM s.data.toList
    rw [← hT] at hfm
    have hE := text_empty s
    by_cases h0 : s.data.toList = []
    · have C3 := form_hid T (by omega) false (by rw [hfm, decide_eq_false (by simpa using h0)])
      have g : s.toList.isEmpty = true := by rw [hE, h0]; rfl
      clear hs hT hl hfm hE h0
      go_enter Tryd.func5, Tryd.ntmps5
      go_wp2_with fail
      with_reducible refine (C1.out _).mono ?_
      rintro e w1 ⟨rfl, B1⟩
      go_wp2_with fail
      with_reducible refine (C2.out _).mono ?_
      rintro e w2 ⟨rfl, b2⟩
      have B2 := B1.trans (b2.mono B1.size)
      clear b2 B1
      go_wp2_with fail
      with_reducible refine (codes_any _).mono ?_
      rintro e w3 ⟨rfl, b3⟩
      have B3 := B2.trans (b3.mono B2.size)
      clear b3 B2
      go_wp2_with fail
      with_reducible refine (C3.out _).mono ?_
      rintro e w3 ⟨rfl, rfl⟩
      go_wp2
      go_ret
      exact ⟨rfl, B3⟩
    · have C3 := form_hid T (by omega) true (by rw [hfm, decide_eq_true h0])
      have g : s.toList.isEmpty = false := by
        rw [hE]
        cases h : s.data.toList with
        | nil => exact absurd h h0
        | cons => rfl
      clear hs hT hl hfm hE h0
      go_enter Tryd.func5, Tryd.ntmps5
      go_wp2_with fail
      with_reducible refine (C1.out _).mono ?_
      rintro e w1 ⟨rfl, B1⟩
      go_wp2_with fail
      with_reducible refine (C2.out _).mono ?_
      rintro e w2 ⟨rfl, b2⟩
      have B2 := B1.trans (b2.mono B1.size)
      clear b2 B1
      go_wp2_with fail
      with_reducible refine (codes_any _).mono ?_
      rintro e w3 ⟨rfl, b3⟩
      have B3 := B2.trans (b3.mono B2.size)
      clear b3 B2
      go_wp2_with fail
      with_reducible refine (C3.out _).mono ?_
      rintro e w3 ⟨rfl, rfl⟩
      go_wp2
      go_ret
      exact ⟨rfl, B3⟩

end Go.Proofs.YteagchgoiofjgaaDoor
