/- The walk: a text has just the document's small text, is trimmed just so, and has just its words and parts; for every two texts and byte. -/
import Derived.Test.YthicppcidmenbaaDoorLawTwice
namespace Go.Proofs.YthicppcidmenbaaDoor
open Go.RowKit

theorem refBlank_to (c : UInt8) (b : Bool) (h : blk c = b) : Hid (∀ W, Calls Tryd.prog 20 #[.int .u8 (c.toNat : Int)] W fun e w' => e = .returned (.bool b) ∧ W = w') :=
  Lib.hid fun W => (refBlank_any c W).mono fun e w' ⟨he, hb⟩ => ⟨by rw [he, h], hb⟩
theorem words_to (s : ByteArray) (p : List (List UInt8)) (h : words s.data.toList = p) (hs : s.size ≤ 100000000) : Hid (∀ W, Calls Tryd.prog 15 #[.string s] W (SomeTexts p W)) :=
  Lib.hid fun W => (words_any s W (by omega)).mono fun e w' x => some_of (by rw [← h]; exact x)
theorem refWords_to (s : ByteArray) (p : List (List UInt8)) (h : words s.data.toList = p) (hs : s.size ≤ 100000000) : Hid (∀ W, Calls Tryd.prog 16 #[.string s] W (SomeTexts p W)) :=
  Lib.hid fun W => (refWords_any s W (by omega)).mono fun e w' x => some_of (by rw [← h]; exact x)
theorem parts_to (s : ByteArray) (c : UInt8) (p : List (List UInt8)) (h : parts s.data.toList c = p) (hs : s.size ≤ 100000000) : Hid (∀ W, MaxIn W → Calls Tryd.prog 17 #[.string s, .int .u8 (c.toNat : Int)] W (SomeTexts p W)) :=
  Lib.hid fun W hW => (parts_any s c W (by omega) hW).mono fun e w' x => some_of (by rw [← h]; exact x)
theorem refParts_to (s : ByteArray) (c : UInt8) (p : List (List UInt8)) (h : parts s.data.toList c = p) (hs : s.size ≤ 100000000) : Hid (∀ W, Calls Tryd.prog 18 #[.string s, .int .u8 (c.toNat : Int)] W (SomeTexts p W)) :=
  Lib.hid fun W => (refParts_any s c W (by omega)).mono fun e w' x => some_of (by rw [← h]; exact x)

set_option maxRecDepth 100000 in
set_option maxHeartbeats 4000000 in
theorem texts_law (a b : ByteArray) (c : UInt8) (w : World) (hm : MaxIn w) :
    Calls Tryd.prog 3 #[.string a, .string b, .int .u8 (c.toNat : Int)] w fun e w' => e = .returned (.bool true) ∧ Below w.heap.size w w' := by
  by_cases ha : 5000 < a.size
  · have hz : (5000 : Int) < (a.size : Int) := by omega
    clear ha hm
    go_enter Tryd.func3, Tryd.ntmps3
    go_wp2
    go_ret
    exact ⟨rfl, Below.refl _ _⟩
  by_cases hb : 5000 < b.size
  · have hz : ¬ (5000 : Int) < (a.size : Int) := by omega
    have hz2 : (5000 : Int) < (b.size : Int) := by omega
    clear ha hb hm
    go_enter Tryd.func3, Tryd.ntmps3
    go_wp2
    go_ret
    exact ⟨rfl, Below.refl _ _⟩
  have hz : ¬ (5000 : Int) < (a.size : Int) := by omega
  have hz2 : ¬ (5000 : Int) < (b.size : Int) := by omega
  have ha' : a.size ≤ 5000 := by omega
  have hb' : b.size ≤ 5000 := by omega
  obtain ⟨L, hL⟩ : ∃ L : ByteArray, L.data.toList = low a.data.toList := ⟨⟨(low a.data.toList).toArray⟩, rfl⟩
  obtain ⟨M, hM⟩ : ∃ M : ByteArray, M.data.toList = low b.data.toList := ⟨⟨(low b.data.toList).toArray⟩, rfl⟩
  obtain ⟨T, hT⟩ : ∃ T : ByteArray, T.data.toList = trim a.data.toList := ⟨⟨(trim a.data.toList).toArray⟩, rfl⟩
  have C1 := lower_to a L hL ha'
  have C2 := refLower_to a L hL ha'
  have C3 := trim_to a T hT ha'
  have C4 := refTrim_to a T hT ha'
  have q1 := self_eq L
  have q2 := self_eq T
  have q3 : (L.toList == M.toList) = decide (low a.data.toList = low b.data.toList) := by rw [text_eq, hL, hM]
  have C6 := refLower_to b M hM hb'
  obtain ⟨x, hx⟩ : ∃ x, decide (low a.data.toList = low b.data.toList) = x := ⟨_, rfl⟩
  have C5 := same_b a b x hx ha' hb'
  rw [hx] at q3
  have q4 : (x == x) = true := by simp
  obtain ⟨P, hP⟩ : ∃ P, words a.data.toList = P := ⟨_, rfl⟩
  obtain ⟨Q, hQ⟩ : ∃ Q, parts a.data.toList c = Q := ⟨_, rfl⟩
  have C7 := words_to a P hP (by omega)
  have C8 := refWords_to a P hP (by omega)
  have C9 := parts_to a c Q hQ (by omega)
  have C10 := refParts_to a c Q hQ (by omega)
  have hPl : P.length ≤ 9223372036854775807 := by have := (words_total a.data.toList).2; rw [lsize] at this; rw [← hP]; omega
  have hQl : Q.length ≤ 9223372036854775807 := by have := (parts_total a.data.toList c).2; rw [lsize] at this; rw [← hQ]; omega
  obtain ⟨y, hy⟩ : ∃ y, blk c = y := ⟨_, rfl⟩
  have C11 := blank_to c y hy
  have C12 := refBlank_to c y hy
  have q5 : (y == y) = true := by simp
  clear ha hb hL hM hT hx hP hQ hy
  go_enter Tryd.func3, Tryd.ntmps3
  go_wp2_with fail
  refine (C1.out _).mono ?_
  rintro e w1 ⟨rfl, B1⟩
  go_wp2_with fail
  refine (C2.out _).mono ?_
  rintro e w2 ⟨rfl, b2⟩
  have B2 := B1.trans (b2.mono B1.size)
  clear b2
  go_wp2_with fail
  refine (C3.out _).mono ?_
  rintro e w3 ⟨rfl, b3⟩
  have B3 := B2.trans (b3.mono B2.size)
  clear b3
  go_wp2_with fail
  refine (C4.out _).mono ?_
  rintro e w4 ⟨rfl, rfl⟩
  go_wp2_with fail
  refine (C5.out _).mono ?_
  rintro e w5 ⟨rfl, b5⟩
  have B5 := B3.trans (b5.mono B3.size)
  clear b5
  go_wp2_with fail
  refine (C2.out _).mono ?_
  rintro e w6 ⟨rfl, b6⟩
  have B6 := B5.trans (b6.mono B5.size)
  clear b6
  go_wp2_with fail
  refine (C6.out _).mono ?_
  rintro e w7 ⟨rfl, b7⟩
  have B7 := B6.trans (b7.mono B6.size)
  clear b7
  go_wp2_with fail
  refine (folds_any _ (hm.below B7)).mono ?_
  rintro e w8 ⟨rfl, b8⟩
  have B8 := B7.trans (b8.mono B7.size)
  clear b8 B1 B2 B3 B5 B6 B7
  go_wp2_with fail
  refine (C7.out _).mono ?_
  rintro e w9 ⟨a9, k9, rfl, t9, b9⟩
  have B9 := B8.trans (b9.mono B8.size)
  clear b9 B8
  go_wp2_with fail
  refine (C8.out _).mono ?_
  rintro e w10 ⟨a10, k10, rfl, t10, b10⟩
  have B10 := B9.trans (b10.mono B9.size)
  have t9' := t9.below b10
  clear b10 B9 t9
  go_wp2_with fail
  refine (texts_bool _ _ true (eqT_self _) _ _ _ t9' t10 hPl hPl).mono ?_
  rintro e w11 ⟨rfl, b11⟩
  have B11 := B10.trans (b11.mono B10.size)
  clear b11 B10 t9' t10
  go_wp2_with fail
  refine (C9.out _ (hm.below B11)).mono ?_
  rintro e w12 ⟨a12, k12, rfl, t12, b12⟩
  have B12 := B11.trans (b12.mono B11.size)
  clear b12 B11
  go_wp2_with fail
  refine (C10.out _).mono ?_
  rintro e w13 ⟨a13, k13, rfl, t13, b13⟩
  have B13 := B12.trans (b13.mono B12.size)
  have t12' := t12.below b13
  clear b13 B12 t12
  go_wp2_with fail
  refine (texts_bool _ _ true (eqT_self _) _ _ _ t12' t13 hQl hQl).mono ?_
  rintro e w14 ⟨rfl, b14⟩
  have B14 := B13.trans (b14.mono B13.size)
  clear b14 B13 t12' t13
  go_wp2_with fail
  refine (C11.out _).mono ?_
  rintro e w15 ⟨rfl, rfl⟩
  go_wp2_with fail
  refine (C12.out _).mono ?_
  rintro e w16 ⟨rfl, rfl⟩
  go_wp2
  go_ret
  exact ⟨rfl, B14⟩

end Go.Proofs.YthicppcidmenbaaDoor
