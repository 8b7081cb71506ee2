/- The document's rows, asked one by one. -/
import Derived.Test.YthicppcidmenbaaDoorWalkF
namespace Go.Proofs.YthicppcidmenbaaDoor
open Go.RowKit

theorem textsIn_new (W : World) (p : List (List UInt8)) (c : Nat) : TextsIn (W.alloc (.cells (txtCells p).toArray 9)) (.slice (some ⟨W.heap.size, 0, none⟩) p.length c) p := by
  refine .inr ⟨_, 0, c, rfl, fun j hj => ?_⟩
  rw [Nat.zero_add, World.cell?_alloc_mark]
  simp [txtCells, List.getElem?_eq_getElem hj]

def SomeTexts (p : List (List UInt8)) (w : World) (e : Ending) (w' : World) : Prop := ∃ a c, e = .returned (.slice a p.length c) ∧ TextsIn w' (.slice a p.length c) p ∧ Below w.heap.size w w'
theorem some_of {p : List (List UInt8)} {w : World} {e : Ending} {w' : World} (h : ∃ v, e = .returned v ∧ TextsIn w' v p ∧ Below w.heap.size w w') : SomeTexts p w e w' := by
  obtain ⟨v, rfl, h1, h2⟩ := h
  obtain ⟨a, c, rfl⟩ := h1.form
  exact ⟨a, c, rfl, h1, h2⟩
theorem bool_c (b : Bool) {f : Nat} {args : Array Value} {w : World} {x : Bool} (h : Calls Tryd.prog f args w fun e w' => e = .returned (.bool x) ∧ Below w.heap.size w w') (hx : x = b) : Calls Tryd.prog f args w fun e w' => e = .returned (.bool b) ∧ Below w.heap.size w w' := by
  subst hx; exact h

set_option maxRecDepth 100000 in
set_option maxHeartbeats 4000000 in
theorem folds_any (w : World) (hm : MaxIn w) : Calls Tryd.prog 13 #[] w fun e w' => e = .returned (.bool true) ∧ Below w.heap.size w w' := by
  have c1 : ∀ W, Calls Tryd.prog 8 #[.string ⟨#[65, 98, 49, 195, 132]⟩] W fun e w' => e = .returned (.string ⟨#[97, 98, 49, 195, 132]⟩) ∧ Below W.heap.size W w' := fun W => by
    have h := lower_any ⟨#[65, 98, 49, 195, 132]⟩ W (by decide)
    have e : low (⟨#[65, 98, 49, 195, 132]⟩ : ByteArray).data.toList = [97, 98, 49, 195, 132] := by decide
    rw [e] at h; exact h
  have q1 : ((⟨#[97, 98, 49, 195, 132]⟩ : ByteArray).toList == (⟨#[97, 98, 49, 195, 132]⟩ : ByteArray).toList) = true := by simp
  have c2 := fun W => bool_c true (same_any ⟨#[78, 79, 78, 69]⟩ ⟨#[110, 111, 110, 101]⟩ W (by decide) (by decide)) (by decide)
  have c3 := fun W => bool_c false (same_any ⟨#[97]⟩ ⟨#[98]⟩ W (by decide) (by decide)) (by decide)
  have c4 : ∀ W, Calls Tryd.prog 10 #[.string ⟨#[32, 97, 32, 98, 32]⟩] W fun e w' => e = .returned (.string ⟨#[97, 32, 98]⟩) ∧ Below W.heap.size W w' := fun W => by
    have h := trim_any ⟨#[32, 97, 32, 98, 32]⟩ W (by decide)
    have e : trim (⟨#[32, 97, 32, 98, 32]⟩ : ByteArray).data.toList = [97, 32, 98] := by decide
    rw [e] at h; exact h
  have q4 : ((⟨#[97, 32, 98]⟩ : ByteArray).toList == (⟨#[97, 32, 98]⟩ : ByteArray).toList) = true := by simp
  have c5 : ∀ W, Calls Tryd.prog 15 #[.string ⟨#[32, 97, 32, 32, 98, 32]⟩] W (SomeTexts [[97], [98]] W) := fun W => by
    have h := words_any ⟨#[32, 97, 32, 32, 98, 32]⟩ W (by decide)
    have e : words (⟨#[32, 97, 32, 32, 98, 32]⟩ : ByteArray).data.toList = [[97], [98]] := by decide
    rw [e] at h; exact h.mono fun e w' => some_of
  have c6 : ∀ W, MaxIn W → Calls Tryd.prog 17 #[.string ⟨#[97, 59, 32, 98, 59, 59]⟩, .int .u8 59] W (SomeTexts [[97], [98], [], []] W) := fun W hW => by
    have h := parts_any ⟨#[97, 59, 32, 98, 59, 59]⟩ 59 W (by decide) hW
    have e : parts (⟨#[97, 59, 32, 98, 59, 59]⟩ : ByteArray).data.toList 59 = [[97], [98], [], []] := by decide
    rw [e] at h; exact h.mono fun e w' => some_of
  have c7 : ∀ W, MaxIn W → Calls Tryd.prog 17 #[.string ⟨#[]⟩, .int .u8 59] W (SomeTexts [[]] W) := fun W hW => by
    have h := parts_any ⟨#[]⟩ 59 W (by decide) hW
    have e : parts (⟨#[]⟩ : ByteArray).data.toList 59 = [[]] := by decide
    rw [e] at h; exact h.mono fun e w' => some_of
  have c8 : ∀ W, Calls Tryd.prog 19 #[.int .u8 12] W fun e w' => e = .returned (.bool true) ∧ W = w' := fun W => blank_any 12 W
  have c9 : ∀ W, Calls Tryd.prog 19 #[.int .u8 11] W fun e w' => e = .returned (.bool false) ∧ W = w' := fun W => blank_any 11 W
  have C1 := Lib.hid c1
  have C2 := Lib.hid c2
  have C3 := Lib.hid c3
  have C4 := Lib.hid c4
  have C5 := Lib.hid c5
  have C6 := Lib.hid c6
  have C7 := Lib.hid c7
  have C8 := Lib.hid c8
  have C9 := Lib.hid c9
  clear c1 c2 c3 c4 c5 c6 c7 c8 c9
  go_enter Tryd.func13, Tryd.ntmps13
  go_wp2_with fail
  refine (C1.out _).mono ?_
  rintro e w1 ⟨rfl, b1⟩
  go_wp2_with fail
  refine (C2.out _).mono ?_
  rintro e w2 ⟨rfl, b2⟩
  have B2 := b1.trans (b2.mono b1.size)
  clear b1 b2
  go_wp2_with fail
  refine (C3.out _).mono ?_
  rintro e w3 ⟨rfl, b3⟩
  have B3 := B2.trans (b3.mono B2.size)
  clear b3 B2
  go_wp2_with fail
  refine (C4.out _).mono ?_
  rintro e w4 ⟨rfl, b4⟩
  have B4 := B3.trans (b4.mono B3.size)
  clear b4 B3
  go_wp2_with fail
  refine (C5.out _).mono ?_
  rintro e w5 ⟨a5, k5, rfl, t5, b5⟩
  have B5 := B4.trans (b5.mono B4.size)
  clear b5 B4
  have t5' := t5.below ((Below.refl w5.heap.size w5).alloc (Nat.le_refl _) (.cells (txtCells [[97], [98]]).toArray 9))
  have n5 := textsIn_new w5 [[97], [98]] 2
  have B5' := B5.alloc B5.size (.cells (txtCells [[97], [98]]).toArray 9)
  go_wp2_with fail
  refine (texts_bool _ _ true (eqT_self _) _ _ _ t5' n5 (by decide) (by decide)).mono ?_
  rintro e w6 ⟨rfl, b6⟩
  have B6 := B5'.trans (b6.mono (by have := B5'.size; simpa using this))
  clear b6 B5' B5 t5 t5' n5
  go_wp2_with fail
  refine (C6.out _ (hm.below B6)).mono ?_
  rintro e w7 ⟨a7, k7, rfl, t7, b7⟩
  have B7 := B6.trans (b7.mono B6.size)
  clear b7 B6
  have t7' := t7.below ((Below.refl w7.heap.size w7).alloc (Nat.le_refl _) (.cells (txtCells [[97], [98], [], []]).toArray 9))
  have n7 := textsIn_new w7 [[97], [98], [], []] 4
  have B7' := B7.alloc B7.size (.cells (txtCells [[97], [98], [], []]).toArray 9)
  go_wp2_with fail
  refine (texts_bool _ _ true (eqT_self _) _ _ _ t7' n7 (by decide) (by decide)).mono ?_
  rintro e w8 ⟨rfl, b8⟩
  have B8 := B7'.trans (b8.mono (by have := B7'.size; simpa using this))
  clear b8 B7' B7 t7 t7' n7
  go_wp2_with fail
  refine (C7.out _ (hm.below B8)).mono ?_
  rintro e w9 ⟨a9, k9, rfl, t9, b9⟩
  have B9 := B8.trans (b9.mono B8.size)
  clear b9 B8
  have t9' := t9.below ((Below.refl w9.heap.size w9).alloc (Nat.le_refl _) (.cells (txtCells [[]]).toArray 9))
  have n9 := textsIn_new w9 [[]] 1
  have B9' := B9.alloc B9.size (.cells (txtCells [[]]).toArray 9)
  go_wp2_with fail
  refine (texts_bool _ _ true (eqT_self _) _ _ _ t9' n9 (by decide) (by decide)).mono ?_
  rintro e w10 ⟨rfl, b10⟩
  have B10 := B9'.trans (b10.mono (by have := B9'.size; simpa using this))
  clear b10 B9' B9 t9 t9' n9
  go_wp2_with fail
  refine (C8.out _).mono ?_
  rintro e w11 ⟨rfl, rfl⟩
  go_wp2_with fail
  refine (C9.out _).mono ?_
  rintro e w12 ⟨rfl, rfl⟩
  go_wp2
  go_ret
  exact ⟨rfl, B10⟩

end Go.Proofs.YthicppcidmenbaaDoor
