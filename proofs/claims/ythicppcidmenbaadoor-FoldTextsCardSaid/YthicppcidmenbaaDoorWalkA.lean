/- Blanks, small letters. -/
import Derived.Test.YthicppcidmenbaaDoorProg
import Derived.Test.YthicppcidmenbaaDoorPureB
import Derived.Test.YthicppcidmenbaaDoorShelf
import Derived.WalkKit
import Derived.WalkSpells
import Derived.WalkLawsBesides
import Derived.BigQuiet
import Derived.Deep.QuietTactic
import Derived.Outline
import Derived.Lib.SlBytesRow
import Derived.Lib.SlBytesConst
import Derived.Lib.ConvBytes
import Derived.Lib.SmallJoins
import Derived.Lib.Hide
namespace Go.Proofs.YthicppcidmenbaaDoor
open Go.RowKit

theorem ret_bool {a b : Bool} (h : a = b) : Ending.returned (.bool a) = .returned (.bool b) := by rw [h]

theorem indexByte_mem (l : List UInt8) (c : UInt8) : (l.contains c = true ∧ 0 ≤ Lib.indexByte l c) ∨ (l.contains c = false ∧ Lib.indexByte l c = -1) := by
  induction l with
  | nil => exact .inr ⟨rfl, rfl⟩
  | cons b l ih =>
    unfold Lib.indexByte
    cases hb : (b == c)
    · have hb' : (c == b) = false := by rw [Bool.eq_false_iff] at hb ⊢; intro h; exact hb (by rw [eq_of_beq h]; simp)
      simp only [List.contains_cons, hb', Bool.false_or, Bool.false_eq_true, if_false]
      rcases ih with ⟨h1, h2⟩ | ⟨h1, h2⟩
      · left
        refine ⟨h1, ?_⟩
        rw [if_neg (by simp; omega)]; omega
      · right
        refine ⟨h1, ?_⟩
        rw [h2]; rfl
    · left
      have := eq_of_beq hb
      subst this
      simp

theorem has_any (c : UInt8) (w : World) : Calls Tryd.prog 25 #[.string ⟨#[9, 10, 12, 13, 32]⟩, .int .u8 (c.toNat : Int)] w fun e w' => e = .returned (.bool (blk c)) ∧ w = w' := by
  have hI := fun W => Tryd.strings_IndexByte ⟨#[9, 10, 12, 13, 32]⟩ (c.toNat : Int) W
  have e : ((c.toNat : Int)).toNat.toUInt8 = c := by simp
  rw [e] at hI
  have hm := indexByte_mem [9, 10, 12, 13, 32] c
  change (blk c = true ∧ _) ∨ (blk c = false ∧ _) at hm
  change ∀ W, Calls Tryd.prog 34 _ W fun e w' => e = .returned (.int .i64 (Lib.indexByte [9, 10, 12, 13, 32] c)) ∧ w' = W at hI
  generalize Lib.indexByte [9, 10, 12, 13, 32] c = n at hm hI
  generalize blk c = bl at hm ⊢
  have HI := Lib.hid hI
  clear hI e
  rcases hm with ⟨rfl, h⟩ | ⟨rfl, rfl⟩
  · go_enter Tryd.func25, Tryd.ntmps25
    go_wp2_with (go_at_call 34; refine (HI.out _).mono ?_; rintro e w' ⟨rfl, rfl⟩)
    go_ret
    exact ⟨rfl, rfl⟩
  · go_enter Tryd.func25, Tryd.ntmps25
    go_wp2_with (go_at_call 34; refine (HI.out _).mono ?_; rintro e w' ⟨rfl, rfl⟩)
    go_ret
    exact ⟨rfl, rfl⟩

theorem blank_any (c : UInt8) (w : World) : Calls Tryd.prog 19 #[.int .u8 (c.toNat : Int)] w fun e w' => e = .returned (.bool (blk c)) ∧ w = w' := by
  go_enter Tryd.func19, Tryd.ntmps19
  go_wp2_with (go_at_call 25; refine (has_any c _).mono ?_; rintro e w' ⟨rfl, rfl⟩)
  go_ret
  exact ⟨rfl, rfl⟩

theorem hasRune_any (x : Nat) (hx : x ≤ 1114111) (w : World) : Calls Tryd.prog 23 #[.string ⟨#[9, 10, 12, 13, 32]⟩, .int .i32 (x : Int)] w fun e w' => e = .returned (.bool (pr x)) ∧ w = w' := by
  by_cases h : x < 128
  · have hz : (x : Int) < 128 := by omega
    have e1 : (x.toUInt8.toNat : Int) = (x : Int) := by simp; omega
    have e2 : pr x = blk x.toUInt8 := by unfold pr; rw [decide_eq_true h]; rfl
    have hh := fun W => has_any x.toUInt8 W
    rw [e1] at hh
    rw [e2]
    generalize blk x.toUInt8 = bl at hh ⊢
    have HH := Lib.hid hh
    clear hh e1 e2
    go_enter Tryd.func23, Tryd.ntmps23
    go_wp2_with (go_at_call 25; refine (HH.out _).mono ?_; rintro e w' ⟨rfl, rfl⟩)
    go_ret
    exact ⟨rfl, rfl⟩
  · have hz : ¬ (x : Int) < 128 := by omega
    have e2 : pr x = false := by unfold pr; rw [decide_eq_false h]; rfl
    rw [e2]
    clear e2
    go_enter Tryd.func23, Tryd.ntmps23
    go_wp2
    go_ret
    exact ⟨rfl, rfl⟩

theorem blk_int (c : UInt8) : blk c = decide ((c.toNat : Int) = 9 ∨ (c.toNat : Int) = 10 ∨ (c.toNat : Int) = 12 ∨ (c.toNat : Int) = 13 ∨ (c.toNat : Int) = 32) := by
  rw [Bool.eq_iff_iff]
  unfold blk
  simp [← UInt8.toNat_inj]
  omega
theorem refBlank_any (c : UInt8) (w : World) : Calls Tryd.prog 20 #[.int .u8 (c.toNat : Int)] w fun e w' => e = .returned (.bool (blk c)) ∧ w = w' := by
  have hb := blk_int c
  generalize blk c = bl at hb ⊢
  generalize c.toNat = n at hb ⊢
  subst hb
  go_enter Tryd.func20, Tryd.ntmps20
  go_wp2
  all_goals go_ret
  all_goals refine ⟨ret_bool ?_, rfl⟩
  all_goals (rw [Bool.eq_iff_iff]; simp only [Bool.or_eq_true, decide_eq_true_eq, true_iff, beq_iff_eq] at *; omega)

end Go.Proofs.YthicppcidmenbaaDoor
