/- One sign: the program's number, the document's value; texts without their =; a text's form, the program's. -/
import Derived.Test.YtmfejcmhbncchaaGreatDoorProg
import Derived.Test.YtmfejcmhbncchaaGreatDoorPureZ
import Derived.Test.YtmfejcmhbncchaaGreatDoorWalkB
import Derived.Test.YtmfejcmhbncchaaGreatDoorShelf
import Derived.WalkKit
import Derived.WalkSpells
import Derived.WalkLawsBesides
import Derived.BigQuiet
import Derived.Deep.QuietTactic
import Derived.Deep.LoopGhost
import Derived.Outline
import Derived.Lib.SlBytesRow
import Derived.Lib.SlBytesConst
import Derived.Lib.ConvBytes
import Derived.Lib.SmallJoins
import Derived.Lib.Hide
import Derived.OwnWalk
namespace Go.Proofs.YtmfejcmhbncchaaGreatDoor
open Go.RowKit

theorem plB_45 : plB 45 = 43 := by decide
theorem plB_95 : plB 95 = 47 := by decide
/-- The program's index of a sign. -/
theorem sign_at (c : UInt8) (n : Int) (hn : Lib.indexByte SG c = n) : Hid (∀ W, Calls Tryz.prog 100 #[.string ⟨SG.toArray⟩, .int .u8 (c.toNat : Int)] W fun e w' => e = .returned (.int .i64 n) ∧ w' = W) :=
  Lib.hid fun W => by
    have h := Tryz.strings_IndexByte ⟨SG.toArray⟩ (c.toNat : Int) W
    have e : ((c.toNat : Int)).toNat.toUInt8 = c := by simp
    rw [e] at h
    rw [← hn]
    exact h
theorem numberK_any (c : UInt8) (w : World) : Calls Tryz.prog 85 #[.int .u8 (c.toNat : Int)] w fun e w' => e = .returned (.int .i64 (val c)) ∧ w' = w := by
  have hb : c.toNat ≤ 255 := by have := c.toNat_lt; omega
  by_cases h1 : c = 45
  · subst h1
    have C := sign_at 43 (val 45) rfl
    generalize val 45 = n at *
    go_enter Tryz.func85, Tryz.ntmps85
    go_wp2_with (go_at_call 100; refine (C.out _).mono ?_; rintro e w' ⟨rfl, rfl⟩)
    go_ret
    exact ⟨rfl, rfl⟩
  by_cases h2 : c = 95
  · subst h2
    have C := sign_at 47 (val 95) rfl
    generalize val 95 = n at *
    go_enter Tryz.func85, Tryz.ntmps85
    go_wp2_with (go_at_call 100; refine (C.out _).mono ?_; rintro e w' ⟨rfl, rfl⟩)
    go_ret
    exact ⟨rfl, rfl⟩
  · have C := sign_at c (val c) (by unfold val; rw [plB_id h1 h2])
    have g1 : ((c.toNat : Int) == 45) = false := by
      rw [beq_eq_false_iff_ne]; exact fun h => h1 (byte_is (d := 45) h)
    have g2 : ((c.toNat : Int) == 95) = false := by
      rw [beq_eq_false_iff_ne]; exact fun h => h2 (byte_is (d := 95) h)
    generalize val c = n at *
    clear h1 h2
    go_enter Tryz.func85, Tryz.ntmps85
    go_wp2_with (go_at_call 100; refine (C.out _).mono ?_; rintro e w' ⟨rfl, rfl⟩)
    go_ret
    exact ⟨rfl, rfl⟩
theorem numberK_hid (c : UInt8) (n : Int) (h : val c = n) : Hid (∀ W, Calls Tryz.prog 85 #[.int .u8 (c.toNat : Int)] W fun e w' => e = .returned (.int .i64 n) ∧ w' = W) :=
  Lib.hid fun W => by rw [← h]; exact numberK_any c W

theorem without_any (s : ByteArray) (T : ByteArray) (hT : T.data.toList = hd s.data.toList) (hs : s.size ≤ 9223372036854775807) (w : World) : Calls Tryz.prog 84 #[.string s] w fun e w' => e = .returned (.string T) ∧ w' = w := by
  have C : Hid (∀ W, Calls Tryz.prog 99 #[.string s, .string ⟨#[61]⟩] W fun e w' => e = .returned (.string T) ∧ w' = W) := Lib.hid fun W => by
    rw [text_is hT]; exact Tryz.strings_TrimRight_one s 61 (by decide) W hs
  clear hT
  go_enter Tryz.func84, Tryz.ntmps84
  go_wp2_with (go_at_call 99; refine (C.out _).mono ?_; rintro e w' ⟨rfl, rfl⟩)
  go_ret
  exact ⟨rfl, rfl⟩

end Go.Proofs.YtmfejcmhbncchaaGreatDoor
