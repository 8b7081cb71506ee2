/- One sign: the program's number, the document's value; texts without their =; a text's form, the program's. -/
import Derived.Test.YteagchgoiofjgaaDoorProg
import Derived.Test.YteagchgoiofjgaaDoorPureB
import Derived.Test.YteagchgoiofjgaaDoorShelf
import Derived.WalkKit
import Derived.WalkSpells
import Derived.WalkLawsBesides
import Derived.BigQuiet
import Derived.Deep.QuietTactic
import Derived.Deep.LoopGhost
import Derived.Outline
import Derived.Lib.SlBytesRow
import Derived.Lib.SlBytesConst
import Derived.Lib.ConvBytes
import Derived.Lib.SmallJoins
import Derived.Lib.Hide
import Derived.OwnWalk
namespace Go.Proofs.YteagchgoiofjgaaDoor
open Go.RowKit

theorem ret_int {k : IntKind} {a b : Int} (h : a = b) : Ending.returned (.int k a) = .returned (.int k b) := by rw [h]
theorem ret_bool {a b : Bool} (h : a = b) : Ending.returned (.bool a) = .returned (.bool b) := by rw [h]
theorem lsize (s : ByteArray) : s.data.toList.length = s.size := by simp
theorem text_of (l : List UInt8) : ∃ T : ByteArray, T.data.toList = l := ⟨⟨l.toArray⟩, rfl⟩
theorem text_is {T : ByteArray} {l : List UInt8} (h : T.data.toList = l) : T = ⟨l.toArray⟩ := by
  apply ByteArray.ext
  apply Array.toList_inj.1
  rw [h]
theorem text_eq (s t : ByteArray) : (s.toList == t.toList) = decide (s.data.toList = t.data.toList) := by
  rw [ByteArray.toList_eq, ByteArray.toList_eq, Bool.eq_iff_iff]
  simp
theorem text_empty (s : ByteArray) : s.toList.isEmpty = s.data.toList.isEmpty := by rw [ByteArray.toList_eq]

theorem plB_45 : plB 45 = 43 := by decide
theorem plB_95 : plB 95 = 47 := by decide
theorem byte_is {c d : UInt8} (h : (c.toNat : Int) = (d.toNat : Int)) : c = d := by
  apply UInt8.toNat_inj.1
  omega
/-- The program's index of a sign. -/
theorem sign_at (c : UInt8) (n : Int) (hn : Lib.indexByte SG c = n) : Hid (∀ W, Calls Tryd.prog 34 #[.string ⟨SG.toArray⟩, .int .u8 (c.toNat : Int)] W fun e w' => e = .returned (.int .i64 n) ∧ w' = W) :=
  Lib.hid fun W => by
    have h := Tryd.strings_IndexByte ⟨SG.toArray⟩ (c.toNat : Int) W
    have e : ((c.toNat : Int)).toNat.toUInt8 = c := by simp
    rw [e] at h
    rw [← hn]
    exact h
theorem number_any (c : UInt8) (w : World) : Calls Tryd.prog 26 #[.int .u8 (c.toNat : Int)] w fun e w' => e = .returned (.int .i64 (val c)) ∧ w' = w := by
  have hb : c.toNat ≤ 255 := by have := c.toNat_lt; omega
  by_cases h1 : c = 45
  · subst h1
    have C := sign_at 43 (val 45) rfl
    generalize val 45 = n at *
    go_enter Tryd.func26, Tryd.ntmps26
    go_wp2_with (go_at_call 34; refine (C.out _).mono ?_; rintro e w' ⟨rfl, rfl⟩)
    go_ret
    exact ⟨rfl, rfl⟩
  by_cases h2 : c = 95
  · subst h2
    have C := sign_at 47 (val 95) rfl
    generalize val 95 = n at *
    go_enter Tryd.func26, Tryd.ntmps26
    go_wp2_with (go_at_call 34; refine (C.out _).mono ?_; rintro e w' ⟨rfl, rfl⟩)
    go_ret
    exact ⟨rfl, rfl⟩
  · have C := sign_at c (val c) (by unfold val; rw [plB_id h1 h2])
    have g1 : ((c.toNat : Int) == 45) = false := by
      rw [beq_eq_false_iff_ne]; exact fun h => h1 (byte_is (d := 45) h)
    have g2 : ((c.toNat : Int) == 95) = false := by
      rw [beq_eq_false_iff_ne]; exact fun h => h2 (byte_is (d := 95) h)
    generalize val c = n at *
    clear h1 h2
    go_enter Tryd.func26, Tryd.ntmps26
    go_wp2_with (go_at_call 34; refine (C.out _).mono ?_; rintro e w' ⟨rfl, rfl⟩)
    go_ret
    exact ⟨rfl, rfl⟩
theorem number_hid (c : UInt8) (n : Int) (h : val c = n) : Hid (∀ W, Calls Tryd.prog 26 #[.int .u8 (c.toNat : Int)] W fun e w' => e = .returned (.int .i64 n) ∧ w' = W) :=
  Lib.hid fun W => by rw [← h]; exact number_any c W

theorem without_any (s : ByteArray) (T : ByteArray) (hT : T.data.toList = hd s.data.toList) (hs : s.size ≤ 9223372036854775807) (w : World) : Calls Tryd.prog 22 #[.string s] w fun e w' => e = .returned (.string T) ∧ w' = w := by
  have C : Hid (∀ W, Calls Tryd.prog 33 #[.string s, .string ⟨#[61]⟩] W fun e w' => e = .returned (.string T) ∧ w' = W) := Lib.hid fun W => by
    rw [text_is hT]; exact Tryd.strings_TrimRight_one s 61 (by decide) W hs
  clear hT
  go_enter Tryd.func22, Tryd.ntmps22
  go_wp2_with (go_at_call 33; refine (C.out _).mono ?_; rintro e w' ⟨rfl, rfl⟩)
  go_ret
  exact ⟨rfl, rfl⟩

end Go.Proofs.YteagchgoiofjgaaDoor
