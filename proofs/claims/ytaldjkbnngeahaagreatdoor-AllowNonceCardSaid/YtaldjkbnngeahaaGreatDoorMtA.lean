/- Whether a scheme, a host, a port, a path are let be: the program's. -/
import Derived.Test.YtaldjkbnngeahaaGreatDoorOrgZ
import Derived.Test.YtaldjkbnngeahaaGreatDoorSrcM
import Derived.Test.YtaldjkbnngeahaaGreatDoorPureY
namespace Go.Proofs.YtaldjkbnngeahaaGreatDoor
open Go.RowKit

theorem schL_parts (t i : ByteArray) : ∃ b0 b1 b2 b3 b4 : Bool, (t.toList == i.toList) = b0 ∧ (t.toList == [104, 116, 116, 112]) = b1 ∧ (i.toList == [104, 116, 116, 112, 115]) = b2 ∧ (t.toList == [119, 115]) = b3 ∧ (i.toList == [119, 115, 115]) = b4 ∧ Hid (schL t.data.toList i.data.toList = (b0 || (b1 && b2) || (b3 && b4))) ∧ Hid (b1 = true → b3 = false) := by
  refine ⟨_, _, _, _, _, rfl, rfl, rfl, rfl, rfl, ?_, ?_⟩
  · rw [text_two, text_lit, text_lit, text_lit, text_lit]; exact Lib.hid rfl
  · rw [text_lit, text_lit]
    refine Lib.hid fun h => ?_
    have e : t.data.toList = HTTP := of_decide_eq_true h
    rw [e]; decide

set_option maxRecDepth 100000 in
set_option maxHeartbeats 4000000 in
theorem matScheme_any (t i : ByteArray) (w : World) : Calls Tryz.prog 48 #[.string t, .string i] w fun e w' => e = .returned (.bool (schL t.data.toList i.data.toList)) ∧ w' = w := by
  obtain ⟨b0, b1, b2, b3, b4, g0, g1, g2, g3, g4, HS, HX⟩ := schL_parts t i
  cases b0 <;> cases b1 <;> cases b2 <;> cases b3 <;> cases b4
  all_goals
    first
    | exact absurd (HX.out rfl) (by decide)
    | (have HF := Lib.hid HS.out.symm
       clear HS HX
       go_enter Tryz.func48, Tryz.ntmps48
       go_wp2
       go_ret
       exact ⟨ret_bool HF.out, rfl⟩)
theorem matScheme_hid (t i : ByteArray) (b : Bool) (hb : schL t.data.toList i.data.toList = b) : Hid (∀ W, Calls Tryz.prog 48 #[.string t, .string i] W fun e w' => e = .returned (.bool b) ∧ w' = W) :=
  Lib.hid fun W => by rw [← hb]; exact matScheme_any t i W

/-! Paths. -/
theorem text_none (s : ByteArray) : s.toList.isEmpty = s.data.toList.isEmpty := text_empty s

set_option maxRecDepth 100000 in
set_option maxHeartbeats 4000000 in
theorem matPath_any (t i : ByteArray) (ht : t.size ≤ 100000) (m : Bool) (w : World) : Calls Tryz.prog 78 #[.string t, .string i, .bool m] w fun e w' => e = .returned (.bool (pathL t.data.toList i.data.toList m)) ∧ w' = w := by
  obtain ⟨b0, g0⟩ : ∃ b, t.toList.isEmpty = b := ⟨_, rfl⟩
  obtain ⟨b1, g1⟩ : ∃ b, (i.toList == t.toList) = b := ⟨_, rfl⟩
  obtain ⟨b2, h2⟩ : ∃ b, decide (t.data.toList.getLast? = some 47) = b := ⟨_, rfl⟩
  obtain ⟨b3, h3⟩ : ∃ b, t.data.toList.isPrefixOf i.data.toList = b := ⟨_, rfl⟩
  have HS : Hid (pathL t.data.toList i.data.toList m = (b0 || m || b1 || (b2 && b3))) := Lib.hid (by rw [← g0, ← g1, ← h2, ← h3, text_none, text_two]; rfl)
  have C2 : Hid (∀ W, Calls Tryz.prog 109 #[.string t, .string ⟨#[47]⟩] W fun e w' => e = .returned (.bool b2) ∧ w' = W) := Lib.hid fun W => by
    have := Tryz.strings_HasSuffix t ⟨#[47]⟩ W (by omega)
    rw [show (⟨#[47]⟩ : ByteArray).data.toList = [47] from rfl, suffix_one, h2] at this
    exact this
  have C3 : Hid (∀ W, Calls Tryz.prog 110 #[.string i, .string t] W fun e w' => e = .returned (.bool b3) ∧ w' = W) := Lib.hid fun W => by
    have := Tryz.strings_HasPrefix i t W
    rw [show Lib.hasPrefix i.data.toList t.data.toList = b3 from h3] at this
    exact this
  clear h2 h3 ht
  cases b0 <;> cases m <;> cases b1
  case false.false.false =>
    cases b2
    · have HF : Hid (false = pathL t.data.toList i.data.toList false) := Lib.hid HS.out.symm
      clear HS
      go_enter Tryz.func78, Tryz.ntmps78
      go_wp2_with fail
      refine (C2.out _).mono ?_
      rintro e w ⟨rfl, rfl⟩
      go_wp2
      go_ret
      exact ⟨ret_bool HF.out, rfl⟩
    · have HF : Hid (b3 = pathL t.data.toList i.data.toList false) := Lib.hid HS.out.symm
      clear HS
      go_enter Tryz.func78, Tryz.ntmps78
      go_wp2_with fail
      refine (C2.out _).mono ?_
      rintro e w ⟨rfl, rfl⟩
      go_wp2_with fail
      refine (C3.out _).mono ?_
      rintro e w ⟨rfl, rfl⟩
      go_wp2
      go_ret
      exact ⟨ret_bool HF.out, rfl⟩
  all_goals
    have HF : Hid (true = _) := Lib.hid HS.out.symm
    clear HS
    go_enter Tryz.func78, Tryz.ntmps78
    go_wp2
    go_ret
    exact ⟨ret_bool HF.out, rfl⟩
theorem matPath_hid (t i : ByteArray) (ht : t.size ≤ 100000) (m b : Bool) (hb : pathL t.data.toList i.data.toList m = b) : Hid (∀ W, Calls Tryz.prog 78 #[.string t, .string i, .bool m] W fun e w' => e = .returned (.bool b) ∧ w' = W) :=
  Lib.hid fun W => by rw [← hb]; exact matPath_any t i ht m W

/-! Hosts. -/
theorem ends_trim (l t : List UInt8) : endsL l t = (Lib.hasSuffix l t && !(Lib.trimSuffix l t).isEmpty) := by
  unfold endsL
  cases h : Lib.hasSuffix l t with
  | false =>
    rw [Bool.false_and]
    rw [Bool.and_eq_false_iff]
    right
    apply decide_eq_false
    intro e
    have : Lib.hasSuffix l t = true := by
      show t.isSuffixOf l = true
      rw [List.isSuffixOf_iff_suffix]
      rw [← e]
      exact List.drop_suffix _ _
    rw [h] at this; cases this
  | true =>
    have hsuf : t <:+ l := by rw [← List.isSuffixOf_iff_suffix]; exact h
    obtain ⟨a, rfl⟩ := hsuf
    have e1 : (a ++ t).drop ((a ++ t).length - t.length) = t := by
      rw [List.length_append, Nat.add_sub_cancel]; exact List.drop_left ..
    have e2 : Lib.trimSuffix (a ++ t) t = a := by
      unfold Lib.trimSuffix
      rw [if_pos h, List.length_append, Nat.add_sub_cancel]
      exact List.take_left ..
    rw [e1, e2, List.length_append]
    cases a with
    | nil => simp
    | cons x a => simp

set_option maxRecDepth 100000 in
set_option maxHeartbeats 4000000 in
theorem matHost_tame (k : Int) (t s h : ByteArray) (p : Int) (pa n : ByteArray) (hh : h.size ≤ 100000) (hn : n.size ≤ 100000) (w : World) : Calls Tryz.prog 74 #[srcV k t s h false p pa, .string n] w fun e w' => e = .returned (.bool (hostL false h.data.toList n.data.toList)) ∧ Below w.heap.size w w' := by
  obtain ⟨T, hT⟩ := text_of (low h.data.toList)
  obtain ⟨I, hI⟩ := text_of (low n.data.toList)
  have C1 := lower_hid h T hT (by omega)
  have C2 := lower_hid n I hI (by omega)
  obtain ⟨b, g⟩ : ∃ b, (T.toList == I.toList) = b := ⟨_, rfl⟩
  have HF : Hid (b = hostL false h.data.toList n.data.toList) := Lib.hid (by rw [← g, text_two, hT, hI]; rfl)
  clear hT hI hh hn
  unfold srcV
  go_enter Tryz.func74, Tryz.ntmps74
  go_wp2_with fail
  have x1 := SX.made w k t s h false p pa
  have B1 : Below w.heap.size w (w.alloc (.cells #[.int .i64 k, .string t, .string s, .string h, .bool false, .int .i64 p, .string pa] 40)) := (Below.refl _ _).alloc (Nat.le_refl _) _
  generalize hR : w.heap.size = R at x1 B1 ⊢
  have HR := Lib.hid hR
  clear hR
  generalize w.alloc (.cells #[.int .i64 k, .string t, .string s, .string h, .bool false, .int .i64 p, .string pa] 40) = w1 at x1 B1 ⊢
  refine (C1.out _).mono ?_
  rintro e w2 ⟨rfl, b2⟩
  have x2 := x1.below b2
  have B2 := B1.trans (b2.mono (Nat.le_of_lt x1.lt))
  clear b2 x1 B1
  go_wp2_with fail
  refine (C2.out _).mono ?_
  rintro e w3 ⟨rfl, b3⟩
  have x3 := x2.below b3
  have B3 := B2.trans (b3.mono (Nat.le_of_lt x2.lt))
  have c4 := x3.c4
  clear b3 x2 B2
  go_wp2
  go_ret
  exact ⟨ret_bool HF.out, by rw [HR.out]; exact B3⟩

set_option maxRecDepth 100000 in
set_option maxHeartbeats 4000000 in
theorem matHost_wild (k : Int) (t s h : ByteArray) (p : Int) (pa n : ByteArray) (hh : h.size ≤ 100000) (hn : n.size ≤ 100000) (w : World) : Calls Tryz.prog 74 #[srcV k t s h true p pa, .string n] w fun e w' => e = .returned (.bool (hostL true h.data.toList n.data.toList)) ∧ Below w.heap.size w w' := by
  obtain ⟨T, hT⟩ := text_of (low h.data.toList)
  obtain ⟨I, hI⟩ := text_of (low n.data.toList)
  have sT := low_size hT
  have sI := low_size hI
  have C1 := lower_hid h T hT (by omega)
  have C2 := lower_hid n I hI (by omega)
  obtain ⟨R2, hR2⟩ := text_of (46 :: T.data.toList)
  have add := add_to ⟨#[46]⟩ T R2 hR2 (by show 1 + T.size ≤ _; omega)
  obtain ⟨A, hA⟩ := text_of (Lib.trimSuffix I.data.toList R2.data.toList)
  obtain ⟨f, hf⟩ : ∃ f, Lib.hasSuffix I.data.toList R2.data.toList = f := ⟨_, rfl⟩
  have C3 : Hid (∀ W, Calls Tryz.prog 108 #[.string I, .string R2] W fun e w' => e = .returned (.tuple #[.string A, .bool f]) ∧ w' = W) := Lib.hid fun W => by
    have := Tryz.strings_CutSuffix I R2 W (by omega)
    rw [← hA, hf, ← text_is (T := A) rfl] at this
    exact this
  obtain ⟨b0, g0⟩ : ∃ b, T.toList.isEmpty = b := ⟨_, rfl⟩
  obtain ⟨b1, g1⟩ : ∃ b, A.toList.isEmpty = b := ⟨_, rfl⟩
  have HS : Hid (hostL true h.data.toList n.data.toList = (b0 || (f && !b1))) := Lib.hid (by
    unfold hostL
    rw [if_pos rfl, ends_trim, ← g0, ← g1, ← hf, text_none, text_none, hA, hR2, hT, hI])
  clear hT hI hh hn sT sI hR2 hA hf
  unfold srcV
  cases b0 <;> cases f <;> cases b1
  all_goals
    have HF := Lib.hid HS.out.symm
    clear HS
    go_enter Tryz.func74, Tryz.ntmps74
    go_wp2_with fail
    have x1 := SX.made w k t s h true p pa
    have B1 : Below w.heap.size w (w.alloc (.cells #[.int .i64 k, .string t, .string s, .string h, .bool true, .int .i64 p, .string pa] 40)) := (Below.refl _ _).alloc (Nat.le_refl _) _
    generalize hR : w.heap.size = R at x1 B1 ⊢
    have HR := Lib.hid hR
    clear hR
    generalize w.alloc (.cells #[.int .i64 k, .string t, .string s, .string h, .bool true, .int .i64 p, .string pa] 40) = w1 at x1 B1 ⊢
    refine (C1.out _).mono ?_
    rintro e w2 ⟨rfl, b2⟩
    have x2 := x1.below b2
    have B2 := B1.trans (b2.mono (Nat.le_of_lt x1.lt))
    clear b2 x1 B1
    go_wp2_with fail
    refine (C2.out _).mono ?_
    rintro e w3 ⟨rfl, b3⟩
    have x3 := x2.below b3
    have B3 := B2.trans (b3.mono (Nat.le_of_lt x2.lt))
    have c4 := x3.c4
    clear b3 x2 B2
    go_wp2_with fail
    first
    | (go_ret
       exact ⟨ret_bool HF.out, by rw [HR.out]; exact B3⟩)
    | (refine (C3.out _).mono ?_
       rintro e w3 ⟨rfl, rfl⟩
       go_wp2
       go_ret
       exact ⟨ret_bool HF.out, by rw [HR.out]; exact B3⟩)
theorem matHost_hid (k : Int) (t s h : ByteArray) (wd : Bool) (p : Int) (pa n : ByteArray) (hh : h.size ≤ 100000) (hn : n.size ≤ 100000) (b : Bool) (hb : hostL wd h.data.toList n.data.toList = b) : Hid (∀ W, Calls Tryz.prog 74 #[srcV k t s h wd p pa, .string n] W fun e w' => e = .returned (.bool b) ∧ Below W.heap.size W w') :=
  Lib.hid fun W => by
    rw [← hb]
    cases wd
    · exact matHost_tame k t s h p pa n hh hn W
    · exact matHost_wild k t s h p pa n hh hn W

end Go.Proofs.YtaldjkbnngeahaaGreatDoor
