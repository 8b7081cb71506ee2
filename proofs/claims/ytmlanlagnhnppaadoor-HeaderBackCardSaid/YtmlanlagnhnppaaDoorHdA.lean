/- A word, a directive's name: the program's. -/
import Derived.Test.YtmlanlagnhnppaaDoorRefHH
namespace Go.Proofs.YtmlanlagnhnppaaDoor
open Go.RowKit

def nameSet : List UInt8 := [97, 98, 99, 100, 101, 102, 103, 104, 105, 106, 107, 108, 109, 110, 111, 112, 113, 114, 115, 116, 117, 118, 119, 120, 121, 122, 48, 49, 50, 51, 52, 53, 54, 55, 56, 57, 45]
theorem nameSet_nB (b : UInt8) : nameSet.contains b = nB b := by revert b; exact byte_any (by decide +kernel)
theorem dropWhile_all {p : UInt8 → Bool} : ∀ {l : List UInt8}, l.dropWhile p = [] → l.all p = true
  | [], _ => rfl
  | b :: l, h => by
    rw [List.dropWhile_cons] at h
    cases hb : p b
    · rw [hb] at h; simp at h
    · rw [hb] at h
      rw [List.all_cons, hb, dropWhile_all (by simpa using h)]; rfl
theorem dropWhile_none {p : UInt8 → Bool} : ∀ {l : List UInt8}, l.all p = true → l.dropWhile p = []
  | [], _ => rfl
  | b :: l, h => by
    rw [List.all_cons, Bool.and_eq_true] at h
    rw [List.dropWhile_cons, h.1]
    simpa using dropWhile_none h.2
theorem all_reverse (p : UInt8 → Bool) (l : List UInt8) : l.reverse.all p = l.all p := by
  rw [Bool.eq_iff_iff]; simp
theorem trimS_empty (l cs : List UInt8) : (Lib.trimS l cs).isEmpty = l.all (cs.contains ·) := by
  rw [Bool.eq_iff_iff, List.isEmpty_iff]
  constructor
  · intro h
    unfold Lib.trimS Lib.trimLeftS at h
    have h1 := dropWhile_all h
    unfold Lib.trimRightS at h1
    rw [all_reverse] at h1
    have h2 : ∃ a, l.reverse = a ++ l.reverse.dropWhile (cs.contains ·) ∧ ∀ b ∈ a, cs.contains b = true := dropWhile_suffix _ _
    obtain ⟨a, h3, h4⟩ := h2
    rw [← all_reverse, h3, List.all_append, h1, Bool.and_true, List.all_eq_true]
    exact h4
  · intro h
    unfold Lib.trimS Lib.trimLeftS Lib.trimRightS
    rw [dropWhile_none (l := l.reverse) (by rw [all_reverse]; exact h)]
    rfl

set_option maxRecDepth 100000 in
set_option maxHeartbeats 1000000 in
theorem isWord_any (s : ByteArray) (hs : s.size ≤ 1099511627776) (w : World) : Calls Tryd.prog 54 #[.string s] w fun e w' => e = .returned (.bool (wordH s.data.toList)) ∧ w = w' := by
  have hm : wordH s.data.toList = (!s.data.toList.isEmpty && s.data.toList.all wB) := rfl
  rw [← text_empty] at hm
  have HM : Hid (wordH s.data.toList = (!s.toList.isEmpty && s.data.toList.all wB)) := Lib.hid hm
  clear hm
  obtain ⟨ie, hie⟩ : ∃ ie, s.toList.isEmpty = ie := ⟨_, rfl⟩
  rw [hie] at HM
  go_enter Tryd.func54, Tryd.ntmps54
  go_wp2
  go_loop [7] (fun i => ∃ k : Nat, k ≤ s.size ∧ i = .int .i64 k ∧ Hid ((s.data.toList.take k).all wB = true)) (fun i => s.size - (intOf i).toNat)
  case atStart => exact ⟨0, by omega, rfl, Lib.hid rfl⟩
  case round =>
    obtain ⟨k, hk, rfl, HS⟩ := hrel
    by_cases hlt : k < s.size
    · have hst := all_step wB hlt HS.out
      rcases wB_cases s[k] with ⟨hb, c1, c2, c3, c4⟩ | ⟨hb, hc⟩
      · have HR := Lib.hid (hst.1 hb)
        clear hst hb HS
        go_wp2
        go_round
        case rel => exact ⟨k + 1, by omega, by go_num, HR⟩
        case measure => simp [intOf]; omega
      · have HR : Hid (false = wordH s.data.toList) := Lib.hid (by rw [HM.out, hst.2 hb]; simp)
        clear hst hb HS
        rcases hc with c1 | c1 | ⟨c1, c2, c3⟩ | ⟨c1, c2, c3, c4⟩
        all_goals
          go_wp2
          go_ret
          exact ⟨ret_bool HR.out, rfl⟩
    · obtain rfl : k = s.size := by omega
      have HR : Hid ((!ie) = wordH s.data.toList) := Lib.hid (by
        have := HS.out
        rw [take_all] at this; rw [HM.out, this, Bool.and_true])
      clear HM HS
      go_wp2
      go_ret
      exact ⟨ret_bool HR.out, rfl⟩
theorem isWord_hid (s : ByteArray) (b : Bool) (h : wordH s.data.toList = b) (hs : s.size ≤ 1099511627776) : Hid (∀ W, Calls Tryd.prog 54 #[.string s] W fun e w' => e = .returned (.bool b) ∧ W = w') :=
  Lib.hid fun W => by rw [← h]; exact isWord_any s hs W

set_option maxRecDepth 100000 in
set_option maxHeartbeats 1000000 in
theorem isName_any (s : ByteArray) (w : World) : Calls Tryd.prog 38 #[.string s] w fun e w' => e = .returned (.bool (nameH s.data.toList)) ∧ Below w.heap.size w w' := by
  have HM : Hid (nameH s.data.toList = (!s.data.toList.isEmpty && decide (s.data.toList.length ≤ 40) && s.data.toList.all nB)) := Lib.hid rfl
  have HLL := Lib.hid (lsize s)
  by_cases h1 : s.size = 0
  · have e : s.data.toList = [] := List.length_eq_zero_iff.1 (by rw [HLL.out]; omega)
    have HR : Hid (false = nameH s.data.toList) := Lib.hid (by rw [e]; rfl)
    have e2 : s.toList = [] := by rw [ByteArray.toList_eq]; exact e
    have e3 : s.toList.isEmpty = true := by rw [e2]; rfl
    have e4 : (!s.toList.isEmpty) = false := by rw [e3]; rfl
    clear e h1 HM HLL e3
    go_enter Tryd.func38, Tryd.ntmps38
    go_wp2
    go_ret
    exact ⟨ret_bool HR.out, Below.refl _ _⟩
  have e3 : s.toList.isEmpty = false := by
    rw [text_empty, List.isEmpty_eq_false_iff]
    intro e
    have := HLL.out
    rw [e] at this
    simp at this
    omega
  have e4 : (!s.toList.isEmpty) = true := by rw [e3]; rfl
  have HE3 := Lib.hid e3
  clear e3
  by_cases h2 : (40 : Int) < (s.size : Int)
  · have HR : Hid (false = nameH s.data.toList) := Lib.hid (by
      rw [HM.out, HLL.out, decide_eq_false (show ¬ s.size ≤ 40 by omega)]; simp)
    have e5 : decide ((s.size : Int) ≤ 40) = false := decide_eq_false (by omega)
    clear HM h1
    go_enter Tryd.func38, Tryd.ntmps38
    go_wp2
    go_ret
    exact ⟨ret_bool HR.out, Below.refl _ _⟩
  have e5 : decide ((s.size : Int) ≤ 40) = true := decide_eq_true (by omega)
  have hT := fun W => Tryd.strings_Trim_laid s ⟨#[97, 98, 99, 100, 101, 102, 103, 104, 105, 106, 107, 108, 109, 110, 111, 112, 113, 114, 115, 116, 117, 118, 119, 120, 121, 122, 48, 49, 50, 51, 52, 53, 54, 55, 56, 57, 45]⟩ W (by omega) (by decide) (ascii_of_all (by decide))
  have e : Lib.trimS s.data.toList (⟨#[97, 98, 99, 100, 101, 102, 103, 104, 105, 106, 107, 108, 109, 110, 111, 112, 113, 114, 115, 116, 117, 118, 119, 120, 121, 122, 48, 49, 50, 51, 52, 53, 54, 55, 56, 57, 45]⟩ : ByteArray).data.toList = Lib.trimS s.data.toList nameSet := rfl
  rw [e] at hT
  obtain ⟨r, hr⟩ : ∃ r : ByteArray, r = ⟨(Lib.trimS s.data.toList nameSet).toArray⟩ := ⟨_, rfl⟩
  rw [← hr] at hT
  obtain ⟨b, hb⟩ : ∃ b, r.toList.isEmpty = b := ⟨_, rfl⟩
  have HR : Hid (b = nameH s.data.toList) := Lib.hid (by
    have e6 : s.data.toList.isEmpty = false := by rw [← text_empty]; exact HE3.out
    have e7 : s.data.toList.all (nameSet.contains ·) = s.data.toList.all nB := by
      congr 1; funext x; exact nameSet_nB x
    have e8 : r.toList.isEmpty = s.data.toList.all nB := by rw [text_empty, hr, ← e7, ← trimS_empty]
    rw [HM.out, e6, HLL.out, decide_eq_true (show s.size ≤ 40 by omega), ← hb, e8]; rfl)
  have HT := Lib.hid hT
  clear hT e hr HM h1 h2
  go_enter Tryd.func38, Tryd.ntmps38
  go_wp2_with (go_at_call 51; refine (HT.out _).mono ?_; rintro e w' ⟨rfl, hb'⟩)
  go_ret
  exact ⟨ret_bool HR.out, hb'⟩
theorem isName_hid (s : ByteArray) (b : Bool) (h : nameH s.data.toList = b) : Hid (∀ W, Calls Tryd.prog 38 #[.string s] W fun e w' => e = .returned (.bool b) ∧ Below W.heap.size W w') :=
  Lib.hid fun W => by rw [← h]; exact isName_any s W

end Go.Proofs.YtmlanlagnhnppaaDoor
