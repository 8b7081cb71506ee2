/- Blanks, small letters, trimmed texts; letters and digits: the document's. -/
import Derived.Test.YtlkpdepdflcbcaaGreatDoorWalkO
namespace Go.Proofs.YtlkpdepdflcbcaaGreatDoor
open Go.RowKit

theorem blk_int (c : UInt8) : blk c = decide ((c.toNat : Int) = 9 ∨ (c.toNat : Int) = 10 ∨ (c.toNat : Int) = 12 ∨ (c.toNat : Int) = 13 ∨ (c.toNat : Int) = 32) := by
  rw [Bool.eq_iff_iff]
  unfold blk
  simp [← UInt8.toNat_inj]
  omega
theorem refBlank_any (c : UInt8) (w : World) : Calls Tryz.prog 72 #[.int .u8 (c.toNat : Int)] w fun e w' => e = .returned (.bool (blk c)) ∧ w = w' := by
  have hb := blk_int c
  generalize blk c = bl at hb ⊢
  generalize c.toNat = n at hb ⊢
  subst hb
  go_enter Tryz.func72, Tryz.ntmps72
  go_wp2
  all_goals go_ret
  all_goals refine ⟨ret_bool ?_, rfl⟩
  all_goals (rw [Bool.eq_iff_iff]; simp only [Bool.or_eq_true, decide_eq_true_eq, true_iff, beq_iff_eq] at *; omega)

theorem conv_row {w : World} {base : Nat} {v : Value} {n : Nat} {l : List UInt8} (h : w.ownsRow base 5 1 v n (Lib.byteCells l)) :
    (convert 70 9 v).run Tryz.prog w = .ok (.string ⟨l.toArray⟩) w := by
  have hl : l.length = n := by have := h.1; simpa [Lib.byteCells_length] using this
  rcases rowForms h with ⟨rfl, h2⟩ | ⟨g, cap, rfl⟩
  · have e : l = [] := List.length_eq_zero_iff.1 (by omega)
    rw [e]
    exact run_convert_bytes_nil (P := Tryz.prog) w 70 5 Tryz.underlying70 Tryz.underlying5 0 0 9 Tryz.underlying9
  · subst hl
    refine run_convert_bytes_back (P := Tryz.prog) w 70 9 5 ⟨g, 0, none⟩ cap l Tryz.underlying70 Tryz.underlying5 Tryz.underlying9 (fun j hj => ?_)
    have e : (⟨g, 0, none⟩ : Addr).add j = ⟨g, j, none⟩ := by simp [Addr.add]; omega
    rw [e, h.cellAt j (by omega)]
    simp [Lib.byteCells, List.getElem?_eq_getElem hj]
theorem byteCells_append (a b : List UInt8) : Lib.byteCells (a ++ b) = Lib.byteCells a ++ Lib.byteCells b := by simp [Lib.byteCells]
theorem byteCells_one (b : UInt8) : Lib.byteCells [b] = [.int .u8 (b.toNat : Int)] := by simp [Lib.byteCells]

theorem extract_mk {s : ByteArray} {i j : Nat} {l : List UInt8} (h : (s.data.toList.drop i).take (j - i) = l) : s.extract i j = ⟨l.toArray⟩ := by
  apply ByteArray.ext
  apply Array.toList_inj.1
  rw [extract_toList, h]
theorem take_drop_swap (l : List UInt8) (i j : Nat) : (l.drop i).take (j - i) = (l.take j).drop i := by
  rw [List.drop_take]

/-- What the two loops of the document's Trim know. -/
def Front (l : List UInt8) (i : Nat) : Prop := ∀ k, k < i → ∀ b, l[k]? = some b → blk b = true
def Back (l : List UInt8) (j : Nat) : Prop := ∀ k, j ≤ k → ∀ b, l[k]? = some b → blk b = true

set_option maxRecDepth 100000 in
set_option maxHeartbeats 1000000 in
theorem refTrim_any (s : ByteArray) (w : World) (hs : s.size ≤ 1099511627776) :
    Calls Tryz.prog 51 #[.string s] w fun e w' => e = .returned (.string ⟨(trim s.data.toList).toArray⟩) ∧ w = w' := by
  go_enter Tryz.func51, Tryz.ntmps51
  go_wp2
  go_loop [3] (fun i => ∃ k : Nat, i = .int .i64 k ∧ k ≤ s.size ∧ Hid (Front s.data.toList k)) (fun i => s.size - (intOf i).toNat)
  case atStart => exact ⟨0, rfl, Nat.zero_le _, Lib.hid (fun k hk => by omega)⟩
  case round =>
    obtain ⟨k, rfl, hk, HF⟩ := hrel
    have hgo : (∃ h : k < s.size, blk s[k] = true) ∨ ((k = s.size) ∨ (∃ h : k < s.size, blk s[k] = false)) := by
      by_cases h : k < s.size
      · cases hb : blk s[k]
        · exact .inr (.inr ⟨h, hb⟩)
        · exact .inl ⟨h, hb⟩
      · exact .inr (.inl (by omega))
    rcases hgo with ⟨hlt, hb⟩ | hend
    · have HF2 : Hid (Front s.data.toList (k + 1)) := Lib.hid (fun j hj b hjb => by
        by_cases h : j < k
        · exact HF.out j h b hjb
        · obtain rfl : j = k := by omega
          obtain ⟨b', h1, _, rfl⟩ := at_some hlt
          rw [h1] at hjb; cases hjb; exact hb)
      have c := fun W => refBlank_any s[k] W
      rw [hb] at c
      have C := Lib.hid c
      clear c hb HF
      go_wp2_with (go_at_call 72; refine (C.out _).mono ?_; rintro e w' ⟨rfl, rfl⟩)
      go_round
      case rel => exact ⟨k + 1, by go_num, by omega, HF2⟩
      case measure => simp [intOf]; omega
    · have HE : Hid (∀ j, k < j → ∀ b, s.data.toList[k]? = some b → blk b = false) := Lib.hid (fun j hj b hb => by
        rcases hend with rfl | ⟨h, hb2⟩
        · have := (get_of hb).2; omega
        · obtain ⟨b', h1, _, rfl⟩ := at_some h
          rw [h1] at hb; cases hb; exact hb2)
      have loop2 : ∀ (P : Prop), (P → P) := fun _ h => h
      have hcase : ¬ k < s.size ∨ ∃ h : k < s.size, ∀ W, Calls Tryz.prog 72 #[.int .u8 (s[k].toNat : Int)] W fun e w' => e = .returned (.bool false) ∧ W = w' := by
        rcases hend with rfl | ⟨h, hb2⟩
        · exact .inl (by omega)
        · refine .inr ⟨h, fun W => ?_⟩
          have := refBlank_any s[k] W
          rw [hb2] at this; exact this
      clear hend loop2
      rcases hcase with hlt | ⟨hlt, c⟩
      all_goals (try (have C := Lib.hid c; clear c))
      all_goals
        go_wp2_with (go_at_call 72; refine (C.out _).mono ?_; rintro e w' ⟨rfl, rfl⟩)
        go_loop [4] (fun i => ∃ j : Nat, i = .int .i64 j ∧ k ≤ j ∧ j ≤ s.size ∧ Hid (Back s.data.toList j)) (fun i => (intOf i).toNat)
        case atStart => exact ⟨s.size, rfl, hk, Nat.le_refl _, Lib.hid (fun q hq b hb => by have := (get_of hb).2; omega)⟩
        case round =>
          obtain ⟨j, rfl, hkj, hj, HB⟩ := hrel
          have hgo : (∃ m, j = m + 1 ∧ k ≤ m ∧ ∃ h : m < s.size, blk s[m] = true) ∨ j = k ∨ (∃ m, j = m + 1 ∧ k ≤ m ∧ ∃ h : m < s.size, blk s[m] = false) := by
            by_cases h : j = k
            · exact .inr (.inl h)
            · obtain ⟨m, rfl⟩ : ∃ m, j = m + 1 := ⟨j - 1, by omega⟩
              have hm : m < s.size := by omega
              cases hb : blk s[m]
              · exact .inr (.inr ⟨m, rfl, by omega, hm, hb⟩)
              · exact .inl ⟨m, rfl, by omega, hm, hb⟩
          have fin : (k < j → ∀ b, s.data.toList[j - 1]? = some b → blk b = false) → s.extract k j = ⟨(trim s.data.toList).toArray⟩ := fun h4 => by
            apply extract_mk
            rw [take_drop_swap]
            exact (trim_range s.data.toList k j hkj (by rw [lsize]; exact hj) HF.out HB.out (fun h => HE.out j h) h4).symm
          rcases hgo with ⟨m, rfl, hkm, hm, hb⟩ | rfl | ⟨m, rfl, hkm, hm, hb⟩
          · have HB2 : Hid (Back s.data.toList m) := Lib.hid (fun q hq b hqb => by
              by_cases h : m + 1 ≤ q
              · exact HB.out q h b hqb
              · obtain rfl : q = m := by omega
                obtain ⟨b', h1, _, rfl⟩ := at_some hm
                rw [h1] at hqb; cases hqb; exact hb)
            have c2 := fun W => refBlank_any s[m] W
            rw [hb] at c2
            have C2 := Lib.hid c2
            clear c2 hb HB fin
            go_wp2_with (go_at_call 72; refine (C2.out _).mono ?_; rintro e w' ⟨rfl, rfl⟩)
            first
              | done
              | (go_round
                 case rel => exact ⟨m, by go_num, hkm, by omega, HB2⟩
                 case measure => simp [intOf])
          · have hf := fin (fun h => by omega)
            have he : s.extract j j = ByteArray.empty := by simp
            rw [he] at hf
            have HFI := Lib.hid hf
            clear fin hf he
            go_wp2
            go_ret
            exact ⟨congrArg (fun x => Ending.returned (Value.string x)) HFI.out, rfl⟩
          · have hf := fin (fun h b hb3 => by
              obtain ⟨b', h1, _, rfl⟩ := at_some hm
              rw [Nat.add_sub_cancel, h1] at hb3; cases hb3; exact hb)
            have c2 := fun W => refBlank_any s[m] W
            rw [hb] at c2
            have C2 := Lib.hid c2
            have HFI := Lib.hid hf
            clear c2 hb HB fin hf
            go_wp2_with (go_at_call 72; refine (C2.out _).mono ?_; rintro e w' ⟨rfl, rfl⟩)
            all_goals go_ret
            all_goals exact ⟨congrArg (fun x => Ending.returned (Value.string x)) HFI.out, rfl⟩

theorem letter_any (c : UInt8) (w : World) : Calls Tryz.prog 49 #[.int .u8 (c.toNat : Int)] w fun e w' => e = .returned (.bool (small c)) ∧ w' = w := by
  have hb : c.toNat ≤ 255 := by have := c.toNat_lt; omega
  by_cases h1 : 97 ≤ (c.toNat : Int)
  · by_cases h2 : (c.toNat : Int) ≤ 122
    · have e : small c = true := decide_eq_true ⟨by omega, by omega⟩
      rw [e]
      clear e
      go_enter Tryz.func49, Tryz.ntmps49
      go_wp2
      go_ret
      exact ⟨rfl, rfl⟩
    · have e : small c = false := decide_eq_false (by omega)
      rw [e]
      clear e
      go_enter Tryz.func49, Tryz.ntmps49
      go_wp2
      go_ret
      exact ⟨rfl, rfl⟩
  · have e : small c = false := decide_eq_false (by omega)
    rw [e]
    clear e
    go_enter Tryz.func49, Tryz.ntmps49
    go_wp2
    go_ret
    exact ⟨rfl, rfl⟩
theorem refDigit_any (c : UInt8) (w : World) : Calls Tryz.prog 50 #[.int .u8 (c.toNat : Int)] w fun e w' => e = .returned (.bool (digit c)) ∧ w' = w := by
  have hb : c.toNat ≤ 255 := by have := c.toNat_lt; omega
  by_cases h1 : 48 ≤ (c.toNat : Int)
  · by_cases h2 : (c.toNat : Int) ≤ 57
    · have e : digit c = true := decide_eq_true ⟨by omega, by omega⟩
      rw [e]
      clear e
      go_enter Tryz.func50, Tryz.ntmps50
      go_wp2
      go_ret
      exact ⟨rfl, rfl⟩
    · have e : digit c = false := decide_eq_false (by omega)
      rw [e]
      clear e
      go_enter Tryz.func50, Tryz.ntmps50
      go_wp2
      go_ret
      exact ⟨rfl, rfl⟩
  · have e : digit c = false := decide_eq_false (by omega)
    rw [e]
    clear e
    go_enter Tryz.func50, Tryz.ntmps50
    go_wp2
    go_ret
    exact ⟨rfl, rfl⟩
theorem letter_hid (c : UInt8) (b : Bool) (h : small c = b) : Hid (∀ W, Calls Tryz.prog 49 #[.int .u8 (c.toNat : Int)] W fun e w' => e = .returned (.bool b) ∧ w' = W) := Lib.hid fun W => by rw [← h]; exact letter_any c W
theorem refDigit_hid (c : UInt8) (b : Bool) (h : digit c = b) : Hid (∀ W, Calls Tryz.prog 50 #[.int .u8 (c.toNat : Int)] W fun e w' => e = .returned (.bool b) ∧ w' = W) := Lib.hid fun W => by rw [← h]; exact refDigit_any c W


theorem refTrim_hid (s T : ByteArray) (hT : T.data.toList = trim s.data.toList) (hs : s.size ≤ 1099511627776) : Hid (∀ W, Calls Tryz.prog 51 #[.string s] W fun e w' => e = .returned (.string T) ∧ w' = W) := Lib.hid fun W => by
  rw [text_is hT]; exact (refTrim_any s W hs).mono fun e w' h => ⟨h.1, h.2.symm⟩

end Go.Proofs.YtlkpdepdflcbcaaGreatDoor
