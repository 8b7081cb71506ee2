/- Trimmed texts: the program's and the document's; texts that are the same. -/
import Derived.Test.YthicppcidmenbaaDoorWalkB
namespace Go.Proofs.YthicppcidmenbaaDoor
open Go.RowKit

theorem extract_toList (s : ByteArray) (i j : Nat) : (s.extract i j).data.toList = (s.data.toList.drop i).take (j - i) := Lib.extract_data s i j
theorem extract_mk {s : ByteArray} {i j : Nat} {l : List UInt8} (h : (s.data.toList.drop i).take (j - i) = l) : s.extract i j = ⟨l.toArray⟩ := by
  apply ByteArray.ext
  apply Array.toList_inj.1
  rw [extract_toList, h]
theorem take_drop_swap (l : List UInt8) (i j : Nat) : (l.drop i).take (j - i) = (l.take j).drop i := by
  rw [List.drop_take]

theorem trim_any (s : ByteArray) (w : World) (hs : s.size ≤ 1099511627776) :
    Calls Tryd.prog 10 #[.string s] w fun e w' => e = .returned (.string ⟨(trim s.data.toList).toArray⟩) ∧ Below w.heap.size w w' := by
  have hT := fun W => Tryd.strings_Trim_laid s ⟨#[9, 10, 12, 13, 32]⟩ W (by omega) (by decide) (ascii_of_all (by decide))
  have e : Lib.trimS s.data.toList (⟨#[9, 10, 12, 13, 32]⟩ : ByteArray).data.toList = trim s.data.toList := rfl
  rw [e] at hT
  generalize (⟨(trim s.data.toList).toArray⟩ : ByteArray) = r at hT ⊢
  have HT := Lib.hid hT
  clear hT e
  go_enter Tryd.func10, Tryd.ntmps10
  go_wp2_with (go_at_call 21; refine (HT.out _).mono ?_; rintro e w' ⟨rfl, hb⟩)
  go_ret
  exact ⟨rfl, hb⟩

/-- What the two loops of the document's Trim know. -/
def Front (l : List UInt8) (i : Nat) : Prop := ∀ k, k < i → ∀ b, l[k]? = some b → blk b = true
def Back (l : List UInt8) (j : Nat) : Prop := ∀ k, j ≤ k → ∀ b, l[k]? = some b → blk b = true

set_option maxRecDepth 100000 in
set_option maxHeartbeats 1000000 in
theorem refTrim_any (s : ByteArray) (w : World) (hs : s.size ≤ 1099511627776) :
    Calls Tryd.prog 11 #[.string s] w fun e w' => e = .returned (.string ⟨(trim s.data.toList).toArray⟩) ∧ w = w' := by
  go_enter Tryd.func11, Tryd.ntmps11
  go_wp2
  go_loop [3] (fun i => ∃ k : Nat, i = .int .i64 k ∧ k ≤ s.size ∧ Hid (Front s.data.toList k)) (fun i => s.size - (intOf i).toNat)
  case atStart => exact ⟨0, rfl, Nat.zero_le _, Lib.hid (fun k hk => by omega)⟩
  case round =>
    obtain ⟨k, rfl, hk, HF⟩ := hrel
    have hgo : (∃ h : k < s.size, blk s[k] = true) ∨ ((k = s.size) ∨ (∃ h : k < s.size, blk s[k] = false)) := by
      by_cases h : k < s.size
      · cases hb : blk s[k]
        · exact .inr (.inr ⟨h, hb⟩)
        · exact .inl ⟨h, hb⟩
      · exact .inr (.inl (by omega))
    rcases hgo with ⟨hlt, hb⟩ | hend
    · have HF2 : Hid (Front s.data.toList (k + 1)) := Lib.hid (fun j hj b hjb => by
        by_cases h : j < k
        · exact HF.out j h b hjb
        · obtain rfl : j = k := by omega
          obtain ⟨b', h1, _, rfl⟩ := at_some hlt
          rw [h1] at hjb; cases hjb; exact hb)
      have c := fun W => refBlank_any s[k] W
      rw [hb] at c
      have C := Lib.hid c
      clear c hb HF
      go_wp2_with (go_at_call 20; refine (C.out _).mono ?_; rintro e w' ⟨rfl, rfl⟩)
      go_round
      case rel => exact ⟨k + 1, by go_num, by omega, HF2⟩
      case measure => simp [intOf]; omega
    · have HE : Hid (∀ j, k < j → ∀ b, s.data.toList[k]? = some b → blk b = false) := Lib.hid (fun j hj b hb => by
        rcases hend with rfl | ⟨h, hb2⟩
        · have := (get_of hb).2; omega
        · obtain ⟨b', h1, _, rfl⟩ := at_some h
          rw [h1] at hb; cases hb; exact hb2)
      have loop2 : ∀ (P : Prop), (P → P) := fun _ h => h
      have hcase : ¬ k < s.size ∨ ∃ h : k < s.size, ∀ W, Calls Tryd.prog 20 #[.int .u8 (s[k].toNat : Int)] W fun e w' => e = .returned (.bool false) ∧ W = w' := by
        rcases hend with rfl | ⟨h, hb2⟩
        · exact .inl (by omega)
        · refine .inr ⟨h, fun W => ?_⟩
          have := refBlank_any s[k] W
          rw [hb2] at this; exact this
      clear hend loop2
      rcases hcase with hlt | ⟨hlt, c⟩
      all_goals (try (have C := Lib.hid c; clear c))
      all_goals
        go_wp2_with (go_at_call 20; refine (C.out _).mono ?_; rintro e w' ⟨rfl, rfl⟩)
        go_loop [4] (fun i => ∃ j : Nat, i = .int .i64 j ∧ k ≤ j ∧ j ≤ s.size ∧ Hid (Back s.data.toList j)) (fun i => (intOf i).toNat)
        case atStart => exact ⟨s.size, rfl, hk, Nat.le_refl _, Lib.hid (fun q hq b hb => by have := (get_of hb).2; omega)⟩
        case round =>
          obtain ⟨j, rfl, hkj, hj, HB⟩ := hrel
          have hgo : (∃ m, j = m + 1 ∧ k ≤ m ∧ ∃ h : m < s.size, blk s[m] = true) ∨ j = k ∨ (∃ m, j = m + 1 ∧ k ≤ m ∧ ∃ h : m < s.size, blk s[m] = false) := by
            by_cases h : j = k
            · exact .inr (.inl h)
            · obtain ⟨m, rfl⟩ : ∃ m, j = m + 1 := ⟨j - 1, by omega⟩
              have hm : m < s.size := by omega
              cases hb : blk s[m]
              · exact .inr (.inr ⟨m, rfl, by omega, hm, hb⟩)
              · exact .inl ⟨m, rfl, by omega, hm, hb⟩
          have fin : (k < j → ∀ b, s.data.toList[j - 1]? = some b → blk b = false) → s.extract k j = ⟨(trim s.data.toList).toArray⟩ := fun h4 => by
            apply extract_mk
            rw [take_drop_swap]
            exact (trim_range s.data.toList k j hkj (by rw [lsize]; exact hj) HF.out HB.out (fun h => HE.out j h) h4).symm
          rcases hgo with ⟨m, rfl, hkm, hm, hb⟩ | rfl | ⟨m, rfl, hkm, hm, hb⟩
          · have HB2 : Hid (Back s.data.toList m) := Lib.hid (fun q hq b hqb => by
              by_cases h : m + 1 ≤ q
              · exact HB.out q h b hqb
              · obtain rfl : q = m := by omega
                obtain ⟨b', h1, _, rfl⟩ := at_some hm
                rw [h1] at hqb; cases hqb; exact hb)
            have c2 := fun W => refBlank_any s[m] W
            rw [hb] at c2
            have C2 := Lib.hid c2
            clear c2 hb HB fin
            go_wp2_with (go_at_call 20; refine (C2.out _).mono ?_; rintro e w' ⟨rfl, rfl⟩)
            first
              | done
              | (go_round
                 case rel => exact ⟨m, by go_num, hkm, by omega, HB2⟩
                 case measure => simp [intOf])
          · have hf := fin (fun h => by omega)
            have he : s.extract j j = ByteArray.empty := by simp
            rw [he] at hf
            have HFI := Lib.hid hf
            clear fin hf he
            go_wp2
            go_ret
            exact ⟨congrArg (fun x => Ending.returned (Value.string x)) HFI.out, rfl⟩
          · have hf := fin (fun h b hb3 => by
              obtain ⟨b', h1, _, rfl⟩ := at_some hm
              rw [Nat.add_sub_cancel, h1] at hb3; cases hb3; exact hb)
            have c2 := fun W => refBlank_any s[m] W
            rw [hb] at c2
            have C2 := Lib.hid c2
            have HFI := Lib.hid hf
            clear c2 hb HB fin hf
            go_wp2_with (go_at_call 20; refine (C2.out _).mono ?_; rintro e w' ⟨rfl, rfl⟩)
            all_goals go_ret
            all_goals exact ⟨congrArg (fun x => Ending.returned (Value.string x)) HFI.out, rfl⟩

theorem text_eq (s t : ByteArray) : (s.toList == t.toList) = decide (s.data.toList = t.data.toList) := by
  rw [ByteArray.toList_eq, ByteArray.toList_eq, Bool.eq_iff_iff]
  simp
theorem same_any (s t : ByteArray) (w : World) (hs : s.size ≤ 1099511627776) (ht : t.size ≤ 1099511627776) :
    Calls Tryd.prog 12 #[.string s, .string t] w fun e w' => e = .returned (.bool (decide (low s.data.toList = low t.data.toList))) ∧ Below w.heap.size w w' := by
  have h1 := fun W => lower_any s W hs
  have h2 := fun W => lower_any t W ht
  obtain ⟨S, hS⟩ : ∃ S : ByteArray, S = ⟨(low s.data.toList).toArray⟩ := ⟨_, rfl⟩
  obtain ⟨T, hT⟩ : ∃ T : ByteArray, T = ⟨(low t.data.toList).toArray⟩ := ⟨_, rfl⟩
  have he : decide (low s.data.toList = low t.data.toList) = (S.toList == T.toList) := by
    rw [text_eq, hS, hT]
  rw [← hS] at h1
  rw [← hT] at h2
  rw [he]
  have H1 := Lib.hid h1
  have H2 := Lib.hid h2
  clear h1 h2 he hS hT
  go_enter Tryd.func12, Tryd.ntmps12
  go_wp2_with fail
  refine (H1.out _).mono ?_
  rintro e w1 ⟨rfl, hb1⟩
  go_wp2_with fail
  refine (H2.out _).mono ?_
  rintro e w2 ⟨rfl, hb2⟩
  go_wp2
  go_ret
  exact ⟨rfl, hb1.trans (hb2.mono hb1.size)⟩

end Go.Proofs.YthicppcidmenbaaDoor
