/- Told in parts. -/
import Derived.Test.YtnchaidmbdalbaaDoorBehind
namespace Go.Proofs.YtnchaidmbdalbaaDoor
open Go.RowKit

theorem full_mono (a m : List UInt8) (h : full a = true) : full (a ++ m) = true := by
  by_cases hne : a = []
  · rw [hne] at h; cases h
  have hl : 0 < a.length := List.length_pos_iff.2 hne
  obtain ⟨e0, e1, e2, _, _, _, _⟩ := app_parts a m hne
  unfold full at h ⊢
  rw [if_neg (by omega)] at h
  rw [List.length_append, if_neg (by omega), e0]
  split at h
  · rw [if_pos (by omega)]
  · split at h
    · rename_i h1 h2
      rw [e1 h2.1]
      split
      · rfl
      · rw [if_pos (by omega)]
    · have h3 := of_decide_eq_true h
      rw [e2 h3.1, e1 (by omega)]
      split
      · rfl
      · split
        · rfl
        · exact decide_eq_true (by omega)
theorem tell_app (a m : List UInt8) : tellP (a ++ m) = tellP a ++ tellP (rest a ++ m) ∧ rest (a ++ m) = rest (rest a ++ m) := by
  induction a using pts_ind with
  | h0 => exact ⟨rfl, rfl⟩
  | h1 a h ih =>
    by_cases hs : (decL a).1 ≠ 65533 ∨ full a = true
    · obtain ⟨e1, e2⟩ := tell_step a h hs
      have hw := width_pos a h
      have hne : a ++ m ≠ [] := fun e => h (List.append_eq_nil_iff.1 e).1
      have hst := full_stable a m h hs
      have hs2 : (decL (a ++ m)).1 ≠ 65533 ∨ full (a ++ m) = true := by
        rw [hst]
        rcases hs with h1 | h1
        · exact .inl h1
        · exact .inr (full_mono a m h1)
      obtain ⟨f1, f2⟩ := tell_step _ hne hs2
      rw [f1, f2, hst, List.drop_append_of_le_length hw.2.1, ih.1, ih.2, e1, e2]
      exact ⟨rfl, rfl⟩
    · have h1 : (decL a).1 = 65533 := Classical.byContradiction fun g => hs (.inl g)
      have h2 : full a = false := by
        cases hb : full a with
        | false => rfl
        | true => exact absurd (.inr hb) hs
      obtain ⟨e1, e2⟩ := tell_stop a h h1 h2
      rw [e1, e2]
      exact ⟨rfl, rfl⟩
theorem told_app (a m : List UInt8) : told (a ++ m) = told a ++ told (rest a ++ m) := by
  unfold told
  rw [(tell_app a m).1, encs_append]
theorem take_part (l : List UInt8) (i j : Nat) (h : i ≤ j) : l.take i ++ (l.drop i).take (j - i) = l.take j := by
  have h1 : l.take j = (l.take j).take i ++ (l.take j).drop i := (List.take_append_drop i (l.take j)).symm
  rw [h1, List.take_take, Nat.min_eq_left h, List.drop_take]
theorem told_end (l : List UInt8) : told l ++ dec (rest l) = dec l := by
  rw [dec_tell l]
  show _ = _
  rw [← pts_rest]
  rfl
theorem told_behind (l : List UInt8) (h : told l ≠ dec l) : ∃ k, 1 ≤ k ∧ k ≤ 3 ∧ k ≤ l.length ∧ told l = dec (l.take (l.length - k)) := by
  refine ⟨(rest l).length, ?_, rest_len l, ?_, told_take l⟩
  · rcases Nat.eq_zero_or_pos (rest l).length with h0 | h0
    · exfalso
      apply h
      rw [dec_tell l, h0]
      simp [encs]
    · exact h0
  · obtain ⟨k, hk, e⟩ := rest_suffix l
    rw [e]; simp

end Go.Proofs.YtnchaidmbdalbaaDoor
