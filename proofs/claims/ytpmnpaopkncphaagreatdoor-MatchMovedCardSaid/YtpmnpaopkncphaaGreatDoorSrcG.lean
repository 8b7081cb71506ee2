/- A source's word: the program's Print. -/
import Derived.Test.YtpmnpaopkncphaaGreatDoorSrcF
namespace Go.Proofs.YtpmnpaopkncphaaGreatDoor
open Go.RowKit

theorem word_12 (t s h : ByteArray) (b : Bool) (p : Int) (pa : ByteArray) : wordS (srcM 12 t s h b p pa) = placeT s.data.toList h.data.toList b p ++ pa.data.toList := by
  rw [placeT_word 12 t]
  unfold wordS
  rw [if_neg (show ¬ (srcM 12 t s h b p pa).k = 9 from (show ¬ (12 : Int) = 9 by decide)), if_neg (show ¬ (srcM 12 t s h b p pa).k = 10 from (show ¬ (12 : Int) = 10 by decide)), if_neg (show ¬ (srcM 12 t s h b p pa).k = 11 from (show ¬ (12 : Int) = 11 by decide)), if_pos (show (srcM 12 t s h b p pa).k = 12 from rfl)]
  rfl
theorem word_kept (k : Int) (t s h : ByteArray) (b : Bool) (p : Int) (pa : ByteArray) (k9 : k ≠ 9) (k10 : k ≠ 10) (k11 : k ≠ 11) (k12 : k ≠ 12) : wordS (srcM k t s h b p pa) = keptM k := by
  unfold wordS
  rw [if_neg (show ¬ (srcM k t s h b p pa).k = 9 from k9), if_neg (show ¬ (srcM k t s h b p pa).k = 10 from k10), if_neg (show ¬ (srcM k t s h b p pa).k = 11 from k11), if_neg (show ¬ (srcM k t s h b p pa).k = 12 from k12)]
  rfl
theorem right_16 {t s h : ByteArray} {b : Bool} {p : Int} {pa : ByteArray} (hr : rightS (srcM 10 t s h b p pa) = true) : t.size = 16 := by
  unfold rightS at hr
  rw [if_neg (show ¬ (srcM 10 t s h b p pa).k = 9 from (show ¬ (10 : Int) = 9 by decide)), if_pos (show (srcM 10 t s h b p pa).k = 10 from rfl)] at hr
  simp only [Bool.and_eq_true, decide_eq_true_eq] at hr
  rw [← lsize]; exact hr.2
theorem right_ports {t s h : ByteArray} {b : Bool} {p : Int} {pa : ByteArray} (hr : rightS (srcM 12 t s h b p pa) = true) : -1 ≤ p ∧ p ≤ 65535 := by
  unfold rightS at hr
  rw [if_neg (show ¬ (srcM 12 t s h b p pa).k = 9 from (show ¬ (12 : Int) = 9 by decide)), if_neg (show ¬ (srcM 12 t s h b p pa).k = 10 from (show ¬ (12 : Int) = 10 by decide)), if_neg (show ¬ (srcM 12 t s h b p pa).k = 11 from (show ¬ (12 : Int) = 11 by decide)), if_pos (show (srcM 12 t s h b p pa).k = 12 from rfl)] at hr
  obtain ⟨_, _, _, _, h1, h2, _⟩ := shost_parts hr
  exact ⟨h1, h2⟩
theorem tup_text {a c : ByteArray} {r : Bool} (h : a = c) : Ending.returned (.tuple #[.string a, .bool r]) = .returned (.tuple #[.string c, .bool r]) := by rw [h]

end Go.Proofs.YtpmnpaopkncphaaGreatDoor
