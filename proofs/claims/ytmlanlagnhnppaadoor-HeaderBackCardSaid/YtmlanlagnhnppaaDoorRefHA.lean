/- A directive's name, a word: the document's. -/
import Derived.Test.YtmlanlagnhnppaaDoorFoldR
import Derived.Test.YtmlanlagnhnppaaDoorPureH
namespace Go.Proofs.YtmlanlagnhnppaaDoor
open Go.RowKit

theorem nB_cases (b : UInt8) : (nB b = true ∧ ((97 ≤ (b.toNat : Int) ∧ (b.toNat : Int) ≤ 122) ∨ (48 ≤ (b.toNat : Int) ∧ (b.toNat : Int) ≤ 57) ∨ ((b.toNat : Int) < 48 ∧ ((b.toNat : Int) != 45) = false))) ∨ (nB b = false ∧ ((b.toNat : Int) != 45) = true ∧ ((b.toNat : Int) < 48 ∨ (57 < (b.toNat : Int) ∧ (b.toNat : Int) < 97) ∨ 122 < (b.toNat : Int))) := by
  have e : (b == 45) = decide (b.toNat = 45) := by rw [Bool.eq_iff_iff]; simp [← UInt8.toNat_inj]
  unfold nB
  rw [e]
  by_cases h1 : 97 ≤ b.toNat ∧ b.toNat ≤ 122
  · exact .inl ⟨by simp [h1], .inl (by omega)⟩
  by_cases h2 : 48 ≤ b.toNat ∧ b.toNat ≤ 57
  · exact .inl ⟨by simp [h2], .inr (.inl (by omega))⟩
  by_cases h3 : b.toNat = 45
  · exact .inl ⟨by simp [h3], .inr (.inr ⟨by omega, by rw [bne_eq_false_iff_eq]; omega⟩)⟩
  · refine .inr ⟨by simp [h1, h2, h3], by rw [bne_iff_ne]; omega, by omega⟩

set_option maxRecDepth 100000 in
set_option maxHeartbeats 1000000 in
theorem refName_any (s : ByteArray) (w : World) : Calls Tryd.prog 45 #[.string s] w fun e w' => e = .returned (.bool (nameH s.data.toList)) ∧ w' = w := by
  have HM : Hid (nameH s.data.toList = (!s.data.toList.isEmpty && decide (s.data.toList.length ≤ 40) && s.data.toList.all nB)) := Lib.hid rfl
  have HLL := Lib.hid (lsize s)
  by_cases h1 : (s.size : Int) < 1
  · have HR : Hid (false = nameH s.data.toList) := Lib.hid (by
      have e : s.data.toList = [] := List.length_eq_zero_iff.1 (by rw [HLL.out]; omega)
      rw [e]; rfl)
    go_enter Tryd.func45, Tryd.ntmps45
    go_wp2
    go_ret
    exact ⟨ret_bool HR.out, rfl⟩
  by_cases h2 : (40 : Int) < (s.size : Int)
  · have HR : Hid (false = nameH s.data.toList) := Lib.hid (by
      rw [HM.out, HLL.out, decide_eq_false (show ¬ s.size ≤ 40 by omega)]; simp)
    go_enter Tryd.func45, Tryd.ntmps45
    go_wp2
    go_ret
    exact ⟨ret_bool HR.out, rfl⟩
  have HE : Hid (nameH s.data.toList = s.data.toList.all nB) := Lib.hid (by
    have e : s.data.toList.isEmpty = false := by
      rw [List.isEmpty_eq_false_iff]
      intro e
      have := HLL.out
      rw [e] at this
      simp at this
      omega
    rw [HM.out, e, HLL.out, decide_eq_true (show s.size ≤ 40 by omega)]; rfl)
  clear HM
  go_enter Tryd.func45, Tryd.ntmps45
  go_wp2
  go_loop [3, 4] (fun i _ => ∃ k : Nat, k ≤ s.size ∧ i = .int .i64 k ∧ Hid ((s.data.toList.take k).all nB = true)) (fun i _ => s.size - (intOf i).toNat)
  case atStart => exact ⟨0, by omega, rfl, Lib.hid rfl⟩
  case round =>
    obtain ⟨k, hk, rfl, HS⟩ := hrel
    by_cases hlt : k < s.size
    · have hst := all_step nB hlt HS.out
      rcases nB_cases s[k] with ⟨hb, hc⟩ | ⟨hb, hne, hc⟩
      · have HR := Lib.hid (hst.1 hb)
        clear hst hb HS
        rcases hc with ⟨c1, c2⟩ | ⟨c1, c2⟩ | ⟨c1, c2⟩
        all_goals
          go_wp2
          go_round
          case rel => exact ⟨k + 1, by omega, by go_num, HR⟩
          case measure => simp [intOf]; omega
      · have HR : Hid (false = nameH s.data.toList) := Lib.hid (by rw [HE.out, hst.2 hb])
        clear hst hb HS
        rcases hc with c1 | ⟨c1, c2⟩ | c1
        all_goals
          go_wp2
          go_ret
          exact ⟨ret_bool HR.out, rfl⟩
    · obtain rfl : k = s.size := by omega
      have HR : Hid (true = nameH s.data.toList) := Lib.hid (by
        have := HS.out
        rw [take_all] at this; rw [HE.out, this])
      clear HE HS
      go_wp2
      go_ret
      exact ⟨ret_bool HR.out, rfl⟩
theorem refName_hid (s : ByteArray) (b : Bool) (h : nameH s.data.toList = b) : Hid (∀ W, Calls Tryd.prog 45 #[.string s] W fun e w' => e = .returned (.bool b) ∧ w' = W) :=
  Lib.hid fun W => by rw [← h]; exact refName_any s W

theorem wB_cases (b : UInt8) : (wB b = true ∧ 33 ≤ (b.toNat : Int) ∧ (b.toNat : Int) ≤ 126 ∧ ((b.toNat : Int) == 44) = false ∧ ((b.toNat : Int) == 59) = false) ∨ (wB b = false ∧ ((b.toNat : Int) < 33 ∨ 126 < (b.toNat : Int) ∨ (33 ≤ (b.toNat : Int) ∧ (b.toNat : Int) ≤ 126 ∧ ((b.toNat : Int) == 44) = true) ∨ (33 ≤ (b.toNat : Int) ∧ (b.toNat : Int) ≤ 126 ∧ ((b.toNat : Int) == 44) = false ∧ ((b.toNat : Int) == 59) = true))) := by
  have e1 : (b == 44) = ((b.toNat : Int) == 44) := (int_beq b 44).symm
  have e2 : (b == 59) = ((b.toNat : Int) == 59) := (int_beq b 59).symm
  unfold wB
  rw [e1, e2]
  by_cases h1 : 33 ≤ b.toNat ∧ b.toNat ≤ 126
  · rw [decide_eq_true h1]
    cases g1 : ((b.toNat : Int) == 44)
    · cases g2 : ((b.toNat : Int) == 59)
      · exact .inl ⟨rfl, by omega, by omega, rfl, rfl⟩
      · exact .inr ⟨rfl, .inr (.inr (.inr ⟨by omega, by omega, rfl, rfl⟩))⟩
    · exact .inr ⟨rfl, .inr (.inr (.inl ⟨by omega, by omega, rfl⟩))⟩
  · rw [decide_eq_false h1]
    exact .inr ⟨rfl, by omega⟩

set_option maxRecDepth 100000 in
set_option maxHeartbeats 1000000 in
theorem refWord_any (s : ByteArray) (hs : s.size ≤ 1099511627776) (w : World) : Calls Tryd.prog 44 #[.string s] w fun e w' => e = .returned (.bool (wordH s.data.toList)) ∧ w' = w := by
  have hm : wordH s.data.toList = (!s.data.toList.isEmpty && s.data.toList.all wB) := rfl
  rw [← text_empty] at hm
  have HM : Hid (wordH s.data.toList = (!s.toList.isEmpty && s.data.toList.all wB)) := Lib.hid hm
  clear hm
  obtain ⟨ie, hie⟩ : ∃ ie, s.toList.isEmpty = ie := ⟨_, rfl⟩
  rw [hie] at HM
  go_enter Tryd.func44, Tryd.ntmps44
  go_wp2
  go_loop [3] (fun i => ∃ k : Nat, k ≤ s.size ∧ i = .int .i64 k ∧ Hid ((s.data.toList.take k).all wB = true)) (fun i => s.size - (intOf i).toNat)
  case atStart => exact ⟨0, by omega, rfl, Lib.hid rfl⟩
  case round =>
    obtain ⟨k, hk, rfl, HS⟩ := hrel
    by_cases hlt : k < s.size
    · have hst := all_step wB hlt HS.out
      rcases wB_cases s[k] with ⟨hb, c1, c2, c3, c4⟩ | ⟨hb, hc⟩
      · have HR := Lib.hid (hst.1 hb)
        clear hst hb HS
        go_wp2
        go_round
        case rel => exact ⟨k + 1, by omega, by go_num, HR⟩
        case measure => simp [intOf]; omega
      · have HR : Hid (false = wordH s.data.toList) := Lib.hid (by rw [HM.out, hst.2 hb]; simp)
        clear hst hb HS
        rcases hc with c1 | c1 | ⟨c1, c2, c3⟩ | ⟨c1, c2, c3, c4⟩
        all_goals
          go_wp2
          go_ret
          exact ⟨ret_bool HR.out, rfl⟩
    · obtain rfl : k = s.size := by omega
      have HR : Hid ((!ie) = wordH s.data.toList) := Lib.hid (by
        have := HS.out
        rw [take_all] at this; rw [HM.out, this, Bool.and_true])
      clear HM HS
      go_wp2
      go_ret
      exact ⟨ret_bool HR.out, rfl⟩
theorem refWord_hid (s : ByteArray) (b : Bool) (h : wordH s.data.toList = b) (hs : s.size ≤ 1099511627776) : Hid (∀ W, Calls Tryd.prog 44 #[.string s] W fun e w' => e = .returned (.bool b) ∧ w' = W) :=
  Lib.hid fun W => by rw [← h]; exact refWord_any s hs W

end Go.Proofs.YtmlanlagnhnppaaDoor
