/- Is a source right: the program's isRight. -/
import Derived.Test.YtaldjkbnngeahaaGreatDoorSrcEq
namespace Go.Proofs.YtaldjkbnngeahaaGreatDoor
open Go.RowKit

theorem empty_beq (s : ByteArray) : (s.toList == (⟨#[]⟩ : ByteArray).toList) = s.data.toList.isEmpty := by
  rw [text_eq, Bool.eq_iff_iff]
  simp
theorem zero_beq (p : Int) : (p == 0) = decide (p = 0) := by rw [Bool.eq_iff_iff]; simp
theorem false_beq (b : Bool) : (b == false) = !b := by cases b <;> rfl
theorem srcE_t (k : Int) (t s h : ByteArray) (b : Bool) (p : Int) (pa : ByteArray) : srcE k t s h b p pa k t ⟨#[]⟩ ⟨#[]⟩ false 0 ⟨#[]⟩ = (bareS (srcM k t s h b p pa) && (srcM k t s h b p pa).s.isEmpty) := by
  unfold srcE bareS srcM
  rw [empty_beq, empty_beq, empty_beq, zero_beq, false_beq, show (k == k) = true by simp, show (t.toList == t.toList) = true by simp]
  generalize s.data.toList.isEmpty = x1
  generalize h.data.toList.isEmpty = x2
  generalize pa.data.toList.isEmpty = x3
  generalize decide (p = 0) = x4
  cases x1 <;> cases x2 <;> cases x3 <;> cases x4 <;> cases b <;> rfl
theorem srcE_s (k : Int) (t s h : ByteArray) (b : Bool) (p : Int) (pa : ByteArray) : srcE k t s h b p pa k ⟨#[]⟩ s ⟨#[]⟩ false 0 ⟨#[]⟩ = (bareS (srcM k t s h b p pa) && (srcM k t s h b p pa).t.isEmpty) := by
  unfold srcE bareS srcM
  rw [empty_beq, empty_beq, empty_beq, zero_beq, false_beq, show (k == k) = true by simp, show (s.toList == s.toList) = true by simp]
  generalize t.data.toList.isEmpty = x1
  generalize h.data.toList.isEmpty = x2
  generalize pa.data.toList.isEmpty = x3
  generalize decide (p = 0) = x4
  cases x1 <;> cases x2 <;> cases x3 <;> cases x4 <;> cases b <;> rfl
theorem srcE_k (k : Int) (t s h : ByteArray) (b : Bool) (p : Int) (pa : ByteArray) : srcE k t s h b p pa k ⟨#[]⟩ ⟨#[]⟩ ⟨#[]⟩ false 0 ⟨#[]⟩ = (bareS (srcM k t s h b p pa) && (srcM k t s h b p pa).s.isEmpty && (srcM k t s h b p pa).t.isEmpty) := by
  unfold srcE bareS srcM
  rw [empty_beq, empty_beq, empty_beq, empty_beq, zero_beq, false_beq, show (k == k) = true by simp]
  generalize t.data.toList.isEmpty = x0
  generalize s.data.toList.isEmpty = x1
  generalize h.data.toList.isEmpty = x2
  generalize pa.data.toList.isEmpty = x3
  generalize decide (p = 0) = x4
  cases x0 <;> cases x1 <;> cases x2 <;> cases x3 <;> cases x4 <;> cases b <;> rfl

set_option maxRecDepth 100000 in
set_option maxHeartbeats 8000000 in
theorem rightP_any (k : Int) (t s h : ByteArray) (b : Bool) (p : Int) (pa : ByteArray) (lt : t.size ≤ 100000) (hs : s.size ≤ 100000) (hh : h.size ≤ 100000) (hpa : pa.size ≤ 100000) (w : World) (hm : MaxIn w) (ht : TabIn w) (hk : KeptIn w) : Calls Tryz.prog 98 #[srcV k t s h b p pa] w fun e w' => e = .returned (.bool (rightS (srcM k t s h b p pa))) ∧ Below w.heap.size w w' := by
  by_cases k9 : k = 9
  · subst k9
    have HQ := src_eql 9 t s h b p pa 9 t ⟨#[]⟩ ⟨#[]⟩ false 0 ⟨#[]⟩
    rw [srcE_t] at HQ
    have e0 : rightS (srcM 9 t s h b p pa) = ((bareS (srcM 9 t s h b p pa) && (srcM 9 t s h b p pa).s.isEmpty) && (decide (t.data.toList.length ≤ 200) && formM t.data.toList)) := by
      unfold rightS
      rw [if_pos (show (srcM 9 t s h b p pa).k = 9 from rfl), Bool.and_assoc]
      rfl
    generalize hr : (bareS (srcM 9 t s h b p pa) && (srcM 9 t s h b p pa).s.isEmpty) = r at HQ e0
    generalize hn : (decide (t.data.toList.length ≤ 200) && formM t.data.toList) = n at e0
    have CN := nonceP_hid t n hn lt
    cases n
    · show _
      have HF : Hid (false = rightS (srcM 9 t s h b p pa)) := Lib.hid (by rw [e0]; simp)
      clear e0 hr hn lt hs hh hpa
      unfold srcV
      go_enter Tryz.func98, Tryz.ntmps98
      go_wp2_with fail
      have xn := SX.made w 9 t s h b p pa
      have mw1 := hm.made (.cells #[.int .i64 9, .string t, .string s, .string h, .bool b, .int .i64 p, .string pa] 40)
      have tw1 := ht.made (.cells #[.int .i64 9, .string t, .string s, .string h, .bool b, .int .i64 p, .string pa] 40)
      have kw1 := hk.made (.cells #[.int .i64 9, .string t, .string s, .string h, .bool b, .int .i64 p, .string pa] 40)
      have Bw1 : Below w.heap.size w (w.alloc (.cells #[.int .i64 9, .string t, .string s, .string h, .bool b, .int .i64 p, .string pa] 40)) := ((Below.refl w.heap.size w).alloc (Nat.le_refl _) (.cells #[.int .i64 9, .string t, .string s, .string h, .bool b, .int .i64 p, .string pa] 40))
      generalize hR : w.heap.size = R at xn Bw1 ⊢
      have HR := Lib.hid hR
      clear hR
      generalize w.alloc (.cells #[.int .i64 9, .string t, .string s, .string h, .bool b, .int .i64 p, .string pa] 40) = w1 at xn mw1 tw1 kw1 Bw1  ⊢
      have xR_w1 := xn
      clear xn hm ht hk
      refine (CN.out _ ).mono ?_
      rintro e w1 ⟨rfl, rfl⟩
      have dR0 := xR_w1.c0
      have dR1 := xR_w1.c1
      have dR2 := xR_w1.c2
      have dR3 := xR_w1.c3
      have dR4 := xR_w1.c4
      have dR5 := xR_w1.c5
      have dR6 := xR_w1.c6
      go_wp2
      go_ret
      exact ⟨ret_bool HF.out, by rw [HR.out]; exact Bw1⟩

    · show _
      have HF : Hid (r = rightS (srcM 9 t s h b p pa)) := Lib.hid (by rw [e0]; simp)
      clear e0 hr hn lt hs hh hpa
      unfold srcV
      go_enter Tryz.func98, Tryz.ntmps98
      go_wp2_with fail
      have xn := SX.made w 9 t s h b p pa
      have mw1 := hm.made (.cells #[.int .i64 9, .string t, .string s, .string h, .bool b, .int .i64 p, .string pa] 40)
      have tw1 := ht.made (.cells #[.int .i64 9, .string t, .string s, .string h, .bool b, .int .i64 p, .string pa] 40)
      have kw1 := hk.made (.cells #[.int .i64 9, .string t, .string s, .string h, .bool b, .int .i64 p, .string pa] 40)
      have Bw1 : Below w.heap.size w (w.alloc (.cells #[.int .i64 9, .string t, .string s, .string h, .bool b, .int .i64 p, .string pa] 40)) := ((Below.refl w.heap.size w).alloc (Nat.le_refl _) (.cells #[.int .i64 9, .string t, .string s, .string h, .bool b, .int .i64 p, .string pa] 40))
      generalize hR : w.heap.size = R at xn Bw1 ⊢
      have HR := Lib.hid hR
      clear hR
      generalize w.alloc (.cells #[.int .i64 9, .string t, .string s, .string h, .bool b, .int .i64 p, .string pa] 40) = w1 at xn mw1 tw1 kw1 Bw1  ⊢
      have xR_w1 := xn
      clear xn hm ht hk
      refine (CN.out _ ).mono ?_
      rintro e w1 ⟨rfl, rfl⟩
      have dR0 := xR_w1.c0
      have dR1 := xR_w1.c1
      have dR2 := xR_w1.c2
      have dR3 := xR_w1.c3
      have dR4 := xR_w1.c4
      have dR5 := xR_w1.c5
      have dR6 := xR_w1.c6
      go_wp2
      go_ret
      exact ⟨ret_bool HF.out, by rw [HR.out]; exact Bw1⟩

  by_cases k10 : k = 10
  · subst k10
    have HQ := src_eql 10 t s h b p pa 10 t ⟨#[]⟩ ⟨#[]⟩ false 0 ⟨#[]⟩
    rw [srcE_t] at HQ
    have e0 : rightS (srcM 10 t s h b p pa) = ((bareS (srcM 10 t s h b p pa) && (srcM 10 t s h b p pa).s.isEmpty) && decide (t.size = 16)) := by
      unfold rightS
      rw [if_neg (show ¬ (srcM 10 t s h b p pa).k = 9 from (show ¬ (10 : Int) = 9 by decide)), if_pos (show (srcM 10 t s h b p pa).k = 10 from rfl), ← lsize t]
      rfl
    generalize hr : (bareS (srcM 10 t s h b p pa) && (srcM 10 t s h b p pa).s.isEmpty) = r at HQ e0
    by_cases h16 : t.size = 16
    · have g16 : ((t.size : Int) == 16) = true := by rw [beq_iff_eq]; omega
      have HF : Hid (r = rightS (srcM 10 t s h b p pa)) := Lib.hid (by rw [e0, decide_eq_true h16, Bool.and_true])
      clear e0 hr h16 lt hs hh hpa
      have c0 : (w.alloc (.cells #[.int .i64 10, .string t, .string s, .string h, .bool b, .int .i64 p, .string pa] 40)).cell? ⟨w.heap.size, 0, none⟩ = some (.int .i64 10) := (SX.made w 10 t s h b p pa).c0
      have c1 : (w.alloc (.cells #[.int .i64 10, .string t, .string s, .string h, .bool b, .int .i64 p, .string pa] 40)).cell? ⟨w.heap.size, 1, none⟩ = some (.string t) := (SX.made w 10 t s h b p pa).c1
      have c2 : (w.alloc (.cells #[.int .i64 10, .string t, .string s, .string h, .bool b, .int .i64 p, .string pa] 40)).cell? ⟨w.heap.size, 2, none⟩ = some (.string s) := (SX.made w 10 t s h b p pa).c2
      have c3 : (w.alloc (.cells #[.int .i64 10, .string t, .string s, .string h, .bool b, .int .i64 p, .string pa] 40)).cell? ⟨w.heap.size, 3, none⟩ = some (.string h) := (SX.made w 10 t s h b p pa).c3
      have c4 : (w.alloc (.cells #[.int .i64 10, .string t, .string s, .string h, .bool b, .int .i64 p, .string pa] 40)).cell? ⟨w.heap.size, 4, none⟩ = some (.bool b) := (SX.made w 10 t s h b p pa).c4
      have c5 : (w.alloc (.cells #[.int .i64 10, .string t, .string s, .string h, .bool b, .int .i64 p, .string pa] 40)).cell? ⟨w.heap.size, 5, none⟩ = some (.int .i64 p) := (SX.made w 10 t s h b p pa).c5
      have c6 : (w.alloc (.cells #[.int .i64 10, .string t, .string s, .string h, .bool b, .int .i64 p, .string pa] 40)).cell? ⟨w.heap.size, 6, none⟩ = some (.string pa) := (SX.made w 10 t s h b p pa).c6
      unfold srcV
      go_enter Tryz.func98, Tryz.ntmps98
      go_wp2
      go_ret
      exact ⟨ret_bool HF.out, (Below.refl _ _).alloc (Nat.le_refl _) _⟩

    · have g16 : ((t.size : Int) == 16) = false := by rw [beq_eq_false_iff_ne]; omega
      have HF : Hid (false = rightS (srcM 10 t s h b p pa)) := Lib.hid (by rw [e0, decide_eq_false h16, Bool.and_false])
      clear e0 hr h16 lt hs hh hpa
      have c0 : (w.alloc (.cells #[.int .i64 10, .string t, .string s, .string h, .bool b, .int .i64 p, .string pa] 40)).cell? ⟨w.heap.size, 0, none⟩ = some (.int .i64 10) := (SX.made w 10 t s h b p pa).c0
      have c1 : (w.alloc (.cells #[.int .i64 10, .string t, .string s, .string h, .bool b, .int .i64 p, .string pa] 40)).cell? ⟨w.heap.size, 1, none⟩ = some (.string t) := (SX.made w 10 t s h b p pa).c1
      have c2 : (w.alloc (.cells #[.int .i64 10, .string t, .string s, .string h, .bool b, .int .i64 p, .string pa] 40)).cell? ⟨w.heap.size, 2, none⟩ = some (.string s) := (SX.made w 10 t s h b p pa).c2
      have c3 : (w.alloc (.cells #[.int .i64 10, .string t, .string s, .string h, .bool b, .int .i64 p, .string pa] 40)).cell? ⟨w.heap.size, 3, none⟩ = some (.string h) := (SX.made w 10 t s h b p pa).c3
      have c4 : (w.alloc (.cells #[.int .i64 10, .string t, .string s, .string h, .bool b, .int .i64 p, .string pa] 40)).cell? ⟨w.heap.size, 4, none⟩ = some (.bool b) := (SX.made w 10 t s h b p pa).c4
      have c5 : (w.alloc (.cells #[.int .i64 10, .string t, .string s, .string h, .bool b, .int .i64 p, .string pa] 40)).cell? ⟨w.heap.size, 5, none⟩ = some (.int .i64 p) := (SX.made w 10 t s h b p pa).c5
      have c6 : (w.alloc (.cells #[.int .i64 10, .string t, .string s, .string h, .bool b, .int .i64 p, .string pa] 40)).cell? ⟨w.heap.size, 6, none⟩ = some (.string pa) := (SX.made w 10 t s h b p pa).c6
      unfold srcV
      go_enter Tryz.func98, Tryz.ntmps98
      go_wp2
      go_ret
      exact ⟨ret_bool HF.out, (Below.refl _ _).alloc (Nat.le_refl _) _⟩

  by_cases k11 : k = 11
  · subst k11
    have HQ := src_eql 11 t s h b p pa 11 ⟨#[]⟩ s ⟨#[]⟩ false 0 ⟨#[]⟩
    rw [srcE_s] at HQ
    have e0 : rightS (srcM 11 t s h b p pa) = ((bareS (srcM 11 t s h b p pa) && (srcM 11 t s h b p pa).t.isEmpty) && schM s.data.toList) := by
      unfold rightS
      rw [if_neg (show ¬ (srcM 11 t s h b p pa).k = 9 from (show ¬ (11 : Int) = 9 by decide)), if_neg (show ¬ (srcM 11 t s h b p pa).k = 10 from (show ¬ (11 : Int) = 10 by decide)), if_pos (show (srcM 11 t s h b p pa).k = 11 from rfl)]
      rfl
    generalize hr : (bareS (srcM 11 t s h b p pa) && (srcM 11 t s h b p pa).t.isEmpty) = r at HQ e0
    generalize hn : schM s.data.toList = n at e0
    have CN := schP_hid s n hn hs
    cases n
    · show _
      have HF : Hid (false = rightS (srcM 11 t s h b p pa)) := Lib.hid (by rw [e0]; simp)
      clear e0 hr hn lt hs hh hpa
      unfold srcV
      go_enter Tryz.func98, Tryz.ntmps98
      go_wp2_with fail
      have xn := SX.made w 11 t s h b p pa
      have mw1 := hm.made (.cells #[.int .i64 11, .string t, .string s, .string h, .bool b, .int .i64 p, .string pa] 40)
      have tw1 := ht.made (.cells #[.int .i64 11, .string t, .string s, .string h, .bool b, .int .i64 p, .string pa] 40)
      have kw1 := hk.made (.cells #[.int .i64 11, .string t, .string s, .string h, .bool b, .int .i64 p, .string pa] 40)
      have Bw1 : Below w.heap.size w (w.alloc (.cells #[.int .i64 11, .string t, .string s, .string h, .bool b, .int .i64 p, .string pa] 40)) := ((Below.refl w.heap.size w).alloc (Nat.le_refl _) (.cells #[.int .i64 11, .string t, .string s, .string h, .bool b, .int .i64 p, .string pa] 40))
      generalize hR : w.heap.size = R at xn Bw1 ⊢
      have HR := Lib.hid hR
      clear hR
      generalize w.alloc (.cells #[.int .i64 11, .string t, .string s, .string h, .bool b, .int .i64 p, .string pa] 40) = w1 at xn mw1 tw1 kw1 Bw1  ⊢
      have xR_w1 := xn
      clear xn hm ht hk
      refine (CN.out _ mw1 tw1).mono ?_
      rintro e w2 ⟨rfl, b_⟩
      have mw2 := mw1.below b_
      have tw2 := tw1.below b_
      have kw2 := kw1.below b_
      have Bw2 := Bw1.trans (b_.mono (Nat.le_of_lt xR_w1.lt))
      have xR_w2 := xR_w1.below b_
      clear b_ mw1 tw1 kw1 Bw1 xR_w1
      have dR0 := xR_w2.c0
      have dR1 := xR_w2.c1
      have dR2 := xR_w2.c2
      have dR3 := xR_w2.c3
      have dR4 := xR_w2.c4
      have dR5 := xR_w2.c5
      have dR6 := xR_w2.c6
      go_wp2
      go_ret
      exact ⟨ret_bool HF.out, by rw [HR.out]; exact Bw2⟩

    · show _
      have HF : Hid (r = rightS (srcM 11 t s h b p pa)) := Lib.hid (by rw [e0]; simp)
      clear e0 hr hn lt hs hh hpa
      unfold srcV
      go_enter Tryz.func98, Tryz.ntmps98
      go_wp2_with fail
      have xn := SX.made w 11 t s h b p pa
      have mw1 := hm.made (.cells #[.int .i64 11, .string t, .string s, .string h, .bool b, .int .i64 p, .string pa] 40)
      have tw1 := ht.made (.cells #[.int .i64 11, .string t, .string s, .string h, .bool b, .int .i64 p, .string pa] 40)
      have kw1 := hk.made (.cells #[.int .i64 11, .string t, .string s, .string h, .bool b, .int .i64 p, .string pa] 40)
      have Bw1 : Below w.heap.size w (w.alloc (.cells #[.int .i64 11, .string t, .string s, .string h, .bool b, .int .i64 p, .string pa] 40)) := ((Below.refl w.heap.size w).alloc (Nat.le_refl _) (.cells #[.int .i64 11, .string t, .string s, .string h, .bool b, .int .i64 p, .string pa] 40))
      generalize hR : w.heap.size = R at xn Bw1 ⊢
      have HR := Lib.hid hR
      clear hR
      generalize w.alloc (.cells #[.int .i64 11, .string t, .string s, .string h, .bool b, .int .i64 p, .string pa] 40) = w1 at xn mw1 tw1 kw1 Bw1  ⊢
      have xR_w1 := xn
      clear xn hm ht hk
      refine (CN.out _ mw1 tw1).mono ?_
      rintro e w2 ⟨rfl, b_⟩
      have mw2 := mw1.below b_
      have tw2 := tw1.below b_
      have kw2 := kw1.below b_
      have Bw2 := Bw1.trans (b_.mono (Nat.le_of_lt xR_w1.lt))
      have xR_w2 := xR_w1.below b_
      clear b_ mw1 tw1 kw1 Bw1 xR_w1
      have dR0 := xR_w2.c0
      have dR1 := xR_w2.c1
      have dR2 := xR_w2.c2
      have dR3 := xR_w2.c3
      have dR4 := xR_w2.c4
      have dR5 := xR_w2.c5
      have dR6 := xR_w2.c6
      go_wp2
      go_ret
      exact ⟨ret_bool HF.out, by rw [HR.out]; exact Bw2⟩

  by_cases k12 : k = 12
  · subst k12
    have e0 : rightS (srcM 12 t s h b p pa) = (t.toList.isEmpty && placeB (srcM 12 t s h b p pa)) := by
      rw [text_empty]
      unfold rightS
      rw [if_neg (show ¬ (srcM 12 t s h b p pa).k = 9 from (show ¬ (12 : Int) = 9 by decide)), if_neg (show ¬ (srcM 12 t s h b p pa).k = 10 from (show ¬ (12 : Int) = 10 by decide)), if_neg (show ¬ (srcM 12 t s h b p pa).k = 11 from (show ¬ (12 : Int) = 11 by decide)), if_pos (show (srcM 12 t s h b p pa).k = 12 from rfl), place_host]
      rfl
    generalize hn : placeB (srcM 12 t s h b p pa) = n at e0
    have CN := placeP_hid 12 t s h b p pa hs hh hpa n hn
    unfold srcV at CN
    cases gt : t.toList.isEmpty
    · rw [gt] at e0
      have HF : Hid (false = rightS (srcM 12 t s h b p pa)) := Lib.hid (by rw [e0]; simp)
      clear e0 hn lt hs hh hpa CN
      have c0 : (w.alloc (.cells #[.int .i64 12, .string t, .string s, .string h, .bool b, .int .i64 p, .string pa] 40)).cell? ⟨w.heap.size, 0, none⟩ = some (.int .i64 12) := (SX.made w 12 t s h b p pa).c0
      have c1 : (w.alloc (.cells #[.int .i64 12, .string t, .string s, .string h, .bool b, .int .i64 p, .string pa] 40)).cell? ⟨w.heap.size, 1, none⟩ = some (.string t) := (SX.made w 12 t s h b p pa).c1
      have c2 : (w.alloc (.cells #[.int .i64 12, .string t, .string s, .string h, .bool b, .int .i64 p, .string pa] 40)).cell? ⟨w.heap.size, 2, none⟩ = some (.string s) := (SX.made w 12 t s h b p pa).c2
      have c3 : (w.alloc (.cells #[.int .i64 12, .string t, .string s, .string h, .bool b, .int .i64 p, .string pa] 40)).cell? ⟨w.heap.size, 3, none⟩ = some (.string h) := (SX.made w 12 t s h b p pa).c3
      have c4 : (w.alloc (.cells #[.int .i64 12, .string t, .string s, .string h, .bool b, .int .i64 p, .string pa] 40)).cell? ⟨w.heap.size, 4, none⟩ = some (.bool b) := (SX.made w 12 t s h b p pa).c4
      have c5 : (w.alloc (.cells #[.int .i64 12, .string t, .string s, .string h, .bool b, .int .i64 p, .string pa] 40)).cell? ⟨w.heap.size, 5, none⟩ = some (.int .i64 p) := (SX.made w 12 t s h b p pa).c5
      have c6 : (w.alloc (.cells #[.int .i64 12, .string t, .string s, .string h, .bool b, .int .i64 p, .string pa] 40)).cell? ⟨w.heap.size, 6, none⟩ = some (.string pa) := (SX.made w 12 t s h b p pa).c6
      unfold srcV
      go_enter Tryz.func98, Tryz.ntmps98
      go_wp2
      go_ret
      exact ⟨ret_bool HF.out, (Below.refl _ _).alloc (Nat.le_refl _) _⟩

    · rw [gt] at e0
      have HF : Hid (n = rightS (srcM 12 t s h b p pa)) := Lib.hid (by rw [e0]; simp)
      clear e0 hn lt hs hh hpa
      unfold srcV
      go_enter Tryz.func98, Tryz.ntmps98
      go_wp2_with fail
      have xn := SX.made w 12 t s h b p pa
      have mw1 := hm.made (.cells #[.int .i64 12, .string t, .string s, .string h, .bool b, .int .i64 p, .string pa] 40)
      have tw1 := ht.made (.cells #[.int .i64 12, .string t, .string s, .string h, .bool b, .int .i64 p, .string pa] 40)
      have kw1 := hk.made (.cells #[.int .i64 12, .string t, .string s, .string h, .bool b, .int .i64 p, .string pa] 40)
      have Bw1 : Below w.heap.size w (w.alloc (.cells #[.int .i64 12, .string t, .string s, .string h, .bool b, .int .i64 p, .string pa] 40)) := ((Below.refl w.heap.size w).alloc (Nat.le_refl _) (.cells #[.int .i64 12, .string t, .string s, .string h, .bool b, .int .i64 p, .string pa] 40))
      generalize hR : w.heap.size = R at xn Bw1 ⊢
      have HR := Lib.hid hR
      clear hR
      generalize w.alloc (.cells #[.int .i64 12, .string t, .string s, .string h, .bool b, .int .i64 p, .string pa] 40) = w1 at xn mw1 tw1 kw1 Bw1  ⊢
      have xR_w1 := xn
      clear xn hm ht hk
      refine (CN.out _ mw1 tw1).mono ?_
      rintro e w2 ⟨rfl, b_⟩
      have mw2 := mw1.below b_
      have tw2 := tw1.below b_
      have kw2 := kw1.below b_
      have Bw2 := Bw1.trans (b_.mono (Nat.le_of_lt xR_w1.lt))
      have xR_w2 := xR_w1.below b_
      clear b_ mw1 tw1 kw1 Bw1 xR_w1
      have dR0 := xR_w2.c0
      have dR1 := xR_w2.c1
      have dR2 := xR_w2.c2
      have dR3 := xR_w2.c3
      have dR4 := xR_w2.c4
      have dR5 := xR_w2.c5
      have dR6 := xR_w2.c6
      go_wp2
      go_ret
      exact ⟨ret_bool HF.out, by rw [HR.out]; exact Bw2⟩

  have HQ := src_eql k t s h b p pa k ⟨#[]⟩ ⟨#[]⟩ ⟨#[]⟩ false 0 ⟨#[]⟩
  rw [srcE_k] at HQ
  obtain ⟨T, hT⟩ := text_of (keptM k)
  have e0 : rightS (srcM k t s h b p pa) = ((bareS (srcM k t s h b p pa) && (srcM k t s h b p pa).s.isEmpty && (srcM k t s h b p pa).t.isEmpty) && !T.toList.isEmpty) := by
    unfold rightS
    rw [if_neg (show ¬ (srcM k t s h b p pa).k = 9 from k9), if_neg (show ¬ (srcM k t s h b p pa).k = 10 from k10), if_neg (show ¬ (srcM k t s h b p pa).k = 11 from k11), if_neg (show ¬ (srcM k t s h b p pa).k = 12 from k12), text_empty, hT, show (srcM k t s h b p pa).k = k from rfl]
    generalize (keptM k).isEmpty = x
    generalize bareS _ = y
    generalize List.isEmpty _ = z
    generalize List.isEmpty _ = u
    cases x <;> cases y <;> cases z <;> cases u <;> rfl
  generalize hr : (bareS (srcM k t s h b p pa) && (srcM k t s h b p pa).s.isEmpty && (srcM k t s h b p pa).t.isEmpty) = r at HQ e0
  have CN := keptT_hid k T hT
  have m9 : (k == 9) = false := by rw [beq_eq_false_iff_ne]; exact k9
  have m10 : (k == 10) = false := by rw [beq_eq_false_iff_ne]; exact k10
  have m11 : (k == 11) = false := by rw [beq_eq_false_iff_ne]; exact k11
  have m12 : (k == 12) = false := by rw [beq_eq_false_iff_ne]; exact k12
  cases gT : T.toList.isEmpty
  · rw [gT] at e0
    have HF : Hid (r = rightS (srcM k t s h b p pa)) := Lib.hid (by rw [e0]; simp)
    clear e0 hr hT lt hs hh hpa k9 k10 k11 k12
    unfold srcV
    go_enter Tryz.func98, Tryz.ntmps98
    go_wp2_with fail
    have xn := SX.made w k t s h b p pa
    have mw1 := hm.made (.cells #[.int .i64 k, .string t, .string s, .string h, .bool b, .int .i64 p, .string pa] 40)
    have tw1 := ht.made (.cells #[.int .i64 k, .string t, .string s, .string h, .bool b, .int .i64 p, .string pa] 40)
    have kw1 := hk.made (.cells #[.int .i64 k, .string t, .string s, .string h, .bool b, .int .i64 p, .string pa] 40)
    have Bw1 : Below w.heap.size w (w.alloc (.cells #[.int .i64 k, .string t, .string s, .string h, .bool b, .int .i64 p, .string pa] 40)) := ((Below.refl w.heap.size w).alloc (Nat.le_refl _) (.cells #[.int .i64 k, .string t, .string s, .string h, .bool b, .int .i64 p, .string pa] 40))
    generalize hR : w.heap.size = R at xn Bw1 ⊢
    have HR := Lib.hid hR
    clear hR
    generalize w.alloc (.cells #[.int .i64 k, .string t, .string s, .string h, .bool b, .int .i64 p, .string pa] 40) = w1 at xn mw1 tw1 kw1 Bw1  ⊢
    have xR_w1 := xn
    clear xn hm ht hk
    refine (CN.out _ kw1).mono ?_
    rintro e w2 ⟨rfl, b_⟩
    have mw2 := mw1.below b_
    have tw2 := tw1.below b_
    have kw2 := kw1.below b_
    have Bw2 := Bw1.trans (b_.mono (Nat.le_of_lt xR_w1.lt))
    have xR_w2 := xR_w1.below b_
    clear b_ mw1 tw1 kw1 Bw1 xR_w1
    have dR0 := xR_w2.c0
    have dR1 := xR_w2.c1
    have dR2 := xR_w2.c2
    have dR3 := xR_w2.c3
    have dR4 := xR_w2.c4
    have dR5 := xR_w2.c5
    have dR6 := xR_w2.c6
    go_wp2
    go_ret
    exact ⟨ret_bool HF.out, by rw [HR.out]; exact Bw2⟩

  · rw [gT] at e0
    have HF : Hid (false = rightS (srcM k t s h b p pa)) := Lib.hid (by rw [e0]; simp)
    clear e0 hr hT lt hs hh hpa k9 k10 k11 k12
    unfold srcV
    go_enter Tryz.func98, Tryz.ntmps98
    go_wp2_with fail
    have xn := SX.made w k t s h b p pa
    have mw1 := hm.made (.cells #[.int .i64 k, .string t, .string s, .string h, .bool b, .int .i64 p, .string pa] 40)
    have tw1 := ht.made (.cells #[.int .i64 k, .string t, .string s, .string h, .bool b, .int .i64 p, .string pa] 40)
    have kw1 := hk.made (.cells #[.int .i64 k, .string t, .string s, .string h, .bool b, .int .i64 p, .string pa] 40)
    have Bw1 : Below w.heap.size w (w.alloc (.cells #[.int .i64 k, .string t, .string s, .string h, .bool b, .int .i64 p, .string pa] 40)) := ((Below.refl w.heap.size w).alloc (Nat.le_refl _) (.cells #[.int .i64 k, .string t, .string s, .string h, .bool b, .int .i64 p, .string pa] 40))
    generalize hR : w.heap.size = R at xn Bw1 ⊢
    have HR := Lib.hid hR
    clear hR
    generalize w.alloc (.cells #[.int .i64 k, .string t, .string s, .string h, .bool b, .int .i64 p, .string pa] 40) = w1 at xn mw1 tw1 kw1 Bw1  ⊢
    have xR_w1 := xn
    clear xn hm ht hk
    refine (CN.out _ kw1).mono ?_
    rintro e w2 ⟨rfl, b_⟩
    have mw2 := mw1.below b_
    have tw2 := tw1.below b_
    have kw2 := kw1.below b_
    have Bw2 := Bw1.trans (b_.mono (Nat.le_of_lt xR_w1.lt))
    have xR_w2 := xR_w1.below b_
    clear b_ mw1 tw1 kw1 Bw1 xR_w1
    have dR0 := xR_w2.c0
    have dR1 := xR_w2.c1
    have dR2 := xR_w2.c2
    have dR3 := xR_w2.c3
    have dR4 := xR_w2.c4
    have dR5 := xR_w2.c5
    have dR6 := xR_w2.c6
    go_wp2
    go_ret
    exact ⟨ret_bool HF.out, by rw [HR.out]; exact Bw2⟩

theorem rightP_hid (k : Int) (t s h : ByteArray) (b : Bool) (p : Int) (pa : ByteArray) (lt : t.size ≤ 100000) (hs : s.size ≤ 100000) (hh : h.size ≤ 100000) (hpa : pa.size ≤ 100000) (r : Bool) (hr : rightS (srcM k t s h b p pa) = r) : Hid (∀ W, MaxIn W → TabIn W → KeptIn W → Calls Tryz.prog 98 #[srcV k t s h b p pa] W fun e w' => e = .returned (.bool r) ∧ Below W.heap.size W w') := Lib.hid fun W hm ht hk => by rw [← hr]; exact rightP_any k t s h b p pa lt hs hh hpa W hm ht hk

end Go.Proofs.YtaldjkbnngeahaaGreatDoor
