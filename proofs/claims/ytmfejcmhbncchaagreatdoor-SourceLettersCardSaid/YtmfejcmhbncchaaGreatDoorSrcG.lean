/- A source's word: the program's Print. -/
import Derived.Test.YtmfejcmhbncchaaGreatDoorSrcF
namespace Go.Proofs.YtmfejcmhbncchaaGreatDoor
open Go.RowKit

theorem word_12 (t s h : ByteArray) (b : Bool) (p : Int) (pa : ByteArray) : wordS (srcM 12 t s h b p pa) = placeT s.data.toList h.data.toList b p ++ pa.data.toList := by
  rw [placeT_word 12 t]
  unfold wordS
  rw [if_neg (show ¬ (srcM 12 t s h b p pa).k = 9 from (show ¬ (12 : Int) = 9 by decide)), if_neg (show ¬ (srcM 12 t s h b p pa).k = 10 from (show ¬ (12 : Int) = 10 by decide)), if_neg (show ¬ (srcM 12 t s h b p pa).k = 11 from (show ¬ (12 : Int) = 11 by decide)), if_pos (show (srcM 12 t s h b p pa).k = 12 from rfl)]
  rfl
theorem word_kept (k : Int) (t s h : ByteArray) (b : Bool) (p : Int) (pa : ByteArray) (k9 : k ≠ 9) (k10 : k ≠ 10) (k11 : k ≠ 11) (k12 : k ≠ 12) : wordS (srcM k t s h b p pa) = keptM k := by
  unfold wordS
  rw [if_neg (show ¬ (srcM k t s h b p pa).k = 9 from k9), if_neg (show ¬ (srcM k t s h b p pa).k = 10 from k10), if_neg (show ¬ (srcM k t s h b p pa).k = 11 from k11), if_neg (show ¬ (srcM k t s h b p pa).k = 12 from k12)]
  rfl
theorem right_16 {t s h : ByteArray} {b : Bool} {p : Int} {pa : ByteArray} (hr : rightS (srcM 10 t s h b p pa) = true) : t.size = 16 := by
  unfold rightS at hr
  rw [if_neg (show ¬ (srcM 10 t s h b p pa).k = 9 from (show ¬ (10 : Int) = 9 by decide)), if_pos (show (srcM 10 t s h b p pa).k = 10 from rfl)] at hr
  simp only [Bool.and_eq_true, decide_eq_true_eq] at hr
  rw [← lsize]; exact hr.2
theorem right_ports {t s h : ByteArray} {b : Bool} {p : Int} {pa : ByteArray} (hr : rightS (srcM 12 t s h b p pa) = true) : -1 ≤ p ∧ p ≤ 65535 := by
  unfold rightS at hr
  rw [if_neg (show ¬ (srcM 12 t s h b p pa).k = 9 from (show ¬ (12 : Int) = 9 by decide)), if_neg (show ¬ (srcM 12 t s h b p pa).k = 10 from (show ¬ (12 : Int) = 10 by decide)), if_neg (show ¬ (srcM 12 t s h b p pa).k = 11 from (show ¬ (12 : Int) = 11 by decide)), if_pos (show (srcM 12 t s h b p pa).k = 12 from rfl)] at hr
  obtain ⟨_, _, _, _, h1, h2, _⟩ := shost_parts hr
  exact ⟨h1, h2⟩
theorem tup_text {a c : ByteArray} {r : Bool} (h : a = c) : Ending.returned (.tuple #[.string a, .bool r]) = .returned (.tuple #[.string c, .bool r]) := by rw [h]

set_option maxRecDepth 100000 in
set_option maxHeartbeats 8000000 in
theorem printS_any (k : Int) (t s h : ByteArray) (b : Bool) (p : Int) (pa : ByteArray) (lt : t.size ≤ 100000) (hs : s.size ≤ 100000) (hh : h.size ≤ 100000) (hpa : pa.size ≤ 100000) (r : Bool) (hr : rightS (srcM k t s h b p pa) = r) (T : ByteArray) (hT : T.data.toList = if r then wordS (srcM k t s h b p pa) else []) (w : World) (hm : MaxIn w) (ht : TabIn w) (hk : KeptIn w) : Calls Tryz.prog 9 #[srcV k t s h b p pa] w fun e w' => e = .returned (.tuple #[.string T, .bool r]) ∧ Below w.heap.size w w' := by
  have CR := rightP_hid k t s h b p pa lt hs hh hpa r hr
  unfold srcV at *
  cases r
  · obtain rfl : T = ⟨#[]⟩ := text_is hT
    clear hT hr lt hs hh hpa
    go_enter Tryz.func9, Tryz.ntmps9
    go_wp2_with fail
    have xn := SX.made w k t s h b p pa
    have mw1 := hm.made (.cells #[.int .i64 k, .string t, .string s, .string h, .bool b, .int .i64 p, .string pa] 24)
    have tw1 := ht.made (.cells #[.int .i64 k, .string t, .string s, .string h, .bool b, .int .i64 p, .string pa] 24)
    have kw1 := hk.made (.cells #[.int .i64 k, .string t, .string s, .string h, .bool b, .int .i64 p, .string pa] 24)
    have Bw1 : Below w.heap.size w (w.alloc (.cells #[.int .i64 k, .string t, .string s, .string h, .bool b, .int .i64 p, .string pa] 24)) := ((Below.refl w.heap.size w).alloc (Nat.le_refl _) (.cells #[.int .i64 k, .string t, .string s, .string h, .bool b, .int .i64 p, .string pa] 24))
    generalize hR : w.heap.size = R at xn Bw1 ⊢
    have HR := Lib.hid hR
    clear hR
    generalize w.alloc (.cells #[.int .i64 k, .string t, .string s, .string h, .bool b, .int .i64 p, .string pa] 24) = w1 at xn mw1 tw1 kw1 Bw1  ⊢
    have xR_w1 := xn
    clear xn hm ht hk
    refine (CR.out _ mw1 tw1 kw1).mono ?_
    rintro e w2 ⟨rfl, b_⟩
    have mw2 := mw1.below b_
    have tw2 := tw1.below b_
    have kw2 := kw1.below b_
    have Bw2 := Bw1.trans (b_.mono (Nat.le_of_lt xR_w1.lt))
    have xR_w2 := xR_w1.below b_
    clear b_ mw1 tw1 kw1 Bw1 xR_w1
    have dR0 := xR_w2.c0
    have dR1 := xR_w2.c1
    have dR2 := xR_w2.c2
    have dR3 := xR_w2.c3
    have dR4 := xR_w2.c4
    have dR5 := xR_w2.c5
    have dR6 := xR_w2.c6
    go_wp2
    go_ret2
    exact ⟨rfl, by rw [HR.out]; exact Bw2⟩

  · rw [if_pos rfl] at hT
    by_cases k9 : k = 9
    · subst k9
      obtain ⟨X1, hX1, zX1, a1⟩ := add_step ⟨#[39, 110, 111, 110, 99, 101, 45]⟩ t 7 100000 (by decide) lt (by decide)
      obtain ⟨X2, hX2, zX2, a2⟩ := add_step X1 ⟨#[39]⟩ 100007 1 zX1 (by decide) (by decide)
      have HF : Hid (X2 = T) := Lib.hid (by rw [text_is hT]; refine text_is ?_; rw [hX2, hX1]; unfold wordS; rw [if_pos (show (srcM 9 t s h b p pa).k = 9 from rfl), List.append_assoc]; rfl)
      clear hT hr lt hs hh hpa hX1 hX2 zX1 zX2
      go_enter Tryz.func9, Tryz.ntmps9
      go_wp2_with fail
      have xn := SX.made w 9 t s h b p pa
      have mw1 := hm.made (.cells #[.int .i64 9, .string t, .string s, .string h, .bool b, .int .i64 p, .string pa] 24)
      have tw1 := ht.made (.cells #[.int .i64 9, .string t, .string s, .string h, .bool b, .int .i64 p, .string pa] 24)
      have kw1 := hk.made (.cells #[.int .i64 9, .string t, .string s, .string h, .bool b, .int .i64 p, .string pa] 24)
      have Bw1 : Below w.heap.size w (w.alloc (.cells #[.int .i64 9, .string t, .string s, .string h, .bool b, .int .i64 p, .string pa] 24)) := ((Below.refl w.heap.size w).alloc (Nat.le_refl _) (.cells #[.int .i64 9, .string t, .string s, .string h, .bool b, .int .i64 p, .string pa] 24))
      generalize hR : w.heap.size = R at xn Bw1 ⊢
      have HR := Lib.hid hR
      clear hR
      generalize w.alloc (.cells #[.int .i64 9, .string t, .string s, .string h, .bool b, .int .i64 p, .string pa] 24) = w1 at xn mw1 tw1 kw1 Bw1  ⊢
      have xR_w1 := xn
      clear xn hm ht hk
      refine (CR.out _ mw1 tw1 kw1).mono ?_
      rintro e w2 ⟨rfl, b_⟩
      have mw2 := mw1.below b_
      have tw2 := tw1.below b_
      have kw2 := kw1.below b_
      have Bw2 := Bw1.trans (b_.mono (Nat.le_of_lt xR_w1.lt))
      have xR_w2 := xR_w1.below b_
      clear b_ mw1 tw1 kw1 Bw1 xR_w1
      have dR0 := xR_w2.c0
      have dR1 := xR_w2.c1
      have dR2 := xR_w2.c2
      have dR3 := xR_w2.c3
      have dR4 := xR_w2.c4
      have dR5 := xR_w2.c5
      have dR6 := xR_w2.c6
      go_wp2
      go_ret2
      exact ⟨tup_text HF.out, by rw [HR.out]; exact Bw2⟩

    by_cases k10 : k = 10
    · subst k10
      obtain ⟨E, hE⟩ := text_of (encM t.data.toList)
      have zE : E.size ≤ 24 := by rw [← lsize, hE, encM_length, lsize, right_16 hr]; decide
      have CE := encode_hid t lt E hE
      obtain ⟨X1, hX1, zX1, a1⟩ := add_step ⟨#[39, 109, 97, 114, 107, 45]⟩ E 6 24 (by decide) zE (by decide)
      obtain ⟨X2, hX2, zX2, a2⟩ := add_step X1 ⟨#[39]⟩ 30 1 zX1 (by decide) (by decide)
      have HF : Hid (X2 = T) := Lib.hid (by rw [text_is hT]; refine text_is ?_; rw [hX2, hX1, hE]; unfold wordS; rw [if_neg (show ¬ (srcM 10 t s h b p pa).k = 9 from (show ¬ (10 : Int) = 9 by decide)), if_pos (show (srcM 10 t s h b p pa).k = 10 from rfl), List.append_assoc]; rfl)
      clear hT hr lt hs hh hpa hX1 hX2 zX1 zX2 hE zE
      go_enter Tryz.func9, Tryz.ntmps9
      go_wp2_with fail
      have xn := SX.made w 10 t s h b p pa
      have mw1 := hm.made (.cells #[.int .i64 10, .string t, .string s, .string h, .bool b, .int .i64 p, .string pa] 24)
      have tw1 := ht.made (.cells #[.int .i64 10, .string t, .string s, .string h, .bool b, .int .i64 p, .string pa] 24)
      have kw1 := hk.made (.cells #[.int .i64 10, .string t, .string s, .string h, .bool b, .int .i64 p, .string pa] 24)
      have Bw1 : Below w.heap.size w (w.alloc (.cells #[.int .i64 10, .string t, .string s, .string h, .bool b, .int .i64 p, .string pa] 24)) := ((Below.refl w.heap.size w).alloc (Nat.le_refl _) (.cells #[.int .i64 10, .string t, .string s, .string h, .bool b, .int .i64 p, .string pa] 24))
      generalize hR : w.heap.size = R at xn Bw1 ⊢
      have HR := Lib.hid hR
      clear hR
      generalize w.alloc (.cells #[.int .i64 10, .string t, .string s, .string h, .bool b, .int .i64 p, .string pa] 24) = w1 at xn mw1 tw1 kw1 Bw1  ⊢
      have xR_w1 := xn
      clear xn hm ht hk
      refine (CR.out _ mw1 tw1 kw1).mono ?_
      rintro e w2 ⟨rfl, b_⟩
      have mw2 := mw1.below b_
      have tw2 := tw1.below b_
      have kw2 := kw1.below b_
      have Bw2 := Bw1.trans (b_.mono (Nat.le_of_lt xR_w1.lt))
      have xR_w2 := xR_w1.below b_
      clear b_ mw1 tw1 kw1 Bw1 xR_w1
      have dR0 := xR_w2.c0
      have dR1 := xR_w2.c1
      have dR2 := xR_w2.c2
      have dR3 := xR_w2.c3
      have dR4 := xR_w2.c4
      have dR5 := xR_w2.c5
      have dR6 := xR_w2.c6
      go_wp2_with fail
      clear dR0 dR1 dR2 dR3 dR4 dR5 dR6
      refine (CE.out _ ).mono ?_
      rintro e w3 ⟨rfl, b_⟩
      have mw3 := mw2.below b_
      have tw3 := tw2.below b_
      have kw3 := kw2.below b_
      have Bw3 := Bw2.trans (b_.mono (Nat.le_of_lt xR_w2.lt))
      have xR_w3 := xR_w2.below b_
      clear b_ mw2 tw2 kw2 Bw2 xR_w2
      go_wp2
      go_ret2
      exact ⟨tup_text HF.out, by rw [HR.out]; exact Bw3⟩

    by_cases k11 : k = 11
    · subst k11
      obtain ⟨X1, hX1, zX1, a1⟩ := add_step s ⟨#[58]⟩ 100000 1 hs (by decide) (by decide)
      have HF : Hid (X1 = T) := Lib.hid (by rw [text_is hT]; refine text_is ?_; rw [hX1]; unfold wordS; rw [if_neg (show ¬ (srcM 11 t s h b p pa).k = 9 from (show ¬ (11 : Int) = 9 by decide)), if_neg (show ¬ (srcM 11 t s h b p pa).k = 10 from (show ¬ (11 : Int) = 10 by decide)), if_pos (show (srcM 11 t s h b p pa).k = 11 from rfl)]; rfl)
      clear hT hr lt hs hh hpa hX1 zX1
      go_enter Tryz.func9, Tryz.ntmps9
      go_wp2_with fail
      have xn := SX.made w 11 t s h b p pa
      have mw1 := hm.made (.cells #[.int .i64 11, .string t, .string s, .string h, .bool b, .int .i64 p, .string pa] 24)
      have tw1 := ht.made (.cells #[.int .i64 11, .string t, .string s, .string h, .bool b, .int .i64 p, .string pa] 24)
      have kw1 := hk.made (.cells #[.int .i64 11, .string t, .string s, .string h, .bool b, .int .i64 p, .string pa] 24)
      have Bw1 : Below w.heap.size w (w.alloc (.cells #[.int .i64 11, .string t, .string s, .string h, .bool b, .int .i64 p, .string pa] 24)) := ((Below.refl w.heap.size w).alloc (Nat.le_refl _) (.cells #[.int .i64 11, .string t, .string s, .string h, .bool b, .int .i64 p, .string pa] 24))
      generalize hR : w.heap.size = R at xn Bw1 ⊢
      have HR := Lib.hid hR
      clear hR
      generalize w.alloc (.cells #[.int .i64 11, .string t, .string s, .string h, .bool b, .int .i64 p, .string pa] 24) = w1 at xn mw1 tw1 kw1 Bw1  ⊢
      have xR_w1 := xn
      clear xn hm ht hk
      refine (CR.out _ mw1 tw1 kw1).mono ?_
      rintro e w2 ⟨rfl, b_⟩
      have mw2 := mw1.below b_
      have tw2 := tw1.below b_
      have kw2 := kw1.below b_
      have Bw2 := Bw1.trans (b_.mono (Nat.le_of_lt xR_w1.lt))
      have xR_w2 := xR_w1.below b_
      clear b_ mw1 tw1 kw1 Bw1 xR_w1
      have dR0 := xR_w2.c0
      have dR1 := xR_w2.c1
      have dR2 := xR_w2.c2
      have dR3 := xR_w2.c3
      have dR4 := xR_w2.c4
      have dR5 := xR_w2.c5
      have dR6 := xR_w2.c6
      go_wp2
      go_ret2
      exact ⟨tup_text HF.out, by rw [HR.out]; exact Bw2⟩

    by_cases k12 : k = 12
    · subst k12
      obtain ⟨p0, p1⟩ := right_ports hr
      have CP := placeW_hid 12 t s h b p pa hs hh hpa p0 p1 T (hT.trans (word_12 t s h b p pa))
      unfold srcV at CP
      clear hT hr lt hs hh hpa p0 p1
      go_enter Tryz.func9, Tryz.ntmps9
      go_wp2_with fail
      have xn := SX.made w 12 t s h b p pa
      have mw1 := hm.made (.cells #[.int .i64 12, .string t, .string s, .string h, .bool b, .int .i64 p, .string pa] 24)
      have tw1 := ht.made (.cells #[.int .i64 12, .string t, .string s, .string h, .bool b, .int .i64 p, .string pa] 24)
      have kw1 := hk.made (.cells #[.int .i64 12, .string t, .string s, .string h, .bool b, .int .i64 p, .string pa] 24)
      have Bw1 : Below w.heap.size w (w.alloc (.cells #[.int .i64 12, .string t, .string s, .string h, .bool b, .int .i64 p, .string pa] 24)) := ((Below.refl w.heap.size w).alloc (Nat.le_refl _) (.cells #[.int .i64 12, .string t, .string s, .string h, .bool b, .int .i64 p, .string pa] 24))
      generalize hR : w.heap.size = R at xn Bw1 ⊢
      have HR := Lib.hid hR
      clear hR
      generalize w.alloc (.cells #[.int .i64 12, .string t, .string s, .string h, .bool b, .int .i64 p, .string pa] 24) = w1 at xn mw1 tw1 kw1 Bw1  ⊢
      have xR_w1 := xn
      clear xn hm ht hk
      refine (CR.out _ mw1 tw1 kw1).mono ?_
      rintro e w2 ⟨rfl, b_⟩
      have mw2 := mw1.below b_
      have tw2 := tw1.below b_
      have kw2 := kw1.below b_
      have Bw2 := Bw1.trans (b_.mono (Nat.le_of_lt xR_w1.lt))
      have xR_w2 := xR_w1.below b_
      clear b_ mw1 tw1 kw1 Bw1 xR_w1
      have dR0 := xR_w2.c0
      have dR1 := xR_w2.c1
      have dR2 := xR_w2.c2
      have dR3 := xR_w2.c3
      have dR4 := xR_w2.c4
      have dR5 := xR_w2.c5
      have dR6 := xR_w2.c6
      go_wp2_with fail
      clear dR0 dR1 dR2 dR3 dR4 dR5 dR6
      refine (CP.out _ mw2 tw2).mono ?_
      rintro e w3 ⟨rfl, b_⟩
      have mw3 := mw2.below b_
      have tw3 := tw2.below b_
      have kw3 := kw2.below b_
      have Bw3 := Bw2.trans (b_.mono (Nat.le_of_lt xR_w2.lt))
      have xR_w3 := xR_w2.below b_
      clear b_ mw2 tw2 kw2 Bw2 xR_w2
      go_wp2
      go_ret2
      exact ⟨rfl, by rw [HR.out]; exact Bw3⟩

    have CK := keptT_hid k T (hT.trans (word_kept k t s h b p pa k9 k10 k11 k12))
    have m9 : (k == 9) = false := by rw [beq_eq_false_iff_ne]; exact k9
    have m10 : (k == 10) = false := by rw [beq_eq_false_iff_ne]; exact k10
    have m11 : (k == 11) = false := by rw [beq_eq_false_iff_ne]; exact k11
    have m12 : (k == 12) = false := by rw [beq_eq_false_iff_ne]; exact k12
    clear hT hr lt hs hh hpa k9 k10 k11 k12
    go_enter Tryz.func9, Tryz.ntmps9
    go_wp2_with fail
    have xn := SX.made w k t s h b p pa
    have mw1 := hm.made (.cells #[.int .i64 k, .string t, .string s, .string h, .bool b, .int .i64 p, .string pa] 24)
    have tw1 := ht.made (.cells #[.int .i64 k, .string t, .string s, .string h, .bool b, .int .i64 p, .string pa] 24)
    have kw1 := hk.made (.cells #[.int .i64 k, .string t, .string s, .string h, .bool b, .int .i64 p, .string pa] 24)
    have Bw1 : Below w.heap.size w (w.alloc (.cells #[.int .i64 k, .string t, .string s, .string h, .bool b, .int .i64 p, .string pa] 24)) := ((Below.refl w.heap.size w).alloc (Nat.le_refl _) (.cells #[.int .i64 k, .string t, .string s, .string h, .bool b, .int .i64 p, .string pa] 24))
    generalize hR : w.heap.size = R at xn Bw1 ⊢
    have HR := Lib.hid hR
    clear hR
    generalize w.alloc (.cells #[.int .i64 k, .string t, .string s, .string h, .bool b, .int .i64 p, .string pa] 24) = w1 at xn mw1 tw1 kw1 Bw1  ⊢
    have xR_w1 := xn
    clear xn hm ht hk
    refine (CR.out _ mw1 tw1 kw1).mono ?_
    rintro e w2 ⟨rfl, b_⟩
    have mw2 := mw1.below b_
    have tw2 := tw1.below b_
    have kw2 := kw1.below b_
    have Bw2 := Bw1.trans (b_.mono (Nat.le_of_lt xR_w1.lt))
    have xR_w2 := xR_w1.below b_
    clear b_ mw1 tw1 kw1 Bw1 xR_w1
    have dR0 := xR_w2.c0
    have dR1 := xR_w2.c1
    have dR2 := xR_w2.c2
    have dR3 := xR_w2.c3
    have dR4 := xR_w2.c4
    have dR5 := xR_w2.c5
    have dR6 := xR_w2.c6
    go_wp2_with fail
    clear dR0 dR1 dR2 dR3 dR4 dR5 dR6
    refine (CK.out _ kw2).mono ?_
    rintro e w3 ⟨rfl, b_⟩
    have mw3 := mw2.below b_
    have tw3 := tw2.below b_
    have kw3 := kw2.below b_
    have Bw3 := Bw2.trans (b_.mono (Nat.le_of_lt xR_w2.lt))
    have xR_w3 := xR_w2.below b_
    clear b_ mw2 tw2 kw2 Bw2 xR_w2
    go_wp2
    go_ret2
    exact ⟨rfl, by rw [HR.out]; exact Bw3⟩

theorem printS_hid (k : Int) (t s h : ByteArray) (b : Bool) (p : Int) (pa : ByteArray) (lt : t.size ≤ 100000) (hs : s.size ≤ 100000) (hh : h.size ≤ 100000) (hpa : pa.size ≤ 100000) (r : Bool) (hr : rightS (srcM k t s h b p pa) = r) (T : ByteArray) (hT : T.data.toList = if r then wordS (srcM k t s h b p pa) else []) : Hid (∀ W, MaxIn W → TabIn W → KeptIn W → Calls Tryz.prog 9 #[srcV k t s h b p pa] W fun e w' => e = .returned (.tuple #[.string T, .bool r]) ∧ Below W.heap.size W w') := Lib.hid fun W hm ht hk => printS_any k t s h b p pa lt hs hh hpa r hr T hT W hm ht hk

end Go.Proofs.YtmfejcmhbncchaaGreatDoor
