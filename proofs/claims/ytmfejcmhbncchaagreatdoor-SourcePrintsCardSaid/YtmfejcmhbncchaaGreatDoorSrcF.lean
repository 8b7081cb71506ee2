/- The word of a place: the program's. -/
import Derived.Test.YtmfejcmhbncchaaGreatDoorSrcD
namespace Go.Proofs.YtmfejcmhbncchaaGreatDoor
open Go.RowKit

/-- What stands ahead of a place's path, as the program lays it. -/
def placeT (s h : List UInt8) (b : Bool) (p : Int) : List UInt8 := schT s ++ ((if b then 42 :: (if h.isEmpty then [] else [46]) else []) ++ (h ++ sportT p))
theorem placeT_word (k : Int) (t s h : ByteArray) (b : Bool) (p : Int) (pa : ByteArray) : placeT s.data.toList h.data.toList b p ++ pa.data.toList = schT (srcM k t s h b p pa).s ++ (frontS (srcM k t s h b p pa) ++ (sportT p ++ pa.data.toList)) := by
  unfold placeT frontS srcM
  simp
theorem add_step (S T : ByteArray) (n m : Nat) (hS : S.size ≤ n) (hT : T.size ≤ m) (hn : n + m ≤ 4000000) : ∃ R : ByteArray, R.data.toList = S.data.toList ++ T.data.toList ∧ R.size ≤ n + m ∧ ∀ W, (Op.stringOp .add S T).run Tryz.prog W = .ok (.string R) W := by
  obtain ⟨R, hR⟩ := text_of (S.data.toList ++ T.data.toList)
  refine ⟨R, hR, ?_, add_to S T R hR (by omega)⟩
  rw [← lsize, hR, List.length_append, lsize, lsize]
  omega

set_option maxRecDepth 100000 in
set_option maxHeartbeats 8000000 in
theorem placeW_any (k : Int) (t s h : ByteArray) (b : Bool) (p : Int) (pa : ByteArray) (hs : s.size ≤ 100000) (hh : h.size ≤ 100000) (hpa : pa.size ≤ 100000) (p0 : -1 ≤ p) (p1 : p ≤ 65535) (T : ByteArray) (hT : T.data.toList = placeT s.data.toList h.data.toList b p ++ pa.data.toList) (w : World) (hm : MaxIn w) (ht : TabIn w) : Calls Tryz.prog 20 #[srcV k t s h b p pa] w fun e w' => e = .returned (.string T) ∧ Below w.heap.size w w' := by
  unfold srcV
  cases gs : s.toList.isEmpty
  · have es : s.data.toList.isEmpty = false := by rw [← text_empty]; exact gs
    cases b
    · show _
      by_cases q0 : p = -1
      · subst q0
        obtain ⟨X1, hX1, zX1, a1⟩ := add_step s ⟨#[58, 47, 47]⟩ 100000 3 hs (by decide) (by decide)
        obtain ⟨X2, hX2, zX2, a2⟩ := add_step X1 h 100003 100000 zX1 hh (by decide)
        obtain ⟨X3, hX3, zX3, a3⟩ := add_step X2 ⟨#[58, 42]⟩ 200003 2 zX2 (by decide) (by decide)
        obtain ⟨X4, hX4, zX4, a4⟩ := add_step X3 pa 200005 100000 zX3 hpa (by decide)
        have HF : Hid (X4 = T) := Lib.hid (by rw [text_is hT]; refine text_is ?_; rw [hX4, hX3, hX2, hX1]; unfold placeT schT sportT; simp [es])
        clear hT es hX1 hX2 hX3 hX4 zX1 zX2 zX3 zX4 hs hh hpa
        have c0 : (w.alloc (.cells #[.int .i64 k, .string t, .string s, .string h, .bool false, .int .i64 (-1), .string pa] 24)).cell? ⟨w.heap.size, 0, none⟩ = some (.int .i64 k) := (SX.made w k t s h false (-1) pa).c0
        have c1 : (w.alloc (.cells #[.int .i64 k, .string t, .string s, .string h, .bool false, .int .i64 (-1), .string pa] 24)).cell? ⟨w.heap.size, 1, none⟩ = some (.string t) := (SX.made w k t s h false (-1) pa).c1
        have c2 : (w.alloc (.cells #[.int .i64 k, .string t, .string s, .string h, .bool false, .int .i64 (-1), .string pa] 24)).cell? ⟨w.heap.size, 2, none⟩ = some (.string s) := (SX.made w k t s h false (-1) pa).c2
        have c3 : (w.alloc (.cells #[.int .i64 k, .string t, .string s, .string h, .bool false, .int .i64 (-1), .string pa] 24)).cell? ⟨w.heap.size, 3, none⟩ = some (.string h) := (SX.made w k t s h false (-1) pa).c3
        have c4 : (w.alloc (.cells #[.int .i64 k, .string t, .string s, .string h, .bool false, .int .i64 (-1), .string pa] 24)).cell? ⟨w.heap.size, 4, none⟩ = some (.bool false) := (SX.made w k t s h false (-1) pa).c4
        have c5 : (w.alloc (.cells #[.int .i64 k, .string t, .string s, .string h, .bool false, .int .i64 (-1), .string pa] 24)).cell? ⟨w.heap.size, 5, none⟩ = some (.int .i64 (-1)) := (SX.made w k t s h false (-1) pa).c5
        have c6 : (w.alloc (.cells #[.int .i64 k, .string t, .string s, .string h, .bool false, .int .i64 (-1), .string pa] 24)).cell? ⟨w.heap.size, 6, none⟩ = some (.string pa) := (SX.made w k t s h false (-1) pa).c6
        go_enter Tryz.func20, Tryz.ntmps20
        go_wp2
        go_ret
        exact ⟨congrArg (fun x => Ending.returned (Value.string x)) HF.out, (Below.refl _ _).alloc (Nat.le_refl _) _⟩

      have m1 : (p == -1) = false := by rw [beq_eq_false_iff_ne]; exact q0
      have q1 : ¬ p < 0 := by omega
      by_cases q2 : 0 < p
      · show _
        obtain ⟨X1, hX1, zX1, a1⟩ := add_step s ⟨#[58, 47, 47]⟩ 100000 3 hs (by decide) (by decide)
        obtain ⟨X2, hX2, zX2, a2⟩ := add_step X1 h 100003 100000 zX1 hh (by decide)
        obtain ⟨D, hD⟩ := text_of (Lib.decDigits p.toNat)
        have zD : D.size ≤ 5 := by rw [← lsize, hD, Lib.decDigits_length]; exact nDigits_le _ (by omega)
        obtain ⟨P, hP, zP, aP⟩ := add_step ⟨#[58]⟩ D 1 5 (by decide) zD (by decide)
        have CI := itoa_hid p (by omega) p1 D hD
        obtain ⟨X3, hX3, zX3, a3⟩ := add_step X2 P 200003 6 zX2 (by omega) (by decide)
        obtain ⟨X4, hX4, zX4, a4⟩ := add_step X3 pa 200009 100000 zX3 hpa (by decide)
        have HF : Hid (X4 = T) := Lib.hid (by rw [text_is hT]; refine text_is ?_; rw [hX4, hX3, hX2, hX1, hP, hD]; unfold placeT schT sportT; simp [es, q1, q2])
        clear hT es hX1 hX2 hX3 hX4 zX1 zX2 zX3 zX4 hs hh hpa hD hP zD zP
        go_enter Tryz.func20, Tryz.ntmps20
        go_wp2_with fail
        have xn := SX.made w k t s h false p pa
        have mw1 := hm.made (.cells #[.int .i64 k, .string t, .string s, .string h, .bool false, .int .i64 p, .string pa] 24)
        have tw1 := ht.made (.cells #[.int .i64 k, .string t, .string s, .string h, .bool false, .int .i64 p, .string pa] 24)
        have Bw1 : Below w.heap.size w (w.alloc (.cells #[.int .i64 k, .string t, .string s, .string h, .bool false, .int .i64 p, .string pa] 24)) := ((Below.refl w.heap.size w).alloc (Nat.le_refl _) (.cells #[.int .i64 k, .string t, .string s, .string h, .bool false, .int .i64 p, .string pa] 24))
        generalize hR : w.heap.size = R at xn Bw1 ⊢
        have HR := Lib.hid hR
        clear hR
        generalize w.alloc (.cells #[.int .i64 k, .string t, .string s, .string h, .bool false, .int .i64 p, .string pa] 24) = w1 at xn mw1 tw1 Bw1  ⊢
        have xR_w1 := xn
        clear xn hm ht
        refine (CI.out _ tw1).mono ?_
        rintro e w2 ⟨rfl, b_⟩
        have mw2 := mw1.below b_
        have tw2 := tw1.below b_
        have Bw2 := Bw1.trans (b_.mono (Nat.le_of_lt xR_w1.lt))
        have xR_w2 := xR_w1.below b_
        clear b_ mw1 tw1 Bw1 xR_w1
        have dR0 := xR_w2.c0
        have dR1 := xR_w2.c1
        have dR2 := xR_w2.c2
        have dR3 := xR_w2.c3
        have dR4 := xR_w2.c4
        have dR5 := xR_w2.c5
        have dR6 := xR_w2.c6
        go_wp2
        go_ret
        exact ⟨congrArg (fun x => Ending.returned (Value.string x)) HF.out, by rw [HR.out]; exact Bw2⟩

      obtain ⟨X1, hX1, zX1, a1⟩ := add_step s ⟨#[58, 47, 47]⟩ 100000 3 hs (by decide) (by decide)
      obtain ⟨X2, hX2, zX2, a2⟩ := add_step X1 h 100003 100000 zX1 hh (by decide)
      obtain ⟨X3, hX3, zX3, a3⟩ := add_step X2 pa 200003 100000 zX2 hpa (by decide)
      have HF : Hid (X3 = T) := Lib.hid (by rw [text_is hT]; refine text_is ?_; rw [hX3, hX2, hX1]; unfold placeT schT sportT; simp [es, q1, q2])
      clear hT es hX1 hX2 hX3 zX1 zX2 zX3 hs hh hpa
      have c0 : (w.alloc (.cells #[.int .i64 k, .string t, .string s, .string h, .bool false, .int .i64 p, .string pa] 24)).cell? ⟨w.heap.size, 0, none⟩ = some (.int .i64 k) := (SX.made w k t s h false p pa).c0
      have c1 : (w.alloc (.cells #[.int .i64 k, .string t, .string s, .string h, .bool false, .int .i64 p, .string pa] 24)).cell? ⟨w.heap.size, 1, none⟩ = some (.string t) := (SX.made w k t s h false p pa).c1
      have c2 : (w.alloc (.cells #[.int .i64 k, .string t, .string s, .string h, .bool false, .int .i64 p, .string pa] 24)).cell? ⟨w.heap.size, 2, none⟩ = some (.string s) := (SX.made w k t s h false p pa).c2
      have c3 : (w.alloc (.cells #[.int .i64 k, .string t, .string s, .string h, .bool false, .int .i64 p, .string pa] 24)).cell? ⟨w.heap.size, 3, none⟩ = some (.string h) := (SX.made w k t s h false p pa).c3
      have c4 : (w.alloc (.cells #[.int .i64 k, .string t, .string s, .string h, .bool false, .int .i64 p, .string pa] 24)).cell? ⟨w.heap.size, 4, none⟩ = some (.bool false) := (SX.made w k t s h false p pa).c4
      have c5 : (w.alloc (.cells #[.int .i64 k, .string t, .string s, .string h, .bool false, .int .i64 p, .string pa] 24)).cell? ⟨w.heap.size, 5, none⟩ = some (.int .i64 p) := (SX.made w k t s h false p pa).c5
      have c6 : (w.alloc (.cells #[.int .i64 k, .string t, .string s, .string h, .bool false, .int .i64 p, .string pa] 24)).cell? ⟨w.heap.size, 6, none⟩ = some (.string pa) := (SX.made w k t s h false p pa).c6
      go_enter Tryz.func20, Tryz.ntmps20
      go_wp2
      go_ret
      exact ⟨congrArg (fun x => Ending.returned (Value.string x)) HF.out, (Below.refl _ _).alloc (Nat.le_refl _) _⟩

    cases gh : h.toList.isEmpty
    · have eh : h.data.toList.isEmpty = false := by rw [← text_empty]; exact gh
      by_cases q0 : p = -1
      · subst q0
        obtain ⟨X1, hX1, zX1, a1⟩ := add_step s ⟨#[58, 47, 47]⟩ 100000 3 hs (by decide) (by decide)
        obtain ⟨X2, hX2, zX2, a2⟩ := add_step X1 ⟨#[42]⟩ 100003 1 zX1 (by decide) (by decide)
        obtain ⟨X3, hX3, zX3, a3⟩ := add_step X2 ⟨#[46]⟩ 100004 1 zX2 (by decide) (by decide)
        obtain ⟨X4, hX4, zX4, a4⟩ := add_step X3 h 100005 100000 zX3 hh (by decide)
        obtain ⟨X5, hX5, zX5, a5⟩ := add_step X4 ⟨#[58, 42]⟩ 200005 2 zX4 (by decide) (by decide)
        obtain ⟨X6, hX6, zX6, a6⟩ := add_step X5 pa 200007 100000 zX5 hpa (by decide)
        have HF : Hid (X6 = T) := Lib.hid (by rw [text_is hT]; refine text_is ?_; rw [hX6, hX5, hX4, hX3, hX2, hX1]; unfold placeT schT sportT; simp [es, eh])
        clear hT es hX1 hX2 hX3 hX4 hX5 hX6 zX1 zX2 zX3 zX4 zX5 zX6 hs hh hpa eh
        have c0 : (w.alloc (.cells #[.int .i64 k, .string t, .string s, .string h, .bool true, .int .i64 (-1), .string pa] 24)).cell? ⟨w.heap.size, 0, none⟩ = some (.int .i64 k) := (SX.made w k t s h true (-1) pa).c0
        have c1 : (w.alloc (.cells #[.int .i64 k, .string t, .string s, .string h, .bool true, .int .i64 (-1), .string pa] 24)).cell? ⟨w.heap.size, 1, none⟩ = some (.string t) := (SX.made w k t s h true (-1) pa).c1
        have c2 : (w.alloc (.cells #[.int .i64 k, .string t, .string s, .string h, .bool true, .int .i64 (-1), .string pa] 24)).cell? ⟨w.heap.size, 2, none⟩ = some (.string s) := (SX.made w k t s h true (-1) pa).c2
        have c3 : (w.alloc (.cells #[.int .i64 k, .string t, .string s, .string h, .bool true, .int .i64 (-1), .string pa] 24)).cell? ⟨w.heap.size, 3, none⟩ = some (.string h) := (SX.made w k t s h true (-1) pa).c3
        have c4 : (w.alloc (.cells #[.int .i64 k, .string t, .string s, .string h, .bool true, .int .i64 (-1), .string pa] 24)).cell? ⟨w.heap.size, 4, none⟩ = some (.bool true) := (SX.made w k t s h true (-1) pa).c4
        have c5 : (w.alloc (.cells #[.int .i64 k, .string t, .string s, .string h, .bool true, .int .i64 (-1), .string pa] 24)).cell? ⟨w.heap.size, 5, none⟩ = some (.int .i64 (-1)) := (SX.made w k t s h true (-1) pa).c5
        have c6 : (w.alloc (.cells #[.int .i64 k, .string t, .string s, .string h, .bool true, .int .i64 (-1), .string pa] 24)).cell? ⟨w.heap.size, 6, none⟩ = some (.string pa) := (SX.made w k t s h true (-1) pa).c6
        go_enter Tryz.func20, Tryz.ntmps20
        go_wp2
        go_ret
        exact ⟨congrArg (fun x => Ending.returned (Value.string x)) HF.out, (Below.refl _ _).alloc (Nat.le_refl _) _⟩

      have m1 : (p == -1) = false := by rw [beq_eq_false_iff_ne]; exact q0
      have q1 : ¬ p < 0 := by omega
      by_cases q2 : 0 < p
      · show _
        obtain ⟨X1, hX1, zX1, a1⟩ := add_step s ⟨#[58, 47, 47]⟩ 100000 3 hs (by decide) (by decide)
        obtain ⟨X2, hX2, zX2, a2⟩ := add_step X1 ⟨#[42]⟩ 100003 1 zX1 (by decide) (by decide)
        obtain ⟨X3, hX3, zX3, a3⟩ := add_step X2 ⟨#[46]⟩ 100004 1 zX2 (by decide) (by decide)
        obtain ⟨X4, hX4, zX4, a4⟩ := add_step X3 h 100005 100000 zX3 hh (by decide)
        obtain ⟨D, hD⟩ := text_of (Lib.decDigits p.toNat)
        have zD : D.size ≤ 5 := by rw [← lsize, hD, Lib.decDigits_length]; exact nDigits_le _ (by omega)
        obtain ⟨P, hP, zP, aP⟩ := add_step ⟨#[58]⟩ D 1 5 (by decide) zD (by decide)
        have CI := itoa_hid p (by omega) p1 D hD
        obtain ⟨X5, hX5, zX5, a5⟩ := add_step X4 P 200005 6 zX4 (by omega) (by decide)
        obtain ⟨X6, hX6, zX6, a6⟩ := add_step X5 pa 200011 100000 zX5 hpa (by decide)
        have HF : Hid (X6 = T) := Lib.hid (by rw [text_is hT]; refine text_is ?_; rw [hX6, hX5, hX4, hX3, hX2, hX1, hP, hD]; unfold placeT schT sportT; simp [es, eh, q1, q2])
        clear hT es hX1 hX2 hX3 hX4 hX5 hX6 zX1 zX2 zX3 zX4 zX5 zX6 hs hh hpa eh hD hP zD zP
        go_enter Tryz.func20, Tryz.ntmps20
        go_wp2_with fail
        have xn := SX.made w k t s h true p pa
        have mw1 := hm.made (.cells #[.int .i64 k, .string t, .string s, .string h, .bool true, .int .i64 p, .string pa] 24)
        have tw1 := ht.made (.cells #[.int .i64 k, .string t, .string s, .string h, .bool true, .int .i64 p, .string pa] 24)
        have Bw1 : Below w.heap.size w (w.alloc (.cells #[.int .i64 k, .string t, .string s, .string h, .bool true, .int .i64 p, .string pa] 24)) := ((Below.refl w.heap.size w).alloc (Nat.le_refl _) (.cells #[.int .i64 k, .string t, .string s, .string h, .bool true, .int .i64 p, .string pa] 24))
        generalize hR : w.heap.size = R at xn Bw1 ⊢
        have HR := Lib.hid hR
        clear hR
        generalize w.alloc (.cells #[.int .i64 k, .string t, .string s, .string h, .bool true, .int .i64 p, .string pa] 24) = w1 at xn mw1 tw1 Bw1  ⊢
        have xR_w1 := xn
        clear xn hm ht
        refine (CI.out _ tw1).mono ?_
        rintro e w2 ⟨rfl, b_⟩
        have mw2 := mw1.below b_
        have tw2 := tw1.below b_
        have Bw2 := Bw1.trans (b_.mono (Nat.le_of_lt xR_w1.lt))
        have xR_w2 := xR_w1.below b_
        clear b_ mw1 tw1 Bw1 xR_w1
        have dR0 := xR_w2.c0
        have dR1 := xR_w2.c1
        have dR2 := xR_w2.c2
        have dR3 := xR_w2.c3
        have dR4 := xR_w2.c4
        have dR5 := xR_w2.c5
        have dR6 := xR_w2.c6
        go_wp2
        go_ret
        exact ⟨congrArg (fun x => Ending.returned (Value.string x)) HF.out, by rw [HR.out]; exact Bw2⟩

      obtain ⟨X1, hX1, zX1, a1⟩ := add_step s ⟨#[58, 47, 47]⟩ 100000 3 hs (by decide) (by decide)
      obtain ⟨X2, hX2, zX2, a2⟩ := add_step X1 ⟨#[42]⟩ 100003 1 zX1 (by decide) (by decide)
      obtain ⟨X3, hX3, zX3, a3⟩ := add_step X2 ⟨#[46]⟩ 100004 1 zX2 (by decide) (by decide)
      obtain ⟨X4, hX4, zX4, a4⟩ := add_step X3 h 100005 100000 zX3 hh (by decide)
      obtain ⟨X5, hX5, zX5, a5⟩ := add_step X4 pa 200005 100000 zX4 hpa (by decide)
      have HF : Hid (X5 = T) := Lib.hid (by rw [text_is hT]; refine text_is ?_; rw [hX5, hX4, hX3, hX2, hX1]; unfold placeT schT sportT; simp [es, eh, q1, q2])
      clear hT es hX1 hX2 hX3 hX4 hX5 zX1 zX2 zX3 zX4 zX5 hs hh hpa eh
      have c0 : (w.alloc (.cells #[.int .i64 k, .string t, .string s, .string h, .bool true, .int .i64 p, .string pa] 24)).cell? ⟨w.heap.size, 0, none⟩ = some (.int .i64 k) := (SX.made w k t s h true p pa).c0
      have c1 : (w.alloc (.cells #[.int .i64 k, .string t, .string s, .string h, .bool true, .int .i64 p, .string pa] 24)).cell? ⟨w.heap.size, 1, none⟩ = some (.string t) := (SX.made w k t s h true p pa).c1
      have c2 : (w.alloc (.cells #[.int .i64 k, .string t, .string s, .string h, .bool true, .int .i64 p, .string pa] 24)).cell? ⟨w.heap.size, 2, none⟩ = some (.string s) := (SX.made w k t s h true p pa).c2
      have c3 : (w.alloc (.cells #[.int .i64 k, .string t, .string s, .string h, .bool true, .int .i64 p, .string pa] 24)).cell? ⟨w.heap.size, 3, none⟩ = some (.string h) := (SX.made w k t s h true p pa).c3
      have c4 : (w.alloc (.cells #[.int .i64 k, .string t, .string s, .string h, .bool true, .int .i64 p, .string pa] 24)).cell? ⟨w.heap.size, 4, none⟩ = some (.bool true) := (SX.made w k t s h true p pa).c4
      have c5 : (w.alloc (.cells #[.int .i64 k, .string t, .string s, .string h, .bool true, .int .i64 p, .string pa] 24)).cell? ⟨w.heap.size, 5, none⟩ = some (.int .i64 p) := (SX.made w k t s h true p pa).c5
      have c6 : (w.alloc (.cells #[.int .i64 k, .string t, .string s, .string h, .bool true, .int .i64 p, .string pa] 24)).cell? ⟨w.heap.size, 6, none⟩ = some (.string pa) := (SX.made w k t s h true p pa).c6
      go_enter Tryz.func20, Tryz.ntmps20
      go_wp2
      go_ret
      exact ⟨congrArg (fun x => Ending.returned (Value.string x)) HF.out, (Below.refl _ _).alloc (Nat.le_refl _) _⟩

    have eh : h.data.toList.isEmpty = true := by rw [← text_empty]; exact gh
    by_cases q0 : p = -1
    · subst q0
      obtain ⟨X1, hX1, zX1, a1⟩ := add_step s ⟨#[58, 47, 47]⟩ 100000 3 hs (by decide) (by decide)
      obtain ⟨X2, hX2, zX2, a2⟩ := add_step X1 ⟨#[42]⟩ 100003 1 zX1 (by decide) (by decide)
      obtain ⟨X3, hX3, zX3, a3⟩ := add_step X2 h 100004 100000 zX2 hh (by decide)
      obtain ⟨X4, hX4, zX4, a4⟩ := add_step X3 ⟨#[58, 42]⟩ 200004 2 zX3 (by decide) (by decide)
      obtain ⟨X5, hX5, zX5, a5⟩ := add_step X4 pa 200006 100000 zX4 hpa (by decide)
      have HF : Hid (X5 = T) := Lib.hid (by rw [text_is hT]; refine text_is ?_; rw [hX5, hX4, hX3, hX2, hX1]; unfold placeT schT sportT; simp [es, eh])
      clear hT es hX1 hX2 hX3 hX4 hX5 zX1 zX2 zX3 zX4 zX5 hs hh hpa eh
      have c0 : (w.alloc (.cells #[.int .i64 k, .string t, .string s, .string h, .bool true, .int .i64 (-1), .string pa] 24)).cell? ⟨w.heap.size, 0, none⟩ = some (.int .i64 k) := (SX.made w k t s h true (-1) pa).c0
      have c1 : (w.alloc (.cells #[.int .i64 k, .string t, .string s, .string h, .bool true, .int .i64 (-1), .string pa] 24)).cell? ⟨w.heap.size, 1, none⟩ = some (.string t) := (SX.made w k t s h true (-1) pa).c1
      have c2 : (w.alloc (.cells #[.int .i64 k, .string t, .string s, .string h, .bool true, .int .i64 (-1), .string pa] 24)).cell? ⟨w.heap.size, 2, none⟩ = some (.string s) := (SX.made w k t s h true (-1) pa).c2
      have c3 : (w.alloc (.cells #[.int .i64 k, .string t, .string s, .string h, .bool true, .int .i64 (-1), .string pa] 24)).cell? ⟨w.heap.size, 3, none⟩ = some (.string h) := (SX.made w k t s h true (-1) pa).c3
      have c4 : (w.alloc (.cells #[.int .i64 k, .string t, .string s, .string h, .bool true, .int .i64 (-1), .string pa] 24)).cell? ⟨w.heap.size, 4, none⟩ = some (.bool true) := (SX.made w k t s h true (-1) pa).c4
      have c5 : (w.alloc (.cells #[.int .i64 k, .string t, .string s, .string h, .bool true, .int .i64 (-1), .string pa] 24)).cell? ⟨w.heap.size, 5, none⟩ = some (.int .i64 (-1)) := (SX.made w k t s h true (-1) pa).c5
      have c6 : (w.alloc (.cells #[.int .i64 k, .string t, .string s, .string h, .bool true, .int .i64 (-1), .string pa] 24)).cell? ⟨w.heap.size, 6, none⟩ = some (.string pa) := (SX.made w k t s h true (-1) pa).c6
      go_enter Tryz.func20, Tryz.ntmps20
      go_wp2
      go_ret
      exact ⟨congrArg (fun x => Ending.returned (Value.string x)) HF.out, (Below.refl _ _).alloc (Nat.le_refl _) _⟩

    have m1 : (p == -1) = false := by rw [beq_eq_false_iff_ne]; exact q0
    have q1 : ¬ p < 0 := by omega
    by_cases q2 : 0 < p
    · show _
      obtain ⟨X1, hX1, zX1, a1⟩ := add_step s ⟨#[58, 47, 47]⟩ 100000 3 hs (by decide) (by decide)
      obtain ⟨X2, hX2, zX2, a2⟩ := add_step X1 ⟨#[42]⟩ 100003 1 zX1 (by decide) (by decide)
      obtain ⟨X3, hX3, zX3, a3⟩ := add_step X2 h 100004 100000 zX2 hh (by decide)
      obtain ⟨D, hD⟩ := text_of (Lib.decDigits p.toNat)
      have zD : D.size ≤ 5 := by rw [← lsize, hD, Lib.decDigits_length]; exact nDigits_le _ (by omega)
      obtain ⟨P, hP, zP, aP⟩ := add_step ⟨#[58]⟩ D 1 5 (by decide) zD (by decide)
      have CI := itoa_hid p (by omega) p1 D hD
      obtain ⟨X4, hX4, zX4, a4⟩ := add_step X3 P 200004 6 zX3 (by omega) (by decide)
      obtain ⟨X5, hX5, zX5, a5⟩ := add_step X4 pa 200010 100000 zX4 hpa (by decide)
      have HF : Hid (X5 = T) := Lib.hid (by rw [text_is hT]; refine text_is ?_; rw [hX5, hX4, hX3, hX2, hX1, hP, hD]; unfold placeT schT sportT; simp [es, eh, q1, q2])
      clear hT es hX1 hX2 hX3 hX4 hX5 zX1 zX2 zX3 zX4 zX5 hs hh hpa eh hD hP zD zP
      go_enter Tryz.func20, Tryz.ntmps20
      go_wp2_with fail
      have xn := SX.made w k t s h true p pa
      have mw1 := hm.made (.cells #[.int .i64 k, .string t, .string s, .string h, .bool true, .int .i64 p, .string pa] 24)
      have tw1 := ht.made (.cells #[.int .i64 k, .string t, .string s, .string h, .bool true, .int .i64 p, .string pa] 24)
      have Bw1 : Below w.heap.size w (w.alloc (.cells #[.int .i64 k, .string t, .string s, .string h, .bool true, .int .i64 p, .string pa] 24)) := ((Below.refl w.heap.size w).alloc (Nat.le_refl _) (.cells #[.int .i64 k, .string t, .string s, .string h, .bool true, .int .i64 p, .string pa] 24))
      generalize hR : w.heap.size = R at xn Bw1 ⊢
      have HR := Lib.hid hR
      clear hR
      generalize w.alloc (.cells #[.int .i64 k, .string t, .string s, .string h, .bool true, .int .i64 p, .string pa] 24) = w1 at xn mw1 tw1 Bw1  ⊢
      have xR_w1 := xn
      clear xn hm ht
      refine (CI.out _ tw1).mono ?_
      rintro e w2 ⟨rfl, b_⟩
      have mw2 := mw1.below b_
      have tw2 := tw1.below b_
      have Bw2 := Bw1.trans (b_.mono (Nat.le_of_lt xR_w1.lt))
      have xR_w2 := xR_w1.below b_
      clear b_ mw1 tw1 Bw1 xR_w1
      have dR0 := xR_w2.c0
      have dR1 := xR_w2.c1
      have dR2 := xR_w2.c2
      have dR3 := xR_w2.c3
      have dR4 := xR_w2.c4
      have dR5 := xR_w2.c5
      have dR6 := xR_w2.c6
      go_wp2
      go_ret
      exact ⟨congrArg (fun x => Ending.returned (Value.string x)) HF.out, by rw [HR.out]; exact Bw2⟩

    obtain ⟨X1, hX1, zX1, a1⟩ := add_step s ⟨#[58, 47, 47]⟩ 100000 3 hs (by decide) (by decide)
    obtain ⟨X2, hX2, zX2, a2⟩ := add_step X1 ⟨#[42]⟩ 100003 1 zX1 (by decide) (by decide)
    obtain ⟨X3, hX3, zX3, a3⟩ := add_step X2 h 100004 100000 zX2 hh (by decide)
    obtain ⟨X4, hX4, zX4, a4⟩ := add_step X3 pa 200004 100000 zX3 hpa (by decide)
    have HF : Hid (X4 = T) := Lib.hid (by rw [text_is hT]; refine text_is ?_; rw [hX4, hX3, hX2, hX1]; unfold placeT schT sportT; simp [es, eh, q1, q2])
    clear hT es hX1 hX2 hX3 hX4 zX1 zX2 zX3 zX4 hs hh hpa eh
    have c0 : (w.alloc (.cells #[.int .i64 k, .string t, .string s, .string h, .bool true, .int .i64 p, .string pa] 24)).cell? ⟨w.heap.size, 0, none⟩ = some (.int .i64 k) := (SX.made w k t s h true p pa).c0
    have c1 : (w.alloc (.cells #[.int .i64 k, .string t, .string s, .string h, .bool true, .int .i64 p, .string pa] 24)).cell? ⟨w.heap.size, 1, none⟩ = some (.string t) := (SX.made w k t s h true p pa).c1
    have c2 : (w.alloc (.cells #[.int .i64 k, .string t, .string s, .string h, .bool true, .int .i64 p, .string pa] 24)).cell? ⟨w.heap.size, 2, none⟩ = some (.string s) := (SX.made w k t s h true p pa).c2
    have c3 : (w.alloc (.cells #[.int .i64 k, .string t, .string s, .string h, .bool true, .int .i64 p, .string pa] 24)).cell? ⟨w.heap.size, 3, none⟩ = some (.string h) := (SX.made w k t s h true p pa).c3
    have c4 : (w.alloc (.cells #[.int .i64 k, .string t, .string s, .string h, .bool true, .int .i64 p, .string pa] 24)).cell? ⟨w.heap.size, 4, none⟩ = some (.bool true) := (SX.made w k t s h true p pa).c4
    have c5 : (w.alloc (.cells #[.int .i64 k, .string t, .string s, .string h, .bool true, .int .i64 p, .string pa] 24)).cell? ⟨w.heap.size, 5, none⟩ = some (.int .i64 p) := (SX.made w k t s h true p pa).c5
    have c6 : (w.alloc (.cells #[.int .i64 k, .string t, .string s, .string h, .bool true, .int .i64 p, .string pa] 24)).cell? ⟨w.heap.size, 6, none⟩ = some (.string pa) := (SX.made w k t s h true p pa).c6
    go_enter Tryz.func20, Tryz.ntmps20
    go_wp2
    go_ret
    exact ⟨congrArg (fun x => Ending.returned (Value.string x)) HF.out, (Below.refl _ _).alloc (Nat.le_refl _) _⟩

  have es : s.data.toList.isEmpty = true := by rw [← text_empty]; exact gs
  cases b
  · show _
    by_cases q0 : p = -1
    · subst q0
      obtain ⟨X1, hX1, zX1, a1⟩ := add_step ⟨#[]⟩ h 0 100000 (by decide) hh (by decide)
      obtain ⟨X2, hX2, zX2, a2⟩ := add_step X1 ⟨#[58, 42]⟩ 100000 2 zX1 (by decide) (by decide)
      obtain ⟨X3, hX3, zX3, a3⟩ := add_step X2 pa 100002 100000 zX2 hpa (by decide)
      have HF : Hid (X3 = T) := Lib.hid (by rw [text_is hT]; refine text_is ?_; rw [hX3, hX2, hX1]; unfold placeT schT sportT; simp [es])
      clear hT es hX1 hX2 hX3 zX1 zX2 zX3 hs hh hpa
      have c0 : (w.alloc (.cells #[.int .i64 k, .string t, .string s, .string h, .bool false, .int .i64 (-1), .string pa] 24)).cell? ⟨w.heap.size, 0, none⟩ = some (.int .i64 k) := (SX.made w k t s h false (-1) pa).c0
      have c1 : (w.alloc (.cells #[.int .i64 k, .string t, .string s, .string h, .bool false, .int .i64 (-1), .string pa] 24)).cell? ⟨w.heap.size, 1, none⟩ = some (.string t) := (SX.made w k t s h false (-1) pa).c1
      have c2 : (w.alloc (.cells #[.int .i64 k, .string t, .string s, .string h, .bool false, .int .i64 (-1), .string pa] 24)).cell? ⟨w.heap.size, 2, none⟩ = some (.string s) := (SX.made w k t s h false (-1) pa).c2
      have c3 : (w.alloc (.cells #[.int .i64 k, .string t, .string s, .string h, .bool false, .int .i64 (-1), .string pa] 24)).cell? ⟨w.heap.size, 3, none⟩ = some (.string h) := (SX.made w k t s h false (-1) pa).c3
      have c4 : (w.alloc (.cells #[.int .i64 k, .string t, .string s, .string h, .bool false, .int .i64 (-1), .string pa] 24)).cell? ⟨w.heap.size, 4, none⟩ = some (.bool false) := (SX.made w k t s h false (-1) pa).c4
      have c5 : (w.alloc (.cells #[.int .i64 k, .string t, .string s, .string h, .bool false, .int .i64 (-1), .string pa] 24)).cell? ⟨w.heap.size, 5, none⟩ = some (.int .i64 (-1)) := (SX.made w k t s h false (-1) pa).c5
      have c6 : (w.alloc (.cells #[.int .i64 k, .string t, .string s, .string h, .bool false, .int .i64 (-1), .string pa] 24)).cell? ⟨w.heap.size, 6, none⟩ = some (.string pa) := (SX.made w k t s h false (-1) pa).c6
      go_enter Tryz.func20, Tryz.ntmps20
      go_wp2
      go_ret
      exact ⟨congrArg (fun x => Ending.returned (Value.string x)) HF.out, (Below.refl _ _).alloc (Nat.le_refl _) _⟩

    have m1 : (p == -1) = false := by rw [beq_eq_false_iff_ne]; exact q0
    have q1 : ¬ p < 0 := by omega
    by_cases q2 : 0 < p
    · show _
      obtain ⟨X1, hX1, zX1, a1⟩ := add_step ⟨#[]⟩ h 0 100000 (by decide) hh (by decide)
      obtain ⟨D, hD⟩ := text_of (Lib.decDigits p.toNat)
      have zD : D.size ≤ 5 := by rw [← lsize, hD, Lib.decDigits_length]; exact nDigits_le _ (by omega)
      obtain ⟨P, hP, zP, aP⟩ := add_step ⟨#[58]⟩ D 1 5 (by decide) zD (by decide)
      have CI := itoa_hid p (by omega) p1 D hD
      obtain ⟨X2, hX2, zX2, a2⟩ := add_step X1 P 100000 6 zX1 (by omega) (by decide)
      obtain ⟨X3, hX3, zX3, a3⟩ := add_step X2 pa 100006 100000 zX2 hpa (by decide)
      have HF : Hid (X3 = T) := Lib.hid (by rw [text_is hT]; refine text_is ?_; rw [hX3, hX2, hX1, hP, hD]; unfold placeT schT sportT; simp [es, q1, q2])
      clear hT es hX1 hX2 hX3 zX1 zX2 zX3 hs hh hpa hD hP zD zP
      go_enter Tryz.func20, Tryz.ntmps20
      go_wp2_with fail
      have xn := SX.made w k t s h false p pa
      have mw1 := hm.made (.cells #[.int .i64 k, .string t, .string s, .string h, .bool false, .int .i64 p, .string pa] 24)
      have tw1 := ht.made (.cells #[.int .i64 k, .string t, .string s, .string h, .bool false, .int .i64 p, .string pa] 24)
      have Bw1 : Below w.heap.size w (w.alloc (.cells #[.int .i64 k, .string t, .string s, .string h, .bool false, .int .i64 p, .string pa] 24)) := ((Below.refl w.heap.size w).alloc (Nat.le_refl _) (.cells #[.int .i64 k, .string t, .string s, .string h, .bool false, .int .i64 p, .string pa] 24))
      generalize hR : w.heap.size = R at xn Bw1 ⊢
      have HR := Lib.hid hR
      clear hR
      generalize w.alloc (.cells #[.int .i64 k, .string t, .string s, .string h, .bool false, .int .i64 p, .string pa] 24) = w1 at xn mw1 tw1 Bw1  ⊢
      have xR_w1 := xn
      clear xn hm ht
      refine (CI.out _ tw1).mono ?_
      rintro e w2 ⟨rfl, b_⟩
      have mw2 := mw1.below b_
      have tw2 := tw1.below b_
      have Bw2 := Bw1.trans (b_.mono (Nat.le_of_lt xR_w1.lt))
      have xR_w2 := xR_w1.below b_
      clear b_ mw1 tw1 Bw1 xR_w1
      have dR0 := xR_w2.c0
      have dR1 := xR_w2.c1
      have dR2 := xR_w2.c2
      have dR3 := xR_w2.c3
      have dR4 := xR_w2.c4
      have dR5 := xR_w2.c5
      have dR6 := xR_w2.c6
      go_wp2
      go_ret
      exact ⟨congrArg (fun x => Ending.returned (Value.string x)) HF.out, by rw [HR.out]; exact Bw2⟩

    obtain ⟨X1, hX1, zX1, a1⟩ := add_step ⟨#[]⟩ h 0 100000 (by decide) hh (by decide)
    obtain ⟨X2, hX2, zX2, a2⟩ := add_step X1 pa 100000 100000 zX1 hpa (by decide)
    have HF : Hid (X2 = T) := Lib.hid (by rw [text_is hT]; refine text_is ?_; rw [hX2, hX1]; unfold placeT schT sportT; simp [es, q1, q2])
    clear hT es hX1 hX2 zX1 zX2 hs hh hpa
    have c0 : (w.alloc (.cells #[.int .i64 k, .string t, .string s, .string h, .bool false, .int .i64 p, .string pa] 24)).cell? ⟨w.heap.size, 0, none⟩ = some (.int .i64 k) := (SX.made w k t s h false p pa).c0
    have c1 : (w.alloc (.cells #[.int .i64 k, .string t, .string s, .string h, .bool false, .int .i64 p, .string pa] 24)).cell? ⟨w.heap.size, 1, none⟩ = some (.string t) := (SX.made w k t s h false p pa).c1
    have c2 : (w.alloc (.cells #[.int .i64 k, .string t, .string s, .string h, .bool false, .int .i64 p, .string pa] 24)).cell? ⟨w.heap.size, 2, none⟩ = some (.string s) := (SX.made w k t s h false p pa).c2
    have c3 : (w.alloc (.cells #[.int .i64 k, .string t, .string s, .string h, .bool false, .int .i64 p, .string pa] 24)).cell? ⟨w.heap.size, 3, none⟩ = some (.string h) := (SX.made w k t s h false p pa).c3
    have c4 : (w.alloc (.cells #[.int .i64 k, .string t, .string s, .string h, .bool false, .int .i64 p, .string pa] 24)).cell? ⟨w.heap.size, 4, none⟩ = some (.bool false) := (SX.made w k t s h false p pa).c4
    have c5 : (w.alloc (.cells #[.int .i64 k, .string t, .string s, .string h, .bool false, .int .i64 p, .string pa] 24)).cell? ⟨w.heap.size, 5, none⟩ = some (.int .i64 p) := (SX.made w k t s h false p pa).c5
    have c6 : (w.alloc (.cells #[.int .i64 k, .string t, .string s, .string h, .bool false, .int .i64 p, .string pa] 24)).cell? ⟨w.heap.size, 6, none⟩ = some (.string pa) := (SX.made w k t s h false p pa).c6
    go_enter Tryz.func20, Tryz.ntmps20
    go_wp2
    go_ret
    exact ⟨congrArg (fun x => Ending.returned (Value.string x)) HF.out, (Below.refl _ _).alloc (Nat.le_refl _) _⟩

  cases gh : h.toList.isEmpty
  · have eh : h.data.toList.isEmpty = false := by rw [← text_empty]; exact gh
    by_cases q0 : p = -1
    · subst q0
      obtain ⟨X1, hX1, zX1, a1⟩ := add_step ⟨#[]⟩ ⟨#[42]⟩ 0 1 (by decide) (by decide) (by decide)
      obtain ⟨X2, hX2, zX2, a2⟩ := add_step X1 ⟨#[46]⟩ 1 1 zX1 (by decide) (by decide)
      obtain ⟨X3, hX3, zX3, a3⟩ := add_step X2 h 2 100000 zX2 hh (by decide)
      obtain ⟨X4, hX4, zX4, a4⟩ := add_step X3 ⟨#[58, 42]⟩ 100002 2 zX3 (by decide) (by decide)
      obtain ⟨X5, hX5, zX5, a5⟩ := add_step X4 pa 100004 100000 zX4 hpa (by decide)
      have HF : Hid (X5 = T) := Lib.hid (by rw [text_is hT]; refine text_is ?_; rw [hX5, hX4, hX3, hX2, hX1]; unfold placeT schT sportT; simp [es, eh])
      clear hT es hX1 hX2 hX3 hX4 hX5 zX1 zX2 zX3 zX4 zX5 hs hh hpa eh
      have c0 : (w.alloc (.cells #[.int .i64 k, .string t, .string s, .string h, .bool true, .int .i64 (-1), .string pa] 24)).cell? ⟨w.heap.size, 0, none⟩ = some (.int .i64 k) := (SX.made w k t s h true (-1) pa).c0
      have c1 : (w.alloc (.cells #[.int .i64 k, .string t, .string s, .string h, .bool true, .int .i64 (-1), .string pa] 24)).cell? ⟨w.heap.size, 1, none⟩ = some (.string t) := (SX.made w k t s h true (-1) pa).c1
      have c2 : (w.alloc (.cells #[.int .i64 k, .string t, .string s, .string h, .bool true, .int .i64 (-1), .string pa] 24)).cell? ⟨w.heap.size, 2, none⟩ = some (.string s) := (SX.made w k t s h true (-1) pa).c2
      have c3 : (w.alloc (.cells #[.int .i64 k, .string t, .string s, .string h, .bool true, .int .i64 (-1), .string pa] 24)).cell? ⟨w.heap.size, 3, none⟩ = some (.string h) := (SX.made w k t s h true (-1) pa).c3
      have c4 : (w.alloc (.cells #[.int .i64 k, .string t, .string s, .string h, .bool true, .int .i64 (-1), .string pa] 24)).cell? ⟨w.heap.size, 4, none⟩ = some (.bool true) := (SX.made w k t s h true (-1) pa).c4
      have c5 : (w.alloc (.cells #[.int .i64 k, .string t, .string s, .string h, .bool true, .int .i64 (-1), .string pa] 24)).cell? ⟨w.heap.size, 5, none⟩ = some (.int .i64 (-1)) := (SX.made w k t s h true (-1) pa).c5
      have c6 : (w.alloc (.cells #[.int .i64 k, .string t, .string s, .string h, .bool true, .int .i64 (-1), .string pa] 24)).cell? ⟨w.heap.size, 6, none⟩ = some (.string pa) := (SX.made w k t s h true (-1) pa).c6
      go_enter Tryz.func20, Tryz.ntmps20
      go_wp2
      go_ret
      exact ⟨congrArg (fun x => Ending.returned (Value.string x)) HF.out, (Below.refl _ _).alloc (Nat.le_refl _) _⟩

    have m1 : (p == -1) = false := by rw [beq_eq_false_iff_ne]; exact q0
    have q1 : ¬ p < 0 := by omega
    by_cases q2 : 0 < p
    · show _
      obtain ⟨X1, hX1, zX1, a1⟩ := add_step ⟨#[]⟩ ⟨#[42]⟩ 0 1 (by decide) (by decide) (by decide)
      obtain ⟨X2, hX2, zX2, a2⟩ := add_step X1 ⟨#[46]⟩ 1 1 zX1 (by decide) (by decide)
      obtain ⟨X3, hX3, zX3, a3⟩ := add_step X2 h 2 100000 zX2 hh (by decide)
      obtain ⟨D, hD⟩ := text_of (Lib.decDigits p.toNat)
      have zD : D.size ≤ 5 := by rw [← lsize, hD, Lib.decDigits_length]; exact nDigits_le _ (by omega)
      obtain ⟨P, hP, zP, aP⟩ := add_step ⟨#[58]⟩ D 1 5 (by decide) zD (by decide)
      have CI := itoa_hid p (by omega) p1 D hD
      obtain ⟨X4, hX4, zX4, a4⟩ := add_step X3 P 100002 6 zX3 (by omega) (by decide)
      obtain ⟨X5, hX5, zX5, a5⟩ := add_step X4 pa 100008 100000 zX4 hpa (by decide)
      have HF : Hid (X5 = T) := Lib.hid (by rw [text_is hT]; refine text_is ?_; rw [hX5, hX4, hX3, hX2, hX1, hP, hD]; unfold placeT schT sportT; simp [es, eh, q1, q2])
      clear hT es hX1 hX2 hX3 hX4 hX5 zX1 zX2 zX3 zX4 zX5 hs hh hpa eh hD hP zD zP
      go_enter Tryz.func20, Tryz.ntmps20
      go_wp2_with fail
      have xn := SX.made w k t s h true p pa
      have mw1 := hm.made (.cells #[.int .i64 k, .string t, .string s, .string h, .bool true, .int .i64 p, .string pa] 24)
      have tw1 := ht.made (.cells #[.int .i64 k, .string t, .string s, .string h, .bool true, .int .i64 p, .string pa] 24)
      have Bw1 : Below w.heap.size w (w.alloc (.cells #[.int .i64 k, .string t, .string s, .string h, .bool true, .int .i64 p, .string pa] 24)) := ((Below.refl w.heap.size w).alloc (Nat.le_refl _) (.cells #[.int .i64 k, .string t, .string s, .string h, .bool true, .int .i64 p, .string pa] 24))
      generalize hR : w.heap.size = R at xn Bw1 ⊢
      have HR := Lib.hid hR
      clear hR
      generalize w.alloc (.cells #[.int .i64 k, .string t, .string s, .string h, .bool true, .int .i64 p, .string pa] 24) = w1 at xn mw1 tw1 Bw1  ⊢
      have xR_w1 := xn
      clear xn hm ht
      refine (CI.out _ tw1).mono ?_
      rintro e w2 ⟨rfl, b_⟩
      have mw2 := mw1.below b_
      have tw2 := tw1.below b_
      have Bw2 := Bw1.trans (b_.mono (Nat.le_of_lt xR_w1.lt))
      have xR_w2 := xR_w1.below b_
      clear b_ mw1 tw1 Bw1 xR_w1
      have dR0 := xR_w2.c0
      have dR1 := xR_w2.c1
      have dR2 := xR_w2.c2
      have dR3 := xR_w2.c3
      have dR4 := xR_w2.c4
      have dR5 := xR_w2.c5
      have dR6 := xR_w2.c6
      go_wp2
      go_ret
      exact ⟨congrArg (fun x => Ending.returned (Value.string x)) HF.out, by rw [HR.out]; exact Bw2⟩

    obtain ⟨X1, hX1, zX1, a1⟩ := add_step ⟨#[]⟩ ⟨#[42]⟩ 0 1 (by decide) (by decide) (by decide)
    obtain ⟨X2, hX2, zX2, a2⟩ := add_step X1 ⟨#[46]⟩ 1 1 zX1 (by decide) (by decide)
    obtain ⟨X3, hX3, zX3, a3⟩ := add_step X2 h 2 100000 zX2 hh (by decide)
    obtain ⟨X4, hX4, zX4, a4⟩ := add_step X3 pa 100002 100000 zX3 hpa (by decide)
    have HF : Hid (X4 = T) := Lib.hid (by rw [text_is hT]; refine text_is ?_; rw [hX4, hX3, hX2, hX1]; unfold placeT schT sportT; simp [es, eh, q1, q2])
    clear hT es hX1 hX2 hX3 hX4 zX1 zX2 zX3 zX4 hs hh hpa eh
    have c0 : (w.alloc (.cells #[.int .i64 k, .string t, .string s, .string h, .bool true, .int .i64 p, .string pa] 24)).cell? ⟨w.heap.size, 0, none⟩ = some (.int .i64 k) := (SX.made w k t s h true p pa).c0
    have c1 : (w.alloc (.cells #[.int .i64 k, .string t, .string s, .string h, .bool true, .int .i64 p, .string pa] 24)).cell? ⟨w.heap.size, 1, none⟩ = some (.string t) := (SX.made w k t s h true p pa).c1
    have c2 : (w.alloc (.cells #[.int .i64 k, .string t, .string s, .string h, .bool true, .int .i64 p, .string pa] 24)).cell? ⟨w.heap.size, 2, none⟩ = some (.string s) := (SX.made w k t s h true p pa).c2
    have c3 : (w.alloc (.cells #[.int .i64 k, .string t, .string s, .string h, .bool true, .int .i64 p, .string pa] 24)).cell? ⟨w.heap.size, 3, none⟩ = some (.string h) := (SX.made w k t s h true p pa).c3
    have c4 : (w.alloc (.cells #[.int .i64 k, .string t, .string s, .string h, .bool true, .int .i64 p, .string pa] 24)).cell? ⟨w.heap.size, 4, none⟩ = some (.bool true) := (SX.made w k t s h true p pa).c4
    have c5 : (w.alloc (.cells #[.int .i64 k, .string t, .string s, .string h, .bool true, .int .i64 p, .string pa] 24)).cell? ⟨w.heap.size, 5, none⟩ = some (.int .i64 p) := (SX.made w k t s h true p pa).c5
    have c6 : (w.alloc (.cells #[.int .i64 k, .string t, .string s, .string h, .bool true, .int .i64 p, .string pa] 24)).cell? ⟨w.heap.size, 6, none⟩ = some (.string pa) := (SX.made w k t s h true p pa).c6
    go_enter Tryz.func20, Tryz.ntmps20
    go_wp2
    go_ret
    exact ⟨congrArg (fun x => Ending.returned (Value.string x)) HF.out, (Below.refl _ _).alloc (Nat.le_refl _) _⟩

  have eh : h.data.toList.isEmpty = true := by rw [← text_empty]; exact gh
  by_cases q0 : p = -1
  · subst q0
    obtain ⟨X1, hX1, zX1, a1⟩ := add_step ⟨#[]⟩ ⟨#[42]⟩ 0 1 (by decide) (by decide) (by decide)
    obtain ⟨X2, hX2, zX2, a2⟩ := add_step X1 h 1 100000 zX1 hh (by decide)
    obtain ⟨X3, hX3, zX3, a3⟩ := add_step X2 ⟨#[58, 42]⟩ 100001 2 zX2 (by decide) (by decide)
    obtain ⟨X4, hX4, zX4, a4⟩ := add_step X3 pa 100003 100000 zX3 hpa (by decide)
    have HF : Hid (X4 = T) := Lib.hid (by rw [text_is hT]; refine text_is ?_; rw [hX4, hX3, hX2, hX1]; unfold placeT schT sportT; simp [es, eh])
    clear hT es hX1 hX2 hX3 hX4 zX1 zX2 zX3 zX4 hs hh hpa eh
    have c0 : (w.alloc (.cells #[.int .i64 k, .string t, .string s, .string h, .bool true, .int .i64 (-1), .string pa] 24)).cell? ⟨w.heap.size, 0, none⟩ = some (.int .i64 k) := (SX.made w k t s h true (-1) pa).c0
    have c1 : (w.alloc (.cells #[.int .i64 k, .string t, .string s, .string h, .bool true, .int .i64 (-1), .string pa] 24)).cell? ⟨w.heap.size, 1, none⟩ = some (.string t) := (SX.made w k t s h true (-1) pa).c1
    have c2 : (w.alloc (.cells #[.int .i64 k, .string t, .string s, .string h, .bool true, .int .i64 (-1), .string pa] 24)).cell? ⟨w.heap.size, 2, none⟩ = some (.string s) := (SX.made w k t s h true (-1) pa).c2
    have c3 : (w.alloc (.cells #[.int .i64 k, .string t, .string s, .string h, .bool true, .int .i64 (-1), .string pa] 24)).cell? ⟨w.heap.size, 3, none⟩ = some (.string h) := (SX.made w k t s h true (-1) pa).c3
    have c4 : (w.alloc (.cells #[.int .i64 k, .string t, .string s, .string h, .bool true, .int .i64 (-1), .string pa] 24)).cell? ⟨w.heap.size, 4, none⟩ = some (.bool true) := (SX.made w k t s h true (-1) pa).c4
    have c5 : (w.alloc (.cells #[.int .i64 k, .string t, .string s, .string h, .bool true, .int .i64 (-1), .string pa] 24)).cell? ⟨w.heap.size, 5, none⟩ = some (.int .i64 (-1)) := (SX.made w k t s h true (-1) pa).c5
    have c6 : (w.alloc (.cells #[.int .i64 k, .string t, .string s, .string h, .bool true, .int .i64 (-1), .string pa] 24)).cell? ⟨w.heap.size, 6, none⟩ = some (.string pa) := (SX.made w k t s h true (-1) pa).c6
    go_enter Tryz.func20, Tryz.ntmps20
    go_wp2
    go_ret
    exact ⟨congrArg (fun x => Ending.returned (Value.string x)) HF.out, (Below.refl _ _).alloc (Nat.le_refl _) _⟩

  have m1 : (p == -1) = false := by rw [beq_eq_false_iff_ne]; exact q0
  have q1 : ¬ p < 0 := by omega
  by_cases q2 : 0 < p
  · show _
    obtain ⟨X1, hX1, zX1, a1⟩ := add_step ⟨#[]⟩ ⟨#[42]⟩ 0 1 (by decide) (by decide) (by decide)
    obtain ⟨X2, hX2, zX2, a2⟩ := add_step X1 h 1 100000 zX1 hh (by decide)
    obtain ⟨D, hD⟩ := text_of (Lib.decDigits p.toNat)
    have zD : D.size ≤ 5 := by rw [← lsize, hD, Lib.decDigits_length]; exact nDigits_le _ (by omega)
    obtain ⟨P, hP, zP, aP⟩ := add_step ⟨#[58]⟩ D 1 5 (by decide) zD (by decide)
    have CI := itoa_hid p (by omega) p1 D hD
    obtain ⟨X3, hX3, zX3, a3⟩ := add_step X2 P 100001 6 zX2 (by omega) (by decide)
    obtain ⟨X4, hX4, zX4, a4⟩ := add_step X3 pa 100007 100000 zX3 hpa (by decide)
    have HF : Hid (X4 = T) := Lib.hid (by rw [text_is hT]; refine text_is ?_; rw [hX4, hX3, hX2, hX1, hP, hD]; unfold placeT schT sportT; simp [es, eh, q1, q2])
    clear hT es hX1 hX2 hX3 hX4 zX1 zX2 zX3 zX4 hs hh hpa eh hD hP zD zP
    go_enter Tryz.func20, Tryz.ntmps20
    go_wp2_with fail
    have xn := SX.made w k t s h true p pa
    have mw1 := hm.made (.cells #[.int .i64 k, .string t, .string s, .string h, .bool true, .int .i64 p, .string pa] 24)
    have tw1 := ht.made (.cells #[.int .i64 k, .string t, .string s, .string h, .bool true, .int .i64 p, .string pa] 24)
    have Bw1 : Below w.heap.size w (w.alloc (.cells #[.int .i64 k, .string t, .string s, .string h, .bool true, .int .i64 p, .string pa] 24)) := ((Below.refl w.heap.size w).alloc (Nat.le_refl _) (.cells #[.int .i64 k, .string t, .string s, .string h, .bool true, .int .i64 p, .string pa] 24))
    generalize hR : w.heap.size = R at xn Bw1 ⊢
    have HR := Lib.hid hR
    clear hR
    generalize w.alloc (.cells #[.int .i64 k, .string t, .string s, .string h, .bool true, .int .i64 p, .string pa] 24) = w1 at xn mw1 tw1 Bw1  ⊢
    have xR_w1 := xn
    clear xn hm ht
    refine (CI.out _ tw1).mono ?_
    rintro e w2 ⟨rfl, b_⟩
    have mw2 := mw1.below b_
    have tw2 := tw1.below b_
    have Bw2 := Bw1.trans (b_.mono (Nat.le_of_lt xR_w1.lt))
    have xR_w2 := xR_w1.below b_
    clear b_ mw1 tw1 Bw1 xR_w1
    have dR0 := xR_w2.c0
    have dR1 := xR_w2.c1
    have dR2 := xR_w2.c2
    have dR3 := xR_w2.c3
    have dR4 := xR_w2.c4
    have dR5 := xR_w2.c5
    have dR6 := xR_w2.c6
    go_wp2
    go_ret
    exact ⟨congrArg (fun x => Ending.returned (Value.string x)) HF.out, by rw [HR.out]; exact Bw2⟩

  obtain ⟨X1, hX1, zX1, a1⟩ := add_step ⟨#[]⟩ ⟨#[42]⟩ 0 1 (by decide) (by decide) (by decide)
  obtain ⟨X2, hX2, zX2, a2⟩ := add_step X1 h 1 100000 zX1 hh (by decide)
  obtain ⟨X3, hX3, zX3, a3⟩ := add_step X2 pa 100001 100000 zX2 hpa (by decide)
  have HF : Hid (X3 = T) := Lib.hid (by rw [text_is hT]; refine text_is ?_; rw [hX3, hX2, hX1]; unfold placeT schT sportT; simp [es, eh, q1, q2])
  clear hT es hX1 hX2 hX3 zX1 zX2 zX3 hs hh hpa eh
  have c0 : (w.alloc (.cells #[.int .i64 k, .string t, .string s, .string h, .bool true, .int .i64 p, .string pa] 24)).cell? ⟨w.heap.size, 0, none⟩ = some (.int .i64 k) := (SX.made w k t s h true p pa).c0
  have c1 : (w.alloc (.cells #[.int .i64 k, .string t, .string s, .string h, .bool true, .int .i64 p, .string pa] 24)).cell? ⟨w.heap.size, 1, none⟩ = some (.string t) := (SX.made w k t s h true p pa).c1
  have c2 : (w.alloc (.cells #[.int .i64 k, .string t, .string s, .string h, .bool true, .int .i64 p, .string pa] 24)).cell? ⟨w.heap.size, 2, none⟩ = some (.string s) := (SX.made w k t s h true p pa).c2
  have c3 : (w.alloc (.cells #[.int .i64 k, .string t, .string s, .string h, .bool true, .int .i64 p, .string pa] 24)).cell? ⟨w.heap.size, 3, none⟩ = some (.string h) := (SX.made w k t s h true p pa).c3
  have c4 : (w.alloc (.cells #[.int .i64 k, .string t, .string s, .string h, .bool true, .int .i64 p, .string pa] 24)).cell? ⟨w.heap.size, 4, none⟩ = some (.bool true) := (SX.made w k t s h true p pa).c4
  have c5 : (w.alloc (.cells #[.int .i64 k, .string t, .string s, .string h, .bool true, .int .i64 p, .string pa] 24)).cell? ⟨w.heap.size, 5, none⟩ = some (.int .i64 p) := (SX.made w k t s h true p pa).c5
  have c6 : (w.alloc (.cells #[.int .i64 k, .string t, .string s, .string h, .bool true, .int .i64 p, .string pa] 24)).cell? ⟨w.heap.size, 6, none⟩ = some (.string pa) := (SX.made w k t s h true p pa).c6
  go_enter Tryz.func20, Tryz.ntmps20
  go_wp2
  go_ret
  exact ⟨congrArg (fun x => Ending.returned (Value.string x)) HF.out, (Below.refl _ _).alloc (Nat.le_refl _) _⟩

theorem placeW_hid (k : Int) (t s h : ByteArray) (b : Bool) (p : Int) (pa : ByteArray) (hs : s.size ≤ 100000) (hh : h.size ≤ 100000) (hpa : pa.size ≤ 100000) (p0 : -1 ≤ p) (p1 : p ≤ 65535) (T : ByteArray) (hT : T.data.toList = placeT s.data.toList h.data.toList b p ++ pa.data.toList) : Hid (∀ W, MaxIn W → TabIn W → Calls Tryz.prog 20 #[srcV k t s h b p pa] W fun e w' => e = .returned (.string T) ∧ Below W.heap.size W w') := Lib.hid fun W hm ht => placeW_any k t s h b p pa hs hh hpa p0 p1 T hT W hm ht

end Go.Proofs.YtmfejcmhbncchaaGreatDoor
