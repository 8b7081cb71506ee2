/- A source's word: the document's. -/
import Derived.Test.YtmfejcmhbncchaaGreatDoorSrcG
import Derived.Test.YtmfejcmhbncchaaGreatDoorRefSZ
import Derived.Test.YtmfejcmhbncchaaGreatDoorRefC
namespace Go.Proofs.YtmfejcmhbncchaaGreatDoor
open Go.RowKit

theorem refEncode_hid (s : ByteArray) (hs : s.size ≤ 100000) (T : ByteArray) (hT : T.data.toList = encM s.data.toList) : Hid (∀ W, Calls Tryz.prog 39 #[.string s] W fun e w' => e = .returned (.string T) ∧ Below W.heap.size W w') := Lib.hid fun W => refEncode_any s hs T hT W
theorem srightR_hid (k : Int) (t s h : ByteArray) (b : Bool) (p : Int) (pa : ByteArray) (lt : t.size ≤ 1000000) (ls : s.size ≤ 1099511627776) (lh : h.size ≤ 1099511627776) (r : Bool) (hr : rightS (srcM k t s h b p pa) = r) : Hid (∀ W, Calls Tryz.prog 22 #[srcV k t s h b p pa] W fun e w' => e = .returned (.bool r) ∧ Below W.heap.size W w') := Lib.hid fun W => by rw [← hr]; exact sright_any k t s h b p pa lt ls lh W

set_option maxRecDepth 100000 in
set_option maxHeartbeats 8000000 in
/-- .. of a place. -/
theorem wordR_place (t s h : ByteArray) (b : Bool) (p : Int) (pa : ByteArray) (hs : s.size ≤ 100000) (hh : h.size ≤ 100000) (hpa : pa.size ≤ 100000) (p0 : -1 ≤ p) (p1 : p ≤ 65535) (T : ByteArray) (hT : T.data.toList = placeT s.data.toList h.data.toList b p ++ pa.data.toList) (w : World) : Calls Tryz.prog 23 #[srcV 12 t s h b p pa] w fun e w' => e = .returned (.string T) ∧ Below w.heap.size w w' := by
  unfold srcV
  cases gs : s.toList.isEmpty
  · have es : s.data.toList.isEmpty = false := by rw [← text_empty]; exact gs
    cases b
    · show _
      by_cases q0 : p = -1
      · subst q0
        obtain ⟨X1, hX1, zX1, a1⟩ := add_step s ⟨#[58, 47, 47]⟩ 100000 3 hs (by decide) (by decide)
        obtain ⟨X2, hX2, zX2, a2⟩ := add_step X1 h 100003 100000 zX1 hh (by decide)
        obtain ⟨X3, hX3, zX3, a3⟩ := add_step X2 ⟨#[58, 42]⟩ 200003 2 zX2 (by decide) (by decide)
        obtain ⟨X4, hX4, zX4, a4⟩ := add_step X3 pa 200005 100000 zX3 hpa (by decide)
        have HF : Hid (X4 = T) := Lib.hid (by rw [text_is hT]; refine text_is ?_; rw [hX4, hX3, hX2, hX1]; unfold placeT schT sportT; simp [es])
        clear hT es hX1 hX2 hX3 hX4 zX1 zX2 zX3 zX4 hs hh hpa
        have c0 : (w.alloc (.cells #[.int .i64 12, .string t, .string s, .string h, .bool false, .int .i64 (-1), .string pa] 24)).cell? ⟨w.heap.size, 0, none⟩ = some (.int .i64 12) := (SX.made w 12 t s h false (-1) pa).c0
        have c1 : (w.alloc (.cells #[.int .i64 12, .string t, .string s, .string h, .bool false, .int .i64 (-1), .string pa] 24)).cell? ⟨w.heap.size, 1, none⟩ = some (.string t) := (SX.made w 12 t s h false (-1) pa).c1
        have c2 : (w.alloc (.cells #[.int .i64 12, .string t, .string s, .string h, .bool false, .int .i64 (-1), .string pa] 24)).cell? ⟨w.heap.size, 2, none⟩ = some (.string s) := (SX.made w 12 t s h false (-1) pa).c2
        have c3 : (w.alloc (.cells #[.int .i64 12, .string t, .string s, .string h, .bool false, .int .i64 (-1), .string pa] 24)).cell? ⟨w.heap.size, 3, none⟩ = some (.string h) := (SX.made w 12 t s h false (-1) pa).c3
        have c4 : (w.alloc (.cells #[.int .i64 12, .string t, .string s, .string h, .bool false, .int .i64 (-1), .string pa] 24)).cell? ⟨w.heap.size, 4, none⟩ = some (.bool false) := (SX.made w 12 t s h false (-1) pa).c4
        have c5 : (w.alloc (.cells #[.int .i64 12, .string t, .string s, .string h, .bool false, .int .i64 (-1), .string pa] 24)).cell? ⟨w.heap.size, 5, none⟩ = some (.int .i64 (-1)) := (SX.made w 12 t s h false (-1) pa).c5
        have c6 : (w.alloc (.cells #[.int .i64 12, .string t, .string s, .string h, .bool false, .int .i64 (-1), .string pa] 24)).cell? ⟨w.heap.size, 6, none⟩ = some (.string pa) := (SX.made w 12 t s h false (-1) pa).c6
        go_enter Tryz.func23, Tryz.ntmps23
        go_wp2
        go_ret
        exact ⟨congrArg (fun x => Ending.returned (Value.string x)) HF.out, (Below.refl _ _).alloc (Nat.le_refl _) _⟩

      have q1 : ¬ p < 0 := by omega
      by_cases q2 : 0 < p
      · show _
        obtain ⟨X1, hX1, zX1, a1⟩ := add_step s ⟨#[58, 47, 47]⟩ 100000 3 hs (by decide) (by decide)
        obtain ⟨X2, hX2, zX2, a2⟩ := add_step X1 h 100003 100000 zX1 hh (by decide)
        obtain ⟨D, hD⟩ := text_of (Lib.decDigits p.toNat)
        have zD : D.size ≤ 5 := by rw [← lsize, hD, Lib.decDigits_length]; exact nDigits_le _ (by omega)
        have CI := digits_hid p (by omega) p1 D hD
        obtain ⟨X3, hX3, zX3, a3⟩ := add_step X2 ⟨#[58]⟩ 200003 1 zX2 (by decide) (by decide)
        obtain ⟨X4, hX4, zX4, a4⟩ := add_step X3 D 200004 5 zX3 zD (by decide)
        obtain ⟨X5, hX5, zX5, a5⟩ := add_step X4 pa 200009 100000 zX4 hpa (by decide)
        have HF : Hid (X5 = T) := Lib.hid (by rw [text_is hT]; refine text_is ?_; rw [hX5, hX4, hX3, hX2, hX1, hD]; unfold placeT schT sportT; simp [es, q1, q2])
        clear hT es hX1 hX2 hX3 hX4 hX5 zX1 zX2 zX3 zX4 zX5 hs hh hpa hD zD
        have c0 : (w.alloc (.cells #[.int .i64 12, .string t, .string s, .string h, .bool false, .int .i64 p, .string pa] 24)).cell? ⟨w.heap.size, 0, none⟩ = some (.int .i64 12) := (SX.made w 12 t s h false p pa).c0
        have c1 : (w.alloc (.cells #[.int .i64 12, .string t, .string s, .string h, .bool false, .int .i64 p, .string pa] 24)).cell? ⟨w.heap.size, 1, none⟩ = some (.string t) := (SX.made w 12 t s h false p pa).c1
        have c2 : (w.alloc (.cells #[.int .i64 12, .string t, .string s, .string h, .bool false, .int .i64 p, .string pa] 24)).cell? ⟨w.heap.size, 2, none⟩ = some (.string s) := (SX.made w 12 t s h false p pa).c2
        have c3 : (w.alloc (.cells #[.int .i64 12, .string t, .string s, .string h, .bool false, .int .i64 p, .string pa] 24)).cell? ⟨w.heap.size, 3, none⟩ = some (.string h) := (SX.made w 12 t s h false p pa).c3
        have c4 : (w.alloc (.cells #[.int .i64 12, .string t, .string s, .string h, .bool false, .int .i64 p, .string pa] 24)).cell? ⟨w.heap.size, 4, none⟩ = some (.bool false) := (SX.made w 12 t s h false p pa).c4
        have c5 : (w.alloc (.cells #[.int .i64 12, .string t, .string s, .string h, .bool false, .int .i64 p, .string pa] 24)).cell? ⟨w.heap.size, 5, none⟩ = some (.int .i64 p) := (SX.made w 12 t s h false p pa).c5
        have c6 : (w.alloc (.cells #[.int .i64 12, .string t, .string s, .string h, .bool false, .int .i64 p, .string pa] 24)).cell? ⟨w.heap.size, 6, none⟩ = some (.string pa) := (SX.made w 12 t s h false p pa).c6
        go_enter Tryz.func23, Tryz.ntmps23
        go_wp2_with (go_at_call 40; (with_reducible refine (CI.out _).mono ?_); rintro e w7 ⟨rfl, rfl⟩)
        go_ret
        exact ⟨congrArg (fun x => Ending.returned (Value.string x)) HF.out, (Below.refl _ _).alloc (Nat.le_refl _) _⟩

      obtain ⟨X1, hX1, zX1, a1⟩ := add_step s ⟨#[58, 47, 47]⟩ 100000 3 hs (by decide) (by decide)
      obtain ⟨X2, hX2, zX2, a2⟩ := add_step X1 h 100003 100000 zX1 hh (by decide)
      obtain ⟨X3, hX3, zX3, a3⟩ := add_step X2 pa 200003 100000 zX2 hpa (by decide)
      have HF : Hid (X3 = T) := Lib.hid (by rw [text_is hT]; refine text_is ?_; rw [hX3, hX2, hX1]; unfold placeT schT sportT; simp [es, q1, q2])
      clear hT es hX1 hX2 hX3 zX1 zX2 zX3 hs hh hpa
      have c0 : (w.alloc (.cells #[.int .i64 12, .string t, .string s, .string h, .bool false, .int .i64 p, .string pa] 24)).cell? ⟨w.heap.size, 0, none⟩ = some (.int .i64 12) := (SX.made w 12 t s h false p pa).c0
      have c1 : (w.alloc (.cells #[.int .i64 12, .string t, .string s, .string h, .bool false, .int .i64 p, .string pa] 24)).cell? ⟨w.heap.size, 1, none⟩ = some (.string t) := (SX.made w 12 t s h false p pa).c1
      have c2 : (w.alloc (.cells #[.int .i64 12, .string t, .string s, .string h, .bool false, .int .i64 p, .string pa] 24)).cell? ⟨w.heap.size, 2, none⟩ = some (.string s) := (SX.made w 12 t s h false p pa).c2
      have c3 : (w.alloc (.cells #[.int .i64 12, .string t, .string s, .string h, .bool false, .int .i64 p, .string pa] 24)).cell? ⟨w.heap.size, 3, none⟩ = some (.string h) := (SX.made w 12 t s h false p pa).c3
      have c4 : (w.alloc (.cells #[.int .i64 12, .string t, .string s, .string h, .bool false, .int .i64 p, .string pa] 24)).cell? ⟨w.heap.size, 4, none⟩ = some (.bool false) := (SX.made w 12 t s h false p pa).c4
      have c5 : (w.alloc (.cells #[.int .i64 12, .string t, .string s, .string h, .bool false, .int .i64 p, .string pa] 24)).cell? ⟨w.heap.size, 5, none⟩ = some (.int .i64 p) := (SX.made w 12 t s h false p pa).c5
      have c6 : (w.alloc (.cells #[.int .i64 12, .string t, .string s, .string h, .bool false, .int .i64 p, .string pa] 24)).cell? ⟨w.heap.size, 6, none⟩ = some (.string pa) := (SX.made w 12 t s h false p pa).c6
      go_enter Tryz.func23, Tryz.ntmps23
      go_wp2
      go_ret
      exact ⟨congrArg (fun x => Ending.returned (Value.string x)) HF.out, (Below.refl _ _).alloc (Nat.le_refl _) _⟩

    cases gh : h.toList.isEmpty
    · have eh : h.data.toList.isEmpty = false := by rw [← text_empty]; exact gh
      by_cases q0 : p = -1
      · subst q0
        obtain ⟨X1, hX1, zX1, a1⟩ := add_step s ⟨#[58, 47, 47]⟩ 100000 3 hs (by decide) (by decide)
        obtain ⟨X2, hX2, zX2, a2⟩ := add_step X1 ⟨#[42]⟩ 100003 1 zX1 (by decide) (by decide)
        obtain ⟨X3, hX3, zX3, a3⟩ := add_step X2 ⟨#[46]⟩ 100004 1 zX2 (by decide) (by decide)
        obtain ⟨X4, hX4, zX4, a4⟩ := add_step X3 h 100005 100000 zX3 hh (by decide)
        obtain ⟨X5, hX5, zX5, a5⟩ := add_step X4 ⟨#[58, 42]⟩ 200005 2 zX4 (by decide) (by decide)
        obtain ⟨X6, hX6, zX6, a6⟩ := add_step X5 pa 200007 100000 zX5 hpa (by decide)
        have HF : Hid (X6 = T) := Lib.hid (by rw [text_is hT]; refine text_is ?_; rw [hX6, hX5, hX4, hX3, hX2, hX1]; unfold placeT schT sportT; simp [es, eh])
        clear hT es hX1 hX2 hX3 hX4 hX5 hX6 zX1 zX2 zX3 zX4 zX5 zX6 hs hh hpa eh
        have c0 : (w.alloc (.cells #[.int .i64 12, .string t, .string s, .string h, .bool true, .int .i64 (-1), .string pa] 24)).cell? ⟨w.heap.size, 0, none⟩ = some (.int .i64 12) := (SX.made w 12 t s h true (-1) pa).c0
        have c1 : (w.alloc (.cells #[.int .i64 12, .string t, .string s, .string h, .bool true, .int .i64 (-1), .string pa] 24)).cell? ⟨w.heap.size, 1, none⟩ = some (.string t) := (SX.made w 12 t s h true (-1) pa).c1
        have c2 : (w.alloc (.cells #[.int .i64 12, .string t, .string s, .string h, .bool true, .int .i64 (-1), .string pa] 24)).cell? ⟨w.heap.size, 2, none⟩ = some (.string s) := (SX.made w 12 t s h true (-1) pa).c2
        have c3 : (w.alloc (.cells #[.int .i64 12, .string t, .string s, .string h, .bool true, .int .i64 (-1), .string pa] 24)).cell? ⟨w.heap.size, 3, none⟩ = some (.string h) := (SX.made w 12 t s h true (-1) pa).c3
        have c4 : (w.alloc (.cells #[.int .i64 12, .string t, .string s, .string h, .bool true, .int .i64 (-1), .string pa] 24)).cell? ⟨w.heap.size, 4, none⟩ = some (.bool true) := (SX.made w 12 t s h true (-1) pa).c4
        have c5 : (w.alloc (.cells #[.int .i64 12, .string t, .string s, .string h, .bool true, .int .i64 (-1), .string pa] 24)).cell? ⟨w.heap.size, 5, none⟩ = some (.int .i64 (-1)) := (SX.made w 12 t s h true (-1) pa).c5
        have c6 : (w.alloc (.cells #[.int .i64 12, .string t, .string s, .string h, .bool true, .int .i64 (-1), .string pa] 24)).cell? ⟨w.heap.size, 6, none⟩ = some (.string pa) := (SX.made w 12 t s h true (-1) pa).c6
        go_enter Tryz.func23, Tryz.ntmps23
        go_wp2
        go_ret
        exact ⟨congrArg (fun x => Ending.returned (Value.string x)) HF.out, (Below.refl _ _).alloc (Nat.le_refl _) _⟩

      have q1 : ¬ p < 0 := by omega
      by_cases q2 : 0 < p
      · show _
        obtain ⟨X1, hX1, zX1, a1⟩ := add_step s ⟨#[58, 47, 47]⟩ 100000 3 hs (by decide) (by decide)
        obtain ⟨X2, hX2, zX2, a2⟩ := add_step X1 ⟨#[42]⟩ 100003 1 zX1 (by decide) (by decide)
        obtain ⟨X3, hX3, zX3, a3⟩ := add_step X2 ⟨#[46]⟩ 100004 1 zX2 (by decide) (by decide)
        obtain ⟨X4, hX4, zX4, a4⟩ := add_step X3 h 100005 100000 zX3 hh (by decide)
        obtain ⟨D, hD⟩ := text_of (Lib.decDigits p.toNat)
        have zD : D.size ≤ 5 := by rw [← lsize, hD, Lib.decDigits_length]; exact nDigits_le _ (by omega)
        have CI := digits_hid p (by omega) p1 D hD
        obtain ⟨X5, hX5, zX5, a5⟩ := add_step X4 ⟨#[58]⟩ 200005 1 zX4 (by decide) (by decide)
        obtain ⟨X6, hX6, zX6, a6⟩ := add_step X5 D 200006 5 zX5 zD (by decide)
        obtain ⟨X7, hX7, zX7, a7⟩ := add_step X6 pa 200011 100000 zX6 hpa (by decide)
        have HF : Hid (X7 = T) := Lib.hid (by rw [text_is hT]; refine text_is ?_; rw [hX7, hX6, hX5, hX4, hX3, hX2, hX1, hD]; unfold placeT schT sportT; simp [es, eh, q1, q2])
        clear hT es hX1 hX2 hX3 hX4 hX5 hX6 hX7 zX1 zX2 zX3 zX4 zX5 zX6 zX7 hs hh hpa eh hD zD
        have c0 : (w.alloc (.cells #[.int .i64 12, .string t, .string s, .string h, .bool true, .int .i64 p, .string pa] 24)).cell? ⟨w.heap.size, 0, none⟩ = some (.int .i64 12) := (SX.made w 12 t s h true p pa).c0
        have c1 : (w.alloc (.cells #[.int .i64 12, .string t, .string s, .string h, .bool true, .int .i64 p, .string pa] 24)).cell? ⟨w.heap.size, 1, none⟩ = some (.string t) := (SX.made w 12 t s h true p pa).c1
        have c2 : (w.alloc (.cells #[.int .i64 12, .string t, .string s, .string h, .bool true, .int .i64 p, .string pa] 24)).cell? ⟨w.heap.size, 2, none⟩ = some (.string s) := (SX.made w 12 t s h true p pa).c2
        have c3 : (w.alloc (.cells #[.int .i64 12, .string t, .string s, .string h, .bool true, .int .i64 p, .string pa] 24)).cell? ⟨w.heap.size, 3, none⟩ = some (.string h) := (SX.made w 12 t s h true p pa).c3
        have c4 : (w.alloc (.cells #[.int .i64 12, .string t, .string s, .string h, .bool true, .int .i64 p, .string pa] 24)).cell? ⟨w.heap.size, 4, none⟩ = some (.bool true) := (SX.made w 12 t s h true p pa).c4
        have c5 : (w.alloc (.cells #[.int .i64 12, .string t, .string s, .string h, .bool true, .int .i64 p, .string pa] 24)).cell? ⟨w.heap.size, 5, none⟩ = some (.int .i64 p) := (SX.made w 12 t s h true p pa).c5
        have c6 : (w.alloc (.cells #[.int .i64 12, .string t, .string s, .string h, .bool true, .int .i64 p, .string pa] 24)).cell? ⟨w.heap.size, 6, none⟩ = some (.string pa) := (SX.made w 12 t s h true p pa).c6
        go_enter Tryz.func23, Tryz.ntmps23
        go_wp2_with (go_at_call 40; (with_reducible refine (CI.out _).mono ?_); rintro e w7 ⟨rfl, rfl⟩)
        go_ret
        exact ⟨congrArg (fun x => Ending.returned (Value.string x)) HF.out, (Below.refl _ _).alloc (Nat.le_refl _) _⟩

      obtain ⟨X1, hX1, zX1, a1⟩ := add_step s ⟨#[58, 47, 47]⟩ 100000 3 hs (by decide) (by decide)
      obtain ⟨X2, hX2, zX2, a2⟩ := add_step X1 ⟨#[42]⟩ 100003 1 zX1 (by decide) (by decide)
      obtain ⟨X3, hX3, zX3, a3⟩ := add_step X2 ⟨#[46]⟩ 100004 1 zX2 (by decide) (by decide)
      obtain ⟨X4, hX4, zX4, a4⟩ := add_step X3 h 100005 100000 zX3 hh (by decide)
      obtain ⟨X5, hX5, zX5, a5⟩ := add_step X4 pa 200005 100000 zX4 hpa (by decide)
      have HF : Hid (X5 = T) := Lib.hid (by rw [text_is hT]; refine text_is ?_; rw [hX5, hX4, hX3, hX2, hX1]; unfold placeT schT sportT; simp [es, eh, q1, q2])
      clear hT es hX1 hX2 hX3 hX4 hX5 zX1 zX2 zX3 zX4 zX5 hs hh hpa eh
      have c0 : (w.alloc (.cells #[.int .i64 12, .string t, .string s, .string h, .bool true, .int .i64 p, .string pa] 24)).cell? ⟨w.heap.size, 0, none⟩ = some (.int .i64 12) := (SX.made w 12 t s h true p pa).c0
      have c1 : (w.alloc (.cells #[.int .i64 12, .string t, .string s, .string h, .bool true, .int .i64 p, .string pa] 24)).cell? ⟨w.heap.size, 1, none⟩ = some (.string t) := (SX.made w 12 t s h true p pa).c1
      have c2 : (w.alloc (.cells #[.int .i64 12, .string t, .string s, .string h, .bool true, .int .i64 p, .string pa] 24)).cell? ⟨w.heap.size, 2, none⟩ = some (.string s) := (SX.made w 12 t s h true p pa).c2
      have c3 : (w.alloc (.cells #[.int .i64 12, .string t, .string s, .string h, .bool true, .int .i64 p, .string pa] 24)).cell? ⟨w.heap.size, 3, none⟩ = some (.string h) := (SX.made w 12 t s h true p pa).c3
      have c4 : (w.alloc (.cells #[.int .i64 12, .string t, .string s, .string h, .bool true, .int .i64 p, .string pa] 24)).cell? ⟨w.heap.size, 4, none⟩ = some (.bool true) := (SX.made w 12 t s h true p pa).c4
      have c5 : (w.alloc (.cells #[.int .i64 12, .string t, .string s, .string h, .bool true, .int .i64 p, .string pa] 24)).cell? ⟨w.heap.size, 5, none⟩ = some (.int .i64 p) := (SX.made w 12 t s h true p pa).c5
      have c6 : (w.alloc (.cells #[.int .i64 12, .string t, .string s, .string h, .bool true, .int .i64 p, .string pa] 24)).cell? ⟨w.heap.size, 6, none⟩ = some (.string pa) := (SX.made w 12 t s h true p pa).c6
      go_enter Tryz.func23, Tryz.ntmps23
      go_wp2
      go_ret
      exact ⟨congrArg (fun x => Ending.returned (Value.string x)) HF.out, (Below.refl _ _).alloc (Nat.le_refl _) _⟩

    have eh : h.data.toList.isEmpty = true := by rw [← text_empty]; exact gh
    by_cases q0 : p = -1
    · subst q0
      obtain ⟨X1, hX1, zX1, a1⟩ := add_step s ⟨#[58, 47, 47]⟩ 100000 3 hs (by decide) (by decide)
      obtain ⟨X2, hX2, zX2, a2⟩ := add_step X1 ⟨#[42]⟩ 100003 1 zX1 (by decide) (by decide)
      obtain ⟨X3, hX3, zX3, a3⟩ := add_step X2 h 100004 100000 zX2 hh (by decide)
      obtain ⟨X4, hX4, zX4, a4⟩ := add_step X3 ⟨#[58, 42]⟩ 200004 2 zX3 (by decide) (by decide)
      obtain ⟨X5, hX5, zX5, a5⟩ := add_step X4 pa 200006 100000 zX4 hpa (by decide)
      have HF : Hid (X5 = T) := Lib.hid (by rw [text_is hT]; refine text_is ?_; rw [hX5, hX4, hX3, hX2, hX1]; unfold placeT schT sportT; simp [es, eh])
      clear hT es hX1 hX2 hX3 hX4 hX5 zX1 zX2 zX3 zX4 zX5 hs hh hpa eh
      have c0 : (w.alloc (.cells #[.int .i64 12, .string t, .string s, .string h, .bool true, .int .i64 (-1), .string pa] 24)).cell? ⟨w.heap.size, 0, none⟩ = some (.int .i64 12) := (SX.made w 12 t s h true (-1) pa).c0
      have c1 : (w.alloc (.cells #[.int .i64 12, .string t, .string s, .string h, .bool true, .int .i64 (-1), .string pa] 24)).cell? ⟨w.heap.size, 1, none⟩ = some (.string t) := (SX.made w 12 t s h true (-1) pa).c1
      have c2 : (w.alloc (.cells #[.int .i64 12, .string t, .string s, .string h, .bool true, .int .i64 (-1), .string pa] 24)).cell? ⟨w.heap.size, 2, none⟩ = some (.string s) := (SX.made w 12 t s h true (-1) pa).c2
      have c3 : (w.alloc (.cells #[.int .i64 12, .string t, .string s, .string h, .bool true, .int .i64 (-1), .string pa] 24)).cell? ⟨w.heap.size, 3, none⟩ = some (.string h) := (SX.made w 12 t s h true (-1) pa).c3
      have c4 : (w.alloc (.cells #[.int .i64 12, .string t, .string s, .string h, .bool true, .int .i64 (-1), .string pa] 24)).cell? ⟨w.heap.size, 4, none⟩ = some (.bool true) := (SX.made w 12 t s h true (-1) pa).c4
      have c5 : (w.alloc (.cells #[.int .i64 12, .string t, .string s, .string h, .bool true, .int .i64 (-1), .string pa] 24)).cell? ⟨w.heap.size, 5, none⟩ = some (.int .i64 (-1)) := (SX.made w 12 t s h true (-1) pa).c5
      have c6 : (w.alloc (.cells #[.int .i64 12, .string t, .string s, .string h, .bool true, .int .i64 (-1), .string pa] 24)).cell? ⟨w.heap.size, 6, none⟩ = some (.string pa) := (SX.made w 12 t s h true (-1) pa).c6
      go_enter Tryz.func23, Tryz.ntmps23
      go_wp2
      go_ret
      exact ⟨congrArg (fun x => Ending.returned (Value.string x)) HF.out, (Below.refl _ _).alloc (Nat.le_refl _) _⟩

    have q1 : ¬ p < 0 := by omega
    by_cases q2 : 0 < p
    · show _
      obtain ⟨X1, hX1, zX1, a1⟩ := add_step s ⟨#[58, 47, 47]⟩ 100000 3 hs (by decide) (by decide)
      obtain ⟨X2, hX2, zX2, a2⟩ := add_step X1 ⟨#[42]⟩ 100003 1 zX1 (by decide) (by decide)
      obtain ⟨X3, hX3, zX3, a3⟩ := add_step X2 h 100004 100000 zX2 hh (by decide)
      obtain ⟨D, hD⟩ := text_of (Lib.decDigits p.toNat)
      have zD : D.size ≤ 5 := by rw [← lsize, hD, Lib.decDigits_length]; exact nDigits_le _ (by omega)
      have CI := digits_hid p (by omega) p1 D hD
      obtain ⟨X4, hX4, zX4, a4⟩ := add_step X3 ⟨#[58]⟩ 200004 1 zX3 (by decide) (by decide)
      obtain ⟨X5, hX5, zX5, a5⟩ := add_step X4 D 200005 5 zX4 zD (by decide)
      obtain ⟨X6, hX6, zX6, a6⟩ := add_step X5 pa 200010 100000 zX5 hpa (by decide)
      have HF : Hid (X6 = T) := Lib.hid (by rw [text_is hT]; refine text_is ?_; rw [hX6, hX5, hX4, hX3, hX2, hX1, hD]; unfold placeT schT sportT; simp [es, eh, q1, q2])
      clear hT es hX1 hX2 hX3 hX4 hX5 hX6 zX1 zX2 zX3 zX4 zX5 zX6 hs hh hpa eh hD zD
      have c0 : (w.alloc (.cells #[.int .i64 12, .string t, .string s, .string h, .bool true, .int .i64 p, .string pa] 24)).cell? ⟨w.heap.size, 0, none⟩ = some (.int .i64 12) := (SX.made w 12 t s h true p pa).c0
      have c1 : (w.alloc (.cells #[.int .i64 12, .string t, .string s, .string h, .bool true, .int .i64 p, .string pa] 24)).cell? ⟨w.heap.size, 1, none⟩ = some (.string t) := (SX.made w 12 t s h true p pa).c1
      have c2 : (w.alloc (.cells #[.int .i64 12, .string t, .string s, .string h, .bool true, .int .i64 p, .string pa] 24)).cell? ⟨w.heap.size, 2, none⟩ = some (.string s) := (SX.made w 12 t s h true p pa).c2
      have c3 : (w.alloc (.cells #[.int .i64 12, .string t, .string s, .string h, .bool true, .int .i64 p, .string pa] 24)).cell? ⟨w.heap.size, 3, none⟩ = some (.string h) := (SX.made w 12 t s h true p pa).c3
      have c4 : (w.alloc (.cells #[.int .i64 12, .string t, .string s, .string h, .bool true, .int .i64 p, .string pa] 24)).cell? ⟨w.heap.size, 4, none⟩ = some (.bool true) := (SX.made w 12 t s h true p pa).c4
      have c5 : (w.alloc (.cells #[.int .i64 12, .string t, .string s, .string h, .bool true, .int .i64 p, .string pa] 24)).cell? ⟨w.heap.size, 5, none⟩ = some (.int .i64 p) := (SX.made w 12 t s h true p pa).c5
      have c6 : (w.alloc (.cells #[.int .i64 12, .string t, .string s, .string h, .bool true, .int .i64 p, .string pa] 24)).cell? ⟨w.heap.size, 6, none⟩ = some (.string pa) := (SX.made w 12 t s h true p pa).c6
      go_enter Tryz.func23, Tryz.ntmps23
      go_wp2_with (go_at_call 40; (with_reducible refine (CI.out _).mono ?_); rintro e w7 ⟨rfl, rfl⟩)
      go_ret
      exact ⟨congrArg (fun x => Ending.returned (Value.string x)) HF.out, (Below.refl _ _).alloc (Nat.le_refl _) _⟩

    obtain ⟨X1, hX1, zX1, a1⟩ := add_step s ⟨#[58, 47, 47]⟩ 100000 3 hs (by decide) (by decide)
    obtain ⟨X2, hX2, zX2, a2⟩ := add_step X1 ⟨#[42]⟩ 100003 1 zX1 (by decide) (by decide)
    obtain ⟨X3, hX3, zX3, a3⟩ := add_step X2 h 100004 100000 zX2 hh (by decide)
    obtain ⟨X4, hX4, zX4, a4⟩ := add_step X3 pa 200004 100000 zX3 hpa (by decide)
    have HF : Hid (X4 = T) := Lib.hid (by rw [text_is hT]; refine text_is ?_; rw [hX4, hX3, hX2, hX1]; unfold placeT schT sportT; simp [es, eh, q1, q2])
    clear hT es hX1 hX2 hX3 hX4 zX1 zX2 zX3 zX4 hs hh hpa eh
    have c0 : (w.alloc (.cells #[.int .i64 12, .string t, .string s, .string h, .bool true, .int .i64 p, .string pa] 24)).cell? ⟨w.heap.size, 0, none⟩ = some (.int .i64 12) := (SX.made w 12 t s h true p pa).c0
    have c1 : (w.alloc (.cells #[.int .i64 12, .string t, .string s, .string h, .bool true, .int .i64 p, .string pa] 24)).cell? ⟨w.heap.size, 1, none⟩ = some (.string t) := (SX.made w 12 t s h true p pa).c1
    have c2 : (w.alloc (.cells #[.int .i64 12, .string t, .string s, .string h, .bool true, .int .i64 p, .string pa] 24)).cell? ⟨w.heap.size, 2, none⟩ = some (.string s) := (SX.made w 12 t s h true p pa).c2
    have c3 : (w.alloc (.cells #[.int .i64 12, .string t, .string s, .string h, .bool true, .int .i64 p, .string pa] 24)).cell? ⟨w.heap.size, 3, none⟩ = some (.string h) := (SX.made w 12 t s h true p pa).c3
    have c4 : (w.alloc (.cells #[.int .i64 12, .string t, .string s, .string h, .bool true, .int .i64 p, .string pa] 24)).cell? ⟨w.heap.size, 4, none⟩ = some (.bool true) := (SX.made w 12 t s h true p pa).c4
    have c5 : (w.alloc (.cells #[.int .i64 12, .string t, .string s, .string h, .bool true, .int .i64 p, .string pa] 24)).cell? ⟨w.heap.size, 5, none⟩ = some (.int .i64 p) := (SX.made w 12 t s h true p pa).c5
    have c6 : (w.alloc (.cells #[.int .i64 12, .string t, .string s, .string h, .bool true, .int .i64 p, .string pa] 24)).cell? ⟨w.heap.size, 6, none⟩ = some (.string pa) := (SX.made w 12 t s h true p pa).c6
    go_enter Tryz.func23, Tryz.ntmps23
    go_wp2
    go_ret
    exact ⟨congrArg (fun x => Ending.returned (Value.string x)) HF.out, (Below.refl _ _).alloc (Nat.le_refl _) _⟩

  have es : s.data.toList.isEmpty = true := by rw [← text_empty]; exact gs
  cases b
  · show _
    by_cases q0 : p = -1
    · subst q0
      obtain ⟨X1, hX1, zX1, a1⟩ := add_step ⟨#[]⟩ h 0 100000 (by decide) hh (by decide)
      obtain ⟨X2, hX2, zX2, a2⟩ := add_step X1 ⟨#[58, 42]⟩ 100000 2 zX1 (by decide) (by decide)
      obtain ⟨X3, hX3, zX3, a3⟩ := add_step X2 pa 100002 100000 zX2 hpa (by decide)
      have HF : Hid (X3 = T) := Lib.hid (by rw [text_is hT]; refine text_is ?_; rw [hX3, hX2, hX1]; unfold placeT schT sportT; simp [es])
      clear hT es hX1 hX2 hX3 zX1 zX2 zX3 hs hh hpa
      have c0 : (w.alloc (.cells #[.int .i64 12, .string t, .string s, .string h, .bool false, .int .i64 (-1), .string pa] 24)).cell? ⟨w.heap.size, 0, none⟩ = some (.int .i64 12) := (SX.made w 12 t s h false (-1) pa).c0
      have c1 : (w.alloc (.cells #[.int .i64 12, .string t, .string s, .string h, .bool false, .int .i64 (-1), .string pa] 24)).cell? ⟨w.heap.size, 1, none⟩ = some (.string t) := (SX.made w 12 t s h false (-1) pa).c1
      have c2 : (w.alloc (.cells #[.int .i64 12, .string t, .string s, .string h, .bool false, .int .i64 (-1), .string pa] 24)).cell? ⟨w.heap.size, 2, none⟩ = some (.string s) := (SX.made w 12 t s h false (-1) pa).c2
      have c3 : (w.alloc (.cells #[.int .i64 12, .string t, .string s, .string h, .bool false, .int .i64 (-1), .string pa] 24)).cell? ⟨w.heap.size, 3, none⟩ = some (.string h) := (SX.made w 12 t s h false (-1) pa).c3
      have c4 : (w.alloc (.cells #[.int .i64 12, .string t, .string s, .string h, .bool false, .int .i64 (-1), .string pa] 24)).cell? ⟨w.heap.size, 4, none⟩ = some (.bool false) := (SX.made w 12 t s h false (-1) pa).c4
      have c5 : (w.alloc (.cells #[.int .i64 12, .string t, .string s, .string h, .bool false, .int .i64 (-1), .string pa] 24)).cell? ⟨w.heap.size, 5, none⟩ = some (.int .i64 (-1)) := (SX.made w 12 t s h false (-1) pa).c5
      have c6 : (w.alloc (.cells #[.int .i64 12, .string t, .string s, .string h, .bool false, .int .i64 (-1), .string pa] 24)).cell? ⟨w.heap.size, 6, none⟩ = some (.string pa) := (SX.made w 12 t s h false (-1) pa).c6
      go_enter Tryz.func23, Tryz.ntmps23
      go_wp2
      go_ret
      exact ⟨congrArg (fun x => Ending.returned (Value.string x)) HF.out, (Below.refl _ _).alloc (Nat.le_refl _) _⟩

    have q1 : ¬ p < 0 := by omega
    by_cases q2 : 0 < p
    · show _
      obtain ⟨X1, hX1, zX1, a1⟩ := add_step ⟨#[]⟩ h 0 100000 (by decide) hh (by decide)
      obtain ⟨D, hD⟩ := text_of (Lib.decDigits p.toNat)
      have zD : D.size ≤ 5 := by rw [← lsize, hD, Lib.decDigits_length]; exact nDigits_le _ (by omega)
      have CI := digits_hid p (by omega) p1 D hD
      obtain ⟨X2, hX2, zX2, a2⟩ := add_step X1 ⟨#[58]⟩ 100000 1 zX1 (by decide) (by decide)
      obtain ⟨X3, hX3, zX3, a3⟩ := add_step X2 D 100001 5 zX2 zD (by decide)
      obtain ⟨X4, hX4, zX4, a4⟩ := add_step X3 pa 100006 100000 zX3 hpa (by decide)
      have HF : Hid (X4 = T) := Lib.hid (by rw [text_is hT]; refine text_is ?_; rw [hX4, hX3, hX2, hX1, hD]; unfold placeT schT sportT; simp [es, q1, q2])
      clear hT es hX1 hX2 hX3 hX4 zX1 zX2 zX3 zX4 hs hh hpa hD zD
      have c0 : (w.alloc (.cells #[.int .i64 12, .string t, .string s, .string h, .bool false, .int .i64 p, .string pa] 24)).cell? ⟨w.heap.size, 0, none⟩ = some (.int .i64 12) := (SX.made w 12 t s h false p pa).c0
      have c1 : (w.alloc (.cells #[.int .i64 12, .string t, .string s, .string h, .bool false, .int .i64 p, .string pa] 24)).cell? ⟨w.heap.size, 1, none⟩ = some (.string t) := (SX.made w 12 t s h false p pa).c1
      have c2 : (w.alloc (.cells #[.int .i64 12, .string t, .string s, .string h, .bool false, .int .i64 p, .string pa] 24)).cell? ⟨w.heap.size, 2, none⟩ = some (.string s) := (SX.made w 12 t s h false p pa).c2
      have c3 : (w.alloc (.cells #[.int .i64 12, .string t, .string s, .string h, .bool false, .int .i64 p, .string pa] 24)).cell? ⟨w.heap.size, 3, none⟩ = some (.string h) := (SX.made w 12 t s h false p pa).c3
      have c4 : (w.alloc (.cells #[.int .i64 12, .string t, .string s, .string h, .bool false, .int .i64 p, .string pa] 24)).cell? ⟨w.heap.size, 4, none⟩ = some (.bool false) := (SX.made w 12 t s h false p pa).c4
      have c5 : (w.alloc (.cells #[.int .i64 12, .string t, .string s, .string h, .bool false, .int .i64 p, .string pa] 24)).cell? ⟨w.heap.size, 5, none⟩ = some (.int .i64 p) := (SX.made w 12 t s h false p pa).c5
      have c6 : (w.alloc (.cells #[.int .i64 12, .string t, .string s, .string h, .bool false, .int .i64 p, .string pa] 24)).cell? ⟨w.heap.size, 6, none⟩ = some (.string pa) := (SX.made w 12 t s h false p pa).c6
      go_enter Tryz.func23, Tryz.ntmps23
      go_wp2_with (go_at_call 40; (with_reducible refine (CI.out _).mono ?_); rintro e w7 ⟨rfl, rfl⟩)
      go_ret
      exact ⟨congrArg (fun x => Ending.returned (Value.string x)) HF.out, (Below.refl _ _).alloc (Nat.le_refl _) _⟩

    obtain ⟨X1, hX1, zX1, a1⟩ := add_step ⟨#[]⟩ h 0 100000 (by decide) hh (by decide)
    obtain ⟨X2, hX2, zX2, a2⟩ := add_step X1 pa 100000 100000 zX1 hpa (by decide)
    have HF : Hid (X2 = T) := Lib.hid (by rw [text_is hT]; refine text_is ?_; rw [hX2, hX1]; unfold placeT schT sportT; simp [es, q1, q2])
    clear hT es hX1 hX2 zX1 zX2 hs hh hpa
    have c0 : (w.alloc (.cells #[.int .i64 12, .string t, .string s, .string h, .bool false, .int .i64 p, .string pa] 24)).cell? ⟨w.heap.size, 0, none⟩ = some (.int .i64 12) := (SX.made w 12 t s h false p pa).c0
    have c1 : (w.alloc (.cells #[.int .i64 12, .string t, .string s, .string h, .bool false, .int .i64 p, .string pa] 24)).cell? ⟨w.heap.size, 1, none⟩ = some (.string t) := (SX.made w 12 t s h false p pa).c1
    have c2 : (w.alloc (.cells #[.int .i64 12, .string t, .string s, .string h, .bool false, .int .i64 p, .string pa] 24)).cell? ⟨w.heap.size, 2, none⟩ = some (.string s) := (SX.made w 12 t s h false p pa).c2
    have c3 : (w.alloc (.cells #[.int .i64 12, .string t, .string s, .string h, .bool false, .int .i64 p, .string pa] 24)).cell? ⟨w.heap.size, 3, none⟩ = some (.string h) := (SX.made w 12 t s h false p pa).c3
    have c4 : (w.alloc (.cells #[.int .i64 12, .string t, .string s, .string h, .bool false, .int .i64 p, .string pa] 24)).cell? ⟨w.heap.size, 4, none⟩ = some (.bool false) := (SX.made w 12 t s h false p pa).c4
    have c5 : (w.alloc (.cells #[.int .i64 12, .string t, .string s, .string h, .bool false, .int .i64 p, .string pa] 24)).cell? ⟨w.heap.size, 5, none⟩ = some (.int .i64 p) := (SX.made w 12 t s h false p pa).c5
    have c6 : (w.alloc (.cells #[.int .i64 12, .string t, .string s, .string h, .bool false, .int .i64 p, .string pa] 24)).cell? ⟨w.heap.size, 6, none⟩ = some (.string pa) := (SX.made w 12 t s h false p pa).c6
    go_enter Tryz.func23, Tryz.ntmps23
    go_wp2
    go_ret
    exact ⟨congrArg (fun x => Ending.returned (Value.string x)) HF.out, (Below.refl _ _).alloc (Nat.le_refl _) _⟩

  cases gh : h.toList.isEmpty
  · have eh : h.data.toList.isEmpty = false := by rw [← text_empty]; exact gh
    by_cases q0 : p = -1
    · subst q0
      obtain ⟨X1, hX1, zX1, a1⟩ := add_step ⟨#[]⟩ ⟨#[42]⟩ 0 1 (by decide) (by decide) (by decide)
      obtain ⟨X2, hX2, zX2, a2⟩ := add_step X1 ⟨#[46]⟩ 1 1 zX1 (by decide) (by decide)
      obtain ⟨X3, hX3, zX3, a3⟩ := add_step X2 h 2 100000 zX2 hh (by decide)
      obtain ⟨X4, hX4, zX4, a4⟩ := add_step X3 ⟨#[58, 42]⟩ 100002 2 zX3 (by decide) (by decide)
      obtain ⟨X5, hX5, zX5, a5⟩ := add_step X4 pa 100004 100000 zX4 hpa (by decide)
      have HF : Hid (X5 = T) := Lib.hid (by rw [text_is hT]; refine text_is ?_; rw [hX5, hX4, hX3, hX2, hX1]; unfold placeT schT sportT; simp [es, eh])
      clear hT es hX1 hX2 hX3 hX4 hX5 zX1 zX2 zX3 zX4 zX5 hs hh hpa eh
      have c0 : (w.alloc (.cells #[.int .i64 12, .string t, .string s, .string h, .bool true, .int .i64 (-1), .string pa] 24)).cell? ⟨w.heap.size, 0, none⟩ = some (.int .i64 12) := (SX.made w 12 t s h true (-1) pa).c0
      have c1 : (w.alloc (.cells #[.int .i64 12, .string t, .string s, .string h, .bool true, .int .i64 (-1), .string pa] 24)).cell? ⟨w.heap.size, 1, none⟩ = some (.string t) := (SX.made w 12 t s h true (-1) pa).c1
      have c2 : (w.alloc (.cells #[.int .i64 12, .string t, .string s, .string h, .bool true, .int .i64 (-1), .string pa] 24)).cell? ⟨w.heap.size, 2, none⟩ = some (.string s) := (SX.made w 12 t s h true (-1) pa).c2
      have c3 : (w.alloc (.cells #[.int .i64 12, .string t, .string s, .string h, .bool true, .int .i64 (-1), .string pa] 24)).cell? ⟨w.heap.size, 3, none⟩ = some (.string h) := (SX.made w 12 t s h true (-1) pa).c3
      have c4 : (w.alloc (.cells #[.int .i64 12, .string t, .string s, .string h, .bool true, .int .i64 (-1), .string pa] 24)).cell? ⟨w.heap.size, 4, none⟩ = some (.bool true) := (SX.made w 12 t s h true (-1) pa).c4
      have c5 : (w.alloc (.cells #[.int .i64 12, .string t, .string s, .string h, .bool true, .int .i64 (-1), .string pa] 24)).cell? ⟨w.heap.size, 5, none⟩ = some (.int .i64 (-1)) := (SX.made w 12 t s h true (-1) pa).c5
      have c6 : (w.alloc (.cells #[.int .i64 12, .string t, .string s, .string h, .bool true, .int .i64 (-1), .string pa] 24)).cell? ⟨w.heap.size, 6, none⟩ = some (.string pa) := (SX.made w 12 t s h true (-1) pa).c6
      go_enter Tryz.func23, Tryz.ntmps23
      go_wp2
      go_ret
      exact ⟨congrArg (fun x => Ending.returned (Value.string x)) HF.out, (Below.refl _ _).alloc (Nat.le_refl _) _⟩

    have q1 : ¬ p < 0 := by omega
    by_cases q2 : 0 < p
    · show _
      obtain ⟨X1, hX1, zX1, a1⟩ := add_step ⟨#[]⟩ ⟨#[42]⟩ 0 1 (by decide) (by decide) (by decide)
      obtain ⟨X2, hX2, zX2, a2⟩ := add_step X1 ⟨#[46]⟩ 1 1 zX1 (by decide) (by decide)
      obtain ⟨X3, hX3, zX3, a3⟩ := add_step X2 h 2 100000 zX2 hh (by decide)
      obtain ⟨D, hD⟩ := text_of (Lib.decDigits p.toNat)
      have zD : D.size ≤ 5 := by rw [← lsize, hD, Lib.decDigits_length]; exact nDigits_le _ (by omega)
      have CI := digits_hid p (by omega) p1 D hD
      obtain ⟨X4, hX4, zX4, a4⟩ := add_step X3 ⟨#[58]⟩ 100002 1 zX3 (by decide) (by decide)
      obtain ⟨X5, hX5, zX5, a5⟩ := add_step X4 D 100003 5 zX4 zD (by decide)
      obtain ⟨X6, hX6, zX6, a6⟩ := add_step X5 pa 100008 100000 zX5 hpa (by decide)
      have HF : Hid (X6 = T) := Lib.hid (by rw [text_is hT]; refine text_is ?_; rw [hX6, hX5, hX4, hX3, hX2, hX1, hD]; unfold placeT schT sportT; simp [es, eh, q1, q2])
      clear hT es hX1 hX2 hX3 hX4 hX5 hX6 zX1 zX2 zX3 zX4 zX5 zX6 hs hh hpa eh hD zD
      have c0 : (w.alloc (.cells #[.int .i64 12, .string t, .string s, .string h, .bool true, .int .i64 p, .string pa] 24)).cell? ⟨w.heap.size, 0, none⟩ = some (.int .i64 12) := (SX.made w 12 t s h true p pa).c0
      have c1 : (w.alloc (.cells #[.int .i64 12, .string t, .string s, .string h, .bool true, .int .i64 p, .string pa] 24)).cell? ⟨w.heap.size, 1, none⟩ = some (.string t) := (SX.made w 12 t s h true p pa).c1
      have c2 : (w.alloc (.cells #[.int .i64 12, .string t, .string s, .string h, .bool true, .int .i64 p, .string pa] 24)).cell? ⟨w.heap.size, 2, none⟩ = some (.string s) := (SX.made w 12 t s h true p pa).c2
      have c3 : (w.alloc (.cells #[.int .i64 12, .string t, .string s, .string h, .bool true, .int .i64 p, .string pa] 24)).cell? ⟨w.heap.size, 3, none⟩ = some (.string h) := (SX.made w 12 t s h true p pa).c3
      have c4 : (w.alloc (.cells #[.int .i64 12, .string t, .string s, .string h, .bool true, .int .i64 p, .string pa] 24)).cell? ⟨w.heap.size, 4, none⟩ = some (.bool true) := (SX.made w 12 t s h true p pa).c4
      have c5 : (w.alloc (.cells #[.int .i64 12, .string t, .string s, .string h, .bool true, .int .i64 p, .string pa] 24)).cell? ⟨w.heap.size, 5, none⟩ = some (.int .i64 p) := (SX.made w 12 t s h true p pa).c5
      have c6 : (w.alloc (.cells #[.int .i64 12, .string t, .string s, .string h, .bool true, .int .i64 p, .string pa] 24)).cell? ⟨w.heap.size, 6, none⟩ = some (.string pa) := (SX.made w 12 t s h true p pa).c6
      go_enter Tryz.func23, Tryz.ntmps23
      go_wp2_with (go_at_call 40; (with_reducible refine (CI.out _).mono ?_); rintro e w7 ⟨rfl, rfl⟩)
      go_ret
      exact ⟨congrArg (fun x => Ending.returned (Value.string x)) HF.out, (Below.refl _ _).alloc (Nat.le_refl _) _⟩

    obtain ⟨X1, hX1, zX1, a1⟩ := add_step ⟨#[]⟩ ⟨#[42]⟩ 0 1 (by decide) (by decide) (by decide)
    obtain ⟨X2, hX2, zX2, a2⟩ := add_step X1 ⟨#[46]⟩ 1 1 zX1 (by decide) (by decide)
    obtain ⟨X3, hX3, zX3, a3⟩ := add_step X2 h 2 100000 zX2 hh (by decide)
    obtain ⟨X4, hX4, zX4, a4⟩ := add_step X3 pa 100002 100000 zX3 hpa (by decide)
    have HF : Hid (X4 = T) := Lib.hid (by rw [text_is hT]; refine text_is ?_; rw [hX4, hX3, hX2, hX1]; unfold placeT schT sportT; simp [es, eh, q1, q2])
    clear hT es hX1 hX2 hX3 hX4 zX1 zX2 zX3 zX4 hs hh hpa eh
    have c0 : (w.alloc (.cells #[.int .i64 12, .string t, .string s, .string h, .bool true, .int .i64 p, .string pa] 24)).cell? ⟨w.heap.size, 0, none⟩ = some (.int .i64 12) := (SX.made w 12 t s h true p pa).c0
    have c1 : (w.alloc (.cells #[.int .i64 12, .string t, .string s, .string h, .bool true, .int .i64 p, .string pa] 24)).cell? ⟨w.heap.size, 1, none⟩ = some (.string t) := (SX.made w 12 t s h true p pa).c1
    have c2 : (w.alloc (.cells #[.int .i64 12, .string t, .string s, .string h, .bool true, .int .i64 p, .string pa] 24)).cell? ⟨w.heap.size, 2, none⟩ = some (.string s) := (SX.made w 12 t s h true p pa).c2
    have c3 : (w.alloc (.cells #[.int .i64 12, .string t, .string s, .string h, .bool true, .int .i64 p, .string pa] 24)).cell? ⟨w.heap.size, 3, none⟩ = some (.string h) := (SX.made w 12 t s h true p pa).c3
    have c4 : (w.alloc (.cells #[.int .i64 12, .string t, .string s, .string h, .bool true, .int .i64 p, .string pa] 24)).cell? ⟨w.heap.size, 4, none⟩ = some (.bool true) := (SX.made w 12 t s h true p pa).c4
    have c5 : (w.alloc (.cells #[.int .i64 12, .string t, .string s, .string h, .bool true, .int .i64 p, .string pa] 24)).cell? ⟨w.heap.size, 5, none⟩ = some (.int .i64 p) := (SX.made w 12 t s h true p pa).c5
    have c6 : (w.alloc (.cells #[.int .i64 12, .string t, .string s, .string h, .bool true, .int .i64 p, .string pa] 24)).cell? ⟨w.heap.size, 6, none⟩ = some (.string pa) := (SX.made w 12 t s h true p pa).c6
    go_enter Tryz.func23, Tryz.ntmps23
    go_wp2
    go_ret
    exact ⟨congrArg (fun x => Ending.returned (Value.string x)) HF.out, (Below.refl _ _).alloc (Nat.le_refl _) _⟩

  have eh : h.data.toList.isEmpty = true := by rw [← text_empty]; exact gh
  by_cases q0 : p = -1
  · subst q0
    obtain ⟨X1, hX1, zX1, a1⟩ := add_step ⟨#[]⟩ ⟨#[42]⟩ 0 1 (by decide) (by decide) (by decide)
    obtain ⟨X2, hX2, zX2, a2⟩ := add_step X1 h 1 100000 zX1 hh (by decide)
    obtain ⟨X3, hX3, zX3, a3⟩ := add_step X2 ⟨#[58, 42]⟩ 100001 2 zX2 (by decide) (by decide)
    obtain ⟨X4, hX4, zX4, a4⟩ := add_step X3 pa 100003 100000 zX3 hpa (by decide)
    have HF : Hid (X4 = T) := Lib.hid (by rw [text_is hT]; refine text_is ?_; rw [hX4, hX3, hX2, hX1]; unfold placeT schT sportT; simp [es, eh])
    clear hT es hX1 hX2 hX3 hX4 zX1 zX2 zX3 zX4 hs hh hpa eh
    have c0 : (w.alloc (.cells #[.int .i64 12, .string t, .string s, .string h, .bool true, .int .i64 (-1), .string pa] 24)).cell? ⟨w.heap.size, 0, none⟩ = some (.int .i64 12) := (SX.made w 12 t s h true (-1) pa).c0
    have c1 : (w.alloc (.cells #[.int .i64 12, .string t, .string s, .string h, .bool true, .int .i64 (-1), .string pa] 24)).cell? ⟨w.heap.size, 1, none⟩ = some (.string t) := (SX.made w 12 t s h true (-1) pa).c1
    have c2 : (w.alloc (.cells #[.int .i64 12, .string t, .string s, .string h, .bool true, .int .i64 (-1), .string pa] 24)).cell? ⟨w.heap.size, 2, none⟩ = some (.string s) := (SX.made w 12 t s h true (-1) pa).c2
    have c3 : (w.alloc (.cells #[.int .i64 12, .string t, .string s, .string h, .bool true, .int .i64 (-1), .string pa] 24)).cell? ⟨w.heap.size, 3, none⟩ = some (.string h) := (SX.made w 12 t s h true (-1) pa).c3
    have c4 : (w.alloc (.cells #[.int .i64 12, .string t, .string s, .string h, .bool true, .int .i64 (-1), .string pa] 24)).cell? ⟨w.heap.size, 4, none⟩ = some (.bool true) := (SX.made w 12 t s h true (-1) pa).c4
    have c5 : (w.alloc (.cells #[.int .i64 12, .string t, .string s, .string h, .bool true, .int .i64 (-1), .string pa] 24)).cell? ⟨w.heap.size, 5, none⟩ = some (.int .i64 (-1)) := (SX.made w 12 t s h true (-1) pa).c5
    have c6 : (w.alloc (.cells #[.int .i64 12, .string t, .string s, .string h, .bool true, .int .i64 (-1), .string pa] 24)).cell? ⟨w.heap.size, 6, none⟩ = some (.string pa) := (SX.made w 12 t s h true (-1) pa).c6
    go_enter Tryz.func23, Tryz.ntmps23
    go_wp2
    go_ret
    exact ⟨congrArg (fun x => Ending.returned (Value.string x)) HF.out, (Below.refl _ _).alloc (Nat.le_refl _) _⟩

  have q1 : ¬ p < 0 := by omega
  by_cases q2 : 0 < p
  · show _
    obtain ⟨X1, hX1, zX1, a1⟩ := add_step ⟨#[]⟩ ⟨#[42]⟩ 0 1 (by decide) (by decide) (by decide)
    obtain ⟨X2, hX2, zX2, a2⟩ := add_step X1 h 1 100000 zX1 hh (by decide)
    obtain ⟨D, hD⟩ := text_of (Lib.decDigits p.toNat)
    have zD : D.size ≤ 5 := by rw [← lsize, hD, Lib.decDigits_length]; exact nDigits_le _ (by omega)
    have CI := digits_hid p (by omega) p1 D hD
    obtain ⟨X3, hX3, zX3, a3⟩ := add_step X2 ⟨#[58]⟩ 100001 1 zX2 (by decide) (by decide)
    obtain ⟨X4, hX4, zX4, a4⟩ := add_step X3 D 100002 5 zX3 zD (by decide)
    obtain ⟨X5, hX5, zX5, a5⟩ := add_step X4 pa 100007 100000 zX4 hpa (by decide)
    have HF : Hid (X5 = T) := Lib.hid (by rw [text_is hT]; refine text_is ?_; rw [hX5, hX4, hX3, hX2, hX1, hD]; unfold placeT schT sportT; simp [es, eh, q1, q2])
    clear hT es hX1 hX2 hX3 hX4 hX5 zX1 zX2 zX3 zX4 zX5 hs hh hpa eh hD zD
    have c0 : (w.alloc (.cells #[.int .i64 12, .string t, .string s, .string h, .bool true, .int .i64 p, .string pa] 24)).cell? ⟨w.heap.size, 0, none⟩ = some (.int .i64 12) := (SX.made w 12 t s h true p pa).c0
    have c1 : (w.alloc (.cells #[.int .i64 12, .string t, .string s, .string h, .bool true, .int .i64 p, .string pa] 24)).cell? ⟨w.heap.size, 1, none⟩ = some (.string t) := (SX.made w 12 t s h true p pa).c1
    have c2 : (w.alloc (.cells #[.int .i64 12, .string t, .string s, .string h, .bool true, .int .i64 p, .string pa] 24)).cell? ⟨w.heap.size, 2, none⟩ = some (.string s) := (SX.made w 12 t s h true p pa).c2
    have c3 : (w.alloc (.cells #[.int .i64 12, .string t, .string s, .string h, .bool true, .int .i64 p, .string pa] 24)).cell? ⟨w.heap.size, 3, none⟩ = some (.string h) := (SX.made w 12 t s h true p pa).c3
    have c4 : (w.alloc (.cells #[.int .i64 12, .string t, .string s, .string h, .bool true, .int .i64 p, .string pa] 24)).cell? ⟨w.heap.size, 4, none⟩ = some (.bool true) := (SX.made w 12 t s h true p pa).c4
    have c5 : (w.alloc (.cells #[.int .i64 12, .string t, .string s, .string h, .bool true, .int .i64 p, .string pa] 24)).cell? ⟨w.heap.size, 5, none⟩ = some (.int .i64 p) := (SX.made w 12 t s h true p pa).c5
    have c6 : (w.alloc (.cells #[.int .i64 12, .string t, .string s, .string h, .bool true, .int .i64 p, .string pa] 24)).cell? ⟨w.heap.size, 6, none⟩ = some (.string pa) := (SX.made w 12 t s h true p pa).c6
    go_enter Tryz.func23, Tryz.ntmps23
    go_wp2_with (go_at_call 40; (with_reducible refine (CI.out _).mono ?_); rintro e w7 ⟨rfl, rfl⟩)
    go_ret
    exact ⟨congrArg (fun x => Ending.returned (Value.string x)) HF.out, (Below.refl _ _).alloc (Nat.le_refl _) _⟩

  obtain ⟨X1, hX1, zX1, a1⟩ := add_step ⟨#[]⟩ ⟨#[42]⟩ 0 1 (by decide) (by decide) (by decide)
  obtain ⟨X2, hX2, zX2, a2⟩ := add_step X1 h 1 100000 zX1 hh (by decide)
  obtain ⟨X3, hX3, zX3, a3⟩ := add_step X2 pa 100001 100000 zX2 hpa (by decide)
  have HF : Hid (X3 = T) := Lib.hid (by rw [text_is hT]; refine text_is ?_; rw [hX3, hX2, hX1]; unfold placeT schT sportT; simp [es, eh, q1, q2])
  clear hT es hX1 hX2 hX3 zX1 zX2 zX3 hs hh hpa eh
  have c0 : (w.alloc (.cells #[.int .i64 12, .string t, .string s, .string h, .bool true, .int .i64 p, .string pa] 24)).cell? ⟨w.heap.size, 0, none⟩ = some (.int .i64 12) := (SX.made w 12 t s h true p pa).c0
  have c1 : (w.alloc (.cells #[.int .i64 12, .string t, .string s, .string h, .bool true, .int .i64 p, .string pa] 24)).cell? ⟨w.heap.size, 1, none⟩ = some (.string t) := (SX.made w 12 t s h true p pa).c1
  have c2 : (w.alloc (.cells #[.int .i64 12, .string t, .string s, .string h, .bool true, .int .i64 p, .string pa] 24)).cell? ⟨w.heap.size, 2, none⟩ = some (.string s) := (SX.made w 12 t s h true p pa).c2
  have c3 : (w.alloc (.cells #[.int .i64 12, .string t, .string s, .string h, .bool true, .int .i64 p, .string pa] 24)).cell? ⟨w.heap.size, 3, none⟩ = some (.string h) := (SX.made w 12 t s h true p pa).c3
  have c4 : (w.alloc (.cells #[.int .i64 12, .string t, .string s, .string h, .bool true, .int .i64 p, .string pa] 24)).cell? ⟨w.heap.size, 4, none⟩ = some (.bool true) := (SX.made w 12 t s h true p pa).c4
  have c5 : (w.alloc (.cells #[.int .i64 12, .string t, .string s, .string h, .bool true, .int .i64 p, .string pa] 24)).cell? ⟨w.heap.size, 5, none⟩ = some (.int .i64 p) := (SX.made w 12 t s h true p pa).c5
  have c6 : (w.alloc (.cells #[.int .i64 12, .string t, .string s, .string h, .bool true, .int .i64 p, .string pa] 24)).cell? ⟨w.heap.size, 6, none⟩ = some (.string pa) := (SX.made w 12 t s h true p pa).c6
  go_enter Tryz.func23, Tryz.ntmps23
  go_wp2
  go_ret
  exact ⟨congrArg (fun x => Ending.returned (Value.string x)) HF.out, (Below.refl _ _).alloc (Nat.le_refl _) _⟩


set_option maxRecDepth 100000 in
set_option maxHeartbeats 8000000 in
theorem wordR_any (k : Int) (t s h : ByteArray) (b : Bool) (p : Int) (pa : ByteArray) (lt : t.size ≤ 100000) (hs : s.size ≤ 100000) (hh : h.size ≤ 100000) (hpa : pa.size ≤ 100000) (hr : rightS (srcM k t s h b p pa) = true) (T : ByteArray) (hT : T.data.toList = wordS (srcM k t s h b p pa)) (w : World) : Calls Tryz.prog 23 #[srcV k t s h b p pa] w fun e w' => e = .returned (.string T) ∧ Below w.heap.size w w' := by
  by_cases k12 : k = 12
  · subst k12
    obtain ⟨p0, p1⟩ := right_ports hr
    exact wordR_place t s h b p pa hs hh hpa p0 p1 T (hT.trans (word_12 t s h b p pa)) w
  unfold srcV
  by_cases k9 : k = 9
  · subst k9
    obtain ⟨X1, hX1, zX1, a1⟩ := add_step ⟨#[39, 110, 111, 110, 99, 101, 45]⟩ t 7 100000 (by decide) lt (by decide)
    obtain ⟨X2, hX2, zX2, a2⟩ := add_step X1 ⟨#[39]⟩ 100007 1 zX1 (by decide) (by decide)
    have HF : Hid (X2 = T) := Lib.hid (by rw [text_is hT]; refine text_is ?_; rw [hX2, hX1]; unfold wordS; rw [if_pos (show (srcM 9 t s h b p pa).k = 9 from rfl), List.append_assoc]; rfl)
    clear hT hr lt hs hh hpa hX1 hX2 zX1 zX2
    have c0 : (w.alloc (.cells #[.int .i64 9, .string t, .string s, .string h, .bool b, .int .i64 p, .string pa] 24)).cell? ⟨w.heap.size, 0, none⟩ = some (.int .i64 9) := (SX.made w 9 t s h b p pa).c0
    have c1 : (w.alloc (.cells #[.int .i64 9, .string t, .string s, .string h, .bool b, .int .i64 p, .string pa] 24)).cell? ⟨w.heap.size, 1, none⟩ = some (.string t) := (SX.made w 9 t s h b p pa).c1
    have c2 : (w.alloc (.cells #[.int .i64 9, .string t, .string s, .string h, .bool b, .int .i64 p, .string pa] 24)).cell? ⟨w.heap.size, 2, none⟩ = some (.string s) := (SX.made w 9 t s h b p pa).c2
    have c3 : (w.alloc (.cells #[.int .i64 9, .string t, .string s, .string h, .bool b, .int .i64 p, .string pa] 24)).cell? ⟨w.heap.size, 3, none⟩ = some (.string h) := (SX.made w 9 t s h b p pa).c3
    have c4 : (w.alloc (.cells #[.int .i64 9, .string t, .string s, .string h, .bool b, .int .i64 p, .string pa] 24)).cell? ⟨w.heap.size, 4, none⟩ = some (.bool b) := (SX.made w 9 t s h b p pa).c4
    have c5 : (w.alloc (.cells #[.int .i64 9, .string t, .string s, .string h, .bool b, .int .i64 p, .string pa] 24)).cell? ⟨w.heap.size, 5, none⟩ = some (.int .i64 p) := (SX.made w 9 t s h b p pa).c5
    have c6 : (w.alloc (.cells #[.int .i64 9, .string t, .string s, .string h, .bool b, .int .i64 p, .string pa] 24)).cell? ⟨w.heap.size, 6, none⟩ = some (.string pa) := (SX.made w 9 t s h b p pa).c6
    go_enter Tryz.func23, Tryz.ntmps23
    go_wp2
    go_ret
    exact ⟨congrArg (fun x => Ending.returned (Value.string x)) HF.out, (Below.refl _ _).alloc (Nat.le_refl _) _⟩
  by_cases k10 : k = 10
  · subst k10
    obtain ⟨E, hE⟩ := text_of (encM t.data.toList)
    have zE : E.size ≤ 24 := by rw [← lsize, hE, encM_length, lsize, right_16 hr]; decide
    have CE := refEncode_hid t lt E hE
    obtain ⟨X1, hX1, zX1, a1⟩ := add_step ⟨#[39, 109, 97, 114, 107, 45]⟩ E 6 24 (by decide) zE (by decide)
    obtain ⟨X2, hX2, zX2, a2⟩ := add_step X1 ⟨#[39]⟩ 30 1 zX1 (by decide) (by decide)
    have HF : Hid (X2 = T) := Lib.hid (by rw [text_is hT]; refine text_is ?_; rw [hX2, hX1, hE]; unfold wordS; rw [if_neg (show ¬ (srcM 10 t s h b p pa).k = 9 from (show ¬ (10 : Int) = 9 by decide)), if_pos (show (srcM 10 t s h b p pa).k = 10 from rfl), List.append_assoc]; rfl)
    clear hT hr lt hs hh hpa hX1 hX2 zX1 zX2 hE zE
    have c0 : (w.alloc (.cells #[.int .i64 10, .string t, .string s, .string h, .bool b, .int .i64 p, .string pa] 24)).cell? ⟨w.heap.size, 0, none⟩ = some (.int .i64 10) := (SX.made w 10 t s h b p pa).c0
    have c1 : (w.alloc (.cells #[.int .i64 10, .string t, .string s, .string h, .bool b, .int .i64 p, .string pa] 24)).cell? ⟨w.heap.size, 1, none⟩ = some (.string t) := (SX.made w 10 t s h b p pa).c1
    have c2 : (w.alloc (.cells #[.int .i64 10, .string t, .string s, .string h, .bool b, .int .i64 p, .string pa] 24)).cell? ⟨w.heap.size, 2, none⟩ = some (.string s) := (SX.made w 10 t s h b p pa).c2
    have c3 : (w.alloc (.cells #[.int .i64 10, .string t, .string s, .string h, .bool b, .int .i64 p, .string pa] 24)).cell? ⟨w.heap.size, 3, none⟩ = some (.string h) := (SX.made w 10 t s h b p pa).c3
    have c4 : (w.alloc (.cells #[.int .i64 10, .string t, .string s, .string h, .bool b, .int .i64 p, .string pa] 24)).cell? ⟨w.heap.size, 4, none⟩ = some (.bool b) := (SX.made w 10 t s h b p pa).c4
    have c5 : (w.alloc (.cells #[.int .i64 10, .string t, .string s, .string h, .bool b, .int .i64 p, .string pa] 24)).cell? ⟨w.heap.size, 5, none⟩ = some (.int .i64 p) := (SX.made w 10 t s h b p pa).c5
    have c6 : (w.alloc (.cells #[.int .i64 10, .string t, .string s, .string h, .bool b, .int .i64 p, .string pa] 24)).cell? ⟨w.heap.size, 6, none⟩ = some (.string pa) := (SX.made w 10 t s h b p pa).c6
    have BB : Hid (Below w.heap.size w (w.alloc (.cells #[.int .i64 10, .string t, .string s, .string h, .bool b, .int .i64 p, .string pa] 24))) := Lib.hid ((Below.refl _ _).alloc (Nat.le_refl _) _)
    go_enter Tryz.func23, Tryz.ntmps23
    go_wp2_with (go_at_call 39; (with_reducible refine (CE.out _).mono ?_); rintro e w7 ⟨rfl, b7⟩)
    go_ret
    exact ⟨congrArg (fun x => Ending.returned (Value.string x)) HF.out, BB.out.trans (b7.mono BB.out.size)⟩
  by_cases k11 : k = 11
  · subst k11
    obtain ⟨X1, hX1, zX1, a1⟩ := add_step s ⟨#[58]⟩ 100000 1 hs (by decide) (by decide)
    have HF : Hid (X1 = T) := Lib.hid (by rw [text_is hT]; refine text_is ?_; rw [hX1]; unfold wordS; rw [if_neg (show ¬ (srcM 11 t s h b p pa).k = 9 from (show ¬ (11 : Int) = 9 by decide)), if_neg (show ¬ (srcM 11 t s h b p pa).k = 10 from (show ¬ (11 : Int) = 10 by decide)), if_pos (show (srcM 11 t s h b p pa).k = 11 from rfl)]; rfl)
    clear hT hr lt hs hh hpa hX1 zX1
    have c0 : (w.alloc (.cells #[.int .i64 11, .string t, .string s, .string h, .bool b, .int .i64 p, .string pa] 24)).cell? ⟨w.heap.size, 0, none⟩ = some (.int .i64 11) := (SX.made w 11 t s h b p pa).c0
    have c1 : (w.alloc (.cells #[.int .i64 11, .string t, .string s, .string h, .bool b, .int .i64 p, .string pa] 24)).cell? ⟨w.heap.size, 1, none⟩ = some (.string t) := (SX.made w 11 t s h b p pa).c1
    have c2 : (w.alloc (.cells #[.int .i64 11, .string t, .string s, .string h, .bool b, .int .i64 p, .string pa] 24)).cell? ⟨w.heap.size, 2, none⟩ = some (.string s) := (SX.made w 11 t s h b p pa).c2
    have c3 : (w.alloc (.cells #[.int .i64 11, .string t, .string s, .string h, .bool b, .int .i64 p, .string pa] 24)).cell? ⟨w.heap.size, 3, none⟩ = some (.string h) := (SX.made w 11 t s h b p pa).c3
    have c4 : (w.alloc (.cells #[.int .i64 11, .string t, .string s, .string h, .bool b, .int .i64 p, .string pa] 24)).cell? ⟨w.heap.size, 4, none⟩ = some (.bool b) := (SX.made w 11 t s h b p pa).c4
    have c5 : (w.alloc (.cells #[.int .i64 11, .string t, .string s, .string h, .bool b, .int .i64 p, .string pa] 24)).cell? ⟨w.heap.size, 5, none⟩ = some (.int .i64 p) := (SX.made w 11 t s h b p pa).c5
    have c6 : (w.alloc (.cells #[.int .i64 11, .string t, .string s, .string h, .bool b, .int .i64 p, .string pa] 24)).cell? ⟨w.heap.size, 6, none⟩ = some (.string pa) := (SX.made w 11 t s h b p pa).c6
    go_enter Tryz.func23, Tryz.ntmps23
    go_wp2
    go_ret
    exact ⟨congrArg (fun x => Ending.returned (Value.string x)) HF.out, (Below.refl _ _).alloc (Nat.le_refl _) _⟩
  have CK := keptR_hid k T (hT.trans (word_kept k t s h b p pa k9 k10 k11 k12))
  have m9 : (k == 9) = false := by rw [beq_eq_false_iff_ne]; exact k9
  have m10 : (k == 10) = false := by rw [beq_eq_false_iff_ne]; exact k10
  have m11 : (k == 11) = false := by rw [beq_eq_false_iff_ne]; exact k11
  have m12 : (k == 12) = false := by rw [beq_eq_false_iff_ne]; exact k12
  clear hT hr lt hs hh hpa k9 k10 k11 k12
  have c0 : (w.alloc (.cells #[.int .i64 k, .string t, .string s, .string h, .bool b, .int .i64 p, .string pa] 24)).cell? ⟨w.heap.size, 0, none⟩ = some (.int .i64 k) := (SX.made w k t s h b p pa).c0
  have c1 : (w.alloc (.cells #[.int .i64 k, .string t, .string s, .string h, .bool b, .int .i64 p, .string pa] 24)).cell? ⟨w.heap.size, 1, none⟩ = some (.string t) := (SX.made w k t s h b p pa).c1
  have c2 : (w.alloc (.cells #[.int .i64 k, .string t, .string s, .string h, .bool b, .int .i64 p, .string pa] 24)).cell? ⟨w.heap.size, 2, none⟩ = some (.string s) := (SX.made w k t s h b p pa).c2
  have c3 : (w.alloc (.cells #[.int .i64 k, .string t, .string s, .string h, .bool b, .int .i64 p, .string pa] 24)).cell? ⟨w.heap.size, 3, none⟩ = some (.string h) := (SX.made w k t s h b p pa).c3
  have c4 : (w.alloc (.cells #[.int .i64 k, .string t, .string s, .string h, .bool b, .int .i64 p, .string pa] 24)).cell? ⟨w.heap.size, 4, none⟩ = some (.bool b) := (SX.made w k t s h b p pa).c4
  have c5 : (w.alloc (.cells #[.int .i64 k, .string t, .string s, .string h, .bool b, .int .i64 p, .string pa] 24)).cell? ⟨w.heap.size, 5, none⟩ = some (.int .i64 p) := (SX.made w k t s h b p pa).c5
  have c6 : (w.alloc (.cells #[.int .i64 k, .string t, .string s, .string h, .bool b, .int .i64 p, .string pa] 24)).cell? ⟨w.heap.size, 6, none⟩ = some (.string pa) := (SX.made w k t s h b p pa).c6
  have BB : Hid (Below w.heap.size w (w.alloc (.cells #[.int .i64 k, .string t, .string s, .string h, .bool b, .int .i64 p, .string pa] 24))) := Lib.hid ((Below.refl _ _).alloc (Nat.le_refl _) _)
  go_enter Tryz.func23, Tryz.ntmps23
  go_wp2_with (go_at_call 38; (with_reducible refine (CK.out _).mono ?_); rintro e w7 ⟨rfl, b7⟩)
  go_ret
  exact ⟨rfl, BB.out.trans (b7.mono BB.out.size)⟩
theorem wordR_hid (k : Int) (t s h : ByteArray) (b : Bool) (p : Int) (pa : ByteArray) (lt : t.size ≤ 100000) (hs : s.size ≤ 100000) (hh : h.size ≤ 100000) (hpa : pa.size ≤ 100000) (hr : rightS (srcM k t s h b p pa) = true) (T : ByteArray) (hT : T.data.toList = wordS (srcM k t s h b p pa)) : Hid (∀ W, Calls Tryz.prog 23 #[srcV k t s h b p pa] W fun e w' => e = .returned (.string T) ∧ Below W.heap.size W w') := Lib.hid fun W => wordR_any k t s h b p pa lt hs hh hpa hr T hT W

set_option maxRecDepth 100000 in
set_option maxHeartbeats 2000000 in
theorem printR_any (k : Int) (t s h : ByteArray) (b : Bool) (p : Int) (pa : ByteArray) (lt : t.size ≤ 100000) (hs : s.size ≤ 100000) (hh : h.size ≤ 100000) (hpa : pa.size ≤ 100000) (r : Bool) (hr : rightS (srcM k t s h b p pa) = r) (T : ByteArray) (hT : T.data.toList = if r then wordS (srcM k t s h b p pa) else []) (w : World) : Calls Tryz.prog 10 #[srcV k t s h b p pa] w fun e w' => e = .returned (.tuple #[.string T, .bool r]) ∧ Below w.heap.size w w' := by
  have CR := srightR_hid k t s h b p pa (by omega) (by omega) (by omega) r hr
  cases r
  · obtain rfl : T = ⟨#[]⟩ := text_is hT
    clear hT hr lt hs hh hpa
    unfold srcV at *
    go_enter Tryz.func10, Tryz.ntmps10
    go_wp2_with fail
    have xn := SX.made w k t s h b p pa
    have Bw1 : Below w.heap.size w (w.alloc (.cells #[.int .i64 k, .string t, .string s, .string h, .bool b, .int .i64 p, .string pa] 24)) := ((Below.refl w.heap.size w).alloc (Nat.le_refl _) (.cells #[.int .i64 k, .string t, .string s, .string h, .bool b, .int .i64 p, .string pa] 24))
    generalize hR : w.heap.size = R at xn Bw1 ⊢
    have HR := Lib.hid hR
    clear hR
    generalize w.alloc (.cells #[.int .i64 k, .string t, .string s, .string h, .bool b, .int .i64 p, .string pa] 24) = w1 at xn  Bw1  ⊢
    have xR_w1 := xn
    clear xn 
    refine (CR.out _ ).mono ?_
    rintro e w2 ⟨rfl, b_⟩
    have Bw2 := Bw1.trans (b_.mono (Nat.le_of_lt xR_w1.lt))
    have xR_w2 := xR_w1.below b_
    clear b_ Bw1 xR_w1
    have dR0 := xR_w2.c0
    have dR1 := xR_w2.c1
    have dR2 := xR_w2.c2
    have dR3 := xR_w2.c3
    have dR4 := xR_w2.c4
    have dR5 := xR_w2.c5
    have dR6 := xR_w2.c6
    go_wp2
    go_ret2
    exact ⟨rfl, by rw [HR.out]; exact Bw2⟩

  · have CW := wordR_hid k t s h b p pa lt hs hh hpa hr T hT
    clear hT hr lt hs hh hpa
    unfold srcV at *
    go_enter Tryz.func10, Tryz.ntmps10
    go_wp2_with fail
    have xn := SX.made w k t s h b p pa
    have Bw1 : Below w.heap.size w (w.alloc (.cells #[.int .i64 k, .string t, .string s, .string h, .bool b, .int .i64 p, .string pa] 24)) := ((Below.refl w.heap.size w).alloc (Nat.le_refl _) (.cells #[.int .i64 k, .string t, .string s, .string h, .bool b, .int .i64 p, .string pa] 24))
    generalize hR : w.heap.size = R at xn Bw1 ⊢
    have HR := Lib.hid hR
    clear hR
    generalize w.alloc (.cells #[.int .i64 k, .string t, .string s, .string h, .bool b, .int .i64 p, .string pa] 24) = w1 at xn  Bw1  ⊢
    have xR_w1 := xn
    clear xn 
    refine (CR.out _ ).mono ?_
    rintro e w2 ⟨rfl, b_⟩
    have Bw2 := Bw1.trans (b_.mono (Nat.le_of_lt xR_w1.lt))
    have xR_w2 := xR_w1.below b_
    clear b_ Bw1 xR_w1
    have dR0 := xR_w2.c0
    have dR1 := xR_w2.c1
    have dR2 := xR_w2.c2
    have dR3 := xR_w2.c3
    have dR4 := xR_w2.c4
    have dR5 := xR_w2.c5
    have dR6 := xR_w2.c6
    go_wp2_with fail
    clear dR0 dR1 dR2 dR3 dR4 dR5 dR6
    refine (CW.out _ ).mono ?_
    rintro e w3 ⟨rfl, b_⟩
    have Bw3 := Bw2.trans (b_.mono (Nat.le_of_lt xR_w2.lt))
    have xR_w3 := xR_w2.below b_
    clear b_ Bw2 xR_w2
    go_wp2
    go_ret2
    exact ⟨rfl, by rw [HR.out]; exact Bw3⟩

theorem printR_hid (k : Int) (t s h : ByteArray) (b : Bool) (p : Int) (pa : ByteArray) (lt : t.size ≤ 100000) (hs : s.size ≤ 100000) (hh : h.size ≤ 100000) (hpa : pa.size ≤ 100000) (r : Bool) (hr : rightS (srcM k t s h b p pa) = r) (T : ByteArray) (hT : T.data.toList = if r then wordS (srcM k t s h b p pa) else []) : Hid (∀ W, Calls Tryz.prog 10 #[srcV k t s h b p pa] W fun e w' => e = .returned (.tuple #[.string T, .bool r]) ∧ Below W.heap.size W w') := Lib.hid fun W => printR_any k t s h b p pa lt hs hh hpa r hr T hT W

end Go.Proofs.YtmfejcmhbncchaaGreatDoor
