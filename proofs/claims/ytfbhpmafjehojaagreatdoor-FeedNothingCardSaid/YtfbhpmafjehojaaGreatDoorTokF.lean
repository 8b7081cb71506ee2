/- The cursor goes over bytes: what it leaves out, takes up to a sign, takes through a sign. -/
import Derived.Test.YtfbhpmafjehojaaGreatDoorToD
namespace Go.Proofs.YtfbhpmafjehojaaGreatDoor
open Go.RowKit

/-- Where the cursor is. -/
def posOf (R : Nat) (w : World) : Nat := match w.cell? ⟨R, 1, none⟩ with | some v => (intOf v).toNat | none => 0
theorem RX.pos {w : World} {R : Nat} {s : ByteArray} {n : Nat} {p bv tv fv : Value} (a : RX w R s n p bv tv fv) : posOf R w = n := by
  unfold posOf
  rw [a.c1]
  simp [intOf]
def gapL (L : List UInt8) (c : UInt8) : Bool := !(oneOf L c)
theorem find_step {P : UInt8 → Bool} {l : List UInt8} {k : Nat} {c : UInt8} (hc : l[k]? = some c) : (l.drop k).findIdx P = if P c then 0 else (l.drop (k + 1)).findIdx P + 1 := by
  obtain ⟨hk, hc'⟩ := List.getElem?_eq_some_iff.1 hc
  rw [List.drop_eq_getElem_cons hk, hc', List.findIdx_cons]
  cases P c <;> rfl
theorem find_end {P : UInt8 → Bool} {l : List UInt8} {k : Nat} (hc : l[k]? = none) : (l.drop k).findIdx P = 0 := by
  rw [List.drop_of_length_le (List.getElem?_eq_none_iff.1 hc)]
  rfl
theorem find_le (P : UInt8 → Bool) (s : ByteArray) (n : Nat) (hn : n ≤ s.size) : n + (s.data.toList.drop n).findIdx P ≤ s.size := by
  have := idx_le P (s.data.toList.drop n)
  rw [List.length_drop, lsize] at this
  omega

set_option maxRecDepth 100000 in
set_option maxHeartbeats 4000000 in
theorem skipAll_hid (R : Nat) (s L U : ByteArray) (n : Nat) (h : U.data.toList = (s.data.toList.drop n).take ((s.data.toList.drop n).findIdx (gapL L.data.toList))) (hn : n ≤ s.size) (hs : s.size ≤ 1000000000) : Hid (∀ W p bv tv fv, RX W R s n p bv tv fv → Calls Tryz.prog 63 #[.pointer (some ⟨R, 0, none⟩), .string L] W fun e w' => e = .returned (.string U) ∧ RX w' R s (n + (s.data.toList.drop n).findIdx (gapL L.data.toList)) p bv tv fv ∧ Kp (onR R) W w') := Lib.hid fun w p bv tv fv x => by
  have hle := find_le (gapL L.data.toList) s n hn
  have g := slice_ty Tryz.underlying60 s U n (n + (s.data.toList.drop n).findIdx (gapL L.data.toList)) (by omega) hle (by rw [h]; congr 1; omega)
  obtain ⟨m, hm⟩ : ∃ m, n + (s.data.toList.drop n).findIdx (gapL L.data.toList) = m := ⟨_, rfl⟩
  rw [hm] at g hle ⊢
  have HM := Lib.hid hm
  have d1 := x.c1
  clear h hm
  go_enter Tryz.func63, Tryz.ntmps63
  go_wp2
  clear d1
  go_loopw [] (fun wr => ∃ k : Nat, n ≤ k ∧ k ≤ s.size ∧ RX wr R s k p bv tv fv ∧ Kp (onR R) w wr ∧ Hid (m = k + (s.data.toList.drop k).findIdx (gapL L.data.toList))) (fun wr => s.size - posOf R wr)
  case atStart => exact ⟨n, Nat.le_refl _, hn, x, Kp.refl _ _, Lib.hid HM.out.symm⟩
  case round =>
    obtain ⟨k, hnk, hk, xr, kr, HF⟩ := hrel
    clear x
    have hpos := Lib.hid xr.pos
    have d0 := xr.c0
    have d1 := xr.c1
    have f1 := xr.free 1
    cases hc : s.data.toList[k]? with
    | some c =>
      have hks := get_some hc
      cases ho : oneOf L.data.toList c with
      | true =>
        have CO := isOneOf_hid s L k true (by rw [hc]; exact ho)
        have HF2 : Hid (m = (k + 1) + (s.data.toList.drop (k + 1)).findIdx (gapL L.data.toList)) := Lib.hid (by
          rw [HF.out, find_step hc, show gapL L.data.toList c = false by unfold gapL; rw [ho]; rfl]
          simp only [Bool.false_eq_true, if_false]
          omega)
        have z1 : (k : Int) ≤ 1000000000 := by omega
        have z0 : (0 : Int) ≤ (k : Int) := by omega
        have HXX := Lib.hid fun nq => RX.set1 (w := wr.drewN nq) xr (k + 1)
        have HKK := Lib.hid fun nq => RX.kset' (w := wr.drewN nq) (R := R) (s := s) (n := k) (p := p) (bv := bv) (tv := tv) (fv := fv) xr (kr.trans (Kp.of_below (belowN (Below.refl _ _) nq))) 1 (.int .i64 ((k + 1 : Nat) : Int))
        rw [show (((k + 1 : Nat)) : Int) = (k : Int) + 1 by push_cast; rfl] at HXX HKK
        clear hc ho HF
        go_wp2
        go_quiet ((go_at_call 91; exact Calls.quiet_of_same (CO.out _)))
        go_wp2
        go_roundw
        case rel => exact ⟨k + 1, by omega, by omega, HXX.out _, HKK.out _, HF2⟩
        case measure =>
          rw [RX.pos (HXX.out _), hpos.out]
          omega
      | false =>
        have CO := isOneOf_hid s L k false (by rw [hc]; exact ho)
        have HE : Hid (m = k) := Lib.hid (by
          rw [HF.out, find_step hc, show gapL L.data.toList c = true by unfold gapL; rw [ho]; rfl]
          simp)
        have HXX := Lib.hid fun nq => (show RX (wr.drewN nq) R s k p bv tv fv from xr)
        clear hc ho HF
        obtain rfl := HE.out
        clear HE
        go_wp2
        go_quiet ((go_at_call 91; exact Calls.quiet_of_same (CO.out _)))
        go_wp2
        go_quiet (fail)
        go_wp2
        go_ret
        exact ⟨rfl, xr, kr.trans (Kp.of_below (belowN (belowN (Below.refl _ _) _) _))⟩
    | none =>
      have hks := get_none hc
      have CO := isOneOf_hid s L k false (by rw [hc]; rfl)
      have HE : Hid (m = k) := Lib.hid (by rw [HF.out, find_end hc]; rfl)
      clear hc HF
      obtain rfl := HE.out
      clear HE
      go_wp2
      go_quiet ((go_at_call 91; exact Calls.quiet_of_same (CO.out _)))
      go_wp2
      go_quiet (fail)
      go_wp2
      go_ret
      exact ⟨rfl, xr, kr.trans (Kp.of_below (belowN (belowN (Below.refl _ _) _) _))⟩

set_option maxRecDepth 100000 in
set_option maxHeartbeats 4000000 in
theorem takeUntil_hid (R : Nat) (s L U : ByteArray) (n : Nat) (h : U.data.toList = (s.data.toList.drop n).take ((s.data.toList.drop n).findIdx (oneOf L.data.toList))) (hn : n ≤ s.size) (hs : s.size ≤ 1000000000) : Hid (∀ W p bv tv fv, RX W R s n p bv tv fv → Calls Tryz.prog 62 #[.pointer (some ⟨R, 0, none⟩), .string L] W fun e w' => e = .returned (.string U) ∧ RX w' R s (n + (s.data.toList.drop n).findIdx (oneOf L.data.toList)) p bv tv fv ∧ Kp (onR R) W w') := Lib.hid fun w p bv tv fv x => by
  have hle := find_le (oneOf L.data.toList) s n hn
  have CT := take_hid R s U n _ h hle hs
  obtain ⟨m, hm⟩ : ∃ m, (s.data.toList.drop n).findIdx (oneOf L.data.toList) = m := ⟨_, rfl⟩
  rw [hm] at CT hle ⊢
  have HM := Lib.hid hm
  have d0 := x.c0
  have d1 := x.c1
  clear h hm
  go_enter Tryz.func62, Tryz.ntmps62
  go_wp2
  go_loop [5] (fun i => ∃ k : Nat, i = .int .i64 (k : Int) ∧ n ≤ k ∧ k ≤ s.size ∧ Hid (n + m = k + (s.data.toList.drop k).findIdx (oneOf L.data.toList))) (fun i => s.size - (intOf i).toNat)
  case atStart => exact ⟨n, rfl, Nat.le_refl _, hn, Lib.hid (by rw [HM.out])⟩
  case round =>
    obtain ⟨k, rfl, hnk, hk, HF⟩ := hrel
    cases hc : s.data.toList[k]? with
    | some c =>
      have hks := get_some hc
      have z1 : (k : Int) < (s.size : Int) := by omega
      cases ho : oneOf L.data.toList c with
      | false =>
        have CO := isOneOf_hid s L k false (by rw [hc]; exact ho)
        have HF2 : Hid (n + m = (k + 1) + (s.data.toList.drop (k + 1)).findIdx (oneOf L.data.toList)) := Lib.hid (by
          rw [HF.out, find_step hc, ho]
          simp only [Bool.false_eq_true, if_false]
          omega)
        clear hc ho HF
        go_wp2_with fail
        (with_reducible refine (CO.out _).mono ?_)
        rintro e w' ⟨rfl, rfl⟩
        go_wp2
        go_round
        case rel => exact ⟨k + 1, by go_num, by omega, by omega, HF2⟩
        case measure => simp [intOf]; omega
      | true =>
        have CO := isOneOf_hid s L k true (by rw [hc]; exact ho)
        have HE : n + m = k := by
          rw [HF.out, find_step hc, ho]
          simp
        have z2 : (k : Int) - (n : Int) = (m : Int) := by omega
        clear hc ho HF HE
        go_wp2_with fail
        (with_reducible refine (CO.out _).mono ?_)
        rintro e w' ⟨rfl, rfl⟩
        go_wp2_with fail
        (with_reducible refine (CT.out _ _ _ _ _ x).mono ?_)
        rintro e w1 ⟨rfl, x1, k1⟩
        go_wp2
        go_ret
        exact ⟨rfl, x1, k1⟩
    | none =>
      have hks := get_none hc
      have z1 : ¬ (k : Int) < (s.size : Int) := by omega
      have HE : n + m = k := by rw [HF.out, find_end hc]; rfl
      have z2 : (k : Int) - (n : Int) = (m : Int) := by omega
      clear hc HF HE
      go_wp2_with fail
      (with_reducible refine (CT.out _ _ _ _ _ x).mono ?_)
      rintro e w1 ⟨rfl, x1, k1⟩
      go_wp2
      go_ret
      exact ⟨rfl, x1, k1⟩

theorem index_hid (U z : ByteArray) (i : Int) (h : Lib.index U.data.toList z.data.toList = i) (hU : U.size ≤ 1000000000) : Hid (∀ W, MaxIn W → Calls Tryz.prog 73 #[.string U, .string z] W fun e w' => e = .returned (.int .i64 i) ∧ w' = W) := Lib.hid fun W hm => by
  obtain ⟨m, hm⟩ := hm
  have := Tryz.strings_Index U z m W (by omega) hm
  rw [h] at this
  exact this
theorem kp_below {R : Nat} {w w' : World} (b : Below w.heap.size w w') : Kp (onR R) w w' := Kp.of_below b

set_option maxRecDepth 100000 in
/-- A sign that is there: what is ahead of it is taken, it is left out. -/
theorem through_yes (R : Nat) (s z U : ByteArray) (n m : Nat) (hf : findT z.data.toList (s.data.toList.drop n) = some m) (h : U.data.toList = (s.data.toList.drop n).take m) (hn : n ≤ s.size) (hz : low z.data.toList = z.data.toList) (hs : s.size ≤ 1000000000) : Hid (∀ W p bv tv fv, MaxIn W → RX W R s n p bv tv fv → Calls Tryz.prog 71 #[.pointer (some ⟨R, 0, none⟩), .string z] W fun e w' => e = .returned (.tuple #[.string U, .bool true]) ∧ RX w' R s (n + m + z.size) p bv tv fv ∧ Kp (onR R) W w') := Lib.hid fun w p bv tv fv hm x => by
  obtain ⟨Lf, hLf⟩ := text_of (s.data.toList.drop n)
  have hle := findT_le _ _ _ hf
  rw [List.length_drop, lsize, lsize] at hle
  have CL := left_hid R s Lf n hLf hn
  have CI := index_hid Lf z (m : Int) (by rw [hLf, index_find, hf]) (by rw [← lsize, hLf, List.length_drop, lsize]; omega)
  have CT := take_hid R s U n m h (by omega) hs
  have CS := skip_hid R s z (n + m) true (by
    unfold beginsM
    rw [← List.drop_drop]
    have hp := find_at _ _ _ hf
    rw [List.isPrefixOf_iff_prefix] at hp
    obtain ⟨r, hr⟩ := hp
    rw [← hr]
    simp [hz]) (by omega) hz hs (by omega)
  have z1 : (0 : Int) ≤ (m : Int) := by omega
  clear hf h hLf hz hle
  go_enter Tryz.func71, Tryz.ntmps71
  go_wp2_with fail
  (with_reducible refine (CL.out _ _ _ _ _ x).mono ?_)
  rintro e w1 ⟨rfl, b1⟩
  have x1 := x.below b1
  have hm1 := hm.below b1
  have k1 := kp_below (R := R) b1
  clear x hm b1
  go_wp2_with fail
  (with_reducible refine (CI.out _ hm1).mono ?_)
  rintro e w1 ⟨rfl, rfl⟩
  go_wp2_with fail
  (with_reducible refine (CT.out _ _ _ _ _ x1).mono ?_)
  rintro e w2 ⟨rfl, x2, k2⟩
  have k3 := k1.trans k2
  clear x1 k1 k2
  go_wp2_with fail
  (with_reducible refine (CS.out _ _ _ _ _ x2).mono ?_)
  rintro e w4 ⟨rfl, x4, k4⟩
  have k5 := k3.trans k4
  clear x2 k3 k4
  go_wp2
  go_ret2
  exact ⟨rfl, x4, k5⟩
set_option maxRecDepth 100000 in
/-- A sign that is not there: all that is left is taken. -/
theorem through_no (R : Nat) (s z U : ByteArray) (n : Nat) (hf : findT z.data.toList (s.data.toList.drop n) = none) (h : U.data.toList = s.data.toList.drop n) (hn : n ≤ s.size) (hs : s.size ≤ 1000000000) : Hid (∀ W p bv tv fv, MaxIn W → RX W R s n p bv tv fv → Calls Tryz.prog 71 #[.pointer (some ⟨R, 0, none⟩), .string z] W fun e w' => e = .returned (.tuple #[.string U, .bool false]) ∧ RX w' R s s.size p bv tv fv ∧ Kp (onR R) W w') := Lib.hid fun w p bv tv fv hm x => by
  have CL := left_hid R s U n h hn
  have hUs : U.size = s.size - n := by rw [← lsize, h, List.length_drop, lsize]
  have CI := index_hid U z (-1) (by rw [h, index_find, hf]) (by omega)
  have CT := take_hid R s U n (s.size - n) (by rw [h, List.take_of_length_le]; rw [List.length_drop, lsize]; omega) (by omega) hs
  rw [← hUs, show n + U.size = s.size by omega] at CT
  clear hf h hUs
  go_enter Tryz.func71, Tryz.ntmps71
  go_wp2_with fail
  (with_reducible refine (CL.out _ _ _ _ _ x).mono ?_)
  rintro e w1 ⟨rfl, b1⟩
  have x1 := x.below b1
  have hm1 := hm.below b1
  have k1 := kp_below (R := R) b1
  clear x hm b1
  go_wp2_with fail
  (with_reducible refine (CI.out _ hm1).mono ?_)
  rintro e w1 ⟨rfl, rfl⟩
  go_wp2_with fail
  (with_reducible refine (CL.out _ _ _ _ _ x1).mono ?_)
  rintro e w2 ⟨rfl, b2⟩
  have x2 := x1.below b2
  have k2 := k1.trans (kp_below (R := R) b2)
  clear x1 k1 b2 hm1
  go_wp2_with fail
  (with_reducible refine (CT.out _ _ _ _ _ x2).mono ?_)
  rintro e w3 ⟨rfl, x3, k3⟩
  have k4 := k2.trans k3
  clear x2 k2 k3
  go_wp2
  go_ret2
  exact ⟨rfl, x3, k4⟩

end Go.Proofs.YtfbhpmafjehojaaGreatDoor
