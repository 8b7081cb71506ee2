/- The program's reader: text, comments and doctypes, a raw name's text. -/
import Derived.Test.YtfbhpmafjehojaaGreatDoorToH
import Derived.Test.YtfbhpmafjehojaaGreatDoorTokF
namespace Go.Proofs.YtfbhpmafjehojaaGreatDoor
open Go.RowKit

theorem liesR : liesAt Tryz.prog Tryz.prog.depth 67 (6 / Tryz.prog.cellsOf 67) 2 65 1 = true := by kernel_rfl
section
variable {w w' : World} {B m R : Nat} {s : ByteArray} {n : Nat} {H : List UInt8} {T : List Tk} {F : List Fl} {v0 : Value} {F0 : List Fl} {p bv tv fv : Value}
theorem RV.wrote (h : RV w B m R s n H T F v0 F0 p bv tv fv) {H' : List UInt8} {p' bv' : Value} (k : Kp (wrB B R) w w') (x : RX w' R s n p' bv' tv fv) (hp : p' = .pointer none ∨ p' = .pointer (some ⟨R, 2, none⟩)) (hb : w'.ownsRow B 5 1 bv' H'.length (Lib.byteCells H')) (hn : H' = [] → bv' = .slice none 0 0) : RV w' B m R s n H' T F v0 F0 p' bv' tv fv := by
  have ne : ∀ {base size n : Nat} {e : TypeId} {v : Value} {xs : List Value}, w.ownsRow base e size v n xs → 67 ≠ e → 5 ≠ e → ∀ j, v.ownBlock = some j → ¬ wrB B R j e := fun r h1 h2 j hj e => by
    rcases e with e | e
    · exact row_ne r h.x h1 (by rw [hj, e])
    · exact h2 e.2.symm
  have gen : ∀ {T : List Tk} {cs : List Value}, TRow w B m T cs → TRow w' B m T cs := by
    intro T
    induction T with
    | nil => intro cs h; exact h
    | cons u T ih =>
      rintro cs ⟨bv, r, e1, e2, e3⟩
      exact ⟨bv, r, e1, ⟨k.row e2.1 fun j hj _ => ne e2.1 (by decide) (by decide) j hj, e2.2⟩, ih e3⟩
  obtain ⟨cs, t1, t2, t3⟩ := h.ht
  exact ⟨x, hp, hb, hn, ⟨cs, k.row t1 fun j hj _ => ne t1 (by decide) (by decide) j hj, t2, gen t3⟩, k.row h.hf fun j hj _ => ne h.hf (by decide) (by decide) j hj, k.row h.h0 fun j hj _ => ne h.h0 (by decide) (by decide) j hj, h.h1, h.lo, h.hi, Nat.le_trans h.mw k.size, h.low.on (k.below (fun j t e => by
    rcases e with rfl | e
    · exact h.lo
    · exact e.1) h.bw)⟩
theorem RS.moved (h : RS w B m R s n H T F v0 F0) : ∃ p bv tv fv, RX w R s n p bv tv fv ∧ ∀ w' n', RX w' R s n' p bv tv fv → Kp (onR R) w w' → RS w' B m R s n' H T F v0 F0 := by
  obtain ⟨p, bv, tv, fv, h⟩ := h
  exact ⟨p, bv, tv, fv, h.x, fun w' n' x k => ⟨p, bv, tv, fv, h.moved x k⟩⟩
theorem RS.lo (h : RS w B m R s n H T F v0 F0) : B ≤ R := by obtain ⟨p, bv, tv, fv, h⟩ := h; exact h.lo
theorem RS.hi (h : RS w B m R s n H T F v0 F0) : R < m := by obtain ⟨p, bv, tv, fv, h⟩ := h; exact h.hi
theorem RS.mw (h : RS w B m R s n H T F v0 F0) : m ≤ w.heap.size := by obtain ⟨p, bv, tv, fv, h⟩ := h; exact h.mw
theorem RS.onb (h : RS w B m R s n H T F v0 F0) (k : Kp (onR R) w w') : Below B w w' := k.below (fun j t e => by rw [show j = R from e]; exact h.lo) h.bw
theorem RS.frb (h : RS w B m R s n H T F v0 F0) (k : Kp (frD B R) w w') : Below B w w' := k.below (fun j t e => by
  rcases e with rfl | e
  · exact h.lo
  · exact e.1) h.bw
theorem RS.wrb (h : RS w B m R s n H T F v0 F0) (k : Kp (wrB B R) w w') : Below B w w' := k.below (fun j t e => by
  rcases e with rfl | e
  · exact h.lo
  · exact e.1) h.bw
end
set_option maxRecDepth 100000 in
theorem hold_hid (D : ByteArray) : Hid (∀ W B m R s n H T F v0 F0, RS W B m R s n H T F v0 F0 → H.length + D.size ≤ 1000000 → Calls Tryz.prog 50 #[.pointer (some ⟨R, 2, none⟩), .string D] W fun e w' => e = .returned (.tuple #[.int .i64 D.size, .nilIface]) ∧ RS w' B m R s n (H ++ D.data.toList) T F v0 F0 ∧ Kp (wrB B R) W w') := Lib.hid fun w B m R s n H T F v0 F0 h hl => by
  obtain ⟨p, bv, tv, fv, h⟩ := h
  refine (write_any B R 2 H _ _ p bv D w h.bd h.bw (by decide) (by omega) liesR).mono ?_
  rintro e w' ⟨rfl, bv', bd, k⟩
  exact ⟨rfl, ⟨_, bv', tv, fv, h.wrote k bd.blk (.inr rfl) bd.row bd.nil⟩, k⟩

set_option maxRecDepth 100000 in
set_option maxHeartbeats 4000000 in
theorem readText_hid (s P D : ByteArray) (n k : Nat) (q : List Nat) (hn : n < s.size) (hk : k = 1 + ((s.data.toList.drop n).drop 1).findIdx (· == 60)) (hP : P.data.toList = (s.data.toList.drop n).take k) (h : decT 0 P.data.toList = (D.data.toList, q)) (hs : s.size ≤ 20000) : Hid (∀ W B m R H T F v0 F0, RS W B m R s n H T F v0 F0 → F.length ≤ 500000 → H.length ≤ 500000 → Calls Tryz.prog 41 #[.pointer (some ⟨R, 0, none⟩)] W fun e w' => e = .returned (.tuple #[]) ∧ RS w' B m R s (n + k) (H ++ D.data.toList) T (F ++ failM n q) v0 F0 ∧ Below B W w') := Lib.hid fun w B m R H T F v0 F0 hr hF hH => by
  obtain ⟨Lf, hLf⟩ := text_of (s.data.toList.drop n)
  obtain ⟨L1, hL1⟩ := text_of ((s.data.toList.drop n).drop 1)
  have hLs : Lf.size = s.size - n := by rw [← lsize, hLf, List.length_drop, lsize]
  have hL1s : L1.size = s.size - n - 1 := by rw [← lsize, hL1, List.length_drop, List.length_drop, lsize]
  have CL := left_hid R s Lf n hLf (by omega)
  have s1 := slice_from_ty Tryz.underlying9 Lf L1 1 (by omega) (by rw [hL1, hLf])
  rw [show (((1 : Nat)) : Int) = 1 from rfl] at s1
  have hfi := List.findIdx_le_length (p := (· == (60 : UInt8))) (xs := (s.data.toList.drop n).drop 1)
  have hfi2 : (s.data.toList.drop n).drop 1 = L1.data.toList := hL1.symm
  rw [hfi2] at hfi hk
  rw [lsize, hL1s] at hfi
  have hkl : n + k ≤ s.size := by omega
  have hPs : P.size = k := by rw [← lsize, hP, List.length_take, List.length_drop, lsize]; omega
  have CT := take_hid R s P n k hP hkl (by omega)
  have CD := decoded_hid P D q n h (by omega) (by omega)
  have hDs : D.size ≤ 20000 := by
    have := (decT_len 0 P.data.toList).1
    rw [h, lsize, lsize] at this
    omega
  have CH := hold_hid D
  obtain ⟨pp, bv, tv, fv, hx⟩ := hr
  have hbw := hx.bw
  have hlo := hx.lo
  have CI := index_hid L1 ⟨#[60]⟩ (if L1.data.toList.findIdx (· == 60) < L1.data.toList.length then ((L1.data.toList.findIdx (· == 60) : Nat) : Int) else -1) (by
    rw [index_find, show (⟨#[60]⟩ : ByteArray).data.toList = [60] from rfl, find_single]
    by_cases hq : L1.data.toList.findIdx (· == 60) < L1.data.toList.length
    · rw [if_pos hq, if_pos hq]
    · rw [if_neg hq, if_neg hq]) (by omega)
  have d1 := hx.x.c1
  by_cases hfound : L1.data.toList.findIdx (· == 60) < L1.data.toList.length
  · rw [if_pos hfound] at CI
    have z1 : ((L1.data.toList.findIdx (· == 60) : Nat) : Int) + 1 = (k : Int) := by omega
    have z2 : ((k : Int) == 0) = false := by rw [beq_eq_false_iff_ne]; omega
    obtain ⟨j, hj⟩ : ∃ j, L1.data.toList.findIdx (· == 60) = j := ⟨_, rfl⟩
    rw [hj] at CI z1
    have z3 : (j : Int) ≤ 20000 := by omega
    have z4 : (0 : Int) ≤ (j : Int) := by omega
    have HX := Lib.hid hx
    clear hfound hj hk hfi hfi2 hL1 hLf h hP hx hLs hL1s
    go_enter Tryz.func41, Tryz.ntmps41
    go_wp2_with fail
    (with_reducible refine (CL.out _ _ _ _ _ HX.out.x).mono ?_)
    rintro e w1 ⟨rfl, b1⟩
    have HX1 := Lib.hid (HX.out.below b1)
    have hm1 := HX1.out.low.low.m
    have k1 : Below B w w1 := b1.mono hbw
    clear d1
    go_wp2_with fail
    (with_reducible refine (CI.out _ hm1).mono ?_)
    rintro e w1 ⟨rfl, rfl⟩
    clear hm1 b1
    go_wp2_with fail
    have xd_w1 : RX w1.drew R s n pp bv tv fv := HX1.out.x
    go_region_law (first
      | (go_simp
         go_at_call 70
         (with_reducible refine (CT.out _ _ _ _ _ xd_w1).mono ?_)
         rintro e w2 ⟨rfl, x2, k2⟩
         have k2' : Kp (onR R) w1 w2 := (Kp.refl _ w1).drew.trans k2
         have HX2 := Lib.hid (HX1.out.moved x2 k2').form
         have K2 := Lib.hid (k1.trans (HX1.out.form.onb k2'))
         clear k2 k2' x2)
      | (go_simp
         go_at_call 75
         (with_reducible refine (CD.out _ _ _ _ _ _ _ _ _ _ _ HX2.out hF).mono ?_)
         rintro e w3 ⟨rfl, h3, k3⟩
         have HX3 := Lib.hid h3
         have K3 := Lib.hid (K2.out.trans (HX2.out.frb k3))
         clear h3 k3)
      | (go_simp
         go_at_call 50
         (with_reducible refine (CH.out _ _ _ _ _ _ _ _ _ _ _ HX3.out (by omega)).mono ?_)
         rintro e w4 ⟨rfl, h4, k4⟩
         have HX4 := Lib.hid h4
         have K4 := Lib.hid (K3.out.trans (HX3.out.wrb k4))
         clear h4 k4))
    all_goals
      go_wp2
      go_end0
      exact ⟨rfl, HX4.out, K4.out⟩
  · rw [if_neg hfound] at CI
    have hLk : Lf.size = k := by
      rw [lsize] at hfound
      omega
    have z1 : (Lf.size : Int) = (k : Int) := by omega
    have HX := Lib.hid hx
    clear hfound hk hfi hfi2 hL1 hLf h hP hx hLs hL1s hLk
    go_enter Tryz.func41, Tryz.ntmps41
    go_wp2_with fail
    (with_reducible refine (CL.out _ _ _ _ _ HX.out.x).mono ?_)
    rintro e w1 ⟨rfl, b1⟩
    have HX1 := Lib.hid (HX.out.below b1)
    have hm1 := HX1.out.low.low.m
    have k1 : Below B w w1 := b1.mono hbw
    clear d1
    go_wp2_with fail
    (with_reducible refine (CI.out _ hm1).mono ?_)
    rintro e w1 ⟨rfl, rfl⟩
    clear hm1 b1
    go_wp2_with fail
    (with_reducible refine (CL.out _ _ _ _ _ HX1.out.x).mono ?_)
    rintro e w5 ⟨rfl, b5⟩
    have HX1 := Lib.hid (HX1.out.below b5)
    have k1 : Below B w w5 := k1.trans (b5.mono (Nat.le_trans hbw k1.size))
    clear b5
    go_wp2_with fail
    have xd_w5 : RX w5.drew R s n pp bv tv fv := HX1.out.x
    go_region_law (first
      | (go_simp
         go_at_call 70
         (with_reducible refine (CT.out _ _ _ _ _ xd_w5).mono ?_)
         rintro e w2 ⟨rfl, x2, k2⟩
         have k2' : Kp (onR R) w5 w2 := (Kp.refl _ w5).drew.trans k2
         have HX2 := Lib.hid (HX1.out.moved x2 k2').form
         have K2 := Lib.hid (k1.trans (HX1.out.form.onb k2'))
         clear k2 k2' x2)
      | (go_simp
         go_at_call 75
         (with_reducible refine (CD.out _ _ _ _ _ _ _ _ _ _ _ HX2.out hF).mono ?_)
         rintro e w3 ⟨rfl, h3, k3⟩
         have HX3 := Lib.hid h3
         have K3 := Lib.hid (K2.out.trans (HX2.out.frb k3))
         clear h3 k3)
      | (go_simp
         go_at_call 50
         (with_reducible refine (CH.out _ _ _ _ _ _ _ _ _ _ _ HX3.out (by omega)).mono ?_)
         rintro e w4 ⟨rfl, h4, k4⟩
         have HX4 := Lib.hid h4
         have K4 := Lib.hid (K3.out.trans (HX3.out.wrb k4))
         clear h4 k4))
    all_goals
      go_wp2
      go_end0
      exact ⟨rfl, HX4.out, K4.out⟩

end Go.Proofs.YtfbhpmafjehojaaGreatDoor
