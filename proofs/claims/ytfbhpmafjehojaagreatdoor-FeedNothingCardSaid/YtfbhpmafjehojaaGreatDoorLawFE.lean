/- The law FeedNothing. -/
import Derived.Test.YtfbhpmafjehojaaGreatDoorLawFA
namespace Go.Proofs.YtfbhpmafjehojaaGreatDoor.U1
open Go.RowKit

theorem two_rows {w : World} {base : Nat} {v : Value} {l k : List UInt8} (h : w.ownsRow base 5 1 v (l.length + k.length) (Lib.byteCells l ++ Lib.byteCells k)) : BytesIn w v (l ++ k) := by
  apply BytesIn.of_row (base := base)
  rw [List.length_append, byteCells_append]
  exact h
/-- How FeedNothing ends: both are told, and nothing. -/
theorem readNil {w : World} {B : Nat} {tv fv : Value} (h : RdIn w B (dec []) tv fv) : (∃ a c, tv = .slice a 0 c) ∧ ∃ a c, fv = .slice a 0 c := h.form

set_option maxRecDepth 100000 in
set_option maxHeartbeats 8000000 in
theorem nothing_main (l k : List UInt8) (u v : Value) (x : Nat) (w : World) (hu : BytesIn w u l) (hv : BytesIn w v k) (hw : Lw w) (hl : l.length ≤ 2000) (hk : k.length ≤ 2000) (hx : x ≤ 20) :
    Calls Tryz.prog 8 #[u, v, .int .i64 (x : Int)] w fun e w' => e = .returned (.bool true) ∧ Below w.heap.size w w' := by
  obtain ⟨ua, uc, rfl⟩ := hu.form
  obtain ⟨va, vc, rfl⟩ := hv.form
  have z1 : ¬ (2000 : Int) < (l.length : Int) := by omega
  have z2 : ¬ (2000 : Int) < (k.length : Int) := by omega
  have z3 : ¬ (x : Int) < 0 := by omega
  have z4 : ¬ (20 : Int) < (x : Int) := by omega
  have hlk : (l ++ k).length ≤ 4000 := by rw [List.length_append]; omega
  obtain ⟨a1, a2, a3⟩ := attrs_fewU (dec (l ++ k)) (by have := dec_len (l ++ k); omega)
  have CS := sameG_hid _ a1 a2
  have CG := failsG_hid _ a3
  have CL := feeds_hid w hw
  have CN := newF_hid
  have CF := feedF_hid
  have CC := count_hid
  have CE := endF_hid w hw
  have CW := whole_hid (l ++ k) (by omega)
  have HW : Hid (∀ w', Below w.heap.size w w' → Lw w') := Lib.hid fun w' b => hw.below b
  have HU := Lib.hid (And.intro hu hv)
  have HL := Lib.hid (And.intro hl hk)
  clear hw hu hv hl hk hlk a1 a2 a3
  go_enter Tryz.func8, Tryz.ntmps8
  go_wp2_with fail
  (with_reducible refine (CN.out _).mono ?_)
  rintro e w1 ⟨rfl, p1, p2⟩
  obtain ⟨R, hR⟩ : ∃ R, R = w.heap.size := ⟨_, rfl⟩
  rw [← hR] at p1
  rw [← hR]
  have H1 := Lib.hid (And.intro p1 (And.intro p2 (show w.heap.size ≤ R by omega)))
  clear p1 p2 hR CN
  go_wp2_with fail
  (refine (CF.out _ R [] l _ H1.out.1 (HU.out.1.below H1.out.2.1) (by have := HL.out; simp; omega) (HW.out _ H1.out.2.1).2).mono ?_)
  rintro e w2 ⟨rfl, k2, f2⟩
  have H2 : Hid (FdAt w2 R l ∧ Below w.heap.size w w2 ∧ w.heap.size ≤ R) := Lib.hid (And.intro f2 (And.intro (kpR_below k2 H1.out.2.2 H1.out.1.lt H1.out.2.1) H1.out.2.2))
  clear k2 f2 H1
  go_wp2
  go_loopw [9] (fun i wr => ∃ j : Nat, i = .int .i64 j ∧ j ≤ x ∧ Hid (FdAt wr R l ∧ Below w.heap.size w wr ∧ w.heap.size ≤ R)) (fun i _ => x - (intOf i).toNat)
  case atStart => exact ⟨0, rfl, Nat.zero_le _, H2⟩
  case round =>
    clear H2
    obtain ⟨j, rfl, hj, HR⟩ := hrel
    by_cases hlt : j < x
    · have z5 : (j : Int) < (x : Int) := by omega
      go_wp2_with fail
      (refine (CF.out _ R l [] _ HR.out.1 (.inl ⟨⟨_, _, rfl⟩, rfl⟩) (by have := HL.out; simp; omega) (HW.out _ HR.out.2.1).2).mono ?_)
      rintro e w3 ⟨rfl, k3, f3⟩
      rw [List.append_nil] at f3
      have H3 := Lib.hid (And.intro f3 (And.intro (kpR_below k3 HR.out.2.2 HR.out.1.lt HR.out.2.1) HR.out.2.2))
      clear k3 f3 HR
      go_wp2_with fail
      (refine (CC.out _ R _ H3.out.1).mono ?_)
      rintro e w4 ⟨rfl, rfl⟩
      go_wp2
      go_roundw
      case rel => exact ⟨j + 1, by go_num, by omega, H3⟩
      case measure => simp [intOf]; omega
    · have z5 : ¬ (j : Int) < (x : Int) := by omega
      go_wp2_with fail
      (refine (CF.out _ R l k _ HR.out.1 (HU.out.2.below HR.out.2.1) (by have := HL.out; omega) (HW.out _ HR.out.2.1).2).mono ?_)
      rintro e w3 ⟨rfl, k3, f3⟩
      have H3 := Lib.hid (And.intro f3 (And.intro (kpR_below k3 HR.out.2.2 HR.out.1.lt HR.out.2.1) HR.out.2.2))
      clear k3 f3 HR CF
      go_wp2_with fail
      (refine (CE.out _ R _ H3.out.2.1 H3.out.2.2 H3.out.1 (by have := HL.out; rw [List.length_append]; omega)).mono ?_)
      rintro e w4 ⟨tv, fv, rfl, r4, k4, f4⟩
      obtain ⟨⟨ta, tc, rfl⟩, ⟨fa, fc, rfl⟩⟩ := r4.form
      have H4 := Lib.hid (And.intro (And.intro r4 (H3.out.1.lt)) (And.intro f4 (And.intro (kpR_below k4 H3.out.2.2 H3.out.1.lt H3.out.2.1) H3.out.2.2)))
      clear r4 k4 f4
      have H4B : Hid (w4.heap.size ≤ w4.heap.size) := Lib.hid (Nat.le_refl _)
      go_wp2_with (first
        | (at_builtin; refine wpList_append_in22 rfl _ _ rfl w4.heap.size _ 0 [] rfl (World.ownsRow_nil w4 w4.heap.size 5 1) _ l rfl (HU.out.1.below H4.out.2.2.1) (by have := HL.out; omega) H4B.out ?_; intro v5 w5 hown5 hgrow5
           rw [Nat.zero_add, List.nil_append] at hown5
           have B5 : Below w4.heap.size w4 w5 := Below.grown (Below.refl _ _) hgrow5 (Nat.le_refl _) (fun j hj => by cases hj)
           have H5 := Lib.hid (And.intro hown5 B5)
           obtain ⟨a5, c5, rfl⟩ := (BytesIn.of_row hown5).form
           clear hgrow5 hown5 B5)
        | (at_builtin; refine wpList_append_in22 rfl _ _ rfl w4.heap.size _ l.length (Lib.byteCells l) rfl H5.out.1 _ k rfl (HU.out.2.below (H4.out.2.2.1.trans (H5.out.2.mono H4.out.2.2.1.size))) (by have := HL.out; omega) H5.out.2.size ?_; intro v6 w6 hown6 hgrow6
           have B6 : Below w4.heap.size w4 w6 := Below.grown H5.out.2 hgrow6 H5.out.2.size (fun j hj => (H5.out.1.lt j hj).1)
           have H6 := Lib.hid (And.intro (two_rows hown6) B6)
           obtain ⟨a6, c6, e6⟩ := H6.out.1.form
           rw [List.length_append] at e6
           subst e6
           clear hgrow6 hown6 B6 H5)
        | (go_at_call 9; (with_reducible refine (CW.out _ _ H6.out.1 (HW.out _ (H4.out.2.2.1.trans (H6.out.2.mono H4.out.2.2.1.size)))).mono ?_); (rintro e w7 ⟨tv, fv, rfl, r7, b7⟩)
           obtain ⟨⟨va, vc, rfl⟩, ⟨ga, gc, rfl⟩⟩ := r7.form
           have b7 := H6.out.2.trans (b7.mono H6.out.2.size)
           have H7 : Hid ((RdIn w7 w3.heap.size (dec (l ++ k)) (.slice ta (readM (dec (l ++ k))).fst.length tc) (.slice fa (readM (dec (l ++ k))).snd.length fc) ∧ RdIn w7 w6.heap.size (dec (l ++ k)) (.slice va (readM (dec (l ++ k))).fst.length vc) (.slice ga (readM (dec (l ++ k))).snd.length gc)) ∧ FdAt w7 R [] ∧ Below w.heap.size w w7 ∧ w.heap.size ≤ R ∧ R < w3.heap.size ∧ R < w6.heap.size) :=
             Lib.hid ⟨⟨H4.out.1.1.below b7, r7⟩, H4.out.2.1.below b7, H4.out.2.2.1.trans (b7.mono H4.out.2.2.1.size), H4.out.2.2.2, H4.out.1.2, Nat.lt_of_lt_of_le H4.out.2.1.lt H6.out.2.size⟩
           clear r7 b7 H6 H4 H4B CW)
        | (go_at_call 17; with_reducible refine (CE.out _ R _ H7.out.2.2.1 H7.out.2.2.2.1 H7.out.2.1 (Nat.zero_le _)).mono ?_; rintro e w8 ⟨tv, fv, rfl, r8, k8, f8⟩
           obtain ⟨⟨xa, xc, rfl⟩, ⟨ya, yc, rfl⟩⟩ := readNil r8
           clear r8
           have H8 := Lib.hid (And.intro (H7.out.1.1.kpR k8 H7.out.2.2.2.2.1).tok (And.intro (H7.out.1.2.kpR k8 H7.out.2.2.2.2.2).tok (kpR_below k8 H7.out.2.2.2.1 H7.out.2.1.lt H7.out.2.2.1)))
           clear k8 f8 H7 CE)
        | (go_at_call 11; with_reducible refine (CL.out _ H8.out.2.2).mono ?_; rintro e w9 ⟨rfl, b9⟩
           have H9 := Lib.hid (And.intro (H8.out.1.1.below b9) (And.intro (H8.out.2.1.1.below b9) (And.intro (H8.out.1.2.below b9) (And.intro (H8.out.2.1.2.below b9) (H8.out.2.2.trans (b9.mono H8.out.2.2.size))))))
           clear b9 H8 CL)
        | (go_at_call 12; with_reducible refine (CS.out _ _ _ H9.out.1 H9.out.2.1).mono ?_; rintro e w10 ⟨rfl, b10⟩
           have H10 := Lib.hid (And.intro (H9.out.2.2.1.below b10) (And.intro (H9.out.2.2.2.1.below b10) (H9.out.2.2.2.2.trans (b10.mono H9.out.2.2.2.2.size))))
           clear b10 H9 CS)
        | (go_at_call 13; with_reducible refine (CG.out _ _ _ H10.out.1 H10.out.2.1).mono ?_; rintro e w11 ⟨rfl, b11⟩
           have H11 := Lib.hid (H10.out.2.2.trans (b11.mono H10.out.2.2.size))
           clear b11 H10 CG))
      go_ret
      exact ⟨rfl, H11.out⟩

set_option maxRecDepth 100000 in
set_option maxHeartbeats 4000000 in
theorem nothing_law (l k : List UInt8) (u v : Value) (x : Int) (w : World) (hu : BytesIn w u l) (hv : BytesIn w v k) (hw : Lw w) :
    Calls Tryz.prog 8 #[u, v, .int .i64 x] w fun e w' => e = .returned (.bool true) ∧ Below w.heap.size w w' := by
  by_cases h : (l.length ≤ 2000 ∧ k.length ≤ 2000) ∧ 0 ≤ x ∧ x ≤ 20
  · obtain ⟨y, rfl⟩ : ∃ y : Nat, x = (y : Int) := ⟨x.toNat, by omega⟩
    exact nothing_main l k u v y w hu hv hw h.1.1 h.1.2 (by omega)
  · obtain ⟨ua, uc, rfl⟩ := hu.form
    obtain ⟨va, vc, rfl⟩ := hv.form
    clear hw hu hv
    by_cases a1 : l.length ≤ 2000
    · have z1 : ¬ (2000 : Int) < (l.length : Int) := by omega
      by_cases a2 : k.length ≤ 2000
      · have z2 : ¬ (2000 : Int) < (k.length : Int) := by omega
        by_cases a3 : x < 0
        · clear h a1 a2
          go_enter Tryz.func8, Tryz.ntmps8
          go_wp2
          go_ret
          exact ⟨rfl, Below.refl _ _⟩
        · have a4 : 20 < x := by omega
          clear h a1 a2
          go_enter Tryz.func8, Tryz.ntmps8
          go_wp2
          go_ret
          exact ⟨rfl, Below.refl _ _⟩
      · have z2 : (2000 : Int) < (k.length : Int) := by omega
        clear h a1 a2
        go_enter Tryz.func8, Tryz.ntmps8
        go_wp2
        go_ret
        exact ⟨rfl, Below.refl _ _⟩
    · have z1 : (2000 : Int) < (l.length : Int) := by omega
      clear h a1
      go_enter Tryz.func8, Tryz.ntmps8
      go_wp2
      go_ret
      exact ⟨rfl, Below.refl _ _⟩

end Go.Proofs.YtfbhpmafjehojaaGreatDoor.U1
