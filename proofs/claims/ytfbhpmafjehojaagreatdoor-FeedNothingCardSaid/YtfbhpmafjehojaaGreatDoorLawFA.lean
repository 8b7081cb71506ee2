/- The laws' own: the document's rows. -/
import Derived.Test.YtfbhpmafjehojaaGreatDoorFdE
import Derived.Test.YtfbhpmafjehojaaGreatDoorToE
namespace Go.Proofs.YtfbhpmafjehojaaGreatDoor.U1
open Go.RowKit

theorem RdIn.tok {w : World} {B : Nat} {s : List UInt8} {tv fv : Value} (h : RdIn w B s tv fv) : TokIn w tv (readM s).1 ∧ FailIn w fv (readM s).2 := by
  obtain ⟨C, m, h0, h1, h2⟩ := h
  exact ⟨TokIn.of h1, FailIn.of h2⟩
theorem attrs_fewU (s : List UInt8) (hs : s.length ≤ 20000) : (readM s).1.length ≤ 100000000 ∧ (∀ t ∈ (readM s).1, t.a.length ≤ 100000000) ∧ (readM s).2.length ≤ 100000000 := by
  have hb := read_bound s
  have hl := wL_len (readM s).1
  refine ⟨by omega, fun t ht => ?_, by omega⟩
  have h1 := wL_mem ht
  have h2 := wA_len t.a
  unfold wT at h1
  omega
def part1 : List UInt8 := [60, 115, 99, 114]
def part2 : List UInt8 := [105, 112, 116, 62, 97]
def part3 : List UInt8 := [60, 47, 115, 99, 114, 105, 112, 116, 62]
def rowsF : List Tk := [⟨2, scriptN, [], [], false⟩, textT [97], ⟨3, scriptN, [], [], false⟩]
theorem readF1 : readM (dec (part1 ++ part2 ++ part3)) = (rowsF, []) := by kernel_rfl
theorem readF2 : readM (dec [195, 164]) = ([textT [195, 164]], []) := by kernel_rfl
theorem alB (w : World) (o : Obj) : Below w.heap.size w (w.alloc o) := (Below.refl _ _).alloc (Nat.le_refl _) _
theorem ltB {w : World} {R : Nat} (h : R < w.heap.size) (o : Obj) : R < (w.alloc o).heap.size := Nat.lt_of_lt_of_le h (alB w o).size
theorem partsLen : (((part1 ++ part2 ++ part3).length : Nat) : Int) = 18 := rfl

set_option maxRecDepth 100000 in
set_option maxHeartbeats 8000000 in
theorem feeds_hid (w0 : World) (h0 : Lw w0) : Hid (∀ W, Below w0.heap.size w0 W → Calls Tryz.prog 11 #[] W fun e w' => e = .returned (.bool true) ∧ Below W.heap.size W w') := Lib.hid fun w hb0 => by
  have kc := fun (w : World) (C : Array Value) (n c : Nat) => Lib.run_convert_bytes_const (P := Tryz.prog) w 22 5 C n c Tryz.underlying22 Tryz.underlying5
  have hw : Lw w := h0.below hb0
  have CN := newF_hid
  have CF := feedF_hid
  have CC := count_hid
  have CE := endF_hid w hw
  have CW := whole_hid [195, 164] (by decide)
  have CS := sameG_hid rowsF (by decide) (by decide)
  have CS2 := sameG_hid [textT [195, 164]] (by decide) (by decide)
  have HW : Hid (∀ w', Below w.heap.size w w' → Lw w') := Lib.hid fun w' b => hw.below b
  clear hb0 hw h0
  go_enter Tryz.func11, Tryz.ntmps11
  go_wp2_with fail
  (with_reducible refine (CN.out _).mono ?_)
  rintro e w1 ⟨rfl, p1, p2⟩
  obtain ⟨R, hR⟩ : ∃ R, R = w.heap.size := ⟨_, rfl⟩
  rw [← hR] at p1
  rw [← hR]
  have H1 := Lib.hid (And.intro p1 (And.intro p2 (show w.heap.size ≤ R by omega)))
  clear p1 p2 hR CN
  go_wp2_with fail
  (refine (CF.out _ R [] part1 _ (H1.out.1.below (alB w1 _)) (bytesIn_new w1 part1 _ rfl 4 rfl _) (by decide) (HW.out _ (H1.out.2.1.trans ((alB w1 _).mono H1.out.2.1.size))).2).mono ?_)
  rintro e w2 ⟨rfl, k2, f2⟩
  have H2 := Lib.hid (And.intro f2 (And.intro (kpR_below k2 H1.out.2.2 (ltB H1.out.1.lt _) (H1.out.2.1.trans ((alB w1 _).mono H1.out.2.1.size))) H1.out.2.2))
  clear k2 f2 H1
  go_wp2_with fail
  (refine (CF.out _ R ([] ++ part1) part2 _ (H2.out.1.below (alB w2 _)) (bytesIn_new w2 part2 _ rfl 5 rfl _) (by decide) (HW.out _ (H2.out.2.1.trans ((alB w2 _).mono H2.out.2.1.size))).2).mono ?_)
  rintro e w3 ⟨rfl, k3, f3⟩
  have H3 := Lib.hid (And.intro f3 (And.intro (kpR_below k3 H2.out.2.2 (ltB H2.out.1.lt _) (H2.out.2.1.trans ((alB w2 _).mono H2.out.2.1.size))) H2.out.2.2))
  clear k3 f3 H2
  go_wp2_with fail
  (refine (CF.out _ R ([] ++ part1 ++ part2) part3 _ (H3.out.1.below (alB w3 _)) (bytesIn_new w3 part3 _ rfl 9 rfl _) (by decide) (HW.out _ (H3.out.2.1.trans ((alB w3 _).mono H3.out.2.1.size))).2).mono ?_)
  rintro e w4 ⟨rfl, k4, f4⟩
  have H4 : Hid (FdAt w4 R (part1 ++ part2 ++ part3) ∧ Below w.heap.size w w4 ∧ w.heap.size ≤ R) := Lib.hid (And.intro f4 (And.intro (kpR_below k4 H3.out.2.2 (ltB H3.out.1.lt _) (H3.out.2.1.trans ((alB w3 _).mono H3.out.2.1.size))) H3.out.2.2))
  clear k4 f4 H3 CF
  go_wp2_with fail
  (refine (CC.out _ R _ H4.out.1).mono ?_)
  rintro e w5 ⟨rfl, rfl⟩
  rw [partsLen]
  go_wp2_with fail
  (refine (CE.out _ R _ H4.out.2.1 H4.out.2.2 H4.out.1 (by decide)).mono ?_)
  rintro e w6 ⟨tv, fv, rfl, r6, k6, f6⟩
  obtain ⟨⟨ta, tc, rfl⟩, ⟨fa, fc, rfl⟩⟩ := r6.form
  have H6 := Lib.hid (And.intro r6.tok (And.intro f6 (And.intro (kpR_below k6 H4.out.2.2 H4.out.1.lt H4.out.2.1) H4.out.2.2)))
  rw [readF1] at H6 ⊢
  clear r6 k6 f6 H4 CE
  go_wp2_with fail
  (refine (CW.out _ _ (bytesIn_new w6 [195, 164] _ rfl 2 rfl _) (HW.out _ (H6.out.2.2.1.trans ((alB w6 _).mono H6.out.2.2.1.size)))).mono ?_)
  rintro e w7 ⟨tv, fv, rfl, r7, b7⟩
  have b7 := (alB w6 _).trans (b7.mono (alB w6 _).size)
  obtain ⟨⟨ua, uc, rfl⟩, ⟨ga, gc, rfl⟩⟩ := r7.form
  have H7 := Lib.hid (And.intro (H6.out.1.1.below b7) (And.intro r7.tok.1 (And.intro (H6.out.2.1.below b7) (H6.out.2.2.1.trans (b7.mono H6.out.2.2.1.size)))))
  rw [readF2] at H7 ⊢
  clear r7 b7 H6 CW
  obtain ⟨q1, q2⟩ := laid1 w7 #[.int .i64 2, .string ⟨#[115, 99, 114, 105, 112, 116]⟩, .string ⟨#[]⟩, .slice none 0 0, .bool false, .int .i64 1, .string ⟨#[]⟩, .string ⟨#[97]⟩, .slice none 0 0, .bool false, .int .i64 3, .string ⟨#[115, 99, 114, 105, 112, 116]⟩, .string ⟨#[]⟩, .slice none 0 0, .bool false] rowsF (TkCs.plain _ _ _ _ (TkCs.plain _ _ _ _ (TkCs.plain _ _ _ _ (TkCs.none _)))) 3 rfl
  have H8 := Lib.hid (And.intro (H7.out.1.below q2) (And.intro (H7.out.2.1.below q2) (And.intro (H7.out.2.2.1.below q2) (And.intro q1 (H7.out.2.2.2.trans (q2.mono H7.out.2.2.2.size))))))
  clear q1 q2 H7
  go_wp2_with fail
  (refine (CS.out _ _ _ H8.out.1 H8.out.2.2.2.1).mono ?_)
  rintro e w9 ⟨rfl, b9⟩
  have H9 := Lib.hid (And.intro (H8.out.2.1.below b9) (And.intro (H8.out.2.2.1.below b9) (H8.out.2.2.2.2.trans (b9.mono H8.out.2.2.2.2.size))))
  clear b9 H8 CS
  go_wp2_with fail
  (refine (CC.out _ R _ H9.out.2.1).mono ?_)
  rintro e w10 ⟨rfl, rfl⟩
  rw [show ((([] : List UInt8).length : Nat) : Int) = 0 from rfl]
  obtain ⟨q1, q2⟩ := laid1 w10 #[.int .i64 1, .string ⟨#[]⟩, .string ⟨#[195, 164]⟩, .slice none 0 0, .bool false] [textT [195, 164]] (TkCs.plain _ _ _ _ (TkCs.none _)) 1 rfl
  have H11 := Lib.hid (And.intro (H9.out.1.below q2) (And.intro q1 (H9.out.2.2.trans (q2.mono H9.out.2.2.size))))
  clear q1 q2 H9 CC
  go_wp2_with fail
  (refine (CS2.out _ _ _ H11.out.1 H11.out.2.1).mono ?_)
  rintro e w12 ⟨rfl, b12⟩
  have H12 := Lib.hid (H11.out.2.2.trans (b12.mono H11.out.2.2.size))
  clear b12 H11 CS2
  go_wp2
  go_ret
  exact ⟨rfl, H12.out⟩

end Go.Proofs.YtfbhpmafjehojaaGreatDoor.U1
