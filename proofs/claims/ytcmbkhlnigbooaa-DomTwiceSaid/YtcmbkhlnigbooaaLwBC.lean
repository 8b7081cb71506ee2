/- Plain mathematics of documents as nodes (no program in this text): the document's example. The law's own example: two. The law's own: what the document's example shows. -/
import Derived.Test.YtcmbkhlnigbooaaLwAF
namespace Go.Proofs.Ytcmbkhlnigbooaa.Dm

def ndB : Nd := { k := 2, n := [98], d := [], a := [], p := 0, c := [], b := false, s := false }
def ndX : Nd := { k := 3, n := [], d := [120], a := [], p := 0, c := [], b := false, s := false }
def docA : List Nd := makeM newM ndB
def docB : List Nd := makeM docA ndX
def docC : List Nd := putM docB 0 1
def docD : List Nd := putM docC 1 2
theorem chk0 : checkM newM = 0 := by decide
theorem chkA : checkM docA = 0 := by decide
theorem chkB : checkM docB = 0 := by decide
theorem chkC : checkM docC = 0 := by decide
theorem chkD : checkM docD = 0 := by decide
theorem exA : makeR newM ndB = (docA, 1, 0) := make_ok chk0 (by decide) (by decide) (by decide)
theorem exB : makeR docA ndX = (docB, 2, 0) := make_ok chkA (by decide) (by decide) (by decide)
theorem exC : putR docB 0 1 = (docC, 0) := putR_ok (q := 0) (n := 1) chkB ⟨by decide, by decide, by decide, by decide, by decide⟩ (by decide)
theorem exD : putR docC 1 2 = (docD, 0) := putR_ok (q := 1) (n := 2) chkC ⟨by decide, by decide, by decide, by decide, by decide⟩ (by decide)
theorem exE : putR docD 2 1 = ([], 170) := putR_e2 chkD (fun h => by have := h.2.2.2.2; revert this; decide)
theorem exF : putR docD 1 1 = ([], 172) := putR_e3 (q := 1) (n := 1) chkD ⟨by decide, by decide, by decide, by decide, by decide⟩ (by decide)
theorem exG : cutR docD 1 = (cutM docD 1, 0) := cutR_ok (m := 1) chkD (by decide) (by decide)
theorem exH : setR docD 1 [105, 100] [118] = (setM docD 1 [105, 100] [118], 0) := setR_ok (n := 1) chkD (by decide) (by decide) (.inr (by decide))
theorem exI : attrM (setM docD 1 [105, 100] [118]) 1 [105, 100] = some [118] := by decide
theorem exJ : belowM docD 0 = [0, 1, 2] := by decide
theorem exK : textsM docD 0 = [120] := by decide
theorem exL : (thereM docD 2 && upM docD 0 (2 : Int).toNat) = true := by decide
theorem exM : (thereM (cutM docD 1) 2 && upM (cutM docD 1) 0 (2 : Int).toNat) = false := by decide
theorem exN : checkM [] = 171 := by decide

end Go.Proofs.Ytcmbkhlnigbooaa.Dm

namespace Go.Proofs.Ytcmbkhlnigbooaa.Dm
open Go.RowKit

theorem fit_docA : FitD docA := by unfold FitD FitN; decide
theorem fit_docB : FitD docB := by unfold FitD FitN; decide
theorem fit_docC : FitD docC := by unfold FitD FitN; decide
theorem fit_docD : FitD docD := by unfold FitD FitN; decide
theorem fit_docG : FitD (cutM docD 1) := by unfold FitD FitN; decide
theorem fit_docH : FitD (setM docD 1 [105, 100] [118]) := by unfold FitD FitN; decide
theorem fit_ndB : FitN ndB := by unfold FitN; decide
theorem fit_ndX : FitN ndX := by unfold FitN; decide
set_option maxRecDepth 100000 in
set_option maxHeartbeats 40000000 in
theorem two_hid : Hid (∀ W, Calls Try.prog 48 #[] W fun e w' => ∃ a c, e = .returned (.tuple #[.agg #[.slice a docD.length c], .bool true]) ∧ OwnX w' W.heap.size (.slice a docD.length c) docD ∧ Below W.heap.size W w') := Lib.hid fun w => by
  have al1 := (Below.refl w.heap.size w).alloc (Nat.le_refl _) (.cells #[.slice none 0 0] 24)
  have x0 := new_block w (.cells #[.slice none 0 0] 24)
  generalize hw1 : w.alloc (.cells #[.slice none 0 0] 24) = w1 at al1 x0
  have H1 := Lib.hid (And.intro x0 al1)
  have CM1 := (gMake fit_new ndB fit_ndB).out
  have CM2 := (gMake fit_docA ndX fit_ndX).out
  have CP1 := (gPut fit_docB 0 1).out
  have CP2 := (gPut fit_docC 1 2).out
  rw [exA] at CM1
  rw [exB] at CM2
  rw [exC] at CP1
  rw [exD] at CP2
  unfold nodeV ndB at CM1
  unfold nodeV ndX at CM2
  have hC1 := Lib.hid CM1
  have hC2 := Lib.hid CM2
  have hC3 := Lib.hid CP1
  have hC4 := Lib.hid CP2
  clear x0 al1 CM1 CM2 CP1 CP2
  go_enter Try.func48, Try.ntmps48
  go_wp2_with fail
  (refine (newP_hid.out _).mono ?_)
  rintro e w2 ⟨sl2, rfl, o2, b2⟩
  obtain ⟨a2, c2, rfl⟩ := o2.form
  have H2 := Lib.hid (And.intro ((b2.block _ (lt_of_block H1.out.1)).trans H1.out.1) (H1.out.2.trans (b2.mono H1.out.2.size)))
  have G2 := Lib.hid o2.g
  clear o2 b2 H1 hw1
  go_wp2_with fail
  (refine (hC1.out _ _ _ _ G2.out (AtIn.nil _ none 0) (IntIn.nil _ none 0)).mono ?_)
  rintro e w3 ⟨a3, c3, rfl, o3, b3⟩
  clear G2 hC1
  have H3' := And.intro ((b3.block _ (lt_of_block H2.out.1)).trans H2.out.1) (H2.out.2.trans (b3.mono H2.out.2.size))
  have al := (Below.refl w3.heap.size w3).alloc (Nat.le_refl _) (.cells #[.slice a3 docA.length c3] 24)
  have nb := new_block w3 (.cells #[.slice a3 docA.length c3] 24)
  have hsb := H2.out.2.size
  have H3 := Lib.hid (And.intro ((al.block _ (lt_of_block H3'.1)).trans H3'.1) (H3'.2.trans (al.mono H3'.2.size)))
  have G3 := Lib.hid ((o3.low hsb).below al)
  generalize hw3 : w3.alloc (.cells #[.slice a3 docA.length c3] 24) = W3 at al nb H3 G3
  have e3 := cell_of nb 0
  clear o3 b3 al nb H3' H2
  go_wp2_with fail
  (refine (hC2.out _ _ _ _ G3.out.g (AtIn.nil _ none 0) (IntIn.nil _ none 0)).mono ?_)
  rintro e w4 ⟨a4, c4, rfl, o4, b4⟩
  clear G3 hC2 hw3 e3
  have H4' := And.intro ((b4.block _ (lt_of_block H3.out.1)).trans H3.out.1) (H3.out.2.trans (b4.mono H3.out.2.size))
  have al := (Below.refl w4.heap.size w4).alloc (Nat.le_refl _) (.cells #[.slice a4 docB.length c4] 24)
  have nb := new_block w4 (.cells #[.slice a4 docB.length c4] 24)
  have hsb := H3.out.2.size
  have H4 := Lib.hid (And.intro ((al.block _ (lt_of_block H4'.1)).trans H4'.1) (H4'.2.trans (al.mono H4'.2.size)))
  have G4 := Lib.hid ((o4.low hsb).below al)
  generalize hw4 : w4.alloc (.cells #[.slice a4 docB.length c4] 24) = W4 at al nb H4 G4
  have e4 := cell_of nb 0
  clear o4 b4 al nb H4' H3
  go_wp2_with fail
  (refine (hC3.out _ _ G4.out.g).mono ?_)
  rintro e w5 ⟨a5, c5, rfl, o5, b5⟩
  clear G4 hC3 hw4 e4
  have H5' := And.intro ((b5.block _ (lt_of_block H4.out.1)).trans H4.out.1) (H4.out.2.trans (b5.mono H4.out.2.size))
  have al := (Below.refl w5.heap.size w5).alloc (Nat.le_refl _) (.cells #[.slice a5 docC.length c5] 24)
  have nb := new_block w5 (.cells #[.slice a5 docC.length c5] 24)
  have hsb := H4.out.2.size
  have H5 := Lib.hid (And.intro ((al.block _ (lt_of_block H5'.1)).trans H5'.1) (H5'.2.trans (al.mono H5'.2.size)))
  have G5 := Lib.hid ((o5.low hsb).below al)
  generalize hw5 : w5.alloc (.cells #[.slice a5 docC.length c5] 24) = W5 at al nb H5 G5
  have e5 := cell_of nb 0
  clear o5 b5 al nb H5' H4
  go_wp2_with fail
  (refine (hC4.out _ _ G5.out.g).mono ?_)
  rintro e w6 ⟨a6, c6, rfl, o6, b6⟩
  clear G5 hC4 hw5 e5
  have H6' := And.intro ((b6.block _ (lt_of_block H5.out.1)).trans H5.out.1) (H5.out.2.trans (b6.mono H5.out.2.size))
  have al := (Below.refl w6.heap.size w6).alloc (Nat.le_refl _) (.cells #[.slice a6 docD.length c6] 24)
  have nb := new_block w6 (.cells #[.slice a6 docD.length c6] 24)
  have hsb := H5.out.2.size
  have H6 := Lib.hid (And.intro ((al.block _ (lt_of_block H6'.1)).trans H6'.1) (H6'.2.trans (al.mono H6'.2.size)))
  have G6 := Lib.hid ((o6.low hsb).below al)
  generalize hw6 : w6.alloc (.cells #[.slice a6 docD.length c6] 24) = W6 at al nb H6 G6
  have e6 := cell_of nb 0
  have hlt6 := lt_of_block H6'.1
  clear o6 b6 al H6' H5
  have or_ := open_of H6.out.1 0
  have rr := cell_of H6.out.1 0
  have q2 := heap_setCell_same W6 w.heap.size 0 _ _ _ (.slice a6 docD.length c6) H6.out.1
  have HO : Hid (OwnX (W6.setCell ⟨w.heap.size, 0, none⟩ (.slice a6 docD.length c6)) w.heap.size (.slice a6 docD.length c6) docD ∧ (W6.setCell ⟨w.heap.size, 0, none⟩ (.slice a6 docD.length c6)).cell? ⟨w.heap.size, 0, none⟩ = some (.slice a6 docD.length c6) ∧ Below w.heap.size w (W6.setCell ⟨w.heap.size, 0, none⟩ (.slice a6 docD.length c6))) := Lib.hid ⟨G6.out.setDoc H6.out.1, by rw [cell_of q2]; rfl, H6.out.2.setCell (p := ⟨w.heap.size, 0, none⟩) (Nat.le_refl _) _⟩
  have nb7 := (Kp.of_set (j := 0) (P := fun j _ => j = w.heap.size) H6.out.1 (.slice a6 docD.length c6) rfl).cells nb (fun e => by have e1 : w6.heap.size = w.heap.size := e; omega)
  have e7 := cell_of nb7 0
  have hl3 : (docD.length : Int) = 3 := rfl
  clear q2 G6 H6 nb nb7 hlt6
  go_wp2_with fail
  clear hw6
  go_big_region
  all_goals
    have c0 : (W6.setCell ⟨w.heap.size, 0, none⟩ (.slice a6 docD.length c6)).drew.cell? ⟨w.heap.size, 0, none⟩ = some (.slice a6 docD.length c6) := HO.out.2.1
    go_wp2
    exact bodyPost_ret (v := .tuple #[.agg #[.slice a6 docD.length c6], .bool true]) (by simp [results, Try.results48, go_sem, c0]) rfl ⟨_, _, rfl, HO.out.1.below (Below.refl _ _).drew, HO.out.2.2.drew⟩

end Go.Proofs.Ytcmbkhlnigbooaa.Dm

namespace Go.Proofs.Ytcmbkhlnigbooaa.Dm
open Go.RowKit

theorem docG_nil (w : World) (a : Option Addr) (c : Nat) : DocG w (.slice a 0 c) [] := by
  refine ⟨fun _ => .bool true, fun _ => .bool true, ⟨⟨rfl, (fun _ h => by cases h), .inl ⟨⟨a, c, rfl⟩, rfl⟩⟩, fun i h => ?_, fun i h => ?_⟩, fun i h => ?_⟩ <;> exact absurd h (Nat.not_lt_zero _)
theorem lit_hid : Hid (∀ W v, IntIn W v (natsI [0, 1, 2]) → Calls Try.prog 18 #[v, .slice (some ⟨W.heap.size, 0, none⟩) 3 3] (W.alloc (.cells #[.int .i64 0, .int .i64 1, .int .i64 2] 3)) fun e w' => e = .returned (.bool true) ∧ Below W.heap.size W w') := Lib.hid fun W v h => by
  have al := (Below.refl W.heap.size W).alloc (Nat.le_refl _) (.cells #[.int .i64 0, .int .i64 1, .int .i64 2] 3)
  have nb := new_block W (.cells #[.int .i64 0, .int .i64 1, .int .i64 2] 3)
  have u2 : U1.IntsIn (W.alloc (.cells #[.int .i64 0, .int .i64 1, .int .i64 2] 3)) (.slice (some ⟨W.heap.size, 0, none⟩) 3 3) (natsI [0, 1, 2]) := .inr ⟨W.heap.size, 0, 3, rfl, fun j hj => by
    match j, hj with
    | 0, _ => exact cell_of nb 0
    | 1, _ => exact cell_of nb 1
    | 2, _ => exact cell_of nb 2⟩
  refine (U1.ints_any (natsI [0, 1, 2]) (natsI [0, 1, 2]) v _ _ (h.below al).u1 u2 (by decide) (by decide)).mono ?_
  rintro e w' ⟨he, n, hw⟩
  refine ⟨by rw [he]; unfold U1.eqL; rw [decide_eq_true rfl], ?_⟩
  rw [hw]
  exact belowN al n
set_option maxRecDepth 100000 in
set_option maxHeartbeats 8000000 in
theorem lays_hid : Hid (∀ W, Calls Try.prog 17 #[] W fun e w' => e = .returned (.bool true) ∧ Below W.heap.size W w') := Lib.hid fun w => by
  have HB := Lib.hid (Below.refl w.heap.size w)
  have CE := (gPut fit_docD 2 1).out
  have CF := (gPut fit_docD 1 1).out
  have CG := (gCut fit_docD 1).out
  have CH := (gSet fit_docD 1 ⟨#[105, 100]⟩ ⟨#[118]⟩).out
  have CI := (gAttr fit_docH 1 ⟨#[105, 100]⟩).out
  have CJ := (gBelow fit_docD 0).out
  have CK := (gText fit_docD 0).out
  have CL := (gIn fit_docD 2).out
  have CM := (gIn fit_docG 2).out
  have CN := (gCheck fit_nil).out
  rw [exE] at CE
  rw [exF] at CF
  rw [exG] at CG
  rw [show setR docD 1 (⟨#[105, 100]⟩ : ByteArray).data.toList (⟨#[118]⟩ : ByteArray).data.toList = (setM docD 1 [105, 100] [118], 0) from exH] at CH
  rw [show attrM (setM docD 1 [105, 100] [118]) 1 (⟨#[105, 100]⟩ : ByteArray).data.toList = some [118] from exI] at CI
  rw [exJ] at CJ
  rw [exK] at CK
  rw [exL] at CL
  rw [exM] at CM
  rw [exN] at CN
  replace CE := Lib.hid CE
  replace CF := Lib.hid CF
  replace CG := Lib.hid CG
  replace CH := Lib.hid CH
  replace CI := Lib.hid CI
  replace CJ := Lib.hid CJ
  replace CK := Lib.hid CK
  replace CL := Lib.hid CL
  replace CM := Lib.hid CM
  replace CN := Lib.hid CN
  go_enter Try.func17, Try.ntmps17
  go_wp2_with fail
  (refine (two_hid.out _).mono ?_)
  rintro e w2 ⟨a2, c2, rfl, o2, b2⟩
  replace HB := Lib.hid (HB.out.trans (b2.mono HB.out.size))
  clear b2
  have al := (Below.refl w2.heap.size w2).alloc (Nat.le_refl _) (.cells #[.slice a2 docD.length c2] 24)
  have ZD := Lib.hid (VD.new (OwnX.g o2))
  replace HB := Lib.hid (HB.out.trans (al.mono HB.out.size))
  generalize hW2 : w2.alloc (.cells #[.slice a2 docD.length c2] 24) = W2 at al ZD  HB
  clear al
  clear o2
  obtain ⟨aD, cD, xD, gD⟩ := ZD.out
  have eD := cell_of xD 0
  go_wp2_with fail
  (refine (CE.out _ _ gD).mono ?_)
  rintro e w3 ⟨a3, c3, rfl, o3, b3⟩
  clear xD gD eD
  replace ZD := Lib.hid (ZD.out.below b3)
  replace HB := Lib.hid (HB.out.trans (b3.mono HB.out.size))
  clear b3
  clear hW2 o3
  have al := (Below.refl w3.heap.size w3).alloc (Nat.le_refl _) (.cells #[.slice a3 0 c3] 24)
  replace ZD := Lib.hid (ZD.out.below al)
  replace HB := Lib.hid (HB.out.trans (al.mono HB.out.size))
  generalize hW3 : w3.alloc (.cells #[.slice a3 0 c3] 24) = W3 at al ZD HB
  clear al
  obtain ⟨aD, cD, xD, gD⟩ := ZD.out
  have eD := cell_of xD 0
  go_wp2_with fail
  (refine (CF.out _ _ gD).mono ?_)
  rintro e w4 ⟨a4, c4, rfl, o4, b4⟩
  clear xD gD eD
  replace ZD := Lib.hid (ZD.out.below b4)
  replace HB := Lib.hid (HB.out.trans (b4.mono HB.out.size))
  clear b4
  clear hW3 o4
  have al := (Below.refl w4.heap.size w4).alloc (Nat.le_refl _) (.cells #[.slice a4 0 c4] 24)
  replace ZD := Lib.hid (ZD.out.below al)
  replace HB := Lib.hid (HB.out.trans (al.mono HB.out.size))
  generalize hW4 : w4.alloc (.cells #[.slice a4 0 c4] 24) = W4 at al ZD HB
  clear al
  obtain ⟨aD, cD, xD, gD⟩ := ZD.out
  have eD := cell_of xD 0
  go_wp2_with fail
  (refine (CG.out _ _ gD).mono ?_)
  rintro e w5 ⟨a5, c5, rfl, o5, b5⟩
  clear xD gD eD
  replace ZD := Lib.hid (ZD.out.below b5)
  replace HB := Lib.hid (HB.out.trans (b5.mono HB.out.size))
  clear b5
  clear hW4
  have al := (Below.refl w5.heap.size w5).alloc (Nat.le_refl _) (.cells #[.slice a5 (cutM docD 1).length c5] 24)
  have ZG := Lib.hid (VD.new (OwnX.g o5))
  replace ZD := Lib.hid (ZD.out.below al)
  replace HB := Lib.hid (HB.out.trans (al.mono HB.out.size))
  generalize hW5 : w5.alloc (.cells #[.slice a5 (cutM docD 1).length c5] 24) = W5 at al ZG ZD HB
  clear al
  clear o5
  obtain ⟨aD, cD, xD, gD⟩ := ZD.out
  have eD := cell_of xD 0
  go_wp2_with fail
  (refine (CH.out _ _ gD).mono ?_)
  rintro e w6 ⟨a6, c6, rfl, o6, b6⟩
  clear xD gD eD
  replace ZD := Lib.hid (ZD.out.below b6)
  replace ZG := Lib.hid (ZG.out.below b6)
  replace HB := Lib.hid (HB.out.trans (b6.mono HB.out.size))
  clear b6
  clear hW5
  have al := (Below.refl w6.heap.size w6).alloc (Nat.le_refl _) (.cells #[.slice a6 (setM docD 1 [105, 100] [118]).length c6] 24)
  have ZH := Lib.hid (VD.new (OwnX.g o6))
  replace ZD := Lib.hid (ZD.out.below al)
  replace ZG := Lib.hid (ZG.out.below al)
  replace HB := Lib.hid (HB.out.trans (al.mono HB.out.size))
  generalize hW6 : w6.alloc (.cells #[.slice a6 (setM docD 1 [105, 100] [118]).length c6] 24) = W6 at al ZH ZD ZG HB
  clear al
  clear o6
  obtain ⟨aH, cH, xH, gH⟩ := ZH.out
  have eH := cell_of xH 0
  go_wp2_with fail
  (refine (CI.out _ _ gH).mono ?_)
  rintro e w7 ⟨rfl, b7⟩
  clear xH gH eH
  replace ZD := Lib.hid (ZD.out.below b7)
  replace ZG := Lib.hid (ZG.out.below b7)
  replace ZH := Lib.hid (ZH.out.below b7)
  replace HB := Lib.hid (HB.out.trans (b7.mono HB.out.size))
  clear b7
  clear hW6
  rw [show attrV (some [118]) = .tuple #[.string ⟨#[118]⟩, .bool true] from rfl]
  obtain ⟨aD, cD, xD, gD⟩ := ZD.out
  have eD := cell_of xD 0
  go_wp2_with fail
  (refine (CJ.out _ _ gD).mono ?_)
  rintro e w8 ⟨v8, rfl, o8, b8⟩
  clear xD gD eD
  replace ZD := Lib.hid (ZD.out.below b8)
  replace ZG := Lib.hid (ZG.out.below b8)
  replace ZH := Lib.hid (ZH.out.below b8)
  replace HB := Lib.hid (HB.out.trans (b8.mono HB.out.size))
  clear b8
  obtain ⟨aD, cD, xD, gD⟩ := ZD.out
  have eD := cell_of xD 0
  go_wp2_with fail
  (refine (lit_hid.out _ _ o8.in').mono ?_)
  rintro e w9 ⟨rfl, b9⟩
  clear xD gD eD
  replace ZD := Lib.hid (ZD.out.below b9)
  replace ZG := Lib.hid (ZG.out.below b9)
  replace ZH := Lib.hid (ZH.out.below b9)
  replace HB := Lib.hid (HB.out.trans (b9.mono HB.out.size))
  clear b9 o8
  obtain ⟨aD, cD, xD, gD⟩ := ZD.out
  have eD := cell_of xD 0
  go_wp2_with fail
  (refine (CK.out _ _ gD).mono ?_)
  rintro e w10 ⟨rfl, b10⟩
  clear xD gD eD
  replace ZD := Lib.hid (ZD.out.below b10)
  replace ZG := Lib.hid (ZG.out.below b10)
  replace ZH := Lib.hid (ZH.out.below b10)
  replace HB := Lib.hid (HB.out.trans (b10.mono HB.out.size))
  clear b10
  rw [show strV [120] = .string ⟨#[120]⟩ from rfl]
  obtain ⟨aD, cD, xD, gD⟩ := ZD.out
  have eD := cell_of xD 0
  go_wp2_with fail
  (refine (CL.out _ _ gD).mono ?_)
  rintro e w11 ⟨rfl, b11⟩
  clear xD gD eD
  replace ZD := Lib.hid (ZD.out.below b11)
  replace ZG := Lib.hid (ZG.out.below b11)
  replace ZH := Lib.hid (ZH.out.below b11)
  replace HB := Lib.hid (HB.out.trans (b11.mono HB.out.size))
  clear b11
  obtain ⟨aG, cG, xG, gG⟩ := ZG.out
  have eG := cell_of xG 0
  go_wp2_with fail
  (refine (CM.out _ _ gG).mono ?_)
  rintro e w12 ⟨rfl, b12⟩
  clear xG gG eG
  replace ZD := Lib.hid (ZD.out.below b12)
  replace ZG := Lib.hid (ZG.out.below b12)
  replace ZH := Lib.hid (ZH.out.below b12)
  replace HB := Lib.hid (HB.out.trans (b12.mono HB.out.size))
  clear b12
  go_wp2_with fail
  (refine (CN.out _ _ (docG_nil _ none 0)).mono ?_)
  rintro e w13 ⟨rfl, b13⟩
  replace ZD := Lib.hid (ZD.out.below b13)
  replace ZG := Lib.hid (ZG.out.below b13)
  replace ZH := Lib.hid (ZH.out.below b13)
  replace HB := Lib.hid (HB.out.trans (b13.mono HB.out.size))
  clear b13
  go_wp2_with fail
  exact bodyPost_ret (v := .bool true) (by simp [results, Try.results17, go_sem]) rfl ⟨rfl, HB.out⟩

end Go.Proofs.Ytcmbkhlnigbooaa.Dm
