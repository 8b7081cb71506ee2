/- The document's reader: an attribute. -/
import Derived.Test.YtfbhpmafjehojaaGreatDoorTokY
namespace Go.Proofs.YtfbhpmafjehojaaGreatDoor
open Go.RowKit

/-- The attribute's own block. -/
def AX (w : World) (Ab : Nat) (X V : ByteArray) : Prop := w.heap[Ab]? = some (.cells #[.string X, .string V] 105 (0, 0))
section
variable {w w' : World} {Ab : Nat} {X V : ByteArray}
theorem AX.kp {P : Nat → TypeId → Prop} (h : AX w Ab X V) (q : Kp P w w') (hn : ¬ P Ab 105) : AX w' Ab X V := q.cells h hn
theorem AX.below (h : AX w Ab X V) (b : Below w.heap.size w w') : AX w' Ab X V := h.kp (Kp.of_below b (P := fun _ _ => False)) fun e => e
theorem AX.c0 (h : AX w Ab X V) : w.cell? ⟨Ab, 0, none⟩ = some (.string X) := by rw [cell_of h]; rfl
theorem AX.c1 (h : AX w Ab X V) : w.cell? ⟨Ab, 1, none⟩ = some (.string V) := by rw [cell_of h]; rfl
theorem AX.free (h : AX w Ab X V) (j : Nat) : w.frozen? ⟨Ab, j, none⟩ = false := open_of h j
theorem AX.set1 (h : AX w Ab X V) (u : ByteArray) : AX (w.setCell ⟨Ab, 1, none⟩ (.string u)) Ab X u := by unfold AX at *; rw [heap_setCell_same _ _ _ _ _ _ _ h]; rfl
theorem AX.kset (h : AX w Ab X V) (j : Nat) (u : Value) : Kp (onR Ab) w (w.setCell ⟨Ab, j, none⟩ u) := Kp.of_set h u rfl
end
theorem TRow.side {w w' : World} {B m : Nat} {P : Nat → TypeId → Prop} (k : Kp P w w') (hp : ∀ j, j < m → ¬ P j 105) : ∀ {T : List Tk} {cs : List Value}, TRow w B m T cs → TRow w' B m T cs
  | [], _, h => h
  | _ :: _, _, ⟨av, r, h1, h2, h3⟩ => ⟨av, r, h1, ⟨k.row h2.1 fun j hj _ => hp j (h2.2 j hj), h2.2⟩, h3.side k hp⟩
theorem QS.side {w w' : World} {B m Q : Nat} {s : ByteArray} {n : Nat} {T : List Tk} {F : List Fl} {x : ByteArray} (h : QS w B m Q s n T F x) (k : Kp (frA m) w w') : QS w' B m Q s n T F x := by
  obtain ⟨tv, fv, h⟩ := h
  have hR := h.hi
  obtain ⟨cs, t1, t2, t3⟩ := h.ht
  refine ⟨tv, fv, h.q.kp k (fun e => by have := e.1; omega), ⟨cs, k.row t1 fun j hj _ e => ?_, t2, t3.side k fun j hj e => ?_⟩, k.row h.hf fun j hj _ e => ?_, h.lo, h.hi, Nat.le_trans h.mw k.size⟩
  · have := t2 j hj
    have := e.1
    omega
  · have := e.1
    omega
  · rcases e.2 with e | e <;> exact absurd e (by decide)
theorem QS.sideb {w w' : World} {B m Q : Nat} {s : ByteArray} {n : Nat} {T : List Tk} {F : List Fl} {x : ByteArray} (h : QS w B m Q s n T F x) (k : Kp (frA m) w w') : Below B w w' := k.below (fun j t e => by have := e.1; have := h.lo; have := h.hi; omega) h.bw
theorem QS.q {w : World} {B m Q : Nat} {s : ByteArray} {n : Nat} {T : List Tk} {F : List Fl} {x : ByteArray} (h : QS w B m Q s n T F x) : ∃ tv fv, QX w Q s n tv fv x := by obtain ⟨tv, fv, h⟩ := h; exact ⟨tv, fv, h.q⟩
/-- The attribute's own block turns: the tag stays. -/
theorem TA.apart {w w' : World} {m Tb Ab : Nat} {k : Int} {NM : ByteArray} {A : List (List UInt8 × List UInt8)} {c : Bool} {av : Value} (h : TA w m Tb k NM A c av) (q : Kp (fun j _ => j = Ab) w w') (h1 : Tb < Ab) (h2 : ∀ j, av.ownBlock = some j → j < Ab) : TA w' m Tb k NM A c av := ⟨h.1.kp q (fun e => by omega), q.row h.2.1 fun j hj _ e => by have := h2 j hj; omega, h.2.2⟩

set_option maxRecDepth 100000 in
set_option maxHeartbeats 16000000 in
theorem attrQ_142_eq (s X V U : ByteArray) (n e1 b z g : Nat) (A : List (List UInt8 × List UInt8)) (r : Option ((List UInt8 × List Fl) × Nat)) (he : 1 + ((s.data.toList.drop n).drop 1).findIdx attrE = e1) (hU : U.data.toList = (s.data.toList.drop n).take e1) (hX : X.data.toList = low U.data.toList) (hb : (s.data.toList.drop (n + e1)).findIdx blkE = b) (hq : s.data.toList[n + e1 + b]? = some 61) (hz : (s.data.toList.drop (n + e1 + b + 1)).findIdx blkE = z) (hg : n + e1 + b + 1 + z = g) (hr : valueM g (s.data.toList.drop g) = r) (hV : V.data.toList = outD r) (hr0 : refM A X.data.toList = 142) (hA : A.length ≤ 30) (hn : n < s.size) (hs : s.size ≤ 20000) : Hid (∀ W B m Q Tb NM c av n0 T F x, QS W B m Q s n0 T F x → TA W m Tb 2 NM A c av → F.length ≤ 300000 → Calls Tryz.prog 105 #[.pointer (some ⟨Q, 0, none⟩), .pointer (some ⟨Tb, 0, none⟩), .int .i64 (n : Int)] W fun en w' => en = .returned (.int .i64 (outV g r)) ∧ QS w' B m Q s n0 T ((F ++ [((142 : Int), n)]) ++ outF r) x ∧ (∃ av', TA w' m Tb 2 NM (A) c av') ∧ Below B W w') := Lib.hid fun w B m Q Tb NM c av n0 T F x h0 ht hF => by
  have hel := find_le attrE s (n + 1) (by omega)
  rw [show s.data.toList.drop (n + 1) = (s.data.toList.drop n).drop 1 by rw [List.drop_drop]] at hel
  have hel2 : n + e1 ≤ s.size := by omega
  have CU := upto_hid Q s ⟨#[9, 10, 12, 13, 32, 47, 62, 61]⟩ (n + 1) (by omega) (by omega) (by decide)
  rw [show (⟨#[9, 10, 12, 13, 32, 47, 62, 61]⟩ : ByteArray).data.toList = [9, 10, 12, 13, 32, 47, 62, 61] from rfl, inL_attr, show s.data.toList.drop (n + 1) = (s.data.toList.drop n).drop 1 by rw [List.drop_drop], show n + 1 + ((s.data.toList.drop n).drop 1).findIdx attrE = n + e1 by omega, show (((n + 1 : Nat)) : Int) = (n : Int) + 1 by push_cast; rfl] at CU
  have hUs : U.size ≤ 20000 := by rw [← lsize, hU, List.length_take, List.length_drop, lsize]; omega
  have CL := refLower_hid U X hX (by omega)
  obtain ⟨E, hE⟩ : ∃ E, n + e1 = E := ⟨_, rfl⟩
  have hnE : n ≤ E := by omega
  have g1 := slice_mid s U n E hnE (by omega) (by rw [hU]; congr 1; omega)
  have CB := blanksR_hid Q s E (by omega) (by omega)
  have hbl := find_le blkE s E (by omega)
  rw [hE] at CU hb hq hel2 hz hg
  rw [hb] at CB hbl
  obtain ⟨nx, hnx⟩ : ∃ nx, E + b = nx := ⟨_, rfl⟩
  rw [hnx] at CB hbl hq hz hg
  have z1 : (0 : Int) ≤ (n : Int) := by omega
  have z2 : (n : Int) ≤ 20000 := by omega
  have z3 : (0 : Int) ≤ (nx : Int) := by omega
  have z4 : (nx : Int) ≤ 20000 := by omega
  have z5 : (A.length : Int) ≤ 30 := by omega
  have hlt := get_some hq
  have z6 : (nx : Int) < (s.size : Int) := by omega
  have i0 := index_ty Tryz.underlying9 s nx 61 hq
  rw [show (((61 : UInt8).toNat : Nat) : Int) = 61 from rfl] at i0
  have CZ := blanksR_hid Q s (nx + 1) (by omega) (by omega)
  have hzl := find_le blkE s (nx + 1) (by omega)
  rw [hz, hg] at CZ
  rw [hz] at hzl
  rw [show (((nx + 1 : Nat)) : Int) = (nx : Int) + 1 by push_cast; rfl] at CZ
  have CV := valueQ_hid s V g (by omega) hs r hr hV
  obtain ⟨rv, hrv⟩ : ∃ rv, outV g r = rv := ⟨_, rfl⟩
  obtain ⟨vf, hvf⟩ : ∃ vf, outF r = vf := ⟨_, rfl⟩
  rw [hrv, hvf] at CV
  rw [hrv, hvf]
  clear hz hg hr hV hrv hvf hzl hlt
  have hany : A.any (fun y => y.1 == X.data.toList) = true := by
    unfold refM at hr0
    cases h : A.any (fun y => y.1 == X.data.toList) with
    | true => rfl
    | false =>
      rw [h, if_neg (by simp)] at hr0
      split at hr0 <;> cases hr0
  have CH := fun (NM : ByteArray) (c : Bool) (B m : Nat) (a : Option Addr) (cap : Nat) => hasQ_hid A X NM 2 c _ hany B m a cap (by omega)
  clear he hU hX hb hq hel hel2 hUs hE hnE hnx hbl hn hr0 hany
  obtain ⟨aa, ac, rfl⟩ : ∃ aa ac, av = .slice aa A.length ac := by
    rcases rowForms ht.2.1 with ⟨e1, e2⟩ | ⟨g, cc, e1⟩
    · exact ⟨none, 0, by rw [e1, e2]⟩
    · exact ⟨_, _, e1⟩
  have HAV : Hid (∀ j, (Value.slice aa A.length ac).ownBlock = some j → j < w.heap.size) := Lib.hid fun j hj => (ht.2.1.lt j hj).2
  have HTB : Hid (Tb < w.heap.size) := Lib.hid (lt_of_block ht.1)
  obtain ⟨tv, fv, hv⟩ := h0
  have hbw := hv.bw
  have hRm := hv.hi
  have hmw := hv.mw
  have d0 := hv.q.c0
  have HV := Lib.hid hv
  have HT := Lib.hid ht
  clear hv ht
  go_enter Tryz.func105, Tryz.ntmps105
  go_wp2_with fail
  (with_reducible refine (CU.out _ _ _ _ _ HV.out.q).mono ?_)
  rintro e w1 ⟨rfl, b1⟩
  have HV1 := Lib.hid (HV.out.below b1)
  have HT1 := Lib.hid (HT.out.below b1)
  have B1 := b1.mono hbw
  have S1 := b1.size
  clear b1 HV HT CU d0
  have d0 := HV1.out.q.c0
  go_wp2_with fail
  (with_reducible refine (CL.out _).mono ?_)
  rintro e w2 ⟨rfl, b2⟩
  have al := (Below.refl w2.heap.size w2).alloc (Nat.le_refl _) (.cells #[.string X, .string ⟨#[]⟩] 105)
  have HV3 := Lib.hid ((HV1.out.below b2).below al)
  have HT3 := Lib.hid ((HT1.out.below b2).below al)
  have HA3 : Hid (AX (w2.alloc (.cells #[.string X, .string ⟨#[]⟩] 105)) w2.heap.size X ⟨#[]⟩) := Lib.hid (new_block w2 _)
  have S2 : w.heap.size ≤ w2.heap.size := Nat.le_trans S1 b2.size
  have B3 := (B1.trans (b2.mono (Nat.le_trans hbw S1))).trans (al.mono (Nat.le_trans hbw S2))
  have HAB : Hid (m ≤ w2.heap.size ∧ w.heap.size ≤ w2.heap.size) := Lib.hid ⟨Nat.le_trans hmw S2, S2⟩
  have e0 := HT3.out.1.c0
  have e1' := HT3.out.1.c1
  have e2' := HT3.out.1.c2
  have e3 := HT3.out.1.c3
  have e4 := HT3.out.1.c4
  have a0 := HA3.out.c0
  have d0 := HV3.out.q.c0
  clear b2 al HV1 HT1 B1 CL S1 S2
  go_wp2_with fail
  generalize w2.alloc (.cells #[.string X, .string ⟨#[]⟩] 105) = w3 at HV3 HT3 HA3 B3 e0 e1' e2' e3 e4 a0 d0 ⊢
  generalize w2.heap.size = Ab at HA3 HAB a0 ⊢
  have har : AttrsBy w3 m w3.heap.size (.slice aa A.length ac) A := ⟨HT3.out.2.1, fun j hj => (HT3.out.2.1.lt j hj).2⟩
  have CH3 := Lib.hid ((CH NM c m w3.heap.size aa ac).out w3.drew (har.below (Below.refl _ _).drew))
  go_region_law (go_simp
                 go_at_call 127
                 (with_reducible refine CH3.out.mono ?_)
                 rintro e w4 ⟨rfl, b4⟩
                 have b5 : Below w3.heap.size w3 w4 := (Below.refl _ _).drew.trans b4
                 have HV4 := Lib.hid (HV3.out.below b5)
                 have HT4 := Lib.hid (HT3.out.below b5)
                 have HA4 := Lib.hid (HA3.out.below b5)
                 have B4 := B3.trans (b5.mono HV3.out.bw)
                 clear b4 b5)
  all_goals
    clear HV3 HT3 HA3 B3 e0 e1' e2' e3 e4 a0 d0 CH3 CH har
    go_wp2_with fail
    have CF := failQ_hid 142 n
    (with_reducible refine (CF.out _ _ _ _ _ _ _ _ _ HV4.out.form (by omega)).mono ?_)
    rintro e w5 ⟨rfl, h5, k5⟩
    have HV5 := Lib.hid h5
    have HT5 := Lib.hid (HT4.out.frD k5 hRm)
    have HA5 := Lib.hid (HA4.out.kp k5 (fun e => by
      have := HAB.out.1
      rcases e with e | e
      · omega
      · exact absurd e.2 (by decide)))
    have B5 := B4.trans (HV4.out.form.frb k5)
    clear h5 k5 HV4 HT4 HA4 B4 CF
    obtain ⟨tv5, fv5, q5⟩ := HV5.out.q
    have d0 := q5.c0
    go_wp2_with fail
    (with_reducible refine (CB.out _ _ _ _ _ q5).mono ?_)
    rintro e w5 ⟨rfl, rfl⟩
    go_wp2_with fail
    (with_reducible refine (CZ.out _ _ _ _ _ q5).mono ?_)
    rintro e w5 ⟨rfl, rfl⟩
    go_wp2_with fail
    (with_reducible refine (CV.out _ _ _ _ _ _ _ _ HV5.out (by rw [List.length_append]; simp; omega)).mono ?_)
    rintro e w6 ⟨rfl, h6, k6⟩
    have HA6 := Lib.hid (HA5.out.kp k6 (fun e => by
      have := HAB.out.1
      rcases e with e | e
      · omega
      · exact absurd e.2 (by decide)))
    have ha7 := HA6.out.set1 V
    have ks := HA6.out.kset 1 (.string V)
    have ks2 : Kp (frA m) w6 (w6.setCell ⟨Ab, 1, none⟩ (.string V)) := Kp.of_set HA6.out _ ⟨HAB.out.1, .inr rfl⟩
    have HV7 := Lib.hid (h6.side ks2)
    have ht6 := HT5.out.frD k6 hRm
    have HT7 := Lib.hid (ht6.apart ks (Nat.lt_of_lt_of_le HTB.out HAB.out.2) fun j hj => Nat.lt_of_lt_of_le (HAV.out j hj) HAB.out.2)
    have HA7 := Lib.hid ha7
    have B7 := (B5.trans (HV5.out.frb k6)).trans (h6.sideb ks2)
    have a1 := HA6.out.c1
    have f1 := HA6.out.free 1
    clear h6 k6 ha7 ks ks2 ht6 HV5 HT5 HA5 B5 HA6 q5 d0 CV CZ CB
    go_wp2
    go_ret
    exact ⟨rfl, HV7.out, ⟨_, HT7.out⟩, B7⟩

set_option maxRecDepth 100000 in
set_option maxHeartbeats 16000000 in
theorem attrQ_142_no (s X U : ByteArray) (n e1 b : Nat) (A : List (List UInt8 × List UInt8)) (he : 1 + ((s.data.toList.drop n).drop 1).findIdx attrE = e1) (hU : U.data.toList = (s.data.toList.drop n).take e1) (hX : X.data.toList = low U.data.toList) (hb : (s.data.toList.drop (n + e1)).findIdx blkE = b) (hq : s.data.toList[n + e1 + b]? = none) (hr0 : refM A X.data.toList = 142) (hA : A.length ≤ 30) (hn : n < s.size) (hs : s.size ≤ 20000) : Hid (∀ W B m Q Tb NM c av n0 T F x, QS W B m Q s n0 T F x → TA W m Tb 2 NM A c av → F.length ≤ 300000 → Calls Tryz.prog 105 #[.pointer (some ⟨Q, 0, none⟩), .pointer (some ⟨Tb, 0, none⟩), .int .i64 (n : Int)] W fun en w' => en = .returned (.int .i64 ((n + e1 : Nat) : Int)) ∧ QS w' B m Q s n0 T (F ++ [((142 : Int), n)]) x ∧ (∃ av', TA w' m Tb 2 NM (A) c av') ∧ Below B W w') := Lib.hid fun w B m Q Tb NM c av n0 T F x h0 ht hF => by
  have hel := find_le attrE s (n + 1) (by omega)
  rw [show s.data.toList.drop (n + 1) = (s.data.toList.drop n).drop 1 by rw [List.drop_drop]] at hel
  have hel2 : n + e1 ≤ s.size := by omega
  have CU := upto_hid Q s ⟨#[9, 10, 12, 13, 32, 47, 62, 61]⟩ (n + 1) (by omega) (by omega) (by decide)
  rw [show (⟨#[9, 10, 12, 13, 32, 47, 62, 61]⟩ : ByteArray).data.toList = [9, 10, 12, 13, 32, 47, 62, 61] from rfl, inL_attr, show s.data.toList.drop (n + 1) = (s.data.toList.drop n).drop 1 by rw [List.drop_drop], show n + 1 + ((s.data.toList.drop n).drop 1).findIdx attrE = n + e1 by omega, show (((n + 1 : Nat)) : Int) = (n : Int) + 1 by push_cast; rfl] at CU
  have hUs : U.size ≤ 20000 := by rw [← lsize, hU, List.length_take, List.length_drop, lsize]; omega
  have CL := refLower_hid U X hX (by omega)
  obtain ⟨E, hE⟩ : ∃ E, n + e1 = E := ⟨_, rfl⟩
  have hnE : n ≤ E := by omega
  have g1 := slice_mid s U n E hnE (by omega) (by rw [hU]; congr 1; omega)
  have CB := blanksR_hid Q s E (by omega) (by omega)
  have hbl := find_le blkE s E (by omega)
  rw [hE] at CU hb hq hel2 ⊢
  rw [hb] at CB hbl
  obtain ⟨nx, hnx⟩ : ∃ nx, E + b = nx := ⟨_, rfl⟩
  rw [hnx] at CB hbl hq
  have z1 : (0 : Int) ≤ (n : Int) := by omega
  have z2 : (n : Int) ≤ 20000 := by omega
  have z3 : (0 : Int) ≤ (nx : Int) := by omega
  have z4 : (nx : Int) ≤ 20000 := by omega
  have z5 : (A.length : Int) ≤ 30 := by omega
  have hlt := get_none hq
  have z6 : ¬ (nx : Int) < (s.size : Int) := by omega
  clear hlt
  have hany : A.any (fun y => y.1 == X.data.toList) = true := by
    unfold refM at hr0
    cases h : A.any (fun y => y.1 == X.data.toList) with
    | true => rfl
    | false =>
      rw [h, if_neg (by simp)] at hr0
      split at hr0 <;> cases hr0
  have CH := fun (NM : ByteArray) (c : Bool) (B m : Nat) (a : Option Addr) (cap : Nat) => hasQ_hid A X NM 2 c _ hany B m a cap (by omega)
  clear he hU hX hb hq hel hel2 hUs hE hnE hnx hbl hn hr0 hany
  obtain ⟨aa, ac, rfl⟩ : ∃ aa ac, av = .slice aa A.length ac := by
    rcases rowForms ht.2.1 with ⟨e1, e2⟩ | ⟨g, cc, e1⟩
    · exact ⟨none, 0, by rw [e1, e2]⟩
    · exact ⟨_, _, e1⟩
  have HAV : Hid (∀ j, (Value.slice aa A.length ac).ownBlock = some j → j < w.heap.size) := Lib.hid fun j hj => (ht.2.1.lt j hj).2
  have HTB : Hid (Tb < w.heap.size) := Lib.hid (lt_of_block ht.1)
  obtain ⟨tv, fv, hv⟩ := h0
  have hbw := hv.bw
  have hRm := hv.hi
  have hmw := hv.mw
  have d0 := hv.q.c0
  have HV := Lib.hid hv
  have HT := Lib.hid ht
  clear hv ht
  go_enter Tryz.func105, Tryz.ntmps105
  go_wp2_with fail
  (with_reducible refine (CU.out _ _ _ _ _ HV.out.q).mono ?_)
  rintro e w1 ⟨rfl, b1⟩
  have HV1 := Lib.hid (HV.out.below b1)
  have HT1 := Lib.hid (HT.out.below b1)
  have B1 := b1.mono hbw
  have S1 := b1.size
  clear b1 HV HT CU d0
  have d0 := HV1.out.q.c0
  go_wp2_with fail
  (with_reducible refine (CL.out _).mono ?_)
  rintro e w2 ⟨rfl, b2⟩
  have al := (Below.refl w2.heap.size w2).alloc (Nat.le_refl _) (.cells #[.string X, .string ⟨#[]⟩] 105)
  have HV3 := Lib.hid ((HV1.out.below b2).below al)
  have HT3 := Lib.hid ((HT1.out.below b2).below al)
  have HA3 : Hid (AX (w2.alloc (.cells #[.string X, .string ⟨#[]⟩] 105)) w2.heap.size X ⟨#[]⟩) := Lib.hid (new_block w2 _)
  have S2 : w.heap.size ≤ w2.heap.size := Nat.le_trans S1 b2.size
  have B3 := (B1.trans (b2.mono (Nat.le_trans hbw S1))).trans (al.mono (Nat.le_trans hbw S2))
  have HAB : Hid (m ≤ w2.heap.size ∧ w.heap.size ≤ w2.heap.size) := Lib.hid ⟨Nat.le_trans hmw S2, S2⟩
  have e0 := HT3.out.1.c0
  have e1' := HT3.out.1.c1
  have e2' := HT3.out.1.c2
  have e3 := HT3.out.1.c3
  have e4 := HT3.out.1.c4
  have a0 := HA3.out.c0
  have d0 := HV3.out.q.c0
  clear b2 al HV1 HT1 B1 CL S1 S2
  go_wp2_with fail
  generalize w2.alloc (.cells #[.string X, .string ⟨#[]⟩] 105) = w3 at HV3 HT3 HA3 B3 e0 e1' e2' e3 e4 a0 d0 ⊢
  generalize w2.heap.size = Ab at HA3 HAB a0 ⊢
  have har : AttrsBy w3 m w3.heap.size (.slice aa A.length ac) A := ⟨HT3.out.2.1, fun j hj => (HT3.out.2.1.lt j hj).2⟩
  have CH3 := Lib.hid ((CH NM c m w3.heap.size aa ac).out w3.drew (har.below (Below.refl _ _).drew))
  go_region_law (go_simp
                 go_at_call 127
                 (with_reducible refine CH3.out.mono ?_)
                 rintro e w4 ⟨rfl, b4⟩
                 have b5 : Below w3.heap.size w3 w4 := (Below.refl _ _).drew.trans b4
                 have HV4 := Lib.hid (HV3.out.below b5)
                 have HT4 := Lib.hid (HT3.out.below b5)
                 have HA4 := Lib.hid (HA3.out.below b5)
                 have B4 := B3.trans (b5.mono HV3.out.bw)
                 clear b4 b5)
  all_goals
    clear HV3 HT3 HA3 B3 e0 e1' e2' e3 e4 a0 d0 CH3 CH har
    go_wp2_with fail
    have CF := failQ_hid 142 n
    (with_reducible refine (CF.out _ _ _ _ _ _ _ _ _ HV4.out.form (by omega)).mono ?_)
    rintro e w5 ⟨rfl, h5, k5⟩
    have HV5 := Lib.hid h5
    have HT5 := Lib.hid (HT4.out.frD k5 hRm)
    have HA5 := Lib.hid (HA4.out.kp k5 (fun e => by
      have := HAB.out.1
      rcases e with e | e
      · omega
      · exact absurd e.2 (by decide)))
    have B5 := B4.trans (HV4.out.form.frb k5)
    clear h5 k5 HV4 HT4 HA4 B4 CF
    obtain ⟨tv5, fv5, q5⟩ := HV5.out.q
    have d0 := q5.c0
    go_wp2_with fail
    (with_reducible refine (CB.out _ _ _ _ _ q5).mono ?_)
    rintro e w5 ⟨rfl, rfl⟩
    have HV7 := HV5
    have HT7 := HT5
    have HA7 := HA5
    have B7 := B5
    clear HV5 HT5 HA5 B5 q5 CB
    go_wp2
    go_ret
    exact ⟨rfl, HV7.out, ⟨_, HT7.out⟩, B7⟩

set_option maxRecDepth 100000 in
set_option maxHeartbeats 16000000 in
theorem attrQ_142_other (s X U : ByteArray) (n e1 b : Nat) (A : List (List UInt8 × List UInt8)) (d : UInt8) (he : 1 + ((s.data.toList.drop n).drop 1).findIdx attrE = e1) (hU : U.data.toList = (s.data.toList.drop n).take e1) (hX : X.data.toList = low U.data.toList) (hb : (s.data.toList.drop (n + e1)).findIdx blkE = b) (hq : s.data.toList[n + e1 + b]? = some d) (hd : d ≠ 61) (hr0 : refM A X.data.toList = 142) (hA : A.length ≤ 30) (hn : n < s.size) (hs : s.size ≤ 20000) : Hid (∀ W B m Q Tb NM c av n0 T F x, QS W B m Q s n0 T F x → TA W m Tb 2 NM A c av → F.length ≤ 300000 → Calls Tryz.prog 105 #[.pointer (some ⟨Q, 0, none⟩), .pointer (some ⟨Tb, 0, none⟩), .int .i64 (n : Int)] W fun en w' => en = .returned (.int .i64 ((n + e1 : Nat) : Int)) ∧ QS w' B m Q s n0 T (F ++ [((142 : Int), n)]) x ∧ (∃ av', TA w' m Tb 2 NM (A) c av') ∧ Below B W w') := Lib.hid fun w B m Q Tb NM c av n0 T F x h0 ht hF => by
  have hel := find_le attrE s (n + 1) (by omega)
  rw [show s.data.toList.drop (n + 1) = (s.data.toList.drop n).drop 1 by rw [List.drop_drop]] at hel
  have hel2 : n + e1 ≤ s.size := by omega
  have CU := upto_hid Q s ⟨#[9, 10, 12, 13, 32, 47, 62, 61]⟩ (n + 1) (by omega) (by omega) (by decide)
  rw [show (⟨#[9, 10, 12, 13, 32, 47, 62, 61]⟩ : ByteArray).data.toList = [9, 10, 12, 13, 32, 47, 62, 61] from rfl, inL_attr, show s.data.toList.drop (n + 1) = (s.data.toList.drop n).drop 1 by rw [List.drop_drop], show n + 1 + ((s.data.toList.drop n).drop 1).findIdx attrE = n + e1 by omega, show (((n + 1 : Nat)) : Int) = (n : Int) + 1 by push_cast; rfl] at CU
  have hUs : U.size ≤ 20000 := by rw [← lsize, hU, List.length_take, List.length_drop, lsize]; omega
  have CL := refLower_hid U X hX (by omega)
  obtain ⟨E, hE⟩ : ∃ E, n + e1 = E := ⟨_, rfl⟩
  have hnE : n ≤ E := by omega
  have g1 := slice_mid s U n E hnE (by omega) (by rw [hU]; congr 1; omega)
  have CB := blanksR_hid Q s E (by omega) (by omega)
  have hbl := find_le blkE s E (by omega)
  rw [hE] at CU hb hq hel2 ⊢
  rw [hb] at CB hbl
  obtain ⟨nx, hnx⟩ : ∃ nx, E + b = nx := ⟨_, rfl⟩
  rw [hnx] at CB hbl hq
  have z1 : (0 : Int) ≤ (n : Int) := by omega
  have z2 : (n : Int) ≤ 20000 := by omega
  have z3 : (0 : Int) ≤ (nx : Int) := by omega
  have z4 : (nx : Int) ≤ 20000 := by omega
  have z5 : (A.length : Int) ≤ 30 := by omega
  have hlt := get_some hq
  have z6 : (nx : Int) < (s.size : Int) := by omega
  have i0 := index_ty Tryz.underlying9 s nx d hq
  have g61 : ((d.toNat : Int) == 61) = false := by rw [beq_eq_false_iff_ne]; exact fun e => hd (byte_is (d := 61) e)
  clear hlt hd
  have hany : A.any (fun y => y.1 == X.data.toList) = true := by
    unfold refM at hr0
    cases h : A.any (fun y => y.1 == X.data.toList) with
    | true => rfl
    | false =>
      rw [h, if_neg (by simp)] at hr0
      split at hr0 <;> cases hr0
  have CH := fun (NM : ByteArray) (c : Bool) (B m : Nat) (a : Option Addr) (cap : Nat) => hasQ_hid A X NM 2 c _ hany B m a cap (by omega)
  clear he hU hX hb hq hel hel2 hUs hE hnE hnx hbl hn hr0 hany
  obtain ⟨aa, ac, rfl⟩ : ∃ aa ac, av = .slice aa A.length ac := by
    rcases rowForms ht.2.1 with ⟨e1, e2⟩ | ⟨g, cc, e1⟩
    · exact ⟨none, 0, by rw [e1, e2]⟩
    · exact ⟨_, _, e1⟩
  have HAV : Hid (∀ j, (Value.slice aa A.length ac).ownBlock = some j → j < w.heap.size) := Lib.hid fun j hj => (ht.2.1.lt j hj).2
  have HTB : Hid (Tb < w.heap.size) := Lib.hid (lt_of_block ht.1)
  obtain ⟨tv, fv, hv⟩ := h0
  have hbw := hv.bw
  have hRm := hv.hi
  have hmw := hv.mw
  have d0 := hv.q.c0
  have HV := Lib.hid hv
  have HT := Lib.hid ht
  clear hv ht
  go_enter Tryz.func105, Tryz.ntmps105
  go_wp2_with fail
  (with_reducible refine (CU.out _ _ _ _ _ HV.out.q).mono ?_)
  rintro e w1 ⟨rfl, b1⟩
  have HV1 := Lib.hid (HV.out.below b1)
  have HT1 := Lib.hid (HT.out.below b1)
  have B1 := b1.mono hbw
  have S1 := b1.size
  clear b1 HV HT CU d0
  have d0 := HV1.out.q.c0
  go_wp2_with fail
  (with_reducible refine (CL.out _).mono ?_)
  rintro e w2 ⟨rfl, b2⟩
  have al := (Below.refl w2.heap.size w2).alloc (Nat.le_refl _) (.cells #[.string X, .string ⟨#[]⟩] 105)
  have HV3 := Lib.hid ((HV1.out.below b2).below al)
  have HT3 := Lib.hid ((HT1.out.below b2).below al)
  have HA3 : Hid (AX (w2.alloc (.cells #[.string X, .string ⟨#[]⟩] 105)) w2.heap.size X ⟨#[]⟩) := Lib.hid (new_block w2 _)
  have S2 : w.heap.size ≤ w2.heap.size := Nat.le_trans S1 b2.size
  have B3 := (B1.trans (b2.mono (Nat.le_trans hbw S1))).trans (al.mono (Nat.le_trans hbw S2))
  have HAB : Hid (m ≤ w2.heap.size ∧ w.heap.size ≤ w2.heap.size) := Lib.hid ⟨Nat.le_trans hmw S2, S2⟩
  have e0 := HT3.out.1.c0
  have e1' := HT3.out.1.c1
  have e2' := HT3.out.1.c2
  have e3 := HT3.out.1.c3
  have e4 := HT3.out.1.c4
  have a0 := HA3.out.c0
  have d0 := HV3.out.q.c0
  clear b2 al HV1 HT1 B1 CL S1 S2
  go_wp2_with fail
  generalize w2.alloc (.cells #[.string X, .string ⟨#[]⟩] 105) = w3 at HV3 HT3 HA3 B3 e0 e1' e2' e3 e4 a0 d0 ⊢
  generalize w2.heap.size = Ab at HA3 HAB a0 ⊢
  have har : AttrsBy w3 m w3.heap.size (.slice aa A.length ac) A := ⟨HT3.out.2.1, fun j hj => (HT3.out.2.1.lt j hj).2⟩
  have CH3 := Lib.hid ((CH NM c m w3.heap.size aa ac).out w3.drew (har.below (Below.refl _ _).drew))
  go_region_law (go_simp
                 go_at_call 127
                 (with_reducible refine CH3.out.mono ?_)
                 rintro e w4 ⟨rfl, b4⟩
                 have b5 : Below w3.heap.size w3 w4 := (Below.refl _ _).drew.trans b4
                 have HV4 := Lib.hid (HV3.out.below b5)
                 have HT4 := Lib.hid (HT3.out.below b5)
                 have HA4 := Lib.hid (HA3.out.below b5)
                 have B4 := B3.trans (b5.mono HV3.out.bw)
                 clear b4 b5)
  all_goals
    clear HV3 HT3 HA3 B3 e0 e1' e2' e3 e4 a0 d0 CH3 CH har
    go_wp2_with fail
    have CF := failQ_hid 142 n
    (with_reducible refine (CF.out _ _ _ _ _ _ _ _ _ HV4.out.form (by omega)).mono ?_)
    rintro e w5 ⟨rfl, h5, k5⟩
    have HV5 := Lib.hid h5
    have HT5 := Lib.hid (HT4.out.frD k5 hRm)
    have HA5 := Lib.hid (HA4.out.kp k5 (fun e => by
      have := HAB.out.1
      rcases e with e | e
      · omega
      · exact absurd e.2 (by decide)))
    have B5 := B4.trans (HV4.out.form.frb k5)
    clear h5 k5 HV4 HT4 HA4 B4 CF
    obtain ⟨tv5, fv5, q5⟩ := HV5.out.q
    have d0 := q5.c0
    go_wp2_with fail
    (with_reducible refine (CB.out _ _ _ _ _ q5).mono ?_)
    rintro e w5 ⟨rfl, rfl⟩
    have HV7 := HV5
    have HT7 := HT5
    have HA7 := HA5
    have B7 := B5
    clear HV5 HT5 HA5 B5 q5 CB
    go_wp2
    go_ret
    exact ⟨rfl, HV7.out, ⟨_, HT7.out⟩, B7⟩

set_option maxRecDepth 100000 in
set_option maxHeartbeats 16000000 in
theorem attrQ_2_eq (s X V U : ByteArray) (n e1 b z g : Nat) (A : List (List UInt8 × List UInt8)) (r : Option ((List UInt8 × List Fl) × Nat)) (he : 1 + ((s.data.toList.drop n).drop 1).findIdx attrE = e1) (hU : U.data.toList = (s.data.toList.drop n).take e1) (hX : X.data.toList = low U.data.toList) (hb : (s.data.toList.drop (n + e1)).findIdx blkE = b) (hq : s.data.toList[n + e1 + b]? = some 61) (hz : (s.data.toList.drop (n + e1 + b + 1)).findIdx blkE = z) (hg : n + e1 + b + 1 + z = g) (hr : valueM g (s.data.toList.drop g) = r) (hV : V.data.toList = outD r) (hr0 : refM A X.data.toList = 2) (hA : A.length ≤ 30) (hn : n < s.size) (hs : s.size ≤ 20000) : Hid (∀ W B m Q Tb NM c av n0 T F x, QS W B m Q s n0 T F x → TA W m Tb 2 NM A c av → F.length ≤ 300000 → Calls Tryz.prog 105 #[.pointer (some ⟨Q, 0, none⟩), .pointer (some ⟨Tb, 0, none⟩), .int .i64 (n : Int)] W fun en w' => en = .returned (.int .i64 (outV g r)) ∧ QS w' B m Q s n0 T ((F ++ [((2 : Int), n)]) ++ outF r) x ∧ (∃ av', TA w' m Tb 2 NM (A) c av') ∧ Below B W w') := Lib.hid fun w B m Q Tb NM c av n0 T F x h0 ht hF => by
  have hel := find_le attrE s (n + 1) (by omega)
  rw [show s.data.toList.drop (n + 1) = (s.data.toList.drop n).drop 1 by rw [List.drop_drop]] at hel
  have hel2 : n + e1 ≤ s.size := by omega
  have CU := upto_hid Q s ⟨#[9, 10, 12, 13, 32, 47, 62, 61]⟩ (n + 1) (by omega) (by omega) (by decide)
  rw [show (⟨#[9, 10, 12, 13, 32, 47, 62, 61]⟩ : ByteArray).data.toList = [9, 10, 12, 13, 32, 47, 62, 61] from rfl, inL_attr, show s.data.toList.drop (n + 1) = (s.data.toList.drop n).drop 1 by rw [List.drop_drop], show n + 1 + ((s.data.toList.drop n).drop 1).findIdx attrE = n + e1 by omega, show (((n + 1 : Nat)) : Int) = (n : Int) + 1 by push_cast; rfl] at CU
  have hUs : U.size ≤ 20000 := by rw [← lsize, hU, List.length_take, List.length_drop, lsize]; omega
  have CL := refLower_hid U X hX (by omega)
  obtain ⟨E, hE⟩ : ∃ E, n + e1 = E := ⟨_, rfl⟩
  have hnE : n ≤ E := by omega
  have g1 := slice_mid s U n E hnE (by omega) (by rw [hU]; congr 1; omega)
  have CB := blanksR_hid Q s E (by omega) (by omega)
  have hbl := find_le blkE s E (by omega)
  rw [hE] at CU hb hq hel2 hz hg
  rw [hb] at CB hbl
  obtain ⟨nx, hnx⟩ : ∃ nx, E + b = nx := ⟨_, rfl⟩
  rw [hnx] at CB hbl hq hz hg
  have z1 : (0 : Int) ≤ (n : Int) := by omega
  have z2 : (n : Int) ≤ 20000 := by omega
  have z3 : (0 : Int) ≤ (nx : Int) := by omega
  have z4 : (nx : Int) ≤ 20000 := by omega
  have z5 : (A.length : Int) ≤ 30 := by omega
  have hlt := get_some hq
  have z6 : (nx : Int) < (s.size : Int) := by omega
  have i0 := index_ty Tryz.underlying9 s nx 61 hq
  rw [show (((61 : UInt8).toNat : Nat) : Int) = 61 from rfl] at i0
  have CZ := blanksR_hid Q s (nx + 1) (by omega) (by omega)
  have hzl := find_le blkE s (nx + 1) (by omega)
  rw [hz, hg] at CZ
  rw [hz] at hzl
  rw [show (((nx + 1 : Nat)) : Int) = (nx : Int) + 1 by push_cast; rfl] at CZ
  have CV := valueQ_hid s V g (by omega) hs r hr hV
  obtain ⟨rv, hrv⟩ : ∃ rv, outV g r = rv := ⟨_, rfl⟩
  obtain ⟨vf, hvf⟩ : ∃ vf, outF r = vf := ⟨_, rfl⟩
  rw [hrv, hvf] at CV
  rw [hrv, hvf]
  clear hz hg hr hV hrv hvf hzl hlt
  have hany : A.any (fun y => y.1 == X.data.toList) = false := by
    unfold refM at hr0
    cases h : A.any (fun y => y.1 == X.data.toList) with
    | false => rfl
    | true =>
      rw [h, if_pos rfl] at hr0
      cases hr0
  have hlen : A.length = 30 := by
    unfold refM at hr0
    rw [hany, if_neg (by simp)] at hr0
    split at hr0
    · assumption
    · cases hr0
  have z7 : (30 : Int) ≤ (A.length : Int) := by omega
  have CH := fun (NM : ByteArray) (c : Bool) (B m : Nat) (a : Option Addr) (cap : Nat) => hasQ_hid A X NM 2 c _ hany B m a cap (by omega)
  clear he hU hX hb hq hel hel2 hUs hE hnE hnx hbl hn hr0 hany hlen
  obtain ⟨aa, ac, rfl⟩ : ∃ aa ac, av = .slice aa A.length ac := by
    rcases rowForms ht.2.1 with ⟨e1, e2⟩ | ⟨g, cc, e1⟩
    · exact ⟨none, 0, by rw [e1, e2]⟩
    · exact ⟨_, _, e1⟩
  have HAV : Hid (∀ j, (Value.slice aa A.length ac).ownBlock = some j → j < w.heap.size) := Lib.hid fun j hj => (ht.2.1.lt j hj).2
  have HTB : Hid (Tb < w.heap.size) := Lib.hid (lt_of_block ht.1)
  obtain ⟨tv, fv, hv⟩ := h0
  have hbw := hv.bw
  have hRm := hv.hi
  have hmw := hv.mw
  have d0 := hv.q.c0
  have HV := Lib.hid hv
  have HT := Lib.hid ht
  clear hv ht
  go_enter Tryz.func105, Tryz.ntmps105
  go_wp2_with fail
  (with_reducible refine (CU.out _ _ _ _ _ HV.out.q).mono ?_)
  rintro e w1 ⟨rfl, b1⟩
  have HV1 := Lib.hid (HV.out.below b1)
  have HT1 := Lib.hid (HT.out.below b1)
  have B1 := b1.mono hbw
  have S1 := b1.size
  clear b1 HV HT CU d0
  have d0 := HV1.out.q.c0
  go_wp2_with fail
  (with_reducible refine (CL.out _).mono ?_)
  rintro e w2 ⟨rfl, b2⟩
  have al := (Below.refl w2.heap.size w2).alloc (Nat.le_refl _) (.cells #[.string X, .string ⟨#[]⟩] 105)
  have HV3 := Lib.hid ((HV1.out.below b2).below al)
  have HT3 := Lib.hid ((HT1.out.below b2).below al)
  have HA3 : Hid (AX (w2.alloc (.cells #[.string X, .string ⟨#[]⟩] 105)) w2.heap.size X ⟨#[]⟩) := Lib.hid (new_block w2 _)
  have S2 : w.heap.size ≤ w2.heap.size := Nat.le_trans S1 b2.size
  have B3 := (B1.trans (b2.mono (Nat.le_trans hbw S1))).trans (al.mono (Nat.le_trans hbw S2))
  have HAB : Hid (m ≤ w2.heap.size ∧ w.heap.size ≤ w2.heap.size) := Lib.hid ⟨Nat.le_trans hmw S2, S2⟩
  have e0 := HT3.out.1.c0
  have e1' := HT3.out.1.c1
  have e2' := HT3.out.1.c2
  have e3 := HT3.out.1.c3
  have e4 := HT3.out.1.c4
  have a0 := HA3.out.c0
  have d0 := HV3.out.q.c0
  clear b2 al HV1 HT1 B1 CL S1 S2
  go_wp2_with fail
  generalize w2.alloc (.cells #[.string X, .string ⟨#[]⟩] 105) = w3 at HV3 HT3 HA3 B3 e0 e1' e2' e3 e4 a0 d0 ⊢
  generalize w2.heap.size = Ab at HA3 HAB a0 ⊢
  have har : AttrsBy w3 m w3.heap.size (.slice aa A.length ac) A := ⟨HT3.out.2.1, fun j hj => (HT3.out.2.1.lt j hj).2⟩
  have CH3 := Lib.hid ((CH NM c m w3.heap.size aa ac).out w3.drew (har.below (Below.refl _ _).drew))
  go_region_law (go_simp
                 go_at_call 127
                 (with_reducible refine CH3.out.mono ?_)
                 rintro e w4 ⟨rfl, b4⟩
                 have b5 : Below w3.heap.size w3 w4 := (Below.refl _ _).drew.trans b4
                 have HV4 := Lib.hid (HV3.out.below b5)
                 have HT4 := Lib.hid (HT3.out.below b5)
                 have HA4 := Lib.hid (HA3.out.below b5)
                 have B4 := B3.trans (b5.mono HV3.out.bw)
                 clear b4 b5)
  all_goals
    clear HV3 HT3 HA3 B3 e0 e1' e2' e3 e4 a0 d0 CH3 CH har
    have e3 := HT4.out.1.c3
    go_wp2_with fail
    have CF := failQ_hid 2 n
    (with_reducible refine (CF.out _ _ _ _ _ _ _ _ _ HV4.out.form (by omega)).mono ?_)
    rintro e w5 ⟨rfl, h5, k5⟩
    have HV5 := Lib.hid h5
    have HT5 := Lib.hid (HT4.out.frD k5 hRm)
    have HA5 := Lib.hid (HA4.out.kp k5 (fun e => by
      have := HAB.out.1
      rcases e with e | e
      · omega
      · exact absurd e.2 (by decide)))
    have B5 := B4.trans (HV4.out.form.frb k5)
    clear h5 k5 HV4 HT4 HA4 B4 CF e3
    obtain ⟨tv5, fv5, q5⟩ := HV5.out.q
    have d0 := q5.c0
    go_wp2_with fail
    (with_reducible refine (CB.out _ _ _ _ _ q5).mono ?_)
    rintro e w5 ⟨rfl, rfl⟩
    go_wp2_with fail
    (with_reducible refine (CZ.out _ _ _ _ _ q5).mono ?_)
    rintro e w5 ⟨rfl, rfl⟩
    go_wp2_with fail
    (with_reducible refine (CV.out _ _ _ _ _ _ _ _ HV5.out (by rw [List.length_append]; simp; omega)).mono ?_)
    rintro e w6 ⟨rfl, h6, k6⟩
    have HA6 := Lib.hid (HA5.out.kp k6 (fun e => by
      have := HAB.out.1
      rcases e with e | e
      · omega
      · exact absurd e.2 (by decide)))
    have ha7 := HA6.out.set1 V
    have ks := HA6.out.kset 1 (.string V)
    have ks2 : Kp (frA m) w6 (w6.setCell ⟨Ab, 1, none⟩ (.string V)) := Kp.of_set HA6.out _ ⟨HAB.out.1, .inr rfl⟩
    have HV7 := Lib.hid (h6.side ks2)
    have ht6 := HT5.out.frD k6 hRm
    have HT7 := Lib.hid (ht6.apart ks (Nat.lt_of_lt_of_le HTB.out HAB.out.2) fun j hj => Nat.lt_of_lt_of_le (HAV.out j hj) HAB.out.2)
    have HA7 := Lib.hid ha7
    have B7 := (B5.trans (HV5.out.frb k6)).trans (h6.sideb ks2)
    have a1 := HA6.out.c1
    have f1 := HA6.out.free 1
    clear h6 k6 ha7 ks ks2 ht6 HV5 HT5 HA5 B5 HA6 q5 d0 CV CZ CB
    go_wp2
    go_ret
    exact ⟨rfl, HV7.out, ⟨_, HT7.out⟩, B7⟩

set_option maxRecDepth 100000 in
set_option maxHeartbeats 16000000 in
theorem attrQ_2_no (s X U : ByteArray) (n e1 b : Nat) (A : List (List UInt8 × List UInt8)) (he : 1 + ((s.data.toList.drop n).drop 1).findIdx attrE = e1) (hU : U.data.toList = (s.data.toList.drop n).take e1) (hX : X.data.toList = low U.data.toList) (hb : (s.data.toList.drop (n + e1)).findIdx blkE = b) (hq : s.data.toList[n + e1 + b]? = none) (hr0 : refM A X.data.toList = 2) (hA : A.length ≤ 30) (hn : n < s.size) (hs : s.size ≤ 20000) : Hid (∀ W B m Q Tb NM c av n0 T F x, QS W B m Q s n0 T F x → TA W m Tb 2 NM A c av → F.length ≤ 300000 → Calls Tryz.prog 105 #[.pointer (some ⟨Q, 0, none⟩), .pointer (some ⟨Tb, 0, none⟩), .int .i64 (n : Int)] W fun en w' => en = .returned (.int .i64 ((n + e1 : Nat) : Int)) ∧ QS w' B m Q s n0 T (F ++ [((2 : Int), n)]) x ∧ (∃ av', TA w' m Tb 2 NM (A) c av') ∧ Below B W w') := Lib.hid fun w B m Q Tb NM c av n0 T F x h0 ht hF => by
  have hel := find_le attrE s (n + 1) (by omega)
  rw [show s.data.toList.drop (n + 1) = (s.data.toList.drop n).drop 1 by rw [List.drop_drop]] at hel
  have hel2 : n + e1 ≤ s.size := by omega
  have CU := upto_hid Q s ⟨#[9, 10, 12, 13, 32, 47, 62, 61]⟩ (n + 1) (by omega) (by omega) (by decide)
  rw [show (⟨#[9, 10, 12, 13, 32, 47, 62, 61]⟩ : ByteArray).data.toList = [9, 10, 12, 13, 32, 47, 62, 61] from rfl, inL_attr, show s.data.toList.drop (n + 1) = (s.data.toList.drop n).drop 1 by rw [List.drop_drop], show n + 1 + ((s.data.toList.drop n).drop 1).findIdx attrE = n + e1 by omega, show (((n + 1 : Nat)) : Int) = (n : Int) + 1 by push_cast; rfl] at CU
  have hUs : U.size ≤ 20000 := by rw [← lsize, hU, List.length_take, List.length_drop, lsize]; omega
  have CL := refLower_hid U X hX (by omega)
  obtain ⟨E, hE⟩ : ∃ E, n + e1 = E := ⟨_, rfl⟩
  have hnE : n ≤ E := by omega
  have g1 := slice_mid s U n E hnE (by omega) (by rw [hU]; congr 1; omega)
  have CB := blanksR_hid Q s E (by omega) (by omega)
  have hbl := find_le blkE s E (by omega)
  rw [hE] at CU hb hq hel2 ⊢
  rw [hb] at CB hbl
  obtain ⟨nx, hnx⟩ : ∃ nx, E + b = nx := ⟨_, rfl⟩
  rw [hnx] at CB hbl hq
  have z1 : (0 : Int) ≤ (n : Int) := by omega
  have z2 : (n : Int) ≤ 20000 := by omega
  have z3 : (0 : Int) ≤ (nx : Int) := by omega
  have z4 : (nx : Int) ≤ 20000 := by omega
  have z5 : (A.length : Int) ≤ 30 := by omega
  have hlt := get_none hq
  have z6 : ¬ (nx : Int) < (s.size : Int) := by omega
  clear hlt
  have hany : A.any (fun y => y.1 == X.data.toList) = false := by
    unfold refM at hr0
    cases h : A.any (fun y => y.1 == X.data.toList) with
    | false => rfl
    | true =>
      rw [h, if_pos rfl] at hr0
      cases hr0
  have hlen : A.length = 30 := by
    unfold refM at hr0
    rw [hany, if_neg (by simp)] at hr0
    split at hr0
    · assumption
    · cases hr0
  have z7 : (30 : Int) ≤ (A.length : Int) := by omega
  have CH := fun (NM : ByteArray) (c : Bool) (B m : Nat) (a : Option Addr) (cap : Nat) => hasQ_hid A X NM 2 c _ hany B m a cap (by omega)
  clear he hU hX hb hq hel hel2 hUs hE hnE hnx hbl hn hr0 hany hlen
  obtain ⟨aa, ac, rfl⟩ : ∃ aa ac, av = .slice aa A.length ac := by
    rcases rowForms ht.2.1 with ⟨e1, e2⟩ | ⟨g, cc, e1⟩
    · exact ⟨none, 0, by rw [e1, e2]⟩
    · exact ⟨_, _, e1⟩
  have HAV : Hid (∀ j, (Value.slice aa A.length ac).ownBlock = some j → j < w.heap.size) := Lib.hid fun j hj => (ht.2.1.lt j hj).2
  have HTB : Hid (Tb < w.heap.size) := Lib.hid (lt_of_block ht.1)
  obtain ⟨tv, fv, hv⟩ := h0
  have hbw := hv.bw
  have hRm := hv.hi
  have hmw := hv.mw
  have d0 := hv.q.c0
  have HV := Lib.hid hv
  have HT := Lib.hid ht
  clear hv ht
  go_enter Tryz.func105, Tryz.ntmps105
  go_wp2_with fail
  (with_reducible refine (CU.out _ _ _ _ _ HV.out.q).mono ?_)
  rintro e w1 ⟨rfl, b1⟩
  have HV1 := Lib.hid (HV.out.below b1)
  have HT1 := Lib.hid (HT.out.below b1)
  have B1 := b1.mono hbw
  have S1 := b1.size
  clear b1 HV HT CU d0
  have d0 := HV1.out.q.c0
  go_wp2_with fail
  (with_reducible refine (CL.out _).mono ?_)
  rintro e w2 ⟨rfl, b2⟩
  have al := (Below.refl w2.heap.size w2).alloc (Nat.le_refl _) (.cells #[.string X, .string ⟨#[]⟩] 105)
  have HV3 := Lib.hid ((HV1.out.below b2).below al)
  have HT3 := Lib.hid ((HT1.out.below b2).below al)
  have HA3 : Hid (AX (w2.alloc (.cells #[.string X, .string ⟨#[]⟩] 105)) w2.heap.size X ⟨#[]⟩) := Lib.hid (new_block w2 _)
  have S2 : w.heap.size ≤ w2.heap.size := Nat.le_trans S1 b2.size
  have B3 := (B1.trans (b2.mono (Nat.le_trans hbw S1))).trans (al.mono (Nat.le_trans hbw S2))
  have HAB : Hid (m ≤ w2.heap.size ∧ w.heap.size ≤ w2.heap.size) := Lib.hid ⟨Nat.le_trans hmw S2, S2⟩
  have e0 := HT3.out.1.c0
  have e1' := HT3.out.1.c1
  have e2' := HT3.out.1.c2
  have e3 := HT3.out.1.c3
  have e4 := HT3.out.1.c4
  have a0 := HA3.out.c0
  have d0 := HV3.out.q.c0
  clear b2 al HV1 HT1 B1 CL S1 S2
  go_wp2_with fail
  generalize w2.alloc (.cells #[.string X, .string ⟨#[]⟩] 105) = w3 at HV3 HT3 HA3 B3 e0 e1' e2' e3 e4 a0 d0 ⊢
  generalize w2.heap.size = Ab at HA3 HAB a0 ⊢
  have har : AttrsBy w3 m w3.heap.size (.slice aa A.length ac) A := ⟨HT3.out.2.1, fun j hj => (HT3.out.2.1.lt j hj).2⟩
  have CH3 := Lib.hid ((CH NM c m w3.heap.size aa ac).out w3.drew (har.below (Below.refl _ _).drew))
  go_region_law (go_simp
                 go_at_call 127
                 (with_reducible refine CH3.out.mono ?_)
                 rintro e w4 ⟨rfl, b4⟩
                 have b5 : Below w3.heap.size w3 w4 := (Below.refl _ _).drew.trans b4
                 have HV4 := Lib.hid (HV3.out.below b5)
                 have HT4 := Lib.hid (HT3.out.below b5)
                 have HA4 := Lib.hid (HA3.out.below b5)
                 have B4 := B3.trans (b5.mono HV3.out.bw)
                 clear b4 b5)
  all_goals
    clear HV3 HT3 HA3 B3 e0 e1' e2' e3 e4 a0 d0 CH3 CH har
    have e3 := HT4.out.1.c3
    go_wp2_with fail
    have CF := failQ_hid 2 n
    (with_reducible refine (CF.out _ _ _ _ _ _ _ _ _ HV4.out.form (by omega)).mono ?_)
    rintro e w5 ⟨rfl, h5, k5⟩
    have HV5 := Lib.hid h5
    have HT5 := Lib.hid (HT4.out.frD k5 hRm)
    have HA5 := Lib.hid (HA4.out.kp k5 (fun e => by
      have := HAB.out.1
      rcases e with e | e
      · omega
      · exact absurd e.2 (by decide)))
    have B5 := B4.trans (HV4.out.form.frb k5)
    clear h5 k5 HV4 HT4 HA4 B4 CF e3
    obtain ⟨tv5, fv5, q5⟩ := HV5.out.q
    have d0 := q5.c0
    go_wp2_with fail
    (with_reducible refine (CB.out _ _ _ _ _ q5).mono ?_)
    rintro e w5 ⟨rfl, rfl⟩
    have HV7 := HV5
    have HT7 := HT5
    have HA7 := HA5
    have B7 := B5
    clear HV5 HT5 HA5 B5 q5 CB
    go_wp2
    go_ret
    exact ⟨rfl, HV7.out, ⟨_, HT7.out⟩, B7⟩

set_option maxRecDepth 100000 in
set_option maxHeartbeats 16000000 in
theorem attrQ_2_other (s X U : ByteArray) (n e1 b : Nat) (A : List (List UInt8 × List UInt8)) (d : UInt8) (he : 1 + ((s.data.toList.drop n).drop 1).findIdx attrE = e1) (hU : U.data.toList = (s.data.toList.drop n).take e1) (hX : X.data.toList = low U.data.toList) (hb : (s.data.toList.drop (n + e1)).findIdx blkE = b) (hq : s.data.toList[n + e1 + b]? = some d) (hd : d ≠ 61) (hr0 : refM A X.data.toList = 2) (hA : A.length ≤ 30) (hn : n < s.size) (hs : s.size ≤ 20000) : Hid (∀ W B m Q Tb NM c av n0 T F x, QS W B m Q s n0 T F x → TA W m Tb 2 NM A c av → F.length ≤ 300000 → Calls Tryz.prog 105 #[.pointer (some ⟨Q, 0, none⟩), .pointer (some ⟨Tb, 0, none⟩), .int .i64 (n : Int)] W fun en w' => en = .returned (.int .i64 ((n + e1 : Nat) : Int)) ∧ QS w' B m Q s n0 T (F ++ [((2 : Int), n)]) x ∧ (∃ av', TA w' m Tb 2 NM (A) c av') ∧ Below B W w') := Lib.hid fun w B m Q Tb NM c av n0 T F x h0 ht hF => by
  have hel := find_le attrE s (n + 1) (by omega)
  rw [show s.data.toList.drop (n + 1) = (s.data.toList.drop n).drop 1 by rw [List.drop_drop]] at hel
  have hel2 : n + e1 ≤ s.size := by omega
  have CU := upto_hid Q s ⟨#[9, 10, 12, 13, 32, 47, 62, 61]⟩ (n + 1) (by omega) (by omega) (by decide)
  rw [show (⟨#[9, 10, 12, 13, 32, 47, 62, 61]⟩ : ByteArray).data.toList = [9, 10, 12, 13, 32, 47, 62, 61] from rfl, inL_attr, show s.data.toList.drop (n + 1) = (s.data.toList.drop n).drop 1 by rw [List.drop_drop], show n + 1 + ((s.data.toList.drop n).drop 1).findIdx attrE = n + e1 by omega, show (((n + 1 : Nat)) : Int) = (n : Int) + 1 by push_cast; rfl] at CU
  have hUs : U.size ≤ 20000 := by rw [← lsize, hU, List.length_take, List.length_drop, lsize]; omega
  have CL := refLower_hid U X hX (by omega)
  obtain ⟨E, hE⟩ : ∃ E, n + e1 = E := ⟨_, rfl⟩
  have hnE : n ≤ E := by omega
  have g1 := slice_mid s U n E hnE (by omega) (by rw [hU]; congr 1; omega)
  have CB := blanksR_hid Q s E (by omega) (by omega)
  have hbl := find_le blkE s E (by omega)
  rw [hE] at CU hb hq hel2 ⊢
  rw [hb] at CB hbl
  obtain ⟨nx, hnx⟩ : ∃ nx, E + b = nx := ⟨_, rfl⟩
  rw [hnx] at CB hbl hq
  have z1 : (0 : Int) ≤ (n : Int) := by omega
  have z2 : (n : Int) ≤ 20000 := by omega
  have z3 : (0 : Int) ≤ (nx : Int) := by omega
  have z4 : (nx : Int) ≤ 20000 := by omega
  have z5 : (A.length : Int) ≤ 30 := by omega
  have hlt := get_some hq
  have z6 : (nx : Int) < (s.size : Int) := by omega
  have i0 := index_ty Tryz.underlying9 s nx d hq
  have g61 : ((d.toNat : Int) == 61) = false := by rw [beq_eq_false_iff_ne]; exact fun e => hd (byte_is (d := 61) e)
  clear hlt hd
  have hany : A.any (fun y => y.1 == X.data.toList) = false := by
    unfold refM at hr0
    cases h : A.any (fun y => y.1 == X.data.toList) with
    | false => rfl
    | true =>
      rw [h, if_pos rfl] at hr0
      cases hr0
  have hlen : A.length = 30 := by
    unfold refM at hr0
    rw [hany, if_neg (by simp)] at hr0
    split at hr0
    · assumption
    · cases hr0
  have z7 : (30 : Int) ≤ (A.length : Int) := by omega
  have CH := fun (NM : ByteArray) (c : Bool) (B m : Nat) (a : Option Addr) (cap : Nat) => hasQ_hid A X NM 2 c _ hany B m a cap (by omega)
  clear he hU hX hb hq hel hel2 hUs hE hnE hnx hbl hn hr0 hany hlen
  obtain ⟨aa, ac, rfl⟩ : ∃ aa ac, av = .slice aa A.length ac := by
    rcases rowForms ht.2.1 with ⟨e1, e2⟩ | ⟨g, cc, e1⟩
    · exact ⟨none, 0, by rw [e1, e2]⟩
    · exact ⟨_, _, e1⟩
  have HAV : Hid (∀ j, (Value.slice aa A.length ac).ownBlock = some j → j < w.heap.size) := Lib.hid fun j hj => (ht.2.1.lt j hj).2
  have HTB : Hid (Tb < w.heap.size) := Lib.hid (lt_of_block ht.1)
  obtain ⟨tv, fv, hv⟩ := h0
  have hbw := hv.bw
  have hRm := hv.hi
  have hmw := hv.mw
  have d0 := hv.q.c0
  have HV := Lib.hid hv
  have HT := Lib.hid ht
  clear hv ht
  go_enter Tryz.func105, Tryz.ntmps105
  go_wp2_with fail
  (with_reducible refine (CU.out _ _ _ _ _ HV.out.q).mono ?_)
  rintro e w1 ⟨rfl, b1⟩
  have HV1 := Lib.hid (HV.out.below b1)
  have HT1 := Lib.hid (HT.out.below b1)
  have B1 := b1.mono hbw
  have S1 := b1.size
  clear b1 HV HT CU d0
  have d0 := HV1.out.q.c0
  go_wp2_with fail
  (with_reducible refine (CL.out _).mono ?_)
  rintro e w2 ⟨rfl, b2⟩
  have al := (Below.refl w2.heap.size w2).alloc (Nat.le_refl _) (.cells #[.string X, .string ⟨#[]⟩] 105)
  have HV3 := Lib.hid ((HV1.out.below b2).below al)
  have HT3 := Lib.hid ((HT1.out.below b2).below al)
  have HA3 : Hid (AX (w2.alloc (.cells #[.string X, .string ⟨#[]⟩] 105)) w2.heap.size X ⟨#[]⟩) := Lib.hid (new_block w2 _)
  have S2 : w.heap.size ≤ w2.heap.size := Nat.le_trans S1 b2.size
  have B3 := (B1.trans (b2.mono (Nat.le_trans hbw S1))).trans (al.mono (Nat.le_trans hbw S2))
  have HAB : Hid (m ≤ w2.heap.size ∧ w.heap.size ≤ w2.heap.size) := Lib.hid ⟨Nat.le_trans hmw S2, S2⟩
  have e0 := HT3.out.1.c0
  have e1' := HT3.out.1.c1
  have e2' := HT3.out.1.c2
  have e3 := HT3.out.1.c3
  have e4 := HT3.out.1.c4
  have a0 := HA3.out.c0
  have d0 := HV3.out.q.c0
  clear b2 al HV1 HT1 B1 CL S1 S2
  go_wp2_with fail
  generalize w2.alloc (.cells #[.string X, .string ⟨#[]⟩] 105) = w3 at HV3 HT3 HA3 B3 e0 e1' e2' e3 e4 a0 d0 ⊢
  generalize w2.heap.size = Ab at HA3 HAB a0 ⊢
  have har : AttrsBy w3 m w3.heap.size (.slice aa A.length ac) A := ⟨HT3.out.2.1, fun j hj => (HT3.out.2.1.lt j hj).2⟩
  have CH3 := Lib.hid ((CH NM c m w3.heap.size aa ac).out w3.drew (har.below (Below.refl _ _).drew))
  go_region_law (go_simp
                 go_at_call 127
                 (with_reducible refine CH3.out.mono ?_)
                 rintro e w4 ⟨rfl, b4⟩
                 have b5 : Below w3.heap.size w3 w4 := (Below.refl _ _).drew.trans b4
                 have HV4 := Lib.hid (HV3.out.below b5)
                 have HT4 := Lib.hid (HT3.out.below b5)
                 have HA4 := Lib.hid (HA3.out.below b5)
                 have B4 := B3.trans (b5.mono HV3.out.bw)
                 clear b4 b5)
  all_goals
    clear HV3 HT3 HA3 B3 e0 e1' e2' e3 e4 a0 d0 CH3 CH har
    have e3 := HT4.out.1.c3
    go_wp2_with fail
    have CF := failQ_hid 2 n
    (with_reducible refine (CF.out _ _ _ _ _ _ _ _ _ HV4.out.form (by omega)).mono ?_)
    rintro e w5 ⟨rfl, h5, k5⟩
    have HV5 := Lib.hid h5
    have HT5 := Lib.hid (HT4.out.frD k5 hRm)
    have HA5 := Lib.hid (HA4.out.kp k5 (fun e => by
      have := HAB.out.1
      rcases e with e | e
      · omega
      · exact absurd e.2 (by decide)))
    have B5 := B4.trans (HV4.out.form.frb k5)
    clear h5 k5 HV4 HT4 HA4 B4 CF e3
    obtain ⟨tv5, fv5, q5⟩ := HV5.out.q
    have d0 := q5.c0
    go_wp2_with fail
    (with_reducible refine (CB.out _ _ _ _ _ q5).mono ?_)
    rintro e w5 ⟨rfl, rfl⟩
    have HV7 := HV5
    have HT7 := HT5
    have HA7 := HA5
    have B7 := B5
    clear HV5 HT5 HA5 B5 q5 CB
    go_wp2
    go_ret
    exact ⟨rfl, HV7.out, ⟨_, HT7.out⟩, B7⟩

set_option maxRecDepth 100000 in
set_option maxHeartbeats 16000000 in
theorem attrQ_0_eq (s X V U : ByteArray) (n e1 b z g : Nat) (A : List (List UInt8 × List UInt8)) (r : Option ((List UInt8 × List Fl) × Nat)) (he : 1 + ((s.data.toList.drop n).drop 1).findIdx attrE = e1) (hU : U.data.toList = (s.data.toList.drop n).take e1) (hX : X.data.toList = low U.data.toList) (hb : (s.data.toList.drop (n + e1)).findIdx blkE = b) (hq : s.data.toList[n + e1 + b]? = some 61) (hz : (s.data.toList.drop (n + e1 + b + 1)).findIdx blkE = z) (hg : n + e1 + b + 1 + z = g) (hr : valueM g (s.data.toList.drop g) = r) (hV : V.data.toList = outD r) (hr0 : refM A X.data.toList = 0) (hA : A.length ≤ 30) (hn : n < s.size) (hs : s.size ≤ 20000) : Hid (∀ W B m Q Tb NM c av n0 T F x, QS W B m Q s n0 T F x → TA W m Tb 2 NM A c av → F.length ≤ 300000 → Calls Tryz.prog 105 #[.pointer (some ⟨Q, 0, none⟩), .pointer (some ⟨Tb, 0, none⟩), .int .i64 (n : Int)] W fun en w' => en = .returned (.int .i64 (outV g r)) ∧ QS w' B m Q s n0 T ((F) ++ outF r) x ∧ (∃ av', TA w' m Tb 2 NM (A ++ [(X.data.toList, (V : ByteArray).data.toList)]) c av') ∧ Below B W w') := Lib.hid fun w B m Q Tb NM c av n0 T F x h0 ht hF => by
  have hel := find_le attrE s (n + 1) (by omega)
  rw [show s.data.toList.drop (n + 1) = (s.data.toList.drop n).drop 1 by rw [List.drop_drop]] at hel
  have hel2 : n + e1 ≤ s.size := by omega
  have CU := upto_hid Q s ⟨#[9, 10, 12, 13, 32, 47, 62, 61]⟩ (n + 1) (by omega) (by omega) (by decide)
  rw [show (⟨#[9, 10, 12, 13, 32, 47, 62, 61]⟩ : ByteArray).data.toList = [9, 10, 12, 13, 32, 47, 62, 61] from rfl, inL_attr, show s.data.toList.drop (n + 1) = (s.data.toList.drop n).drop 1 by rw [List.drop_drop], show n + 1 + ((s.data.toList.drop n).drop 1).findIdx attrE = n + e1 by omega, show (((n + 1 : Nat)) : Int) = (n : Int) + 1 by push_cast; rfl] at CU
  have hUs : U.size ≤ 20000 := by rw [← lsize, hU, List.length_take, List.length_drop, lsize]; omega
  have CL := refLower_hid U X hX (by omega)
  obtain ⟨E, hE⟩ : ∃ E, n + e1 = E := ⟨_, rfl⟩
  have hnE : n ≤ E := by omega
  have g1 := slice_mid s U n E hnE (by omega) (by rw [hU]; congr 1; omega)
  have CB := blanksR_hid Q s E (by omega) (by omega)
  have hbl := find_le blkE s E (by omega)
  rw [hE] at CU hb hq hel2 hz hg
  rw [hb] at CB hbl
  obtain ⟨nx, hnx⟩ : ∃ nx, E + b = nx := ⟨_, rfl⟩
  rw [hnx] at CB hbl hq hz hg
  have z1 : (0 : Int) ≤ (n : Int) := by omega
  have z2 : (n : Int) ≤ 20000 := by omega
  have z3 : (0 : Int) ≤ (nx : Int) := by omega
  have z4 : (nx : Int) ≤ 20000 := by omega
  have z5 : (A.length : Int) ≤ 30 := by omega
  have hlt := get_some hq
  have z6 : (nx : Int) < (s.size : Int) := by omega
  have i0 := index_ty Tryz.underlying9 s nx 61 hq
  rw [show (((61 : UInt8).toNat : Nat) : Int) = 61 from rfl] at i0
  have CZ := blanksR_hid Q s (nx + 1) (by omega) (by omega)
  have hzl := find_le blkE s (nx + 1) (by omega)
  rw [hz, hg] at CZ
  rw [hz] at hzl
  rw [show (((nx + 1 : Nat)) : Int) = (nx : Int) + 1 by push_cast; rfl] at CZ
  have CV := valueQ_hid s V g (by omega) hs r hr hV
  obtain ⟨rv, hrv⟩ : ∃ rv, outV g r = rv := ⟨_, rfl⟩
  obtain ⟨vf, hvf⟩ : ∃ vf, outF r = vf := ⟨_, rfl⟩
  rw [hrv, hvf] at CV
  rw [hrv, hvf]
  clear hz hg hr hV hrv hvf hzl hlt
  have hany : A.any (fun y => y.1 == X.data.toList) = false := by
    unfold refM at hr0
    cases h : A.any (fun y => y.1 == X.data.toList) with
    | false => rfl
    | true =>
      rw [h, if_pos rfl] at hr0
      cases hr0
  have hlen : ¬ A.length = 30 := by
    unfold refM at hr0
    rw [hany, if_neg (by simp)] at hr0
    split at hr0
    · cases hr0
    · assumption
  have z7 : ¬ (30 : Int) ≤ (A.length : Int) := by omega
  have CH := fun (NM : ByteArray) (c : Bool) (B m : Nat) (a : Option Addr) (cap : Nat) => hasQ_hid A X NM 2 c _ hany B m a cap (by omega)
  clear he hU hX hb hq hel hel2 hUs hE hnE hnx hbl hn hr0 hany hlen
  obtain ⟨aa, ac, rfl⟩ : ∃ aa ac, av = .slice aa A.length ac := by
    rcases rowForms ht.2.1 with ⟨e1, e2⟩ | ⟨g, cc, e1⟩
    · exact ⟨none, 0, by rw [e1, e2]⟩
    · exact ⟨_, _, e1⟩
  have HAV : Hid (∀ j, (Value.slice aa A.length ac).ownBlock = some j → j < w.heap.size) := Lib.hid fun j hj => (ht.2.1.lt j hj).2
  have HTB : Hid (Tb < w.heap.size) := Lib.hid (lt_of_block ht.1)
  obtain ⟨tv, fv, hv⟩ := h0
  have hbw := hv.bw
  have hRm := hv.hi
  have hmw := hv.mw
  have d0 := hv.q.c0
  have HV := Lib.hid hv
  have HT := Lib.hid ht
  clear hv ht
  go_enter Tryz.func105, Tryz.ntmps105
  go_wp2_with fail
  (with_reducible refine (CU.out _ _ _ _ _ HV.out.q).mono ?_)
  rintro e w1 ⟨rfl, b1⟩
  have HV1 := Lib.hid (HV.out.below b1)
  have HT1 := Lib.hid (HT.out.below b1)
  have B1 := b1.mono hbw
  have S1 := b1.size
  clear b1 HV HT CU d0
  have d0 := HV1.out.q.c0
  go_wp2_with fail
  (with_reducible refine (CL.out _).mono ?_)
  rintro e w2 ⟨rfl, b2⟩
  have al := (Below.refl w2.heap.size w2).alloc (Nat.le_refl _) (.cells #[.string X, .string ⟨#[]⟩] 105)
  have HV3 := Lib.hid ((HV1.out.below b2).below al)
  have HT3 := Lib.hid ((HT1.out.below b2).below al)
  have HA3 : Hid (AX (w2.alloc (.cells #[.string X, .string ⟨#[]⟩] 105)) w2.heap.size X ⟨#[]⟩) := Lib.hid (new_block w2 _)
  have S2 : w.heap.size ≤ w2.heap.size := Nat.le_trans S1 b2.size
  have B3 := (B1.trans (b2.mono (Nat.le_trans hbw S1))).trans (al.mono (Nat.le_trans hbw S2))
  have HAB : Hid (m ≤ w2.heap.size ∧ w.heap.size ≤ w2.heap.size) := Lib.hid ⟨Nat.le_trans hmw S2, S2⟩
  have e0 := HT3.out.1.c0
  have e1' := HT3.out.1.c1
  have e2' := HT3.out.1.c2
  have e3 := HT3.out.1.c3
  have e4 := HT3.out.1.c4
  have a0 := HA3.out.c0
  have d0 := HV3.out.q.c0
  clear b2 al HV1 HT1 B1 CL S1 S2
  go_wp2_with fail
  generalize w2.alloc (.cells #[.string X, .string ⟨#[]⟩] 105) = w3 at HV3 HT3 HA3 B3 e0 e1' e2' e3 e4 a0 d0 ⊢
  generalize w2.heap.size = Ab at HA3 HAB a0 ⊢
  have har : AttrsBy w3 m w3.heap.size (.slice aa A.length ac) A := ⟨HT3.out.2.1, fun j hj => (HT3.out.2.1.lt j hj).2⟩
  have CH3 := Lib.hid ((CH NM c m w3.heap.size aa ac).out w3.drew (har.below (Below.refl _ _).drew))
  go_region_law (go_simp
                 go_at_call 127
                 (with_reducible refine CH3.out.mono ?_)
                 rintro e w4 ⟨rfl, b4⟩
                 have b5 : Below w3.heap.size w3 w4 := (Below.refl _ _).drew.trans b4
                 have HV4 := Lib.hid (HV3.out.below b5)
                 have HT4 := Lib.hid (HT3.out.below b5)
                 have HA4 := Lib.hid (HA3.out.below b5)
                 have B4 := B3.trans (b5.mono HV3.out.bw)
                 clear b4 b5)
  all_goals
    clear HV3 HT3 HA3 B3 e0 e1' e2' e3 e4 a0 d0 CH3 CH har
    have e3 := HT4.out.1.c3
    have HV5 := Lib.hid HV4.out.form
    have HT5 := HT4
    have HA5 := HA4
    have B5 := B4
    clear HV4 HT4 HA4 B4
    obtain ⟨tv5, fv5, q5⟩ := HV5.out.q
    have d0 := q5.c0
    go_wp2_with fail
    (with_reducible refine (CB.out _ _ _ _ _ q5).mono ?_)
    rintro e w5 ⟨rfl, rfl⟩
    go_wp2_with fail
    (with_reducible refine (CZ.out _ _ _ _ _ q5).mono ?_)
    rintro e w5 ⟨rfl, rfl⟩
    go_wp2_with fail
    (with_reducible refine (CV.out _ _ _ _ _ _ _ _ HV5.out (by omega)).mono ?_)
    rintro e w6 ⟨rfl, h6, k6⟩
    have HA6 := Lib.hid (HA5.out.kp k6 (fun e => by
      have := HAB.out.1
      rcases e with e | e
      · omega
      · exact absurd e.2 (by decide)))
    have ha7 := HA6.out.set1 V
    have ks := HA6.out.kset 1 (.string V)
    have ks2 : Kp (frA m) w6 (w6.setCell ⟨Ab, 1, none⟩ (.string V)) := Kp.of_set HA6.out _ ⟨HAB.out.1, .inr rfl⟩
    have HV7 := Lib.hid (h6.side ks2)
    have ht6 := HT5.out.frD k6 hRm
    have HT7 := Lib.hid (ht6.apart ks (Nat.lt_of_lt_of_le HTB.out HAB.out.2) fun j hj => Nat.lt_of_lt_of_le (HAV.out j hj) HAB.out.2)
    have HA7 := Lib.hid ha7
    have B7 := (B5.trans (HV5.out.frb k6)).trans (h6.sideb ks2)
    have a1 := HA6.out.c1
    have f1 := HA6.out.free 1
    clear h6 k6 ha7 ks ks2 ht6 HV5 HT5 HA5 B5 HA6 q5 d0 CV CZ CB
    have a0 := HA7.out.c0
    have a1' := HA7.out.c1
    have e3 := HT7.out.1.c3
    have f3 := HT7.out.1.free 3
    have hrow := HT7.out.2.1
    have hmw : m ≤ (w6.setCell ⟨Ab, 1, none⟩ (.string V)).heap.size := HV7.out.mw
    go_wp2_with fail
    generalize w6.setCell ⟨Ab, 1, none⟩ (.string V) = wc at HV7 HT7 HA7 B7 a0 a1' e3 f3 hrow hmw ⊢
    obtain ⟨i1, hi1, hy0, hy1, hy2⟩ := info_parts TinfoA
    have e3'' := (HT7.out.below ((Below.refl _ _).alloc (Nat.le_refl _) (.cells #[.string X, .string V] 105))).1.c3
    go_region_law (refine step_append_lies _ (by rfl) (.tmp 95) (.tmp 97) 45 (by rfl) m 105 i1 (.agg #[.string ⟨#[]⟩, .string ⟨#[]⟩]) 2 32 Tryz.underlying45 hi1 hy0 hy1 hy2 rfl (by decide) _ _ _ (by rfl) (hrow.alloc _) ⟨wc.heap.size, 0, none⟩ 1 1 [.string X, .string V] (by rfl) rfl (World.news_of_block (new_block _ _)) (by intro u hu; simp at hu; rcases hu with rfl | rfl <;> rfl) (by decide) (by unfold maxLen; omega) (by omega) (by simp; omega) _ rfl ?_
                   intro gg cap w7 hown7 hgrow7 hat7 hlt7
                   have hne : (Value.slice aa A.length ac).ownBlock ≠ some Tb := row_ne hrow HT7.out.1 (by decide)
                   have t7 : TX w7 Tb 2 NM (.slice aa A.length ac) c := by
                     have h1 : TX (wc.alloc (.cells #[.string X, .string V] 105)) Tb 2 NM (.slice aa A.length ac) c := HT7.out.1.kp (Kp.of_below ((Below.refl _ _).alloc (Nat.le_refl _) _) (P := fun _ _ => False)) (fun e => e)
                     unfold TX at h1 ⊢
                     rw [hgrow7.block Tb (lt_of_block h1) (fun e => hne e.symm)]
                     exact h1
                   have e37 := t7.c3
                   have f37 := t7.free 3)
    all_goals
      have hgrow7 : (wc.alloc (.cells #[.string X, .string V] 105)).grownBy w7 (Value.slice aa A.length ac).ownBlock := ⟨hgrow7.os, hgrow7.tape, hgrow7.output, hgrow7.size, hgrow7.block⟩
      have kk7 : Kp (frA m) wc w7 := (Kp.of_below ((Below.refl _ _).alloc (Nat.le_refl _) (.cells #[.string X, .string V] 105))).trans (Kp.of_grown hgrow7 (fun q c t fr hq hh => by
        obtain ⟨cur, h1, h2, _⟩ := row_block (hrow.alloc (.cells #[.string X, .string V] 105)) hq
        rw [hh] at h1
        cases h1
        exact ⟨h2, .inr rfl⟩) fun q hq => by
        obtain ⟨cur, h1, _⟩ := row_block (hrow.alloc (.cells #[.string X, .string V] 105)) hq
        exact ⟨_, _, _, h1⟩)
      have HS7 := Lib.hid (t7.set3 (.slice (some ⟨gg, 0, none⟩) (A.length + 1) cap))
      have HK8 : Hid (Kp (frA m) wc (w7.setCell ⟨Tb, 3, none⟩ (.slice (some ⟨gg, 0, none⟩) (A.length + 1) cap))) := Lib.hid (kk7.trans (Kp.of_set t7 _ ⟨HT7.out.2.2, .inl rfl⟩))
      have HO7 : Hid ((w7.setCell ⟨Tb, 3, none⟩ (.slice (some ⟨gg, 0, none⟩) (A.length + 1) cap)).ownsRow m 105 2 (.slice (some ⟨gg, 0, none⟩) (A.length + 1) cap) (A ++ [(X.data.toList, (V : ByteArray).data.toList)]).length (atC (A ++ [(X.data.toList, (V : ByteArray).data.toList)]))) := Lib.hid (by
        have h1 : w7.ownsRow m 105 2 (.slice (some ⟨gg, 0, none⟩) (A.length + 1) cap) (A ++ [(X.data.toList, (V : ByteArray).data.toList)]).length (atC (A ++ [(X.data.toList, (V : ByteArray).data.toList)])) := by
          rw [atC_snoc, List.length_append, strV_of (T := X) rfl, strV_of (T := V) rfl]; exact hown7
        exact (Kp.of_set (P := fun k _ => k = Tb) t7 _ rfl).row h1 fun j hj _ e => row_ne h1 t7 (by decide) (by rw [hj, e]))
      clear hown7 hgrow7 hat7 hlt7 t7 kk7
      go_wp2
      go_ret
      have k8 := HK8.out
      exact ⟨rfl, HV7.out.side k8, ⟨_, HS7.out, HO7.out, HT7.out.2.2⟩, B7.trans (HV7.out.sideb k8)⟩

set_option maxRecDepth 100000 in
set_option maxHeartbeats 16000000 in
theorem attrQ_0_no (s X U : ByteArray) (n e1 b : Nat) (A : List (List UInt8 × List UInt8)) (he : 1 + ((s.data.toList.drop n).drop 1).findIdx attrE = e1) (hU : U.data.toList = (s.data.toList.drop n).take e1) (hX : X.data.toList = low U.data.toList) (hb : (s.data.toList.drop (n + e1)).findIdx blkE = b) (hq : s.data.toList[n + e1 + b]? = none) (hr0 : refM A X.data.toList = 0) (hA : A.length ≤ 30) (hn : n < s.size) (hs : s.size ≤ 20000) : Hid (∀ W B m Q Tb NM c av n0 T F x, QS W B m Q s n0 T F x → TA W m Tb 2 NM A c av → F.length ≤ 300000 → Calls Tryz.prog 105 #[.pointer (some ⟨Q, 0, none⟩), .pointer (some ⟨Tb, 0, none⟩), .int .i64 (n : Int)] W fun en w' => en = .returned (.int .i64 ((n + e1 : Nat) : Int)) ∧ QS w' B m Q s n0 T (F) x ∧ (∃ av', TA w' m Tb 2 NM (A ++ [(X.data.toList, (⟨#[]⟩ : ByteArray).data.toList)]) c av') ∧ Below B W w') := Lib.hid fun w B m Q Tb NM c av n0 T F x h0 ht hF => by
  have hel := find_le attrE s (n + 1) (by omega)
  rw [show s.data.toList.drop (n + 1) = (s.data.toList.drop n).drop 1 by rw [List.drop_drop]] at hel
  have hel2 : n + e1 ≤ s.size := by omega
  have CU := upto_hid Q s ⟨#[9, 10, 12, 13, 32, 47, 62, 61]⟩ (n + 1) (by omega) (by omega) (by decide)
  rw [show (⟨#[9, 10, 12, 13, 32, 47, 62, 61]⟩ : ByteArray).data.toList = [9, 10, 12, 13, 32, 47, 62, 61] from rfl, inL_attr, show s.data.toList.drop (n + 1) = (s.data.toList.drop n).drop 1 by rw [List.drop_drop], show n + 1 + ((s.data.toList.drop n).drop 1).findIdx attrE = n + e1 by omega, show (((n + 1 : Nat)) : Int) = (n : Int) + 1 by push_cast; rfl] at CU
  have hUs : U.size ≤ 20000 := by rw [← lsize, hU, List.length_take, List.length_drop, lsize]; omega
  have CL := refLower_hid U X hX (by omega)
  obtain ⟨E, hE⟩ : ∃ E, n + e1 = E := ⟨_, rfl⟩
  have hnE : n ≤ E := by omega
  have g1 := slice_mid s U n E hnE (by omega) (by rw [hU]; congr 1; omega)
  have CB := blanksR_hid Q s E (by omega) (by omega)
  have hbl := find_le blkE s E (by omega)
  rw [hE] at CU hb hq hel2 ⊢
  rw [hb] at CB hbl
  obtain ⟨nx, hnx⟩ : ∃ nx, E + b = nx := ⟨_, rfl⟩
  rw [hnx] at CB hbl hq
  have z1 : (0 : Int) ≤ (n : Int) := by omega
  have z2 : (n : Int) ≤ 20000 := by omega
  have z3 : (0 : Int) ≤ (nx : Int) := by omega
  have z4 : (nx : Int) ≤ 20000 := by omega
  have z5 : (A.length : Int) ≤ 30 := by omega
  have hlt := get_none hq
  have z6 : ¬ (nx : Int) < (s.size : Int) := by omega
  clear hlt
  have hany : A.any (fun y => y.1 == X.data.toList) = false := by
    unfold refM at hr0
    cases h : A.any (fun y => y.1 == X.data.toList) with
    | false => rfl
    | true =>
      rw [h, if_pos rfl] at hr0
      cases hr0
  have hlen : ¬ A.length = 30 := by
    unfold refM at hr0
    rw [hany, if_neg (by simp)] at hr0
    split at hr0
    · cases hr0
    · assumption
  have z7 : ¬ (30 : Int) ≤ (A.length : Int) := by omega
  have CH := fun (NM : ByteArray) (c : Bool) (B m : Nat) (a : Option Addr) (cap : Nat) => hasQ_hid A X NM 2 c _ hany B m a cap (by omega)
  clear he hU hX hb hq hel hel2 hUs hE hnE hnx hbl hn hr0 hany hlen
  obtain ⟨aa, ac, rfl⟩ : ∃ aa ac, av = .slice aa A.length ac := by
    rcases rowForms ht.2.1 with ⟨e1, e2⟩ | ⟨g, cc, e1⟩
    · exact ⟨none, 0, by rw [e1, e2]⟩
    · exact ⟨_, _, e1⟩
  have HAV : Hid (∀ j, (Value.slice aa A.length ac).ownBlock = some j → j < w.heap.size) := Lib.hid fun j hj => (ht.2.1.lt j hj).2
  have HTB : Hid (Tb < w.heap.size) := Lib.hid (lt_of_block ht.1)
  obtain ⟨tv, fv, hv⟩ := h0
  have hbw := hv.bw
  have hRm := hv.hi
  have hmw := hv.mw
  have d0 := hv.q.c0
  have HV := Lib.hid hv
  have HT := Lib.hid ht
  clear hv ht
  go_enter Tryz.func105, Tryz.ntmps105
  go_wp2_with fail
  (with_reducible refine (CU.out _ _ _ _ _ HV.out.q).mono ?_)
  rintro e w1 ⟨rfl, b1⟩
  have HV1 := Lib.hid (HV.out.below b1)
  have HT1 := Lib.hid (HT.out.below b1)
  have B1 := b1.mono hbw
  have S1 := b1.size
  clear b1 HV HT CU d0
  have d0 := HV1.out.q.c0
  go_wp2_with fail
  (with_reducible refine (CL.out _).mono ?_)
  rintro e w2 ⟨rfl, b2⟩
  have al := (Below.refl w2.heap.size w2).alloc (Nat.le_refl _) (.cells #[.string X, .string ⟨#[]⟩] 105)
  have HV3 := Lib.hid ((HV1.out.below b2).below al)
  have HT3 := Lib.hid ((HT1.out.below b2).below al)
  have HA3 : Hid (AX (w2.alloc (.cells #[.string X, .string ⟨#[]⟩] 105)) w2.heap.size X ⟨#[]⟩) := Lib.hid (new_block w2 _)
  have S2 : w.heap.size ≤ w2.heap.size := Nat.le_trans S1 b2.size
  have B3 := (B1.trans (b2.mono (Nat.le_trans hbw S1))).trans (al.mono (Nat.le_trans hbw S2))
  have HAB : Hid (m ≤ w2.heap.size ∧ w.heap.size ≤ w2.heap.size) := Lib.hid ⟨Nat.le_trans hmw S2, S2⟩
  have e0 := HT3.out.1.c0
  have e1' := HT3.out.1.c1
  have e2' := HT3.out.1.c2
  have e3 := HT3.out.1.c3
  have e4 := HT3.out.1.c4
  have a0 := HA3.out.c0
  have d0 := HV3.out.q.c0
  clear b2 al HV1 HT1 B1 CL S1 S2
  go_wp2_with fail
  generalize w2.alloc (.cells #[.string X, .string ⟨#[]⟩] 105) = w3 at HV3 HT3 HA3 B3 e0 e1' e2' e3 e4 a0 d0 ⊢
  generalize w2.heap.size = Ab at HA3 HAB a0 ⊢
  have har : AttrsBy w3 m w3.heap.size (.slice aa A.length ac) A := ⟨HT3.out.2.1, fun j hj => (HT3.out.2.1.lt j hj).2⟩
  have CH3 := Lib.hid ((CH NM c m w3.heap.size aa ac).out w3.drew (har.below (Below.refl _ _).drew))
  go_region_law (go_simp
                 go_at_call 127
                 (with_reducible refine CH3.out.mono ?_)
                 rintro e w4 ⟨rfl, b4⟩
                 have b5 : Below w3.heap.size w3 w4 := (Below.refl _ _).drew.trans b4
                 have HV4 := Lib.hid (HV3.out.below b5)
                 have HT4 := Lib.hid (HT3.out.below b5)
                 have HA4 := Lib.hid (HA3.out.below b5)
                 have B4 := B3.trans (b5.mono HV3.out.bw)
                 clear b4 b5)
  all_goals
    clear HV3 HT3 HA3 B3 e0 e1' e2' e3 e4 a0 d0 CH3 CH har
    have e3 := HT4.out.1.c3
    have HV5 := Lib.hid HV4.out.form
    have HT5 := HT4
    have HA5 := HA4
    have B5 := B4
    clear HV4 HT4 HA4 B4
    obtain ⟨tv5, fv5, q5⟩ := HV5.out.q
    have d0 := q5.c0
    go_wp2_with fail
    (with_reducible refine (CB.out _ _ _ _ _ q5).mono ?_)
    rintro e w5 ⟨rfl, rfl⟩
    have HV7 := HV5
    have HT7 := HT5
    have HA7 := HA5
    have B7 := B5
    clear HV5 HT5 HA5 B5 q5 CB
    have a0 := HA7.out.c0
    have a1' := HA7.out.c1
    have e3 := HT7.out.1.c3
    have f3 := HT7.out.1.free 3
    have hrow := HT7.out.2.1
    have hmw : m ≤ w5.heap.size := HV7.out.mw
    go_wp2_with fail
    obtain ⟨wc, rfl⟩ : ∃ wc : World, wc = w5 := ⟨_, rfl⟩
    obtain ⟨i1, hi1, hy0, hy1, hy2⟩ := info_parts TinfoA
    have e3'' := (HT7.out.below ((Below.refl _ _).alloc (Nat.le_refl _) (.cells #[.string X, .string ⟨#[]⟩] 105))).1.c3
    go_region_law (refine step_append_lies _ (by rfl) (.tmp 95) (.tmp 97) 45 (by rfl) m 105 i1 (.agg #[.string ⟨#[]⟩, .string ⟨#[]⟩]) 2 32 Tryz.underlying45 hi1 hy0 hy1 hy2 rfl (by decide) _ _ _ (by rfl) (hrow.alloc _) ⟨wc.heap.size, 0, none⟩ 1 1 [.string X, .string ⟨#[]⟩] (by rfl) rfl (World.news_of_block (new_block _ _)) (by intro u hu; simp at hu; rcases hu with rfl | rfl <;> rfl) (by decide) (by unfold maxLen; omega) (by omega) (by simp; omega) _ rfl ?_
                   intro gg cap w7 hown7 hgrow7 hat7 hlt7
                   have hne : (Value.slice aa A.length ac).ownBlock ≠ some Tb := row_ne hrow HT7.out.1 (by decide)
                   have t7 : TX w7 Tb 2 NM (.slice aa A.length ac) c := by
                     have h1 : TX (wc.alloc (.cells #[.string X, .string ⟨#[]⟩] 105)) Tb 2 NM (.slice aa A.length ac) c := HT7.out.1.kp (Kp.of_below ((Below.refl _ _).alloc (Nat.le_refl _) _) (P := fun _ _ => False)) (fun e => e)
                     unfold TX at h1 ⊢
                     rw [hgrow7.block Tb (lt_of_block h1) (fun e => hne e.symm)]
                     exact h1
                   have e37 := t7.c3
                   have f37 := t7.free 3)
    all_goals
      have hgrow7 : (wc.alloc (.cells #[.string X, .string ⟨#[]⟩] 105)).grownBy w7 (Value.slice aa A.length ac).ownBlock := ⟨hgrow7.os, hgrow7.tape, hgrow7.output, hgrow7.size, hgrow7.block⟩
      have kk7 : Kp (frA m) wc w7 := (Kp.of_below ((Below.refl _ _).alloc (Nat.le_refl _) (.cells #[.string X, .string ⟨#[]⟩] 105))).trans (Kp.of_grown hgrow7 (fun q c t fr hq hh => by
        obtain ⟨cur, h1, h2, _⟩ := row_block (hrow.alloc (.cells #[.string X, .string ⟨#[]⟩] 105)) hq
        rw [hh] at h1
        cases h1
        exact ⟨h2, .inr rfl⟩) fun q hq => by
        obtain ⟨cur, h1, _⟩ := row_block (hrow.alloc (.cells #[.string X, .string ⟨#[]⟩] 105)) hq
        exact ⟨_, _, _, h1⟩)
      have HS7 := Lib.hid (t7.set3 (.slice (some ⟨gg, 0, none⟩) (A.length + 1) cap))
      have HK8 : Hid (Kp (frA m) wc (w7.setCell ⟨Tb, 3, none⟩ (.slice (some ⟨gg, 0, none⟩) (A.length + 1) cap))) := Lib.hid (kk7.trans (Kp.of_set t7 _ ⟨HT7.out.2.2, .inl rfl⟩))
      have HO7 : Hid ((w7.setCell ⟨Tb, 3, none⟩ (.slice (some ⟨gg, 0, none⟩) (A.length + 1) cap)).ownsRow m 105 2 (.slice (some ⟨gg, 0, none⟩) (A.length + 1) cap) (A ++ [(X.data.toList, (⟨#[]⟩ : ByteArray).data.toList)]).length (atC (A ++ [(X.data.toList, (⟨#[]⟩ : ByteArray).data.toList)]))) := Lib.hid (by
        have h1 : w7.ownsRow m 105 2 (.slice (some ⟨gg, 0, none⟩) (A.length + 1) cap) (A ++ [(X.data.toList, (⟨#[]⟩ : ByteArray).data.toList)]).length (atC (A ++ [(X.data.toList, (⟨#[]⟩ : ByteArray).data.toList)])) := by
          rw [atC_snoc, List.length_append, strV_of (T := X) rfl, strV_of (T := ⟨#[]⟩) rfl]; exact hown7
        exact (Kp.of_set (P := fun k _ => k = Tb) t7 _ rfl).row h1 fun j hj _ e => row_ne h1 t7 (by decide) (by rw [hj, e]))
      clear hown7 hgrow7 hat7 hlt7 t7 kk7
      go_wp2
      go_ret
      have k8 := HK8.out
      exact ⟨rfl, HV7.out.side k8, ⟨_, HS7.out, HO7.out, HT7.out.2.2⟩, B7.trans (HV7.out.sideb k8)⟩

set_option maxRecDepth 100000 in
set_option maxHeartbeats 16000000 in
theorem attrQ_0_other (s X U : ByteArray) (n e1 b : Nat) (A : List (List UInt8 × List UInt8)) (d : UInt8) (he : 1 + ((s.data.toList.drop n).drop 1).findIdx attrE = e1) (hU : U.data.toList = (s.data.toList.drop n).take e1) (hX : X.data.toList = low U.data.toList) (hb : (s.data.toList.drop (n + e1)).findIdx blkE = b) (hq : s.data.toList[n + e1 + b]? = some d) (hd : d ≠ 61) (hr0 : refM A X.data.toList = 0) (hA : A.length ≤ 30) (hn : n < s.size) (hs : s.size ≤ 20000) : Hid (∀ W B m Q Tb NM c av n0 T F x, QS W B m Q s n0 T F x → TA W m Tb 2 NM A c av → F.length ≤ 300000 → Calls Tryz.prog 105 #[.pointer (some ⟨Q, 0, none⟩), .pointer (some ⟨Tb, 0, none⟩), .int .i64 (n : Int)] W fun en w' => en = .returned (.int .i64 ((n + e1 : Nat) : Int)) ∧ QS w' B m Q s n0 T (F) x ∧ (∃ av', TA w' m Tb 2 NM (A ++ [(X.data.toList, (⟨#[]⟩ : ByteArray).data.toList)]) c av') ∧ Below B W w') := Lib.hid fun w B m Q Tb NM c av n0 T F x h0 ht hF => by
  have hel := find_le attrE s (n + 1) (by omega)
  rw [show s.data.toList.drop (n + 1) = (s.data.toList.drop n).drop 1 by rw [List.drop_drop]] at hel
  have hel2 : n + e1 ≤ s.size := by omega
  have CU := upto_hid Q s ⟨#[9, 10, 12, 13, 32, 47, 62, 61]⟩ (n + 1) (by omega) (by omega) (by decide)
  rw [show (⟨#[9, 10, 12, 13, 32, 47, 62, 61]⟩ : ByteArray).data.toList = [9, 10, 12, 13, 32, 47, 62, 61] from rfl, inL_attr, show s.data.toList.drop (n + 1) = (s.data.toList.drop n).drop 1 by rw [List.drop_drop], show n + 1 + ((s.data.toList.drop n).drop 1).findIdx attrE = n + e1 by omega, show (((n + 1 : Nat)) : Int) = (n : Int) + 1 by push_cast; rfl] at CU
  have hUs : U.size ≤ 20000 := by rw [← lsize, hU, List.length_take, List.length_drop, lsize]; omega
  have CL := refLower_hid U X hX (by omega)
  obtain ⟨E, hE⟩ : ∃ E, n + e1 = E := ⟨_, rfl⟩
  have hnE : n ≤ E := by omega
  have g1 := slice_mid s U n E hnE (by omega) (by rw [hU]; congr 1; omega)
  have CB := blanksR_hid Q s E (by omega) (by omega)
  have hbl := find_le blkE s E (by omega)
  rw [hE] at CU hb hq hel2 ⊢
  rw [hb] at CB hbl
  obtain ⟨nx, hnx⟩ : ∃ nx, E + b = nx := ⟨_, rfl⟩
  rw [hnx] at CB hbl hq
  have z1 : (0 : Int) ≤ (n : Int) := by omega
  have z2 : (n : Int) ≤ 20000 := by omega
  have z3 : (0 : Int) ≤ (nx : Int) := by omega
  have z4 : (nx : Int) ≤ 20000 := by omega
  have z5 : (A.length : Int) ≤ 30 := by omega
  have hlt := get_some hq
  have z6 : (nx : Int) < (s.size : Int) := by omega
  have i0 := index_ty Tryz.underlying9 s nx d hq
  have g61 : ((d.toNat : Int) == 61) = false := by rw [beq_eq_false_iff_ne]; exact fun e => hd (byte_is (d := 61) e)
  clear hlt hd
  have hany : A.any (fun y => y.1 == X.data.toList) = false := by
    unfold refM at hr0
    cases h : A.any (fun y => y.1 == X.data.toList) with
    | false => rfl
    | true =>
      rw [h, if_pos rfl] at hr0
      cases hr0
  have hlen : ¬ A.length = 30 := by
    unfold refM at hr0
    rw [hany, if_neg (by simp)] at hr0
    split at hr0
    · cases hr0
    · assumption
  have z7 : ¬ (30 : Int) ≤ (A.length : Int) := by omega
  have CH := fun (NM : ByteArray) (c : Bool) (B m : Nat) (a : Option Addr) (cap : Nat) => hasQ_hid A X NM 2 c _ hany B m a cap (by omega)
  clear he hU hX hb hq hel hel2 hUs hE hnE hnx hbl hn hr0 hany hlen
  obtain ⟨aa, ac, rfl⟩ : ∃ aa ac, av = .slice aa A.length ac := by
    rcases rowForms ht.2.1 with ⟨e1, e2⟩ | ⟨g, cc, e1⟩
    · exact ⟨none, 0, by rw [e1, e2]⟩
    · exact ⟨_, _, e1⟩
  have HAV : Hid (∀ j, (Value.slice aa A.length ac).ownBlock = some j → j < w.heap.size) := Lib.hid fun j hj => (ht.2.1.lt j hj).2
  have HTB : Hid (Tb < w.heap.size) := Lib.hid (lt_of_block ht.1)
  obtain ⟨tv, fv, hv⟩ := h0
  have hbw := hv.bw
  have hRm := hv.hi
  have hmw := hv.mw
  have d0 := hv.q.c0
  have HV := Lib.hid hv
  have HT := Lib.hid ht
  clear hv ht
  go_enter Tryz.func105, Tryz.ntmps105
  go_wp2_with fail
  (with_reducible refine (CU.out _ _ _ _ _ HV.out.q).mono ?_)
  rintro e w1 ⟨rfl, b1⟩
  have HV1 := Lib.hid (HV.out.below b1)
  have HT1 := Lib.hid (HT.out.below b1)
  have B1 := b1.mono hbw
  have S1 := b1.size
  clear b1 HV HT CU d0
  have d0 := HV1.out.q.c0
  go_wp2_with fail
  (with_reducible refine (CL.out _).mono ?_)
  rintro e w2 ⟨rfl, b2⟩
  have al := (Below.refl w2.heap.size w2).alloc (Nat.le_refl _) (.cells #[.string X, .string ⟨#[]⟩] 105)
  have HV3 := Lib.hid ((HV1.out.below b2).below al)
  have HT3 := Lib.hid ((HT1.out.below b2).below al)
  have HA3 : Hid (AX (w2.alloc (.cells #[.string X, .string ⟨#[]⟩] 105)) w2.heap.size X ⟨#[]⟩) := Lib.hid (new_block w2 _)
  have S2 : w.heap.size ≤ w2.heap.size := Nat.le_trans S1 b2.size
  have B3 := (B1.trans (b2.mono (Nat.le_trans hbw S1))).trans (al.mono (Nat.le_trans hbw S2))
  have HAB : Hid (m ≤ w2.heap.size ∧ w.heap.size ≤ w2.heap.size) := Lib.hid ⟨Nat.le_trans hmw S2, S2⟩
  have e0 := HT3.out.1.c0
  have e1' := HT3.out.1.c1
  have e2' := HT3.out.1.c2
  have e3 := HT3.out.1.c3
  have e4 := HT3.out.1.c4
  have a0 := HA3.out.c0
  have d0 := HV3.out.q.c0
  clear b2 al HV1 HT1 B1 CL S1 S2
  go_wp2_with fail
  generalize w2.alloc (.cells #[.string X, .string ⟨#[]⟩] 105) = w3 at HV3 HT3 HA3 B3 e0 e1' e2' e3 e4 a0 d0 ⊢
  generalize w2.heap.size = Ab at HA3 HAB a0 ⊢
  have har : AttrsBy w3 m w3.heap.size (.slice aa A.length ac) A := ⟨HT3.out.2.1, fun j hj => (HT3.out.2.1.lt j hj).2⟩
  have CH3 := Lib.hid ((CH NM c m w3.heap.size aa ac).out w3.drew (har.below (Below.refl _ _).drew))
  go_region_law (go_simp
                 go_at_call 127
                 (with_reducible refine CH3.out.mono ?_)
                 rintro e w4 ⟨rfl, b4⟩
                 have b5 : Below w3.heap.size w3 w4 := (Below.refl _ _).drew.trans b4
                 have HV4 := Lib.hid (HV3.out.below b5)
                 have HT4 := Lib.hid (HT3.out.below b5)
                 have HA4 := Lib.hid (HA3.out.below b5)
                 have B4 := B3.trans (b5.mono HV3.out.bw)
                 clear b4 b5)
  all_goals
    clear HV3 HT3 HA3 B3 e0 e1' e2' e3 e4 a0 d0 CH3 CH har
    have e3 := HT4.out.1.c3
    have HV5 := Lib.hid HV4.out.form
    have HT5 := HT4
    have HA5 := HA4
    have B5 := B4
    clear HV4 HT4 HA4 B4
    obtain ⟨tv5, fv5, q5⟩ := HV5.out.q
    have d0 := q5.c0
    go_wp2_with fail
    (with_reducible refine (CB.out _ _ _ _ _ q5).mono ?_)
    rintro e w5 ⟨rfl, rfl⟩
    have HV7 := HV5
    have HT7 := HT5
    have HA7 := HA5
    have B7 := B5
    clear HV5 HT5 HA5 B5 q5 CB
    have a0 := HA7.out.c0
    have a1' := HA7.out.c1
    have e3 := HT7.out.1.c3
    have f3 := HT7.out.1.free 3
    have hrow := HT7.out.2.1
    have hmw : m ≤ w5.heap.size := HV7.out.mw
    go_wp2_with fail
    obtain ⟨wc, rfl⟩ : ∃ wc : World, wc = w5 := ⟨_, rfl⟩
    obtain ⟨i1, hi1, hy0, hy1, hy2⟩ := info_parts TinfoA
    have e3'' := (HT7.out.below ((Below.refl _ _).alloc (Nat.le_refl _) (.cells #[.string X, .string ⟨#[]⟩] 105))).1.c3
    go_region_law (refine step_append_lies _ (by rfl) (.tmp 95) (.tmp 97) 45 (by rfl) m 105 i1 (.agg #[.string ⟨#[]⟩, .string ⟨#[]⟩]) 2 32 Tryz.underlying45 hi1 hy0 hy1 hy2 rfl (by decide) _ _ _ (by rfl) (hrow.alloc _) ⟨wc.heap.size, 0, none⟩ 1 1 [.string X, .string ⟨#[]⟩] (by rfl) rfl (World.news_of_block (new_block _ _)) (by intro u hu; simp at hu; rcases hu with rfl | rfl <;> rfl) (by decide) (by unfold maxLen; omega) (by omega) (by simp; omega) _ rfl ?_
                   intro gg cap w7 hown7 hgrow7 hat7 hlt7
                   have hne : (Value.slice aa A.length ac).ownBlock ≠ some Tb := row_ne hrow HT7.out.1 (by decide)
                   have t7 : TX w7 Tb 2 NM (.slice aa A.length ac) c := by
                     have h1 : TX (wc.alloc (.cells #[.string X, .string ⟨#[]⟩] 105)) Tb 2 NM (.slice aa A.length ac) c := HT7.out.1.kp (Kp.of_below ((Below.refl _ _).alloc (Nat.le_refl _) _) (P := fun _ _ => False)) (fun e => e)
                     unfold TX at h1 ⊢
                     rw [hgrow7.block Tb (lt_of_block h1) (fun e => hne e.symm)]
                     exact h1
                   have e37 := t7.c3
                   have f37 := t7.free 3)
    all_goals
      have hgrow7 : (wc.alloc (.cells #[.string X, .string ⟨#[]⟩] 105)).grownBy w7 (Value.slice aa A.length ac).ownBlock := ⟨hgrow7.os, hgrow7.tape, hgrow7.output, hgrow7.size, hgrow7.block⟩
      have kk7 : Kp (frA m) wc w7 := (Kp.of_below ((Below.refl _ _).alloc (Nat.le_refl _) (.cells #[.string X, .string ⟨#[]⟩] 105))).trans (Kp.of_grown hgrow7 (fun q c t fr hq hh => by
        obtain ⟨cur, h1, h2, _⟩ := row_block (hrow.alloc (.cells #[.string X, .string ⟨#[]⟩] 105)) hq
        rw [hh] at h1
        cases h1
        exact ⟨h2, .inr rfl⟩) fun q hq => by
        obtain ⟨cur, h1, _⟩ := row_block (hrow.alloc (.cells #[.string X, .string ⟨#[]⟩] 105)) hq
        exact ⟨_, _, _, h1⟩)
      have HS7 := Lib.hid (t7.set3 (.slice (some ⟨gg, 0, none⟩) (A.length + 1) cap))
      have HK8 : Hid (Kp (frA m) wc (w7.setCell ⟨Tb, 3, none⟩ (.slice (some ⟨gg, 0, none⟩) (A.length + 1) cap))) := Lib.hid (kk7.trans (Kp.of_set t7 _ ⟨HT7.out.2.2, .inl rfl⟩))
      have HO7 : Hid ((w7.setCell ⟨Tb, 3, none⟩ (.slice (some ⟨gg, 0, none⟩) (A.length + 1) cap)).ownsRow m 105 2 (.slice (some ⟨gg, 0, none⟩) (A.length + 1) cap) (A ++ [(X.data.toList, (⟨#[]⟩ : ByteArray).data.toList)]).length (atC (A ++ [(X.data.toList, (⟨#[]⟩ : ByteArray).data.toList)]))) := Lib.hid (by
        have h1 : w7.ownsRow m 105 2 (.slice (some ⟨gg, 0, none⟩) (A.length + 1) cap) (A ++ [(X.data.toList, (⟨#[]⟩ : ByteArray).data.toList)]).length (atC (A ++ [(X.data.toList, (⟨#[]⟩ : ByteArray).data.toList)])) := by
          rw [atC_snoc, List.length_append, strV_of (T := X) rfl, strV_of (T := ⟨#[]⟩) rfl]; exact hown7
        exact (Kp.of_set (P := fun k _ => k = Tb) t7 _ rfl).row h1 fun j hj _ e => row_ne h1 t7 (by decide) (by rw [hj, e]))
      clear hown7 hgrow7 hat7 hlt7 t7 kk7
      go_wp2
      go_ret
      have k8 := HK8.out
      exact ⟨rfl, HV7.out.side k8, ⟨_, HS7.out, HO7.out, HT7.out.2.2⟩, B7.trans (HV7.out.sideb k8)⟩

set_option maxRecDepth 100000 in
set_option maxHeartbeats 16000000 in
theorem attrQ_end_eq (s X V U : ByteArray) (n e1 b z g : Nat) (A : List (List UInt8 × List UInt8)) (r : Option ((List UInt8 × List Fl) × Nat)) (he : 1 + ((s.data.toList.drop n).drop 1).findIdx attrE = e1) (hU : U.data.toList = (s.data.toList.drop n).take e1) (hX : X.data.toList = low U.data.toList) (hb : (s.data.toList.drop (n + e1)).findIdx blkE = b) (hq : s.data.toList[n + e1 + b]? = some 61) (hz : (s.data.toList.drop (n + e1 + b + 1)).findIdx blkE = z) (hg : n + e1 + b + 1 + z = g) (hr : valueM g (s.data.toList.drop g) = r) (hV : V.data.toList = outD r) (hA : A.length ≤ 30) (hn : n < s.size) (hs : s.size ≤ 20000) : Hid (∀ W B m Q Tb NM c av n0 T F x, QS W B m Q s n0 T F x → TA W m Tb 3 NM A c av → F.length ≤ 300000 → Calls Tryz.prog 105 #[.pointer (some ⟨Q, 0, none⟩), .pointer (some ⟨Tb, 0, none⟩), .int .i64 (n : Int)] W fun en w' => en = .returned (.int .i64 (outV g r)) ∧ QS w' B m Q s n0 T ((F) ++ outF r) x ∧ (∃ av', TA w' m Tb 3 NM (A) c av') ∧ Below B W w') := Lib.hid fun w B m Q Tb NM c av n0 T F x h0 ht hF => by
  have hel := find_le attrE s (n + 1) (by omega)
  rw [show s.data.toList.drop (n + 1) = (s.data.toList.drop n).drop 1 by rw [List.drop_drop]] at hel
  have hel2 : n + e1 ≤ s.size := by omega
  have CU := upto_hid Q s ⟨#[9, 10, 12, 13, 32, 47, 62, 61]⟩ (n + 1) (by omega) (by omega) (by decide)
  rw [show (⟨#[9, 10, 12, 13, 32, 47, 62, 61]⟩ : ByteArray).data.toList = [9, 10, 12, 13, 32, 47, 62, 61] from rfl, inL_attr, show s.data.toList.drop (n + 1) = (s.data.toList.drop n).drop 1 by rw [List.drop_drop], show n + 1 + ((s.data.toList.drop n).drop 1).findIdx attrE = n + e1 by omega, show (((n + 1 : Nat)) : Int) = (n : Int) + 1 by push_cast; rfl] at CU
  have hUs : U.size ≤ 20000 := by rw [← lsize, hU, List.length_take, List.length_drop, lsize]; omega
  have CL := refLower_hid U X hX (by omega)
  obtain ⟨E, hE⟩ : ∃ E, n + e1 = E := ⟨_, rfl⟩
  have hnE : n ≤ E := by omega
  have g1 := slice_mid s U n E hnE (by omega) (by rw [hU]; congr 1; omega)
  have CB := blanksR_hid Q s E (by omega) (by omega)
  have hbl := find_le blkE s E (by omega)
  rw [hE] at CU hb hq hel2 hz hg
  rw [hb] at CB hbl
  obtain ⟨nx, hnx⟩ : ∃ nx, E + b = nx := ⟨_, rfl⟩
  rw [hnx] at CB hbl hq hz hg
  have z1 : (0 : Int) ≤ (n : Int) := by omega
  have z2 : (n : Int) ≤ 20000 := by omega
  have z3 : (0 : Int) ≤ (nx : Int) := by omega
  have z4 : (nx : Int) ≤ 20000 := by omega
  have z5 : (A.length : Int) ≤ 30 := by omega
  have hlt := get_some hq
  have z6 : (nx : Int) < (s.size : Int) := by omega
  have i0 := index_ty Tryz.underlying9 s nx 61 hq
  rw [show (((61 : UInt8).toNat : Nat) : Int) = 61 from rfl] at i0
  have CZ := blanksR_hid Q s (nx + 1) (by omega) (by omega)
  have hzl := find_le blkE s (nx + 1) (by omega)
  rw [hz, hg] at CZ
  rw [hz] at hzl
  rw [show (((nx + 1 : Nat)) : Int) = (nx : Int) + 1 by push_cast; rfl] at CZ
  have CV := valueQ_hid s V g (by omega) hs r hr hV
  obtain ⟨rv, hrv⟩ : ∃ rv, outV g r = rv := ⟨_, rfl⟩
  obtain ⟨vf, hvf⟩ : ∃ vf, outF r = vf := ⟨_, rfl⟩
  rw [hrv, hvf] at CV
  rw [hrv, hvf]
  clear hz hg hr hV hrv hvf hzl hlt
  clear he hU hX hb hq hel hel2 hUs hE hnE hnx hbl hn
  obtain ⟨aa, ac, rfl⟩ : ∃ aa ac, av = .slice aa A.length ac := by
    rcases rowForms ht.2.1 with ⟨e1, e2⟩ | ⟨g, cc, e1⟩
    · exact ⟨none, 0, by rw [e1, e2]⟩
    · exact ⟨_, _, e1⟩
  have HAV : Hid (∀ j, (Value.slice aa A.length ac).ownBlock = some j → j < w.heap.size) := Lib.hid fun j hj => (ht.2.1.lt j hj).2
  have HTB : Hid (Tb < w.heap.size) := Lib.hid (lt_of_block ht.1)
  obtain ⟨tv, fv, hv⟩ := h0
  have hbw := hv.bw
  have hRm := hv.hi
  have hmw := hv.mw
  have d0 := hv.q.c0
  have HV := Lib.hid hv
  have HT := Lib.hid ht
  clear hv ht
  go_enter Tryz.func105, Tryz.ntmps105
  go_wp2_with fail
  (with_reducible refine (CU.out _ _ _ _ _ HV.out.q).mono ?_)
  rintro e w1 ⟨rfl, b1⟩
  have HV1 := Lib.hid (HV.out.below b1)
  have HT1 := Lib.hid (HT.out.below b1)
  have B1 := b1.mono hbw
  have S1 := b1.size
  clear b1 HV HT CU d0
  have d0 := HV1.out.q.c0
  go_wp2_with fail
  (with_reducible refine (CL.out _).mono ?_)
  rintro e w2 ⟨rfl, b2⟩
  have al := (Below.refl w2.heap.size w2).alloc (Nat.le_refl _) (.cells #[.string X, .string ⟨#[]⟩] 105)
  have HV3 := Lib.hid ((HV1.out.below b2).below al)
  have HT3 := Lib.hid ((HT1.out.below b2).below al)
  have HA3 : Hid (AX (w2.alloc (.cells #[.string X, .string ⟨#[]⟩] 105)) w2.heap.size X ⟨#[]⟩) := Lib.hid (new_block w2 _)
  have S2 : w.heap.size ≤ w2.heap.size := Nat.le_trans S1 b2.size
  have B3 := (B1.trans (b2.mono (Nat.le_trans hbw S1))).trans (al.mono (Nat.le_trans hbw S2))
  have HAB : Hid (m ≤ w2.heap.size ∧ w.heap.size ≤ w2.heap.size) := Lib.hid ⟨Nat.le_trans hmw S2, S2⟩
  have e0 := HT3.out.1.c0
  have e1' := HT3.out.1.c1
  have e2' := HT3.out.1.c2
  have e3 := HT3.out.1.c3
  have e4 := HT3.out.1.c4
  have a0 := HA3.out.c0
  have d0 := HV3.out.q.c0
  clear b2 al HV1 HT1 B1 CL S1 S2
  go_wp2_with fail
  generalize w2.alloc (.cells #[.string X, .string ⟨#[]⟩] 105) = w3 at HV3 HT3 HA3 B3 e0 e1' e2' e3 e4 a0 d0 ⊢
  generalize w2.heap.size = Ab at HA3 HAB a0 ⊢
  go_quiet (fail)
  have b5 := belowN (Below.refl w3.heap.size w3) nq
  have HV4 := Lib.hid (HV3.out.below b5)
  have HT4 := Lib.hid (HT3.out.below b5)
  have HA4 := Lib.hid (HA3.out.below b5)
  have B4 := B3.trans (b5.mono HV3.out.bw)
  clear b5 HV3 HT3 HA3 B3 e0 e1' e2' e3 e4 a0 d0
  have HV5 := Lib.hid HV4.out.form
  have HT5 := HT4
  have HA5 := HA4
  have B5 := B4
  clear HV4 HT4 HA4 B4
  obtain ⟨tv5, fv5, q5⟩ := HV5.out.q
  have d0 := q5.c0
  go_wp2_with fail
  (with_reducible refine (CB.out _ _ _ _ _ q5).mono ?_)
  rintro e w5 ⟨rfl, rfl⟩
  go_wp2_with fail
  (with_reducible refine (CZ.out _ _ _ _ _ q5).mono ?_)
  rintro e w5 ⟨rfl, rfl⟩
  go_wp2_with fail
  (with_reducible refine (CV.out _ _ _ _ _ _ _ _ HV5.out (by omega)).mono ?_)
  rintro e w6 ⟨rfl, h6, k6⟩
  have HA6 := Lib.hid (HA5.out.kp k6 (fun e => by
    have := HAB.out.1
    rcases e with e | e
    · omega
    · exact absurd e.2 (by decide)))
  have ha7 := HA6.out.set1 V
  have ks := HA6.out.kset 1 (.string V)
  have ks2 : Kp (frA m) w6 (w6.setCell ⟨Ab, 1, none⟩ (.string V)) := Kp.of_set HA6.out _ ⟨HAB.out.1, .inr rfl⟩
  have HV7 := Lib.hid (h6.side ks2)
  have ht6 := HT5.out.frD k6 hRm
  have HT7 := Lib.hid (ht6.apart ks (Nat.lt_of_lt_of_le HTB.out HAB.out.2) fun j hj => Nat.lt_of_lt_of_le (HAV.out j hj) HAB.out.2)
  have HA7 := Lib.hid ha7
  have B7 := (B5.trans (HV5.out.frb k6)).trans (h6.sideb ks2)
  have a1 := HA6.out.c1
  have f1 := HA6.out.free 1
  clear h6 k6 ha7 ks ks2 ht6 HV5 HT5 HA5 B5 HA6 q5 d0 CV CZ CB
  go_wp2
  go_ret
  exact ⟨rfl, HV7.out, ⟨_, HT7.out⟩, B7⟩

set_option maxRecDepth 100000 in
set_option maxHeartbeats 16000000 in
theorem attrQ_end_no (s X U : ByteArray) (n e1 b : Nat) (A : List (List UInt8 × List UInt8)) (he : 1 + ((s.data.toList.drop n).drop 1).findIdx attrE = e1) (hU : U.data.toList = (s.data.toList.drop n).take e1) (hX : X.data.toList = low U.data.toList) (hb : (s.data.toList.drop (n + e1)).findIdx blkE = b) (hq : s.data.toList[n + e1 + b]? = none) (hA : A.length ≤ 30) (hn : n < s.size) (hs : s.size ≤ 20000) : Hid (∀ W B m Q Tb NM c av n0 T F x, QS W B m Q s n0 T F x → TA W m Tb 3 NM A c av → F.length ≤ 300000 → Calls Tryz.prog 105 #[.pointer (some ⟨Q, 0, none⟩), .pointer (some ⟨Tb, 0, none⟩), .int .i64 (n : Int)] W fun en w' => en = .returned (.int .i64 ((n + e1 : Nat) : Int)) ∧ QS w' B m Q s n0 T (F) x ∧ (∃ av', TA w' m Tb 3 NM (A) c av') ∧ Below B W w') := Lib.hid fun w B m Q Tb NM c av n0 T F x h0 ht hF => by
  have hel := find_le attrE s (n + 1) (by omega)
  rw [show s.data.toList.drop (n + 1) = (s.data.toList.drop n).drop 1 by rw [List.drop_drop]] at hel
  have hel2 : n + e1 ≤ s.size := by omega
  have CU := upto_hid Q s ⟨#[9, 10, 12, 13, 32, 47, 62, 61]⟩ (n + 1) (by omega) (by omega) (by decide)
  rw [show (⟨#[9, 10, 12, 13, 32, 47, 62, 61]⟩ : ByteArray).data.toList = [9, 10, 12, 13, 32, 47, 62, 61] from rfl, inL_attr, show s.data.toList.drop (n + 1) = (s.data.toList.drop n).drop 1 by rw [List.drop_drop], show n + 1 + ((s.data.toList.drop n).drop 1).findIdx attrE = n + e1 by omega, show (((n + 1 : Nat)) : Int) = (n : Int) + 1 by push_cast; rfl] at CU
  have hUs : U.size ≤ 20000 := by rw [← lsize, hU, List.length_take, List.length_drop, lsize]; omega
  have CL := refLower_hid U X hX (by omega)
  obtain ⟨E, hE⟩ : ∃ E, n + e1 = E := ⟨_, rfl⟩
  have hnE : n ≤ E := by omega
  have g1 := slice_mid s U n E hnE (by omega) (by rw [hU]; congr 1; omega)
  have CB := blanksR_hid Q s E (by omega) (by omega)
  have hbl := find_le blkE s E (by omega)
  rw [hE] at CU hb hq hel2 ⊢
  rw [hb] at CB hbl
  obtain ⟨nx, hnx⟩ : ∃ nx, E + b = nx := ⟨_, rfl⟩
  rw [hnx] at CB hbl hq
  have z1 : (0 : Int) ≤ (n : Int) := by omega
  have z2 : (n : Int) ≤ 20000 := by omega
  have z3 : (0 : Int) ≤ (nx : Int) := by omega
  have z4 : (nx : Int) ≤ 20000 := by omega
  have z5 : (A.length : Int) ≤ 30 := by omega
  have hlt := get_none hq
  have z6 : ¬ (nx : Int) < (s.size : Int) := by omega
  clear hlt
  clear he hU hX hb hq hel hel2 hUs hE hnE hnx hbl hn
  obtain ⟨aa, ac, rfl⟩ : ∃ aa ac, av = .slice aa A.length ac := by
    rcases rowForms ht.2.1 with ⟨e1, e2⟩ | ⟨g, cc, e1⟩
    · exact ⟨none, 0, by rw [e1, e2]⟩
    · exact ⟨_, _, e1⟩
  have HAV : Hid (∀ j, (Value.slice aa A.length ac).ownBlock = some j → j < w.heap.size) := Lib.hid fun j hj => (ht.2.1.lt j hj).2
  have HTB : Hid (Tb < w.heap.size) := Lib.hid (lt_of_block ht.1)
  obtain ⟨tv, fv, hv⟩ := h0
  have hbw := hv.bw
  have hRm := hv.hi
  have hmw := hv.mw
  have d0 := hv.q.c0
  have HV := Lib.hid hv
  have HT := Lib.hid ht
  clear hv ht
  go_enter Tryz.func105, Tryz.ntmps105
  go_wp2_with fail
  (with_reducible refine (CU.out _ _ _ _ _ HV.out.q).mono ?_)
  rintro e w1 ⟨rfl, b1⟩
  have HV1 := Lib.hid (HV.out.below b1)
  have HT1 := Lib.hid (HT.out.below b1)
  have B1 := b1.mono hbw
  have S1 := b1.size
  clear b1 HV HT CU d0
  have d0 := HV1.out.q.c0
  go_wp2_with fail
  (with_reducible refine (CL.out _).mono ?_)
  rintro e w2 ⟨rfl, b2⟩
  have al := (Below.refl w2.heap.size w2).alloc (Nat.le_refl _) (.cells #[.string X, .string ⟨#[]⟩] 105)
  have HV3 := Lib.hid ((HV1.out.below b2).below al)
  have HT3 := Lib.hid ((HT1.out.below b2).below al)
  have HA3 : Hid (AX (w2.alloc (.cells #[.string X, .string ⟨#[]⟩] 105)) w2.heap.size X ⟨#[]⟩) := Lib.hid (new_block w2 _)
  have S2 : w.heap.size ≤ w2.heap.size := Nat.le_trans S1 b2.size
  have B3 := (B1.trans (b2.mono (Nat.le_trans hbw S1))).trans (al.mono (Nat.le_trans hbw S2))
  have HAB : Hid (m ≤ w2.heap.size ∧ w.heap.size ≤ w2.heap.size) := Lib.hid ⟨Nat.le_trans hmw S2, S2⟩
  have e0 := HT3.out.1.c0
  have e1' := HT3.out.1.c1
  have e2' := HT3.out.1.c2
  have e3 := HT3.out.1.c3
  have e4 := HT3.out.1.c4
  have a0 := HA3.out.c0
  have d0 := HV3.out.q.c0
  clear b2 al HV1 HT1 B1 CL S1 S2
  go_wp2_with fail
  generalize w2.alloc (.cells #[.string X, .string ⟨#[]⟩] 105) = w3 at HV3 HT3 HA3 B3 e0 e1' e2' e3 e4 a0 d0 ⊢
  generalize w2.heap.size = Ab at HA3 HAB a0 ⊢
  go_quiet (fail)
  have b5 := belowN (Below.refl w3.heap.size w3) nq
  have HV4 := Lib.hid (HV3.out.below b5)
  have HT4 := Lib.hid (HT3.out.below b5)
  have HA4 := Lib.hid (HA3.out.below b5)
  have B4 := B3.trans (b5.mono HV3.out.bw)
  clear b5 HV3 HT3 HA3 B3 e0 e1' e2' e3 e4 a0 d0
  have HV5 := Lib.hid HV4.out.form
  have HT5 := HT4
  have HA5 := HA4
  have B5 := B4
  clear HV4 HT4 HA4 B4
  obtain ⟨tv5, fv5, q5⟩ := HV5.out.q
  have d0 := q5.c0
  go_wp2_with fail
  (with_reducible refine (CB.out _ _ _ _ _ q5).mono ?_)
  rintro e w5 ⟨rfl, rfl⟩
  have HV7 := HV5
  have HT7 := HT5
  have HA7 := HA5
  have B7 := B5
  clear HV5 HT5 HA5 B5 q5 CB
  go_wp2
  go_ret
  exact ⟨rfl, HV7.out, ⟨_, HT7.out⟩, B7⟩

set_option maxRecDepth 100000 in
set_option maxHeartbeats 16000000 in
theorem attrQ_end_other (s X U : ByteArray) (n e1 b : Nat) (A : List (List UInt8 × List UInt8)) (d : UInt8) (he : 1 + ((s.data.toList.drop n).drop 1).findIdx attrE = e1) (hU : U.data.toList = (s.data.toList.drop n).take e1) (hX : X.data.toList = low U.data.toList) (hb : (s.data.toList.drop (n + e1)).findIdx blkE = b) (hq : s.data.toList[n + e1 + b]? = some d) (hd : d ≠ 61) (hA : A.length ≤ 30) (hn : n < s.size) (hs : s.size ≤ 20000) : Hid (∀ W B m Q Tb NM c av n0 T F x, QS W B m Q s n0 T F x → TA W m Tb 3 NM A c av → F.length ≤ 300000 → Calls Tryz.prog 105 #[.pointer (some ⟨Q, 0, none⟩), .pointer (some ⟨Tb, 0, none⟩), .int .i64 (n : Int)] W fun en w' => en = .returned (.int .i64 ((n + e1 : Nat) : Int)) ∧ QS w' B m Q s n0 T (F) x ∧ (∃ av', TA w' m Tb 3 NM (A) c av') ∧ Below B W w') := Lib.hid fun w B m Q Tb NM c av n0 T F x h0 ht hF => by
  have hel := find_le attrE s (n + 1) (by omega)
  rw [show s.data.toList.drop (n + 1) = (s.data.toList.drop n).drop 1 by rw [List.drop_drop]] at hel
  have hel2 : n + e1 ≤ s.size := by omega
  have CU := upto_hid Q s ⟨#[9, 10, 12, 13, 32, 47, 62, 61]⟩ (n + 1) (by omega) (by omega) (by decide)
  rw [show (⟨#[9, 10, 12, 13, 32, 47, 62, 61]⟩ : ByteArray).data.toList = [9, 10, 12, 13, 32, 47, 62, 61] from rfl, inL_attr, show s.data.toList.drop (n + 1) = (s.data.toList.drop n).drop 1 by rw [List.drop_drop], show n + 1 + ((s.data.toList.drop n).drop 1).findIdx attrE = n + e1 by omega, show (((n + 1 : Nat)) : Int) = (n : Int) + 1 by push_cast; rfl] at CU
  have hUs : U.size ≤ 20000 := by rw [← lsize, hU, List.length_take, List.length_drop, lsize]; omega
  have CL := refLower_hid U X hX (by omega)
  obtain ⟨E, hE⟩ : ∃ E, n + e1 = E := ⟨_, rfl⟩
  have hnE : n ≤ E := by omega
  have g1 := slice_mid s U n E hnE (by omega) (by rw [hU]; congr 1; omega)
  have CB := blanksR_hid Q s E (by omega) (by omega)
  have hbl := find_le blkE s E (by omega)
  rw [hE] at CU hb hq hel2 ⊢
  rw [hb] at CB hbl
  obtain ⟨nx, hnx⟩ : ∃ nx, E + b = nx := ⟨_, rfl⟩
  rw [hnx] at CB hbl hq
  have z1 : (0 : Int) ≤ (n : Int) := by omega
  have z2 : (n : Int) ≤ 20000 := by omega
  have z3 : (0 : Int) ≤ (nx : Int) := by omega
  have z4 : (nx : Int) ≤ 20000 := by omega
  have z5 : (A.length : Int) ≤ 30 := by omega
  have hlt := get_some hq
  have z6 : (nx : Int) < (s.size : Int) := by omega
  have i0 := index_ty Tryz.underlying9 s nx d hq
  have g61 : ((d.toNat : Int) == 61) = false := by rw [beq_eq_false_iff_ne]; exact fun e => hd (byte_is (d := 61) e)
  clear hlt hd
  clear he hU hX hb hq hel hel2 hUs hE hnE hnx hbl hn
  obtain ⟨aa, ac, rfl⟩ : ∃ aa ac, av = .slice aa A.length ac := by
    rcases rowForms ht.2.1 with ⟨e1, e2⟩ | ⟨g, cc, e1⟩
    · exact ⟨none, 0, by rw [e1, e2]⟩
    · exact ⟨_, _, e1⟩
  have HAV : Hid (∀ j, (Value.slice aa A.length ac).ownBlock = some j → j < w.heap.size) := Lib.hid fun j hj => (ht.2.1.lt j hj).2
  have HTB : Hid (Tb < w.heap.size) := Lib.hid (lt_of_block ht.1)
  obtain ⟨tv, fv, hv⟩ := h0
  have hbw := hv.bw
  have hRm := hv.hi
  have hmw := hv.mw
  have d0 := hv.q.c0
  have HV := Lib.hid hv
  have HT := Lib.hid ht
  clear hv ht
  go_enter Tryz.func105, Tryz.ntmps105
  go_wp2_with fail
  (with_reducible refine (CU.out _ _ _ _ _ HV.out.q).mono ?_)
  rintro e w1 ⟨rfl, b1⟩
  have HV1 := Lib.hid (HV.out.below b1)
  have HT1 := Lib.hid (HT.out.below b1)
  have B1 := b1.mono hbw
  have S1 := b1.size
  clear b1 HV HT CU d0
  have d0 := HV1.out.q.c0
  go_wp2_with fail
  (with_reducible refine (CL.out _).mono ?_)
  rintro e w2 ⟨rfl, b2⟩
  have al := (Below.refl w2.heap.size w2).alloc (Nat.le_refl _) (.cells #[.string X, .string ⟨#[]⟩] 105)
  have HV3 := Lib.hid ((HV1.out.below b2).below al)
  have HT3 := Lib.hid ((HT1.out.below b2).below al)
  have HA3 : Hid (AX (w2.alloc (.cells #[.string X, .string ⟨#[]⟩] 105)) w2.heap.size X ⟨#[]⟩) := Lib.hid (new_block w2 _)
  have S2 : w.heap.size ≤ w2.heap.size := Nat.le_trans S1 b2.size
  have B3 := (B1.trans (b2.mono (Nat.le_trans hbw S1))).trans (al.mono (Nat.le_trans hbw S2))
  have HAB : Hid (m ≤ w2.heap.size ∧ w.heap.size ≤ w2.heap.size) := Lib.hid ⟨Nat.le_trans hmw S2, S2⟩
  have e0 := HT3.out.1.c0
  have e1' := HT3.out.1.c1
  have e2' := HT3.out.1.c2
  have e3 := HT3.out.1.c3
  have e4 := HT3.out.1.c4
  have a0 := HA3.out.c0
  have d0 := HV3.out.q.c0
  clear b2 al HV1 HT1 B1 CL S1 S2
  go_wp2_with fail
  generalize w2.alloc (.cells #[.string X, .string ⟨#[]⟩] 105) = w3 at HV3 HT3 HA3 B3 e0 e1' e2' e3 e4 a0 d0 ⊢
  generalize w2.heap.size = Ab at HA3 HAB a0 ⊢
  go_quiet (fail)
  have b5 := belowN (Below.refl w3.heap.size w3) nq
  have HV4 := Lib.hid (HV3.out.below b5)
  have HT4 := Lib.hid (HT3.out.below b5)
  have HA4 := Lib.hid (HA3.out.below b5)
  have B4 := B3.trans (b5.mono HV3.out.bw)
  clear b5 HV3 HT3 HA3 B3 e0 e1' e2' e3 e4 a0 d0
  have HV5 := Lib.hid HV4.out.form
  have HT5 := HT4
  have HA5 := HA4
  have B5 := B4
  clear HV4 HT4 HA4 B4
  obtain ⟨tv5, fv5, q5⟩ := HV5.out.q
  have d0 := q5.c0
  go_wp2_with fail
  (with_reducible refine (CB.out _ _ _ _ _ q5).mono ?_)
  rintro e w5 ⟨rfl, rfl⟩
  have HV7 := HV5
  have HT7 := HT5
  have HA7 := HA5
  have B7 := B5
  clear HV5 HT5 HA5 B5 q5 CB
  go_wp2
  go_ret
  exact ⟨rfl, HV7.out, ⟨_, HT7.out⟩, B7⟩

end Go.Proofs.YtfbhpmafjehojaaGreatDoor
