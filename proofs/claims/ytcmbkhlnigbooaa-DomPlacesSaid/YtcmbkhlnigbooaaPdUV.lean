/- The program's nodes: an attribute is set. The changes that Cut, Put and Set hand over, as closures. -/
import Derived.Test.YtcmbkhlnigbooaaPdA
import Derived.Test.YtcmbkhlnigbooaaPdRT
namespace Go.Proofs.Ytcmbkhlnigbooaa.Dm
open Go.RowKit

theorem atC_setV : ∀ (A : List (List UInt8 × List UInt8)) (i : Nat) (h : i < A.length) (v : List UInt8), (atC A).set (i * 2 + 1) (strV v) = atC (A.set i (A[i].1, v))
  | y :: A, 0, _, v => rfl
  | y :: A, i + 1, h, v => by
    have ih := atC_setV A i (by simpa using h) v
    show ([strV y.1, strV y.2] ++ atC A).set ((i + 1) * 2 + 1) (strV v) = [strV y.1, strV y.2] ++ atC (A.set i _)
    rw [show (i + 1) * 2 + 1 = ([strV y.1, strV y.2] : List Value).length + (i * 2 + 1) by simp; omega, List.set_append_right _ _ (by omega), Nat.add_sub_cancel_left]
    exact congrArg _ ih
theorem OwnD.setV {w : World} {B g cap ga ca : Nat} {D : List Nd} {A K : Nat → Value} (h : OwnD w B (.slice (some ⟨g, 0, none⟩) D.length cap) D A K) {i at_ : Nat} (hi : i < D.length) (hA : A i = .slice (some ⟨ga, 0, none⟩) D[i].a.length ca) (ha : at_ < D[i].a.length) (v : List UInt8) :
    OwnD (w.setCell ⟨ga, at_ * 2 + 1, none⟩ (strV v)) B (.slice (some ⟨g, 0, none⟩) D.length cap) (D.set i { D[i] with a := D[i].a.set at_ (D[i].a[at_].1, v) }) A K ∧ Kp (fun j _ => j = ga) w (w.setCell ⟨ga, at_ * 2 + 1, none⟩ (strV v)) ∧ B ≤ ga ∧ ∃ c, w.heap[ga]? = some (.cells c 61 (0, 0)) := by
  have hr := h.at' i hi
  rw [hA] at hr
  obtain ⟨cur, hcur, hB⟩ := row_open hr
  have k : Kp (fun j _ => j = ga) w (w.setCell ⟨ga, at_ * 2 + 1, none⟩ (strV v)) := Kp.of_set hcur _ rfl
  refine ⟨⟨?_, fun j hj => ?_, fun j hj => ?_, fun j l hj hl => h.na j l (by simpa using hj) (by simpa using hl), fun j l hj hl => h.nk j l (by simpa using hj) (by simpa using hl)⟩, k, hB, cur, hcur⟩
  · have h1 := k.row h.row fun j hj _ e => row_ne h.row hcur (by decide) (by rw [hj, e])
    rw [set_kinds hi (y := { D[i] with a := D[i].a.set at_ (D[i].a[at_].1, v) }) ⟨rfl, rfl, rfl, rfl, rfl, rfl⟩]
    simpa using h1
  · have hj' : j < D.length := by simpa using hj
    rw [get_set hj]
    by_cases e : i = j
    · subst e
      rw [if_pos rfl]
      have h2 := ownsRow_set hr (at_ * 2 + 1) (strV v)
      rw [atC_setV _ _ ha] at h2
      simp only [List.length_set]
      rw [hA]
      exact h2
    · rw [if_neg e]
      exact k.row (h.at' j hj') fun l hl _ e2 => by
        subst e2
        exact h.na j i hj' hi (fun h => e h.symm) _ hl (by rw [hA]; rfl)
  · have hj' : j < D.length := by simpa using hj
    have h1 := k.row (h.kd j hj') fun l hl _ e => row_ne (h.kd j hj') hcur (by decide) (by rw [hl, e])
    rw [get_set hj]
    by_cases e : i = j
    · subst e
      rw [if_pos rfl]
      exact h1
    · rw [if_neg e]
      exact h1
theorem setM_set {D : List Nd} {n : Nat} (hn : n < D.length) (name v : List UInt8) : setM D n name v = D.set n { D[n] with a := setA name v D[n].a } := by
  refine List.ext_getElem? fun i => ?_
  rw [set_get]
  by_cases e : i = n
  · subst e
    rw [List.getElem?_set_self hn, List.getElem?_eq_getElem hn]
    simp
  · rw [List.getElem?_set_ne (fun h => e h.symm)]
    cases D[i]? <;> simp [e]
/-- What setting an attribute touches. -/
def stP (B g : Nat) (j : Nat) (t : TypeId) : Prop := j = g ∨ (B ≤ j ∧ t = 61)
def NdsS (B g cap : Nat) (E : List Nd) (W : World) (e : Ending) (w' : World) : Prop := e = .returned (.tuple #[]) ∧ (∃ A K, OwnD w' B (.slice (some ⟨g, 0, none⟩) E.length cap) E A K) ∧ Kp (stP B g) W w'

set_option maxRecDepth 100000 in
set_option maxHeartbeats 4000000 in
theorem setAttr_hid (D : List Nd) (n : Nat) (hn : n < D.length) (hl : D[n].a.length ≤ 1000) (B g cap : Nat) (nm vl : ByteArray) : Hid (∀ W A K, OwnD W B (.slice (some ⟨g, 0, none⟩) D.length cap) D A K → B ≤ W.heap.size → Calls Try.prog 73 #[.pointer (some ⟨g, n * 8, none⟩), .string nm, .string vl] W (NdsS B g cap (setM D n nm.data.toList vl.data.toList) W)) := Lib.hid fun w A K h hB => by
  obtain ⟨i0, hi3, hz0, hz1, hz2⟩ := info_parts TinfoA
  obtain ⟨cur, hcur, hBg⟩ := h.block
  obtain ⟨B', off', hB', -, -, -, c3, -⟩ := h.doc.node hn
  cases hB'
  simp only [Nat.zero_add] at c3
  have hin := h.doc.at' n hn
  have hrow := h.at' n hn
  have hSM := setM_set hn nm.data.toList vl.data.toList
  rw [setA_at] at hSM
  have CP := place_hid D[n].a nm (by omega)
  obtain ⟨aa, ac, ha⟩ := hin.form
  rw [ha] at c3 hin hrow
  obtain ⟨C, hC⟩ : ∃ C, D[n].a = C := ⟨_, rfl⟩
  have HC := Lib.hid hC
  by_cases hlt : atM nm.data.toList D[n].a < D[n].a.length
  · obtain ⟨ga, rfl⟩ : ∃ ga, aa = some ⟨ga, 0, none⟩ := by
      rcases rowForms hrow with ⟨_, e⟩ | ⟨g, c, e⟩
      · omega
      · cases e; exact ⟨g, rfl⟩
    rw [dif_pos hlt] at hSM
    have fI : findI nm.data.toList D[n].a = (atM nm.data.toList D[n].a : Int) := by unfold findI; rw [if_pos hlt]
    rw [fI] at CP
    have hll : (setM D n nm.data.toList vl.data.toList).length = D.length := set_len _ _ _ _
    have hset : ∀ w2, Below w.heap.size w w2 → w2.cell? ⟨g, n * 8 + 3, none⟩ = some (.slice (some ⟨ga, 0, none⟩) D[n].a.length ac) ∧ (∃ v, w2.cell? ⟨ga, atM nm.data.toList D[n].a * 2 + 1, none⟩ = some v) ∧ w2.frozen? ⟨ga, atM nm.data.toList D[n].a * 2 + 1, none⟩ = false ∧ NdsS B g cap (setM D n nm.data.toList vl.data.toList) w (.returned (.tuple #[])) (w2.setCell ⟨ga, atM nm.data.toList D[n].a * 2 + 1, none⟩ (strV vl.data.toList)) := fun w2 b2 => by
      obtain ⟨h2, k2, hB2, ca, hca⟩ := (h.below b2).setV hn ha hlt vl.data.toList
      refine ⟨(b2.cell (lt_of_cell c3)).trans c3, ?_, open_of hca _, rfl, ⟨A, K, ?_⟩, (Kp.of_below b2).trans (k2.mono fun j c t fr hj e => ?_)⟩
      · have := (row_below hrow b2).cellAt (atM nm.data.toList D[n].a * 2 + 1) (by omega)
        exact ⟨_, this.trans (List.getElem?_eq_getElem (by rw [atC_length]; omega))⟩
      · rw [hll, hSM]
        exact h2
      · subst e
        rw [hca] at hj
        cases hj
        exact .inr ⟨hB2, rfl⟩
    generalize atM nm.data.toList D[n].a = at_ at hset hlt CP
    have HS := Lib.hid hset
    have HI := Lib.hid hin
    rw [hC] at hlt CP HS c3 HI
    have hzz : (at_ : Int) < (C.length : Int) := by omega
    have hz0' : (0 : Int) ≤ (at_ : Int) := by omega
    clear hset h hin hrow hSM fI ha hC HC hcur
    go_enter Try.func73, Try.ntmps73
    go_wp2_with fail
    (refine (CP.out _ _ HI.out).mono ?_)
    rintro e w2 ⟨rfl, b2⟩
    obtain ⟨c3', ⟨v, cv⟩, fv, hE⟩ := HS.out w2 b2
    rw [strV_of rfl] at hE
    have HE := Lib.hid hE
    clear hE HS CP b2
    go_wp2
    go_end0
    exact HE.out
  · rw [dif_neg hlt] at hSM
    have fI : findI nm.data.toList D[n].a = -1 := by unfold findI; rw [if_neg hlt]
    rw [fI] at CP
    have hll : (setM D n nm.data.toList vl.data.toList).length = D.length := set_len _ _ _ _
    have H0 := Lib.hid (And.intro h (And.intro hin hrow))
    have HA := Lib.hid ha
    have HM := Lib.hid (And.intro hll hSM)
    rw [hC] at CP c3 H0 HA HM hl
    clear h hin hrow hSM fI ha hC hlt hll
    go_enter Try.func73, Try.ntmps73
    go_wp2_with fail
    (refine (CP.out _ _ H0.out.2.1).mono ?_)
    rintro e w2 ⟨rfl, b2⟩
    have c3' := (b2.cell (lt_of_cell c3)).trans c3
    have al := (Below.refl w2.heap.size w2).alloc (Nat.le_refl _) (.cells #[.string nm, .string vl] 61)
    have hro := RowIn.made w2 #[.string nm, .string vl] 61 1 2 rfl (fun x hx => by simp at hx; rcases hx with rfl | rfl <;> rfl)
    have b3 := b2.trans (al.mono b2.size)
    have H5 := Lib.hid (And.intro hro (And.intro (H0.out.1.below b3) (row_below H0.out.2.2 b3)))
    have hws : B ≤ (w2.alloc (.cells #[.string nm, .string vl] 61)).heap.size := Nat.le_trans hB b3.size
    have c4 : (w2.alloc (.cells #[.string nm, .string vl] 61)).cell? ⟨g, n * 8 + 3, none⟩ = some (.slice aa C.length ac) := (al.cell (lt_of_cell c3')).trans c3'
    have HB3 := Lib.hid b3
    clear CP b2 al hro b3
    go_wp2_with (at_builtin
                 refine wpList_append_rowG rfl _ _ 40 61 i0 (.agg #[.string ⟨#[]⟩, .string ⟨#[]⟩]) 2 32 Try.underlying40 hi3 hz0 hz1 hz2 rfl (by decide) rfl B _ _ _ rfl H5.out.2.2 _ 1 _ rfl H5.out.1 (by unfold maxLen; omega) (by omega) hws ?_
                 intro v6 w6 hown6 hgrow6 hat6
                 have G6 := Lib.hid (H5.out.2.1.growA hn (w6 := w6) (av := v6) (C := C ++ [(nm.data.toList, vl.data.toList)]) (by rw [HA.out]; exact hgrow6) (by rw [List.length_append, atC_snoc, strV_of rfl, strV_of rfl]; exact hown6) (by rw [HA.out]; exact hat6))
                 obtain ⟨cg, hcg, -⟩ := H5.out.2.1.block
                 have x6 := (hgrow6.block _ (lt_of_block hcg) (fun e => row_ne H5.out.2.2 hcg (by decide) e.symm)).trans hcg
                 have f6 := open_of x6 (n * 8 + 3)
                 have d6 : w6.cell? ⟨g, n * 8 + 3, none⟩ = some (.slice aa C.length ac) := by rw [cell_of x6, ← cell_of hcg]; exact c4
                 have HE : Hid (NdsS B g cap (setM D n nm.data.toList vl.data.toList) w (.returned (.tuple #[])) (w6.setCell ⟨g, n * 8 + 3, none⟩ v6)) := Lib.hid ⟨rfl, ⟨_, K, by rw [HM.out.1, HM.out.2]; exact G6.out.1⟩, ((Kp.of_below HB3.out).trans (G6.out.2.mono fun _ _ _ _ _ e => .inr ⟨e.2, e.1⟩)).trans (Kp.of_set x6 _ (.inl rfl))⟩
                 obtain ⟨va, vc, rfl⟩ := row_form hown6
                 clear hown6 hgrow6 hat6 hcg x6)
    go_end0
    exact HE.out

end Go.Proofs.Ytcmbkhlnigbooaa.Dm

namespace Go.Proofs.Ytcmbkhlnigbooaa.Dm
open Go.RowKit

theorem OwnX.some {w : World} {B : Nat} {sl : Value} {D : List Nd} (h : OwnX w B sl D) (h0 : 0 < D.length) : ∃ g cap A K, sl = .slice (some ⟨g, 0, none⟩) D.length cap ∧ OwnD w B (.slice (some ⟨g, 0, none⟩) D.length cap) D A K := by
  obtain ⟨A, K, h⟩ := h
  rcases rowForms h.row with ⟨_, e⟩ | ⟨g, cap, e⟩
  · omega
  · exact ⟨g, cap, A, K, e, by rw [← e]; exact h⟩
theorem NdsE.chg {B g cap Bo : Nat} {E : List Nd} {W w' : World} {e : Ending} (h : NdsE B g cap E W e w') (hb : W.heap[Bo]? = some (.cells #[.slice (some ⟨g, 0, none⟩) E.length cap] 24 (0, 0))) (hg : ∃ cur, W.heap[g]? = some (.cells cur 42 (0, 0)) ∧ B ≤ g) : ChgE B Bo E W e w' := by
  obtain ⟨rfl, ⟨A, K, o⟩, k⟩ := h
  obtain ⟨cur, hg, hB⟩ := hg
  refine ⟨rfl, _, k.cells hb ?_, ⟨A, K, o⟩, k.mono fun j c t fr hj hp => ?_⟩
  · rintro (rfl | ⟨_, h⟩)
    · rw [hg] at hb; cases hb
    · exact absurd h (by decide)
  · rcases hp with rfl | ⟨h1, h2⟩
    · rw [hg] at hj
      cases hj
      exact ⟨hB, fun h => absurd h (by decide)⟩
    · subst h2
      exact ⟨h1, fun h => absurd h (by decide)⟩
theorem NdsS.chg {B g cap Bo : Nat} {E : List Nd} {W w' : World} {e : Ending} (h : NdsS B g cap E W e w') (hb : W.heap[Bo]? = some (.cells #[.slice (some ⟨g, 0, none⟩) E.length cap] 24 (0, 0))) (hg : ∃ cur, W.heap[g]? = some (.cells cur 42 (0, 0)) ∧ B ≤ g) : ChgE B Bo E W e w' := by
  obtain ⟨rfl, ⟨A, K, o⟩, k⟩ := h
  obtain ⟨cur, hg, hB⟩ := hg
  refine ⟨rfl, _, k.cells hb ?_, ⟨A, K, o⟩, k.mono fun j c t fr hj hp => ?_⟩
  · rintro (rfl | ⟨_, h⟩)
    · rw [hg] at hb; cases hb
    · exact absurd h (by decide)
  · rcases hp with rfl | ⟨h1, h2⟩
    · rw [hg] at hj
      cases hj
      exact ⟨hB, fun h => absurd h (by decide)⟩
    · subst h2
      exact ⟨h1, fun h => absurd h (by decide)⟩
theorem ChgE.from {B Bo : Nat} {E : List Nd} {W W' w' : World} {e : Ending} (h : ChgE B Bo E W' e w') (k : Kp (chP B Bo) W W') : ChgE B Bo E W e w' := by
  obtain ⟨h1, sl, h2, h3, h4⟩ := h
  exact ⟨h1, sl, h2, h3, k.trans h4⟩

set_option maxRecDepth 100000 in
set_option maxHeartbeats 4000000 in
theorem cutChg (D : List Nd) (R : Right D) (hf : FitD D) (n : Nat) (hn : n < D.length) (w0 : World) (Nb : Nat) (hnb : w0.heap[Nb]? = some (.cells #[.int .i64 (n : Int)] 3 (0, 0))) : ChgP w0 71 #[.pointer (some ⟨Nb, 0, none⟩)] D (cutM D n) := fun w Bo sl b hBo hbx ho => by
  obtain ⟨g, cap, A, K, rfl, o⟩ := ho.some (by omega)
  have CT := take_hid D R hf n hn w0.heap.size g cap
  have hnb2 := (b.block _ (lt_of_block hnb)).trans hnb
  obtain ⟨cur, hcur, hB⟩ := o.block
  have e0 := cell_of hbx 0
  have e1 := cell_of hnb2 0
  have HC : Hid (∀ W, Below w.heap.size w W → Calls Try.prog 67 #[.slice (some ⟨g, 0, none⟩) D.length cap, .int .i64 (n : Int)] W fun e w' => e = .returned (.tuple #[]) ∧ ChgE w0.heap.size Bo (cutM D n) w (.returned (.tuple #[])) w') := Lib.hid fun W bW => (CT.out W A K (o.below bW)).mono fun e w' h => by
    have he := h.1
    subst he
    exact ⟨rfl, (h.chg (Bo := Bo) (by rw [cut_len]; exact (bW.block _ (lt_of_block hbx)).trans hbx) ⟨cur, (bW.block _ (lt_of_block hcur)).trans hcur, hB⟩).from (Kp.of_below bW)⟩
  clear hbx o CT hnb2 hcur ho
  go_enter Try.func71, Try.ntmps71
  go_wp2_with fail
  go_region_with (go_at_call 67; refine (HC.out _ (by first | exact Below.refl _ _ | exact belowN (Below.refl _ _) _ | exact (Below.refl _ _).drew)).mono ?_; rintro e w2 ⟨rfl, hE⟩; have HE := Lib.hid hE; clear hE)
  all_goals
    go_wp2
    go_end0
    exact HE.out

end Go.Proofs.Ytcmbkhlnigbooaa.Dm
