/- The change that Put hands over, as a closure. -/
import Derived.Test.YtcmbkhlnigbooaaPdUV
namespace Go.Proofs.Ytcmbkhlnigbooaa.Dm
open Go.RowKit

theorem cut_fit {D : List Nd} (hf : FitD D) (n : Nat) : ∀ x ∈ cutM D n, x.c.length ≤ 1000 := fun x hx => by
  obtain ⟨i, hi, e⟩ := List.mem_iff_getElem.1 hx
  have hi' : i < D.length := by rw [cut_len] at hi; exact hi
  have h1 := cut_get D n i
  rw [List.getElem?_eq_getElem hi, List.getElem?_eq_getElem hi', e] at h1
  simp only [Option.map_some, Option.some.injEq] at h1
  rw [h1]
  exact Nat.le_trans (noN_len _ _) (hf.2 _ (List.getElem_mem hi')).2.2.2.1

set_option maxRecDepth 100000 in
set_option maxHeartbeats 4000000 in
theorem putChg (D : List Nd) (R : Right D) (hf : FitD D) (q n : Nat) (hq : q < D.length) (hn : n < D.length) (hqn : q ≠ n) (w0 : World) (Nb Qb : Nat) (hnb : w0.heap[Nb]? = some (.cells #[.int .i64 (n : Int)] 3 (0, 0))) (hqb : w0.heap[Qb]? = some (.cells #[.int .i64 (q : Int)] 3 (0, 0))) : ChgP w0 66 #[.pointer (some ⟨Nb, 0, none⟩), .pointer (some ⟨Qb, 0, none⟩)] D (putM D q n) := fun w Bo sl b hBo hbx ho => by
  obtain ⟨g, cap, A, K, rfl, o⟩ := ho.some (by omega)
  have CT := take_hid D R hf n hn w0.heap.size g cap
  have CL := lay_hid (cutM D n) (cut_fit hf n) q n (by rw [cut_len]; exact hq) (by rw [cut_len]; exact hn) hqn w0.heap.size g cap
  rw [lay_cut hn hq hqn, cut_len] at CL
  have hnl := lt_of_block hnb
  have hql := lt_of_block hqb
  have hnb2 := (b.block _ hnl).trans hnb
  have hqb2 := (b.block _ hql).trans hqb
  obtain ⟨cur, hcur, hB⟩ := o.block
  have hgl := lt_of_block hcur
  have e0 := cell_of hbx 0
  have e1 := cell_of hnb2 0
  have e2 := cell_of hqb2 0
  have HC : Hid (∀ W, Below w.heap.size w W → Calls Try.prog 67 #[.slice (some ⟨g, 0, none⟩) D.length cap, .int .i64 (n : Int)] W fun e w' => e = .returned (.tuple #[]) ∧ (∃ A K, OwnD w' w0.heap.size (.slice (some ⟨g, 0, none⟩) D.length cap) (cutM D n) A K) ∧ w'.heap[Bo]? = some (.cells #[.slice (some ⟨g, 0, none⟩) D.length cap] 24 (0, 0)) ∧ w'.heap[Nb]? = some (.cells #[.int .i64 (n : Int)] 3 (0, 0)) ∧ w'.heap[Qb]? = some (.cells #[.int .i64 (q : Int)] 3 (0, 0)) ∧ (∃ cur, w'.heap[g]? = some (.cells cur 42 (0, 0))) ∧ Kp (chP w0.heap.size Bo) w w' ∧ w.heap.size ≤ w'.heap.size) := Lib.hid fun W bW => (CT.out W A K (o.below bW)).mono fun e w' h => by
    have h1 := h.1
    subst h1
    have hc := h.chg (Bo := Bo) (by rw [cut_len]; exact (bW.block _ (lt_of_block hbx)).trans hbx) ⟨cur, (bW.block _ hgl).trans hcur, hB⟩
    obtain ⟨_, ⟨A', K', o'⟩, k'⟩ := h
    have orow := o'.row
    rw [cut_len] at o' orow
    obtain ⟨_, sl', h3, _, h5⟩ := hc
    have hkc : Kp (chP w0.heap.size Bo) w w' := (Kp.of_below bW).trans h5
    have hlow : Below w0.heap.size w w' := hkc.below (fun j _ h => h.1) b.size
    have hbo := k'.cells ((bW.block _ (lt_of_block hbx)).trans hbx) (by
      rintro (e | ⟨_, e⟩)
      · have := (bW.block _ hgl).trans hcur
        rw [← e, (bW.block _ (lt_of_block hbx)).trans hbx] at this
        cases this
      · exact absurd e (by decide))
    exact ⟨rfl, ⟨A', K', o'⟩, hbo, (hlow.block _ hnl).trans hnb2, (hlow.block _ hql).trans hqb2, (row_open orow).imp fun _ h => h.1, hkc, hlow.size⟩
  have hws : w0.heap.size ≤ w.heap.size := b.size
  clear hbx o CT hnb2 hqb2 hcur ho
  go_enter Try.func66, Try.ntmps66
  go_wp2_with fail
  go_region_with (go_at_call 67; refine (HC.out _ (by first | exact Below.refl _ _ | exact belowN (Below.refl _ _) _ | exact (Below.refl _ _).drew)).mono ?_; rintro e w2 ⟨rfl, hE⟩; have HE := Lib.hid hE; clear hE)
  all_goals
    clear e0 e1 e2 HC
    obtain ⟨⟨A2, K2, o2⟩, y0, y1, y2, ⟨cur2, ycur⟩, k2, hs2⟩ := HE.out
    have e0 := cell_of y0 0
    have e1 := cell_of y1 0
    have e2 := cell_of y2 0
    have HL : Hid (∀ W, Below w2.heap.size w2 W → Calls Try.prog 68 #[.slice (some ⟨g, 0, none⟩) D.length cap, .int .i64 (q : Int), .int .i64 (n : Int)] W fun e w' => e = .returned (.tuple #[]) ∧ ChgE w0.heap.size Bo (putM D q n) w (.returned (.tuple #[])) w') := Lib.hid fun W bW => (CL.out W A2 K2 (o2.below bW) (by have := bW.size; omega)).mono fun e w' h => by
      have h1 := h.1
      subst h1
      exact ⟨rfl, (h.chg (Bo := Bo) (by rw [put_len]; exact (bW.block _ (lt_of_block y0)).trans y0) ⟨cur2, (bW.block _ (lt_of_block ycur)).trans ycur, hB⟩).from (k2.trans (Kp.of_below bW))⟩
    clear o2 y0 y1 y2 ycur k2 CL HE
    go_wp2_with fail
    go_region_with (go_at_call 68; refine (HL.out _ (by first | exact Below.refl _ _ | exact belowN (Below.refl _ _) _ | exact (Below.refl _ _).drew)).mono ?_; rintro e w3 ⟨rfl, hE⟩; have HE := Lib.hid hE; clear hE)
    all_goals
      go_wp2
      go_end0
      exact HE.out

end Go.Proofs.Ytcmbkhlnigbooaa.Dm
