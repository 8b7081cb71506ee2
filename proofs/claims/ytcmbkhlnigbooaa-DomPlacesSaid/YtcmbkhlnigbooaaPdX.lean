/- The change that Set hands over, as a closure. -/
import Derived.Test.YtcmbkhlnigbooaaPdUV
namespace Go.Proofs.Ytcmbkhlnigbooaa.Dm
open Go.RowKit

set_option maxRecDepth 100000 in
set_option maxHeartbeats 4000000 in
theorem setChg (D : List Nd) (hl : D.length ≤ 400) (n : Nat) (hn : n < D.length) (ha : D[n].a.length ≤ 1000) (nm vl : ByteArray) (w0 : World) (Nb Mb Vb : Nat) (hnb : w0.heap[Nb]? = some (.cells #[.int .i64 (n : Int)] 3 (0, 0))) (hmb : w0.heap[Mb]? = some (.cells #[.string nm] 9 (0, 0))) (hvb : w0.heap[Vb]? = some (.cells #[.string vl] 9 (0, 0))) : ChgP w0 72 #[.pointer (some ⟨Nb, 0, none⟩), .pointer (some ⟨Mb, 0, none⟩), .pointer (some ⟨Vb, 0, none⟩)] D (setM D n nm.data.toList vl.data.toList) := fun w Bo sl b hBo hbx ho => by
  obtain ⟨g, cap, A, K, rfl, o⟩ := ho.some (by omega)
  have CT := setAttr_hid D n hn ha w0.heap.size g cap nm vl
  have hnb2 := (b.block _ (lt_of_block hnb)).trans hnb
  have hmb2 := (b.block _ (lt_of_block hmb)).trans hmb
  have hvb2 := (b.block _ (lt_of_block hvb)).trans hvb
  obtain ⟨cur, hcur, hB⟩ := o.block
  have e0 := cell_of hbx 0
  have e1 := cell_of hnb2 0
  have e2 := cell_of hmb2 0
  have e3 := cell_of hvb2 0
  have zn : (n : Int) < (D.length : Int) := by omega
  have hbs := b.size
  have HC : Hid (∀ W, Below w.heap.size w W → Calls Try.prog 73 #[.pointer (some ⟨g, n * 8, none⟩), .string nm, .string vl] W fun e w' => e = .returned (.tuple #[]) ∧ ChgE w0.heap.size Bo (setM D n nm.data.toList vl.data.toList) w (.returned (.tuple #[])) w') := Lib.hid fun W bW => (CT.out W A K (o.below bW) (Nat.le_trans hbs bW.size)).mono fun e w' h => by
    have he := h.1
    subst he
    exact ⟨rfl, (h.chg (Bo := Bo) (by rw [set_len]; exact (bW.block _ (lt_of_block hbx)).trans hbx) ⟨cur, (bW.block _ (lt_of_block hcur)).trans hcur, hB⟩).from (Kp.of_below bW)⟩
  clear hbx o CT hnb2 hmb2 hvb2 hcur ho
  go_enter Try.func72, Try.ntmps72
  go_wp2_with fail
  go_region_with (go_at_call 73; refine (HC.out _ (by first | exact Below.refl _ _ | exact belowN (Below.refl _ _) _ | exact (Below.refl _ _).drew)).mono ?_; rintro e w2 ⟨rfl, hE⟩; have HE := Lib.hid hE; clear hE)
  all_goals
    go_wp2
    go_end0
    exact HE.out

end Go.Proofs.Ytcmbkhlnigbooaa.Dm
