/- The document's own: the text of a node and all below it. -/
import Derived.Test.YtcmbkhlnigbooaaDoK
namespace Go.Proofs.Ytcmbkhlnigbooaa.Dm
open Go.RowKit

def textsM (D : List Nd) (n : Int) : List UInt8 := (belowM D n).flatMap (dataM D)
theorem dataM_at {D : List Nd} {i : Nat} (h : i < D.length) : dataM D i = if D[i].k = 3 then D[i].d else [] := by
  unfold dataM
  rw [List.getElem?_eq_getElem h]
theorem flat_bound {L : List Nat} {f : Nat → List UInt8} {b : Nat} (h : ∀ x ∈ L, (f x).length ≤ b) : (L.flatMap f).length ≤ L.length * b := by
  induction L with
  | nil => simp
  | cons x L ih =>
    have h1 := ih fun y hy => h y (List.mem_cons_of_mem _ hy)
    have h2 := h x (List.mem_cons_self ..)
    rw [List.flatMap_cons, List.length_append, List.length_cons, Nat.add_mul]
    omega
theorem take_bound {D : List Nd} (hf : FitD D) {L : List Nat} (hL : L.length ≤ 400) (hl : ∀ x ∈ L, x < D.length) (u : Nat) : ((L.take u).flatMap (dataM D)).length ≤ 4000000 := by
  have h1 := flat_bound (L := L.take u) (f := dataM D) (b := 10000) fun x hx => by
    have h2 := hl x (List.mem_of_mem_take hx)
    rw [dataM_at h2]
    split
    · exact (hf.2 _ (List.getElem_mem h2)).2.1
    · exact Nat.zero_le _
  have h2 : (L.take u).length ≤ L.length := List.length_take_le' _ _
  have h3 : (L.take u).length * 10000 ≤ 400 * 10000 := Nat.mul_le_mul_right _ (by omega)
  omega
theorem below_lt {D : List Nd} {n : Int} : ∀ x ∈ belowM D n, x < D.length := fun x hx => by
  unfold belowM at hx
  by_cases h : thereM D n = true
  · rw [if_pos h] at hx
    obtain ⟨R, i, rfl, hi⟩ := there_right h
    rw [Int.toNat_natCast] at hx
    exact down_lt R hi hx
  · rw [if_neg h] at hx
    cases hx
theorem below_len {D : List Nd} {n : Int} : (belowM D n).length ≤ 300 := by
  unfold belowM
  by_cases h : thereM D n = true
  · rw [if_pos h]
    obtain ⟨R, i, rfl, hi⟩ := there_right h
    rw [Int.toNat_natCast]
    exact Nat.le_trans (down_len R hi) R.len
  · rw [if_neg h]
    exact Nat.zero_le _

set_option maxRecDepth 100000 in
set_option maxHeartbeats 8000000 in
theorem text_hid (D : List Nd) (hf : FitD D) (n : Int) : Hid (∀ W sl A K, DocIn W sl D A K → Calls Try.prog 22 #[.agg #[sl], .int .i64 n] W fun e w' => e = .returned (strV (textsM D n)) ∧ Below W.heap.size W w') := Lib.hid fun w sl A K hd => by
  obtain ⟨a, c, rfl⟩ := hd.form
  obtain ⟨d1, b1, l1⟩ := docBox w hd
  have CB := below_hid D hf n
  have hfl := hf.1
  generalize hw1 : w.alloc (.cells #[.slice a D.length c] 24) = w1 at d1 b1 l1
  obtain ⟨R, hR⟩ : ∃ R, w.heap.size = R := ⟨_, rfl⟩
  have b1' := b1
  rw [hR] at b1'
  have e0 := cell_of b1' 0
  have H1 := Lib.hid (And.intro d1 (And.intro b1' l1))
  have HF := Lib.hid hf
  have HT : Hid (textsM D n = (belowM D n).flatMap (dataM D)) := Lib.hid rfl
  have hbl := below_lt (D := D) (n := n)
  have hbn := below_len (D := D) (n := n)
  generalize belowM D n = L at CB HT hbl hbn
  have HB := Lib.hid hbl
  clear hd d1 b1 b1' l1 hf hbl
  go_enter Try.func22, Try.ntmps22
  go_wp2_with fail
  (refine (CB.out _ _ _ _ H1.out.1).mono ?_)
  rintro e w2 ⟨lv, rfl, o2, b2⟩
  obtain ⟨d2, bx2⟩ := H1.out.1.boxed H1.out.2.1 b2
  have e0 := cell_of bx2 0
  have hi2 := o2.in'
  obtain ⟨la, lc, rfl⟩ := o2.form
  have H2 := Lib.hid (And.intro d2 (And.intro (H1.out.2.2.trans (b2.mono H1.out.2.2.size)) hi2))
  clear b2 hw1 CB d2 bx2 H1 o2 hi2
  go_wp2
  go_loopw [6, 7] (fun s i wr => ∃ (u m : Nat) (T : ByteArray), i = .int .i64 u ∧ u ≤ L.length ∧ s = .string T ∧ Hid (T.data.toList = (L.take u).flatMap (dataM D)) ∧ wr = w2.drewN m) (fun _ i _ => L.length - (intOf i).toNat)
  case atStart => exact ⟨0, 0, ⟨#[]⟩, rfl, Nat.zero_le _, rfl, Lib.hid (by simp), rfl⟩
  case round =>
    obtain ⟨u, m, T, rfl, hu, rfl, HS, rfl⟩ := hrel
    by_cases hlt : u < L.length
    · have hx := HB.out _ (List.getElem_mem hlt)
      obtain ⟨x, hx0⟩ : ∃ x, L[u] = x := ⟨_, rfl⟩
      rw [hx0] at hx
      have hnl : (natsI L)[u]? = some (x : Int) := by simp [natsI, hlt, hx0]
      obtain ⟨B2, off2, hla, k0⟩ : ∃ B2 off2, la = some ⟨B2, off2, none⟩ ∧ w2.cell? ⟨B2, off2 + u, none⟩ = some (.int .i64 (x : Int)) := by
        have hin := H2.out.2.2
        rw [show L.length = (natsI L).length from (natsI_length L).symm] at hin
        obtain ⟨B2, off2, h1, h2⟩ := hin.at (k := u) (by rw [natsI_length]; exact hlt)
        refine ⟨B2, off2, h1, ?_⟩
        rw [h2, (List.getElem?_eq_some_iff.1 hnl).2]
      subst hla
      obtain ⟨B, off, rfl, c0, c1, c2, c3, c4, c5, c6, c7⟩ := H2.out.1.node hx
      have zu : (u : Int) < (L.length : Int) := by omega
      have zx : (x : Int) < (D.length : Int) := by omega
      have zx0 : (0 : Int) ≤ (x : Int) := by omega
      have hda := dataM_at hx
      have hst : (L.take (u + 1)).flatMap (dataM D) = T.data.toList ++ dataM D x := by
        rw [HS.out, List.take_add_one, List.getElem?_eq_getElem hlt, hx0, List.flatMap_append]
        simp
      have hb := take_bound HF.out (by omega) HB.out (u + 1)
      rw [hst, List.length_append] at hb
      obtain ⟨V, hV⟩ := text_of D[x].d
      rw [strV_of hV] at c2
      generalize hxk : D[x].k = xk at c0 hda
      rw [hda] at hst hb
      clear c1 c3 c4 c5 c6 c7 hxk hda hx0 hnl HS
      by_cases hk : xk = 3
      · rw [if_pos hk, ← hV] at hst hb
        subst hk
        obtain ⟨S, hS⟩ := text_of (T.data.toList ++ V.data.toList)
        rw [lsize, lsize] at hb
        have a1 := add_to T V S hS (by omega)
        have HS2 : Hid (S.data.toList = (L.take (u + 1)).flatMap (dataM D)) := Lib.hid (by rw [hS, hst])
        clear hst hS hV
        go_wp2_with fail
        go_quiet (fail)
        go_wp2_with fail
        go_quiet (fail)
        go_wp2
        go_roundw
        case rel => exact ⟨u + 1, _, S, by go_num, by omega, rfl, HS2, rfl⟩
        case measure => simp [intOf]; omega
      · rw [if_neg hk, List.append_nil] at hst
        have HS2 : Hid (T.data.toList = (L.take (u + 1)).flatMap (dataM D)) := Lib.hid hst.symm
        have g1 : (xk == 3) = false := by rw [beq_eq_false_iff_ne]; exact hk
        clear hst hV hk hb
        go_wp2_with fail
        go_quiet (fail)
        go_wp2
        go_roundw
        case rel => exact ⟨u + 1, _, T, by go_num, by omega, rfl, HS2, rfl⟩
        case measure => simp [intOf]; omega
    · obtain rfl : u = L.length := by omega
      have HE : Hid (strV (textsM D n) = .string T) := Lib.hid (by rw [HT.out]; exact strV_of (by rw [HS.out, List.take_length]))
      go_wp2
      go_ret
      exact ⟨by rw [HE.out]; rfl, belowN H2.out.2.1 _⟩

end Go.Proofs.Ytcmbkhlnigbooaa.Dm
