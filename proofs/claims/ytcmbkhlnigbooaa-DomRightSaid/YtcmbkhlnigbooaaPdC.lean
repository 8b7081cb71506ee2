/- The program's nodes: is a number a node; has each that stands anywhere its place (the kids marked one by one). -/
import Derived.Laws.OwnMore
import Derived.Test.YtcmbkhlnigbooaaPdA
namespace Go.Proofs.Ytcmbkhlnigbooaa.Dm
open Go.RowKit

theorem isNode_any (a : Option Addr) (n c : Nat) (y : Int) (w : World) : Calls Try.prog 63 #[.slice a n c, .int .i64 y] w fun e w' => e = .returned (.bool (decide (0 ≤ y) && decide (y < (n : Int)))) ∧ w' = w := by
  by_cases h1 : 0 ≤ y
  · by_cases h2 : y < (n : Int)
    · rw [decide_eq_true h1, decide_eq_true h2]
      go_enter Try.func63, Try.ntmps63
      go_wp2
      go_ret
      exact ⟨rfl, rfl⟩
    · rw [decide_eq_true h1, decide_eq_false h2]
      go_enter Try.func63, Try.ntmps63
      go_wp2
      go_ret
      exact ⟨rfl, rfl⟩
  · rw [decide_eq_false h1]
    go_enter Try.func63, Try.ntmps63
    go_wp2
    go_ret
    exact ⟨rfl, rfl⟩

/-! ### marks -/
def blC (l : List Bool) : List Value := l.map Value.bool
theorem blC_set (l : List Bool) (i : Nat) (b : Bool) : (blC l).set i (.bool b) = blC (l.set i b) := by simp [blC, List.map_set]
theorem info4 : (Try.prog.info? 4).map (fun i => (i.zero, i.size, i.bytes)) = some (some (.bool false), 1, 1) := by kernel_rfl
/-- A row of marks of one's own, in the block g. -/
def MarksAt (w : World) (B g : Nat) (l : List Bool) : Prop := w.ownsRow B 4 1 (.slice (some ⟨g, 0, none⟩) l.length l.length) l.length (blC l)
theorem marks_made (w : World) (n : Nat) (hn : n ≤ 1000) : ∃ w', (Instr.makeSlice 105 (.int .i64 (n : Int)) (.int .i64 (n : Int))).run Try.prog w = .ok (.slice (some ⟨w.heap.size, 0, none⟩) n n) w' ∧ MarksAt w' w.heap.size w.heap.size (List.replicate n false) ∧ Below w.heap.size w w' := by
  obtain ⟨i0, hi, hz0, hz1, hz2⟩ := info_parts info4
  obtain ⟨w', h1, h2, h3⟩ := run_make_full (P := Try.prog) w w.heap.size 105 4 i0 _ 1 Try.underlying105 hi hz0 hz1 .i64 .i64 n (by rw [hz2]; omega) (by unfold maxLen; omega) (Nat.le_refl _)
  rw [show (Value.bool false).cells = #[Value.bool false] from rfl, Nat.mul_one, toList_madeCells_one] at h2
  refine ⟨w', h1, ?_, Below.grown (Below.refl _ _) h3 (Nat.le_refl _) (fun j hj => by cases hj)⟩
  unfold MarksAt
  rw [List.length_replicate, show blC (List.replicate n false) = List.replicate n (Value.bool false) by simp [blC]]
  exact h2
theorem MarksAt.at {w : World} {B g : Nat} {l : List Bool} (h : MarksAt w B g l) {i : Nat} (hi : i < l.length) : w.cell? ⟨g, i, none⟩ = some (.bool l[i]) := by
  rw [h.cellAt i (by omega)]
  simp [blC, hi]
theorem MarksAt.below {w w' : World} {B g : Nat} {l : List Bool} (h : MarksAt w B g l) (b : Below w.heap.size w w') : MarksAt w' B g l := row_below h b
theorem MarksAt.set {w : World} {B g : Nat} {l : List Bool} (h : MarksAt w B g l) (i : Nat) : MarksAt (w.setCell ⟨g, i, none⟩ (.bool true)) B g (l.set i true) := by
  have h1 := ownsRow_set h i (.bool true)
  unfold MarksAt
  rw [← blC_set, List.length_set]
  exact h1

/-- A Bool that tells whether P. -/
def BoolR (P : Prop) (W : World) (e : Ending) (w' : World) : Prop := ∃ b, e = .returned (.bool b) ∧ (b = true ↔ P) ∧ Below W.heap.size W w'
theorem seen_at {D : List Nd} {i j y : Nat} (hy : y < D.length) {w : World} {B g : Nat} (h : MarksAt w B g (marksM D i j)) : w.cell? ⟨g, y, none⟩ = some (.bool (decide ((y : Int) ∈ seenK D i j))) := by
  rw [h.at (by rw [marks_len]; exact hy), marks_get]

set_option maxRecDepth 100000 in
set_option maxHeartbeats 16000000 in
theorem placedP_hid (D : List Nd) (hf : FitD D) (h0 : 0 < D.length) : Hid (∀ W sl A K, DocIn W sl D A K → Calls Try.prog 76 #[sl] W (BoolR (Pl D) W)) := Lib.hid fun w sl A K hd => by
  obtain ⟨a, c, rfl⟩ := hd.form
  obtain ⟨B, off, rfl, -⟩ := hd.node h0
  have hfl := hf.1
  obtain ⟨w1, hmk, hm1, hb1⟩ := marks_made w D.length (by omega)
  obtain ⟨g, hg⟩ : ∃ g, w.heap.size = g := ⟨_, rfl⟩
  rw [← marks_zero] at hm1
  rw [hg] at hmk
  have hm1' : MarksAt w1 w.heap.size g (marksM D 0 0) := by rw [← hg]; exact hm1
  have HD := Lib.hid hd
  have H1 : Hid (SeenP D 0 0 ∧ MarksAt w1 w.heap.size g (marksM D 0 0) ∧ Below w.heap.size w w1) := Lib.hid ⟨SeenP.zero D, hm1', hb1⟩
  have HF := Lib.hid hf
  clear hd hm1 hm1' hb1 hf
  go_enter Try.func76, Try.ntmps76
  go_wp2
  clear hmk
  go_loopw [15] (fun i wr => ∃ u : Nat, i = .int .i64 u ∧ u ≤ D.length ∧ Hid (SeenP D u 0 ∧ MarksAt wr w.heap.size g (marksM D u 0) ∧ Below w.heap.size w wr)) (fun i _ => D.length - (intOf i).toNat)
  case atStart => exact ⟨0, rfl, Nat.zero_le _, H1⟩
  case round =>
    clear H1
    obtain ⟨u, rfl, hu, HX⟩ := hrel
    by_cases hlt : u < D.length
    · have zu : (u : Int) < (D.length : Int) := by omega
      obtain ⟨B', off', hB, c0, c1, c2, c3, c4, c5, c6, c7⟩ := (HD.out.below HX.out.2.2).node hlt
      cases hB
      obtain ⟨N, hN⟩ := text_of D[u].n
      obtain ⟨T, hT⟩ := text_of D[u].d
      rw [strV_of hN] at c1
      rw [strV_of hT] at c2
      obtain ⟨aa, ac, ha⟩ := (HD.out.at' u hlt).form
      obtain ⟨ka, kc, hk⟩ := (HD.out.kd u hlt).form
      rw [ha] at c3
      rw [hk] at c5
      have HK : Hid (IntIn w (.slice ka D[u].c.length kc) D[u].c) := Lib.hid (by rw [← hk]; exact HD.out.kd u hlt)
      have HU : Hid (kid D u = D[u].c) := Lib.hid (kid_at hlt)
      have hlc := (HF.out.2 _ (List.getElem_mem hlt)).2.2.2.1
      clear hN hT ha hk
      generalize D[u].k = xk at c0
      generalize D[u].a.length = al at c3
      generalize D[u].p = xp at c4
      generalize D[u].b = xb at c6
      generalize D[u].s = xs at c7
      generalize D[u].c = C at c5 HK HU hlc
      have HX1 : Hid (∀ o, SeenP D u 0 ∧ MarksAt (wr.alloc o) w.heap.size g (marksM D u 0) ∧ Below w.heap.size w (wr.alloc o)) := Lib.hid fun o => by
        have b := (Below.refl wr.heap.size wr).alloc (Nat.le_refl _) o
        exact ⟨HX.out.1, HX.out.2.1.below b, HX.out.2.2.trans (b.mono HX.out.2.2.size)⟩
      clear HX
      go_wp2
      go_loopw [23] (fun j wr => ∃ v : Nat, j = .int .i64 v ∧ v ≤ C.length ∧ Hid (SeenP D u v ∧ MarksAt wr w.heap.size g (marksM D u v) ∧ Below w.heap.size w wr))  (fun j _ => C.length - (intOf j).toNat)
      case atStart => exact ⟨0, rfl, Nat.zero_le _, Lib.hid (HX1.out _)⟩
      case round =>
        clear HX1
        obtain ⟨v, rfl, hv, HY⟩ := hrel
        by_cases hlv : v < C.length
        · have zv : (v : Int) < (C.length : Int) := by omega
          obtain ⟨B2, off2, rfl, k0⟩ := (HK.out.below HY.out.2.2).at hlv
          have hj : v < (kid D u).length := by rw [HU.out]; exact hlv
          have hy : (kid D u)[v] = C[v] := by simp only [HU.out]
          generalize C[v] = y at k0 hy
          have CN := isNode_any (some ⟨B, off, none⟩) D.length c y
          by_cases hy0 : 0 ≤ y
          case neg =>
            rw [decide_eq_false hy0] at CN
            have HE : Hid (false = true ↔ Pl D) := Lib.hid ⟨(fun h => by cases h), fun h => absurd h (not_pl_kid hj (by rw [hy]; exact fun h => hy0 h.1))⟩
            have HB := Lib.hid HY.out.2.2
            clear HY hy hj
            go_wp2_with (go_at_call 63; refine (CN _).mono ?_; rintro e w2 ⟨rfl, rfl⟩)
            go_ret
            exact ⟨false, rfl, HE.out, HB.out⟩
          by_cases hy1 : y < (D.length : Int)
          case neg =>
            rw [decide_eq_true hy0, decide_eq_false hy1] at CN
            have HE : Hid (false = true ↔ Pl D) := Lib.hid ⟨(fun h => by cases h), fun h => absurd h (not_pl_kid hj (by rw [hy]; exact fun h => hy1 h.2.1))⟩
            have HB := Lib.hid HY.out.2.2
            clear HY hy hj
            go_wp2_with (go_at_call 63; refine (CN _).mono ?_; rintro e w2 ⟨rfl, rfl⟩)
            go_ret
            exact ⟨false, rfl, HE.out, HB.out⟩
          rw [decide_eq_true hy0, decide_eq_true hy1] at CN
          obtain ⟨t, rfl⟩ : ∃ t : Nat, y = (t : Int) := ⟨y.toNat, by omega⟩
          have ht : t < D.length := by omega
          obtain ⟨B', off', hB, -, -, -, -, p4, -⟩ := (HD.out.below HY.out.2.2).node ht
          cases hB
          have hpt := par_at ht
          generalize D[t].p = tp at p4 hpt
          by_cases hp : tp = (u : Int)
          case neg =>
            have HE : Hid (false = true ↔ Pl D) := Lib.hid ⟨(fun h => by cases h), fun h => absurd h (not_pl_kid hj (by rw [hy, Int.toNat_natCast, hpt]; exact fun h => hp h.2.2))⟩
            have HB := Lib.hid HY.out.2.2
            clear HY hy hj hpt
            go_wp2_with (go_at_call 63; refine (CN _).mono ?_; rintro e w2 ⟨rfl, rfl⟩)
            go_ret
            exact ⟨false, rfl, HE.out, HB.out⟩
          subst hp
          have s0 := seen_at ht HY.out.2.1
          by_cases hs : (t : Int) ∈ seenK D u v
          · rw [decide_eq_true hs] at s0
            have HE : Hid (false = true ↔ Pl D) := Lib.hid ⟨(fun h => by cases h), fun h => absurd h (not_pl_twice hlt hj (by rw [hy]; exact hs))⟩
            have HB := Lib.hid HY.out.2.2
            clear HY hy hj hpt hs
            go_wp2_with (go_at_call 63; refine (CN _).mono ?_; rintro e w2 ⟨rfl, rfl⟩)
            go_ret
            exact ⟨false, rfl, HE.out, HB.out⟩
          · rw [decide_eq_false hs] at s0
            have hst := HY.out.1.step hj (by rw [hy, Int.toNat_natCast]; exact ⟨by omega, by omega, hpt⟩) (by rw [hy]; exact hs)
            have HZ : Hid (SeenP D u (v + 1) ∧ MarksAt (wr.setCell ⟨g, t, none⟩ (.bool true)) w.heap.size g (marksM D u (v + 1)) ∧ Below w.heap.size w (wr.setCell ⟨g, t, none⟩ (.bool true))) := Lib.hid (by
              obtain ⟨cur, hcur, hgb⟩ := row_open HY.out.2.1
              refine ⟨hst, ?_, HY.out.2.2.setCell (p := ⟨g, t, none⟩) hgb _⟩
              rw [marks_step hj hy]
              exact HY.out.2.1.set t)
            obtain ⟨cur, hcur, -⟩ := row_open HY.out.2.1
            have o1 := open_of hcur t
            clear HY hy hj hpt hs hst hcur
            go_wp2_with (go_at_call 63; refine (CN _).mono ?_; rintro e w2 ⟨rfl, rfl⟩)
            go_roundw
            case rel => exact ⟨v + 1, by go_num, by omega, HZ⟩
            case measure => simp [intOf]; omega
        · obtain rfl : v = C.length := by omega
          have HX : Hid (SeenP D (u + 1) 0 ∧ MarksAt wr w.heap.size g (marksM D (u + 1) 0) ∧ Below w.heap.size w wr) := Lib.hid (by
            obtain ⟨h1, h3, h4⟩ := HY.out
            rw [← HU.out] at h1 h3
            rw [marks_next hlt] at h3
            exact ⟨h1.next hlt, h3, h4⟩)
          clear HY
          go_wp2
          go_roundw
          case rel => exact ⟨u + 1, by go_num, by omega, HX⟩
          case measure => simp [intOf]; omega
    · obtain rfl : u = D.length := by omega
      have HS := Lib.hid HX.out.1
      have HM := Lib.hid HX.out.2
      clear HX
      go_wp2
      go_loopw [53] (fun i wr => ∃ u : Nat, i = .int .i64 u ∧ u ≤ D.length ∧ Hid (∀ j, j < u → par D j ≠ -1 → (j : Int) ∈ allK D) ∧ Hid (MarksAt wr w.heap.size g (marksM D D.length 0) ∧ Below w.heap.size w wr)) (fun i _ => D.length - (intOf i).toNat)
      case atStart => exact ⟨0, rfl, Nat.zero_le _, Lib.hid (fun j h => absurd h (Nat.not_lt_zero _)), HM⟩
      case round =>
        clear HM
        obtain ⟨u, rfl, hu, HV, HX⟩ := hrel
        by_cases hlt : u < D.length
        · have zu : (u : Int) < (D.length : Int) := by omega
          obtain ⟨B', off', hB, c0, c1, c2, c3, c4, c5, c6, c7⟩ := (HD.out.below HX.out.2).node hlt
          cases hB
          obtain ⟨N, hN⟩ := text_of D[u].n
          obtain ⟨T, hT⟩ := text_of D[u].d
          rw [strV_of hN] at c1
          rw [strV_of hT] at c2
          obtain ⟨aa, ac, ha⟩ := (HD.out.at' u hlt).form
          obtain ⟨ka, kc, hk⟩ := (HD.out.kd u hlt).form
          rw [ha] at c3
          rw [hk] at c5
          have hpu := par_at hlt
          have s0 : ∀ o, (wr.alloc o).cell? ⟨g, u, none⟩ = some (.bool (decide ((u : Int) ∈ seenK D D.length 0))) := fun o => seen_at hlt (HX.out.1.below ((Below.refl wr.heap.size wr).alloc (Nat.le_refl _) o))
          clear hN hT ha hk
          generalize D[u].k = xk at c0
          generalize D[u].a.length = al at c3
          generalize D[u].p = xp at c4 hpu
          generalize D[u].b = xb at c6
          generalize D[u].s = xs at c7
          generalize D[u].c.length = cl at c5
          have HX1 : Hid (∀ o, MarksAt (wr.alloc o) w.heap.size g (marksM D D.length 0) ∧ Below w.heap.size w (wr.alloc o)) := Lib.hid fun o => by
            have b := (Below.refl wr.heap.size wr).alloc (Nat.le_refl _) o
            exact ⟨HX.out.1.below b, HX.out.2.trans (b.mono HX.out.2.size)⟩
          clear HX
          by_cases hp : xp = -1
          · subst hp
            have HV2 : Hid (∀ j, j < u + 1 → par D j ≠ -1 → (j : Int) ∈ allK D) := Lib.hid fun j hj hjp => by
              by_cases e : j = u
              · subst e
                exact absurd hpu hjp
              · exact HV.out j (by omega) hjp
            clear HV hpu s0
            go_wp2
            go_roundw
            case rel => exact ⟨u + 1, by go_num, by omega, HV2, Lib.hid (HX1.out _)⟩
            case measure => simp [intOf]; omega
          · by_cases hm : (u : Int) ∈ seenK D D.length 0
            · rw [decide_eq_true hm] at s0
              have HV2 : Hid (∀ j, j < u + 1 → par D j ≠ -1 → (j : Int) ∈ allK D) := Lib.hid fun j hj hjp => by
                by_cases e : j = u
                · subst e
                  rw [← seenK_end]
                  exact hm
                · exact HV.out j (by omega) hjp
              clear HV hpu hm
              go_wp2
              go_roundw
              case rel => exact ⟨u + 1, by go_num, by omega, HV2, Lib.hid (HX1.out _)⟩
              case measure => simp [intOf]; omega
            · rw [decide_eq_false hm] at s0
              have HE : Hid (false = true ↔ Pl D) := Lib.hid ⟨(fun h => by cases h), fun h => absurd h (not_pl_st hlt (by rw [hpu]; exact hp) (by rw [← seenK_end]; exact hm))⟩
              clear HV hpu hm
              go_wp2
              go_ret
              exact ⟨false, rfl, HE.out, (HX1.out _).2⟩
        · obtain rfl : u = D.length := by omega
          have HE : Hid (Pl D) := Lib.hid (HS.out.end' HV.out)
          have HB := Lib.hid HX.out.2
          clear HX HV
          go_wp2
          go_ret
          exact ⟨true, rfl, ⟨fun _ => HE.out, fun _ => rfl⟩, HB.out⟩

end Go.Proofs.Ytcmbkhlnigbooaa.Dm
