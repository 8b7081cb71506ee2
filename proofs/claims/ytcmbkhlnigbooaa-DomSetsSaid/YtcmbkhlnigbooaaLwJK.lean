/- The law's own: all that can be written in a document is written over. The law's own: smudge. -/
import Derived.Test.YtcmbkhlnigbooaaPdUV
namespace Go.Proofs.Ytcmbkhlnigbooaa.Dm
open Go.RowKit

theorem OwnD.setKc {w : World} {B g cap gk ck : Nat} {D : List Nd} {A K : Nat → Value} (h : OwnD w B (.slice (some ⟨g, 0, none⟩) D.length cap) D A K) {i : Nat} (hi : i < D.length) (hK : K i = .slice (some ⟨gk, 0, none⟩) D[i].c.length ck) (m : Nat) (y : Int) :
    OwnD (w.setCell ⟨gk, m, none⟩ (.int .i64 y)) B (.slice (some ⟨g, 0, none⟩) D.length cap) (D.set i { D[i] with c := D[i].c.set m y }) A K ∧ Kp (fun j _ => j = gk) w (w.setCell ⟨gk, m, none⟩ (.int .i64 y)) ∧ B ≤ gk ∧ ∃ c, w.heap[gk]? = some (.cells c 3 (0, 0)) := by
  have hr := h.kd i hi
  rw [hK] at hr
  obtain ⟨cur, hcur, hB⟩ := row_open hr
  have k : Kp (fun j _ => j = gk) w (w.setCell ⟨gk, m, none⟩ (.int .i64 y)) := Kp.of_set hcur _ rfl
  refine ⟨⟨?_, fun j hj => ?_, fun j hj => ?_, fun j l hj hl => h.na j l (by simpa using hj) (by simpa using hl), fun j l hj hl => h.nk j l (by simpa using hj) (by simpa using hl)⟩, k, hB, cur, hcur⟩
  · have h1 := k.row h.row fun j hj _ e => row_ne h.row hcur (by decide) (by rw [hj, e])
    rw [set_kinds hi (y := { D[i] with c := D[i].c.set m y }) ⟨rfl, rfl, rfl, rfl, rfl, rfl⟩]
    simpa using h1
  · have hj' : j < D.length := by simpa using hj
    have h1 := k.row (h.at' j hj') fun l hl _ e => row_ne (h.at' j hj') hcur (by decide) (by rw [hl, e])
    rw [get_set hj]
    by_cases e : i = j
    · subst e
      rw [if_pos rfl]
      exact h1
    · rw [if_neg e]
      exact h1
  · have hj' : j < D.length := by simpa using hj
    rw [get_set hj]
    by_cases e : i = j
    · subst e
      rw [if_pos rfl]
      have h2 := ownsRow_set hr m (.int .i64 y)
      rw [show (inC D[i].c).set m (.int .i64 y) = inC (D[i].c.set m y) by unfold inC; rw [List.map_set]] at h2
      simp only [List.length_set]
      rw [hK]
      exact h2
    · rw [if_neg e]
      exact k.row (h.kd j hj') fun l hl _ e2 => by
        subst e2
        exact h.nk j i hj' hi (fun h => e h.symm) _ hl (by rw [hK]; rfl)
/-- A document whose rows lie in blocks below T. -/
def BlkT (T : Nat) (n : Nat) (sl : Value) (A K : Nat → Value) : Prop := (∀ k, sl.ownBlock = some k → k < T) ∧ ∀ i, i < n → (∀ k, (A i).ownBlock = some k → k < T) ∧ (∀ k, (K i).ownBlock = some k → k < T)
theorem OwnD.blk {w : World} {B : Nat} {sl : Value} {D : List Nd} {A K : Nat → Value} (h : OwnD w B sl D A K) : BlkT w.heap.size D.length sl A K := by
  refine ⟨fun k hk => (row_block h.row hk).elim fun _ e => e.2.2, fun i hi => ⟨fun k hk => (row_block (h.at' i hi) hk).elim fun _ e => e.2.2, fun k hk => (row_block (h.kd i hi) hk).elim fun _ e => e.2.2⟩⟩
/-- A document of one's own, between two blocks, none of its rows too long. -/
def Short (E : List Nd) : Prop := E.length ≤ 100000 ∧ ∀ x ∈ E, x.a.length ≤ 100000 ∧ x.c.length ≤ 100000
theorem FitD.short {E : List Nd} (h : FitD E) : Short E := ⟨by have := h.1; omega, fun x hx => by have := h.2 x hx; unfold FitN at this; omega⟩
theorem Short.set {E : List Nd} (h : Short E) {i : Nat} (y : Nd) (ha : y.a.length ≤ 100000) (hc : y.c.length ≤ 100000) : Short (E.set i y) := ⟨by rw [List.length_set]; exact h.1, fun x hx => by
  rcases List.mem_or_eq_of_mem_set hx with h1 | rfl
  · exact h.2 x h1
  · exact ⟨ha, hc⟩⟩
def tB (B T : Nat) (j : Nat) (_ : TypeId) : Prop := B ≤ j ∧ j < T
/-- Where the writing stands: the variable's block R, the document's length n. -/
def SmW (w1 : World) (B T R n : Nat) (sl : Value) (A K : Nat → Value) (wr : World) : Prop := (∃ E, E.length = n ∧ Short E ∧ OwnD wr B sl E A K) ∧ wr.heap[R]? = some (.cells #[sl] 24 (0, 0)) ∧ Kp (tB B T) w1 wr
/-- The same within a node. -/
def SmN (w1 : World) (B T R n i na nk : Nat) (sl : Value) (A K : Nat → Value) (wr : World) : Prop := (∃ E, E.length = n ∧ Short E ∧ OwnD wr B sl E A K ∧ ∃ h : i < E.length, E[i].a.length = na ∧ E[i].c.length = nk) ∧ wr.heap[R]? = some (.cells #[sl] 24 (0, 0)) ∧ Kp (tB B T) w1 wr
section
variable {w1 wr : World} {B T R n i na nk : Nat} {sl : Value} {A K : Nat → Value}
theorem SmN.w (h : SmN w1 B T R n i na nk sl A K wr) : SmW w1 B T R n sl A K wr := by
  obtain ⟨⟨E, h1, h2, h3, _⟩, h4, h5⟩ := h
  exact ⟨⟨E, h1, h2, h3⟩, h4, h5⟩
theorem SmW.node (h : SmW w1 B T R n sl A K wr) (hi : i < n) : ∃ na nk, na ≤ 100000 ∧ nk ≤ 100000 ∧ SmN w1 B T R n i na nk sl A K wr := by
  obtain ⟨⟨E, h1, h2, h3⟩, h4, h5⟩ := h
  have hi' : i < E.length := by omega
  exact ⟨_, _, (h2.2 _ (List.getElem_mem hi')).1, (h2.2 _ (List.getElem_mem hi')).2, ⟨E, h1, h2, h3, hi', rfl, rfl⟩, h4, h5⟩
theorem SmN.drew (h : SmN w1 B T R n i na nk sl A K wr) : SmN w1 B T R n i na nk sl A K wr.drew := by
  obtain ⟨⟨E, h1, h2, h3, h6⟩, h4, h5⟩ := h
  have b : Below wr.heap.size wr wr.drew := (Below.refl _ _).drew
  exact ⟨⟨E, h1, h2, h3.below b, h6⟩, (b.block _ (lt_of_block h4)).trans h4, h5.trans (Kp.of_below b)⟩
theorem SmN.drewN (h : SmN w1 B T R n i na nk sl A K wr) (m : Nat) : SmN w1 B T R n i na nk sl A K (wr.drewN m) := by
  obtain ⟨⟨E, h1, h2, h3, h6⟩, h4, h5⟩ := h
  have b : Below wr.heap.size wr (wr.drewN m) := belowN (Below.refl _ _) m
  exact ⟨⟨E, h1, h2, h3.below b, h6⟩, (b.block _ (lt_of_block h4)).trans h4, h5.trans (Kp.of_below b)⟩
/-- A node's cells. -/
theorem SmN.cells {g cap : Nat} (h : SmN w1 B T R n i na nk (.slice (some ⟨g, 0, none⟩) n cap) A K wr) : wr.cell? ⟨R, 0, none⟩ = some (.slice (some ⟨g, 0, none⟩) n cap) ∧ wr.cell? ⟨g, i * 8 + 3, none⟩ = some (A i) ∧ wr.cell? ⟨g, i * 8 + 5, none⟩ = some (K i) ∧ (∃ a c, A i = .slice a na c) ∧ (∃ a c, K i = .slice a nk c) := by
  obtain ⟨⟨E, h1, h2, h3, hi, ha, hc⟩, h4, h5⟩ := h
  subst h1
  obtain ⟨B', off', hB', -, -, -, c3, -, c5, -⟩ := h3.doc.node hi
  cases hB'
  simp only [Nat.zero_add] at c3 c5
  obtain ⟨aa, ac, e1⟩ := (h3.doc.at' i hi).form
  obtain ⟨ka, kc, e2⟩ := (h3.doc.kd i hi).form
  exact ⟨cell_of h4 0, c3, c5, ⟨aa, ac, by rw [e1, ha]⟩, ⟨ka, kc, by rw [e2, hc]⟩⟩
/-- An attribute's value is written over. -/
theorem SmN.attr {g cap : Nat} (h : SmN w1 B T R n i na nk (.slice (some ⟨g, 0, none⟩) n cap) A K wr) (hT : BlkT T n (.slice (some ⟨g, 0, none⟩) n cap) A K) {v : Nat} (hv : v < na) (s : List UInt8) : ∃ ga ca, A i = .slice (some ⟨ga, 0, none⟩) na ca ∧ (∃ x, wr.cell? ⟨ga, v * 2 + 1, none⟩ = some x) ∧ wr.frozen? ⟨ga, v * 2 + 1, none⟩ = false ∧ SmN w1 B T R n i na nk (.slice (some ⟨g, 0, none⟩) n cap) A K (wr.setCell ⟨ga, v * 2 + 1, none⟩ (strV s)) := by
  obtain ⟨⟨E, h1, h2, h3, hi, ha, hc⟩, h4, h5⟩ := h
  subst h1
  obtain ⟨ga, ca, e⟩ : ∃ ga ca, A i = .slice (some ⟨ga, 0, none⟩) na ca := by
    rcases rowForms (h3.at' i hi) with ⟨_, e⟩ | ⟨g, c, e⟩
    · omega
    · exact ⟨g, c, by rw [e, ha]⟩
  have hv' : v < E[i].a.length := by omega
  obtain ⟨o, k, hB, c, hcur⟩ := h3.setV hi (ga := ga) (ca := ca) (by rw [e, ha]) hv' s
  have hga : ga < T := (hT.2 i hi).1 ga (by rw [e]; rfl)
  have hr := h3.at' i hi
  rw [show A i = .slice (some ⟨ga, 0, none⟩) E[i].a.length ca by rw [e, ha]] at hr
  have hcell := hr.cellAt (v * 2 + 1) (by omega)
  refine ⟨ga, ca, e, ⟨_, hcell.trans (List.getElem?_eq_getElem (by rw [atC_length]; omega))⟩, open_of hcur _, ⟨E.set i { E[i] with a := E[i].a.set v (E[i].a[v].1, s) }, ?_, ?_, ?_, ?_⟩, k.cells h4 (fun e2 => ?_), h5.trans (k.mono fun j _ _ _ _ e2 => ?_)⟩
  · simp
  · exact h2.set _ (by simp only [List.length_set]; exact (h2.2 _ (List.getElem_mem hi)).1) (h2.2 _ (List.getElem_mem hi)).2
  · simpa using o
  · refine ⟨by simpa using hi, ?_⟩
    rw [get_set, if_pos rfl]
    simp only [List.length_set]
    exact ⟨ha, hc⟩
  · have e3 : R = ga := e2
    rw [← e3, h4] at hcur
    cases hcur
  · have e3 : j = ga := e2
    exact ⟨by omega, by omega⟩
/-- A kid is written over. -/
theorem SmN.kid {g cap : Nat} (h : SmN w1 B T R n i na nk (.slice (some ⟨g, 0, none⟩) n cap) A K wr) (hT : BlkT T n (.slice (some ⟨g, 0, none⟩) n cap) A K) {v : Nat} (hv : v < nk) (y : Int) : ∃ ga ca, K i = .slice (some ⟨ga, 0, none⟩) nk ca ∧ (∃ x, wr.cell? ⟨ga, v, none⟩ = some x) ∧ wr.frozen? ⟨ga, v, none⟩ = false ∧ SmN w1 B T R n i na nk (.slice (some ⟨g, 0, none⟩) n cap) A K (wr.setCell ⟨ga, v, none⟩ (.int .i64 y)) := by
  obtain ⟨⟨E, h1, h2, h3, hi, ha, hc⟩, h4, h5⟩ := h
  subst h1
  obtain ⟨ga, ca, e⟩ : ∃ ga ca, K i = .slice (some ⟨ga, 0, none⟩) nk ca := by
    rcases rowForms (h3.kd i hi) with ⟨_, e⟩ | ⟨g, c, e⟩
    · omega
    · exact ⟨g, c, by rw [e, hc]⟩
  obtain ⟨o, k, hB, c, hcur⟩ := h3.setKc hi (gk := ga) (ck := ca) (by rw [e, hc]) v y
  have hga : ga < T := (hT.2 i hi).2 ga (by rw [e]; rfl)
  have hr := h3.kd i hi
  rw [show K i = .slice (some ⟨ga, 0, none⟩) E[i].c.length ca by rw [e, hc]] at hr
  have hcell := hr.cellAt v (by omega)
  refine ⟨ga, ca, e, ⟨_, hcell.trans (List.getElem?_eq_getElem (by rw [inC_length]; omega))⟩, open_of hcur _, ⟨E.set i { E[i] with c := E[i].c.set v y }, ?_, ?_, ?_, ?_⟩, k.cells h4 (fun e2 => ?_), h5.trans (k.mono fun j _ _ _ _ e2 => ?_)⟩
  · simp
  · exact h2.set _ (h2.2 _ (List.getElem_mem hi)).1 (by simp only [List.length_set]; exact (h2.2 _ (List.getElem_mem hi)).2)
  · simpa using o
  · refine ⟨by simpa using hi, ?_⟩
    rw [get_set, if_pos rfl]
    simp only [List.length_set]
    exact ⟨ha, hc⟩
  · have e3 : R = ga := e2
    rw [← e3, h4] at hcur
    cases hcur
  · have e3 : j = ga := e2
    exact ⟨by omega, by omega⟩
/-- A node's parent is written over. -/
theorem SmN.par {g cap : Nat} (h : SmN w1 B T R n i na nk (.slice (some ⟨g, 0, none⟩) n cap) A K wr) (hT : BlkT T n (.slice (some ⟨g, 0, none⟩) n cap) A K) (y : Int) : (∃ x, wr.cell? ⟨g, i * 8 + 4, none⟩ = some x) ∧ wr.frozen? ⟨g, i * 8 + 4, none⟩ = false ∧ SmN w1 B T R n i na nk (.slice (some ⟨g, 0, none⟩) n cap) A K (wr.setCell ⟨g, i * 8 + 4, none⟩ (.int .i64 y)) := by
  obtain ⟨⟨E, h1, h2, h3, hi, ha, hc⟩, h4, h5⟩ := h
  subst h1
  obtain ⟨cur, hcur, hB⟩ := h3.block
  obtain ⟨B', off', hB', -, -, -, -, c4, -⟩ := h3.doc.node hi
  cases hB'
  simp only [Nat.zero_add] at c4
  have o := h3.setP hi y
  have k : Kp (fun j _ => j = g) wr (wr.setCell ⟨g, i * 8 + 4, none⟩ (.int .i64 y)) := Kp.of_set hcur _ rfl
  have hga : g < T := hT.1 g rfl
  refine ⟨⟨_, c4⟩, open_of hcur _, ⟨E.set i { E[i] with p := y }, ?_, ?_, ?_, ?_⟩, k.cells h4 (fun e2 => ?_), h5.trans (k.mono fun j _ _ _ _ e2 => ?_)⟩
  · simp
  · exact h2.set _ (h2.2 _ (List.getElem_mem hi)).1 (h2.2 _ (List.getElem_mem hi)).2
  · simpa using o
  · refine ⟨by simpa using hi, ?_⟩
    rw [get_set, if_pos rfl]
    exact ⟨ha, hc⟩
  · have e3 : R = g := e2
    rw [← e3, h4] at hcur
    cases hcur
  · have e3 : j = g := e2
    exact ⟨by omega, by omega⟩
end

end Go.Proofs.Ytcmbkhlnigbooaa.Dm

namespace Go.Proofs.Ytcmbkhlnigbooaa.Dm
open Go.RowKit

set_option maxRecDepth 100000 in
set_option maxHeartbeats 8000000 in
theorem smudge_hid (E : List Nd) (hs : Short E) (B T : Nat) : Hid (∀ W sl A K, OwnD W B sl E A K → BlkT T E.length sl A K → T ≤ W.heap.size → Calls Try.prog 30 #[.agg #[sl]] W fun e w' => e = .returned (.tuple #[]) ∧ Kp (tB B T) W w') := Lib.hid fun w sl A K h hT hle => by
  obtain ⟨a, cap, rfl⟩ := h.form
  have hn := hs.1
  have al := (Below.refl w.heap.size w).alloc (Nat.le_refl _) (.cells #[.slice a E.length cap] 24)
  have nb := new_block w (.cells #[.slice a E.length cap] 24)
  have o1 := h.below al
  have H1 : SmW w B T w.heap.size E.length (.slice a E.length cap) A K (w.alloc (.cells #[.slice a E.length cap] 24)) := ⟨⟨E, rfl, hs, o1⟩, nb, Kp.of_below al⟩
  have hE : ∀ u, u < E.length → ∃ g, a = some ⟨g, 0, none⟩ := fun u hu => by
    rcases rowForms h.row with ⟨_, e⟩ | ⟨g, c, e⟩
    · omega
    · cases e; exact ⟨g, rfl⟩
  replace H1 := Lib.hid H1
  replace hT := Lib.hid hT
  generalize hw1 : w.alloc (.cells #[.slice a E.length cap] 24) = w1 at H1
  generalize E.length = n at *
  clear hs h o1 nb al
  obtain ⟨R, hR⟩ : ∃ R, w.heap.size = R := ⟨_, rfl⟩
  rw [hR] at H1 hle
  go_enter Try.func30, Try.ntmps30
  go_wp2
  go_loopw [2] (fun i wr => ∃ u : Nat, i = .int .i64 u ∧ u ≤ n ∧ Hid (SmW w B T R n (.slice a n cap) A K wr)) (fun i _ => n - (intOf i).toNat)
  case atStart => exact ⟨0, rfl, Nat.zero_le _, H1⟩
  case round =>
    obtain ⟨u, rfl, hu, H2⟩ := hrel
    clear H1
    have e0 := cell_of H2.out.2.1 0
    by_cases hlt : u < n
    · obtain ⟨g, rfl⟩ := hE u hlt
      obtain ⟨na, nk, hna, hnk, H3⟩ := H2.out.node hlt
      replace H3 := Lib.hid H3
      clear e0
      replace hE := Lib.hid hE
      have zu : (u : Int) < (n : Int) := by omega
      have zu0 : (0 : Int) ≤ (u : Int) := by omega
      have e0 := cell_of H2.out.2.1 0
      clear H2
      go_wp2
      clear e0
      go_loopw [3] (fun j wr => ∃ v : Nat, j = .int .i64 v ∧ v ≤ na ∧ Hid (SmN w B T R n u na nk (.slice (some ⟨g, 0, none⟩) n cap) A K wr)) (fun j _ => na - (intOf j).toNat)
      case atStart => exact ⟨0, rfl, Nat.zero_le _, H3⟩
      case round =>
        obtain ⟨v, rfl, hv, H4⟩ := hrel
        clear H3
        obtain ⟨e0, e3, -, ⟨aa, ac, hA⟩, -⟩ := H4.out.cells
        rw [hA] at e3
        by_cases hlv : v < na
        · obtain ⟨ga, ca, hA2, ⟨x, cx⟩, fx, H5⟩ := H4.out.attr hT.out hlv [115, 109, 117, 100, 103, 101]
          rw [hA] at hA2
          cases hA2
          rw [show strV [115, 109, 117, 100, 103, 101] = .string ⟨#[115, 109, 117, 100, 103, 101]⟩ from rfl] at H5
          replace H5 := Lib.hid H5
          replace hA := Lib.hid hA
          have zv : (v : Int) < (na : Int) := by omega
          have zv0 : (0 : Int) ≤ (v : Int) := by omega
          clear H4
          go_wp2
          go_roundw
          case rel => exact ⟨v + 1, by go_num, by omega, H5⟩
          case measure => simp [intOf]; omega
        · replace hA := Lib.hid hA
          obtain rfl : v = na := by omega
          go_wp2
          clear e0 e3
          go_loopw [4] (fun j wr => ∃ v' : Nat, j = .int .i64 v' ∧ v' ≤ nk ∧ Hid (SmN w B T R n u v nk (.slice (some ⟨g, 0, none⟩) n cap) A K wr)) (fun j _ => nk - (intOf j).toNat)
          case atStart => exact ⟨0, rfl, Nat.zero_le _, H4⟩
          case round =>
            obtain ⟨v', rfl, hv', H6⟩ := hrel
            clear H4
            obtain ⟨e0, -, e5, -, ⟨ka, kc, hK⟩⟩ := H6.out.cells
            rw [hK] at e5
            by_cases hlw : v' < nk
            · obtain ⟨gk, ck, hK2, ⟨x, cx⟩, fx, H7⟩ := H6.out.kid hT.out hlw 77
              rw [hK] at hK2
              cases hK2
              replace H7 := Lib.hid H7
              replace hK := Lib.hid hK
              have zv : (v' : Int) < (nk : Int) := by omega
              have zv0 : (0 : Int) ≤ (v' : Int) := by omega
              clear H6
              go_wp2
              go_roundw
              case rel => exact ⟨v' + 1, by go_num, by omega, H7⟩
              case measure => simp [intOf]; omega
            · obtain rfl : v' = nk := by omega
              obtain ⟨⟨x, cx⟩, fx, H7⟩ := H6.out.par hT.out 77
              replace H7 := Lib.hid H7.w
              replace hK := Lib.hid hK
              clear H6
              go_wp2
              go_roundw
              case rel => exact ⟨u + 1, by go_num, by omega, H7⟩
              case measure => simp [intOf]; omega
    · go_wp2
      go_end0
      exact ⟨rfl, H2.out.2.2⟩

end Go.Proofs.Ytcmbkhlnigbooaa.Dm
