/- The program's copyDoc: a document whose rows are in blocks of their own. The program's copyDoc: the walk. The program's changed: a copy of a document, changed, handed back. -/
import Derived.Test.YtcmbkhlnigbooaaPdMN
namespace Go.Proofs.Ytcmbkhlnigbooaa.Dm
open Go.RowKit

theorem row_set8 {w : World} {B g cap n : Nat} {xs : List Value} (h : w.ownsRow B 42 8 (.slice (some ⟨g, 0, none⟩) n cap) n xs) (j : Nat) (v0 v1 v2 v3 v4 v5 v6 v7 : Value) :
    ((((((((w.setCell ⟨g, j, none⟩ v0).setCell ⟨g, j + 1, none⟩ v1).setCell ⟨g, j + 2, none⟩ v2).setCell ⟨g, j + 3, none⟩ v3).setCell ⟨g, j + 4, none⟩ v4).setCell ⟨g, j + 5, none⟩ v5).setCell ⟨g, j + 6, none⟩ v6).setCell ⟨g, j + 7, none⟩ v7).ownsRow B 42 8 (.slice (some ⟨g, 0, none⟩) n cap) n ((((((((xs.set j v0).set (j + 1) v1).set (j + 2) v2).set (j + 3) v3).set (j + 4) v4).set (j + 5) v5).set (j + 6) v6).set (j + 7) v7) ∧ Kp (fun k _ => k = g) w ((((((((w.setCell ⟨g, j, none⟩ v0).setCell ⟨g, j + 1, none⟩ v1).setCell ⟨g, j + 2, none⟩ v2).setCell ⟨g, j + 3, none⟩ v3).setCell ⟨g, j + 4, none⟩ v4).setCell ⟨g, j + 5, none⟩ v5).setCell ⟨g, j + 6, none⟩ v6).setCell ⟨g, j + 7, none⟩ v7) := by
  have k : ∀ {w : World} {xs : List Value} (_ : w.ownsRow B 42 8 (.slice (some ⟨g, 0, none⟩) n cap) n xs) (j : Nat) (v : Value), Kp (fun k _ => k = g) w (w.setCell ⟨g, j, none⟩ v) := fun h j v => by
    obtain ⟨cur, h1, _⟩ := row_open h
    exact Kp.of_set h1 v rfl
  have h0 := ownsRow_set h j v0
  have h1 := ownsRow_set h0 (j + 1) v1
  have h2 := ownsRow_set h1 (j + 2) v2
  have h3 := ownsRow_set h2 (j + 3) v3
  have h4 := ownsRow_set h3 (j + 4) v4
  have h5 := ownsRow_set h4 (j + 5) v5
  have h6 := ownsRow_set h5 (j + 6) v6
  have h7 := ownsRow_set h6 (j + 7) v7
  exact ⟨h7, ((((((((k h j v0).trans (k h0 (j + 1) v1)).trans (k h1 (j + 2) v2)).trans (k h2 (j + 3) v3)).trans (k h3 (j + 4) v4)).trans (k h4 (j + 5) v5)).trans (k h5 (j + 6) v6)).trans (k h6 (j + 7) v7))⟩
theorem set_same {l : List Value} {j : Nat} {v : Value} (h : l[j]? = some v) : l.set j v = l := by
  obtain ⟨h1, h2⟩ := List.getElem?_eq_some_iff.1 h
  rw [← h2]
  exact List.set_getElem_self h1
theorem ndsC_set8 (D : List Nd) (A K : Nat → Value) (i : Nat) (hi : i < D.length) (av kv : Value) : (((((((((ndsC D A K).set (i * 8) (.int .i64 D[i].k)).set ((i * 8) + 1) (strV D[i].n)).set ((i * 8) + 2) (strV D[i].d)).set ((i * 8) + 3) av).set ((i * 8) + 4) (.int .i64 D[i].p)).set ((i * 8) + 5) kv).set ((i * 8) + 6) (.bool D[i].b)).set ((i * 8) + 7) (.bool D[i].s)) = ndsC D (upd A i av) (upd K i kv) := by
  have at_ : ∀ (A K : Nat → Value) (j : Nat) (v : Value), j < 8 → (ndC D[i] (A i) (K i))[j]? = some v → (ndsC D A K)[i * 8 + j]? = some v := fun A K j v hj h => by rw [ndsC_at D A K i j hi hj]; exact h
  rw [set_same (l := ndsC D A K) (j := i * 8) (at_ A K 0 _ (by decide) rfl), set_same (l := ndsC D A K) (at_ A K 1 _ (by decide) rfl), set_same (l := ndsC D A K) (at_ A K 2 _ (by decide) rfl), ndsC_setA D A K i hi av, set_same (l := ndsC D (upd A i av) K) (at_ _ _ 4 _ (by decide) rfl), ndsC_setK D _ K i hi kv, set_same (l := ndsC D (upd A i av) (upd K i kv)) (at_ _ _ 6 _ (by decide) rfl), set_same (l := ndsC D (upd A i av) (upd K i kv)) (at_ _ _ 7 _ (by decide) rfl)]

/-- A copy under way: the first u nodes have rows of their own. -/
structure CopyI (w0 : World) (g cap : Nat) (D : List Nd) (A K : Nat → Value) (u : Nat) (w : World) (A' K' : Nat → Value) : Prop where
  row : w.ownsRow w0.heap.size 42 8 (.slice (some ⟨g, 0, none⟩) D.length cap) D.length (ndsC D A' K')
  at' : ∀ i (h : i < D.length), i < u → w.ownsRow w0.heap.size 61 2 (A' i) D[i].a.length (atC D[i].a)
  kd : ∀ i (h : i < D.length), i < u → w.ownsRow w0.heap.size 3 1 (K' i) D[i].c.length (inC D[i].c)
  na : ∀ i j, i < u → j < u → i ≠ j → ∀ k, (A' i).ownBlock = some k → (A' j).ownBlock ≠ some k
  nk : ∀ i j, i < u → j < u → i ≠ j → ∀ k, (K' i).ownBlock = some k → (K' j).ownBlock ≠ some k
  old : ∀ i, u ≤ i → A' i = A i ∧ K' i = K i
theorem CopyI.kp {P : Nat → TypeId → Prop} {w0 : World} {g cap : Nat} {D : List Nd} {A K : Nat → Value} {u : Nat} {w w' : World} {A' K' : Nat → Value} (h : CopyI w0 g cap D A K u w A' K') (k : Kp P w w') (hp : ∀ j t, w0.heap.size ≤ j → ¬ P j t) : CopyI w0 g cap D A K u w' A' K' :=
  ⟨k.row h.row fun j _ hj => hp j _ hj, fun i hi hu => k.row (h.at' i hi hu) fun j _ hj => hp j _ hj, fun i hi hu => k.row (h.kd i hi hu) fun j _ hj => hp j _ hj, h.na, h.nk, h.old⟩
theorem CopyI.below {w0 : World} {g cap : Nat} {D : List Nd} {A K : Nat → Value} {u : Nat} {w w' : World} {A' K' : Nat → Value} (h : CopyI w0 g cap D A K u w A' K') (b : Below w.heap.size w w') : CopyI w0 g cap D A K u w' A' K' :=
  ⟨row_below h.row b, fun i hi hu => row_below (h.at' i hi hu) b, fun i hi hu => row_below (h.kd i hi hu) b, h.na, h.nk, h.old⟩
/-- A node more is copied: its rows are made at w3, behind all blocks of wa. -/
theorem CopyI.step {w0 wa w3 : World} {g cap : Nat} {D : List Nd} {A K : Nat → Value} {u : Nat} {A' K' : Nat → Value} {av kv : Value} (h : CopyI w0 g cap D A K u wa A' K') (hu : u < D.length) (b3 : Below wa.heap.size wa w3) (hw : w0.heap.size ≤ wa.heap.size)
    (ra : w3.ownsRow wa.heap.size 61 2 av D[u].a.length (atC D[u].a)) (rk : w3.ownsRow wa.heap.size 3 1 kv D[u].c.length (inC D[u].c)) :
    CopyI w0 g cap D A K (u + 1) ((((((((w3.setCell ⟨g, u * 8, none⟩ (.int .i64 D[u].k)).setCell ⟨g, u * 8 + 1, none⟩ (strV D[u].n)).setCell ⟨g, u * 8 + 2, none⟩ (strV D[u].d)).setCell ⟨g, u * 8 + 3, none⟩ av).setCell ⟨g, u * 8 + 4, none⟩ (.int .i64 D[u].p)).setCell ⟨g, u * 8 + 5, none⟩ kv).setCell ⟨g, u * 8 + 6, none⟩ (.bool D[u].b)).setCell ⟨g, u * 8 + 7, none⟩ (.bool D[u].s)) (upd A' u av) (upd K' u kv) ∧ Kp (fun k _ => k = g) w3 ((((((((w3.setCell ⟨g, u * 8, none⟩ (.int .i64 D[u].k)).setCell ⟨g, u * 8 + 1, none⟩ (strV D[u].n)).setCell ⟨g, u * 8 + 2, none⟩ (strV D[u].d)).setCell ⟨g, u * 8 + 3, none⟩ av).setCell ⟨g, u * 8 + 4, none⟩ (.int .i64 D[u].p)).setCell ⟨g, u * 8 + 5, none⟩ kv).setCell ⟨g, u * 8 + 6, none⟩ (.bool D[u].b)).setCell ⟨g, u * 8 + 7, none⟩ (.bool D[u].s)) := by
  obtain ⟨h8, k8⟩ := row_set8 (row_below h.row b3) (u * 8) (.int .i64 D[u].k) (strV D[u].n) (strV D[u].d) av (.int .i64 D[u].p) kv (.bool D[u].b) (.bool D[u].s)
  rw [ndsC_set8 D A' K' u hu av kv] at h8
  obtain ⟨cur, hcur, _⟩ := row_open (row_below h.row b3)
  have hne : ∀ {base size n : Nat} {e : TypeId} {v : Value} {xs : List Value}, w3.ownsRow base e size v n xs → 42 ≠ e → ∀ k, v.ownBlock = some k → base ≤ k → ¬ k = g := fun r he k hk _ e => row_ne r hcur he (by rw [hk, e])
  have hra := row_low ra hw
  have hrk := row_low rk hw
  refine ⟨⟨h8, fun i hi hiu => ?_, fun i hi hiu => ?_, fun i j hi hj hij k hk => ?_, fun i j hi hj hij k hk => ?_, fun i hi => ⟨(upd_ne (by omega)).trans (h.old i (by omega)).1, (upd_ne (by omega)).trans (h.old i (by omega)).2⟩⟩, k8⟩
  · by_cases e : i = u
    · subst e
      rw [upd_self]
      exact k8.row hra (hne hra (by decide))
    · rw [upd_ne e]
      have r := row_below (h.at' i hi (by omega)) b3
      exact k8.row r (hne r (by decide))
  · by_cases e : i = u
    · subst e
      rw [upd_self]
      exact k8.row hrk (hne hrk (by decide))
    · rw [upd_ne e]
      have r := row_below (h.kd i hi (by omega)) b3
      exact k8.row r (hne r (by decide))
  · by_cases e : i = u
    · subst e
      rw [upd_self] at hk
      rw [upd_ne (fun e => hij e.symm)]
      intro h2
      have h3 := (row_block (h.at' j (by omega) (by omega)) h2).choose_spec.2.2
      have h4 := (ra.lt k hk).1
      omega
    · rw [upd_ne e] at hk
      by_cases e2 : j = u
      · subst e2
        rw [upd_self]
        intro h2
        have h3 := (row_block (h.at' i (by omega) (by omega)) hk).choose_spec.2.2
        have h4 := (ra.lt k h2).1
        omega
      · rw [upd_ne e2]
        exact h.na i j (by omega) (by omega) hij k hk
  · by_cases e : i = u
    · subst e
      rw [upd_self] at hk
      rw [upd_ne (fun e => hij e.symm)]
      intro h2
      have h3 := (row_block (h.kd j (by omega) (by omega)) h2).choose_spec.2.2
      have h4 := (rk.lt k hk).1
      omega
    · rw [upd_ne e] at hk
      by_cases e2 : j = u
      · subst e2
        rw [upd_self]
        intro h2
        have h3 := (row_block (h.kd i (by omega) (by omega)) hk).choose_spec.2.2
        have h4 := (rk.lt k h2).1
        omega
      · rw [upd_ne e2]
        exact h.nk i j (by omega) (by omega) hij k hk
theorem CopyI.done {w0 w : World} {g cap : Nat} {D : List Nd} {A K : Nat → Value} {A' K' : Nat → Value} (h : CopyI w0 g cap D A K D.length w A' K') : OwnD w w0.heap.size (.slice (some ⟨g, 0, none⟩) D.length cap) D A' K' := ⟨h.row, fun i hi => h.at' i hi hi, fun i hi => h.kd i hi hi, h.na, h.nk⟩

end Go.Proofs.Ytcmbkhlnigbooaa.Dm

namespace Go.Proofs.Ytcmbkhlnigbooaa.Dm
open Go.RowKit

/-- Between two nodes. -/
structure CopyL (w : World) (g cap : Nat) (D : List Nd) (A K : Nat → Value) (u : Nat) (wr : World) : Prop where
  cp : ∃ A' K', CopyI w g cap D A K u wr A' K'
  bx : wr.heap[w.heap.size]? = some (.cells #[.slice (some ⟨g, 0, none⟩) D.length cap] 24 (0, 0))
  rx : wr.heap[w.heap.size + 1]? = some (.cells #[.slice none 0 0] 24 (0, 0))
  bl : Below w.heap.size w wr
theorem CopyL.below {w : World} {g cap : Nat} {D : List Nd} {A K : Nat → Value} {u : Nat} {wr w' : World} (h : CopyL w g cap D A K u wr) (b : Below wr.heap.size wr w') : CopyL w g cap D A K u w' := by
  obtain ⟨A', K', h1⟩ := h.cp
  exact ⟨⟨A', K', h1.below b⟩, (b.block _ (lt_of_block h.bx)).trans h.bx, (b.block _ (lt_of_block h.rx)).trans h.rx, h.bl.trans (b.mono h.bl.size)⟩
theorem CopyL.step {w wa w3 : World} {g cap : Nat} {D : List Nd} {A K : Nat → Value} {u : Nat} {av kv : Value} (h : CopyL w g cap D A K u wa) (hu : u < D.length) (b3 : Below wa.heap.size wa w3)
    (ra : w3.ownsRow wa.heap.size 61 2 av D[u].a.length (atC D[u].a)) (rk : w3.ownsRow wa.heap.size 3 1 kv D[u].c.length (inC D[u].c)) : CopyL w g cap D A K (u + 1) ((((((((w3.setCell ⟨g, u * 8, none⟩ (.int .i64 D[u].k)).setCell ⟨g, u * 8 + 1, none⟩ (strV D[u].n)).setCell ⟨g, u * 8 + 2, none⟩ (strV D[u].d)).setCell ⟨g, u * 8 + 3, none⟩ av).setCell ⟨g, u * 8 + 4, none⟩ (.int .i64 D[u].p)).setCell ⟨g, u * 8 + 5, none⟩ kv).setCell ⟨g, u * 8 + 6, none⟩ (.bool D[u].b)).setCell ⟨g, u * 8 + 7, none⟩ (.bool D[u].s)) := by
  obtain ⟨A', K', h1⟩ := h.cp
  obtain ⟨h2, k⟩ := h1.step hu b3 h.bl.size ra rk
  obtain ⟨cur, hcur, hgb⟩ := row_open (row_below h1.row b3)
  have x3 := (b3.block _ (lt_of_block h.bx)).trans h.bx
  have y3 := (b3.block _ (lt_of_block h.rx)).trans h.rx
  refine ⟨⟨_, _, h2⟩, k.cells x3 fun e => ?_, k.cells y3 fun e => ?_, (h.bl.trans (b3.mono h.bl.size)).trans (k.below (fun j _ e => by rw [e]; exact hgb) (Nat.le_trans h.bl.size b3.size))⟩
  · subst e; rw [x3] at hcur; cases hcur
  · subst e; rw [y3] at hcur; cases hcur
theorem CopyL.node {w : World} {g cap : Nat} {D : List Nd} {A K : Nat → Value} {u : Nat} {wr : World} (h : CopyL w g cap D A K u wr) (hu : u < D.length) : ∀ j v, j < 8 → (ndC D[u] (A u) (K u))[j]? = some v → wr.cell? ⟨g, u * 8 + j, none⟩ = some v := fun j v hj hv => by
  obtain ⟨A', K', h1⟩ := h.cp
  have h2 := h1.row.cellAt (u * 8 + j) (by omega)
  rw [h2, ndsC_at D A' K' u j hu hj, (h1.old u (Nat.le_refl _)).1, (h1.old u (Nat.le_refl _)).2]
  exact hv
theorem CopyL.eight {w : World} {g cap : Nat} {D : List Nd} {A K : Nat → Value} {u : Nat} {wr : World} (h : CopyL w g cap D A K u wr) (hu : u < D.length) : wr.cell? ⟨g, u * 8, none⟩ = some (.int .i64 D[u].k) ∧ wr.cell? ⟨g, u * 8 + 1, none⟩ = some (strV D[u].n) ∧ wr.cell? ⟨g, u * 8 + 2, none⟩ = some (strV D[u].d) ∧ wr.cell? ⟨g, u * 8 + 3, none⟩ = some (A u) ∧ wr.cell? ⟨g, u * 8 + 4, none⟩ = some (.int .i64 D[u].p) ∧ wr.cell? ⟨g, u * 8 + 5, none⟩ = some (K u) ∧ wr.cell? ⟨g, u * 8 + 6, none⟩ = some (.bool D[u].b) ∧ wr.cell? ⟨g, u * 8 + 7, none⟩ = some (.bool D[u].s) :=
  ⟨h.node hu 0 _ (by decide) rfl, h.node hu 1 _ (by decide) rfl, h.node hu 2 _ (by decide) rfl, h.node hu 3 _ (by decide) rfl, h.node hu 4 _ (by decide) rfl, h.node hu 5 _ (by decide) rfl, h.node hu 6 _ (by decide) rfl, h.node hu 7 _ (by decide) rfl⟩
theorem CopyL.open' {w : World} {g cap : Nat} {D : List Nd} {A K : Nat → Value} {u : Nat} {wr : World} (h : CopyL w g cap D A K u wr) (j : Nat) : wr.frozen? ⟨g, j, none⟩ = false := by
  obtain ⟨A', K', h1⟩ := h.cp
  obtain ⟨cur, hcur, _⟩ := row_open h1.row
  exact open_of hcur j

set_option maxRecDepth 100000 in
set_option maxHeartbeats 4000000 in
theorem copyDoc_hid (D : List Nd) (hf : FitD D) (h0 : 0 < D.length) : Hid (∀ W sl A K, DocIn W sl D A K → Calls Try.prog 60 #[.agg #[sl]] W fun e w' => ∃ sl', e = .returned (.agg #[sl']) ∧ OwnX w' W.heap.size sl' D ∧ Below W.heap.size W w') := Lib.hid fun w sl A K hd => by
  obtain ⟨a, c, rfl⟩ := hd.form
  have hfl := hf.1
  have CC := cloneN_hid D.length (ndsC D A K) (by omega)
  have al1 := (Below.refl w.heap.size w).alloc (Nat.le_refl _) (.cells #[.slice a D.length c] 24)
  have hb1 := new_block w (.cells #[.slice a D.length c] 24)
  have hs1 : (w.alloc (.cells #[.slice a D.length c] 24)).heap.size = w.heap.size + 1 := by simp
  generalize hw1 : w.alloc (.cells #[.slice a D.length c] 24) = w1 at al1 hb1 hs1
  have al2 := (Below.refl w1.heap.size w1).alloc (Nat.le_refl _) (.cells #[.slice none 0 0] 24)
  have hb2 := new_block w1 (.cells #[.slice none 0 0] 24)
  rw [hs1] at hb2
  generalize hw2 : w1.alloc (.cells #[.slice none 0 0] 24) = w2 at al2 hb2
  have hb1' := (al2.block _ (lt_of_block hb1)).trans hb1
  have hbel := al1.trans (al2.mono (by omega))
  have e0 := cell_of hb1' 0
  have HB := Lib.hid (And.intro hb1' (And.intro hb2 hbel))
  have HR := Lib.hid (hd.below hbel).row
  have HD := Lib.hid hd
  have HF := Lib.hid hf
  clear hd al1 al2 hb1 hb2 hb1' hbel hf
  go_enter Try.func60, Try.ntmps60
  go_wp2_with fail
  (refine (CC.out _ _ HR.out).mono ?_)
  rintro e w3 ⟨v3, rfl, r3, b3⟩
  obtain ⟨g, cap, rfl⟩ : ∃ g cap, v3 = .slice (some ⟨g, 0, none⟩) D.length cap := by
    rcases rowForms r3 with ⟨_, e⟩ | h
    · omega
    · exact h
  have x3 := (b3.block _ (lt_of_block HB.out.1)).trans HB.out.1
  have y3 := (b3.block _ (lt_of_block HB.out.2.1)).trans HB.out.2.1
  have o3 := open_of x3 0
  have z3 := cell_of x3 0
  have p3 := heap_setCell_same w3 w.heap.size 0 _ _ _ (.slice (some ⟨g, 0, none⟩) D.length cap) x3
  have k3 : Kp (fun j _ => j = w.heap.size) w3 (w3.setCell ⟨w.heap.size, 0, none⟩ (.slice (some ⟨g, 0, none⟩) D.length cap)) := Kp.of_set x3 _ rfl
  have hsz2 := HB.out.2.2.size
  have HL : Hid (CopyL w g cap D A K 0 (w3.setCell ⟨w.heap.size, 0, none⟩ (.slice (some ⟨g, 0, none⟩) D.length cap))) := Lib.hid ⟨⟨A, K, ⟨k3.row (row_low r3 hsz2) fun j hj _ e => row_ne r3 x3 (by decide) (by rw [hj, e]), fun i _ h => absurd h (Nat.not_lt_zero _), fun i _ h => absurd h (Nat.not_lt_zero _), fun i j h => absurd h (Nat.not_lt_zero _), fun i j h => absurd h (Nat.not_lt_zero _), fun i _ => ⟨rfl, rfl⟩⟩⟩, p3, (heap_setCell_ne _ _ _ (by simp)).trans y3, (HB.out.2.2.trans (b3.mono hsz2)).setCell (p := ⟨w.heap.size, 0, none⟩) (Nat.le_refl _) _⟩
  have e0 := cell_of p3 0
  clear b3 r3 x3 y3 p3 k3 CC HR HB hw1 hw2
  go_wp2
  go_loopw [12] (fun i wr => ∃ u : Nat, i = .int .i64 u ∧ u ≤ D.length ∧ Hid (CopyL w g cap D A K u wr)) (fun i _ => D.length - (intOf i).toNat)
  case atStart => exact ⟨0, rfl, Nat.zero_le _, HL⟩
  case round =>
    clear HL e0 o3 z3
    obtain ⟨u, rfl, hu, HX⟩ := hrel
    by_cases hlt : u < D.length
    · have zu : (u : Int) < (D.length : Int) := by omega
      obtain ⟨aa, ac, ha⟩ := (HD.out.at' u hlt).form
      obtain ⟨ka, kc, hk⟩ := (HD.out.kd u hlt).form
      have hnd := HX.out.node hlt
      rw [ha, hk] at hnd
      have c0 : wr.cell? ⟨g, u * 8, none⟩ = some (.int .i64 D[u].k) := hnd 0 _ (by decide) rfl
      have c1 := hnd 1 _ (by decide) rfl
      have c2 := hnd 2 _ (by decide) rfl
      have c3 := hnd 3 _ (by decide) rfl
      have c4 := hnd 4 _ (by decide) rfl
      have c5 := hnd 5 _ (by decide) rfl
      have c6 := hnd 6 _ (by decide) rfl
      have c7 := hnd 7 _ (by decide) rfl
      have CN := copyNode_hid D[u] (HF.out.2 _ (List.getElem_mem hlt))
      have hat := (HD.out.at' u hlt).below HX.out.bl
      have hkd := (HD.out.kd u hlt).below HX.out.bl
      rw [ha] at hat
      rw [hk] at hkd
      obtain ⟨N, hN⟩ := text_of D[u].n
      obtain ⟨T, hT⟩ := text_of D[u].d
      have al := (Below.refl wr.heap.size wr).alloc (Nat.le_refl _) (.cells #[.int .i64 D[u].k, .string N, .string T, .slice aa D[u].a.length ac, .int .i64 D[u].p, .slice ka D[u].c.length kc, .bool D[u].b, .bool D[u].s] 42)
      have hbx := new_block wr (.cells #[.int .i64 D[u].k, .string N, .string T, .slice aa D[u].a.length ac, .int .i64 D[u].p, .slice ka D[u].c.length kc, .bool D[u].b, .bool D[u].s] 42)
      have HXa := HX.out.below al
      have CN2 : ∀ W, Below (wr.alloc (.cells #[.int .i64 D[u].k, .string N, .string T, .slice aa D[u].a.length ac, .int .i64 D[u].p, .slice ka D[u].c.length kc, .bool D[u].b, .bool D[u].s] 42)).heap.size (wr.alloc (.cells #[.int .i64 D[u].k, .string N, .string T, .slice aa D[u].a.length ac, .int .i64 D[u].p, .slice ka D[u].c.length kc, .bool D[u].b, .bool D[u].s] 42)) W → Calls Try.prog 56 #[.agg #[.int .i64 D[u].k, .string N, .string T, .slice aa D[u].a.length ac, .int .i64 D[u].p, .slice ka D[u].c.length kc, .bool D[u].b, .bool D[u].s]] W fun e w3 => ∃ va vac vk vkc, e = .returned (.agg #[.int .i64 D[u].k, .string N, .string T, .slice va D[u].a.length vac, .int .i64 D[u].p, .slice vk D[u].c.length vkc, .bool D[u].b, .bool D[u].s]) ∧ CopyL w g cap D A K u w3 ∧ CopyL w g cap D A K (u + 1) ((((((((w3.setCell ⟨g, u * 8, none⟩ (.int .i64 D[u].k)).setCell ⟨g, u * 8 + 1, none⟩ (.string N)).setCell ⟨g, u * 8 + 2, none⟩ (.string T)).setCell ⟨g, u * 8 + 3, none⟩ (.slice va D[u].a.length vac)).setCell ⟨g, u * 8 + 4, none⟩ (.int .i64 D[u].p)).setCell ⟨g, u * 8 + 5, none⟩ (.slice vk D[u].c.length vkc)).setCell ⟨g, u * 8 + 6, none⟩ (.bool D[u].b)).setCell ⟨g, u * 8 + 7, none⟩ (.bool D[u].s)) := fun W b => by
        have h := CN.out W _ _ ((hat.below al).below b) ((hkd.below al).below b)
        unfold nodeV at h
        rw [strV_of hN, strV_of hT] at h
        refine h.mono ?_
        rintro e w3 ⟨av, kv, rfl, ra, rk, b3⟩
        obtain ⟨va, vac, rfl⟩ := row_form ra
        obtain ⟨vk, vkc, rfl⟩ := row_form rk
        have b4 := b.trans (b3.mono b.size)
        have hst := HXa.step hlt b4 (row_low ra b.size) (row_low rk b.size)
        rw [strV_of hN, strV_of hT] at hst
        exact ⟨va, vac, vk, vkc, rfl, HXa.below b4, hst⟩
      rw [strV_of hN] at c1
      rw [strV_of hT] at c2
      have HC2 := Lib.hid CN2
      clear CN CN2 hat hkd hnd HX ha hk hN hT al
      generalize hwa : wr.alloc (.cells #[.int .i64 D[u].k, .string N, .string T, .slice aa D[u].a.length ac, .int .i64 D[u].p, .slice ka D[u].c.length kc, .bool D[u].b, .bool D[u].s] 42) = wa at HC2 hbx HXa
      have d0 := cell_of hbx 0
      have d1 := cell_of hbx 1
      have d2 := cell_of hbx 2
      have d3 := cell_of hbx 3
      have d4 := cell_of hbx 4
      have d5 := cell_of hbx 5
      have d6 := cell_of hbx 6
      have d7 := cell_of hbx 7
      have e0 := cell_of HXa.bx 0
      have hlb := lt_of_block HXa.bx
      clear hbx HXa
      go_wp2_with fail
      go_region_with (go_at_call 56
                      refine (HC2.out _ (by first | exact Below.refl _ _ | exact belowN (Below.refl _ _) _ | exact (Below.refl _ _).drew)).mono ?_
                      rintro e w3 ⟨va, vac, vk, vkc, rfl, hcl, hcs⟩
                      have HS := Lib.hid hcs
                      obtain ⟨j0, j1, j2, j3, j4, j5, j6, j7⟩ := hcl.eight hlt
                      have f0 := hcl.open' (u * 8)
                      have f1 := hcl.open' (u * 8 + 1)
                      have f2 := hcl.open' (u * 8 + 2)
                      have f3 := hcl.open' (u * 8 + 3)
                      have f4 := hcl.open' (u * 8 + 4)
                      have f5 := hcl.open' (u * 8 + 5)
                      have f6 := hcl.open' (u * 8 + 6)
                      have f7 := hcl.open' (u * 8 + 7)
                      have e0' := cell_of hcl.bx 0
                      clear hcs hcl)
      all_goals
        go_wp2
        go_roundw
        case rel => exact ⟨u + 1, by go_num, by omega, HS⟩
        case measure => simp [intOf]; omega
    · obtain rfl : u = D.length := by omega
      obtain ⟨A', K', h1⟩ := HX.out.cp
      have x0 := HX.out.bx
      have y0 := HX.out.rx
      have e0 := cell_of x0 0
      have r0 := cell_of y0 0
      have o0 := open_of y0 0
      have q0 := heap_setCell_same wr (w.heap.size + 1) 0 _ _ _ (.slice (some ⟨g, 0, none⟩) D.length cap) y0
      have c0 := cell_of q0 0
      have HO : Hid (OwnX (wr.setCell ⟨w.heap.size + 1, 0, none⟩ (.slice (some ⟨g, 0, none⟩) D.length cap)) w.heap.size (.slice (some ⟨g, 0, none⟩) D.length cap) D ∧ Below w.heap.size w (wr.setCell ⟨w.heap.size + 1, 0, none⟩ (.slice (some ⟨g, 0, none⟩) D.length cap))) := Lib.hid ⟨⟨A', K', h1.done.setDoc y0⟩, HX.out.bl.setCell (p := ⟨w.heap.size + 1, 0, none⟩) (by simp) _⟩
      clear h1 x0 y0 q0 HX
      go_wp2
      exact bodyPost_ret (v := .agg #[.slice (some ⟨g, 0, none⟩) D.length cap]) (by simp [results, Try.results60, go_sem, c0]) rfl ⟨_, rfl, HO.out⟩

end Go.Proofs.Ytcmbkhlnigbooaa.Dm

namespace Go.Proofs.Ytcmbkhlnigbooaa.Dm
open Go.RowKit

/-- What a change touches: of documents' boxes its own alone. -/
def chP (B Bo : Nat) (j : Nat) (t : TypeId) : Prop := B ≤ j ∧ (t = 24 → j = Bo)
/-- How a change ends: the document in its box is E. -/
def ChgEC (C B Bo : Nat) (E : List Nd) (W : World) (e : Ending) (w' : World) : Prop := e = .returned (.tuple #[]) ∧ ∃ sl, w'.heap[Bo]? = some (.cells #[sl] 24 (0, 0)) ∧ OwnX w' C sl E ∧ Kp (chP B Bo) W w'
def ChgE (B Bo : Nat) (E : List Nd) (W : World) (e : Ending) (w' : World) : Prop := ChgEC B B Bo E W e w'
/-- A change turns D, in whatever box, into E. -/
def ChgPC (C : Nat) (w0 : World) (f : Nat) (caps : Array Value) (D E : List Nd) : Prop := ∀ W Bo sl, Below w0.heap.size w0 W → w0.heap.size ≤ Bo → W.heap[Bo]? = some (.cells #[sl] 24 (0, 0)) → OwnX W w0.heap.size sl D → Calls Try.prog f (#[.pointer (some ⟨Bo, 0, none⟩)] ++ caps) W (ChgEC C w0.heap.size Bo E W)
def ChgP (w0 : World) (f : Nat) (caps : Array Value) (D E : List Nd) : Prop := ChgPC w0.heap.size w0 f caps D E
theorem OwnX.low {w : World} {B B' : Nat} {sl : Value} {D : List Nd} (h : OwnX w B sl D) (hB : B' ≤ B) : OwnX w B' sl D := by
  obtain ⟨A, K, h⟩ := h
  exact ⟨A, K, h.low hB⟩
theorem OwnX.setDoc {w : World} {B g j : Nat} {sl v : Value} {D : List Nd} {c : Array Value} (h : OwnX w B sl D) (hg : w.heap[g]? = some (.cells c 24 (0, 0))) : OwnX (w.setCell ⟨g, j, none⟩ v) B sl D := by
  obtain ⟨A, K, h⟩ := h
  exact ⟨A, K, h.setDoc hg⟩

set_option maxRecDepth 100000 in
set_option maxHeartbeats 4000000 in
theorem changedDocC_hid (C : Nat) (D E : List Nd) (hf : FitD D) (h0 : 0 < D.length) (f : Nat) (caps : Array Value) (hcf : ∀ args w, (callFunc f args).run Try.prog w = .ok (.enter f args) w) : Hid (∀ W sl A K, DocIn W sl D A K → ChgPC C W f caps D E → Calls Try.prog 59 #[.agg #[sl], .func (.func 60) #[] #[], .func (.func f) #[] caps] W fun e w' => ∃ sl', e = .returned (.agg #[sl']) ∧ OwnX w' C sl' E ∧ Below W.heap.size W w') := Lib.hid fun w sl A K hd hch => by
  obtain ⟨a, c, rfl⟩ := hd.form
  have CC := copyDoc_hid D hf h0
  have al1 := (Below.refl w.heap.size w).alloc (Nat.le_refl _) (.cells #[.slice a D.length c] 24)
  have hb1 := new_block w (.cells #[.slice a D.length c] 24)
  have hs1 : (w.alloc (.cells #[.slice a D.length c] 24)).heap.size = w.heap.size + 1 := by simp
  generalize hw1 : w.alloc (.cells #[.slice a D.length c] 24) = w1 at al1 hb1 hs1
  have al2 := (Below.refl w1.heap.size w1).alloc (Nat.le_refl _) (.cells #[.slice none 0 0] 24)
  have hb2 := new_block w1 (.cells #[.slice none 0 0] 24)
  rw [hs1] at hb2
  generalize hw2 : w1.alloc (.cells #[.slice none 0 0] 24) = w2 at al2 hb2
  have hb1' := (al2.block _ (lt_of_block hb1)).trans hb1
  have hbel := al1.trans (al2.mono (by omega))
  have e0 := cell_of hb1' 0
  have HB := Lib.hid (And.intro hb2 hbel)
  have HD := Lib.hid (hd.below hbel)
  have HCH := Lib.hid hch
  clear hd al1 al2 hb1 hb2 hb1' hbel hf hch
  go_enter Try.func59, Try.ntmps59
  go_wp2_with fail
  (refine (CC.out _ _ _ _ HD.out).mono ?_)
  rintro e w3 ⟨sl3, rfl, o3, b3⟩
  obtain ⟨a3, c3, rfl⟩ := o3.form
  have y3 := (b3.block _ (lt_of_block HB.out.1)).trans HB.out.1
  have al4 := (Below.refl w3.heap.size w3).alloc (Nat.le_refl _) (.cells #[.slice a3 D.length c3] 24)
  have hb4 := new_block w3 (.cells #[.slice a3 D.length c3] 24)
  generalize hw4 : w3.alloc (.cells #[.slice a3 D.length c3] 24) = w4 at al4 hb4
  have y4 := (al4.block _ (lt_of_block y3)).trans y3
  have b4 := (HB.out.2.trans (b3.mono HB.out.2.size)).trans (al4.mono (HB.out.2.trans (b3.mono HB.out.2.size)).size)
  have hne : w.heap.size + 1 < w3.heap.size := lt_of_block y3
  have CX := Lib.hid (HCH.out w4 w3.heap.size _ b4 (by omega) hb4 ((o3.low (HB.out.2.size)).below al4))
  have H4 := Lib.hid (And.intro y4 b4)
  clear b3 o3 y3 al4 hb4 y4 b4 CC HB HD HCH e0 hw1 hw2
  go_wp2_with fail
  refine CX.out.mono ?_
  rintro e w5 ⟨rfl, sl5, x5, o5, k5⟩
  have y5 := k5.cells H4.out.1 (fun h => by have := h.2 rfl; omega)
  obtain ⟨a5, c5, rfl⟩ := o5.form
  have e5 := cell_of x5 0
  have r5 := cell_of y5 0
  have p5 := open_of y5 0
  have q5 := heap_setCell_same w5 (w.heap.size + 1) 0 _ _ _ (.slice a5 E.length c5) y5
  have z5 := cell_of q5 0
  have HO : Hid (OwnX (w5.setCell ⟨w.heap.size + 1, 0, none⟩ (.slice a5 E.length c5)) C (.slice a5 E.length c5) E ∧ Below w.heap.size w (w5.setCell ⟨w.heap.size + 1, 0, none⟩ (.slice a5 E.length c5))) := Lib.hid ⟨o5.setDoc y5, (H4.out.2.trans (k5.below (fun j _ h => h.1) H4.out.2.size)).setCell (p := ⟨w.heap.size + 1, 0, none⟩) (by simp) _⟩
  clear CX x5 o5 k5 y5 q5 H4
  go_wp2
  exact bodyPost_ret (v := .agg #[.slice a5 E.length c5]) (by simp [results, Try.results59, go_sem, z5]) rfl ⟨_, rfl, HO.out⟩

theorem changedDoc_hid (D E : List Nd) (hf : FitD D) (h0 : 0 < D.length) (f : Nat) (caps : Array Value) (hcf : ∀ args w, (callFunc f args).run Try.prog w = .ok (.enter f args) w) : Hid (∀ W sl A K, DocIn W sl D A K → ChgP W f caps D E → Calls Try.prog 59 #[.agg #[sl], .func (.func 60) #[] #[], .func (.func f) #[] caps] W fun e w' => ∃ sl', e = .returned (.agg #[sl']) ∧ OwnX w' W.heap.size sl' E ∧ Below W.heap.size W w') := Lib.hid fun w sl A K hd hch => (changedDocC_hid w.heap.size D E hf h0 f caps hcf).out w sl A K hd hch

end Go.Proofs.Ytcmbkhlnigbooaa.Dm
