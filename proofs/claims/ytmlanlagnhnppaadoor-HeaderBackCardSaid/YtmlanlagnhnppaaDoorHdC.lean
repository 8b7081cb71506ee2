/- Directives gathered: the closure that takes one in, by what lies in its two boxes. -/
import Derived.Test.YtmlanlagnhnppaaDoorHdB
import Derived.Test.YtmlanlagnhnppaaDoorMapH
namespace Go.Proofs.YtmlanlagnhnppaaDoor
open Go.RowKit

/-- What the closure finds: its two boxes (R: the policy's place; R + 2: the map's, which is block R + 1), the policy in block Pb, its row of directives from lo on. -/
structure Gat (W : World) (R Pb lo : Nat) (r : Bool) (ns : List (List UInt8)) (v : Value) (cs : List Value) : Prop where
  pbox : W.heap[R]? = some (.cells #[.pointer (some ⟨Pb, 0, none⟩)] 48 (0, 0))
  mbox : W.heap[R + 2]? = some (.cells #[.map (some (R + 1))] 60 (0, 0))
  seen : Seen W (R + 1) ns
  pol : W.heap[Pb]? = some (.cells #[v, .bool r] 29 (0, 0))
  row : W.ownsRow lo 42 2 v ns.length cs
  hR : R + 3 ≤ lo
  hP : Pb < lo
  apart : Pb ≠ R ∧ Pb ≠ R + 1 ∧ Pb ≠ R + 2
theorem Gat.keep {W W' : World} {R Pb lo : Nat} {r : Bool} {ns : List (List UInt8)} {v : Value} {cs : List Value} (h : Gat W R Pb lo r ns v cs) (hb : Below W.heap.size W W') : Gat W' R Pb lo r ns v cs where
  pbox := by rw [hb.block _ (lt_of_block h.pbox)]; exact h.pbox
  mbox := by rw [hb.block _ (lt_of_block h.mbox)]; exact h.mbox
  seen := h.seen.kept (hb.block _ h.seen.lt)
  pol := by rw [hb.block _ (lt_of_block h.pol)]; exact h.pol
  row := ownsRow_below h.row hb
  hR := h.hR
  hP := h.hP
  apart := h.apart
/-- Between two worlds only the policy, the map and the row (ob) have turned. -/
structure Turn (Pb M : Nat) (ob : Option Nat) (W W' : World) : Prop where
  os : W'.os = W.os
  tape : W'.tape = W.tape
  output : W'.output = W.output
  size : W.heap.size ≤ W'.heap.size
  block : ∀ k, k < W.heap.size → k ≠ Pb → k ≠ M → some k ≠ ob → W'.heap[k]? = W.heap[k]?
theorem Turn.of_below {Pb M : Nat} {ob : Option Nat} {W W' : World} (h : Below W.heap.size W W') : Turn Pb M ob W W' := ⟨h.os, h.tape, h.output, h.size, fun k hk _ _ _ => h.block k hk⟩
theorem Turn.below {Pb M : Nat} {ob : Option Nat} {W W' : World} (h : Turn Pb M ob W W') {B : Nat} (hB : B ≤ W.heap.size) (h1 : B ≤ Pb) (h2 : B ≤ M) (h3 : ∀ k, ob = some k → B ≤ k) : Below B W W' :=
  ⟨h.os, h.tape, h.output, h.size, fun k hk => h.block k (by omega) (by omega) (by omega) (fun e => by have := h3 k e.symm; omega)⟩

theorem TinfoDir : (Tryd.prog.info? 42).map (fun i => (i.zero, i.size, i.bytes)) = some (some (.agg #[.string ⟨#[]⟩, .slice none 0 0]), 2, 40) := by kernel_rfl

set_option maxRecDepth 100000 in
set_option maxHeartbeats 4000000 in
/-- A directive without a name, or with one that is there. -/
theorem take_no (N : ByteArray) (hN : N.size ≤ 1099511627776) (a : Option Addr) (m c : Nat) (W : World) (R Pb lo : Nat) (r : Bool) (ns : List (List UInt8)) (v : Value) (cs : List Value) (G : Gat W R Pb lo r ns v cs) (hno : nameH N.data.toList = false ∨ (nameH N.data.toList = true ∧ N.data.toList ∈ ns)) :
    Calls Tryd.prog 37 #[.agg #[.string N, .slice a m c], .pointer (some ⟨R + 2, 0, none⟩), .pointer (some ⟨R, 0, none⟩)] W fun e W' => e = .returned (.bool false) ∧ Below W.heap.size W W' := by
  have bA : Below W.heap.size W (W.alloc (.cells #[.string N, .slice a m c] 42)) := (Below.refl _ _).alloc (Nat.le_refl _) _
  have xd := new_block W (.cells #[.string N, .slice a m c] 42)
  have GA := Lib.hid (G.keep bA)
  have hS : (W.alloc (.cells #[.string N, .slice a m c] 42)).heap.size = W.heap.size + 1 := by show (W.heap.push _).size = _; simp
  have BA := Lib.hid (And.intro bA (And.intro xd hS))
  clear bA xd G hS
  have hno' : Hid (nameH N.data.toList = false ∨ (nameH N.data.toList = true ∧ N.data.toList ∈ ns)) := Lib.hid hno
  clear hno
  obtain ⟨nb, hnb⟩ : ∃ b, nameH N.data.toList = b := ⟨_, rfl⟩
  have CN := isName_hid N nb hnb
  rw [hnb] at hno'
  clear hnb
  cases nb
  · go_enter Tryd.func37, Tryd.ntmps37
    go_wp2_with fail
    generalize W.alloc (.cells #[.string N, .slice a m c] 42) = w1 at BA GA ⊢
    have q0 : w1.cell? ⟨W.heap.size, 0, none⟩ = some (.string N) := by rw [cell_of BA.out.2.1]; rfl
    go_wp2_with fail
    refine (CN.out _).mono ?_
    rintro e w2 ⟨rfl, b2⟩
    have HB := Lib.hid (BA.out.1.trans (b2.mono (by have := BA.out.2.2; omega)))
    clear b2 q0
    go_wp2
    go_ret
    exact ⟨rfl, HB.out⟩
  · have hin : Hid (N.data.toList ∈ ns) := Lib.hid (by rcases hno'.out with h | h; cases h; exact h.2)
    go_enter Tryd.func37, Tryd.ntmps37
    go_wp2_with fail
    generalize W.alloc (.cells #[.string N, .slice a m c] 42) = w1 at BA GA ⊢
    have q0 : w1.cell? ⟨W.heap.size, 0, none⟩ = some (.string N) := by rw [cell_of BA.out.2.1]; rfl
    go_wp2_with fail
    refine (CN.out _).mono ?_
    rintro e w2 ⟨rfl, b2⟩
    have HB := Lib.hid (BA.out.1.trans (b2.mono (by have := BA.out.2.2; omega)))
    have G2 := GA.out.keep b2
    have q1 : w2.cell? ⟨W.heap.size, 0, none⟩ = some (.string N) := by rw [b2.cell (lt_of_cell q0)]; exact q0
    have q2 : w2.cell? ⟨R + 2, 0, none⟩ = some (.map (some (R + 1))) := by rw [cell_of G2.mbox]; rfl
    have q3 := G2.seen.look N hN
    rw [decide_eq_true hin.out] at q3
    clear b2 q0 G2
    go_wp2
    go_ret
    exact ⟨rfl, HB.out⟩

set_option maxRecDepth 100000 in
set_option maxHeartbeats 8000000 in
/-- A directive taken in. -/
theorem take_yes (N : ByteArray) (hN : N.size ≤ 1099511627776) (a : Option Addr) (m c : Nat) (W : World) (R Pb lo : Nat) (r : Bool) (ns : List (List UInt8)) (v : Value) (cs : List Value) (G : Gat W R Pb lo r ns v cs) (h1 : nameH N.data.toList = true) (h2 : ¬ N.data.toList ∈ ns) (hlo : lo ≤ W.heap.size) (hlen : ns.length ≤ 1000000000) :
    Calls Tryd.prog 37 #[.agg #[.string N, .slice a m c], .pointer (some ⟨R + 2, 0, none⟩), .pointer (some ⟨R, 0, none⟩)] W fun e W' => e = .returned (.bool true) ∧ ∃ v', Gat W' R Pb lo r (ns ++ [N.data.toList]) v' (cs ++ [.string N, .slice a m c]) ∧ Turn Pb (R + 1) v.ownBlock W W' ∧ (v'.ownBlock = v.ownBlock ∨ ∃ k, v'.ownBlock = some k ∧ W.heap.size ≤ k) := by
  obtain ⟨i0, hi, hz0, hz1, hz2⟩ := info_parts TinfoDir
  obtain ⟨va, vc, rfl⟩ : ∃ va vc, v = .slice va ns.length vc := by
    rcases rowForms G.row with ⟨h1, h2⟩ | ⟨g, cap, h⟩
    · exact ⟨none, 0, by rw [h1, h2]⟩
    · exact ⟨_, _, h⟩
  have bA : Below W.heap.size W (W.alloc (.cells #[.string N, .slice a m c] 42)) := (Below.refl _ _).alloc (Nat.le_refl _) _
  have xd := new_block W (.cells #[.string N, .slice a m c] 42)
  have GA := Lib.hid (G.keep bA)
  have hS : (W.alloc (.cells #[.string N, .slice a m c] 42)).heap.size = W.heap.size + 1 := by show (W.heap.push _).size = _; simp
  have BA := Lib.hid (And.intro bA (And.intro xd hS))
  clear bA xd hS
  have HG := Lib.hid G
  have CN := isName_hid N true h1
  have H2 := Lib.hid h2
  clear G h1 h2
  go_enter Tryd.func37, Tryd.ntmps37
  go_wp2_with fail
  generalize W.alloc (.cells #[.string N, .slice a m c] 42) = w1 at BA GA ⊢
  have q0 : w1.cell? ⟨W.heap.size, 0, none⟩ = some (.string N) := by rw [cell_of BA.out.2.1]; rfl
  go_wp2_with fail
  refine (CN.out _).mono ?_
  rintro e w2 ⟨rfl, b2⟩
  have HB := Lib.hid (BA.out.1.trans (b2.mono (by have := BA.out.2.2; omega)))
  have g2 := GA.out.keep b2
  have x2 : w2.heap[W.heap.size]? = some (.cells #[.string N, .slice a m c] 42 (0, 0)) := by rw [b2.block _ (lt_of_block BA.out.2.1)]; exact BA.out.2.1
  have HX2 := Lib.hid x2
  have q1 : w2.cell? ⟨W.heap.size, 0, none⟩ = some (.string N) := by rw [cell_of x2]; rfl
  have q2 : w2.cell? ⟨R + 2, 0, none⟩ = some (.map (some (R + 1))) := by rw [cell_of g2.mbox]; rfl
  have q3 := g2.seen.look N hN
  rw [decide_eq_false H2.out] at q3
  obtain ⟨w3, k1, k2, k3⟩ := g2.seen.store N hN (by omega)
  have G2 := Lib.hid g2
  have K3 := Lib.hid (And.intro k2 k3)
  have r0 : w3.cell? ⟨R, 0, none⟩ = some (.pointer (some ⟨Pb, 0, none⟩)) := by
    rw [cell_of ((k3.block R (lt_of_block g2.pbox) (by simp)).trans g2.pbox)]; rfl
  have y3 := (k3.block Pb (lt_of_block g2.pol) (by intro e; exact g2.apart.2.1 (Option.some.inj e))).trans g2.pol
  have r1 : w3.cell? ⟨Pb, 0, none⟩ = some (.slice va ns.length vc) := by rw [cell_of y3]; rfl
  have r2 : w3.frozen? ⟨Pb, 0, none⟩ = false := open_of y3 0
  have z3 := (k3.block W.heap.size (lt_of_block x2) (by intro e; have := Option.some.inj e; have := g2.hR; omega)).trans x2
  have r3 : w3.cell? ⟨W.heap.size, 0, none⟩ = some (.string N) := by rw [cell_of z3]; rfl
  have r4 : w3.cell? ⟨W.heap.size, 1, none⟩ = some (.slice a m c) := by rw [cell_of z3]; rfl
  have own3 := g2.row.kept k3 (by
    cases hv : (Value.slice va ns.length vc).ownBlock with
    | none => exact .inl rfl
    | some k =>
      refine .inr (fun e => ?_)
      have h1 := g2.row.lt k hv
      have h2 := Option.some.inj e
      have h3 := g2.hR
      omega)
  have O3 := Lib.hid own3
  have Y3 := Lib.hid y3
  have hs3 : W.heap.size < w3.heap.size := Nat.lt_of_lt_of_le (lt_of_block x2) k3.size
  have hP3 : Pb < w3.heap.size := lt_of_block y3
  have f3 : w3.drew.frozen? ⟨Pb, 0, none⟩ = false := r2
  have OD : Hid (w3.drew.ownsRow lo 42 2 (.slice va ns.length vc) ns.length cs) := Lib.hid own3
  have HL3 := Lib.hid (And.intro hs3 hP3)
  have hsz : lo ≤ w3.drew.heap.size := by show lo ≤ w3.heap.size; omega
  have r0' : (w3.alloc (.cells #[.string N, .slice a m c] 42)).cell? ⟨R, 0, none⟩ = some (.pointer (some ⟨Pb, 0, none⟩)) := by rw [World.cell?_of_block (Below.heap_alloc w3 _ R (lt_of_cell r0))]; exact r0
  have r1' : (w3.alloc (.cells #[.string N, .slice a m c] 42)).cell? ⟨Pb, 0, none⟩ = some (.slice va ns.length vc) := by rw [World.cell?_of_block (Below.heap_alloc w3 _ Pb (lt_of_cell r1))]; exact r1
  clear b2 q0 x2 g2 k2 k3 y3 z3 own3 hs3 hP3
  go_wp2_with fail
  go_region_law ((refine step_append_lies _ (by rfl) (.tmp 22) (.tmp 24) 27 (by rfl) lo 42 i0 (.agg #[.string ⟨#[]⟩, .slice none 0 0]) 2 40 Tryd.underlying27 hi hz0 hz1 hz2 rfl (by decide) _ _ _ (by rfl) (OD.out.alloc _) ⟨w3.heap.size, 0, none⟩ 1 1 [.string N, .slice a m c] (by rfl) rfl (World.news_of_block (new_block _ _)) (by intro u hu; simp at hu; rcases hu with rfl | rfl <;> rfl) (by decide) (by unfold maxLen; omega) (by omega) (by have := hsz; simp at this ⊢; omega) _ rfl ?_
                  intro g cap6 w6 hown6 hgrow6 hat6 hlt6
                  have y6 : w6.heap[Pb]? = some (.cells #[.slice va ns.length vc, .bool r] 29 (0, 0)) := by
                    rw [hgrow6.block Pb (by have := HL3.out.2; simp; omega) (fun e => by have := (OD.out.lt Pb e.symm).1; have := HG.out.hP; omega)]
                    exact (Below.heap_alloc w3.drew _ Pb HL3.out.2).trans Y3.out
                  have s6 : w6.cell? ⟨Pb, 0, none⟩ = some (.slice va ns.length vc) := by rw [cell_of y6]; rfl
                  have t6 : w6.frozen? ⟨Pb, 0, none⟩ = false := open_of y6 0
                  have u6 : w6.cell? ⟨R, 0, none⟩ = some (.pointer (some ⟨Pb, 0, none⟩)) := by
                    rw [World.cell?_of_block (hgrow6.block R (by have := lt_of_cell r0'; exact this) (fun e => by have := (OD.out.lt R e.symm).1; have := HG.out.hR; omega))]
                    exact r0'))
  all_goals
    have z6 := heap_setCell_same _ Pb 0 _ _ _ (.slice (some ⟨g, 0, none⟩) (ns.length + 1) cap6) y6
    have hlt0 : ∀ q, (Value.slice va ns.length vc).ownBlock = some q → lo ≤ q ∧ q < w3.heap.size := OD.out.lt
    have hGR := HG.out.hR
    have hGP := HG.out.hP
    have hGA := HG.out.apart
    -- a block that is neither the policy nor the row lies as in w3
    have far : ∀ k, k < w3.heap.size → k ≠ Pb → some k ≠ (Value.slice va ns.length vc).ownBlock → (w6.setCell ⟨Pb, 0, none⟩ (.slice (some ⟨g, 0, none⟩) (ns.length + 1) cap6)).heap[k]? = w3.heap[k]? := fun k hk h1 h2 => by
      rw [Below.heap_setCell _ _ _ _ h1, hgrow6.block k (by simp; omega) h2]
      exact Below.heap_alloc w3.drew _ k hk
    have far2 : ∀ k, k < w2.heap.size → k ≠ Pb → k ≠ R + 1 → some k ≠ (Value.slice va ns.length vc).ownBlock → (w6.setCell ⟨Pb, 0, none⟩ (.slice (some ⟨g, 0, none⟩) (ns.length + 1) cap6)).heap[k]? = w2.heap[k]? := fun k hk h1 h2 h3 => by
      rw [far k (Nat.lt_of_lt_of_le hk K3.out.2.size) h1 h3]
      exact K3.out.2.block k hk (by intro e; exact h2 (Option.some.inj e))
    have no : ∀ k, k < lo → some k ≠ (Value.slice va ns.length vc).ownBlock := fun k hk e => by have := (hlt0 k e.symm).1; omega
    have o6 := ownsRow_setCell_below hown6 (a := ⟨Pb, 0, none⟩) hGP (.slice (some ⟨g, 0, none⟩) (ns.length + 1) cap6)
    have GZ : Hid (Gat (w6.setCell ⟨Pb, 0, none⟩ (.slice (some ⟨g, 0, none⟩) (ns.length + 1) cap6)) R Pb lo r (ns ++ [N.data.toList]) (.slice (some ⟨g, 0, none⟩) (ns.length + 1) cap6) (cs ++ [.string N, .slice a m c])) := Lib.hid
      { pbox := by rw [far2 R (lt_of_block G2.out.pbox) (by omega) (by omega) (no R (by omega))]; exact G2.out.pbox
        mbox := by rw [far2 (R + 2) (lt_of_block G2.out.mbox) (by omega) (by omega) (no _ (by omega))]; exact G2.out.mbox
        seen := K3.out.1.kept (far (R + 1) K3.out.1.lt (by omega) (no _ (by omega)))
        pol := z6
        row := by rw [List.length_append]; exact o6
        hR := hGR
        hP := hGP
        apart := hGA }
    have TZ : Hid (Turn Pb (R + 1) (Value.slice va ns.length vc).ownBlock W (w6.setCell ⟨Pb, 0, none⟩ (.slice (some ⟨g, 0, none⟩) (ns.length + 1) cap6))) := Lib.hid
      { os := by have h1 := hgrow6.os; have h2 := K3.out.2.os; have h3 := HB.out.os; exact h1.trans (h2.trans h3)
        tape := by have h1 := hgrow6.tape; have h2 := K3.out.2.tape; have h3 := HB.out.tape; exact h1.trans (h2.trans h3)
        output := by have h1 := hgrow6.output; have h2 := K3.out.2.output; have h3 := HB.out.output; exact h1.trans (h2.trans h3)
        size := by have h1 := hgrow6.size; have h2 := K3.out.2.size; have h3 := HB.out.size; simp at h1; simp [World.setCell]; omega
        block := fun k hk h1 h2 h3 => by rw [far2 k (Nat.lt_of_lt_of_le hk HB.out.size) h1 h2 h3]; exact HB.out.block k hk }
    have AT : Hid ((Value.slice (some ⟨g, 0, none⟩) (ns.length + 1) cap6).ownBlock = (Value.slice va ns.length vc).ownBlock ∨ ∃ k, (Value.slice (some ⟨g, 0, none⟩) (ns.length + 1) cap6).ownBlock = some k ∧ W.heap.size ≤ k) := Lib.hid (by
      rcases hat6 with h | h
      · exact .inl h.symm
      · refine .inr ⟨g, rfl, ?_⟩
        have h2 := K3.out.2.size
        have h3 := HB.out.size
        simp at h
        omega)
    clear z6 o6 far far2 no hlt0 hGR hGP hGA y6 s6 t6 u6 hown6 hgrow6 hat6 hlt6 f3 r0 r1 r2 r3 r4 r0' r1' q1 q2 q3 k1
    go_wp2
    go_ret
    exact ⟨rfl, _, GZ.out, TZ.out, AT.out⟩

end Go.Proofs.YtmlanlagnhnppaaDoor
