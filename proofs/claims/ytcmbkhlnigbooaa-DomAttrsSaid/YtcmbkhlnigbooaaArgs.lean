/- The rows' arguments: texts, numbers, documents, nodes. -/
import Derived.Test.YtcmbkhlnigbooaaRows
import Derived.ChangeMaps5
import Derived.Deep.Slices
import Derived.Test.YtcmbkhlnigbooaaLwAF
namespace Go.Proofs.Ytcmbkhlnigbooaa
open Go.ChangeShapes Go.WideShapes Go.ChangeAt Go.RowKit
set_option maxRecDepth 100000

theorem own : ownKnob Try.prog.godebug = none := by kernel_rfl
theorem laidOut : laidOutB Try.prog = true := by kernel_rfl
theorem arg_string {H : Type} {enc : TypeId × Value → H} {W : World} {v : Value} {d : DataW H} {p : List MemPlace} {base : Nat} (hok : Value.okWide Try.prog W .any base 9 v) (_ : DataW.Trod enc Try.prog W 0 (fun _ => true) true 9 v d p) : ∃ s : ByteArray, v = .string s :=
  okWide_string Try.underlying9 hok

theorem arg_int {H : Type} {enc : TypeId × Value → H} {W : World} {v : Value} {d : DataW H} {p : List MemPlace} {base : Nat} (hok : Value.okWide Try.prog W .any base 3 v) (hj : DataW.Trod enc Try.prog W 0 (fun _ => true) true 3 v d p) : ∃ n : Int, v = .int .i64 n := by
  obtain ⟨n, rfl, _, _, hw⟩ := open_int Try.underlying3 hok hj
  exact ⟨n, rfl⟩
namespace Dm
/-! ### rows of nodes -/
theorem add_none (b off j : Nat) : (⟨b, off, none⟩ : Addr).add j = ⟨b, off + j, none⟩ := by unfold Addr.add; split <;> simp_all
theorem list_of {α : Type} {P : Nat → α → Prop} : ∀ (n : Nat), (∀ i, i < n → ∃ x, P i x) → ∃ l : List α, l.length = n ∧ ∀ i, (h : i < l.length) → P i l[i]
  | 0, _ => ⟨[], rfl, fun i h => by cases h⟩
  | n + 1, h => by
    obtain ⟨l, h1, h2⟩ := list_of n (fun i hi => h i (by omega))
    obtain ⟨x, hx⟩ := h n (by omega)
    refine ⟨l ++ [x], by simp [h1], fun i hi => ?_⟩
    by_cases hlt : i < l.length
    · rw [List.getElem_append_left hlt]; exact h2 i hlt
    · have e : i = l.length := by simp at hi; omega
      subst e
      rw [List.getElem_append_right (Nat.le_refl _)]
      simpa [h1] using hx
theorem AtIn.told {W : World} {b cap : Nat} : ∀ (A : List (List UInt8 × List UInt8)) (off : Nat), (∀ i, (h : i < A.length) → W.cell? ⟨b, off + i * 2, none⟩ = some (strV A[i].1) ∧ W.cell? ⟨b, off + i * 2 + 1, none⟩ = some (strV A[i].2)) → ∀ j v, (atC A)[j]? = some v → W.cell? ⟨b, off + j, none⟩ = some v
  | [], _, _, j, v, hj => by cases hj
  | y :: A, off, h, j, v, hj => by
    have h0 := h 0 (by simp)
    rw [Nat.zero_mul, Nat.add_zero] at h0
    match j with
    | 0 => rw [← Option.some.inj hj]; exact h0.1
    | 1 => rw [← Option.some.inj hj]; exact h0.2
    | j + 2 =>
      have := AtIn.told (b := b) (cap := cap) A (off + 2) (fun i hi => by
        have := h (i + 1) (by simpa using hi)
        rw [show off + (i + 1) * 2 = off + 2 + i * 2 by omega] at this
        exact this) j v hj
      rw [show off + (j + 2) = off + 2 + j by omega]
      exact this
/-- Nodes, each with the slices of its attributes and its kids. -/
abbrev Nv := Nd × Value × Value
def fA : List Nv → Nat → Value
  | [], _ => .bool true
  | t :: _, 0 => t.2.1
  | _ :: L, i + 1 => fA L i
def fK : List Nv → Nat → Value
  | [], _ => .bool true
  | t :: _, 0 => t.2.2
  | _ :: L, i + 1 => fK L i
theorem fA_at : ∀ (L : List Nv) (i : Nat) (h : i < L.length), fA L i = L[i].2.1
  | _ :: _, 0, _ => rfl
  | _ :: L, i + 1, h => fA_at L i (by simpa using h)
theorem fK_at : ∀ (L : List Nv) (i : Nat) (h : i < L.length), fK L i = L[i].2.2
  | _ :: _, 0, _ => rfl
  | _ :: L, i + 1, h => fK_at L i (by simpa using h)
/-- A node as it lies at eight cells. -/
def NdAt (W : World) (b o : Nat) (t : Nv) : Prop := ∀ j v, (ndC t.1 t.2.1 t.2.2)[j]? = some v → W.cell? ⟨b, o + j, none⟩ = some v
theorem nds_told {W : World} {b : Nat} : ∀ (L : List Nv) (off : Nat), (∀ i (h : i < L.length), NdAt W b (off + i * 8) L[i]) → ∀ j v, (ndsC (L.map (·.1)) (fA L) (fK L))[j]? = some v → W.cell? ⟨b, off + j, none⟩ = some v
  | [], _, _, j, v, hj => by cases hj
  | t :: L, off, h, j, v, hj => by
    have hj' : (ndC t.1 t.2.1 t.2.2 ++ ndsC (L.map (·.1)) (fA L) (fK L))[j]? = some v := hj
    have hlen : (ndC t.1 t.2.1 t.2.2).length = 8 := rfl
    by_cases hlt : j < 8
    · rw [List.getElem?_append_left (by omega)] at hj'
      have := h 0 (by simp) j v hj'
      rw [Nat.zero_mul, Nat.add_zero] at this
      exact this
    · rw [List.getElem?_append_right (by omega), hlen] at hj'
      have := nds_told (b := b) L (off + 8) (fun i hi => by
        have := h (i + 1) (by simpa using hi)
        rw [show off + (i + 1) * 8 = off + 8 + i * 8 by omega] at this
        exact this) (j - 8) v hj'
      rw [show off + 8 + (j - 8) = off + j by omega] at this
      exact this
section
open Go.Joins Go.Deep
variable {H : Type} {enc : TypeId × Value → H} {P : Program} {w : World} {base : Nat} {spare : Nat → Bool} {held : Bool}
/-- A struct of two fields of one cell each that is read at its cells. -/
theorem two_of {t : TypeId} {f0 f1 : Field} {n : Nat} {c0 c1 : Value} {y : DataW H × List MemPlace} (hs : P.underlying t = some (.struct #[f0, f1])) (hone : oneCellFields P #[f0, f1] = true)
    (h : DataW.trod enc P w base spare held n t [c0, c1] = some y) :
    ∃ (y0 y1 : DataW H × List MemPlace) (m : Nat), DataW.trod enc P w base spare held m f0.type [c0] = some y0 ∧ DataW.trod enc P w base spare held m f1.type [c1] = some y1 := by
  obtain ⟨xs, m, _, _, _, hlen, hg⟩ := DataW.trod_struct hs h
  obtain ⟨o0, k0⟩ := hone_of hone 0 f0 rfl
  obtain ⟨o1, k1⟩ := hone_of hone 1 f1 rfl
  match xs, hlen with
  | [y0, y1], _ => exact ⟨y0, y1, m, by simpa [o0, k0] using hg 0 f0 rfl, by simpa [o1, k1] using hg 1 f1 rfl⟩
/-- A struct of eight fields of one cell each that is read at its cells. -/
theorem eight_of {t : TypeId} {f0 f1 f2 f3 f4 f5 f6 f7 : Field} {n : Nat} {c0 c1 c2 c3 c4 c5 c6 c7 : Value} {y : DataW H × List MemPlace} (hs : P.underlying t = some (.struct #[f0, f1, f2, f3, f4, f5, f6, f7])) (hone : oneCellFields P #[f0, f1, f2, f3, f4, f5, f6, f7] = true)
    (h : DataW.trod enc P w base spare held n t [c0, c1, c2, c3, c4, c5, c6, c7] = some y) :
    ∃ (y0 y1 y2 y3 y4 y5 y6 y7 : DataW H × List MemPlace) (m : Nat), DataW.trod enc P w base spare held m f0.type [c0] = some y0 ∧ DataW.trod enc P w base spare held m f1.type [c1] = some y1 ∧ DataW.trod enc P w base spare held m f2.type [c2] = some y2 ∧ DataW.trod enc P w base spare held m f3.type [c3] = some y3 ∧ DataW.trod enc P w base spare held m f4.type [c4] = some y4 ∧ DataW.trod enc P w base spare held m f5.type [c5] = some y5 ∧ DataW.trod enc P w base spare held m f6.type [c6] = some y6 ∧ DataW.trod enc P w base spare held m f7.type [c7] = some y7 := by
  obtain ⟨xs, m, _, _, _, hlen, hg⟩ := DataW.trod_struct hs h
  obtain ⟨o0, k0⟩ := hone_of hone 0 f0 rfl
  obtain ⟨o1, k1⟩ := hone_of hone 1 f1 rfl
  obtain ⟨o2, k2⟩ := hone_of hone 2 f2 rfl
  obtain ⟨o3, k3⟩ := hone_of hone 3 f3 rfl
  obtain ⟨o4, k4⟩ := hone_of hone 4 f4 rfl
  obtain ⟨o5, k5⟩ := hone_of hone 5 f5 rfl
  obtain ⟨o6, k6⟩ := hone_of hone 6 f6 rfl
  obtain ⟨o7, k7⟩ := hone_of hone 7 f7 rfl
  match xs, hlen with
  | [y0, y1, y2, y3, y4, y5, y6, y7], _ => exact ⟨y0, y1, y2, y3, y4, y5, y6, y7, m, by simpa [o0, k0] using hg 0 f0 rfl, by simpa [o1, k1] using hg 1 f1 rfl, by simpa [o2, k2] using hg 2 f2 rfl, by simpa [o3, k3] using hg 3 f3 rfl, by simpa [o4, k4] using hg 4 f4 rfl, by simpa [o5, k5] using hg 5 f5 rfl, by simpa [o6, k6] using hg 6 f6 rfl, by simpa [o7, k7] using hg 7 f7 rfl⟩
end
theorem attrs_of {H : Type} {enc : TypeId × Value → H} {W : World} {v : Value} {n : Nat} {y : DataW H × List MemPlace} (hf : DataW.trod enc Try.prog W 0 (fun _ => true) true n 40 [v] = some y) : ∃ A, AtIn W v A ∧ A.length ≤ 9223372036854775807 ∧ CapV v := by
  rcases Go.Deep.open_slice Try.underlying40 hf with ⟨hcs, _⟩ | ⟨a, len, cap, m, k, D, Pl, hcs, _, hl, hm, hmm, _, hi⟩
  · cases hcs
    exact ⟨[], AtIn.nil _ _ _, by simp, Nat.zero_le _⟩
  · cases hcs
    simp only [if_true] at hmm
    unfold maxLen at hm
    by_cases h0 : len = 0
    · subst h0
      exact ⟨[], AtIn.nil _ _ _, by simp, Nat.zero_le _⟩
    · have hce : Try.prog.cellsOf 61 = 2 := by kernel_rfl
      obtain ⟨b, off, spot⟩ := a
      have hspot : spot = none := by
        obtain ⟨cs', h1, _⟩ := hi 0 (by omega)
        rw [hce] at h1
        obtain ⟨_, hlen, hcell⟩ := World.cells?_some h1
        have h2 := hcell 0 (by omega)
        rw [List.getElem?_eq_getElem (by omega)] at h2
        simpa [Addr.add] using World.cell?_spot h2
      subst hspot
      obtain ⟨A, h1, h2⟩ := list_of (α := List UInt8 × List UInt8) (P := fun i x => W.cell? ⟨b, off + i * 2, none⟩ = some (strV x.1) ∧ W.cell? ⟨b, off + i * 2 + 1, none⟩ = some (strV x.2)) len (fun i hlt => by
        obtain ⟨cs', k1, k2⟩ := hi i (by omega)
        rw [hce] at k1
        obtain ⟨_, hlen, hcell⟩ := World.cells?_some k1
        match cs', hlen with
        | [c0, c1], _ =>
          obtain ⟨y0, y1, m, h0, h1⟩ := two_of Try.underlying61 (by kernel_rfl) k2
          obtain ⟨t, e0, _⟩ := DataW.trod_string Try.underlying9 h0
          obtain ⟨s, e1, _⟩ := DataW.trod_string Try.underlying9 h1
          cases e0; cases e1
          have g0 := hcell 0 (by decide)
          have g1 := hcell 1 (by decide)
          rw [add_none, add_none] at g0 g1
          exact ⟨(t.data.toList, s.data.toList), by rw [strV_of (T := t) rfl]; exact g0, by rw [strV_of (T := s) rfl]; exact g1⟩)
      exact ⟨A, ⟨atC_length A, atC_one A, .inr ⟨b, off, cap, by rw [h1], AtIn.told (b := b) (cap := cap) A off h2⟩⟩, by omega, hl⟩
theorem ints_of {H : Type} {enc : TypeId × Value → H} {W : World} {v : Value} {n : Nat} {y : DataW H × List MemPlace} (hf : DataW.trod enc Try.prog W 0 (fun _ => true) true n 33 [v] = some y) : ∃ C, IntIn W v C ∧ C.length ≤ 9223372036854775807 := by
  rcases Go.Deep.open_slice1 Try.underlying33 (by kernel_rfl) hf with ⟨hcs, _⟩ | ⟨a, len, cap, m, k, V, D, Pl, hcs, _, hl, hm, hmm, _, hi⟩
  · cases hcs
    exact ⟨[], IntIn.nil _ _ _, by simp⟩
  · cases hcs
    simp only [if_true] at hmm
    unfold maxLen at hm
    by_cases h0 : len = 0
    · subst h0
      exact ⟨[], IntIn.nil _ _ _, by simp⟩
    · obtain ⟨b, off, spot⟩ := a
      have hspot : spot = none := by simpa [Addr.add] using World.cell?_spot (hi 0 (by omega)).1
      subst hspot
      obtain ⟨C, h1, h2⟩ := list_of (α := Int) (P := fun i x => W.cell? ⟨b, off + i, none⟩ = some (.int .i64 x)) len (fun i hlt => by
        obtain ⟨k1, k2⟩ := hi i (by omega)
        obtain ⟨z, e0, _⟩ := DataW.trod_int Try.underlying3 k2
        rw [add_none] at k1
        rw [(List.cons.inj e0).1] at k1
        exact ⟨z, k1⟩)
      exact ⟨C, ⟨inC_length C, inC_one C, .inr ⟨b, off, cap, by rw [h1], fun j v hj => by
        unfold inC at hj
        rw [List.getElem?_map] at hj
        obtain ⟨z, hz, rfl⟩ := Option.map_eq_some_iff.1 hj
        obtain ⟨hj', rfl⟩ := List.getElem?_eq_some_iff.1 hz
        exact h2 j hj'⟩⟩, by omega⟩
def LenD (D : List Nd) : Prop := D.length ≤ 9223372036854775807 ∧ ∀ x ∈ D, x.a.length ≤ 9223372036854775807 ∧ x.c.length ≤ 9223372036854775807
/-- A node's eight fields, read. -/
theorem node_of {H : Type} {enc : TypeId × Value → H} {W : World} {n : Nat} {y : DataW H × List MemPlace} {cs' : List Value} (hlen : cs'.length = 8) (k2 : DataW.trod enc Try.prog W 0 (fun _ => true) true n 42 cs' = some y) : ∃ t : Nv, cs' = ndC t.1 t.2.1 t.2.2 ∧ AtIn W t.2.1 t.1.a ∧ IntIn W t.2.2 t.1.c ∧ CapV t.2.1 ∧ t.1.a.length ≤ 9223372036854775807 ∧ t.1.c.length ≤ 9223372036854775807 := by
  match cs', hlen with
  | [c0, c1, c2, c3, c4, c5, c6, c7], _ =>
    obtain ⟨y0, y1, y2, y3, y4, y5, y6, y7, m, h0, h1, h2, h3, h4, h5, h6, h7⟩ := eight_of Try.underlying42 (by kernel_rfl) k2
    obtain ⟨kk, e0, _⟩ := DataW.trod_int Try.underlying39 h0
    obtain ⟨t, e1, _⟩ := DataW.trod_string Try.underlying9 h1
    obtain ⟨s, e2, _⟩ := DataW.trod_string Try.underlying9 h2
    obtain ⟨A, ha, hal, hac⟩ := attrs_of h3
    obtain ⟨pp, e4, _⟩ := DataW.trod_int Try.underlying3 h4
    obtain ⟨C, hc, hcl⟩ := ints_of h5
    obtain ⟨b6, e6, _⟩ := DataW.trod_bool Try.underlying4 h6
    obtain ⟨b7, e7, _⟩ := DataW.trod_bool Try.underlying4 h7
    cases e0; cases e1; cases e2; cases e4; cases e6; cases e7
    refine ⟨⟨⟨kk, t.data.toList, s.data.toList, A, pp, C, b6, b7⟩, c3, c5⟩, ?_, ha, hc, hac, hal, hcl⟩
    show _ = [_, _, _, _, _, _, _, _]
    rw [strV_of (T := t) rfl, strV_of (T := s) rfl]
theorem nodes_of {H : Type} {enc : TypeId × Value → H} {W : World} {v : Value} {n : Nat} {y : DataW H × List MemPlace} (hf : DataW.trod enc Try.prog W 0 (fun _ => true) true n 22 [v] = some y) : ∃ D, DocG W v D ∧ LenD D := by
  have nil : ∀ a c, ∃ D, DocG W (.slice a 0 c) D ∧ LenD D := fun a c => ⟨[], ⟨fun _ => .bool true, fun _ => .bool true, ⟨⟨rfl, (fun _ h => by cases h), .inl ⟨⟨a, c, rfl⟩, rfl⟩⟩, fun i h => absurd h (Nat.not_lt_zero _), fun i h => absurd h (Nat.not_lt_zero _)⟩, fun i h => absurd h (Nat.not_lt_zero _)⟩, by simp, fun x h => by cases h⟩
  rcases Go.Deep.open_slice Try.underlying22 hf with ⟨hcs, _⟩ | ⟨a, len, cap, m, k, D, Pl, hcs, _, hl, hm, hmm, _, hi⟩
  · cases hcs
    exact nil _ _
  · cases hcs
    simp only [if_true] at hmm
    unfold maxLen at hm
    by_cases h0 : len = 0
    · subst h0
      exact nil _ _
    · have hce : Try.prog.cellsOf 42 = 8 := by kernel_rfl
      obtain ⟨b, off, spot⟩ := a
      have hspot : spot = none := by
        obtain ⟨cs', h1, _⟩ := hi 0 (by omega)
        rw [hce] at h1
        obtain ⟨_, hlen, hcell⟩ := World.cells?_some h1
        have h2 := hcell 0 (by omega)
        rw [List.getElem?_eq_getElem (by omega)] at h2
        simpa [Addr.add] using World.cell?_spot h2
      subst hspot
      obtain ⟨L, h1, h2⟩ := list_of (α := Nv) (P := fun i t => NdAt W b (off + i * 8) t ∧ AtIn W t.2.1 t.1.a ∧ IntIn W t.2.2 t.1.c ∧ CapV t.2.1 ∧ t.1.a.length ≤ 9223372036854775807 ∧ t.1.c.length ≤ 9223372036854775807) len (fun i hlt => by
        obtain ⟨cs', k1, k2⟩ := hi i (by omega)
        rw [hce] at k1
        obtain ⟨_, hlen, hcell⟩ := World.cells?_some k1
        obtain ⟨t, rfl, h3⟩ := node_of hlen k2
        refine ⟨t, fun j v hj => ?_, h3⟩
        have hj8 : j < 8 := by
          have := (List.getElem?_eq_some_iff.1 hj).1
          exact this
        have g := hcell j hj8
        rw [add_none, add_none] at g
        rw [g]
        exact hj)
      have hm1 : (L.map (·.1)).length = len := by simp [h1]
      refine ⟨L.map (·.1), ⟨fA L, fK L, ⟨⟨?_, ?_, .inr ⟨b, off, cap, by rw [hm1], nds_told L off fun i hi' => (h2 i hi').1⟩⟩, fun i hi' => ?_, fun i hi' => ?_⟩, fun i hi' => ?_⟩, by omega, fun x hx => ?_⟩
      · rw [ndsC_length]
      · refine ndsC_one _ _ _ fun i hi' => ?_
        have hi2 : i < L.length := by simpa using hi'
        rw [fA_at L i hi2, fK_at L i hi2]
        obtain ⟨_, ha, hc, _⟩ := h2 i hi2
        obtain ⟨_, _, e1⟩ := ha.form
        obtain ⟨_, _, e2⟩ := hc.form
        rw [e1, e2]
        exact ⟨rfl, rfl⟩
      · have hi2 : i < L.length := by simpa using hi'
        rw [fA_at L i hi2, List.getElem_map]
        exact (h2 i hi2).2.1
      · have hi2 : i < L.length := by simpa using hi'
        rw [fK_at L i hi2, List.getElem_map]
        exact (h2 i hi2).2.2.1
      · have hi2 : i < L.length := by simpa using hi'
        rw [fA_at L i hi2]
        exact (h2 i hi2).2.2.2.1
      · obtain ⟨i, hi', rfl⟩ := List.getElem_of_mem hx
        have hi2 : i < L.length := by simpa using hi'
        rw [List.getElem_map]
        exact (h2 i hi2).2.2.2.2
def ArgDoc (W : World) (v : Value) (D : List Nd) : Prop := ∃ sl, v = .agg #[sl] ∧ DocG W sl D ∧ LenD D
def ArgNode (W : World) (v : Value) (x : Nd) : Prop := ∃ av kv, v = nodeV x av kv ∧ AtIn W av x.a ∧ IntIn W kv x.c ∧ x.a.length ≤ 9223372036854775807 ∧ x.c.length ≤ 9223372036854775807
end Dm
open Dm
theorem arg_doc {H : Type} {enc : TypeId × Value → H} {W : World} {v : Value} {d : DataW H} {p : List MemPlace} {base : Nat} (hok : Value.okWide Try.prog W .any base 24 v) (hj : DataW.Trod enc Try.prog W 0 (fun _ => true) true 24 v d p) : ∃ D : List Nd, ArgDoc W v D := by
  obtain ⟨cs, rfl, hsz⟩ := okWide_struct Try.underlying24 hok
  have hce : Try.prog.cellsOf 24 = 1 := by kernel_rfl
  rw [hce] at hsz
  obtain ⟨fuel, hf⟩ := hj
  obtain ⟨l⟩ := cs
  match l, hsz with
  | [c0], _ =>
    obtain ⟨y0, m, _, _, h0⟩ := trod_struct1 Try.underlying24 hf
    obtain ⟨D, h1, h2⟩ := nodes_of h0
    exact ⟨D, c0, rfl, h1, h2⟩
theorem arg_node {H : Type} {enc : TypeId × Value → H} {W : World} {v : Value} {d : DataW H} {p : List MemPlace} {base : Nat} (hok : Value.okWide Try.prog W .any base 42 v) (hj : DataW.Trod enc Try.prog W 0 (fun _ => true) true 42 v d p) : ∃ x : Nd, ArgNode W v x := by
  obtain ⟨cs, rfl, hsz⟩ := okWide_struct Try.underlying42 hok
  have hce : Try.prog.cellsOf 42 = 8 := by kernel_rfl
  rw [hce] at hsz
  obtain ⟨fuel, hf⟩ := hj
  obtain ⟨l⟩ := cs
  obtain ⟨t, h1, ha, hc, _, hal, hcl⟩ := node_of (cs' := l) (by simpa using hsz) hf
  refine ⟨t.1, t.2.1, t.2.2, ?_, ha, hc, hal, hcl⟩
  rw [h1]
  rfl

end Go.Proofs.Ytcmbkhlnigbooaa
