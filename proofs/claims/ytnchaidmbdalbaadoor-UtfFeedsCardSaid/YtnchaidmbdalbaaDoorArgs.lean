/- Arguments that came in, as lists; and the last step of a row whose call only makes memory. -/
import Derived.Test.YtnchaidmbdalbaaDoorWalkH
import Derived.Test.YtnchaidmbdalbaaDoorTabs
import Derived.ProofKit
import Derived.OpenShut
import Derived.Carry
namespace Go.Proofs.YtnchaidmbdalbaaDoor
open Go.ChangeShapes Go.WideShapes Go.ChangeAt Go.RowKit

theorem BytesIn.form {w : World} {v : Value} {l : List UInt8} (h : BytesIn w v l) : ∃ a c, v = .slice a l.length c := by
  rcases h with ⟨⟨a, c, rfl⟩, rfl⟩ | ⟨B, off, cap, rfl, _⟩
  · exact ⟨_, _, rfl⟩
  · exact ⟨_, _, rfl⟩
theorem IntsIn.form {w : World} {v : Value} {p : List Int} (h : IntsIn w v p) : ∃ a c, v = .slice a p.length c := by
  rcases h with ⟨⟨a, c, rfl⟩, rfl⟩ | ⟨B, off, cap, rfl, _⟩
  · exact ⟨_, _, rfl⟩
  · exact ⟨_, _, rfl⟩

theorem getD_mem (zs : List Int) (i : Nat) (h : i < zs.length) : zs.getD i 0 = zs[i] := by simp [List.getD, List.getElem?_eq_getElem h]
theorem open_bytes {w : World} {x : Addr} {len cap : Nat} {zs : List Int} (hl : len ≤ cap) (hz : zs.length = cap) (hcell : ∀ i, i < zs.length → w.cell? (x.add i) = some (.int .u8 (zs.getD i 0))) (hwf : ∀ n ∈ zs, (Lit.int .u8 n).wf = true) :
    ∃ l, l.length = len ∧ BytesIn w (.slice (some x) len cap) l := by
  refine ⟨(zs.take len).map fun z => z.toNat.toUInt8, by simp; omega, ?_⟩
  by_cases h0 : len = 0
  · subst h0
    exact .inl ⟨⟨_, _, rfl⟩, by simp⟩
  · obtain ⟨b, off, spot⟩ := x
    have hc := hcell 0 (by omega)
    have hspot : spot = none := by simpa [Addr.add] using World.cell?_spot hc
    subst hspot
    refine .inr ⟨b, off, cap, by simp; omega, fun j hj => ?_⟩
    have hj' : j < len := by simp at hj; omega
    have hj2 : j < zs.length := by omega
    have h := hcell j hj2
    have e : (⟨b, off, none⟩ : Addr).add j = ⟨b, off + j, none⟩ := by unfold Addr.add; split <;> simp_all
    rw [e, getD_mem zs j hj2] at h
    rw [h]
    have hb := bounds_u8 (hwf _ (List.getElem_mem hj2))
    simp
    omega
theorem open_int64s {w : World} {x : Addr} {len cap : Nat} {zs : List Int} (hl : len ≤ cap) (hz : zs.length = cap) (hcell : ∀ i, i < zs.length → w.cell? (x.add i) = some (.int .i64 (zs.getD i 0))) :
    ∃ p, p.length = len ∧ IntsIn w (.slice (some x) len cap) p := by
  refine ⟨zs.take len, by simp; omega, ?_⟩
  by_cases h0 : len = 0
  · subst h0
    exact .inl ⟨⟨_, _, rfl⟩, by simp⟩
  · obtain ⟨b, off, spot⟩ := x
    have hc := hcell 0 (by omega)
    have hspot : spot = none := by simpa [Addr.add] using World.cell?_spot hc
    subst hspot
    refine .inr ⟨b, off, cap, by simp; omega, fun j hj => ?_⟩
    have hj' : j < len := by simp at hj; omega
    have hj2 : j < zs.length := by omega
    have h := hcell j hj2
    have e : (⟨b, off, none⟩ : Addr).add j = ⟨b, off + j, none⟩ := by unfold Addr.add; split <;> simp_all
    rw [e, getD_mem zs j hj2] at h
    rw [h]
    simp

theorem own : ownKnob Tryd.prog.godebug = none := by kernel_rfl
theorem laidOut : laidOutB Tryd.prog = true := by kernel_rfl

/-- A slice of bytes, off the row's own reading. -/
theorem arg_bytes {H : Type} {enc : TypeId × Value → H} {W : World} {v : Value} {d : DataW H} {p : List MemPlace} {base : Nat} (hok : Value.okWide Tryd.prog W .any base 22 v) (hj : DataW.Trod enc Tryd.prog W 0 (fun _ => true) true 22 v d p) : ∃ l, BytesIn W v l := by
  obtain ⟨a0, len0, cap0, rfl⟩ := okWide_slice Tryd.underlying22 hok
  obtain ⟨fuel, hf⟩ := hj
  rcases open_ints Tryd.underlying22 Tryd.underlying5 (by kernel_rfl) hf with ⟨hcs, _⟩ | ⟨x, l, c, zs, hcs, _, hl, hm, hz, _, hcell, hwz⟩
  · simp [Value.cells] at hcs
    obtain ⟨rfl, rfl, rfl⟩ := hcs
    exact ⟨[], .inl ⟨⟨_, _, rfl⟩, rfl⟩⟩
  · simp [Value.cells] at hcs
    obtain ⟨rfl, rfl, rfl⟩ := hcs
    obtain ⟨l', _, h⟩ := open_bytes hl (by simpa using hz) hcell hwz
    exact ⟨l', h⟩
theorem arg_ints {H : Type} {enc : TypeId × Value → H} {W : World} {v : Value} {d : DataW H} {p : List MemPlace} {base : Nat} (hok : Value.okWide Tryd.prog W .any base 27 v) (hj : DataW.Trod enc Tryd.prog W 0 (fun _ => true) true 27 v d p) : ∃ q, IntsIn W v q := by
  obtain ⟨a0, len0, cap0, rfl⟩ := okWide_slice Tryd.underlying27 hok
  obtain ⟨fuel, hf⟩ := hj
  rcases open_ints Tryd.underlying27 Tryd.underlying3 (by kernel_rfl) hf with ⟨hcs, _⟩ | ⟨x, l, c, zs, hcs, _, hl, hm, hz, _, hcell, hwz⟩
  · simp [Value.cells] at hcs
    obtain ⟨rfl, rfl, rfl⟩ := hcs
    exact ⟨[], .inl ⟨⟨_, _, rfl⟩, rfl⟩⟩
  · simp [Value.cells] at hcs
    obtain ⟨rfl, rfl, rfl⟩ := hcs
    obtain ⟨l', _, h⟩ := open_int64s hl (by simpa using hz) hcell
    exact ⟨l', h⟩

/-- A WORLD FOR THE WITNESS: the settled one, the two tables holding what their texts lay. -/
def setC (C : Array Value) : Obj → Obj
  | .cells _ t frozen => .cells C t frozen
  | o => o
noncomputable def laidWorld (os : Os) : World :=
  { World.holding Tryd.prog os ⟨#[], #[], []⟩ with heap := ((World.holding Tryd.prog os ⟨#[], #[], []⟩).heap.modify 0 (setC (Go.Pinned.utf8FirstZ.map fun (n : Nat) => Value.int .u8 n).toArray)).modify 1 (setC ((List.range 16).flatMap fun i => [Value.int .u8 (Lib.accLo i), Value.int .u8 (Lib.accHi i)]).toArray) }

end Go.Proofs.YtnchaidmbdalbaaDoor
