/- Variables that hold documents of one's own; what the changes come to fits; smudge over a variable. -/
import Derived.Test.YtcmbkhlnigbooaaDoV
import Derived.Test.YtcmbkhlnigbooaaDoW
import Derived.Test.YtcmbkhlnigbooaaLwAF
import Derived.Test.YtcmbkhlnigbooaaLwD
import Derived.Test.YtcmbkhlnigbooaaLwJK
namespace Go.Proofs.Ytcmbkhlnigbooaa.Dm
open Go.RowKit

/-- A variable in block R that holds a document of one's own, its rows between B and R. -/
def VOX (w : World) (R B : Nat) (a : Option Addr) (c : Nat) (E : List Nd) : Prop := w.heap[R]? = some (.cells #[.slice a E.length c] 24 (0, 0)) ∧ ∃ A K, OwnD w B (.slice a E.length c) E A K ∧ BlkT R E.length (.slice a E.length c) A K
def VO (w : World) (R B : Nat) (E : List Nd) : Prop := ∃ a c, VOX w R B a c E
section
variable {w w' : World} {R B : Nat} {a : Option Addr} {c : Nat} {E : List Nd}
theorem VOX.below (h : VOX w R B a c E) (b : Below w.heap.size w w') : VOX w' R B a c E := by
  obtain ⟨h1, A, K, h2, h3⟩ := h
  exact ⟨(b.block _ (lt_of_block h1)).trans h1, A, K, h2.below b, h3⟩
theorem VOX.vx (h : VOX w R B a c E) : VX w R a c E := by
  obtain ⟨h1, A, K, h2, h3⟩ := h
  exact ⟨h1, OwnX.g ⟨A, K, h2⟩⟩
theorem VOX.g (h : VOX w R B a c E) : DocG w (.slice a E.length c) E := h.vx.g
theorem VOX.c0 (h : VOX w R B a c E) : w.cell? ⟨R, 0, none⟩ = some (.slice a E.length c) := h.vx.c0
theorem VOX.v (h : VOX w R B a c E) : VO w R B E := ⟨a, c, h⟩
theorem VO.x (h : VO w R B E) : ∃ a c, VOX w R B a c E := h
theorem VO.vd (h : VO w R B E) : VD w R E := by
  obtain ⟨a, c, h⟩ := h
  exact h.vx.v
theorem VO.below (h : VO w R B E) (b : Below w.heap.size w w') : VO w' R B E := by
  obtain ⟨a, c, h⟩ := h
  exact (h.below b).v
theorem VO.lt (h : VO w R B E) : R < w.heap.size := by
  obtain ⟨a, c, h⟩ := h
  exact lt_of_block h.1
theorem VO.new (h : OwnX w B (.slice a E.length c) E) : VO (w.alloc (.cells #[.slice a E.length c] 24)) w.heap.size B E := by
  obtain ⟨A, K, h⟩ := h
  exact ⟨a, c, new_block _ _, A, K, h.below ((Below.refl _ _).alloc (Nat.le_refl _) _), h.blk⟩
/-- Other blocks turn. -/
theorem VO.kp {P : Nat → TypeId → Prop} (h : VO w R B E) (k : Kp P w w') (hp : ∀ j t, B ≤ j → ¬ P j t) (hB : B ≤ R) : VO w' R B E := by
  obtain ⟨a, c, h1, A, K, h2, h3⟩ := h
  exact ⟨a, c, k.cells h1 (hp R _ hB), A, K, h2.kp k hp, h3⟩
end
/-- All that stood in a world stands. -/
def Bel (W w : World) : Prop := Below W.heap.size W w
theorem Bel.b {W w : World} (h : Bel W w) : Below W.heap.size W w := h
theorem Bel.below {W w w' : World} (h : Bel W w) (b : Below w.heap.size w w') : Bel W w' := h.b.trans (b.mono h.b.size)
theorem Bel.kp {P : Nat → TypeId → Prop} {W w w' : World} (h : Bel W w) (k : Kp P w w') (hs : ∀ j t, P j t → W.heap.size ≤ j) : Bel W w' := h.b.trans (k.below hs h.b.size)
theorem Bel.refl (W : World) : Bel W W := Below.refl _ _
theorem gSmudge {E : List Nd} (hs : Short E) : Hid (∀ W R B a c, VOX W R B a c E → Calls Try.prog 30 #[.agg #[.slice a E.length c]] W fun e w' => e = .returned (.tuple #[]) ∧ Kp (tB B R) W w') := Lib.hid fun W R B _ _ ⟨h1, A, K, h2, h3⟩ => (smudge_hid E hs B R).out W _ A K h2 h3 (Nat.le_of_lt (lt_of_block h1))

/-! ### what the changes come to fits -/
theorem fitCut {D : List Nd} (hf : FitD D) (n : Int) : FitD (cutR D n).1 := by
  by_cases h : (cutR D n).2 = 0
  · obtain ⟨m, _, R, h0, h1, h5⟩ := cutR_inv h
    rw [h5]
    exact (R.cut h0).fit (hf.txt.cut m)
  · have e : (cutR D n).1 = [] := by
      revert h
      unfold cutR
      split
      · simp
      · split <;> simp
    rw [e]
    exact fit_nil
theorem fitPut {D : List Nd} (hf : FitD D) (q n : Int) : FitD (putR D q n).1 := by
  by_cases h : (putR D q n).2 = 0
  · obtain ⟨p, m, _, _, R, h0, h1, h2, h3, h4, h5⟩ := putR_inv h
    rw [h5]
    exact (R.put h0 h1 h2 h3 h4).fit (hf.txt.put p m)
  · have e : (putR D q n).1 = [] := by
      revert h
      unfold putR
      split
      · simp
      · split
        · simp
        · split <;> simp
    rw [e]
    exact fit_nil
theorem fitSet {D : List Nd} (hf : FitT D) (n : Int) {nm v : List UInt8} (h1 : nm.length ≤ 300) (h2 : v.length ≤ 1000) : FitD (setR D n nm v).1 := by
  by_cases h : (setR D n nm v).2 = 0
  · obtain ⟨m, _, R, _, hs, h5⟩ := setR_inv h
    rw [h5]
    exact (R.set (name := nm) (v := v) hs).fit (hf.set m h1 h2)
  · have e : (setR D n nm v).1 = [] := by
      revert h
      unfold setR
      split
      · simp
      · split
        · simp
        · split
          · simp
          · split <;> simp
    rw [e]
    exact fit_nil
theorem fitMake {D : List Nd} (hf : FitD D) {x : Nd} (hx : FitN x) : FitD (makeR D x).1 := by
  by_cases h : (makeR D x).2.2 = 0
  · obtain ⟨R, h1, h2, h3, h4⟩ := makeR_inv h
    rw [h4]
    exact (R.make h1 h2 h3).fit (hf.txt.make ⟨hx.1, hx.2.1, hx.2.2.1, hx.2.2.2.2⟩)
  · have e : (makeR D x).1 = [] := by
      revert h
      unfold makeR
      split
      · simp
      · split
        · simp
        · split <;> simp
    rw [e]
    exact fit_nil

/-! ### the document's own changes -/
section
variable {D : List Nd} (hf : FitD D)
include hf
theorem rPut (q n : Int) : Hid (∀ W sl, DocG W sl D → Calls Try.prog 33 #[.agg #[sl], .int .i64 q, .int .i64 n] W (DocE (putR D q n).1 (putR D q n).2 W)) := Lib.hid fun W sl ⟨A, K, h, _⟩ => ((put_hid D hf q n).out W sl A K h).mono fun e w' ⟨sl', h1, h2, h3⟩ => by
  obtain ⟨a, c, rfl⟩ := h2.form
  exact ⟨a, c, h1, h2, h3⟩
theorem rCut (n : Int) : Hid (∀ W sl, DocG W sl D → Calls Try.prog 35 #[.agg #[sl], .int .i64 n] W (DocE (cutR D n).1 (cutR D n).2 W)) := Lib.hid fun W sl ⟨A, K, h, _⟩ => ((cut_hid D hf n).out W sl A K h).mono fun e w' ⟨sl', h1, h2, h3⟩ => by
  obtain ⟨a, c, rfl⟩ := h2.form
  exact ⟨a, c, h1, h2, h3⟩
theorem rSet (n : Int) (nm vl : ByteArray) : Hid (∀ W sl, DocG W sl D → Calls Try.prog 37 #[.agg #[sl], .int .i64 n, .string nm, .string vl] W (DocE (setR D n nm.data.toList vl.data.toList).1 (setR D n nm.data.toList vl.data.toList).2 W)) := Lib.hid fun W sl ⟨A, K, h, _⟩ => ((set_hid D hf n nm vl).out W sl A K h).mono fun e w' ⟨sl', h1, h2, h3⟩ => by
  obtain ⟨a, c, rfl⟩ := h2.form
  exact ⟨a, c, h1, h2, h3⟩
theorem rMake (x : Nd) (hx : FitN x) : Hid (∀ W sl av kv, DocG W sl D → AtIn W av x.a → IntIn W kv x.c → Calls Try.prog 29 #[.agg #[sl], nodeV x av kv] W (DocE2 (makeR D x).1 (makeR D x).2.1 (makeR D x).2.2 W)) := Lib.hid fun W sl av kv ⟨A, K, h, _⟩ ha hk => ((make_hid D hf x hx).out W sl A K av kv h ha hk).mono fun e w' ⟨sl', h1, h2, h3⟩ => by
  obtain ⟨a, c, rfl⟩ := h2.form
  exact ⟨a, c, h1, h2, h3⟩
end

end Go.Proofs.Ytcmbkhlnigbooaa.Dm
