/- A range over an iterator whose rounds all go on: what the iterator tells of an element, in the world in which it hands it over, reaches the round. -/
import Derived.Test.YtmlanlagnhnppaaDoorHdD
import Derived.RangeFuncNested
import Derived.RangeFuncBound
import Derived.RangeFuncCalls
import Derived.RangeFuncLeaves
import Derived.Shelf.Abstract
import Derived.Shelf.RegionOpen
import Derived.OwnWalkIn
import Derived.TacticsInMore
import Derived.LoopNIn
import Derived.LoopIn
namespace Go.Proofs.YtmlanlagnhnppaaDoor
open Go.RowKit

/-- Rows of texts lie as they lay. -/
structure Strs (A B : World) : Prop where
  size : A.heap.size ≤ B.heap.size
  str : ∀ (k : Nat) (cs : Array Value) (fr : Nat × Nat), A.heap[k]? = some (Obj.cells cs 9 fr) → B.heap[k]? = some (Obj.cells cs 9 fr)
theorem Strs.refl (A : World) : Strs A A := ⟨Nat.le_refl _, fun _ _ _ h => h⟩
theorem Strs.trans {A B C : World} (h : Strs A B) (k : Strs B C) : Strs A C := ⟨Nat.le_trans h.size k.size, fun j cs fr x => k.str j cs fr (h.str j cs fr x)⟩
theorem Strs.of_below {A B : World} (h : Below A.heap.size A B) : Strs A B := ⟨h.size, fun k _ _ x => (h.block k (lt_of_block x)).trans x⟩
theorem Strs.putObj {A B : World} (h : Strs A B) {l : Nat} {o : Obj} (hl : B.heap[l]? = some o) (ho : o.isCells = false) (o' : Obj) : Strs A (B.putObj l o') :=
  ⟨by rw [World.putObj_size]; exact h.size, fun k cs fr x => by
    have hk := h.str k cs fr x
    rw [World.putObj_heap_other (fun e => by subst e; rw [hk] at hl; cases hl; cases ho)]
    exact hk⟩
theorem Strs.row {A B : World} {base : Nat} {v : Value} {n : Nat} {xs : List Value} (h : Strs A B) (hr : A.ownsRow base 9 1 v n xs) : B.ownsRow base 9 1 v n xs := by
  refine ⟨hr.1, ?_⟩
  rcases hr.2 with h2 | ⟨g, cap, cur, h1, h2, h3, h4⟩
  · exact .inl h2
  · exact .inr ⟨g, cap, cur, h1, h2, h.str _ _ _ h3, h4⟩

/-- What an iterator promises: elements, one by one, each with E of it in the world in which it comes; all of them meet S. -/
def Tells {α : Type} (P : Program) (gf : Nat) (lb : Array Value) (encs : α → Array Value) (E : Nat → α → World → Prop) (S : List α → Prop) (N : Nat) (w0 : World) : Prop :=
  ∀ (l : Nat) (J : List α → World → Prop) (W : World), Below w0.heap.size w0 W → (∀ s A B, J s A → Below A.heap.size A B → J s B) →
    (∀ pre x W1, J pre W1 → E W.heap.size x W1 → pre.length < N → YieldAt Fence.wide 0 P l (encs x) W1 fun e W' => e = .returned (.bool true) ∧ J (pre ++ [x]) W' ∧ Strs W1 W') →
    J [] W → CallsIn Fence.wide 0 P gf (#[.func (.yield l) #[] #[]] ++ lb) W fun e W' => (∃ v, e = .returned v) ∧ ∃ xs, S xs ∧ J xs W'

theorem range_goes {α : Type} {P : Program} {g : Operand} {ps : Array Tmp} {assign body : Code} {Q : Exit → Act → World → Prop} {a : Act} {w : World}
    {gf : Nat} {lb : Array Value} (hg : a.eval g = .func (.func gf) #[] lb) (eg : ∀ args w, (callFunc gf args).run P w = .ok (.enter gf args) w)
    {encs : α → Array Value} (hps : ∀ x, (encs x).size = ps.size) {E : Nat → α → World → Prop} {S : List α → Prop} {N : Nat} (hseq : Tells P gf lb encs E S N w)
    (I : List α → World → Prop) (hI : ∀ s A B, I s A → Below A.heap.size A B → I s B) (hIl : ∀ s A l o o', I s A → w.heap.size ≤ l → A.heap[l]? = some o → o.isCells = false → I s (A.putObj l o')) (h0 : I [] w)
    (hround : ∀ (l : Nat) (pre : List α) (x : α) (W : World), w.heap.size ≤ l → (∃ r, W.heap[l]? = some (.loop r)) → I pre W → E (w.heap.size + 2) x W → pre.length < N →
      assign.wpIn (Fence.wide.inRound l) 0 P (Exit.then (fun a₁ W₁ => KeepsFrom w.heap.size W W₁ ∧ ∀ r', body.wpIn (Fence.wide.inRound l) 0 P (fun e _ W' => e = .normal ∧ KeepsFrom w.heap.size (W₁.putObj l (.loop r')) W' ∧ Strs W W' ∧ I (pre ++ [x]) W') a₁ (W₁.putObj l (.loop r'))) (fun _ _ _ => False))
        { tmps := (ps.zip (encs x)).foldl (fun t (p, v) => t.setIfInBounds p v) a.tmps, defers := [] } W)
    (hdone : ∀ (D : Nat) (xs : List α) (W : World), w.heap.size ≤ D → S xs → I xs W → W.heap[D]? = some (.deferred (some [])) → Q .normal { a with defers := { target := .collected D, args := #[] } :: a.defers } W) :
    (Code.rangeFunc g ps assign body).wpIn Fence.wide 0 P Q a w := by
  refine wpIn_rangeFunc (fun fn hfn => ?_)
  -- the loop's record, in its states
  let rc : LoopState → Loop := fun st => { state := st, pending := none, fn, tmps := a.tmps, params := ps, assign, body, defers := w.heap.size }
  let W1 : World := (w.alloc (.deferred (some []))).alloc (.loop (rc .ready))
  have b1 : Below w.heap.size w W1 := ((Below.refl _ w).alloc (Nat.le_refl _) _).alloc (by simp) _
  have s1 : W1.heap.size = w.heap.size + 2 := by simp [W1]
  have hl1 : W1.heap[w.heap.size + 1]? = some (.loop (rc .ready)) := by
    have := World.alloc_heap_new (w.alloc (.deferred (some []))) (.loop (rc .ready)); rwa [World.size_alloc] at this
  have hd1 : W1.heap[w.heap.size]? = some (.deferred (some [])) := (Below.heap_alloc _ _ _ (by simp)).trans (World.alloc_heap_new w _)
  refine ⟨w.heap.size + 1, [{ target := .collected w.heap.size, args := #[] }], W1, { target := .fn (.func gf) lb, args := #[.func (.yield (w.heap.size + 1)) #[] #[]] }, W1, gf, #[.func (.yield (w.heap.size + 1)) #[] #[]] ++ lb, W1, ?_, ?_, ?_, ?_, (fun h => by cases h), ?_⟩
  · exact run_enterLoop_outer fn a.tmps ps assign body
  · simp only [resolve, hg]
    simp [go_sem]
  · intro f' _; trivial
  · simp [invoke, go_sem, eg]
  have call := hseq (w.heap.size + 1) (fun pre W => I pre W ∧ W.heap[w.heap.size + 1]? = some (.loop (rc .ready)) ∧ W.heap[w.heap.size]? = some (.deferred (some []))) W1 b1
    (fun s A B hs hb => ⟨hI s A B hs.1 hb, by rw [hb.block _ (lt_of_block hs.2.1)]; exact hs.2.1, by rw [hb.block _ (lt_of_block hs.2.2)]; exact hs.2.2⟩) ?_ ⟨hI _ _ _ h0 b1, hl1, hd1⟩
  · refine call.mono ?_
    rintro e W2 ⟨⟨v, rfl⟩, xs, hS, hi, hl, hd⟩
    refine ⟨none, _, run_endLoop hl (by simp [rc]), ?_⟩
    exact hdone _ xs _ (Nat.le_refl _) hS (hIl _ _ _ _ _ hi (Nat.le_succ _) hl rfl) ((World.putObj_heap_other (by omega)).trans hd)
  · rintro pre x W ⟨hi, hl, hd⟩ hE hlen
    rw [s1] at hE
    refine ⟨fn, _, assign, body, run_yield hl (by simpa [rc] using hps x), roundIn_of_wpIn hfn ?_⟩
    refine wpIn_mono (hround (w.heap.size + 1) pre x W (Nat.le_succ _) ⟨_, hl⟩ hi hE hlen) ?_
    rintro e a₁ W3 hp
    cases e with
    | normal =>
      obtain ⟨hk3, hb3⟩ := hp
      have hl3 := hk3.same _ _ (by omega) hl rfl
      have hd3 := hk3.same _ _ (Nat.le_refl _) hd rfl
      refine ⟨_, run_beginRound hl3 rfl, ?_⟩
      refine wpIn_mono (hb3 _) ?_
      rintro e a₂ W5 ⟨rfl, hk5, hst, hi5⟩
      have hl5 := hk5.same _ _ (by omega) (World.putObj_heap_same (lt_of_block hl3)) rfl
      have hd5 := hk5.same _ _ (Nat.le_refl _) ((World.putObj_heap_other (by omega)).trans hd3) rfl
      refine ⟨_, _, run_endRound none hl5, rfl, ⟨hIl _ _ _ _ _ hi5 (Nat.le_succ _) hl5 rfl, World.putObj_heap_same (lt_of_block hl5), (World.putObj_heap_other (by omega)).trans hd5⟩, hst.putObj hl5 rfl _⟩
    | _ => exact hp.elim

end Go.Proofs.YtmlanlagnhnppaaDoor
