/- Rows of sources; rows that are too big to be looked at: the document's. -/
import Derived.Test.YthnogdodlhkldaaGreatDoorSrcZ
namespace Go.Proofs.YthnogdodlhkldaaGreatDoor
open Go.RowKit

/-- A source's cells, and a row's. -/
def srcC (a : Src) : List Value := [.int .i64 a.k, strV a.t, strV a.s, strV a.h, .bool a.w, .int .i64 a.p, strV a.pa]

def srcCs (L : List Src) : List Value := L.flatMap srcC

theorem strV_of (t : ByteArray) : strV t.data.toList = .string t := by unfold strV; exact congrArg Value.string (text_is rfl).symm

theorem srcC_M (k : Int) (t s h : ByteArray) (b : Bool) (p : Int) (pa : ByteArray) : srcC (srcM k t s h b p pa) = [.int .i64 k, .string t, .string s, .string h, .bool b, .int .i64 p, .string pa] := by
  unfold srcC srcM
  simp only [strV_of]

theorem srcCs_len (L : List Src) : (srcCs L).length = L.length * 7 := by
  unfold srcCs
  induction L with
  | nil => rfl
  | cons a L ih => rw [List.flatMap_cons, List.length_append, ih, List.length_cons]; simp [srcC]; omega

theorem srcCs_snoc (L : List Src) (a : Src) : srcCs (L ++ [a]) = srcCs L ++ srcC a := by unfold srcCs; rw [List.flatMap_append]; simp

theorem srcCs_at (L : List Src) (i j : Nat) (hi : i < L.length) (hj : j < 7) : (srcCs L)[i * 7 + j]? = (srcC L[i])[j]? := by
  induction L generalizing i with
  | nil => cases hi
  | cons a L ih =>
    have hl : (srcC a).length = 7 := rfl
    cases i with
    | zero =>
      unfold srcCs
      rw [List.flatMap_cons, List.getElem?_append_left (by omega)]
      simp
    | succ i =>
      unfold srcCs
      rw [List.flatMap_cons, List.getElem?_append_right (by omega), hl, show (i + 1) * 7 + j - 7 = i * 7 + j by omega]
      have := ih i (by simpa using hi)
      simpa [srcCs] using this

/-- A slice of sources that reads as this list. -/
def SrcsIn (w : World) (v : Value) (L : List Src) : Prop :=
  ((∃ a c, v = .slice a 0 c) ∧ L = []) ∨ ∃ B off cap, v = .slice (some ⟨B, off, none⟩) L.length cap ∧ ∀ i, (h : i < L.length) → ∀ j u, (srcC L[i])[j]? = some u → w.cell? ⟨B, off + i * 7 + j, none⟩ = some u

theorem SrcsIn.below {w w' : World} {v : Value} {L : List Src} (h : SrcsIn w v L) (hb : Below w.heap.size w w') : SrcsIn w' v L := by
  rcases h with h | ⟨B, off, cap, h1, h2⟩
  · exact .inl h
  · exact .inr ⟨B, off, cap, h1, fun i hi j u hu => by rw [hb.cell (lt_of_cell (h2 i hi j u hu))]; exact h2 i hi j u hu⟩

theorem SrcsIn.form {w : World} {v : Value} {L : List Src} (h : SrcsIn w v L) : ∃ a c, v = .slice a L.length c := by
  rcases h with ⟨⟨a, c, rfl⟩, rfl⟩ | ⟨B, off, cap, rfl, _⟩
  · exact ⟨_, _, rfl⟩
  · exact ⟨_, _, rfl⟩

theorem SrcsIn.of_row {w : World} {base : Nat} {v : Value} {L : List Src} (h : w.ownsRow base 75 7 v L.length (srcCs L)) : SrcsIn w v L := by
  rcases rowForms h with ⟨h1, h2⟩ | ⟨g, cap, rfl⟩
  · exact .inl ⟨⟨_, _, h1⟩, List.length_eq_zero_iff.1 h2⟩
  · refine .inr ⟨g, 0, cap, rfl, fun i hi j u hu => ?_⟩
    have hj : j < 7 := by
      have := (List.getElem?_eq_some_iff.1 hu).1
      exact this
    have hl := srcCs_len L
    rw [Nat.zero_add, h.cellAt (i * 7 + j) (by omega), srcCs_at L i j hi hj, hu]

theorem cell_src (w : World) (c : List Value) (t : TypeId) : ∀ j u, c[j]? = some u → (w.alloc (.cells c.toArray t)).cell? ((⟨w.heap.size, 0, none⟩ : Addr).add j) = some u := by
  intro j u hj
  have e : (⟨w.heap.size, 0, none⟩ : Addr).add j = ⟨w.heap.size, j, none⟩ := by simp [Addr.add]; omega
  rw [e, World.cell?_alloc_mark, ← hj]
  simp

/-- The cells of a row's k-th source. -/
theorem SrcsIn.at {w : World} {a : Option Addr} {n c : Nat} {L : List Src} (h : SrcsIn w (.slice a n c) L) {k : Nat} (hk : k < L.length) : ∃ B off, a = some ⟨B, off, none⟩ ∧ ∀ j u, (srcC L[k])[j]? = some u → w.cell? ⟨B, off + k * 7 + j, none⟩ = some u := by
  rcases h with ⟨_, h2⟩ | ⟨B, off, cap, h1, h2⟩
  · rw [h2] at hk; cases hk
  · cases h1
    exact ⟨B, off, rfl, h2 k hk⟩

end Go.Proofs.YthnogdodlhkldaaGreatDoor
