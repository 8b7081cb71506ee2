/- A text's words as its code points tell them: a blank is a code point below 128, and no code point of several bytes has one among its bytes. -/
import Derived.Test.YtgbilfbonliipaaGreatDoorPure
namespace Go.Proofs.YtgbilfbonliipaaGreatDoor

theorem get_of {s : ByteArray} {k : Nat} {b : UInt8} (h : s.data.toList[k]? = some b) : s.get! k = b ∧ k < s.size := by
  have hk := (List.getElem?_eq_some_iff.1 h).1
  rw [Array.length_toList] at hk
  refine ⟨?_, hk⟩
  rw [Array.getElem?_toList] at h
  simp [ByteArray.get!, Array.getElem!_eq_getD, Array.getD_eq_getD_getElem?, h]
theorem at_some {s : ByteArray} {k : Nat} (h : k < s.size) : ∃ b, s.data.toList[k]? = some b ∧ s.get! k = b ∧ s[k] = b := by
  refine ⟨s[k], ?_, ?_, rfl⟩
  · rw [Array.getElem?_toList]; exact Array.getElem?_eq_getElem h
  · exact (get_of (b := s[k]) (by rw [Array.getElem?_toList]; exact Array.getElem?_eq_getElem h)).1

theorem dec_ascii (s : ByteArray) (i : Nat) (h : (s.get! i).toNat < 128) : Utf8.decode s i = ((s.get! i).toNat, 1) := by
  rw [Lib.decode_at]; unfold Lib.decodeN; rw [if_pos h]

theorem dec_wide (s : ByteArray) (i : Nat) (hi : i < s.size) (h : ¬ (s.get! i).toNat < 128) :
    128 ≤ (Utf8.decode s i).1 ∧ 1 ≤ (Utf8.decode s i).2 ∧ i + (Utf8.decode s i).2 ≤ s.size ∧ ∀ k b, i ≤ k → k < i + (Utf8.decode s i).2 → s.data.toList[k]? = some b → 128 ≤ b.toNat := by
  have h0 : 128 ≤ (s.get! i).toNat := by omega
  rw [Lib.decode_at]
  have key : ∀ w r : Nat, 128 ≤ r → 1 ≤ w → i + w ≤ s.size → (∀ j, j < w → 128 ≤ (s.get! (i + j)).toNat) → 128 ≤ (r, w).1 ∧ 1 ≤ (r, w).2 ∧ i + (r, w).2 ≤ s.size ∧ ∀ k b, i ≤ k → k < i + (r, w).2 → s.data.toList[k]? = some b → 128 ≤ b.toNat := by
    intro w r hr hw hs hj
    refine ⟨hr, hw, hs, fun k b h1 h2 h3 => ?_⟩
    have := hj (k - i) (by show k - i < w; have : k < i + w := h2; omega)
    rw [show i + (k - i) = k by omega, (get_of h3).1] at this
    exact this
  have one : ∀ j, j < 1 → 128 ≤ (s.get! (i + j)).toNat := fun j hj => by obtain rfl : j = 0 := (by omega); exact h0
  unfold Lib.decodeN
  rw [if_neg h]
  split
  · rename_i h1
    split
    · exact key _ _ (by omega) (by omega) (by omega) fun j hj => by
        rcases (by omega : j = 0 ∨ j = 1) with rfl | rfl
        · exact h0
        · omega
    · exact key _ _ (by omega) (by omega) (by omega) one
  · split
    · rename_i h1
      split
      · exact key _ _ (by omega) (by omega) (by omega) fun j hj => by
          rcases (by omega : j = 0 ∨ j = 1 ∨ j = 2) with rfl | rfl | rfl
          · exact h0
          · omega
          · omega
      · exact key _ _ (by omega) (by omega) (by omega) one
    · split
      · rename_i h1
        split
        · exact key _ _ (by omega) (by omega) (by omega) fun j hj => by
            rcases (by omega : j = 0 ∨ j = 1 ∨ j = 2 ∨ j = 3) with rfl | rfl | rfl | rfl
            · exact h0
            · omega
            · omega
            · omega
        · exact key _ _ (by omega) (by omega) (by omega) one
      · exact key _ _ (by omega) (by omega) (by omega) one

/-- What the set's method answers of a code point. -/
def pr (x : Nat) : Bool := decide (x < 128) && blk x.toUInt8

theorem blk_small {b : UInt8} (h : blk b = true) : b.toNat < 128 := by
  unfold blk at h
  simp at h
  rcases h with rfl | rfl | rfl | rfl | rfl <;> decide

/-- One step over a code point: it is a blank, and one byte long; or it is none, and none of its bytes is. -/
theorem step_of (s : ByteArray) (i : Nat) (hi : i < s.size) :
    (pr (Utf8.decode s i).1 = true ∧ (Utf8.decode s i).2 = 1 ∧ blk (s.get! i) = true) ∨
    (pr (Utf8.decode s i).1 = false ∧ 1 ≤ (Utf8.decode s i).2 ∧ i + (Utf8.decode s i).2 ≤ s.size ∧ ∀ k b, i ≤ k → k < i + (Utf8.decode s i).2 → s.data.toList[k]? = some b → blk b = false) := by
  by_cases h : (s.get! i).toNat < 128
  · rw [dec_ascii s i h]
    have e : ((s.get! i).toNat).toUInt8 = s.get! i := by simp
    unfold pr
    simp only [h, decide_true, Bool.true_and, e]
    cases hb : blk (s.get! i)
    · right
      refine ⟨rfl, Nat.le_refl _, by omega, fun k b h1 h2 h3 => ?_⟩
      obtain rfl : k = i := by omega
      rw [(get_of h3).1] at hb; exact hb
    · left
      exact ⟨by simp, by simp, by simp⟩
  · obtain ⟨h1, h2, h3, h4⟩ := dec_wide s i hi h
    right
    refine ⟨?_, h2, h3, fun k b a1 a2 a3 => ?_⟩
    · unfold pr
      rw [decide_eq_false (by omega)]; rfl
    · have := h4 k b a1 a2 a3
      cases hb : blk b
      · rfl
      · have := blk_small hb; omega

/-- What has been read: the spans closed, and where the one that is open begins. -/
def pieces (l : List UInt8) (acc : List (Nat × Nat)) : List (List UInt8) := acc.map fun x => (l.drop x.1).take (x.2 - x.1)
structure Read (l : List UInt8) (pos : Nat) (st : Option Nat) (acc : List (Nat × Nat)) : Prop where
  sum : pieces l acc ++ words (l.drop (st.getD pos)) = words l
  open_ : ∀ a, st = some a → a < pos ∧ ∀ k b, a ≤ k → k < pos → l[k]? = some b → blk b = false
  spans : ∀ x ∈ acc, x.1 ≤ x.2 ∧ x.2 ≤ l.length
  few : acc.length ≤ pos
  le : pos ≤ l.length

theorem read_start (l : List UInt8) : Read l 0 none [] := ⟨rfl, (fun a h => by cases h), (fun x hx => by cases hx), Nat.le_refl _, Nat.zero_le _⟩
theorem read_in {l : List UInt8} {pos w a : Nat} {acc : List (Nat × Nat)} (h : Read l pos (some a) acc) (hw : 1 ≤ w) (hle : pos + w ≤ l.length) (hn : ∀ k b, pos ≤ k → k < pos + w → l[k]? = some b → blk b = false) : Read l (pos + w) (some a) acc := by
  refine ⟨h.sum, fun a' e => ?_, h.spans, by have := h.few; omega, hle⟩
  cases e
  obtain ⟨h1, h2⟩ := h.open_ a rfl
  refine ⟨by omega, fun k b k1 k2 hk => ?_⟩
  by_cases hp : k < pos
  · exact h2 k b k1 hp hk
  · exact hn k b (by omega) k2 hk
theorem read_new {l : List UInt8} {pos w : Nat} {acc : List (Nat × Nat)} (h : Read l pos none acc) (hw : 1 ≤ w) (hle : pos + w ≤ l.length) (hn : ∀ k b, pos ≤ k → k < pos + w → l[k]? = some b → blk b = false) : Read l (pos + w) (some pos) acc := by
  refine ⟨h.sum, fun a' e => ?_, h.spans, by have := h.few; omega, hle⟩
  cases e
  exact ⟨by omega, hn⟩
theorem drop_cons {l : List UInt8} {k : Nat} {b : UInt8} (h : l[k]? = some b) : l.drop k = b :: l.drop (k + 1) := by
  have hk := (List.getElem?_eq_some_iff.1 h)
  rw [List.drop_eq_getElem_cons hk.1, hk.2]
theorem read_blank {l : List UInt8} {pos : Nat} {b : UInt8} {acc : List (Nat × Nat)} (h : Read l pos none acc) (hb : l[pos]? = some b) (hbl : blk b = true) : Read l (pos + 1) none acc := by
  have hlt := (List.getElem?_eq_some_iff.1 hb).1
  refine ⟨?_, (fun a h => by cases h), h.spans, by have := h.few; omega, by omega⟩
  have := h.sum
  simp only [Option.getD_none] at this ⊢
  rw [drop_cons hb, words_skip b _ hbl] at this
  exact this
theorem seg {l : List UInt8} {a pos : Nat} {b : UInt8} (ha : a ≤ pos) (hb : l[pos]? = some b) : l.drop a = (l.drop a).take (pos - a) ++ b :: l.drop (pos + 1) := by
  have e : l.drop pos = (l.drop a).drop (pos - a) := by rw [List.drop_drop]; congr 1; omega
  rw [← drop_cons hb, e, List.take_append_drop]
theorem seg_no {l : List UInt8} {a pos : Nat} (h : ∀ k b, a ≤ k → k < pos → l[k]? = some b → blk b = false) : ∀ b ∈ (l.drop a).take (pos - a), blk b = false := by
  intro b hb
  obtain ⟨k, hk⟩ := List.mem_iff_getElem?.1 hb
  rw [List.getElem?_take] at hk
  split at hk
  · rw [List.getElem?_drop] at hk
    exact h (a + k) b (by omega) (by omega) hk
  · cases hk
theorem seg_ne {l : List UInt8} {a pos : Nat} (h1 : a < pos) (h2 : pos ≤ l.length) : (l.drop a).take (pos - a) ≠ [] := by
  intro e
  have := congrArg List.length e
  simp at this
  omega
theorem read_close {l : List UInt8} {pos a : Nat} {b : UInt8} {acc : List (Nat × Nat)} (h : Read l pos (some a) acc) (hb : l[pos]? = some b) (hbl : blk b = true) : Read l (pos + 1) none (acc ++ [(a, pos)]) := by
  obtain ⟨h1, h2⟩ := h.open_ a rfl
  have hlt := (List.getElem?_eq_some_iff.1 hb).1
  refine ⟨?_, (fun a h => by cases h), fun x hx => ?_, by have := h.few; simp; omega, by omega⟩
  · have hs := h.sum
    simp only [Option.getD_none, Option.getD_some] at hs ⊢
    rw [seg (Nat.le_of_lt h1) hb, words_hit _ b _ (seg_no h2) hbl (seg_ne h1 (by omega))] at hs
    rw [← hs]
    simp [pieces]
  · rcases List.mem_append.1 hx with hx | hx
    · exact h.spans x hx
    · simp at hx; subst hx; exact ⟨by show a ≤ pos; omega, by show pos ≤ l.length; omega⟩
theorem read_end {l : List UInt8} {acc : List (Nat × Nat)} (h : Read l l.length none acc) : pieces l acc = words l := by
  have := h.sum
  simp only [Option.getD_none, List.drop_length] at this
  rw [words_nil, List.append_nil] at this
  exact this
theorem read_end_open {l : List UInt8} {a : Nat} {acc : List (Nat × Nat)} (h : Read l l.length (some a) acc) : pieces l (acc ++ [(a, l.length)]) = words l ∧ ∀ x ∈ acc ++ [(a, l.length)], x.1 ≤ x.2 ∧ x.2 ≤ l.length := by
  obtain ⟨h1, h2⟩ := h.open_ a rfl
  constructor
  · have hs := h.sum
    simp only [Option.getD_some] at hs
    have e : l.drop a = (l.drop a).take (l.length - a) := by rw [List.take_of_length_le (by simp)]
    rw [e, words_last _ (seg_no h2) (seg_ne h1 (Nat.le_refl _))] at hs
    rw [← hs]
    simp [pieces]
  · intro x hx
    rcases List.mem_append.1 hx with hx | hx
    · exact h.spans x hx
    · simp at hx; subst hx; exact ⟨by show a ≤ l.length; omega, Nat.le_refl _⟩

/-! The document's own loops, over places. -/
structure WordsTo (l : List UInt8) (fr i : Nat) (out : List (List UInt8)) : Prop where
  sum : out ++ words (l.drop fr) = words l
  open_ : ∀ k b, fr ≤ k → k < i → l[k]? = some b → blk b = false
  le : fr ≤ i
  few : out.length ≤ fr
theorem wordsTo_start (l : List UInt8) : WordsTo l 0 0 [] := ⟨rfl, fun k b h1 h2 => by omega, Nat.le_refl _, Nat.le_refl _⟩
theorem wordsTo_in {l : List UInt8} {fr i : Nat} {b : UInt8} {out : List (List UInt8)} (h : WordsTo l fr i out) (hb : l[i]? = some b) (hbl : blk b = false) : WordsTo l fr (i + 1) out := by
  refine ⟨h.sum, fun k b' k1 k2 hk => ?_, by have := h.le; omega, h.few⟩
  by_cases hp : k < i
  · exact h.open_ k b' k1 hp hk
  · obtain rfl : k = i := by omega
    rw [hb] at hk; cases hk; exact hbl
theorem wordsTo_hit {l : List UInt8} {fr i : Nat} {b : UInt8} {out : List (List UInt8)} (h : WordsTo l fr i out) (hb : l[i]? = some b) (hbl : blk b = true) (hlt : fr < i) : WordsTo l (i + 1) (i + 1) (out ++ [(l.drop fr).take (i - fr)]) := by
  have hl := (List.getElem?_eq_some_iff.1 hb).1
  refine ⟨?_, fun k b' k1 k2 => by omega, Nat.le_refl _, by have := h.few; simp; omega⟩
  have hs := h.sum
  rw [seg h.le hb, words_hit _ b _ (seg_no h.open_) hbl (seg_ne hlt (by omega))] at hs
  rw [← hs]; simp
theorem wordsTo_skip {l : List UInt8} {i : Nat} {b : UInt8} {out : List (List UInt8)} (h : WordsTo l i i out) (hb : l[i]? = some b) (hbl : blk b = true) : WordsTo l (i + 1) (i + 1) out := by
  refine ⟨?_, fun k b' k1 k2 => by omega, Nat.le_refl _, by have := h.few; omega⟩
  have hs := h.sum
  rw [drop_cons hb, words_skip b _ hbl] at hs
  exact hs
theorem wordsTo_end {l : List UInt8} {out : List (List UInt8)} (h : WordsTo l l.length l.length out) : out = words l := by
  have := h.sum
  rw [List.drop_length, words_nil, List.append_nil] at this
  exact this
theorem wordsTo_end_open {l : List UInt8} {fr : Nat} {out : List (List UInt8)} (h : WordsTo l fr l.length out) (hlt : fr < l.length) : out ++ [(l.drop fr).take (l.length - fr)] = words l := by
  have hs := h.sum
  have e : l.drop fr = (l.drop fr).take (l.length - fr) := by rw [List.take_of_length_le (by simp)]
  rw [e, words_last _ (seg_no h.open_) (seg_ne hlt (Nat.le_refl _))] at hs
  exact hs

structure PartsTo (l : List UInt8) (c : UInt8) (fr i : Nat) (out : List (List UInt8)) : Prop where
  sum : out ++ parts (l.drop fr) c = parts l c
  open_ : ∀ k b, fr ≤ k → k < i → l[k]? = some b → (b == c) = false
  le : fr ≤ i
  few : out.length ≤ fr
theorem pseg_no {l : List UInt8} {c : UInt8} {a pos : Nat} (h : ∀ k b, a ≤ k → k < pos → l[k]? = some b → (b == c) = false) : ∀ b ∈ (l.drop a).take (pos - a), (b == c) = false := by
  intro b hb
  obtain ⟨k, hk⟩ := List.mem_iff_getElem?.1 hb
  rw [List.getElem?_take] at hk
  split at hk
  · rw [List.getElem?_drop] at hk
    exact h (a + k) b (by omega) (by omega) hk
  · cases hk
theorem partsTo_start (l : List UInt8) (c : UInt8) : PartsTo l c 0 0 [] := ⟨rfl, fun k b h1 h2 => by omega, Nat.le_refl _, Nat.le_refl _⟩
theorem partsTo_in {l : List UInt8} {c : UInt8} {fr i : Nat} {b : UInt8} {out : List (List UInt8)} (h : PartsTo l c fr i out) (hb : l[i]? = some b) (hbl : (b == c) = false) : PartsTo l c fr (i + 1) out := by
  refine ⟨h.sum, fun k b' k1 k2 hk => ?_, by have := h.le; omega, h.few⟩
  by_cases hp : k < i
  · exact h.open_ k b' k1 hp hk
  · obtain rfl : k = i := by omega
    rw [hb] at hk; cases hk; exact hbl
theorem partsTo_hit {l : List UInt8} {c : UInt8} {fr i : Nat} {b : UInt8} {out : List (List UInt8)} (h : PartsTo l c fr i out) (hb : l[i]? = some b) (hbl : (b == c) = true) : PartsTo l c (i + 1) (i + 1) (out ++ [trim ((l.drop fr).take (i - fr))]) := by
  refine ⟨?_, fun k b' k1 k2 => by omega, Nat.le_refl _, by have := h.few; have := h.le; simp; omega⟩
  have hs := h.sum
  unfold parts at hs ⊢
  rw [seg h.le hb, cut_hit (· == c) _ b _ (pseg_no h.open_) hbl, List.map_cons] at hs
  rw [← hs]; simp
theorem partsTo_end {l : List UInt8} {c : UInt8} {fr : Nat} {out : List (List UInt8)} (h : PartsTo l c fr l.length out) : out ++ [trim ((l.drop fr).take (l.length - fr))] = parts l c := by
  have hs := h.sum
  unfold parts at hs ⊢
  have e : l.drop fr = (l.drop fr).take (l.length - fr) := by rw [List.take_of_length_le (by simp)]
  rw [e, cut_none (· == c) _ (pseg_no h.open_)] at hs
  exact hs

theorem take_low (l : List UInt8) (k : Nat) (b : UInt8) (h : l[k]? = some b) : (low l).take (k + 1) = (low l).take k ++ [lowB b] := by
  rw [List.take_add_one]
  unfold low
  rw [List.getElem?_map, h]; rfl

end Go.Proofs.YtgbilfbonliipaaGreatDoor
