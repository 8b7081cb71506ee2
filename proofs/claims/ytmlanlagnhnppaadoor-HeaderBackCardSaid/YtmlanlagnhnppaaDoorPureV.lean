/- The plain mathematics of url, further: what the document's own loops know; texts that are parsed alike; an address' text and its front. -/
import Derived.Test.YtmlanlagnhnppaaDoorPureU
import Derived.Lib.Join
namespace Go.Proofs.YtmlanlagnhnppaaDoor

/-! Up to, and from there. -/
theorem past_none (p : UInt8 → Bool) (l : List UInt8) (h : ∀ b ∈ l, p b = false) : upto p l = l ∧ past p l = [] := by
  induction l with
  | nil => exact ⟨rfl, rfl⟩
  | cons b l ih =>
    have hb := h b (by simp)
    obtain ⟨h1, h2⟩ := ih (fun x hx => h x (by simp [hx]))
    unfold upto past at *
    rw [List.takeWhile_cons, List.dropWhile_cons, hb]
    simp [h1, h2]
theorem past_hit (p : UInt8 → Bool) (a : List UInt8) (c : UInt8) (r : List UInt8) (ha : ∀ b ∈ a, p b = false) (hc : p c = true) : upto p (a ++ c :: r) = a ∧ past p (a ++ c :: r) = c :: r := by
  induction a with
  | nil =>
    unfold upto past
    rw [List.nil_append, List.takeWhile_cons, List.dropWhile_cons, hc]; simp
  | cons b a ih =>
    have hb := ha b (by simp)
    obtain ⟨h1, h2⟩ := ih (fun x hx => ha x (by simp [hx]))
    unfold upto past at *
    rw [List.cons_append, List.takeWhile_cons, List.dropWhile_cons, hb]
    simp [h1, h2]
/-- Found at a place: the first byte that is asked for. -/
theorem past_at (p : UInt8 → Bool) (l : List UInt8) (k : Nat) (c : UInt8) (hk : l[k]? = some c) (hc : p c = true) (h : ∀ j, j < k → ∀ b, l[j]? = some b → p b = false) : upto p l = l.take k ∧ past p l = l.drop k := by
  have e : l = l.take k ++ c :: l.drop (k + 1) := by
    have hlt := (List.getElem?_eq_some_iff.1 hk)
    rw [← drop_cons hk, List.take_append_drop]
  have := past_hit p (l.take k) c (l.drop (k + 1)) (fun b hb => by
    obtain ⟨j, hj⟩ := List.mem_iff_getElem?.1 hb
    rw [List.getElem?_take] at hj
    split at hj
    · exact h j ‹_› b hj
    · cases hj) hc
  rw [← e] at this
  rw [drop_cons hk]
  exact this
theorem past_end (p : UInt8 → Bool) (l : List UInt8) (h : ∀ j, j < l.length → ∀ b, l[j]? = some b → p b = false) : upto p l = l ∧ past p l = [] :=
  past_none p l fun b hb => by
    obtain ⟨j, hj, rfl⟩ := List.getElem_of_mem hb
    exact h j hj _ (List.getElem?_eq_getElem hj)
theorem upto_length (p : UInt8 → Bool) (l : List UInt8) : (upto p l).length + (past p l).length = l.length := by
  have := congrArg List.length (upto_past p l)
  rw [List.length_append] at this; exact this
theorem past_take (p : UInt8 → Bool) (l : List UInt8) : upto p l = l.take (upto p l).length ∧ past p l = l.drop (upto p l).length := by
  have h := upto_past p l
  have h1 : (upto p l ++ past p l).take (upto p l).length = upto p l := List.take_left
  have h2 : (upto p l ++ past p l).drop (upto p l).length = past p l := List.drop_left
  rw [h] at h1 h2
  exact ⟨h1.symm, h2.symm⟩
theorem past_head (p : UInt8 → Bool) (l : List UInt8) (c : UInt8) (r : List UInt8) (h : past p l = c :: r) : p c = true := by
  induction l with
  | nil => cases h
  | cons b l ih =>
    unfold past at h ih
    rw [List.dropWhile_cons] at h
    cases hb : p b
    · rw [hb] at h; simp at h; exact ih h
    · rw [hb] at h; simp at h; rw [← h.1]; exact hb
theorem upto_no (p : UInt8 → Bool) (l : List UInt8) : ∀ b ∈ upto p l, p b = false := by
  induction l with
  | nil => intro b hb; cases hb
  | cons c l ih =>
    intro b hb
    unfold upto at hb ih
    rw [List.takeWhile_cons] at hb
    cases hc : p c
    · rw [hc] at hb
      simp at hb
      rcases hb with rfl | hb
      · exact hc
      · exact ih b (by simpa using hb)
    · rw [hc] at hb; simp at hb
theorem upto_eq {p : UInt8 → Bool} {l : List UInt8} (c : UInt8) (r a : List UInt8) (h : upto p l = a) : upto p (a ++ c :: r) = a ∨ p c = false := by
  cases hc : p c
  · exact .inr rfl
  · exact .inl (past_hit p a c r (h ▸ upto_no p l) hc).1

/-! The document's pieces. -/
structure CutTo (p : UInt8 → Bool) (l : List UInt8) (fr i : Nat) (out : List (List UInt8)) : Prop where
  sum : out ++ cut p (l.drop fr) = cut p (l.drop 1)
  open_ : ∀ k b, fr ≤ k → k < i → l[k]? = some b → p b = false
  le : fr ≤ i
  few : out.length < fr
theorem cutTo_start (p : UInt8 → Bool) (l : List UInt8) : CutTo p l 1 1 [] := ⟨rfl, fun k b h1 h2 => by omega, Nat.le_refl _, Nat.zero_lt_one⟩
theorem cutTo_in {p : UInt8 → Bool} {l : List UInt8} {fr i : Nat} {b : UInt8} {out : List (List UInt8)} (h : CutTo p l fr i out) (hb : l[i]? = some b) (hbl : p b = false) : CutTo p l fr (i + 1) out := by
  refine ⟨h.sum, fun k b' k1 k2 hk => ?_, by have := h.le; omega, h.few⟩
  by_cases hp : k < i
  · exact h.open_ k b' k1 hp hk
  · obtain rfl : k = i := by omega
    rw [hb] at hk; cases hk; exact hbl
theorem cseg_no {p : UInt8 → Bool} {l : List UInt8} {a pos : Nat} (h : ∀ k b, a ≤ k → k < pos → l[k]? = some b → p b = false) : ∀ b ∈ (l.drop a).take (pos - a), p b = false := by
  intro b hb
  obtain ⟨k, hk⟩ := List.mem_iff_getElem?.1 hb
  rw [List.getElem?_take] at hk
  split at hk
  · rw [List.getElem?_drop] at hk
    exact h (a + k) b (by omega) (by omega) hk
  · cases hk
theorem cutTo_hit {p : UInt8 → Bool} {l : List UInt8} {fr i : Nat} {b : UInt8} {out : List (List UInt8)} (h : CutTo p l fr i out) (hb : l[i]? = some b) (hbl : p b = true) : CutTo p l (i + 1) (i + 1) (out ++ [(l.drop fr).take (i - fr)]) := by
  refine ⟨?_, fun k b' k1 k2 => by omega, Nat.le_refl _, by have := h.few; have := h.le; simp; omega⟩
  have hs := h.sum
  rw [seg h.le hb, cut_hit p _ b _ (cseg_no h.open_) hbl] at hs
  rw [← hs]; simp
theorem cutTo_end {p : UInt8 → Bool} {l : List UInt8} {fr : Nat} {out : List (List UInt8)} (h : CutTo p l fr l.length out) : out ++ [(l.drop fr).take (l.length - fr)] = cut p (l.drop 1) := by
  have hs := h.sum
  have e : l.drop fr = (l.drop fr).take (l.length - fr) := by rw [List.take_of_length_le (by simp)]
  rw [e, cut_none p _ (cseg_no h.open_)] at hs
  exact hs

/-! The document's clean: in one go. -/
/-- What the document's loop has behind k pieces: the last piece's own end is laid in the loop. -/
def refC (L : List (List UInt8)) (k : Nat) : List (List UInt8) := if k = L.length then endC L (taken L) else taken (L.take k)
theorem refC_zero (L : List (List UInt8)) (h : L ≠ []) : refC L 0 = [] := by
  unfold refC
  rw [if_neg (by intro e; exact h (List.length_eq_zero_iff.1 e.symm))]; rfl
theorem refC_all (L : List (List UInt8)) : refC L L.length = endC L (taken L) := by unfold refC; rw [if_pos rfl]
theorem refC_lt (L : List (List UInt8)) (k : Nat) (h : k < L.length) : refC L k = taken (L.take k) := by unfold refC; rw [if_neg (by omega)]
theorem refC_succ (L : List (List UInt8)) (k : Nat) (h : k < L.length) : refC L (k + 1) = if k + 1 = L.length ∧ dots L[k] = true then stepC (taken (L.take k)) L[k] ++ [[]] else stepC (taken (L.take k)) L[k] := by
  have ht : L.take (k + 1) = L.take k ++ [L[k]] := List.take_succ_eq_append_getElem h
  by_cases he : k + 1 = L.length
  · have hL : L = L.take k ++ [L[k]] := by rw [← ht, List.take_of_length_le (by omega)]
    rw [he, refC_all]
    have e1 : endC L (taken L) = endC (L.take k ++ [L[k]]) (taken (L.take k ++ [L[k]])) := by rw [← hL]
    rw [e1, endC_snoc, taken_snoc]
    cases hd : dots L[k] <;> simp
  · rw [refC_lt L (k + 1) (by omega), ht, taken_snoc, if_neg (fun h => he h.1)]
theorem taken_length (L : List (List UInt8)) : (taken L).length ≤ L.length := by
  induction L using list_snoc with
  | nil => exact Nat.le_refl _
  | append_singleton L p ih =>
    rw [taken_snoc, List.length_append]
    have : (stepC (taken L) p).length ≤ (taken L).length + 1 := by
      unfold stepC
      split
      · omega
      · split
        · rw [List.length_dropLast]; omega
        · simp
    simp; omega
theorem slashed_snoc (L : List (List UInt8)) (p : List UInt8) : slashed (L ++ [p]) = slashed L ++ 47 :: p := by simp [slashed]
theorem slashed_join (x : List UInt8) (L : List (List UInt8)) : 47 :: Lib.join (x :: L) [47] = slashed (x :: L) := by
  induction L generalizing x with
  | nil => simp [Lib.join, slashed, List.intercalate]
  | cons y L ih =>
    have := ih y
    rw [slashed_cons, ← this]
    simp [Lib.join, List.intercalate]

/-! What is right. -/
theorem right_len {u : U} (h : rightM u = true) : (textM u).length ≤ 500 := by
  unfold rightM at h; simp at h; exact h.2
theorem right_lens {u : U} (h : rightM u = true) : u.s.length ≤ 500 ∧ u.h.length ≤ 500 ∧ u.pa.length ≤ 500 ∧ u.q.length ≤ 500 := by
  have h1 := right_len h
  unfold rightM at h
  cases ho : u.o
  · unfold textM at h1
    rw [ho] at h1
    simp only [Bool.false_eq_true, if_false, List.length_append, List.length_cons] at h1
    omega
  · rw [ho] at h
    unfold textM at h1
    rw [ho] at h1
    simp only [if_true, List.length_append, List.length_cons] at h1
    simp only [if_true, opaqueM, Bool.and_eq_true, List.isEmpty_iff, decide_eq_true_eq] at h
    obtain ⟨⟨⟨⟨⟨⟨⟨h2, h3⟩, h4⟩, h5⟩, h6⟩, _⟩, _⟩, _⟩ := h
    rw [h4, h6]
    simp
    omega
theorem right_sch {u : U} (h : rightM u = true) : schM u.s = true := by
  unfold rightM at h
  cases ho : u.o
  · rw [ho] at h
    simp only [Bool.false_eq_true, if_false, rankedM, Bool.and_eq_true, decide_eq_true_eq] at h
    exact dfl_sch h.1.1.1.1.1.1.1
  · rw [ho] at h
    simp only [if_true, opaqueM, Bool.and_eq_true] at h
    exact h.1.1.1.1.1.1.1
theorem right_dfl {u : U} (h : rightM u = true) : decide (0 < dfl u.s) = !u.o := by
  unfold rightM at h
  cases ho : u.o
  · rw [ho] at h
    simp only [Bool.false_eq_true, if_false, rankedM, Bool.and_eq_true, decide_eq_true_eq] at h
    have := h.1.1.1.1.1.1.1
    rw [decide_eq_true (by omega)]; rfl
  · rw [ho] at h
    simp only [if_true, opaqueM, Bool.and_eq_true, decide_eq_true_eq] at h
    have := h.1.1.1.1.1.1.2
    rw [this]; rfl
/-- How an address' text begins. -/
def frontM (u : U) : List UInt8 := if u.o then u.s ++ [58] else u.s ++ [58] ++ ([47, 47] ++ u.h)
theorem front_text (u : U) : (textM u).take (frontM u).length = frontM u ∧ (frontM u).length ≤ (textM u).length := by
  unfold textM frontM
  cases u.o
  · simp only [Bool.false_eq_true, if_false]
    have : u.s ++ 58 :: 47 :: 47 :: (u.h ++ (portT u.p ++ (u.pa ++ u.q))) = (u.s ++ [58] ++ ([47, 47] ++ u.h)) ++ (portT u.p ++ (u.pa ++ u.q)) := by simp
    rw [this]
    exact ⟨List.take_left, by rw [List.length_append (bs := portT u.p ++ (u.pa ++ u.q))]; omega⟩
  · simp only [if_true]
    have : u.s ++ 58 :: u.pa = (u.s ++ [58]) ++ u.pa := by simp
    rw [this]
    exact ⟨List.take_left, by rw [List.length_append (bs := u.pa)]; omega⟩

/-! What is parsed. -/
theorem parse_some {l : List UInt8} {u : U} (h : parseM l = some u) : rightM u = true ∧ low u.s = u.s ∧ low u.h = u.h := by
  unfold parseM at h
  rw [Option.filter_eq_some_iff] at h
  obtain ⟨h1, h2⟩ := h
  refine ⟨h2, ?_⟩
  unfold parseT at h1
  split at h1
  · cases h1
  · split at h1
    · cases h1; exact ⟨low_low _, rfl⟩
    · split at h1
      · unfold rankU at h1
        split at h1
        · cases h1
        · cases h1; exact ⟨low_low _, low_low _⟩
      · cases h1
theorem blk_35 : blk 35 = false := by decide
theorem trim_around (l : List UInt8) : trim ([32, 9] ++ l ++ [10]) = trim l := by
  obtain ⟨a, z, h, ha, hz⟩ := trim_form l
  have e : [32, 9] ++ l ++ [10] = ([32, 9] ++ a) ++ trim l ++ (z ++ [10]) := by
    conv => lhs; rw [h]
    simp
  rw [e]
  refine trim_unique (fun b hb => ?_) (fun b hb => ?_) (trim_ends l)
  · rcases List.mem_append.1 hb with hb | hb
    · simp at hb; rcases hb with rfl | rfl <;> decide
    · exact ha b hb
  · rcases List.mem_append.1 hb with hb | hb
    · exact hz b hb
    · simp at hb; subst hb; decide
theorem parse_around (l : List UInt8) : parseM ([32, 9] ++ l ++ [10]) = parseM l := by unfold parseM; rw [trim_around]
theorem ends_of_trim {l : List UInt8} (h : trim l = l) : Ends l := by rw [← h]; exact trim_ends l
/-- What stands behind a #, where no blank is ahead of this, plays no part in what is trimmed, and cut off. -/
theorem upto_hash (l m : List UInt8) (h : trim l = l) : upto (isC 35) (trim (l ++ 35 :: m)) = upto (isC 35) (trim l) := by
  obtain ⟨a, z, hm, ha, hz⟩ := trim_form m
  -- what is trimmed of the whole: l, the sign, and what is left of m's front
  have hex : ∃ m' z', l ++ 35 :: m = l ++ 35 :: m' ++ z' ∧ (∀ b ∈ z', blk b = true) ∧ Ends (l ++ 35 :: m') := by
    have he := ends_of_trim h
    have h1 : ∀ m' b t, l ++ 35 :: m' = b :: t → blk b = false := fun m' b t e => by
      cases l with
      | nil => simp at e; rw [← e.1]; decide
      | cons c l => simp at e; exact he.1 b l (by rw [e.1])
    by_cases hn : trim m = []
    · refine ⟨[], m, by simp, ?_, h1 [], fun b t e => ?_⟩
      · rw [hm, hn]; intro b hb; simp at hb; rcases hb with hb | hb; exact ha b hb; exact hz b hb
      · have := List.append_inj' e rfl
        simp at this; rw [← this.2]; decide
    · refine ⟨a ++ trim m, z, ?_, hz, h1 _, fun b t e => ?_⟩
      · conv => lhs; rw [hm]
        simp
      · obtain ⟨t2, b2, hb2⟩ : ∃ t2 b2, trim m = t2 ++ [b2] := ⟨(trim m).dropLast, (trim m).getLast hn, (List.dropLast_concat_getLast hn).symm⟩
        have h2 := (trim_ends m).2 b2 t2 hb2
        rw [hb2] at e
        have e2 : l ++ 35 :: (a ++ (t2 ++ [b2])) = (l ++ 35 :: (a ++ t2)) ++ [b2] := by simp
        rw [e2] at e
        have := List.append_inj' e rfl
        simp at this; rw [← this.2]; exact h2
  obtain ⟨m', z', e, hz', hE⟩ := hex
  have ht : trim (l ++ 35 :: m) = l ++ 35 :: m' := by
    have := trim_unique (a := []) (m := l ++ 35 :: m') (z := z') (by simp) hz' hE
    rw [e]; simpa using this
  rw [ht, h]
  -- up to the first #
  by_cases hin : ∃ b ∈ l, isC 35 b = true
  · obtain ⟨b, hb, hc⟩ := hin
    have hp : past (isC 35) l ≠ [] := by
      intro hn
      have := upto_past (isC 35) l
      rw [hn, List.append_nil] at this
      rw [← this] at hb
      rw [upto_no _ _ b hb] at hc; cases hc
    obtain ⟨c, r, hcr⟩ := List.exists_cons_of_ne_nil hp
    have h3 := upto_past (isC 35) l
    rw [hcr] at h3
    have h4 := past_hit (isC 35) (upto (isC 35) l) c (r ++ 35 :: m') (upto_no _ _) (past_head _ _ _ _ hcr)
    have e5 : l ++ 35 :: m' = upto (isC 35) l ++ c :: (r ++ 35 :: m') := by
      have h5 : upto (isC 35) l ++ c :: (r ++ 35 :: m') = (upto (isC 35) l ++ c :: r) ++ 35 :: m' := by simp
      rw [h5, h3]
    rw [e5]; exact h4.1
  · have hno : ∀ b ∈ l, isC 35 b = false := fun b hb => by
      cases hc : isC 35 b
      · rfl
      · exact absurd ⟨b, hb, hc⟩ hin
    rw [(past_none _ _ hno).1]
    exact (past_hit (isC 35) l 35 m' hno rfl).1
theorem parse_hash (l m : List UInt8) (h : trim l = l) : parseM (l ++ 35 :: m) = parseM l := by unfold parseM; rw [upto_hash l m h]

end Go.Proofs.YtmlanlagnhnppaaDoor
