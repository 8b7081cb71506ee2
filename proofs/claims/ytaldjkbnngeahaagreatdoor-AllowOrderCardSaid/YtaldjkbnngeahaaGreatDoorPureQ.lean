/- The plain mathematics of allow: what a list of sources lets be, over lists of bytes, and what the seven statements want of it. -/
import Derived.Test.YtaldjkbnngeahaaGreatDoorPureY
import Derived.Test.YtaldjkbnngeahaaGreatDoorPureM
namespace Go.Proofs.YtaldjkbnngeahaaGreatDoor

def hasL (L : List Src) (k : Int) : Bool := L.any fun a => decide (a.k = k)
def textQ (L : List Src) (k : Int) (s : List UInt8) : Bool := L.any fun a => decide (a.k = k) && decide (a.t = s)
def urlsL (L : List Src) (u v : U) (m : Bool) : Bool := L.any fun a => urlL a u v m
def nonceL (L : List Src) (n : List UInt8) : Bool := !n.isEmpty && textQ L 9 n
def hashL (L : List Src) (s : List UInt8) : Bool := textQ L 10 (markL s)
def looseL (L : List Src) : Bool := hasL L 3 && !hasL L 9 && !hasL L 10 && !hasL L 6
def inlineL (L : List Src) (k : Int) (n s : List UInt8) : Bool := if k = 1 then looseL L || nonceL L n || hashL L s else if k = 3 ∨ k = 4 then looseL L || (hasL L 7 && hashL L s) else false
def fetchL (L : List Src) (u v : U) (m : Bool) (n : List UInt8) (b : Bool) : Bool := if hasL L 6 then nonceL L n || !b else nonceL L n || urlsL L u v m
def evalL (L : List Src) (k : Int) : Bool := if k = 5 then hasL L 4 else if k = 6 then hasL L 4 || hasL L 5 else false

/-- What is asked of each alone hangs on which are there. -/
theorem any_same {A : Type} {p : A → Bool} {L M : List A} (h : ∀ a, a ∈ L ↔ a ∈ M) : L.any p = M.any p := by
  rw [Bool.eq_iff_iff, List.any_eq_true, List.any_eq_true]
  exact ⟨fun ⟨a, h1, h2⟩ => ⟨a, (h a).1 h1, h2⟩, fun ⟨a, h1, h2⟩ => ⟨a, (h a).2 h1, h2⟩⟩
structure SameL (L M : List Src) : Prop where
  has : ∀ k, hasL L k = hasL M k
  text : ∀ k s, textQ L k s = textQ M k s
  urls : ∀ u v m, urlsL L u v m = urlsL M u v m
theorem SameL.of {L M : List Src} (h : ∀ a, a ∈ L ↔ a ∈ M) : SameL L M := ⟨fun _ => any_same h, fun _ _ => any_same h, fun _ _ _ => any_same h⟩
theorem SameL.inline {L M : List Src} (h : SameL L M) (k : Int) (n s : List UInt8) : inlineL L k n s = inlineL M k n s := by
  unfold inlineL looseL nonceL hashL
  simp only [h.has, h.text]
theorem SameL.fetch {L M : List Src} (h : SameL L M) (u v : U) (m : Bool) (n : List UInt8) (b : Bool) : fetchL L u v m n b = fetchL M u v m n b := by
  unfold fetchL nonceL
  simp only [h.has, h.text, h.urls]
theorem SameL.eval {L M : List Src} (h : SameL L M) (k : Int) : evalL L k = evalL M k := by
  unfold evalL
  simp only [h.has]
theorem mem_turned (L : List Src) (i : Nat) (a : Src) : a ∈ L ↔ a ∈ L.drop i ++ L.take i ++ L := by
  simp only [List.mem_append]
  exact ⟨fun h => .inr h, fun h => by
    rcases h with (h | h) | h
    · exact List.mem_of_mem_drop h
    · exact List.mem_of_mem_take h
    · exact h⟩
/-- One source more. -/
theorem has_more (L : List Src) (s : Src) (k : Int) : hasL (L ++ [s]) k = (hasL L k || decide (s.k = k)) := by simp [hasL]
theorem text_more (L : List Src) (s : Src) (k : Int) (t : List UInt8) : textQ (L ++ [s]) k t = (textQ L k t || (decide (s.k = k) && decide (s.t = t))) := by simp [textQ]
theorem urls_more (L : List Src) (s : Src) (u v : U) (m : Bool) : urlsL (L ++ [s]) u v m = (urlsL L u v m || urlL s u v m) := by simp [urlsL]
theorem more_inline (L : List Src) (s : Src) (h9 : s.k ≠ 9) (h10 : s.k ≠ 10) (h6 : s.k ≠ 6) (k : Int) (n t : List UInt8) (h : inlineL L k n t = true) : inlineL (L ++ [s]) k n t = true := by
  have loose : looseL L = true → looseL (L ++ [s]) = true := by
    intro h
    unfold looseL at *
    simp only [has_more, h9, h10, h6, decide_false, Bool.or_false]
    simp only [Bool.and_eq_true, Bool.or_eq_true] at *
    exact ⟨⟨⟨.inl h.1.1.1, h.1.1.2⟩, h.1.2⟩, h.2⟩
  have nonce : nonceL L n = true → nonceL (L ++ [s]) n = true := by
    intro h
    unfold nonceL at *
    rw [text_more]
    simp only [Bool.and_eq_true, Bool.or_eq_true] at *
    exact ⟨h.1, .inl h.2⟩
  have hash : hashL L t = true → hashL (L ++ [s]) t = true := by
    intro h
    unfold hashL at *
    rw [text_more, h]; rfl
  have has7 : hasL L 7 = true → hasL (L ++ [s]) 7 = true := fun h => by rw [has_more, h]; rfl
  unfold inlineL at *
  split
  · next e =>
    rw [if_pos e] at h
    simp only [Bool.or_eq_true] at *
    rcases h with (h | h) | h
    · exact .inl (.inl (loose h))
    · exact .inl (.inr (nonce h))
    · exact .inr (hash h)
  · next e =>
    rw [if_neg e] at h
    split
    · next e2 =>
      rw [if_pos e2] at h
      simp only [Bool.or_eq_true, Bool.and_eq_true] at *
      rcases h with h | h
      · exact .inl (loose h)
      · exact .inr ⟨has7 h.1, hash h.2⟩
    · next e2 => rw [if_neg e2] at h; cases h
theorem more_fetch (L : List Src) (s : Src) (h6 : s.k ≠ 6) (u v : U) (m : Bool) (n : List UInt8) (b : Bool) (h : fetchL L u v m n b = true) : fetchL (L ++ [s]) u v m n b = true := by
  have nonce : nonceL L n = true → nonceL (L ++ [s]) n = true := by
    intro h
    unfold nonceL at *
    rw [text_more]
    simp only [Bool.and_eq_true, Bool.or_eq_true] at *
    exact ⟨h.1, .inl h.2⟩
  have e6 : hasL (L ++ [s]) 6 = hasL L 6 := by rw [has_more, decide_eq_false h6, Bool.or_false]
  unfold fetchL at *
  rw [e6]
  split
  · next e =>
    rw [if_pos e] at h
    rw [Bool.or_eq_true] at *
    exact h.imp nonce id
  · next e =>
    rw [if_neg e] at h
    rw [Bool.or_eq_true] at *
    exact h.imp nonce fun h => by rw [urls_more, h]; rfl
theorem more_eval (L : List Src) (s : Src) (k : Int) (h : evalL L k = true) : evalL (L ++ [s]) k = true := by
  have has : ∀ k, hasL L k = true → hasL (L ++ [s]) k = true := fun k h => by rw [has_more, h]; rfl
  unfold evalL at *
  split
  · next e => rw [if_pos e] at h; exact has 4 h
  · next e =>
    rw [if_neg e] at h
    split
    · next e2 =>
      rw [if_pos e2] at h
      rw [Bool.or_eq_true] at *
      exact h.imp (has 4) (has 5)
    · next e2 => rw [if_neg e2] at h; cases h
/-- A list of nothing, or of 'none' alone. -/
theorem none_has (L : List Src) (hL : ∀ a ∈ L, a.k = 1) (k : Int) (hk : k ≠ 1) : hasL L k = false := by
  unfold hasL
  rw [List.any_eq_false]
  intro a ha
  rw [hL a ha]
  simpa using fun h : (1 : Int) = k => hk h.symm
theorem none_text (L : List Src) (hL : ∀ a ∈ L, a.k = 1) (k : Int) (hk : k ≠ 1) (s : List UInt8) : textQ L k s = false := by
  unfold textQ
  rw [List.any_eq_false]
  intro a ha
  rw [hL a ha, decide_eq_false (fun h : (1 : Int) = k => hk h.symm)]
  simp
theorem none_urls (L : List Src) (hL : ∀ a ∈ L, a.k = 1) (u v : U) (m : Bool) : urlsL L u v m = false := by
  unfold urlsL
  rw [List.any_eq_false]
  intro a ha
  have e : urlL a u v m = false := by
    unfold urlL
    rw [hL a ha]
    cases rightM u <;> rfl
  rw [e]; decide
theorem none_inline (L : List Src) (hL : ∀ a ∈ L, a.k = 1) (k : Int) (n s : List UInt8) : inlineL L k n s = false := by
  unfold inlineL looseL nonceL hashL
  simp [none_has L hL, none_text L hL]
theorem none_fetch (L : List Src) (hL : ∀ a ∈ L, a.k = 1) (u v : U) (m : Bool) (n : List UInt8) (b : Bool) : fetchL L u v m n b = false := by
  unfold fetchL nonceL
  simp [none_has L hL, none_text L hL, none_urls L hL]
theorem none_eval (L : List Src) (hL : ∀ a ∈ L, a.k = 1) (k : Int) : evalL L k = false := by
  unfold evalL
  simp [none_has L hL]
theorem strict_fetch (a : Src) (ha : a.k = 6) (u v : U) (m : Bool) (n : List UInt8) (b : Bool) : fetchL [a] u v m n b = !b := by
  unfold fetchL nonceL hasL textQ
  simp [ha]
/-- What is let be inline has its witness. -/
theorem witness (L : List Src) (k : Int) (n s : List UInt8) (h : inlineL L k n s = true) : (looseL L || (decide (k = 1) && (!n.isEmpty && textQ L 9 n)) || textQ L 10 (markL s)) = true ∧ (k = 1 ∨ k = 3 ∨ k = 4) := by
  unfold inlineL nonceL hashL at h
  split at h
  · next e =>
    refine ⟨?_, .inl e⟩
    rw [decide_eq_true e, Bool.true_and]
    exact h
  · next e =>
    split at h
    · next e2 =>
      refine ⟨?_, .inr e2⟩
      simp only [Bool.or_eq_true, Bool.and_eq_true] at *
      rcases h with h | h
      · exact .inl (.inl h)
      · exact .inr h.2
    · cases h
/-- A nonce, or a mark, of its own. -/
theorem own_nonce (a : Src) (ha : a.k = 9) (n : List UInt8) (hn : a.t = n) : nonceL [a] n = !n.isEmpty := by
  unfold nonceL textQ
  simp [ha, hn]
theorem no_nonce (L : List Src) : nonceL L [] = false := rfl
theorem own_hash (a : Src) (ha : a.k = 10) (s : List UInt8) (hs : a.t = markL s) : hashL [a] s = true := by
  unfold hashL textQ
  simp [ha, hs]
end Go.Proofs.YtaldjkbnngeahaaGreatDoor
