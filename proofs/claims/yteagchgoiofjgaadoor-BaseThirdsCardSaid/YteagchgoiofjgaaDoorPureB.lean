/- What is decoded; what is encoded is decoded, and the other way round. -/
import Derived.Test.YteagchgoiofjgaaDoorPure
namespace Go.Proofs.YteagchgoiofjgaaDoor

/-- A text without the = that it ends with. -/
def hd (s : List UInt8) : List UInt8 := Lib.trimRightB s 61
def good (h : List UInt8) : Bool := h.all fun c => decide (0 ≤ val c)
def formM (s : List UInt8) : Bool := !(hd s).isEmpty && decide (s.length - (hd s).length ≤ 2) && good (hd s)
def bits6 (h : List UInt8) : List Bool := flat 6 (h.map valN)
def decM (s : List UInt8) : List UInt8 × Bool :=
  if s = [] then ([], true)
  else if formM s = false then ([], false)
  else if (hd s).length < s.length ∧ s.length % 4 ≠ 0 then ([], false)
  else if 6 ≤ (grp 8 (bits6 (hd s))).2.length ∨ num (grp 8 (bits6 (hd s))).2 ≠ 0 then ([], false)
  else ((grp 8 (bits6 (hd s))).1.map Nat.toUInt8, true)

theorem hd_snoc (s : List UInt8) (b : UInt8) : hd (s ++ [b]) = if b = 61 then hd s else s ++ [b] := by
  unfold hd Lib.trimRightB
  rw [List.reverse_append, List.reverse_singleton, List.singleton_append, List.dropWhile_cons]
  by_cases e : b = 61
  · subst e
    rw [if_pos (by rfl), if_pos rfl]
  · rw [if_neg (by simpa using e), if_neg e]
    simp
theorem hd_fill (l : List UInt8) (k : Nat) : hd (l ++ List.replicate k 61) = hd l := by
  induction k with
  | zero => simp
  | succ k ih => rw [List.replicate_succ', ← List.append_assoc, hd_snoc, if_pos rfl, ih]
/-- Nothing that is = stands last. -/
def endless (l : List UInt8) : Prop := ∀ b, l.getLast? = some b → b ≠ 61
theorem hd_endless (l : List UInt8) (h : endless l) : hd l = l := by
  induction l using snoc_ind with
  | h0 => rfl
  | hs l b _ =>
    rw [hd_snoc, if_neg (h b (by simp))]
theorem hd_of (l : List UInt8) (k : Nat) (h : endless l) : hd (l ++ List.replicate k 61) = l := by
  rw [hd_fill, hd_endless l h]
theorem hd_split (s : List UInt8) : ∃ k, s = hd s ++ List.replicate k 61 ∧ endless (hd s) := by
  induction s using snoc_ind with
  | h0 => exact ⟨0, rfl, fun b h => by cases h⟩
  | hs s b ih =>
    rw [hd_snoc]
    by_cases e : b = 61
    · subst e
      obtain ⟨k, h1, h2⟩ := ih
      rw [if_pos rfl]
      refine ⟨k + 1, ?_, h2⟩
      rw [List.replicate_succ', ← List.append_assoc, ← h1]
    · rw [if_neg e]
      exact ⟨0, by simp, fun c h => by simp at h; subst h; exact e⟩
theorem hd_le (s : List UInt8) : (hd s).length ≤ s.length := by
  obtain ⟨k, h, _⟩ := hd_split s
  have := congrArg List.length h
  rw [List.length_append] at this
  omega
theorem good_mem {h : List UInt8} (e : good h = true) : ∀ c ∈ h, 0 ≤ val c := by
  intro c hc
  have := List.all_eq_true.1 e c hc
  simpa using this
theorem good_of {h : List UInt8} (e : ∀ c ∈ h, 0 ≤ val c) : good h = true := List.all_eq_true.2 fun c hc => by simpa using e c hc
theorem good_endless {h : List UInt8} (e : good h = true) : endless h := by
  intro b hb e61
  subst e61
  have := good_mem e 61 (List.mem_of_getLast? hb)
  rw [val_fill] at this
  omega
theorem good_sgn {v : List Nat} (h : ∀ x ∈ v, x < 2 ^ 6) : good (v.map sgn) = true := good_of fun c hc => by
  obtain ⟨x, hx, rfl⟩ := List.mem_map.1 hc
  rw [val_sgn x (h x hx)]; omega
theorem map_valN_sgn {v : List Nat} (h : ∀ x ∈ v, x < 2 ^ 6) : (v.map sgn).map valN = v := by
  rw [List.map_map]
  have : ∀ x ∈ v, (valN ∘ sgn) x = x := fun x hx => by
    show valN (sgn x) = x
    unfold valN
    rw [val_sgn x (h x hx)]; simp
  rw [List.map_congr_left this, List.map_id']
theorem map_sgn_valN {h : List UInt8} (e : good h = true) : (h.map valN).map sgn = h.map plB := by
  rw [List.map_map]
  exact List.map_congr_left fun c hc => sgn_val c (good_mem e c hc)
theorem nat8_back (s : List UInt8) : (nat8 s).map Nat.toUInt8 = s := by
  unfold nat8
  rw [List.map_map]
  have : ∀ x ∈ s, (Nat.toUInt8 ∘ UInt8.toNat) x = x := fun x _ => by simp
  rw [List.map_congr_left this, List.map_id']
theorem nat8_of (m : List Nat) (h : ∀ x ∈ m, x < 2 ^ 8) : nat8 (m.map Nat.toUInt8) = m := by
  unfold nat8
  rw [List.map_map]
  have : ∀ x ∈ m, (UInt8.toNat ∘ Nat.toUInt8) x = x := fun x hx => by have := h x hx; simp; omega
  rw [List.map_congr_left this, List.map_id']
theorem zeros_of (r : List Bool) (h : num r = 0) : r = List.replicate r.length false := by
  induction r using snoc_ind with
  | h0 => rfl
  | hs l b ih =>
    rw [num_snoc] at h
    cases b
    · have : num l = 0 := by simp at h; omega
      rw [List.length_append, List.length_singleton, List.replicate_succ', ← ih this]
    · simp at h
theorem num_zero (k : Nat) : num (List.replicate k false) = 0 := by
  have := num_zeros [] k
  rw [List.nil_append] at this
  rw [this]; simp [num]

theorem hd_encM (s : List UInt8) : hd (encM s) = (encN s).map sgn := by
  obtain ⟨_, h⟩ := enc_spec s
  exact hd_of _ _ (good_endless (good_sgn h))
theorem encM_nil : encM [] = [] := by decide
theorem form_encM (s : List UInt8) : formM (encM s) = decide (s ≠ []) := by
  by_cases e : s = []
  · subst e; decide
  · have h0 : s.length ≠ 0 := fun h => e (List.length_eq_zero_iff.1 h)
    have l1 := enc_length s
    have l2 := encM_length s
    rw [decide_eq_true e]
    unfold formM
    rw [hd_encM, good_sgn (enc_spec s).2, List.length_map]
    have : (encN s).map sgn ≠ [] := fun h => by
      have := congrArg List.length h
      rw [List.length_map, List.length_nil] at this
      omega
    have e1 : ((encN s).map sgn).isEmpty = false := by
      cases h : (encN s).map sgn with
      | nil => exact absurd h this
      | cons => rfl
    rw [e1, decide_eq_true (by omega)]
    rfl
/-- What is encoded is decoded. -/
theorem dec_enc (s : List UInt8) : decM (encM s) = (s, true) := by
  by_cases e : s = []
  · subst e; decide
  · have h0 : s.length ≠ 0 := fun h => e (List.length_eq_zero_iff.1 h)
    have l2 := encM_length s
    have hne : encM s ≠ [] := fun h => by rw [h] at l2; simp at l2; omega
    obtain ⟨⟨k, hk, h1⟩, h2⟩ := enc_spec s
    unfold decM
    rw [if_neg hne, if_neg (by rw [form_encM, decide_eq_true e]; simp), if_neg (by omega), hd_encM]
    have hb : bits6 ((encN s).map sgn) = flat 8 (nat8 s) ++ List.replicate k false := by
      unfold bits6
      rw [map_valN_sgn h2, h1]
    rw [hb, grp_of 8 (by decide) _ _ (nat8_lt s) (by simp; omega)]
    simp only
    rw [if_neg (by rw [num_zero]; simp; omega), nat8_back]
/-- What is decoded, and encoded, is the text with its signs as they are written, and the = that belong there. -/
theorem enc_dec (s u : List UInt8) (h : decM s = (u, true)) : encM u = s.map plB ++ fill s.length := by
  unfold decM at h
  by_cases e : s = []
  · subst e
    rw [if_pos rfl] at h
    cases h
    decide
  · rw [if_neg e] at h
    by_cases hf : formM s = false
    · rw [if_pos hf] at h; cases h
    · rw [if_neg hf] at h
      by_cases hp : (hd s).length < s.length ∧ s.length % 4 ≠ 0
      · rw [if_pos hp] at h; cases h
      · rw [if_neg hp] at h
        obtain ⟨g1, g2, g3⟩ := grp_spec 8 (by decide) (bits6 (hd s))
        generalize grp 8 (bits6 (hd s)) = p at *
        obtain ⟨m, r⟩ := p
        simp only at *
        by_cases hr : 6 ≤ r.length ∨ num r ≠ 0
        · rw [if_pos hr] at h; cases h
        · rw [if_neg hr] at h
          cases h
          have hr1 : r.length < 6 := by omega
          have hr2 : num r = 0 := by omega
          obtain ⟨k, hs, _⟩ := hd_split s
          have hform : formM s = true := by simpa using hf
          unfold formM at hform
          simp only [Bool.and_eq_true, decide_eq_true_eq] at hform
          obtain ⟨⟨_, hk2⟩, hgood⟩ := hform
          have hl := congrArg List.length hs
          rw [List.length_append, List.length_replicate] at hl
          have hn : encN (m.map Nat.toUInt8) = (hd s).map valN := by
            refine enc_of _ _ r.length hr1 (fun x hx => ?_) ?_
            · obtain ⟨c, _, rfl⟩ := List.mem_map.1 hx
              exact valN_lt c
            · rw [nat8_of m g3, ← zeros_of r hr2]
              exact g1
          unfold encM
          rw [hn, map_sgn_valN hgood, List.length_map]
          have hmap : s.map plB = (hd s).map plB ++ List.replicate k 61 := by
            conv => lhs; rw [hs]
            rw [List.map_append, List.map_replicate, plB_fill]
          rw [hmap, List.append_assoc]
          congr 1
          unfold fill
          rw [List.replicate_append_replicate]
          congr 1
          omega
/-- What stands behind a text without at most two =. -/
def Head (s h : List UInt8) : Prop := ∃ k, k ≤ 2 ∧ s = h ++ List.replicate k 61 ∧ (k = 2 ∨ endless h)
theorem head_form {s h : List UInt8} (e : Head s h) : formM s = (!h.isEmpty && good h) := by
  obtain ⟨k, hk, rfl, ho⟩ := e
  by_cases hh : endless h
  · unfold formM
    rw [hd_of h k hh, List.length_append, List.length_replicate, decide_eq_true (by omega)]
    simp
  · have hg : good h = false := by
      cases hg : good h with
      | false => rfl
      | true => exact absurd (good_endless hg) hh
    rw [hg, Bool.and_false]
    obtain rfl : k = 2 := by
      rcases ho with ho | ho
      · exact ho
      · exact absurd ho hh
    unfold formM
    rw [hd_fill]
    obtain ⟨k', h1, h2⟩ := hd_split h
    have hl := congrArg List.length h1
    rw [List.length_append, List.length_replicate] at hl
    have hk' : k' ≠ 0 := fun h0 => by
      subst h0
      simp only [List.replicate_zero, List.append_nil] at h1
      rw [← h1] at h2
      exact hh h2
    rw [decide_eq_false (by rw [List.length_append, List.length_replicate]; omega)]
    simp
theorem head_is {s h : List UInt8} (e : Head s h) (hf : formM s = true) : hd s = h := by
  have := head_form e
  rw [hf] at this
  have hg : good h = true := by
    cases hg : good h with
    | false => rw [hg] at this; simp at this
    | true => rfl
  obtain ⟨k, hk, rfl, ho⟩ := e
  exact hd_of h k (good_endless hg)

theorem form_sgn (x : Nat) (h : x < 64) : formM [sgn x] = true := by
  have : ∀ m : Fin 64, formM [sgn m.val] = true := by decide +kernel
  exact this ⟨x, h⟩
/-- What stands at each place of what is encoded: a sign, or =. -/
theorem encM_at (s : List UInt8) (j : Nat) (b : UInt8) (h : (encM s)[j]? = some b) : (j < (encN s).length ∧ b ≠ 61 ∧ formM [b] = true) ∨ ((encN s).length ≤ j ∧ b = 61) := by
  obtain ⟨_, h2⟩ := enc_spec s
  unfold encM at h
  by_cases hj : j < (encN s).length
  · left
    rw [List.getElem?_append_left (by simpa using hj), List.getElem?_map, List.getElem?_eq_getElem hj] at h
    simp only [Option.map_some, Option.some.injEq] at h
    subst h
    have hx := h2 _ (List.getElem_mem hj)
    exact ⟨hj, sgn_ne _ hx, form_sgn _ hx⟩
  · right
    rw [List.getElem?_append_right (by simpa using hj)] at h
    refine ⟨by omega, ?_⟩
    unfold fill at h
    exact List.eq_of_mem_replicate (List.mem_of_getElem? h)
theorem encM_counts (s : List UInt8) : (encN s).length ≤ (encM s).length ∧ (encM s).length - (encN s).length ≤ 2 ∧ (s.length + ((encM s).length - (encN s).length)) % 3 = 0 := by
  have l1 := enc_length s
  have l2 := encM_length s
  obtain ⟨q, hq⟩ : ∃ q, s.length = 3 * q ∨ s.length = 3 * q + 1 ∨ s.length = 3 * q + 2 := ⟨s.length / 3, by omega⟩
  rcases hq with hq | hq | hq <;> rw [hq] at l1 l2 ⊢ <;> omega

end Go.Proofs.YteagchgoiofjgaaDoor
