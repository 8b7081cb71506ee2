/- Bits as plain mathematics: a number's bits, the number of bits, bits in groups; what is encoded. -/
import Derived.Lib.Bytealg
import Derived.Lib.TrimByte
import Derived.Lib.Repeat
namespace Go.Proofs.YteagchgoiofjgaaDoor

theorem snoc_ind {α : Type} {P : List α → Prop} (h0 : P []) (hs : ∀ l b, P l → P (l ++ [b])) (l : List α) : P l := by
  rw [← l.reverse_reverse]
  generalize l.reverse = r
  induction r with
  | nil => exact h0
  | cons a r ih => rw [List.reverse_cons]; exact hs _ _ ih

/-- The k bits of a number, the greatest first. -/
def bitsN : Nat → Nat → List Bool
  | 0, _ => []
  | k + 1, x => bitsN k (x / 2) ++ [x % 2 == 1]
/-- The number of bits. -/
def num (l : List Bool) : Nat := l.foldl (fun n b => 2 * n + b.toNat) 0
def flat (t : Nat) (l : List Nat) : List Bool := (l.map (bitsN t)).flatten
def stepG (t : Nat) (p : List Nat × List Bool) (b : Bool) : List Nat × List Bool := if p.2.length + 1 = t then (p.1 ++ [num (p.2 ++ [b])], []) else (p.1, p.2 ++ [b])
/-- Bits in groups of t, and what is left. -/
def grp (t : Nat) (bs : List Bool) : List Nat × List Bool := bs.foldl (stepG t) ([], [])

theorem bitsN_length (t x : Nat) : (bitsN t x).length = t := by
  induction t generalizing x with
  | zero => rfl
  | succ k ih => rw [bitsN, List.length_append, ih]; rfl
theorem num_snoc (l : List Bool) (b : Bool) : num (l ++ [b]) = 2 * num l + b.toNat := by simp [num]
theorem num_lt (l : List Bool) : num l < 2 ^ l.length := by
  induction l using snoc_ind with
  | h0 => decide
  | hs l b ih =>
    rw [num_snoc, List.length_append, List.length_singleton, Nat.pow_succ]
    cases b <;> simp <;> omega
theorem num_bitsN (t x : Nat) (h : x < 2 ^ t) : num (bitsN t x) = x := by
  induction t generalizing x with
  | zero =>
    have : x = 0 := by simpa using h
    subst this; rfl
  | succ k ih =>
    rw [Nat.pow_succ] at h
    rw [bitsN, num_snoc, ih (x / 2) (by omega)]
    rcases Nat.mod_two_eq_zero_or_one x with e | e
    · rw [e]; simp; omega
    · rw [e]; simp; omega
theorem bitsN_num (l : List Bool) : bitsN l.length (num l) = l := by
  induction l using snoc_ind with
  | h0 => rfl
  | hs l b ih =>
    rw [List.length_append, List.length_singleton, bitsN, num_snoc]
    cases b
    · have e1 : (2 * num l + false.toNat) / 2 = num l := by simp
      have e2 : ((2 * num l + false.toNat) % 2 == 1) = false := by simp
      rw [e1, e2, ih]
    · have e1 : (2 * num l + true.toNat) / 2 = num l := by simp; omega
      have e2 : ((2 * num l + true.toNat) % 2 == 1) = true := by simp
      rw [e1, e2, ih]
theorem bitsN_get (t x j : Nat) (h : j < t) : (bitsN t x)[j]? = some (x / 2 ^ (t - 1 - j) % 2 == 1) := by
  induction t generalizing x with
  | zero => omega
  | succ k ih =>
    rw [bitsN]
    by_cases hj : j < k
    · rw [List.getElem?_append_left (by rw [bitsN_length]; exact hj), ih (x / 2) hj, Nat.div_div_eq_div_mul]
      have : k + 1 - 1 - j = (k - 1 - j) + 1 := by omega
      rw [this, Nat.pow_succ, Nat.mul_comm]
    · obtain rfl : j = k := by omega
      rw [List.getElem?_append_right (by rw [bitsN_length]; exact Nat.le_refl _), bitsN_length, Nat.sub_self]
      simp
theorem flat_nil (t : Nat) : flat t [] = [] := rfl
theorem flat_append (t : Nat) (a b : List Nat) : flat t (a ++ b) = flat t a ++ flat t b := by simp [flat]
theorem flat_cons (t x : Nat) (a : List Nat) : flat t (x :: a) = bitsN t x ++ flat t a := by simp [flat]
theorem flat_one (t x : Nat) : flat t [x] = bitsN t x := by simp [flat]
theorem flat_length (t : Nat) (a : List Nat) : (flat t a).length = t * a.length := by
  induction a with
  | nil => rfl
  | cons x a ih => rw [flat_cons, List.length_append, bitsN_length, ih, List.length_cons, Nat.mul_succ]; omega
theorem flat_take (t : Nat) (a : List Nat) (k x : Nat) (h : a[k]? = some x) : flat t (a.take (k + 1)) = flat t (a.take k) ++ bitsN t x := by
  rw [List.take_add_one, h]
  simp [flat]

theorem grp_snoc (t : Nat) (bs : List Bool) (b : Bool) : grp t (bs ++ [b]) = stepG t (grp t bs) b := by simp [grp]
theorem fold_less (t : Nat) (m : List Nat) (h b : List Bool) (hl : h.length + b.length < t) : b.foldl (stepG t) (m, h) = (m, h ++ b) := by
  induction b generalizing h with
  | nil => simp
  | cons c b ih =>
    rw [List.length_cons] at hl
    rw [List.foldl_cons]
    have : stepG t (m, h) c = (m, h ++ [c]) := by unfold stepG; rw [if_neg (by simp; omega)]
    rw [this, ih (h ++ [c]) (by simp; omega)]
    simp
theorem fold_one (t : Nat) (m : List Nat) (b : List Bool) (hl : b.length = t) (h0 : 0 < t) : b.foldl (stepG t) (m, []) = (m ++ [num b], []) := by
  induction b using snoc_ind with
  | h0 => simp at hl; omega
  | hs l c _ =>
    rw [List.length_append, List.length_singleton] at hl
    rw [List.foldl_append, fold_less t m [] l (by simp; omega)]
    simp only [List.nil_append, List.foldl_cons, List.foldl_nil]
    unfold stepG
    rw [if_pos hl]
theorem fold_flat (t : Nat) (h0 : 0 < t) (m a : List Nat) (ha : ∀ x ∈ a, x < 2 ^ t) : (flat t a).foldl (stepG t) (m, []) = (m ++ a, []) := by
  induction a generalizing m with
  | nil => simp [flat_nil]
  | cons x a ih =>
    rw [flat_cons, List.foldl_append, fold_one t m _ (bitsN_length t x) h0, num_bitsN t x (ha x (by simp)), ih _ (fun y hy => ha y (by simp [hy]))]
    simp
/-- Groups and what is left are told by the bits. -/
theorem grp_of (t : Nat) (h0 : 0 < t) (m : List Nat) (h : List Bool) (hm : ∀ x ∈ m, x < 2 ^ t) (hl : h.length < t) : grp t (flat t m ++ h) = (m, h) := by
  unfold grp
  rw [List.foldl_append, fold_flat t h0 [] m hm, List.nil_append, fold_less t m [] h (by simpa using hl), List.nil_append]
theorem grp_spec (t : Nat) (h0 : 0 < t) (bs : List Bool) : bs = flat t (grp t bs).1 ++ (grp t bs).2 ∧ (grp t bs).2.length < t ∧ ∀ x ∈ (grp t bs).1, x < 2 ^ t := by
  induction bs using snoc_ind with
  | h0 => exact ⟨rfl, h0, fun x hx => by cases hx⟩
  | hs bs b ih =>
    rw [grp_snoc]
    generalize grp t bs = p at ih
    obtain ⟨m, h⟩ := p
    obtain ⟨h1, h2, h3⟩ := ih
    simp only at h1 h2 h3
    unfold stepG
    by_cases e : h.length + 1 = t
    · have el : (h ++ [b]).length = t := by simpa using e
      rw [if_pos e]
      refine ⟨?_, h0, fun x hx => ?_⟩
      · simp only [List.append_nil]
        rw [flat_append, flat_one, ← el, bitsN_num, el, h1, List.append_assoc]
      · simp only [List.mem_append, List.mem_singleton] at hx
        rcases hx with hx | rfl
        · exact h3 x hx
        · have := num_lt (h ++ [b])
          rw [el] at this
          exact this
    · rw [if_neg e]
      refine ⟨?_, by simp; omega, h3⟩
      simp only
      rw [h1, List.append_assoc]
theorem flat_inj (t : Nat) (h0 : 0 < t) (a b : List Nat) (r s : List Bool) (ha : ∀ x ∈ a, x < 2 ^ t) (hb : ∀ x ∈ b, x < 2 ^ t) (hr : r.length < t) (hs : s.length < t) (e : flat t a ++ r = flat t b ++ s) : a = b ∧ r = s := by
  have h1 := grp_of t h0 a r ha hr
  rw [e, grp_of t h0 b s hb hs] at h1
  cases h1
  exact ⟨rfl, rfl⟩

/-! The signs. -/
def SG : List UInt8 := [65, 66, 67, 68, 69, 70, 71, 72, 73, 74, 75, 76, 77, 78, 79, 80, 81, 82, 83, 84, 85, 86, 87, 88, 89, 90, 97, 98, 99, 100, 101, 102, 103, 104, 105, 106, 107, 108, 109, 110, 111, 112, 113, 114, 115, 116, 117, 118, 119, 120, 121, 122, 48, 49, 50, 51, 52, 53, 54, 55, 56, 57, 43, 47]
def sgn (n : Nat) : UInt8 := SG.getD n 0
/-- A byte as it is written. -/
def plB (c : UInt8) : UInt8 := if c = 45 then 43 else if c = 95 then 47 else c
def val (c : UInt8) : Int := Lib.indexByte SG (plB c)
def valN (c : UInt8) : Nat := (val c).toNat

theorem all_bytes {P : UInt8 → Prop} (h : ∀ n : Fin 256, P (UInt8.ofNat n.val)) (c : UInt8) : P c := by
  have := h ⟨c.toNat, c.toNat_lt⟩
  simpa using this
theorem val_rng (c : UInt8) : -1 ≤ val c ∧ val c ≤ 63 := by
  revert c
  refine all_bytes ?_
  decide +kernel
theorem sgn_val (c : UInt8) : 0 ≤ val c → sgn (valN c) = plB c := by
  revert c
  refine all_bytes ?_
  decide +kernel
theorem val_sgn (n : Nat) (h : n < 64) : val (sgn n) = n := by
  have : ∀ m : Fin 64, val (sgn m.val) = (m.val : Int) := by decide +kernel
  exact this ⟨n, h⟩
theorem sgn_ne (n : Nat) (h : n < 64) : sgn n ≠ 61 := by
  have : ∀ m : Fin 64, sgn m.val ≠ 61 := by decide +kernel
  exact this ⟨n, h⟩
theorem val_fill : val 61 = -1 := by decide +kernel
theorem valN_lt (c : UInt8) : valN c < 64 := by have := val_rng c; unfold valN; omega
theorem valN_int {c : UInt8} (h : 0 ≤ val c) : (valN c : Int) = val c := by unfold valN; omega
theorem plB_id {c : UInt8} (h : c ≠ 45) (h2 : c ≠ 95) : plB c = c := by unfold plB; rw [if_neg h, if_neg h2]
theorem plB_sgn (n : Nat) (h : n < 64) : plB (sgn n) = sgn n := by
  have : ∀ m : Fin 64, plB (sgn m.val) = sgn m.val := by decide +kernel
  exact this ⟨n, h⟩
theorem plB_fill : plB 61 = 61 := by decide

/-! What is encoded. -/
def nat8 (s : List UInt8) : List Nat := s.map UInt8.toNat
def encN (s : List UInt8) : List Nat :=
  (grp 6 (flat 8 (nat8 s))).1 ++ (if (grp 6 (flat 8 (nat8 s))).2.length = 0 then [] else [num (grp 6 (flat 8 (nat8 s))).2 * 2 ^ (6 - (grp 6 (flat 8 (nat8 s))).2.length)])
def fill (n : Nat) : List UInt8 := List.replicate ((4 - n % 4) % 4) 61
def encM (s : List UInt8) : List UInt8 := (encN s).map sgn ++ fill (encN s).length

theorem nat8_lt (s : List UInt8) : ∀ x ∈ nat8 s, x < 2 ^ 8 := by
  intro x hx
  obtain ⟨b, _, rfl⟩ := List.mem_map.1 hx
  exact b.toNat_lt
theorem num_zeros (l : List Bool) (k : Nat) : num (l ++ List.replicate k false) = num l * 2 ^ k := by
  induction k with
  | zero => simp
  | succ k ih =>
    rw [List.replicate_succ', ← List.append_assoc, num_snoc, ih, Nat.pow_succ]
    simp only [Bool.toNat_false, Nat.add_zero]
    rw [Nat.mul_comm 2, Nat.mul_assoc]
theorem enc_spec (s : List UInt8) : (∃ k, k < 6 ∧ flat 6 (encN s) = flat 8 (nat8 s) ++ List.replicate k false) ∧ ∀ x ∈ encN s, x < 2 ^ 6 := by
  obtain ⟨h1, h2, h3⟩ := grp_spec 6 (by decide) (flat 8 (nat8 s))
  unfold encN
  generalize grp 6 (flat 8 (nat8 s)) = p at *
  obtain ⟨m, h⟩ := p
  simp only at *
  by_cases e : h.length = 0
  · rw [if_pos e, List.append_nil]
    have : h = [] := List.length_eq_zero_iff.1 e
    subst this
    exact ⟨⟨0, by decide, by rw [h1]; simp⟩, h3⟩
  · rw [if_neg e]
    have el : (h ++ List.replicate (6 - h.length) false).length = 6 := by simp; omega
    have eb : bitsN 6 (num h * 2 ^ (6 - h.length)) = h ++ List.replicate (6 - h.length) false := by
      rw [← num_zeros]
      have := bitsN_num (h ++ List.replicate (6 - h.length) false)
      rw [el] at this
      exact this
    refine ⟨⟨6 - h.length, by omega, ?_⟩, fun x hx => ?_⟩
    · rw [flat_append, flat_one, eb, h1, List.append_assoc]
    · simp only [List.mem_append, List.mem_singleton] at hx
      rcases hx with hx | rfl
      · exact h3 x hx
      · rw [← num_zeros]
        have := num_lt (h ++ List.replicate (6 - h.length) false)
        rw [el] at this
        exact this
/-- Numbers whose bits are those of a text, with fewer than six 0 behind them, are those that it is encoded as. -/
theorem enc_of (s : List UInt8) (v : List Nat) (k : Nat) (hk : k < 6) (hv : ∀ x ∈ v, x < 2 ^ 6) (e : flat 6 v = flat 8 (nat8 s) ++ List.replicate k false) : encN s = v := by
  obtain ⟨⟨k', hk', h1⟩, h2⟩ := enc_spec s
  have l1 := congrArg List.length e
  have l2 := congrArg List.length h1
  rw [List.length_append, List.length_replicate, flat_length] at l1 l2
  obtain rfl : k = k' := by omega
  rw [← e] at h1
  have := flat_inj 6 (by decide) (encN s) v [] [] h2 hv (by decide) (by decide) (by rw [h1])
  exact this.1
theorem enc_length (s : List UInt8) : (encN s).length = (8 * s.length + 5) / 6 := by
  obtain ⟨⟨k, hk, h1⟩, _⟩ := enc_spec s
  have l2 := congrArg List.length h1
  rw [List.length_append, List.length_replicate, flat_length, flat_length] at l2
  simp only [nat8, List.length_map] at l2
  omega
theorem fill_length (n : Nat) : (fill n).length = (4 - n % 4) % 4 := by simp [fill]
theorem encM_length (s : List UInt8) : (encM s).length = (s.length + 2) / 3 * 4 := by
  unfold encM
  rw [List.length_append, List.length_map, fill_length, enc_length]
  omega
theorem enc_thirds (a b : List UInt8) (h : a.length % 3 = 0) : encN (a ++ b) = encN a ++ encN b := by
  obtain ⟨⟨k, hk, h1⟩, h2⟩ := enc_spec a
  obtain ⟨⟨k', hk', h3⟩, h4⟩ := enc_spec b
  have l1 := congrArg List.length h1
  rw [List.length_append, List.length_replicate, flat_length, flat_length] at l1
  simp only [nat8, List.length_map] at l1
  obtain rfl : k = 0 := by omega
  refine enc_of _ _ k' hk' (fun x hx => ?_) ?_
  · rw [List.mem_append] at hx
    rcases hx with hx | hx
    · exact h2 x hx
    · exact h4 x hx
  · rw [flat_append, h1, h3]
    simp [nat8, flat]
theorem encM_thirds (a b : List UInt8) (h : a.length % 3 = 0) : encM (a ++ b) = encM a ++ encM b := by
  have e := enc_thirds a b h
  have l := enc_length a
  have hf : fill (encN a).length = [] := by
    unfold fill
    rw [l]
    have : (4 - (8 * a.length + 5) / 6 % 4) % 4 = 0 := by omega
    rw [this]; rfl
  have hl : ((encN a).length + (encN b).length) % 4 = (encN b).length % 4 := by rw [l]; omega
  unfold encM
  rw [e, hf, List.map_append, List.length_append, List.append_nil, List.append_assoc]
  unfold fill
  rw [hl]

end Go.Proofs.YteagchgoiofjgaaDoor
