/- Bits as plain mathematics: a number's bits, the number of bits, bits in groups; what is encoded. What is decoded; what is encoded is decoded, and the other way round. The plain mathematics of source: sources, their words and what is parsed, over lists of bytes; a source's word is parsed as it. The plain mathematics of the program's Parse of a source: what is cut off a word, and that it is the source that the word tells. A source's word is short. The plain mathematics of origin: where an address comes from, over lists of bytes. -/
import Derived.Lib.Bytealg
import Derived.Lib.TrimByte
import Derived.Lib.Repeat
import Derived.Test.YtpmnpaopkncphaaGreatDoorPureA
namespace Go.Proofs.YtpmnpaopkncphaaGreatDoor

theorem snoc_ind {α : Type} {P : List α → Prop} (h0 : P []) (hs : ∀ l b, P l → P (l ++ [b])) (l : List α) : P l := by
  rw [← l.reverse_reverse]
  generalize l.reverse = r
  induction r with
  | nil => exact h0
  | cons a r ih => rw [List.reverse_cons]; exact hs _ _ ih

/-- The k bits of a number, the greatest first. -/
def bitsN : Nat → Nat → List Bool
  | 0, _ => []
  | k + 1, x => bitsN k (x / 2) ++ [x % 2 == 1]
/-- The number of bits. -/
def num (l : List Bool) : Nat := l.foldl (fun n b => 2 * n + b.toNat) 0
def flat (t : Nat) (l : List Nat) : List Bool := (l.map (bitsN t)).flatten
def stepG (t : Nat) (p : List Nat × List Bool) (b : Bool) : List Nat × List Bool := if p.2.length + 1 = t then (p.1 ++ [num (p.2 ++ [b])], []) else (p.1, p.2 ++ [b])
/-- Bits in groups of t, and what is left. -/
def grp (t : Nat) (bs : List Bool) : List Nat × List Bool := bs.foldl (stepG t) ([], [])

theorem bitsN_length (t x : Nat) : (bitsN t x).length = t := by
  induction t generalizing x with
  | zero => rfl
  | succ k ih => rw [bitsN, List.length_append, ih]; rfl
theorem num_snoc (l : List Bool) (b : Bool) : num (l ++ [b]) = 2 * num l + b.toNat := by simp [num]
theorem num_lt (l : List Bool) : num l < 2 ^ l.length := by
  induction l using snoc_ind with
  | h0 => decide
  | hs l b ih =>
    rw [num_snoc, List.length_append, List.length_singleton, Nat.pow_succ]
    cases b <;> simp <;> omega
theorem num_bitsN (t x : Nat) (h : x < 2 ^ t) : num (bitsN t x) = x := by
  induction t generalizing x with
  | zero =>
    have : x = 0 := by simpa using h
    subst this; rfl
  | succ k ih =>
    rw [Nat.pow_succ] at h
    rw [bitsN, num_snoc, ih (x / 2) (by omega)]
    rcases Nat.mod_two_eq_zero_or_one x with e | e
    · rw [e]; simp; omega
    · rw [e]; simp; omega
theorem bitsN_num (l : List Bool) : bitsN l.length (num l) = l := by
  induction l using snoc_ind with
  | h0 => rfl
  | hs l b ih =>
    rw [List.length_append, List.length_singleton, bitsN, num_snoc]
    cases b
    · have e1 : (2 * num l + false.toNat) / 2 = num l := by simp
      have e2 : ((2 * num l + false.toNat) % 2 == 1) = false := by simp
      rw [e1, e2, ih]
    · have e1 : (2 * num l + true.toNat) / 2 = num l := by simp; omega
      have e2 : ((2 * num l + true.toNat) % 2 == 1) = true := by simp
      rw [e1, e2, ih]
theorem bitsN_get (t x j : Nat) (h : j < t) : (bitsN t x)[j]? = some (x / 2 ^ (t - 1 - j) % 2 == 1) := by
  induction t generalizing x with
  | zero => omega
  | succ k ih =>
    rw [bitsN]
    by_cases hj : j < k
    · rw [List.getElem?_append_left (by rw [bitsN_length]; exact hj), ih (x / 2) hj, Nat.div_div_eq_div_mul]
      have : k + 1 - 1 - j = (k - 1 - j) + 1 := by omega
      rw [this, Nat.pow_succ, Nat.mul_comm]
    · obtain rfl : j = k := by omega
      rw [List.getElem?_append_right (by rw [bitsN_length]; exact Nat.le_refl _), bitsN_length, Nat.sub_self]
      simp
theorem flat_nil (t : Nat) : flat t [] = [] := rfl
theorem flat_append (t : Nat) (a b : List Nat) : flat t (a ++ b) = flat t a ++ flat t b := by simp [flat]
theorem flat_cons (t x : Nat) (a : List Nat) : flat t (x :: a) = bitsN t x ++ flat t a := by simp [flat]
theorem flat_one (t x : Nat) : flat t [x] = bitsN t x := by simp [flat]
theorem flat_length (t : Nat) (a : List Nat) : (flat t a).length = t * a.length := by
  induction a with
  | nil => rfl
  | cons x a ih => rw [flat_cons, List.length_append, bitsN_length, ih, List.length_cons, Nat.mul_succ]; omega
theorem flat_take (t : Nat) (a : List Nat) (k x : Nat) (h : a[k]? = some x) : flat t (a.take (k + 1)) = flat t (a.take k) ++ bitsN t x := by
  rw [List.take_add_one, h]
  simp [flat]

theorem grp_snoc (t : Nat) (bs : List Bool) (b : Bool) : grp t (bs ++ [b]) = stepG t (grp t bs) b := by simp [grp]
theorem fold_less (t : Nat) (m : List Nat) (h b : List Bool) (hl : h.length + b.length < t) : b.foldl (stepG t) (m, h) = (m, h ++ b) := by
  induction b generalizing h with
  | nil => simp
  | cons c b ih =>
    rw [List.length_cons] at hl
    rw [List.foldl_cons]
    have : stepG t (m, h) c = (m, h ++ [c]) := by unfold stepG; rw [if_neg (by simp; omega)]
    rw [this, ih (h ++ [c]) (by simp; omega)]
    simp
theorem fold_one (t : Nat) (m : List Nat) (b : List Bool) (hl : b.length = t) (h0 : 0 < t) : b.foldl (stepG t) (m, []) = (m ++ [num b], []) := by
  induction b using snoc_ind with
  | h0 => simp at hl; omega
  | hs l c _ =>
    rw [List.length_append, List.length_singleton] at hl
    rw [List.foldl_append, fold_less t m [] l (by simp; omega)]
    simp only [List.nil_append, List.foldl_cons, List.foldl_nil]
    unfold stepG
    rw [if_pos hl]
theorem fold_flat (t : Nat) (h0 : 0 < t) (m a : List Nat) (ha : ∀ x ∈ a, x < 2 ^ t) : (flat t a).foldl (stepG t) (m, []) = (m ++ a, []) := by
  induction a generalizing m with
  | nil => simp [flat_nil]
  | cons x a ih =>
    rw [flat_cons, List.foldl_append, fold_one t m _ (bitsN_length t x) h0, num_bitsN t x (ha x (by simp)), ih _ (fun y hy => ha y (by simp [hy]))]
    simp
/-- Groups and what is left are told by the bits. -/
theorem grp_of (t : Nat) (h0 : 0 < t) (m : List Nat) (h : List Bool) (hm : ∀ x ∈ m, x < 2 ^ t) (hl : h.length < t) : grp t (flat t m ++ h) = (m, h) := by
  unfold grp
  rw [List.foldl_append, fold_flat t h0 [] m hm, List.nil_append, fold_less t m [] h (by simpa using hl), List.nil_append]
theorem grp_spec (t : Nat) (h0 : 0 < t) (bs : List Bool) : bs = flat t (grp t bs).1 ++ (grp t bs).2 ∧ (grp t bs).2.length < t ∧ ∀ x ∈ (grp t bs).1, x < 2 ^ t := by
  induction bs using snoc_ind with
  | h0 => exact ⟨rfl, h0, fun x hx => by cases hx⟩
  | hs bs b ih =>
    rw [grp_snoc]
    generalize grp t bs = p at ih
    obtain ⟨m, h⟩ := p
    obtain ⟨h1, h2, h3⟩ := ih
    simp only at h1 h2 h3
    unfold stepG
    by_cases e : h.length + 1 = t
    · have el : (h ++ [b]).length = t := by simpa using e
      rw [if_pos e]
      refine ⟨?_, h0, fun x hx => ?_⟩
      · simp only [List.append_nil]
        rw [flat_append, flat_one, ← el, bitsN_num, el, h1, List.append_assoc]
      · simp only [List.mem_append, List.mem_singleton] at hx
        rcases hx with hx | rfl
        · exact h3 x hx
        · have := num_lt (h ++ [b])
          rw [el] at this
          exact this
    · rw [if_neg e]
      refine ⟨?_, by simp; omega, h3⟩
      simp only
      rw [h1, List.append_assoc]
theorem flat_inj (t : Nat) (h0 : 0 < t) (a b : List Nat) (r s : List Bool) (ha : ∀ x ∈ a, x < 2 ^ t) (hb : ∀ x ∈ b, x < 2 ^ t) (hr : r.length < t) (hs : s.length < t) (e : flat t a ++ r = flat t b ++ s) : a = b ∧ r = s := by
  have h1 := grp_of t h0 a r ha hr
  rw [e, grp_of t h0 b s hb hs] at h1
  cases h1
  exact ⟨rfl, rfl⟩

/-! The signs. -/
def SG : List UInt8 := [65, 66, 67, 68, 69, 70, 71, 72, 73, 74, 75, 76, 77, 78, 79, 80, 81, 82, 83, 84, 85, 86, 87, 88, 89, 90, 97, 98, 99, 100, 101, 102, 103, 104, 105, 106, 107, 108, 109, 110, 111, 112, 113, 114, 115, 116, 117, 118, 119, 120, 121, 122, 48, 49, 50, 51, 52, 53, 54, 55, 56, 57, 43, 47]
def sgn (n : Nat) : UInt8 := SG.getD n 0
/-- A byte as it is written. -/
def plB (c : UInt8) : UInt8 := if c = 45 then 43 else if c = 95 then 47 else c
def val (c : UInt8) : Int := Lib.indexByte SG (plB c)
def valN (c : UInt8) : Nat := (val c).toNat

theorem all_bytes {P : UInt8 → Prop} (h : ∀ n : Fin 256, P (UInt8.ofNat n.val)) (c : UInt8) : P c := by
  have := h ⟨c.toNat, c.toNat_lt⟩
  simpa using this
theorem val_rng (c : UInt8) : -1 ≤ val c ∧ val c ≤ 63 := by
  revert c
  refine all_bytes ?_
  decide +kernel
theorem sgn_val (c : UInt8) : 0 ≤ val c → sgn (valN c) = plB c := by
  revert c
  refine all_bytes ?_
  decide +kernel
theorem val_sgn (n : Nat) (h : n < 64) : val (sgn n) = n := by
  have : ∀ m : Fin 64, val (sgn m.val) = (m.val : Int) := by decide +kernel
  exact this ⟨n, h⟩
theorem sgn_ne (n : Nat) (h : n < 64) : sgn n ≠ 61 := by
  have : ∀ m : Fin 64, sgn m.val ≠ 61 := by decide +kernel
  exact this ⟨n, h⟩
theorem val_fill : val 61 = -1 := by decide +kernel
theorem valN_lt (c : UInt8) : valN c < 64 := by have := val_rng c; unfold valN; omega
theorem valN_int {c : UInt8} (h : 0 ≤ val c) : (valN c : Int) = val c := by unfold valN; omega
theorem plB_id {c : UInt8} (h : c ≠ 45) (h2 : c ≠ 95) : plB c = c := by unfold plB; rw [if_neg h, if_neg h2]
theorem plB_sgn (n : Nat) (h : n < 64) : plB (sgn n) = sgn n := by
  have : ∀ m : Fin 64, plB (sgn m.val) = sgn m.val := by decide +kernel
  exact this ⟨n, h⟩
theorem plB_fill : plB 61 = 61 := by decide

/-! What is encoded. -/
def nat8 (s : List UInt8) : List Nat := s.map UInt8.toNat
def encN (s : List UInt8) : List Nat :=
  (grp 6 (flat 8 (nat8 s))).1 ++ (if (grp 6 (flat 8 (nat8 s))).2.length = 0 then [] else [num (grp 6 (flat 8 (nat8 s))).2 * 2 ^ (6 - (grp 6 (flat 8 (nat8 s))).2.length)])
def fill (n : Nat) : List UInt8 := List.replicate ((4 - n % 4) % 4) 61
def encM (s : List UInt8) : List UInt8 := (encN s).map sgn ++ fill (encN s).length

theorem nat8_lt (s : List UInt8) : ∀ x ∈ nat8 s, x < 2 ^ 8 := by
  intro x hx
  obtain ⟨b, _, rfl⟩ := List.mem_map.1 hx
  exact b.toNat_lt
theorem num_zeros (l : List Bool) (k : Nat) : num (l ++ List.replicate k false) = num l * 2 ^ k := by
  induction k with
  | zero => simp
  | succ k ih =>
    rw [List.replicate_succ', ← List.append_assoc, num_snoc, ih, Nat.pow_succ]
    simp only [Bool.toNat_false, Nat.add_zero]
    rw [Nat.mul_comm 2, Nat.mul_assoc]
theorem enc_spec (s : List UInt8) : (∃ k, k < 6 ∧ flat 6 (encN s) = flat 8 (nat8 s) ++ List.replicate k false) ∧ ∀ x ∈ encN s, x < 2 ^ 6 := by
  obtain ⟨h1, h2, h3⟩ := grp_spec 6 (by decide) (flat 8 (nat8 s))
  unfold encN
  generalize grp 6 (flat 8 (nat8 s)) = p at *
  obtain ⟨m, h⟩ := p
  simp only at *
  by_cases e : h.length = 0
  · rw [if_pos e, List.append_nil]
    have : h = [] := List.length_eq_zero_iff.1 e
    subst this
    exact ⟨⟨0, by decide, by rw [h1]; simp⟩, h3⟩
  · rw [if_neg e]
    have el : (h ++ List.replicate (6 - h.length) false).length = 6 := by simp; omega
    have eb : bitsN 6 (num h * 2 ^ (6 - h.length)) = h ++ List.replicate (6 - h.length) false := by
      rw [← num_zeros]
      have := bitsN_num (h ++ List.replicate (6 - h.length) false)
      rw [el] at this
      exact this
    refine ⟨⟨6 - h.length, by omega, ?_⟩, fun x hx => ?_⟩
    · rw [flat_append, flat_one, eb, h1, List.append_assoc]
    · simp only [List.mem_append, List.mem_singleton] at hx
      rcases hx with hx | rfl
      · exact h3 x hx
      · rw [← num_zeros]
        have := num_lt (h ++ List.replicate (6 - h.length) false)
        rw [el] at this
        exact this
/-- Numbers whose bits are those of a text, with fewer than six 0 behind them, are those that it is encoded as. -/
theorem encN_of (s : List UInt8) (v : List Nat) (k : Nat) (hk : k < 6) (hv : ∀ x ∈ v, x < 2 ^ 6) (e : flat 6 v = flat 8 (nat8 s) ++ List.replicate k false) : encN s = v := by
  obtain ⟨⟨k', hk', h1⟩, h2⟩ := enc_spec s
  have l1 := congrArg List.length e
  have l2 := congrArg List.length h1
  rw [List.length_append, List.length_replicate, flat_length] at l1 l2
  obtain rfl : k = k' := by omega
  rw [← e] at h1
  have := flat_inj 6 (by decide) (encN s) v [] [] h2 hv (by decide) (by decide) (by rw [h1])
  exact this.1
theorem enc_length (s : List UInt8) : (encN s).length = (8 * s.length + 5) / 6 := by
  obtain ⟨⟨k, hk, h1⟩, _⟩ := enc_spec s
  have l2 := congrArg List.length h1
  rw [List.length_append, List.length_replicate, flat_length, flat_length] at l2
  simp only [nat8, List.length_map] at l2
  omega
theorem fill_length (n : Nat) : (fill n).length = (4 - n % 4) % 4 := by simp [fill]
theorem encM_length (s : List UInt8) : (encM s).length = (s.length + 2) / 3 * 4 := by
  unfold encM
  rw [List.length_append, List.length_map, fill_length, enc_length]
  omega
theorem enc_thirds (a b : List UInt8) (h : a.length % 3 = 0) : encN (a ++ b) = encN a ++ encN b := by
  obtain ⟨⟨k, hk, h1⟩, h2⟩ := enc_spec a
  obtain ⟨⟨k', hk', h3⟩, h4⟩ := enc_spec b
  have l1 := congrArg List.length h1
  rw [List.length_append, List.length_replicate, flat_length, flat_length] at l1
  simp only [nat8, List.length_map] at l1
  obtain rfl : k = 0 := by omega
  refine encN_of _ _ k' hk' (fun x hx => ?_) ?_
  · rw [List.mem_append] at hx
    rcases hx with hx | hx
    · exact h2 x hx
    · exact h4 x hx
  · rw [flat_append, h1, h3]
    simp [nat8, flat]
theorem encM_thirds (a b : List UInt8) (h : a.length % 3 = 0) : encM (a ++ b) = encM a ++ encM b := by
  have e := enc_thirds a b h
  have l := enc_length a
  have hf : fill (encN a).length = [] := by
    unfold fill
    rw [l]
    have : (4 - (8 * a.length + 5) / 6 % 4) % 4 = 0 := by omega
    rw [this]; rfl
  have hl : ((encN a).length + (encN b).length) % 4 = (encN b).length % 4 := by rw [l]; omega
  unfold encM
  rw [e, hf, List.map_append, List.length_append, List.append_nil, List.append_assoc]
  unfold fill
  rw [hl]

end Go.Proofs.YtpmnpaopkncphaaGreatDoor

namespace Go.Proofs.YtpmnpaopkncphaaGreatDoor

/-- A text without the = that it ends with. -/
def hd (s : List UInt8) : List UInt8 := Lib.trimRightB s 61
def good (h : List UInt8) : Bool := h.all fun c => decide (0 ≤ val c)
def formM (s : List UInt8) : Bool := !(hd s).isEmpty && decide (s.length - (hd s).length ≤ 2) && good (hd s)
def bits6 (h : List UInt8) : List Bool := flat 6 (h.map valN)
def decM (s : List UInt8) : List UInt8 × Bool :=
  if s = [] then ([], true)
  else if formM s = false then ([], false)
  else if (hd s).length < s.length ∧ s.length % 4 ≠ 0 then ([], false)
  else if 6 ≤ (grp 8 (bits6 (hd s))).2.length ∨ num (grp 8 (bits6 (hd s))).2 ≠ 0 then ([], false)
  else ((grp 8 (bits6 (hd s))).1.map Nat.toUInt8, true)

theorem hd_snoc (s : List UInt8) (b : UInt8) : hd (s ++ [b]) = if b = 61 then hd s else s ++ [b] := by
  unfold hd Lib.trimRightB
  rw [List.reverse_append, List.reverse_singleton, List.singleton_append, List.dropWhile_cons]
  by_cases e : b = 61
  · subst e
    rw [if_pos (by rfl), if_pos rfl]
  · rw [if_neg (by simpa using e), if_neg e]
    simp
theorem hd_fill (l : List UInt8) (k : Nat) : hd (l ++ List.replicate k 61) = hd l := by
  induction k with
  | zero => simp
  | succ k ih => rw [List.replicate_succ', ← List.append_assoc, hd_snoc, if_pos rfl, ih]
/-- Nothing that is = stands last. -/
def endless (l : List UInt8) : Prop := ∀ b, l.getLast? = some b → b ≠ 61
theorem hd_endless (l : List UInt8) (h : endless l) : hd l = l := by
  induction l using snoc_ind with
  | h0 => rfl
  | hs l b _ =>
    rw [hd_snoc, if_neg (h b (by simp))]
theorem hd_of (l : List UInt8) (k : Nat) (h : endless l) : hd (l ++ List.replicate k 61) = l := by
  rw [hd_fill, hd_endless l h]
theorem hd_split (s : List UInt8) : ∃ k, s = hd s ++ List.replicate k 61 ∧ endless (hd s) := by
  induction s using snoc_ind with
  | h0 => exact ⟨0, rfl, fun b h => by cases h⟩
  | hs s b ih =>
    rw [hd_snoc]
    by_cases e : b = 61
    · subst e
      obtain ⟨k, h1, h2⟩ := ih
      rw [if_pos rfl]
      refine ⟨k + 1, ?_, h2⟩
      rw [List.replicate_succ', ← List.append_assoc, ← h1]
    · rw [if_neg e]
      exact ⟨0, by simp, fun c h => by simp at h; subst h; exact e⟩
theorem hd_le (s : List UInt8) : (hd s).length ≤ s.length := by
  obtain ⟨k, h, _⟩ := hd_split s
  have := congrArg List.length h
  rw [List.length_append] at this
  omega
theorem good_mem {h : List UInt8} (e : good h = true) : ∀ c ∈ h, 0 ≤ val c := by
  intro c hc
  have := List.all_eq_true.1 e c hc
  simpa using this
theorem good_of {h : List UInt8} (e : ∀ c ∈ h, 0 ≤ val c) : good h = true := List.all_eq_true.2 fun c hc => by simpa using e c hc
theorem good_endless {h : List UInt8} (e : good h = true) : endless h := by
  intro b hb e61
  subst e61
  have := good_mem e 61 (List.mem_of_getLast? hb)
  rw [val_fill] at this
  omega
theorem good_sgn {v : List Nat} (h : ∀ x ∈ v, x < 2 ^ 6) : good (v.map sgn) = true := good_of fun c hc => by
  obtain ⟨x, hx, rfl⟩ := List.mem_map.1 hc
  rw [val_sgn x (h x hx)]; omega
theorem map_valN_sgn {v : List Nat} (h : ∀ x ∈ v, x < 2 ^ 6) : (v.map sgn).map valN = v := by
  rw [List.map_map]
  have : ∀ x ∈ v, (valN ∘ sgn) x = x := fun x hx => by
    show valN (sgn x) = x
    unfold valN
    rw [val_sgn x (h x hx)]; simp
  rw [List.map_congr_left this, List.map_id']
theorem map_sgn_valN {h : List UInt8} (e : good h = true) : (h.map valN).map sgn = h.map plB := by
  rw [List.map_map]
  exact List.map_congr_left fun c hc => sgn_val c (good_mem e c hc)
theorem nat8_back (s : List UInt8) : (nat8 s).map Nat.toUInt8 = s := by
  unfold nat8
  rw [List.map_map]
  have : ∀ x ∈ s, (Nat.toUInt8 ∘ UInt8.toNat) x = x := fun x _ => by simp
  rw [List.map_congr_left this, List.map_id']
theorem nat8_of (m : List Nat) (h : ∀ x ∈ m, x < 2 ^ 8) : nat8 (m.map Nat.toUInt8) = m := by
  unfold nat8
  rw [List.map_map]
  have : ∀ x ∈ m, (UInt8.toNat ∘ Nat.toUInt8) x = x := fun x hx => by have := h x hx; simp; omega
  rw [List.map_congr_left this, List.map_id']
theorem zeros_of (r : List Bool) (h : num r = 0) : r = List.replicate r.length false := by
  induction r using snoc_ind with
  | h0 => rfl
  | hs l b ih =>
    rw [num_snoc] at h
    cases b
    · have : num l = 0 := by simp at h; omega
      rw [List.length_append, List.length_singleton, List.replicate_succ', ← ih this]
    · simp at h
theorem num_zero (k : Nat) : num (List.replicate k false) = 0 := by
  have := num_zeros [] k
  rw [List.nil_append] at this
  rw [this]; simp [num]

theorem hd_encM (s : List UInt8) : hd (encM s) = (encN s).map sgn := by
  obtain ⟨_, h⟩ := enc_spec s
  exact hd_of _ _ (good_endless (good_sgn h))
theorem encM_nil : encM [] = [] := by decide
theorem form_encM (s : List UInt8) : formM (encM s) = decide (s ≠ []) := by
  by_cases e : s = []
  · subst e; decide
  · have h0 : s.length ≠ 0 := fun h => e (List.length_eq_zero_iff.1 h)
    have l1 := enc_length s
    have l2 := encM_length s
    rw [decide_eq_true e]
    unfold formM
    rw [hd_encM, good_sgn (enc_spec s).2, List.length_map]
    have : (encN s).map sgn ≠ [] := fun h => by
      have := congrArg List.length h
      rw [List.length_map, List.length_nil] at this
      omega
    have e1 : ((encN s).map sgn).isEmpty = false := by
      cases h : (encN s).map sgn with
      | nil => exact absurd h this
      | cons => rfl
    rw [e1, decide_eq_true (by omega)]
    rfl
/-- What is encoded is decoded. -/
theorem dec_enc (s : List UInt8) : decM (encM s) = (s, true) := by
  by_cases e : s = []
  · subst e; decide
  · have h0 : s.length ≠ 0 := fun h => e (List.length_eq_zero_iff.1 h)
    have l2 := encM_length s
    have hne : encM s ≠ [] := fun h => by rw [h] at l2; simp at l2; omega
    obtain ⟨⟨k, hk, h1⟩, h2⟩ := enc_spec s
    unfold decM
    rw [if_neg hne, if_neg (by rw [form_encM, decide_eq_true e]; simp), if_neg (by omega), hd_encM]
    have hb : bits6 ((encN s).map sgn) = flat 8 (nat8 s) ++ List.replicate k false := by
      unfold bits6
      rw [map_valN_sgn h2, h1]
    rw [hb, grp_of 8 (by decide) _ _ (nat8_lt s) (by simp; omega)]
    simp only
    rw [if_neg (by rw [num_zero]; simp; omega), nat8_back]
/-- What is decoded, and encoded, is the text with its signs as they are written, and the = that belong there. -/
theorem enc_dec (s u : List UInt8) (h : decM s = (u, true)) : encM u = s.map plB ++ fill s.length := by
  unfold decM at h
  by_cases e : s = []
  · subst e
    rw [if_pos rfl] at h
    cases h
    decide
  · rw [if_neg e] at h
    by_cases hf : formM s = false
    · rw [if_pos hf] at h; cases h
    · rw [if_neg hf] at h
      by_cases hp : (hd s).length < s.length ∧ s.length % 4 ≠ 0
      · rw [if_pos hp] at h; cases h
      · rw [if_neg hp] at h
        obtain ⟨g1, g2, g3⟩ := grp_spec 8 (by decide) (bits6 (hd s))
        generalize grp 8 (bits6 (hd s)) = p at *
        obtain ⟨m, r⟩ := p
        simp only at *
        by_cases hr : 6 ≤ r.length ∨ num r ≠ 0
        · rw [if_pos hr] at h; cases h
        · rw [if_neg hr] at h
          cases h
          have hr1 : r.length < 6 := by omega
          have hr2 : num r = 0 := by omega
          obtain ⟨k, hs, _⟩ := hd_split s
          have hform : formM s = true := by simpa using hf
          unfold formM at hform
          simp only [Bool.and_eq_true, decide_eq_true_eq] at hform
          obtain ⟨⟨_, hk2⟩, hgood⟩ := hform
          have hl := congrArg List.length hs
          rw [List.length_append, List.length_replicate] at hl
          have hn : encN (m.map Nat.toUInt8) = (hd s).map valN := by
            refine encN_of _ _ r.length hr1 (fun x hx => ?_) ?_
            · obtain ⟨c, _, rfl⟩ := List.mem_map.1 hx
              exact valN_lt c
            · rw [nat8_of m g3, ← zeros_of r hr2]
              exact g1
          unfold encM
          rw [hn, map_sgn_valN hgood, List.length_map]
          have hmap : s.map plB = (hd s).map plB ++ List.replicate k 61 := by
            conv => lhs; rw [hs]
            rw [List.map_append, List.map_replicate, plB_fill]
          rw [hmap, List.append_assoc]
          congr 1
          unfold fill
          rw [List.replicate_append_replicate]
          congr 1
          omega
/-- What stands behind a text without at most two =. -/
def Head (s h : List UInt8) : Prop := ∃ k, k ≤ 2 ∧ s = h ++ List.replicate k 61 ∧ (k = 2 ∨ endless h)
theorem head_form {s h : List UInt8} (e : Head s h) : formM s = (!h.isEmpty && good h) := by
  obtain ⟨k, hk, rfl, ho⟩ := e
  by_cases hh : endless h
  · unfold formM
    rw [hd_of h k hh, List.length_append, List.length_replicate, decide_eq_true (by omega)]
    simp
  · have hg : good h = false := by
      cases hg : good h with
      | false => rfl
      | true => exact absurd (good_endless hg) hh
    rw [hg, Bool.and_false]
    obtain rfl : k = 2 := by
      rcases ho with ho | ho
      · exact ho
      · exact absurd ho hh
    unfold formM
    rw [hd_fill]
    obtain ⟨k', h1, h2⟩ := hd_split h
    have hl := congrArg List.length h1
    rw [List.length_append, List.length_replicate] at hl
    have hk' : k' ≠ 0 := fun h0 => by
      subst h0
      simp only [List.replicate_zero, List.append_nil] at h1
      rw [← h1] at h2
      exact hh h2
    rw [decide_eq_false (by rw [List.length_append, List.length_replicate]; omega)]
    simp
theorem head_is {s h : List UInt8} (e : Head s h) (hf : formM s = true) : hd s = h := by
  have := head_form e
  rw [hf] at this
  have hg : good h = true := by
    cases hg : good h with
    | false => rw [hg] at this; simp at this
    | true => rfl
  obtain ⟨k, hk, rfl, ho⟩ := e
  exact hd_of h k (good_endless hg)

theorem form_sgn (x : Nat) (h : x < 64) : formM [sgn x] = true := by
  have : ∀ m : Fin 64, formM [sgn m.val] = true := by decide +kernel
  exact this ⟨x, h⟩
/-- What stands at each place of what is encoded: a sign, or =. -/
theorem encM_at (s : List UInt8) (j : Nat) (b : UInt8) (h : (encM s)[j]? = some b) : (j < (encN s).length ∧ b ≠ 61 ∧ formM [b] = true) ∨ ((encN s).length ≤ j ∧ b = 61) := by
  obtain ⟨_, h2⟩ := enc_spec s
  unfold encM at h
  by_cases hj : j < (encN s).length
  · left
    rw [List.getElem?_append_left (by simpa using hj), List.getElem?_map, List.getElem?_eq_getElem hj] at h
    simp only [Option.map_some, Option.some.injEq] at h
    subst h
    have hx := h2 _ (List.getElem_mem hj)
    exact ⟨hj, sgn_ne _ hx, form_sgn _ hx⟩
  · right
    rw [List.getElem?_append_right (by simpa using hj)] at h
    refine ⟨by omega, ?_⟩
    unfold fill at h
    exact List.eq_of_mem_replicate (List.mem_of_getElem? h)
theorem encM_counts (s : List UInt8) : (encN s).length ≤ (encM s).length ∧ (encM s).length - (encN s).length ≤ 2 ∧ (s.length + ((encM s).length - (encN s).length)) % 3 = 0 := by
  have l1 := enc_length s
  have l2 := encM_length s
  obtain ⟨q, hq⟩ : ∃ q, s.length = 3 * q ∨ s.length = 3 * q + 1 ∨ s.length = 3 * q + 2 := ⟨s.length / 3, by omega⟩
  rcases hq with hq | hq | hq <;> rw [hq] at l1 l2 ⊢ <;> omega

end Go.Proofs.YtpmnpaopkncphaaGreatDoor

namespace Go.Proofs.YtpmnpaopkncphaaGreatDoor

structure Src where
  k : Int
  t : List UInt8
  s : List UInt8
  h : List UInt8
  w : Bool
  p : Int
  pa : List UInt8
  deriving DecidableEq
def Src.zero : Src := ⟨0, [], [], [], false, 0, []⟩
def KEPT : List (List UInt8) := [[39, 110, 111, 110, 101, 39], [39, 115, 101, 108, 102, 39], [39, 117, 110, 115, 97, 102, 101, 45, 105, 110, 108, 105, 110, 101, 39], [39, 117, 110, 115, 97, 102, 101, 45, 101, 118, 97, 108, 39], [39, 119, 97, 115, 109, 45, 117, 110, 115, 97, 102, 101, 45, 101, 118, 97, 108, 39], [39, 115, 116, 114, 105, 99, 116, 45, 100, 121, 110, 97, 109, 105, 99, 39], [39, 117, 110, 115, 97, 102, 101, 45, 104, 97, 115, 104, 101, 115, 39], [39, 114, 101, 112, 111, 114, 116, 45, 115, 97, 109, 112, 108, 101, 39]]
def keptM (k : Int) : List UInt8 := if 1 ≤ k ∧ k ≤ 8 then KEPT.getD (k - 1).toNat [] else []
def inS (b : UInt8) : Bool := inB 33 [63, 35, 44, 59, 58] b
def spathM (l : List UInt8) : Bool := decide (l.length ≤ 200) && (l.isEmpty || l.head? == some 47) && l.all inS
def bareS (a : Src) : Bool := a.h.isEmpty && !a.w && decide (a.p = 0) && a.pa.isEmpty
def shostM (a : Src) : Bool := a.t.isEmpty && (a.s.isEmpty || schM a.s) && (a.h.isEmpty || hostM a.h) && (!a.h.isEmpty || a.w) && decide (-1 ≤ a.p ∧ a.p ≤ 65535) && spathM a.pa
def rightS (a : Src) : Bool :=
  if a.k = 9 then bareS a && a.s.isEmpty && decide (a.t.length ≤ 200) && formM a.t
  else if a.k = 10 then bareS a && a.s.isEmpty && decide (a.t.length = 16)
  else if a.k = 11 then bareS a && a.t.isEmpty && schM a.s
  else if a.k = 12 then shostM a
  else !(keptM a.k).isEmpty && bareS a && a.s.isEmpty && a.t.isEmpty
def NON : List UInt8 := [39, 110, 111, 110, 99, 101, 45]
def MRK : List UInt8 := [39, 109, 97, 114, 107, 45]
def sportT (p : Int) : List UInt8 := if p < 0 then [58, 42] else if 0 < p then 58 :: Lib.decDigits p.toNat else []
def frontS (a : Src) : List UInt8 := (if a.w then 42 :: (if a.h.isEmpty then [] else [46]) else []) ++ a.h
def schT (l : List UInt8) : List UInt8 := if l.isEmpty then [] else l ++ [58, 47, 47]
def wordS (a : Src) : List UInt8 :=
  if a.k = 9 then NON ++ (a.t ++ [39])
  else if a.k = 10 then MRK ++ (encM a.t ++ [39])
  else if a.k = 11 then a.s ++ [58]
  else if a.k = 12 then schT a.s ++ (frontS a ++ (sportT a.p ++ a.pa))
  else keptM a.k

def beg (l t : List UInt8) : Bool := decide (low (l.take t.length) = t)
def quotedS (l : List UInt8) : Src :=
  if beg l NON then ⟨9, (l.drop 7).dropLast, [], [], false, 0, []⟩
  else if beg l MRK then ⟨10, (decM ((l.drop 6).dropLast)).1, [], [], false, 0, []⟩
  else match ([1, 2, 3, 4, 5, 6, 7, 8] : List Int).find? (fun k => decide (low l = keptM k)) with
    | some k => ⟨k, [], [], [], false, 0, []⟩
    | none => Src.zero
/-- What stands ahead of the first :// and behind it. -/
def sp3 : List UInt8 → Option (List UInt8 × List UInt8)
  | [] => none
  | b :: l => if [58, 47, 47].isPrefixOf (b :: l) then some ([], (b :: l).drop 3) else (sp3 l).map fun x => (b :: x.1, x.2)
def sportP (l : List UInt8) : Int := if l = [42] then -1 else match numM l with | some n => if n = 0 ∨ 65535 < n then -2 else (n : Int) | none => -2
def numS (l : List UInt8) : Int := match l with | [] => 0 | _ :: ds => sportP ds
def placeS (sc name : List UInt8) (p : Int) (pa : List UInt8) : Option Src :=
  if low (name.take 2) = [42, 46] then (if 2 < name.length then some ⟨12, [], sc, low (name.drop 2), true, p, pa⟩ else none)
  else if name = [42] then some ⟨12, [], sc, [], true, p, pa⟩
  else some ⟨12, [], sc, low name, false, p, pa⟩
def restS (sc l : List UInt8) : Option Src := placeS sc (upto (isC 58) (upto (isC 47) l)) (numS (past (isC 58) (upto (isC 47) l))) (past (isC 47) l)
def plainS (l : List UInt8) : Option Src :=
  if l.getLast? = some 58 then some ⟨11, [], low l.dropLast, [], false, 0, []⟩
  else match sp3 l with
    | some (sc, r) => if sc = [] then none else restS (low sc) r
    | none => restS [] l
def parseS (l : List UInt8) : Option Src :=
  if l = [] then none
  else (if 2 ≤ l.length ∧ l.head? = some 39 ∧ l.getLast? = some 39 then some (quotedS l) else plainS l).filter rightS

theorem parse_right {l : List UInt8} {a : Src} (h : parseS l = some a) : rightS a = true := by
  unfold parseS at h
  split at h
  · cases h
  · exact (Option.filter_eq_some_iff.1 h).2
theorem low_append (a b : List UInt8) : low (a ++ b) = low a ++ low b := by simp [low]
theorem bare_parts {a : Src} (h : bareS a = true) : a.h = [] ∧ a.w = false ∧ a.p = 0 ∧ a.pa = [] := by
  unfold bareS at h
  simp only [Bool.and_eq_true, List.isEmpty_iff, decide_eq_true_eq, Bool.not_eq_true'] at h
  obtain ⟨⟨⟨h1, h2⟩, h3⟩, h4⟩ := h
  exact ⟨h1, h2, h3, h4⟩
theorem shost_parts {a : Src} (h : shostM a = true) : a.t = [] ∧ (a.s = [] ∨ schM a.s = true) ∧ (a.h = [] ∨ hostM a.h = true) ∧ (a.h ≠ [] ∨ a.w = true) ∧ -1 ≤ a.p ∧ a.p ≤ 65535 ∧ spathM a.pa = true := by
  unfold shostM at h
  simp only [Bool.and_eq_true, Bool.or_eq_true, List.isEmpty_iff, decide_eq_true_eq, Bool.not_eq_true'] at h
  obtain ⟨⟨⟨⟨⟨h1, h2⟩, h3⟩, h4⟩, h5, h6⟩, h7⟩ := h
  refine ⟨h1, h2, h3, ?_, h5, h6, h7⟩
  rcases h4 with h4 | h4
  · exact .inl (by intro e; rw [e] at h4; cases h4)
  · exact .inr h4
theorem spath_parts {l : List UInt8} (h : spathM l = true) : (l = [] ∨ ∃ r, l = 47 :: r) ∧ ∀ b ∈ l, inS b = true := by
  unfold spathM at h
  simp only [Bool.and_eq_true, Bool.or_eq_true, List.isEmpty_iff, List.all_eq_true] at h
  obtain ⟨⟨_, h2⟩, h3⟩ := h
  refine ⟨?_, h3⟩
  rcases h2 with h2 | h2
  · exact .inl h2
  · cases l with
    | nil => exact .inl rfl
    | cons b r => right; simp at h2; exact ⟨r, by rw [h2]⟩
theorem inS_facts (b : UInt8) : inS b = true → isC 58 b = false ∧ b ≠ 58 := by revert b; exact byte_all (by decide +kernel)
theorem schB_src (b : UInt8) : schB b = true → b ≠ 58 ∧ b ≠ 39 ∧ isC 47 b = false := by revert b; exact byte_all (by decide +kernel)
theorem nameB_src (b : UInt8) : (nameB b || dot b) = true → b ≠ 58 ∧ b ≠ 39 ∧ b ≠ 42 ∧ isC 47 b = false ∧ isC 58 b = false := by revert b; exact byte_all (by decide +kernel)
theorem digit_src (b : UInt8) : digit b = true → b ≠ 58 ∧ b ≠ 47 ∧ isC 47 b = false ∧ b ≠ 42 := by revert b; exact byte_all (by decide +kernel)

theorem sp3_no {l : List UInt8} (h : ∀ b ∈ l, b ≠ 58) : sp3 l = none := by
  induction l with
  | nil => rfl
  | cons b l ih =>
    have hb := h b (by simp)
    unfold sp3
    rw [if_neg (by simp [List.isPrefixOf]; intro e; exact absurd e.symm hb), ih (fun x hx => h x (by simp [hx]))]
    rfl
theorem sp3_ahead {a r : List UInt8} (h : ∀ b ∈ a, b ≠ 58) : sp3 (a ++ r) = (sp3 r).map fun x => (a ++ x.1, x.2) := by
  induction a with
  | nil => simp
  | cons b a ih =>
    have hb := h b (by simp)
    rw [List.cons_append]
    conv => lhs; unfold sp3
    rw [if_neg (by simp [List.isPrefixOf]; intro e; exact absurd e.symm hb), ih (fun x hx => h x (by simp [hx]))]
    cases sp3 r <;> simp
theorem sp3_at {a r : List UInt8} (h : ∀ b ∈ a, b ≠ 58) : sp3 (a ++ 58 :: 47 :: 47 :: r) = some (a, r) := by
  rw [sp3_ahead h]
  unfold sp3
  rw [if_pos (by simp [List.isPrefixOf])]
  simp
theorem sp3_port {d : UInt8} {r : List UInt8} (hd : d ≠ 47) (h : ∀ b ∈ d :: r, b ≠ 58) : sp3 (58 :: d :: r) = none := by
  conv => lhs; unfold sp3
  rw [if_neg (by simp [List.isPrefixOf]; intro e; exact absurd e.symm hd), sp3_no h]
  rfl

theorem front_ne {a : Src} (h : a.h ≠ [] ∨ a.w = true) : frontS a ≠ [] := by
  unfold frontS
  intro e
  rw [List.append_eq_nil_iff] at e
  rcases h with h | h
  · exact h e.2
  · rw [h] at e; simp at e
theorem front_mem {a : Src} (hh : a.h = [] ∨ hostM a.h = true) : ∀ b ∈ frontS a, b ≠ 58 ∧ b ≠ 39 ∧ isC 47 b = false ∧ isC 58 b = false := by
  intro b hb
  unfold frontS at hb
  rw [List.mem_append] at hb
  rcases hb with hb | hb
  · have : b = 42 ∨ b = 46 := by
      split at hb
      · split at hb <;> simp at hb <;> simp [hb]
      · cases hb
    rcases this with rfl | rfl <;> decide
  · rcases hh with hh | hh
    · rw [hh] at hb; cases hb
    · obtain ⟨h1, h2, _, h3, h4⟩ := nameB_src b (hostM_mem hh b hb)
      exact ⟨h1, h2, h3, h4⟩
theorem sport_form {p : Int} (h : -1 ≤ p) (h2 : p ≤ 65535) : (sportT p = [] ∧ p = 0) ∨ ∃ d r, sportT p = 58 :: d :: r ∧ (∀ b ∈ d :: r, b ≠ 58 ∧ b ≠ 47 ∧ isC 47 b = false) ∧ sportP (d :: r) = p := by
  unfold sportT
  by_cases h3 : p < 0
  · have : p = -1 := by omega
    subst this
    exact .inr ⟨42, [], rfl, by decide, by decide⟩
  · by_cases h4 : 0 < p
    · obtain ⟨n, rfl⟩ : ∃ n : Nat, p = (n : Int) := ⟨p.toNat, by omega⟩
      rw [if_neg h3, if_pos h4, Int.toNat_natCast]
      obtain ⟨e1, e2⟩ := dec_spec n
      have e3 := numM_dec n (by omega)
      cases hd : Lib.decDigits n with
      | nil =>
        have := Lib.nDigits_pos n
        rw [← Lib.decDigits_length, hd] at this
        cases this
      | cons d r =>
        rw [hd] at e1 e3
        refine .inr ⟨d, r, rfl, fun b hb => ?_, ?_⟩
        · obtain ⟨k1, k2, k3, _⟩ := digit_src b (e1 b hb)
          exact ⟨k1, k2, k3⟩
        · unfold sportP
          rw [if_neg, e3]
          · simp only []
            rw [if_neg (by omega)]
          · intro e
            have := e1 d (by simp)
            rw [List.cons.injEq] at e
            rw [e.1] at this
            exact absurd this (by decide)
    · rw [if_neg h3, if_neg h4]
      exact .inl ⟨rfl, by omega⟩
theorem last_ofS {A X : List UInt8} {c : UInt8} (hX : X ≠ []) (h : ∀ b ∈ X, b ≠ c) : (A ++ X).getLast? ≠ some c := by
  rw [List.getLast?_append]
  cases hx : X.getLast? with
  | none => exact absurd (List.getLast?_eq_none_iff.1 hx) hX
  | some z =>
    intro e
    simp at e
    exact h z (List.mem_of_getLast? hx) e

theorem place_back {a : Src} (h : shostM a = true) (hk : a.k = 12) : placeS a.s (frontS a) a.p a.pa = some a := by
  obtain ⟨h1, h2, h3, h4, h5, h6, h7⟩ := shost_parts h
  obtain ⟨k, t, s, ho, w, p, pa⟩ := a
  simp only at *
  subst hk; subst h1
  unfold placeS frontS
  cases w
  · have hne : ho ≠ [] := by rcases h4 with h4 | h4; exact h4; cases h4
    have hm := h3.resolve_left hne
    have hlow : low ho = ho := low_id fun b hb => (nameB_facts b (hostM_mem hm b hb)).1
    obtain ⟨b, l, rfl⟩ := List.exists_cons_of_ne_nil hne
    have hb := nameB_src b (hostM_mem hm b (by simp))
    have hb2 := (nameB_facts b (hostM_mem hm b (by simp))).1
    simp only [Bool.false_eq_true, if_false, List.nil_append]
    rw [if_neg, if_neg, hlow]
    · intro e
      rw [List.cons.injEq] at e
      exact hb.2.2.1 e.1
    · intro e
      have e2 : (low (List.take 2 (b :: l))).head? = some b := by simp [low, hb2]
      rw [e] at e2
      simp at e2
      exact hb.2.2.1 e2.symm
  · by_cases hne : ho = []
    · subst hne
      rfl
    · have hm := h3.resolve_left hne
      have hlow : low ho = ho := low_id fun b hb => (nameB_facts b (hostM_mem hm b hb)).1
      have he : ho.isEmpty = false := by simpa using hne
      have hl : 0 < ho.length := List.length_pos_iff.2 hne
      simp only [if_true, he, Bool.false_eq_true, if_false, List.cons_append, List.nil_append]
      rw [if_pos (by simp [low]; decide), if_pos (by simp; omega)]
      simp [hlow]

theorem rest_back {a : Src} (h : shostM a = true) (hk : a.k = 12) : restS a.s (frontS a ++ (sportT a.p ++ a.pa)) = some a := by
  obtain ⟨h1, h2, h3, h4, h5, h6, h7⟩ := shost_parts h
  obtain ⟨g1, g2⟩ := spath_parts h7
  have hf := front_mem h3
  have hfs : ∀ b ∈ frontS a ++ sportT a.p, isC 47 b = false := by
    intro b hb
    rw [List.mem_append] at hb
    rcases hb with hb | hb
    · exact (hf b hb).2.2.1
    · rcases sport_form h5 h6 with ⟨e, _⟩ | ⟨d, r, e, k1, _⟩
      · rw [e] at hb; cases hb
      · rw [e, List.mem_cons] at hb
        rcases hb with rfl | hb
        · decide
        · exact (k1 b hb).2.2
  have hu : upto (isC 47) (frontS a ++ (sportT a.p ++ a.pa)) = frontS a ++ sportT a.p ∧ past (isC 47) (frontS a ++ (sportT a.p ++ a.pa)) = a.pa := by
    rw [← List.append_assoc]
    rcases g1 with e | ⟨r, e⟩
    · rw [e, List.append_nil]; exact past_none _ _ hfs
    · rw [e]; exact past_hit _ _ 47 r hfs (by decide)
  unfold restS
  rw [hu.1, hu.2]
  have hv : upto (isC 58) (frontS a ++ sportT a.p) = frontS a ∧ numS (past (isC 58) (frontS a ++ sportT a.p)) = a.p := by
    rcases sport_form h5 h6 with ⟨e, e2⟩ | ⟨d, r, e, k1, k2⟩
    · rw [e, List.append_nil]
      obtain ⟨z1, z2⟩ := past_none (isC 58) (frontS a) (fun b hb => (hf b hb).2.2.2)
      rw [z1, z2, e2]; exact ⟨rfl, rfl⟩
    · rw [e]
      obtain ⟨z1, z2⟩ := past_hit (isC 58) (frontS a) 58 (d :: r) (fun b hb => (hf b hb).2.2.2) (by decide)
      rw [z1, z2]; exact ⟨rfl, k2⟩
  rw [hv.1, hv.2]
  exact place_back h hk

theorem parse_word_host {a : Src} (h : shostM a = true) (hk : a.k = 12) : parseS (schT a.s ++ (frontS a ++ (sportT a.p ++ a.pa))) = some a := by
  have hR : rightS a = true := by unfold rightS; rw [hk]; simpa using h
  have hback := rest_back h hk
  obtain ⟨h1, h2, h3, h4, h5, h6, h7⟩ := shost_parts h
  obtain ⟨g1, g2⟩ := spath_parts h7
  have hf := front_mem h3
  have hne := front_ne h4
  have hY : frontS a ++ (sportT a.p ++ a.pa) ≠ [] := by simp [hne]
  have hlast : ∀ A : List UInt8, (A ++ (frontS a ++ (sportT a.p ++ a.pa))).getLast? ≠ some 58 := by
    intro A
    rcases g1 with e | ⟨r, e⟩
    · rw [e, List.append_nil]
      rcases sport_form h5 h6 with ⟨e2, _⟩ | ⟨d, r, e2, k1, _⟩
      · rw [e2, List.append_nil]; exact last_ofS hne (fun b hb => (hf b hb).1)
      · rw [e2, show A ++ (frontS a ++ 58 :: d :: r) = (A ++ frontS a ++ [58]) ++ (d :: r) by simp]
        exact last_ofS (by simp) (fun b hb => (k1 b hb).1)
    · rw [show A ++ (frontS a ++ (sportT a.p ++ a.pa)) = (A ++ (frontS a ++ sportT a.p)) ++ a.pa by simp]
      exact last_ofS (by rw [e]; simp) (fun b hb => (inS_facts b (g2 b hb)).2)
  have hhead : (schT a.s ++ (frontS a ++ (sportT a.p ++ a.pa))).head? ≠ some 39 := by
    obtain ⟨b, l, hbl⟩ := List.exists_cons_of_ne_nil hne
    rcases h2 with e | e
    · rw [e, hbl]
      intro e2
      simp [schT] at e2
      exact (hf b (by rw [hbl]; simp)).2.1 e2
    · obtain ⟨x, y⟩ := schM_all e
      obtain ⟨b2, l2, hb2⟩ := List.exists_cons_of_ne_nil x
      intro e2
      rw [hb2] at e2
      simp [schT] at e2
      exact (schB_src b2 (y b2 (by rw [hb2]; simp))).2.1 e2
  unfold parseS
  rw [if_neg (by simp [hne]), if_neg (fun e => hhead e.2.1)]
  have hp : plainS (schT a.s ++ (frontS a ++ (sportT a.p ++ a.pa))) = some a := by
    unfold plainS
    rw [if_neg (hlast _)]
    by_cases hs : a.s = []
    · have hn : sp3 (frontS a ++ (sportT a.p ++ a.pa)) = none := by
        rw [sp3_ahead (fun b hb => (hf b hb).1)]
        rcases sport_form h5 h6 with ⟨e2, _⟩ | ⟨d, r, e2, k1, _⟩
        · rw [e2, List.nil_append, sp3_no (fun b hb => (inS_facts b (g2 b hb)).2)]; rfl
        · rw [e2, List.cons_append, List.cons_append, sp3_port (k1 d (by simp)).2.1]
          · rfl
          · intro b hb
            rw [List.mem_cons, List.mem_append] at hb
            rcases hb with rfl | hb | hb
            · exact (k1 b (by simp)).1
            · exact (k1 b (by simp [hb])).1
            · exact (inS_facts b (g2 b hb)).2
      have e0 : schT a.s = [] := by rw [hs]; rfl
      rw [e0, List.nil_append, hn]
      rw [hs] at hback
      exact hback
    · have e := h2.resolve_left hs
      obtain ⟨_, y⟩ := schM_all e
      have e0 : schT a.s = a.s ++ [58, 47, 47] := by unfold schT; rw [if_neg (by simpa using hs)]
      rw [e0, List.append_assoc]
      show (match sp3 (a.s ++ 58 :: 47 :: 47 :: (frontS a ++ (sportT a.p ++ a.pa))) with
        | some (sc, r) => if sc = [] then none else restS (low sc) r
        | none => _) = _
      rw [sp3_at (fun b hb => (schB_src b (y b hb)).1)]
      simp only []
      rw [if_neg hs, schM_low e]
      exact hback
  rw [hp]
  simp [Option.filter, hR]

theorem beg_pre (t x : List UInt8) (ht : low t = t) : beg (t ++ x) t = true := by unfold beg; rw [List.take_left, ht]; simp
theorem drop_pre (t x : List UInt8) (c : UInt8) : ((t ++ (x ++ [c])).drop t.length).dropLast = x := by rw [List.drop_left, List.dropLast_concat]
theorem beg_mark (x : List UInt8) : beg (MRK ++ x) NON = false := by
  unfold beg
  rw [decide_eq_false_iff_not]
  intro e
  have e2 := congrArg (fun l => l[1]?) e
  simp [MRK, NON, low] at e2
  exact absurd e2 (by decide)
theorem last_snoc (a : List UInt8) (c : UInt8) : (a ++ [c]).getLast? = some c := by simp
theorem kept_cases {k : Int} (h : keptM k ≠ []) : k = 1 ∨ k = 2 ∨ k = 3 ∨ k = 4 ∨ k = 5 ∨ k = 6 ∨ k = 7 ∨ k = 8 := by
  unfold keptM at h
  by_cases h2 : 1 ≤ k ∧ k ≤ 8
  · omega
  · rw [if_neg h2] at h; exact absurd rfl h

/-- A source's word is parsed as it. -/
theorem parse_word {a : Src} (h : rightS a = true) : parseS (wordS a) = some a := by
  have hR := h
  unfold rightS at h
  by_cases k9 : a.k = 9
  · rw [if_pos k9] at h
    simp only [Bool.and_eq_true, List.isEmpty_iff, decide_eq_true_eq] at h
    obtain ⟨⟨⟨hb, hs⟩, _⟩, _⟩ := h
    obtain ⟨e1, e2, e3, e4⟩ := bare_parts hb
    have hw : wordS a = NON ++ (a.t ++ [39]) := by unfold wordS; rw [if_pos k9]
    have hq : quotedS (NON ++ (a.t ++ [39])) = a := by
      unfold quotedS
      rw [if_pos (beg_pre NON _ (by decide)), show (7 : Nat) = NON.length from rfl, drop_pre]
      obtain ⟨k, t, s, ho, w, p, pa⟩ := a
      simp only at *
      rw [k9, hs, e1, e2, e3, e4]
    rw [hw]
    unfold parseS
    rw [if_neg (by simp [NON]), if_pos ⟨by simp [NON], rfl, by rw [← List.append_assoc]; exact last_snoc _ _⟩, hq]
    simp [Option.filter, hR]
  rw [if_neg k9] at h
  by_cases k10 : a.k = 10
  · rw [if_pos k10] at h
    simp only [Bool.and_eq_true, List.isEmpty_iff, decide_eq_true_eq] at h
    obtain ⟨⟨hb, hs⟩, _⟩ := h
    obtain ⟨e1, e2, e3, e4⟩ := bare_parts hb
    have hw : wordS a = MRK ++ (encM a.t ++ [39]) := by unfold wordS; rw [if_neg k9, if_pos k10]
    have hq : quotedS (MRK ++ (encM a.t ++ [39])) = a := by
      unfold quotedS
      rw [if_neg (by rw [beg_mark]; simp), if_pos (beg_pre MRK _ (by decide)), show (6 : Nat) = MRK.length from rfl, drop_pre, dec_enc]
      obtain ⟨k, t, s, ho, w, p, pa⟩ := a
      simp only at *
      rw [k10, hs, e1, e2, e3, e4]
    rw [hw]
    unfold parseS
    rw [if_neg (by simp [MRK]), if_pos ⟨by simp [MRK], rfl, by rw [← List.append_assoc]; exact last_snoc _ _⟩, hq]
    simp [Option.filter, hR]
  rw [if_neg k10] at h
  by_cases k11 : a.k = 11
  · rw [if_pos k11] at h
    simp only [Bool.and_eq_true, List.isEmpty_iff] at h
    obtain ⟨⟨hb, ht⟩, hs⟩ := h
    obtain ⟨e1, e2, e3, e4⟩ := bare_parts hb
    have hw : wordS a = a.s ++ [58] := by unfold wordS; rw [if_neg k9, if_neg k10, if_pos k11]
    have hp : plainS (a.s ++ [58]) = some a := by
      unfold plainS
      rw [if_pos (last_snoc _ _), List.dropLast_concat, schM_low hs]
      obtain ⟨k, t, s, ho, w, p, pa⟩ := a
      simp only at *
      rw [k11, ht, e1, e2, e3, e4]
    rw [hw]
    unfold parseS
    rw [if_neg (by simp), if_neg (by rw [last_snoc]; intro e; exact absurd e.2.2 (by decide)), hp]
    simp [Option.filter, hR]
  rw [if_neg k11] at h
  by_cases k12 : a.k = 12
  · rw [if_pos k12] at h
    have hw : wordS a = schT a.s ++ (frontS a ++ (sportT a.p ++ a.pa)) := by unfold wordS; rw [if_neg k9, if_neg k10, if_neg k11, if_pos k12]
    rw [hw]
    exact parse_word_host h k12
  rw [if_neg k12] at h
  simp only [Bool.and_eq_true, List.isEmpty_iff, Bool.not_eq_true'] at h
  obtain ⟨⟨⟨hk, hb⟩, hs⟩, ht⟩ := h
  obtain ⟨e1, e2, e3, e4⟩ := bare_parts hb
  have hc := kept_cases (k := a.k) (by intro e; rw [e] at hk; cases hk)
  obtain ⟨k, t, s, ho, w, p, pa⟩ := a
  simp only at *
  subst hs; subst ht; subst e1; subst e2; subst e3; subst e4
  rcases hc with rfl | rfl | rfl | rfl | rfl | rfl | rfl | rfl <;> decide +kernel

/-! Small letters. -/
theorem lowB_fix (b : UInt8) : (lowB b = 58 ↔ b = 58) ∧ (lowB b = 47 ↔ b = 47) ∧ (lowB b = 39 ↔ b = 39) ∧ (lowB b = 42 ↔ b = 42) ∧ digit (lowB b) = digit b ∧ (digit b = true → lowB b = b) ∧ isC 47 (lowB b) = isC 47 b ∧ isC 58 (lowB b) = isC 58 b := by revert b; exact byte_all (by decide +kernel)
theorem upto_low {p : UInt8 → Bool} (hp : ∀ b, p (lowB b) = p b) (l : List UInt8) : upto p (low l) = low (upto p l) ∧ past p (low l) = low (past p l) := by
  unfold upto past low
  rw [List.takeWhile_map, List.dropWhile_map]
  have : ((fun b => !p b) ∘ lowB) = fun b => !p b := by funext b; simp [hp b]
  rw [this]
  exact ⟨rfl, rfl⟩
theorem sp3_low (l : List UInt8) : sp3 (low l) = (sp3 l).map fun x => (low x.1, low x.2) := by
  induction l with
  | nil => rfl
  | cons b l ih =>
    have hpre : ∀ m : List UInt8, [58, 47, 47].isPrefixOf (low m) = [58, 47, 47].isPrefixOf m := by
      intro m
      have hz : ∀ (c : UInt8), (58 == lowB c) = (58 == c) ∧ (47 == lowB c) = (47 == c) := byte_all (by decide +kernel)
      match m with
      | [] => rfl
      | [x] => simp [low, List.isPrefixOf, (hz x).1]
      | [x, y] => simp [low, List.isPrefixOf, (hz x).1, (hz y).2]
      | x :: y :: z :: r => simp [low, List.isPrefixOf, (hz x).1, (hz y).2, (hz z).2]
    rw [show low (b :: l) = lowB b :: low l from rfl]
    conv => lhs; unfold sp3
    conv => rhs; unfold sp3
    rw [show lowB b :: low l = low (b :: l) from rfl, hpre]
    by_cases h : [58, 47, 47].isPrefixOf (b :: l) = true
    · rw [if_pos h, if_pos h]
      simp [low, List.map_drop]
    · rw [if_neg h, if_neg h, ih]
      cases sp3 l with
      | none => rfl
      | some x => simp [low]
theorem low_star (l : List UInt8) : low l = [42] ↔ l = [42] := by
  constructor
  · intro h
    have hl : l.length = 1 := by rw [← low_length, h]; rfl
    obtain ⟨b, rfl⟩ := List.length_eq_one_iff.1 hl
    simp [low] at h
    rw [(lowB_fix b).2.2.2.1.1 h]
  · rintro rfl; decide
theorem num_low (l : List UInt8) : numM (low l) = numM l := by
  have ha : (low l).all digit = l.all digit := by
    unfold low
    rw [List.all_map]
    congr 1
    funext b
    exact (lowB_fix b).2.2.2.2.1
  by_cases h : l.all digit = true
  · rw [low_id fun b hb => (lowB_fix b).2.2.2.2.2.1 (List.all_eq_true.1 h b hb)]
  · have h2 : l.all digit = false := by simpa using h
    unfold numM
    rw [if_pos (.inr (.inr (by rw [ha, h2]))), if_pos (.inr (.inr h2))]
theorem sportP_low (l : List UInt8) : sportP (low l) = sportP l := by
  unfold sportP
  rw [num_low]
  by_cases h : l = [42]
  · rw [if_pos h, if_pos ((low_star l).2 h)]
  · rw [if_neg h, if_neg (fun e => h ((low_star l).1 e))]
theorem numS_low (l : List UInt8) : numS (low l) = numS l := by
  cases l with
  | nil => rfl
  | cons b l => exact sportP_low l
theorem place_low (sc name : List UInt8) (p : Int) (pa : List UInt8) : placeS sc (low name) p pa = placeS sc name p pa := by
  have e1 : low ((low name).take 2) = low (name.take 2) := by
    rw [show (low name).take 2 = low (name.take 2) by unfold low; rw [List.map_take], low_low]
  have e2 : low ((low name).drop 2) = low (name.drop 2) := by
    rw [show (low name).drop 2 = low (name.drop 2) by unfold low; rw [List.map_drop], low_low]
  unfold placeS
  rw [e1, e2, low_length, low_low]
  by_cases h : name = [42]
  · rw [if_pos h, if_pos ((low_star name).2 h)]
  · rw [if_neg h, if_neg (fun e => h ((low_star name).1 e))]
theorem place_pa {sc name : List UInt8} {p : Int} {pa : List UInt8} {a : Src} (h : placeS sc name p pa = some a) : a.pa = pa := by
  unfold placeS at h
  split at h
  · split at h
    · cases h; rfl
    · cases h
  · split at h
    · cases h; rfl
    · cases h; rfl
theorem rest_low {sc l : List UInt8} {a : Src} (h : restS sc l = some a) (hp : a.pa = []) : restS sc (low l) = some a := by
  have h47 := upto_low (fun b => (lowB_fix b).2.2.2.2.2.2.1) l
  unfold restS at h ⊢
  have hpa := place_pa h
  rw [hp] at hpa
  have h58 := upto_low (fun b => (lowB_fix b).2.2.2.2.2.2.2) (upto (isC 47) l)
  rw [h47.1, h47.2, h58.1, h58.2, place_low, numS_low, ← hpa]
  rw [← hpa] at h
  exact h
theorem head_low (l : List UInt8) : (low l).head? = some 39 ↔ l.head? = some 39 := by
  cases l with
  | nil => simp [low]
  | cons b l => simp [low, (lowB_fix b).2.2.1]
theorem last_low (l : List UInt8) : ((low l).getLast? = some 39 ↔ l.getLast? = some 39) ∧ ((low l).getLast? = some 58 ↔ l.getLast? = some 58) := by
  unfold low
  rw [List.getLast?_map]
  cases l.getLast? with
  | none => simp
  | some b => simp [(lowB_fix b).2.2.1, (lowB_fix b).1]
theorem beg_low (l t : List UInt8) : beg (low l) t = beg l t := by
  unfold beg
  rw [show (low l).take t.length = low (l.take t.length) by unfold low; rw [List.map_take], low_low]

/-- A word with small letters is the same source, but for a nonce, a mark and a path. -/
theorem parse_low {l : List UInt8} {a : Src} (h : parseS l = some a) (h9 : a.k ≠ 9) (h10 : a.k ≠ 10) (hp : a.pa = []) : parseS (low l) = some a := by
  unfold parseS at h ⊢
  have hn : low l = [] ↔ l = [] := by unfold low; exact List.map_eq_nil_iff
  by_cases h0 : l = []
  · rw [if_pos h0] at h; cases h
  rw [if_neg h0] at h
  rw [if_neg (fun e => h0 (hn.1 e))]
  have hq : (2 ≤ (low l).length ∧ (low l).head? = some 39 ∧ (low l).getLast? = some 39) ↔ (2 ≤ l.length ∧ l.head? = some 39 ∧ l.getLast? = some 39) := by
    rw [low_length, head_low, (last_low l).1]
  obtain ⟨hx, hr⟩ := Option.filter_eq_some_iff.1 h
  refine Option.filter_eq_some_iff.2 ⟨?_, hr⟩
  by_cases hc : 2 ≤ l.length ∧ l.head? = some 39 ∧ l.getLast? = some 39
  · rw [if_pos hc] at hx
    rw [if_pos (hq.2 hc)]
    cases hx
    congr 1
    unfold quotedS at h9 h10 ⊢
    rw [beg_low, beg_low, low_low]
    by_cases b1 : beg l NON = true
    · rw [if_pos b1] at h9; exact absurd rfl h9
    · by_cases b2 : beg l MRK = true
      · rw [if_neg b1, if_pos b2] at h10; exact absurd rfl h10
      · rw [if_neg b1, if_neg b1, if_neg b2, if_neg b2]
  · rw [if_neg hc] at hx
    rw [if_neg (fun e => hc (hq.1 e))]
    unfold plainS at hx ⊢
    by_cases h58 : l.getLast? = some 58
    · rw [if_pos h58] at hx
      rw [if_pos ((last_low l).2.2 h58), ← hx, show (low l).dropLast = low l.dropLast by unfold low; rw [List.map_dropLast], low_low]
    · rw [if_neg h58] at hx
      rw [if_neg (fun e => h58 ((last_low l).2.1 e)), sp3_low]
      cases hsp : sp3 l with
      | none =>
        rw [hsp] at hx
        exact rest_low hx hp
      | some x =>
        obtain ⟨sc, r⟩ := x
        rw [hsp] at hx
        simp only [Option.map_some] at hx ⊢
        by_cases hsc : sc = []
        · rw [if_pos hsc] at hx; cases hx
        · rw [if_neg hsc] at hx
          rw [if_neg (by intro e; exact hsc (List.map_eq_nil_iff.1 e)), low_low]
          exact rest_low hx hp

/-! Lists of words. -/
def listS (L : List (List UInt8)) : List Src := L.filterMap parseS
theorem listS_append (a b : List (List UInt8)) : listS (a ++ b) = listS a ++ listS b := List.filterMap_append
theorem listS_length (L : List (List UInt8)) : (listS L).length ≤ L.length := List.length_filterMap_le _ _
theorem listS_each {L : List (List UInt8)} {a : Src} (h : a ∈ listS L) : rightS a = true ∧ parseS (wordS a) = some a := by
  obtain ⟨l, _, hl⟩ := List.mem_filterMap.1 h
  have := parse_right hl
  exact ⟨this, parse_word this⟩

end Go.Proofs.YtpmnpaopkncphaaGreatDoor

namespace Go.Proofs.YtpmnpaopkncphaaGreatDoor

def portO (l : List UInt8) : Option Int := if l = [42] then some (-1) else match numM l with | some n => if 0 < n ∧ n ≤ 65535 then some (n : Int) else none | none => none
def nameO (l : List UInt8) : Option (List UInt8 × Bool) :=
  if l = [42] then some ([], true)
  else if [42, 46].isPrefixOf l then (if l.drop 2 = [] then none else some (l.drop 2, true))
  else if l = [] then none else some (l, false)
def toldO (sc h : List UInt8) (wd : Bool) (pa rest : List UInt8) : Option Src :=
  match rest with
  | [] => some ⟨12, [], sc, h, wd, 0, pa⟩
  | _ :: ds => (portO ds).map fun p => ⟨12, [], sc, h, wd, p, pa⟩
def placeO (sc l : List UInt8) : Option Src :=
  match nameO (low (upto (isC 58) (upto (isC 47) l))) with
  | none => none
  | some (h, wd) => toldO sc h wd (past (isC 47) l) (past (isC 58) (upto (isC 47) l))
def bareK (k : Int) (t : List UInt8) : Src := ⟨k, t, [], [], false, 0, []⟩
def quotedO (m : List UInt8) : Src :=
  if beg m NON then bareK 9 (m.drop 7)
  else if beg m MRK then bareK 10 (decM (m.drop 6)).1
  else Src.zero
def keptO (l : List UInt8) : Option Int := ([1, 2, 3, 4, 5, 6, 7, 8] : List Int).find? (fun k => decide (low l = keptM k))
def cutO (l : List UInt8) : Option Src :=
  if l.head? = some 39 then
    match keptO l with
    | some k => some (bareK k [])
    | none => if l.getLast? = some 39 then some (quotedO l.dropLast) else none
  else if l.getLast? = some 58 then some ⟨11, [], low l.dropLast, [], false, 0, []⟩
  else match sp3 l with
    | some (sc, r) => if sc = [] then none else placeO (low sc) r
    | none => placeO [] l

theorem right_sport {a : Src} (hk : a.k = 12) (hp : a.p = -2) : rightS a = false := by
  unfold rightS shostM
  rw [hk, hp]
  simp
theorem sportP_O (l : List UInt8) : sportP l = (portO l).getD (-2) := by
  unfold sportP portO
  by_cases h : l = [42]
  · rw [if_pos h, if_pos h]; rfl
  · rw [if_neg h, if_neg h]
    cases numM l with
    | none => rfl
    | some n =>
      simp only []
      by_cases h1 : n = 0 ∨ 65535 < n
      · rw [if_pos h1, if_neg (by omega)]; rfl
      · rw [if_neg h1, if_pos (by omega)]; rfl
theorem low_two (l : List UInt8) : low (l.take 2) = [42, 46] ↔ [42, 46].isPrefixOf (low l) = true := by
  have hz : ∀ (c : UInt8), ((42 == lowB c) = true ↔ lowB c = 42) ∧ ((46 == lowB c) = true ↔ lowB c = 46) := byte_all (by decide +kernel)
  match l with
  | [] => simp [low]
  | [x] => simp [low]
  | x :: y :: r =>
    simp only [low, List.take_succ_cons, List.take_zero, List.map_cons, List.map_nil, List.isPrefixOf, Bool.and_true, Bool.and_eq_true, List.cons.injEq, and_true]
    rw [(hz x).1, (hz y).2]
theorem told_place (sc h : List UInt8) (wd : Bool) (pa rest : List UInt8) : (toldO sc h wd pa rest).filter rightS = (some (⟨12, [], sc, h, wd, numS rest, pa⟩ : Src)).filter rightS := by
  cases rest with
  | nil => rfl
  | cons c ds =>
    unfold toldO numS
    simp only []
    rw [sportP_O]
    cases hp : portO ds with
    | some p => rfl
    | none => simp [Option.filter, right_sport]
theorem place_O (sc l : List UInt8) : (placeO sc l).filter rightS = (restS sc l).filter rightS := by
  unfold placeO restS placeS
  generalize upto (isC 58) (upto (isC 47) l) = nm
  generalize past (isC 58) (upto (isC 47) l) = rest
  generalize past (isC 47) l = pa
  have hd : (low nm).drop 2 = low (nm.drop 2) := by unfold low; rw [List.map_drop]
  have hn : low nm = [] ↔ nm = [] := by unfold low; exact List.map_eq_nil_iff
  unfold nameO
  by_cases h1 : nm = [42]
  · subst h1
    rw [if_pos (by decide), if_neg (by decide), if_pos rfl]
    exact told_place _ _ _ _ _
  · rw [if_neg (fun e => h1 ((low_star nm).1 e))]
    by_cases h2 : low (nm.take 2) = [42, 46]
    · rw [if_pos ((low_two nm).1 h2), if_pos h2, hd]
      have h4 : low (nm.drop 2) = [] ↔ ¬ 2 < nm.length := by
        unfold low
        rw [List.map_eq_nil_iff, List.drop_eq_nil_iff]
        omega
      by_cases h3 : 2 < nm.length
      · rw [if_neg (fun e => (h4.1 e) h3), if_pos h3]
        exact told_place _ _ _ _ _
      · rw [if_pos (h4.2 h3), if_neg h3]
    · rw [if_neg (fun e => h2 ((low_two nm).2 e)), if_neg h2, if_neg h1]
      by_cases h3 : nm = []
      · rw [if_pos (hn.2 h3), h3]
        have : rightS (⟨12, [], sc, low [], false, numS rest, pa⟩ : Src) = false := by unfold rightS shostM low; simp
        simp [Option.filter, this]
      · rw [if_neg (fun e => h3 (hn.1 e))]
        exact told_place _ _ _ _ _
theorem schM_quote {l : List UInt8} (h : l.head? = some 39) : schM (low l) = false := by
  cases l with
  | nil => cases h
  | cons b l =>
    simp at h
    subst h
    rw [show low (39 :: l) = 39 :: low l from rfl, schM_cons, show small 39 = false by decide]
    simp
theorem hostM_quote {l : List UInt8} (h : l.head? = some 39) : hostM (low l) = false := by
  cases l with
  | nil => cases h
  | cons b l =>
    simp at h
    subst h
    cases hm : hostM (low (39 :: l))
    · rfl
    · have := hostM_mem hm 39 (by simp [low]; exact .inl (by decide))
      exact absurd this (by decide)
theorem upto_head {p : UInt8 → Bool} {l : List UInt8} {c : UInt8} (h : l.head? = some c) (hp : p c = false) : (upto p l).head? = some c := by
  cases l with
  | nil => cases h
  | cons b l =>
    simp at h
    subst h
    rw [(upto_step l hp).1]
    rfl
theorem sp3_head {l sc r : List UInt8} {c : UInt8} (h : l.head? = some c) (hc : c ≠ 58) (hs : sp3 l = some (sc, r)) : sc.head? = some c := by
  cases l with
  | nil => cases h
  | cons b l =>
    simp at h
    subst h
    unfold sp3 at hs
    rw [if_neg (by simp [List.isPrefixOf]; intro e; exact absurd e.symm hc)] at hs
    cases hx : sp3 l with
    | none => rw [hx] at hs; cases hs
    | some x =>
      rw [hx] at hs
      simp at hs
      rw [← hs.1]
      rfl
theorem right_sc {sc l : List UInt8} (h0 : sc ≠ []) (h : schM sc = false) : (restS sc l).filter rightS = none := by
  cases hx : restS sc l with
  | none => rfl
  | some a =>
    have hk : a.s = sc ∧ a.k = 12 := by
      unfold restS placeS at hx
      split at hx
      · split at hx
        · cases hx; exact ⟨rfl, rfl⟩
        · cases hx
      · split at hx
        · cases hx; exact ⟨rfl, rfl⟩
        · cases hx; exact ⟨rfl, rfl⟩
    have : rightS a = false := by
      unfold rightS shostM
      rw [hk.1, hk.2, h]
      have : sc.isEmpty = false := by simpa using h0
      rw [this]
      simp
    simp [Option.filter, this]
theorem plain_quote {l : List UInt8} (h : l.head? = some 39) : (plainS l).filter rightS = none := by
  unfold plainS
  by_cases h1 : l.getLast? = some 58
  · rw [if_pos h1]
    have hs : schM (low l.dropLast) = false := by
      by_cases hd : l.dropLast = []
      · rw [hd]; rfl
      · refine schM_quote ?_
        cases l with
        | nil => cases h
        | cons b l =>
          cases l with
          | nil => exact absurd rfl hd
          | cons c l => simpa using h
    have : rightS (⟨11, [], low l.dropLast, [], false, 0, []⟩ : Src) = false := by unfold rightS; simp [hs]
    simp [Option.filter, this]
  · rw [if_neg h1]
    cases hx : sp3 l with
    | some x =>
      obtain ⟨sc, r⟩ := x
      simp only []
      have hh := sp3_head h (by decide) hx
      have h0 : sc ≠ [] := by intro e; rw [e] at hh; cases hh
      rw [if_neg h0]
      exact right_sc (by intro e; exact h0 (List.map_eq_nil_iff.1 e)) (schM_quote hh)
    | none =>
      simp only []
      have hh := upto_head (p := isC 58) (upto_head (p := isC 47) h (by decide)) (by decide)
      unfold restS placeS
      generalize upto (isC 58) (upto (isC 47) l) = nm at hh
      have e1 : low (nm.take 2) ≠ [42, 46] := by
        intro e
        cases nm with
        | nil => cases hh
        | cons b nm =>
          simp at hh
          subst hh
          simp [low] at e
          exact absurd e.1 (by decide)
      have e2 : nm ≠ [42] := by rintro rfl; simp at hh
      rw [if_neg e1, if_neg e2]
      have hm := hostM_quote hh
      have : (low nm).isEmpty = false := by
        cases nm with
        | nil => cases hh
        | cons b nm => rfl
      have : ∀ p pa, rightS (⟨12, [], [], low nm, false, p, pa⟩ : Src) = false := by
        intro p pa
        unfold rightS shostM
        rw [hm, this]
        simp
      simp [Option.filter, this]
theorem beg_len {l t : List UInt8} (h : beg l t = true) : t.length ≤ l.length := by
  unfold beg at h
  have := congrArg List.length (of_decide_eq_true h)
  rw [low_length, List.length_take] at this
  omega
theorem beg_dropLast {l t : List UInt8} {c : UInt8} (hl : l.getLast? = some c) (ht : ∀ b, t.getLast? = some b → b ≠ lowB c) : beg l.dropLast t = beg l t := by
  have hd : l = l.dropLast ++ [c] := by
    have hne : l ≠ [] := by intro e; rw [e] at hl; cases hl
    have := List.dropLast_concat_getLast hne
    rw [List.getLast?_eq_some_getLast hne] at hl
    rw [Option.some.inj hl] at this
    exact this.symm
  rw [Bool.eq_iff_iff]
  constructor
  · intro h
    have hlen := beg_len h
    unfold beg at h ⊢
    rw [hd, List.take_append_of_le_length hlen]
    exact h
  · intro h
    have hlen := beg_len h
    have hlt : t.length ≤ l.dropLast.length := by
      rcases Nat.lt_or_ge l.dropLast.length t.length with hx | hx
      · exfalso
        have hl2 : l.length = t.length := by
          have : l.length = l.dropLast.length + 1 := by have := congrArg List.length hd; rw [List.length_append] at this; exact this
          omega
        unfold beg at h
        have e := of_decide_eq_true h
        rw [← hl2, List.take_length] at e
        have e2 : (low l).getLast? = some (lowB c) := by unfold low; rw [List.getLast?_map, hl]; rfl
        rw [e] at e2
        exact ht _ e2 rfl
      · exact hx
    unfold beg at h ⊢
    rw [hd, List.take_append_of_le_length hlt] at h
    exact h
theorem kept_some {l : List UInt8} {k : Int} (h : keptO l = some k) : low l = keptM k ∧ (k = 1 ∨ k = 2 ∨ k = 3 ∨ k = 4 ∨ k = 5 ∨ k = 6 ∨ k = 7 ∨ k = 8) := by
  have h1 := List.find?_some h
  have h2 := List.mem_of_find?_eq_some h
  refine ⟨of_decide_eq_true h1, ?_⟩
  simpa using h2
theorem kept_begs {k : Int} (h : k = 1 ∨ k = 2 ∨ k = 3 ∨ k = 4 ∨ k = 5 ∨ k = 6 ∨ k = 7 ∨ k = 8) : (keptM k).head? = some 39 ∧ (keptM k).getLast? = some 39 ∧ 2 ≤ (keptM k).length ∧ beg (keptM k) NON = false ∧ beg (keptM k) MRK = false := by
  rcases h with rfl | rfl | rfl | rfl | rfl | rfl | rfl | rfl <;> decide +kernel
theorem drop_dropLast' (l : List UInt8) (n : Nat) : (l.drop n).dropLast = l.dropLast.drop n := by
  rw [List.dropLast_eq_take, List.dropLast_eq_take, List.length_drop, List.drop_take]
  congr 1
  omega

/-- What the program cuts off a word, if it is right, is the source that the word tells. -/
theorem parse_O (l : List UInt8) : parseS l = (cutO l).filter rightS := by
  unfold parseS cutO
  by_cases h0 : l = []
  · subst h0
    rfl
  rw [if_neg h0]
  by_cases hh : l.head? = some 39
  · rw [if_pos hh]
    cases hk : keptO l with
    | some k =>
      obtain ⟨e1, e2⟩ := kept_some hk
      obtain ⟨k1, k2, k3, k4, k5⟩ := kept_begs e2
      rw [← e1] at k1 k2 k3 k4 k5
      rw [if_pos ⟨by rw [← low_length]; exact k3, hh, (last_low l).1.1 k2⟩]
      unfold quotedS
      rw [beg_low] at k4 k5
      rw [k4, k5]
      simp only [Bool.false_eq_true, if_false]
      unfold keptO at hk
      rw [hk]
      rfl
    | none =>
      simp only []
      by_cases hz : l.getLast? = some 39
      · rw [if_pos hz]
        by_cases h2 : 2 ≤ l.length
        · rw [if_pos ⟨h2, hh, hz⟩]
          unfold quotedS quotedO
          have ht : ∀ t : List UInt8, (t = NON ∨ t = MRK) → beg l.dropLast t = beg l t := by
            intro t ht
            refine beg_dropLast hz ?_
            rcases ht with rfl | rfl <;> intro b hb <;> (simp [NON, MRK] at hb; subst hb; decide)
          rw [ht NON (.inl rfl), ht MRK (.inr rfl), drop_dropLast', drop_dropLast']
          unfold keptO at hk
          rw [hk]
          rfl
        · rw [if_neg (fun e => h2 e.1)]
          rw [plain_quote hh]
          have hl : l = [39] := by
            cases l with
            | nil => exact absurd rfl h0
            | cons b l =>
              cases l with
              | nil => simp at hh; rw [hh]
              | cons c l => exact absurd (by simp) h2
          subst hl
          rfl
      · rw [if_neg hz, if_neg (fun e => hz e.2.2), plain_quote hh]
        rfl
  · rw [if_neg hh, if_neg (fun e => hh e.2.1)]
    unfold plainS
    by_cases h58 : l.getLast? = some 58
    · rw [if_pos h58, if_pos h58]
    · rw [if_neg h58, if_neg h58]
      cases sp3 l with
      | some x =>
        obtain ⟨sc, r⟩ := x
        simp only []
        by_cases hs : sc = []
        · rw [if_pos hs, if_pos hs]
        · rw [if_neg hs, if_neg hs]
          exact (place_O _ _).symm
      | none => exact (place_O _ _).symm

end Go.Proofs.YtpmnpaopkncphaaGreatDoor

namespace Go.Proofs.YtpmnpaopkncphaaGreatDoor

theorem schM_len {l : List UInt8} (h : schM l = true) : l.length ≤ 20 := by
  cases l with
  | nil => simp
  | cons b l =>
    rw [schM_cons] at h
    simp only [Bool.and_eq_true, decide_eq_true_eq] at h
    have := h.1.1
    simp; omega
theorem hostM_len {l : List UInt8} (h : hostM l = true) : l.length ≤ 100 := by
  unfold hostM at h
  simp only [Bool.and_eq_true, decide_eq_true_eq] at h
  exact h.1
theorem sport_len {p : Int} (h : p ≤ 65535) : (sportT p).length ≤ 6 := by
  unfold sportT
  split
  · simp
  · split
    · rw [List.length_cons, Lib.decDigits_length]
      have := nDigits_le p.toNat (by omega)
      omega
    · simp
/-- A source's word is short. -/
theorem word_len {a : Src} (h : rightS a = true) : (wordS a).length ≤ 1000 := by
  unfold rightS at h
  unfold wordS
  by_cases k9 : a.k = 9
  · rw [if_pos k9] at h ⊢
    simp only [Bool.and_eq_true, decide_eq_true_eq] at h
    have := h.1.2
    simp [NON]; omega
  rw [if_neg k9] at h ⊢
  by_cases k10 : a.k = 10
  · rw [if_pos k10] at h ⊢
    simp only [Bool.and_eq_true, decide_eq_true_eq] at h
    have := encM_length a.t
    rw [h.2] at this
    simp [MRK, this]
  rw [if_neg k10] at h ⊢
  by_cases k11 : a.k = 11
  · rw [if_pos k11] at h ⊢
    simp only [Bool.and_eq_true] at h
    have := schM_len h.2
    simp; omega
  rw [if_neg k11] at h ⊢
  by_cases k12 : a.k = 12
  · rw [if_pos k12] at h ⊢
    obtain ⟨_, h2, h3, _, _, h6, h7⟩ := shost_parts h
    have e1 : (schT a.s).length ≤ 23 := by
      unfold schT
      split
      · simp
      · rcases h2 with e | e
        · rw [e]; simp
        · have := schM_len e
          simp; omega
    have e2 : (frontS a).length ≤ 102 := by
      unfold frontS
      have : a.h.length ≤ 100 := by
        rcases h3 with e | e
        · rw [e]; simp
        · exact hostM_len e
      rw [List.length_append]
      split
      · split <;> simp <;> omega
      · simp; omega
    have e3 := sport_len h6
    have e4 : a.pa.length ≤ 200 := by
      unfold spathM at h7
      simp only [Bool.and_eq_true, decide_eq_true_eq] at h7
      exact h7.1.1
    simp only [List.length_append]
    omega
  rw [if_neg k12] at h ⊢
  simp only [Bool.and_eq_true, Bool.not_eq_true'] at h
  rcases kept_cases (k := a.k) (by intro e; rw [e] at h; cases h.1.1.1) with e | e | e | e | e | e | e | e <;> (rw [e]; decide)

end Go.Proofs.YtpmnpaopkncphaaGreatDoor

namespace Go.Proofs.YtpmnpaopkncphaaGreatDoor

structure O where
  o : Bool
  s : List UInt8
  h : List UInt8
  p : Int
  deriving DecidableEq
def O.none : O := ⟨true, [], [], 0⟩
def portU (u : U) : Int := if u.p = 0 then (dfl u.s : Int) else u.p
def originM (u : U) : O := if rightM u = true ∧ u.o = false then ⟨false, u.s, u.h, portU u⟩ else O.none
def NULL : List UInt8 := [110, 117, 108, 108]
def oportT (s : List UInt8) (p : Int) : List UInt8 := if p = (dfl s : Int) then [] else 58 :: Lib.itoa p
def otextM (x : O) : List UInt8 := if x.o then NULL else x.s ++ 58 :: 47 :: 47 :: (x.h ++ oportT x.s x.p)
def secM (u : U) : Bool := rightM u && decide (u.s = HTTPS ∨ u.s = WSS)
def sameM (a b : O) : Bool := !a.o && decide (a = b)

theorem origin_none {u : U} (h : ¬ (rightM u = true ∧ u.o = false)) : originM u = O.none := by unfold originM; rw [if_neg h]
theorem origin_some {u : U} (h : rightM u = true) (ho : u.o = false) : originM u = ⟨false, u.s, u.h, portU u⟩ := by unfold originM; rw [if_pos ⟨h, ho⟩]
theorem portU_range {u : U} (h : rightM u = true) (ho : u.o = false) : 0 ≤ portU u ∧ portU u ≤ 65535 := by
  obtain ⟨_, _, h0, h1, _⟩ := ranked_parts h ho
  unfold portU
  have := dfl_le u.s
  split <;> omega
theorem portU_inj {u v : U} (hu : rightM u = true) (hou : u.o = false) (hv : rightM v = true) (hov : v.o = false) (hs : u.s = v.s) : portU u = portU v ↔ u.p = v.p := by
  obtain ⟨_, _, _, _, h1, _⟩ := ranked_parts hu hou
  obtain ⟨_, _, _, _, h2, _⟩ := ranked_parts hv hov
  unfold portU
  rw [hs] at h1 ⊢
  split <;> split <;> omega

/-- The schemes that are ranked have no colon. -/
theorem dfl_colon {l : List UInt8} (h : dfl l ≠ 0) : ∀ b ∈ l, isC 58 b = false := by
  have := (schM_all (dfl_sch h)).2
  exact fun b hb => (schB_facts b (this b hb)).2.1
theorem itoa_inj {p q : Int} (h0 : 0 ≤ p) (h1 : 0 ≤ q) (h : Lib.itoa p = Lib.itoa q) : p = q := by
  unfold Lib.itoa at h
  rw [if_neg (by omega), if_neg (by omega)] at h
  have e : numV (Lib.decDigits p.toNat) = numV (Lib.decDigits q.toNat) := by rw [h]
  rw [(dec_spec _).2, (dec_spec _).2] at e
  omega
theorem oport_inj {s : List UInt8} {p q : Int} (h0 : 0 ≤ p) (h1 : 0 ≤ q) (h : oportT s p = oportT s q) : p = q := by
  unfold oportT at h
  split at h <;> split at h
  · omega
  · cases h
  · cases h
  · exact itoa_inj h0 h1 (List.cons.inj h).2
/-- What stands ahead of the first colon is told by the whole, and what stands behind it. -/
theorem ahead_inj {p : UInt8 → Bool} {a a' r r' : List UInt8} (ha : ∀ b ∈ a, p b = false) (ha' : ∀ b ∈ a', p b = false) (hr : r = [] ∨ ∃ c t, r = c :: t ∧ p c = true) (hr' : r' = [] ∨ ∃ c t, r' = c :: t ∧ p c = true) (h : a ++ r = a' ++ r') : a = a' ∧ r = r' := by
  have k : ∀ {a r : List UInt8}, (∀ b ∈ a, p b = false) → (r = [] ∨ ∃ c t, r = c :: t ∧ p c = true) → upto p (a ++ r) = a ∧ past p (a ++ r) = r := by
    intro a r ha hr
    obtain ⟨e1, e2⟩ := upto_append r ha
    rcases hr with rfl | ⟨c, t, rfl, hc⟩
    · rw [e1, e2]; simp [upto, past]
    · obtain ⟨f1, f2⟩ := upto_stop (p := p) t hc
      rw [e1, e2, f1, f2]; simp
  obtain ⟨e1, e2⟩ := k ha hr
  obtain ⟨f1, f2⟩ := k ha' hr'
  rw [h] at e1 e2
  exact ⟨e1.symm.trans f1, e2.symm.trans f2⟩
theorem oport_form (s : List UInt8) (p : Int) : oportT s p = [] ∨ ∃ c t, oportT s p = c :: t ∧ isC 58 c = true := by
  unfold oportT
  split
  · exact .inl rfl
  · exact .inr ⟨58, _, rfl, rfl⟩
theorem null_colon : ∀ b ∈ NULL, isC 58 b = false := by decide
/-- Texts of two origins of addresses are the same just if the origins are. -/
theorem origin_texts (u v : U) : otextM (originM u) = otextM (originM v) ↔ originM u = originM v := by
  constructor
  case mpr => intro h; rw [h]
  intro h
  have no : ∀ {w : U}, rightM w = true ∧ w.o = false → otextM (originM w) ≠ NULL := by
    intro w ⟨hr, ho⟩ e
    rw [origin_some hr ho] at e
    have : (58 : UInt8) ∈ NULL := by rw [← e]; simp [otextM]
    revert this; decide
  by_cases hu : rightM u = true ∧ u.o = false
  · by_cases hv : rightM v = true ∧ v.o = false
    · obtain ⟨u1, u2, _⟩ := ranked_parts hu.1 hu.2
      obtain ⟨v1, v2, _⟩ := ranked_parts hv.1 hv.2
      have pu := (portU_range hu.1 hu.2).1
      have pv := (portU_range hv.1 hv.2).1
      rw [origin_some hu.1 hu.2, origin_some hv.1 hv.2] at h ⊢
      have h' : u.s ++ 58 :: 47 :: 47 :: (u.h ++ oportT u.s (portU u)) = v.s ++ 58 :: 47 :: 47 :: (v.h ++ oportT v.s (portU v)) := h
      obtain ⟨e1, e2⟩ := ahead_inj (p := isC 58) (dfl_colon u1) (dfl_colon v1) (.inr ⟨58, _, rfl, rfl⟩) (.inr ⟨58, _, rfl, rfl⟩) h'
      have e3 : u.h ++ oportT u.s (portU u) = v.h ++ oportT v.s (portU v) := by simpa using e2
      obtain ⟨e4, e5⟩ := ahead_inj (p := isC 58) (fun b hb => (nameB_facts b (hostM_mem u2 b hb)).2.1) (fun b hb => (nameB_facts b (hostM_mem v2 b hb)).2.1) (oport_form _ _) (oport_form _ _) e3
      rw [e1] at e5
      rw [e1, e4, oport_inj pu pv e5]
    · rw [origin_none hv] at h
      exact absurd h (no hu)
  · by_cases hv : rightM v = true ∧ v.o = false
    · rw [origin_none hu] at h
      exact absurd h.symm (no hv)
    · rw [origin_none hu, origin_none hv]

/-- What an address leaves where its path and query are taken away. -/
def bareU (u : U) : U := ⟨u.o, u.s, u.h, u.p, [47], []⟩
theorem bare_right {u : U} (h : rightM u = true) (ho : u.o = false) : rightM (bareU u) = true := by
  obtain ⟨a1, a2, a3, a4, a5, a6, _⟩ := ranked_parts h ho
  obtain ⟨r, hr, _⟩ := path_parts a6
  have hl := right_len h
  have e1 : (bareU u).o = false := ho
  unfold rightM
  rw [e1]
  have e2 : rankedM (bareU u) = true := by
    have p1 : pathM [47] = true := by decide +kernel
    unfold rankedM bareU
    simp only [Bool.and_eq_true, decide_eq_true_eq]
    exact ⟨⟨⟨⟨⟨⟨a1, a2⟩, a3⟩, a4⟩, a5⟩, p1⟩, rfl⟩
  have e3 : (textM (bareU u)).length ≤ (textM u).length := by
    unfold textM
    rw [e1, ho]
    simp only [bareU, Bool.false_eq_true, if_false, List.length_append, List.length_cons, hr]
    simp
    omega
  simp only [Bool.false_eq_true, if_false, Bool.and_eq_true, decide_eq_true_eq]
  exact ⟨e2, by omega⟩
theorem bare_origin {u : U} (h : rightM u = true) (ho : u.o = false) : originM (bareU u) = originM u := by
  rw [origin_some h ho, origin_some (bare_right h ho) ho]; rfl
theorem bare_sec {u : U} (h : rightM u = true) (ho : u.o = false) : secM (bareU u) = secM u := by
  unfold secM; rw [bare_right h ho, h]; rfl
/-- What is secure is what comes from a place with such a scheme. -/
theorem sec_origin (u : U) : secM u = (!(originM u).o && decide ((originM u).s = HTTPS ∨ (originM u).s = WSS)) := by
  by_cases hu : rightM u = true ∧ u.o = false
  · rw [origin_some hu.1 hu.2]; unfold secM; rw [hu.1]; rfl
  · rw [origin_none hu]
    show secM u = false
    unfold secM
    cases hr : rightM u
    · rfl
    · have ho : u.o = true := by
        cases ho : u.o
        · exact absurd ⟨hr, ho⟩ hu
        · rfl
      have hd := (opaque_parts hr ho).2.1
      have : ¬ (u.s = HTTPS ∨ u.s = WSS) := by
        rintro (e | e) <;> (rw [e] at hd; revert hd; decide +kernel)
      simp [this]
theorem origin_apart {u v : U} (hu : rightM u = true) (hou : u.o = false) (hv : rightM v = true) (hov : v.o = false) : sameM (originM u) (originM v) = (decide (u.s = v.s) && decide (u.h = v.h) && decide (u.p = v.p)) := by
  rw [origin_some hu hou, origin_some hv hov]
  unfold sameM
  simp only [O.mk.injEq, true_and, Bool.not_false, Bool.true_and]
  by_cases hs : u.s = v.s
  · have := portU_inj hu hou hv hov hs
    simp [hs, this]
  · simp [hs]

end Go.Proofs.YtpmnpaopkncphaaGreatDoor
