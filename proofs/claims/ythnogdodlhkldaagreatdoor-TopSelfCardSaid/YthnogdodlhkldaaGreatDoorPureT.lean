/- What two further laws need of what stands ahead. -/
import Derived.Test.YthnogdodlhkldaaGreatDoorPureA
import Derived.Test.YthnogdodlhkldaaGreatDoorPureC
import Derived.Test.YthnogdodlhkldaaGreatDoorShelf
import Derived.Test.YthnogdodlhkldaaGreatDoorWalkX
import Derived.Test.YthnogdodlhkldaaGreatDoorRefZ
import Derived.Test.YthnogdodlhkldaaGreatDoorFoldZ
import Derived.Test.YthnogdodlhkldaaGreatDoorChA
import Derived.Test.YthnogdodlhkldaaGreatDoorWalkF
import Derived.Test.YthnogdodlhkldaaGreatDoorShelfB
import Derived.Test.YthnogdodlhkldaaGreatDoorWalkG
import Derived.Test.YthnogdodlhkldaaGreatDoorWalkZ
import Derived.Test.YthnogdodlhkldaaGreatDoorAny5
import Derived.Test.YthnogdodlhkldaaGreatDoorShelfC
import Derived.Test.YthnogdodlhkldaaGreatDoorBaseZ
import Derived.Test.YthnogdodlhkldaaGreatDoorRefSZ
import Derived.Test.YthnogdodlhkldaaGreatDoorSrcY
import Derived.Test.YthnogdodlhkldaaGreatDoorSrcF
import Derived.Test.YthnogdodlhkldaaGreatDoorSrcG
import Derived.Test.YthnogdodlhkldaaGreatDoorSrcZ
import Derived.Test.YthnogdodlhkldaaGreatDoorBigY
import Derived.Test.YthnogdodlhkldaaGreatDoorMarkZ
import Derived.Test.YthnogdodlhkldaaGreatDoorLstQ
import Derived.Test.YthnogdodlhkldaaGreatDoorRefHZ
import Derived.Test.YthnogdodlhkldaaGreatDoorHdZ
import Derived.Test.YthnogdodlhkldaaGreatDoorHdX
import Derived.Test.YthnogdodlhkldaaGreatDoorChB
import Derived.Test.YthnogdodlhkldaaGreatDoorOrgZ
import Derived.Test.YthnogdodlhkldaaGreatDoorMtZ
import Derived.Test.YthnogdodlhkldaaGreatDoorWalkY
import Derived.Test.YthnogdodlhkldaaGreatDoorRefC
import Derived.Test.YthnogdodlhkldaaGreatDoorRefD
import Derived.Test.YthnogdodlhkldaaGreatDoorRefOY
import Derived.Test.YthnogdodlhkldaaGreatDoorMtY
import Derived.Test.YthnogdodlhkldaaGreatDoorAlwZ
import Derived.Test.YthnogdodlhkldaaGreatDoorChC
import Derived.Test.YthnogdodlhkldaaGreatDoorChI
import Derived.Test.YthnogdodlhkldaaGreatDoorChD
import Derived.Test.YthnogdodlhkldaaGreatDoorChE
import Derived.Test.YthnogdodlhkldaaGreatDoorChF
import Derived.Test.YthnogdodlhkldaaGreatDoorChG
import Derived.Test.YthnogdodlhkldaaGreatDoorChH
namespace Go.Proofs.YthnogdodlhkldaaGreatDoor
open Go.RowKit Go.Shelf

theorem dropWhile_nil_or (p : UInt8 → Bool) (l : List UInt8) : l.dropWhile p = [] ∨ ∃ b t, l.dropWhile p = b :: t ∧ p b = false := by
  induction l with
  | nil => exact .inl rfl
  | cons b l ih =>
    rw [List.dropWhile_cons]
    cases hb : p b
    · exact .inr ⟨b, l, by simp, hb⟩
    · simpa using ih
theorem dropWhile_id (p : UInt8 → Bool) (l : List UInt8) (h : ∀ b t, l = b :: t → p b = false) : l.dropWhile p = l := by
  cases l with
  | nil => rfl
  | cons b t => rw [List.dropWhile_cons, if_neg (by simp [h b t rfl])]
/-- What a text without blanks at both ends looks like. -/
def Ends (l : List UInt8) : Prop := (∀ b t, l = b :: t → blk b = false) ∧ (∀ b t, l = t ++ [b] → blk b = false)
theorem trim_of_ends {l : List UInt8} (h : Ends l) : trim l = l := by
  unfold trim Lib.trimS Lib.trimLeftS Lib.trimRightS
  have e1 : l.reverse.dropWhile ([9, 10, 12, 13, 32].contains ·) = l.reverse := by
    refine dropWhile_id _ _ fun b t e => ?_
    exact h.2 b t.reverse (by have := congrArg List.reverse e; simpa using this)
  rw [e1, List.reverse_reverse]
  exact dropWhile_id _ _ fun b t e => h.1 b t e
theorem trim_ends (l : List UInt8) : Ends (trim l) := by
  constructor
  · intro b t e
    unfold trim Lib.trimS at e
    rcases dropWhile_nil_or ([9, 10, 12, 13, 32].contains ·) (Lib.trimRightS l [9, 10, 12, 13, 32]) with h | ⟨b', t', h, hb⟩
    · unfold Lib.trimLeftS at e; rw [h] at e; cases e
    · unfold Lib.trimLeftS at e; rw [h] at e; cases e; exact hb
  · intro b t e
    unfold trim Lib.trimS at e
    obtain ⟨a, ha, _⟩ := dropWhile_suffix ([9, 10, 12, 13, 32].contains ·) (Lib.trimRightS l [9, 10, 12, 13, 32])
    have h2 : Lib.trimRightS l [9, 10, 12, 13, 32] = (a ++ t) ++ [b] := by rw [List.append_assoc, ← e]; exact ha
    unfold Lib.trimRightS at h2
    rcases dropWhile_nil_or ([9, 10, 12, 13, 32].contains ·) l.reverse with h | ⟨b', t', h, hb⟩
    · rw [h] at h2; simp at h2
    · rw [h] at h2
      have := congrArg List.reverse h2
      simp at this
      rw [← this.1]; exact hb
theorem trim_all_blank (l : List UInt8) (h : ∀ b ∈ l, blk b = true) : trim l = [] := by
  rcases hE : trim l with _ | ⟨b, t⟩
  · rfl
  · have h1 := (trim_ends l).1 b t hE
    obtain ⟨a, z, h2, _⟩ := trim_form l
    have hm : b ∈ l := by rw [h2, hE]; simp
    rw [h b hm] at h1; cases h1
theorem ends_unique {a m z a' m' z' : List UInt8} (h : a ++ m ++ z = a' ++ m' ++ z') (ha : ∀ b ∈ a, blk b = true) (hz : ∀ b ∈ z, blk b = true) (ha' : ∀ b ∈ a', blk b = true) (hz' : ∀ b ∈ z', blk b = true) (hm : Ends m) (hm' : Ends m') (hn : m ≠ []) (hn' : m' ≠ []) : m = m' := by
  have len : a.length = a'.length := by
    rcases Nat.lt_trichotomy a.length a'.length with h1 | h1 | h1
    · exfalso
      obtain ⟨b, t, rfl⟩ := List.exists_cons_of_ne_nil hn
      have e := congrArg (fun l : List UInt8 => l[a.length]?) h
      simp only [List.append_assoc] at e
      rw [List.getElem?_append_right (Nat.le_refl _), Nat.sub_self] at e
      rw [List.getElem?_append_left h1] at e
      simp at e
      have := ha' _ (List.mem_of_getElem? e.symm)
      rw [hm.1 b t rfl] at this; cases this
    · exact h1
    · exfalso
      obtain ⟨b, t, rfl⟩ := List.exists_cons_of_ne_nil hn'
      have e := congrArg (fun l : List UInt8 => l[a'.length]?) h
      simp only [List.append_assoc] at e
      rw [List.getElem?_append_left h1] at e
      rw [List.getElem?_append_right (Nat.le_refl _), Nat.sub_self] at e
      simp at e
      have := ha _ (List.mem_of_getElem? e)
      rw [hm'.1 b t rfl] at this; cases this
  simp only [List.append_assoc] at h
  obtain ⟨rfl, h2⟩ := List.append_inj h len
  have len2 : z.length = z'.length := by
    have hlen := congrArg List.length h2
    simp at hlen
    rcases Nat.lt_trichotomy m.length m'.length with h1 | h1 | h1
    · exfalso
      obtain ⟨t, b, rfl⟩ : ∃ t b, m' = t ++ [b] := ⟨m'.dropLast, m'.getLast hn', (List.dropLast_concat_getLast hn').symm⟩
      have e := congrArg (fun l : List UInt8 => l[t.length]?) h2
      simp only [List.append_assoc] at e
      rw [List.getElem?_append_right (by simp at h1; omega)] at e
      rw [List.getElem?_append_right (Nat.le_refl _), Nat.sub_self] at e
      simp at e
      have := hz _ (List.mem_of_getElem? e)
      rw [hm'.2 b t rfl] at this; cases this
    · omega
    · exfalso
      obtain ⟨t, b, rfl⟩ : ∃ t b, m = t ++ [b] := ⟨m.dropLast, m.getLast hn, (List.dropLast_concat_getLast hn).symm⟩
      have ht : m'.length ≤ t.length := by simp at h1; omega
      have e : (t ++ [b] ++ z)[t.length]? = (m' ++ z')[t.length]? := congrArg (fun l : List UInt8 => l[t.length]?) h2
      rw [List.getElem?_append_right ht, List.append_assoc, List.getElem?_append_right (Nat.le_refl _), Nat.sub_self] at e
      simp at e
      have := hz' _ (List.mem_of_getElem? e.symm)
      rw [hm.2 b t rfl] at this; cases this
  exact (List.append_inj' h2 len2).1
/-- What is trimmed is known by its shape. -/
theorem trim_unique {a m z : List UInt8} (ha : ∀ b ∈ a, blk b = true) (hz : ∀ b ∈ z, blk b = true) (hm : Ends m) : trim (a ++ m ++ z) = m := by
  obtain ⟨a', z', h, ha', hz'⟩ := trim_form (a ++ m ++ z)
  by_cases hn : m = []
  · subst hn
    refine trim_all_blank _ fun b hb => ?_
    simp at hb
    rcases hb with hb | hb
    · exact ha b hb
    · exact hz b hb
  · by_cases hn' : trim (a ++ m ++ z) = []
    · exfalso
      rw [hn'] at h
      obtain ⟨b, t, rfl⟩ := List.exists_cons_of_ne_nil hn
      have hb : b ∈ a' ++ [] ++ z' := by rw [← h]; simp
      simp at hb
      have := hm.1 b t rfl
      rcases hb with hb | hb
      · rw [ha' b hb] at this; cases this
      · rw [hz' b hb] at this; cases this
    · exact (ends_unique h ha hz ha' hz' hm (trim_ends _) hn hn').symm
def isE (b : UInt8) : Bool := b == 47 || b == 63
theorem schB_facts (b : UInt8) : schB b = true → lowB b = b ∧ isC 58 b = false ∧ isC 35 b = false ∧ blk b = false := by revert b; exact byte_all (by decide +kernel)
theorem nameB_facts (b : UInt8) : (nameB b || dot b) = true → lowB b = b ∧ isC 58 b = false ∧ isC 35 b = false ∧ isE b = false := by revert b; exact byte_all (by decide +kernel)
theorem low_id {l : List UInt8} (h : ∀ b ∈ l, lowB b = b) : low l = l := by
  induction l with
  | nil => rfl
  | cons b l ih =>
    show lowB b :: low l = b :: l
    rw [h b (by simp), ih (fun x hx => h x (by simp [hx]))]
theorem schM_all {l : List UInt8} (h : schM l = true) : l ≠ [] ∧ ∀ b ∈ l, schB b = true := by
  cases l with
  | nil => cases h
  | cons c l =>
    rw [schM_cons, Bool.and_eq_true, List.all_eq_true] at h
    exact ⟨by simp, h.2⟩
theorem schM_low {l : List UInt8} (h : schM l = true) : low l = l := low_id fun b hb => (schB_facts b ((schM_all h).2 b hb)).1
theorem digit_ofNat (k : Nat) (h : k < 10) : digit (UInt8.ofNat (48 + k)) = true ∧ (UInt8.ofNat (48 + k)).toNat - 48 = k :=
  (show ∀ k : Fin 10, digit (UInt8.ofNat (48 + k.val)) = true ∧ (UInt8.ofNat (48 + k.val)).toNat - 48 = k.val by decide +kernel) ⟨k, h⟩
theorem dec_spec (u : Nat) : (∀ b ∈ Lib.decDigits u, digit b = true) ∧ numV (Lib.decDigits u) = u := by
  induction u using Nat.strongRecOn with
  | _ u ih =>
    by_cases h : u < 10
    · rw [Lib.decDigits, dif_pos h]
      obtain ⟨h1, h2⟩ := digit_ofNat u h
      refine ⟨fun b hb => by rw [List.mem_singleton.1 hb]; exact h1, ?_⟩
      show 0 * 10 + ((UInt8.ofNat (48 + u)).toNat - 48) = u
      rw [h2]; omega
    · rw [Lib.decDigits, dif_neg h]
      obtain ⟨h1, h2⟩ := digit_ofNat (u % 10) (by omega)
      obtain ⟨g1, g2⟩ := ih (u / 10) (by omega)
      refine ⟨fun b hb => ?_, ?_⟩
      · rcases List.mem_append.1 hb with hb | hb
        · exact g1 b hb
        · rw [List.mem_singleton.1 hb]; exact h1
      · unfold numV at g2 ⊢
        rw [List.foldl_append, g2]
        show u / 10 * 10 + ((UInt8.ofNat (48 + u % 10)).toNat - 48) = u
        rw [h2]; omega
theorem nDigits_le (u : Nat) (h : u ≤ 65535) : Lib.nDigits u ≤ 5 := by
  rcases Nat.lt_or_ge u 10 with h1 | h1
  · rw [Lib.nDigits_small h1]; omega
  rcases Nat.lt_or_ge u 100 with h2 | h2
  · rw [Lib.nDigits_unique 1 u (by simpa using h1) (by simpa using h2)]; omega
  rcases Nat.lt_or_ge u 1000 with h3 | h3
  · rw [Lib.nDigits_unique 2 u (by simpa using h2) (by simpa using h3)]; omega
  rcases Nat.lt_or_ge u 10000 with h4 | h4
  · rw [Lib.nDigits_unique 3 u (by simpa using h3) (by simpa using h4)]; omega
  · rw [Lib.nDigits_unique 4 u (by simpa using h4) (by omega)]; omega
theorem numM_dec (u : Nat) (h : u ≤ 65535) : numM (Lib.decDigits u) = some u := by
  obtain ⟨h1, h2⟩ := dec_spec u
  have h3 := nDigits_le u h
  have h4 := Lib.nDigits_pos u
  rw [← Lib.decDigits_length] at h3 h4
  unfold numM
  rw [if_neg, h2]
  rintro (e | e | e)
  · rw [e] at h4; cases h4
  · omega
  · rw [List.all_eq_true.2 h1] at e; cases e

theorem ranked_parts {u : U} (h : rightM u = true) (ho : u.o = false) : dfl u.s ≠ 0 ∧ hostM u.h = true ∧ 0 ≤ u.p ∧ u.p ≤ 65535 ∧ u.p ≠ (dfl u.s : Int) ∧ pathM u.pa = true ∧ queryM u.q = true := by
  unfold rightM at h
  rw [ho] at h
  simp only [Bool.false_eq_true, if_false, rankedM, Bool.and_eq_true, decide_eq_true_eq] at h
  obtain ⟨⟨⟨⟨⟨⟨⟨h1, h2⟩, h3⟩, h4⟩, h5⟩, h6⟩, h7⟩, h8⟩ := h
  exact ⟨h1, h2, h3, h4, h5, h6, h7⟩
theorem num_bitsN (t x : Nat) (h : x < 2 ^ t) : num (bitsN t x) = x := by
  induction t generalizing x with
  | zero =>
    have : x = 0 := by simpa using h
    subst this; rfl
  | succ k ih =>
    rw [Nat.pow_succ] at h
    rw [bitsN, num_snoc, ih (x / 2) (by omega)]
    rcases Nat.mod_two_eq_zero_or_one x with e | e
    · rw [e]; simp; omega
    · rw [e]; simp; omega
theorem flat_nil (t : Nat) : flat t [] = [] := rfl
theorem fold_less (t : Nat) (m : List Nat) (h b : List Bool) (hl : h.length + b.length < t) : b.foldl (stepG t) (m, h) = (m, h ++ b) := by
  induction b generalizing h with
  | nil => simp
  | cons c b ih =>
    rw [List.length_cons] at hl
    rw [List.foldl_cons]
    have : stepG t (m, h) c = (m, h ++ [c]) := by unfold stepG; rw [if_neg (by simp; omega)]
    rw [this, ih (h ++ [c]) (by simp; omega)]
    simp
theorem fold_one (t : Nat) (m : List Nat) (b : List Bool) (hl : b.length = t) (h0 : 0 < t) : b.foldl (stepG t) (m, []) = (m ++ [num b], []) := by
  induction b using snoc_ind with
  | h0 => simp at hl; omega
  | hs l c _ =>
    rw [List.length_append, List.length_singleton] at hl
    rw [List.foldl_append, fold_less t m [] l (by simp; omega)]
    simp only [List.nil_append, List.foldl_cons, List.foldl_nil]
    unfold stepG
    rw [if_pos hl]
theorem fold_flat (t : Nat) (h0 : 0 < t) (m a : List Nat) (ha : ∀ x ∈ a, x < 2 ^ t) : (flat t a).foldl (stepG t) (m, []) = (m ++ a, []) := by
  induction a generalizing m with
  | nil => simp [flat_nil]
  | cons x a ih =>
    rw [flat_cons, List.foldl_append, fold_one t m _ (bitsN_length t x) h0, num_bitsN t x (ha x (by simp)), ih _ (fun y hy => ha y (by simp [hy]))]
    simp
/-- Groups and what is left are told by the bits. -/
theorem grp_of (t : Nat) (h0 : 0 < t) (m : List Nat) (h : List Bool) (hm : ∀ x ∈ m, x < 2 ^ t) (hl : h.length < t) : grp t (flat t m ++ h) = (m, h) := by
  unfold grp
  rw [List.foldl_append, fold_flat t h0 [] m hm, List.nil_append, fold_less t m [] h (by simpa using hl), List.nil_append]
def sgn (n : Nat) : UInt8 := SG.getD n 0
theorem val_sgn (n : Nat) (h : n < 64) : val (sgn n) = n := by
  have : ∀ m : Fin 64, val (sgn m.val) = (m.val : Int) := by decide +kernel
  exact this ⟨n, h⟩
theorem val_fill : val 61 = -1 := by decide +kernel
def nat8 (s : List UInt8) : List Nat := s.map UInt8.toNat
def encN (s : List UInt8) : List Nat :=
  (grp 6 (flat 8 (nat8 s))).1 ++ (if (grp 6 (flat 8 (nat8 s))).2.length = 0 then [] else [num (grp 6 (flat 8 (nat8 s))).2 * 2 ^ (6 - (grp 6 (flat 8 (nat8 s))).2.length)])
def fill (n : Nat) : List UInt8 := List.replicate ((4 - n % 4) % 4) 61
def encM (s : List UInt8) : List UInt8 := (encN s).map sgn ++ fill (encN s).length

theorem nat8_lt (s : List UInt8) : ∀ x ∈ nat8 s, x < 2 ^ 8 := by
  intro x hx
  obtain ⟨b, _, rfl⟩ := List.mem_map.1 hx
  exact b.toNat_lt
theorem num_zeros (l : List Bool) (k : Nat) : num (l ++ List.replicate k false) = num l * 2 ^ k := by
  induction k with
  | zero => simp
  | succ k ih =>
    rw [List.replicate_succ', ← List.append_assoc, num_snoc, ih, Nat.pow_succ]
    simp only [Bool.toNat_false, Nat.add_zero]
    rw [Nat.mul_comm 2, Nat.mul_assoc]
theorem enc_spec (s : List UInt8) : (∃ k, k < 6 ∧ flat 6 (encN s) = flat 8 (nat8 s) ++ List.replicate k false) ∧ ∀ x ∈ encN s, x < 2 ^ 6 := by
  obtain ⟨h1, h2, h3⟩ := grp_spec 6 (by decide) (flat 8 (nat8 s))
  unfold encN
  generalize grp 6 (flat 8 (nat8 s)) = p at *
  obtain ⟨m, h⟩ := p
  simp only at *
  by_cases e : h.length = 0
  · rw [if_pos e, List.append_nil]
    have : h = [] := List.length_eq_zero_iff.1 e
    subst this
    exact ⟨⟨0, by decide, by rw [h1]; simp⟩, h3⟩
  · rw [if_neg e]
    have el : (h ++ List.replicate (6 - h.length) false).length = 6 := by simp; omega
    have eb : bitsN 6 (num h * 2 ^ (6 - h.length)) = h ++ List.replicate (6 - h.length) false := by
      rw [← num_zeros]
      have := bitsN_num (h ++ List.replicate (6 - h.length) false)
      rw [el] at this
      exact this
    refine ⟨⟨6 - h.length, by omega, ?_⟩, fun x hx => ?_⟩
    · rw [flat_append, flat_one, eb, h1, List.append_assoc]
    · simp only [List.mem_append, List.mem_singleton] at hx
      rcases hx with hx | rfl
      · exact h3 x hx
      · rw [← num_zeros]
        have := num_lt (h ++ List.replicate (6 - h.length) false)
        rw [el] at this
        exact this
theorem enc_length (s : List UInt8) : (encN s).length = (8 * s.length + 5) / 6 := by
  obtain ⟨⟨k, hk, h1⟩, _⟩ := enc_spec s
  have l2 := congrArg List.length h1
  rw [List.length_append, List.length_replicate, flat_length, flat_length] at l2
  simp only [nat8, List.length_map] at l2
  omega
theorem fill_length (n : Nat) : (fill n).length = (4 - n % 4) % 4 := by simp [fill]
theorem encM_length (s : List UInt8) : (encM s).length = (s.length + 2) / 3 * 4 := by
  unfold encM
  rw [List.length_append, List.length_map, fill_length, enc_length]
  omega
theorem hd_fill (l : List UInt8) (k : Nat) : hd (l ++ List.replicate k 61) = hd l := by
  induction k with
  | zero => simp
  | succ k ih => rw [List.replicate_succ', ← List.append_assoc, hd_snoc, if_pos rfl, ih]
theorem hd_endless (l : List UInt8) (h : endless l) : hd l = l := by
  induction l using snoc_ind with
  | h0 => rfl
  | hs l b _ =>
    rw [hd_snoc, if_neg (h b (by simp))]
theorem hd_of (l : List UInt8) (k : Nat) (h : endless l) : hd (l ++ List.replicate k 61) = l := by
  rw [hd_fill, hd_endless l h]
theorem good_of {h : List UInt8} (e : ∀ c ∈ h, 0 ≤ val c) : good h = true := List.all_eq_true.2 fun c hc => by simpa using e c hc
theorem good_endless {h : List UInt8} (e : good h = true) : endless h := by
  intro b hb e61
  subst e61
  have := good_mem e 61 (List.mem_of_getLast? hb)
  rw [val_fill] at this
  omega
theorem good_sgn {v : List Nat} (h : ∀ x ∈ v, x < 2 ^ 6) : good (v.map sgn) = true := good_of fun c hc => by
  obtain ⟨x, hx, rfl⟩ := List.mem_map.1 hc
  rw [val_sgn x (h x hx)]; omega
theorem map_valN_sgn {v : List Nat} (h : ∀ x ∈ v, x < 2 ^ 6) : (v.map sgn).map valN = v := by
  rw [List.map_map]
  have : ∀ x ∈ v, (valN ∘ sgn) x = x := fun x hx => by
    show valN (sgn x) = x
    unfold valN
    rw [val_sgn x (h x hx)]; simp
  rw [List.map_congr_left this, List.map_id']
theorem nat8_back (s : List UInt8) : (nat8 s).map Nat.toUInt8 = s := by
  unfold nat8
  rw [List.map_map]
  have : ∀ x ∈ s, (Nat.toUInt8 ∘ UInt8.toNat) x = x := fun x _ => by simp
  rw [List.map_congr_left this, List.map_id']
theorem num_zero (k : Nat) : num (List.replicate k false) = 0 := by
  have := num_zeros [] k
  rw [List.nil_append] at this
  rw [this]; simp [num]

theorem hd_encM (s : List UInt8) : hd (encM s) = (encN s).map sgn := by
  obtain ⟨_, h⟩ := enc_spec s
  exact hd_of _ _ (good_endless (good_sgn h))
theorem form_encM (s : List UInt8) : formM (encM s) = decide (s ≠ []) := by
  by_cases e : s = []
  · subst e; decide
  · have h0 : s.length ≠ 0 := fun h => e (List.length_eq_zero_iff.1 h)
    have l1 := enc_length s
    have l2 := encM_length s
    rw [decide_eq_true e]
    unfold formM
    rw [hd_encM, good_sgn (enc_spec s).2, List.length_map]
    have : (encN s).map sgn ≠ [] := fun h => by
      have := congrArg List.length h
      rw [List.length_map, List.length_nil] at this
      omega
    have e1 : ((encN s).map sgn).isEmpty = false := by
      cases h : (encN s).map sgn with
      | nil => exact absurd h this
      | cons => rfl
    rw [e1, decide_eq_true (by omega)]
    rfl
/-- What is encoded is decoded. -/
theorem dec_enc (s : List UInt8) : decM (encM s) = (s, true) := by
  by_cases e : s = []
  · subst e; decide
  · have h0 : s.length ≠ 0 := fun h => e (List.length_eq_zero_iff.1 h)
    have l2 := encM_length s
    have hne : encM s ≠ [] := fun h => by rw [h] at l2; simp at l2; omega
    obtain ⟨⟨k, hk, h1⟩, h2⟩ := enc_spec s
    unfold decM
    rw [if_neg hne, if_neg (by rw [form_encM, decide_eq_true e]; simp), if_neg (by omega), hd_encM]
    have hb : bits6 ((encN s).map sgn) = flat 8 (nat8 s) ++ List.replicate k false := by
      unfold bits6
      rw [map_valN_sgn h2, h1]
    rw [hb, grp_of 8 (by decide) _ _ (nat8_lt s) (by simp; omega)]
    simp only
    rw [if_neg (by rw [num_zero]; simp; omega), nat8_back]
def sportT (p : Int) : List UInt8 := if p < 0 then [58, 42] else if 0 < p then 58 :: Lib.decDigits p.toNat else []
def frontS (a : Src) : List UInt8 := (if a.w then 42 :: (if a.h.isEmpty then [] else [46]) else []) ++ a.h
def schT (l : List UInt8) : List UInt8 := if l.isEmpty then [] else l ++ [58, 47, 47]
def wordS (a : Src) : List UInt8 :=
  if a.k = 9 then NON ++ (a.t ++ [39])
  else if a.k = 10 then MRK ++ (encM a.t ++ [39])
  else if a.k = 11 then a.s ++ [58]
  else if a.k = 12 then schT a.s ++ (frontS a ++ (sportT a.p ++ a.pa))
  else keptM a.k

theorem bare_parts {a : Src} (h : bareS a = true) : a.h = [] ∧ a.w = false ∧ a.p = 0 ∧ a.pa = [] := by
  unfold bareS at h
  simp only [Bool.and_eq_true, List.isEmpty_iff, decide_eq_true_eq, Bool.not_eq_true'] at h
  obtain ⟨⟨⟨h1, h2⟩, h3⟩, h4⟩ := h
  exact ⟨h1, h2, h3, h4⟩
theorem shost_parts {a : Src} (h : shostM a = true) : a.t = [] ∧ (a.s = [] ∨ schM a.s = true) ∧ (a.h = [] ∨ hostM a.h = true) ∧ (a.h ≠ [] ∨ a.w = true) ∧ -1 ≤ a.p ∧ a.p ≤ 65535 ∧ spathM a.pa = true := by
  unfold shostM at h
  simp only [Bool.and_eq_true, Bool.or_eq_true, List.isEmpty_iff, decide_eq_true_eq, Bool.not_eq_true'] at h
  obtain ⟨⟨⟨⟨⟨h1, h2⟩, h3⟩, h4⟩, h5, h6⟩, h7⟩ := h
  refine ⟨h1, h2, h3, ?_, h5, h6, h7⟩
  rcases h4 with h4 | h4
  · exact .inl (by intro e; rw [e] at h4; cases h4)
  · exact .inr h4
theorem spath_parts {l : List UInt8} (h : spathM l = true) : (l = [] ∨ ∃ r, l = 47 :: r) ∧ ∀ b ∈ l, inS b = true := by
  unfold spathM at h
  simp only [Bool.and_eq_true, Bool.or_eq_true, List.isEmpty_iff, List.all_eq_true] at h
  obtain ⟨⟨_, h2⟩, h3⟩ := h
  refine ⟨?_, h3⟩
  rcases h2 with h2 | h2
  · exact .inl h2
  · cases l with
    | nil => exact .inl rfl
    | cons b r => right; simp at h2; exact ⟨r, by rw [h2]⟩
theorem inS_facts (b : UInt8) : inS b = true → isC 58 b = false ∧ b ≠ 58 := by revert b; exact byte_all (by decide +kernel)
theorem schB_src (b : UInt8) : schB b = true → b ≠ 58 ∧ b ≠ 39 ∧ isC 47 b = false := by revert b; exact byte_all (by decide +kernel)
theorem nameB_src (b : UInt8) : (nameB b || dot b) = true → b ≠ 58 ∧ b ≠ 39 ∧ b ≠ 42 ∧ isC 47 b = false ∧ isC 58 b = false := by revert b; exact byte_all (by decide +kernel)
theorem digit_src (b : UInt8) : digit b = true → b ≠ 58 ∧ b ≠ 47 ∧ isC 47 b = false ∧ b ≠ 42 := by revert b; exact byte_all (by decide +kernel)

theorem sp3_no {l : List UInt8} (h : ∀ b ∈ l, b ≠ 58) : sp3 l = none := by
  induction l with
  | nil => rfl
  | cons b l ih =>
    have hb := h b (by simp)
    unfold sp3
    rw [if_neg (by simp [List.isPrefixOf]; intro e; exact absurd e.symm hb), ih (fun x hx => h x (by simp [hx]))]
    rfl
theorem sp3_ahead {a r : List UInt8} (h : ∀ b ∈ a, b ≠ 58) : sp3 (a ++ r) = (sp3 r).map fun x => (a ++ x.1, x.2) := by
  induction a with
  | nil => simp
  | cons b a ih =>
    have hb := h b (by simp)
    rw [List.cons_append]
    conv => lhs; unfold sp3
    rw [if_neg (by simp [List.isPrefixOf]; intro e; exact absurd e.symm hb), ih (fun x hx => h x (by simp [hx]))]
    cases sp3 r <;> simp
theorem sp3_at {a r : List UInt8} (h : ∀ b ∈ a, b ≠ 58) : sp3 (a ++ 58 :: 47 :: 47 :: r) = some (a, r) := by
  rw [sp3_ahead h]
  unfold sp3
  rw [if_pos (by simp [List.isPrefixOf])]
  simp
theorem sp3_port {d : UInt8} {r : List UInt8} (hd : d ≠ 47) (h : ∀ b ∈ d :: r, b ≠ 58) : sp3 (58 :: d :: r) = none := by
  conv => lhs; unfold sp3
  rw [if_neg (by simp [List.isPrefixOf]; intro e; exact absurd e.symm hd), sp3_no h]
  rfl

theorem front_ne {a : Src} (h : a.h ≠ [] ∨ a.w = true) : frontS a ≠ [] := by
  unfold frontS
  intro e
  rw [List.append_eq_nil_iff] at e
  rcases h with h | h
  · exact h e.2
  · rw [h] at e; simp at e
theorem front_mem {a : Src} (hh : a.h = [] ∨ hostM a.h = true) : ∀ b ∈ frontS a, b ≠ 58 ∧ b ≠ 39 ∧ isC 47 b = false ∧ isC 58 b = false := by
  intro b hb
  unfold frontS at hb
  rw [List.mem_append] at hb
  rcases hb with hb | hb
  · have : b = 42 ∨ b = 46 := by
      split at hb
      · split at hb <;> simp at hb <;> simp [hb]
      · cases hb
    rcases this with rfl | rfl <;> decide
  · rcases hh with hh | hh
    · rw [hh] at hb; cases hb
    · obtain ⟨h1, h2, _, h3, h4⟩ := nameB_src b (hostM_mem hh b hb)
      exact ⟨h1, h2, h3, h4⟩
theorem sport_form {p : Int} (h : -1 ≤ p) (h2 : p ≤ 65535) : (sportT p = [] ∧ p = 0) ∨ ∃ d r, sportT p = 58 :: d :: r ∧ (∀ b ∈ d :: r, b ≠ 58 ∧ b ≠ 47 ∧ isC 47 b = false) ∧ sportP (d :: r) = p := by
  unfold sportT
  by_cases h3 : p < 0
  · have : p = -1 := by omega
    subst this
    exact .inr ⟨42, [], rfl, by decide, by decide⟩
  · by_cases h4 : 0 < p
    · obtain ⟨n, rfl⟩ : ∃ n : Nat, p = (n : Int) := ⟨p.toNat, by omega⟩
      rw [if_neg h3, if_pos h4, Int.toNat_natCast]
      obtain ⟨e1, e2⟩ := dec_spec n
      have e3 := numM_dec n (by omega)
      cases hd : Lib.decDigits n with
      | nil =>
        have := Lib.nDigits_pos n
        rw [← Lib.decDigits_length, hd] at this
        cases this
      | cons d r =>
        rw [hd] at e1 e3
        refine .inr ⟨d, r, rfl, fun b hb => ?_, ?_⟩
        · obtain ⟨k1, k2, k3, _⟩ := digit_src b (e1 b hb)
          exact ⟨k1, k2, k3⟩
        · unfold sportP
          rw [if_neg, e3]
          · simp only []
            rw [if_neg (by omega)]
          · intro e
            have := e1 d (by simp)
            rw [List.cons.injEq] at e
            rw [e.1] at this
            exact absurd this (by decide)
    · rw [if_neg h3, if_neg h4]
      exact .inl ⟨rfl, by omega⟩
theorem last_ofS {A X : List UInt8} {c : UInt8} (hX : X ≠ []) (h : ∀ b ∈ X, b ≠ c) : (A ++ X).getLast? ≠ some c := by
  rw [List.getLast?_append]
  cases hx : X.getLast? with
  | none => exact absurd (List.getLast?_eq_none_iff.1 hx) hX
  | some z =>
    intro e
    simp at e
    exact h z (List.mem_of_getLast? hx) e

theorem place_back {a : Src} (h : shostM a = true) (hk : a.k = 12) : placeS a.s (frontS a) a.p a.pa = some a := by
  obtain ⟨h1, h2, h3, h4, h5, h6, h7⟩ := shost_parts h
  obtain ⟨k, t, s, ho, w, p, pa⟩ := a
  simp only at *
  subst hk; subst h1
  unfold placeS frontS
  cases w
  · have hne : ho ≠ [] := by rcases h4 with h4 | h4; exact h4; cases h4
    have hm := h3.resolve_left hne
    have hlow : low ho = ho := low_id fun b hb => (nameB_facts b (hostM_mem hm b hb)).1
    obtain ⟨b, l, rfl⟩ := List.exists_cons_of_ne_nil hne
    have hb := nameB_src b (hostM_mem hm b (by simp))
    have hb2 := (nameB_facts b (hostM_mem hm b (by simp))).1
    simp only [Bool.false_eq_true, if_false, List.nil_append]
    rw [if_neg, if_neg, hlow]
    · intro e
      rw [List.cons.injEq] at e
      exact hb.2.2.1 e.1
    · intro e
      have e2 : (low (List.take 2 (b :: l))).head? = some b := by simp [low, hb2]
      rw [e] at e2
      simp at e2
      exact hb.2.2.1 e2.symm
  · by_cases hne : ho = []
    · subst hne
      rfl
    · have hm := h3.resolve_left hne
      have hlow : low ho = ho := low_id fun b hb => (nameB_facts b (hostM_mem hm b hb)).1
      have he : ho.isEmpty = false := by simpa using hne
      have hl : 0 < ho.length := List.length_pos_iff.2 hne
      simp only [if_true, he, Bool.false_eq_true, if_false, List.cons_append, List.nil_append]
      rw [if_pos (by simp [low]; decide), if_pos (by simp; omega)]
      simp [hlow]

theorem rest_back {a : Src} (h : shostM a = true) (hk : a.k = 12) : restS a.s (frontS a ++ (sportT a.p ++ a.pa)) = some a := by
  obtain ⟨h1, h2, h3, h4, h5, h6, h7⟩ := shost_parts h
  obtain ⟨g1, g2⟩ := spath_parts h7
  have hf := front_mem h3
  have hfs : ∀ b ∈ frontS a ++ sportT a.p, isC 47 b = false := by
    intro b hb
    rw [List.mem_append] at hb
    rcases hb with hb | hb
    · exact (hf b hb).2.2.1
    · rcases sport_form h5 h6 with ⟨e, _⟩ | ⟨d, r, e, k1, _⟩
      · rw [e] at hb; cases hb
      · rw [e, List.mem_cons] at hb
        rcases hb with rfl | hb
        · decide
        · exact (k1 b hb).2.2
  have hu : upto (isC 47) (frontS a ++ (sportT a.p ++ a.pa)) = frontS a ++ sportT a.p ∧ past (isC 47) (frontS a ++ (sportT a.p ++ a.pa)) = a.pa := by
    rw [← List.append_assoc]
    rcases g1 with e | ⟨r, e⟩
    · rw [e, List.append_nil]; exact past_none _ _ hfs
    · rw [e]; exact past_hit _ _ 47 r hfs (by decide)
  unfold restS
  rw [hu.1, hu.2]
  have hv : upto (isC 58) (frontS a ++ sportT a.p) = frontS a ∧ numS (past (isC 58) (frontS a ++ sportT a.p)) = a.p := by
    rcases sport_form h5 h6 with ⟨e, e2⟩ | ⟨d, r, e, k1, k2⟩
    · rw [e, List.append_nil]
      obtain ⟨z1, z2⟩ := past_none (isC 58) (frontS a) (fun b hb => (hf b hb).2.2.2)
      rw [z1, z2, e2]; exact ⟨rfl, rfl⟩
    · rw [e]
      obtain ⟨z1, z2⟩ := past_hit (isC 58) (frontS a) 58 (d :: r) (fun b hb => (hf b hb).2.2.2) (by decide)
      rw [z1, z2]; exact ⟨rfl, k2⟩
  rw [hv.1, hv.2]
  exact place_back h hk

theorem parse_word_host {a : Src} (h : shostM a = true) (hk : a.k = 12) : parseS (schT a.s ++ (frontS a ++ (sportT a.p ++ a.pa))) = some a := by
  have hR : rightS a = true := by unfold rightS; rw [hk]; simpa using h
  have hback := rest_back h hk
  obtain ⟨h1, h2, h3, h4, h5, h6, h7⟩ := shost_parts h
  obtain ⟨g1, g2⟩ := spath_parts h7
  have hf := front_mem h3
  have hne := front_ne h4
  have hY : frontS a ++ (sportT a.p ++ a.pa) ≠ [] := by simp [hne]
  have hlast : ∀ A : List UInt8, (A ++ (frontS a ++ (sportT a.p ++ a.pa))).getLast? ≠ some 58 := by
    intro A
    rcases g1 with e | ⟨r, e⟩
    · rw [e, List.append_nil]
      rcases sport_form h5 h6 with ⟨e2, _⟩ | ⟨d, r, e2, k1, _⟩
      · rw [e2, List.append_nil]; exact last_ofS hne (fun b hb => (hf b hb).1)
      · rw [e2, show A ++ (frontS a ++ 58 :: d :: r) = (A ++ frontS a ++ [58]) ++ (d :: r) by simp]
        exact last_ofS (by simp) (fun b hb => (k1 b hb).1)
    · rw [show A ++ (frontS a ++ (sportT a.p ++ a.pa)) = (A ++ (frontS a ++ sportT a.p)) ++ a.pa by simp]
      exact last_ofS (by rw [e]; simp) (fun b hb => (inS_facts b (g2 b hb)).2)
  have hhead : (schT a.s ++ (frontS a ++ (sportT a.p ++ a.pa))).head? ≠ some 39 := by
    obtain ⟨b, l, hbl⟩ := List.exists_cons_of_ne_nil hne
    rcases h2 with e | e
    · rw [e, hbl]
      intro e2
      simp [schT] at e2
      exact (hf b (by rw [hbl]; simp)).2.1 e2
    · obtain ⟨x, y⟩ := schM_all e
      obtain ⟨b2, l2, hb2⟩ := List.exists_cons_of_ne_nil x
      intro e2
      rw [hb2] at e2
      simp [schT] at e2
      exact (schB_src b2 (y b2 (by rw [hb2]; simp))).2.1 e2
  unfold parseS
  rw [if_neg (by simp [hne]), if_neg (fun e => hhead e.2.1)]
  have hp : plainS (schT a.s ++ (frontS a ++ (sportT a.p ++ a.pa))) = some a := by
    unfold plainS
    rw [if_neg (hlast _)]
    by_cases hs : a.s = []
    · have hn : sp3 (frontS a ++ (sportT a.p ++ a.pa)) = none := by
        rw [sp3_ahead (fun b hb => (hf b hb).1)]
        rcases sport_form h5 h6 with ⟨e2, _⟩ | ⟨d, r, e2, k1, _⟩
        · rw [e2, List.nil_append, sp3_no (fun b hb => (inS_facts b (g2 b hb)).2)]; rfl
        · rw [e2, List.cons_append, List.cons_append, sp3_port (k1 d (by simp)).2.1]
          · rfl
          · intro b hb
            rw [List.mem_cons, List.mem_append] at hb
            rcases hb with rfl | hb | hb
            · exact (k1 b (by simp)).1
            · exact (k1 b (by simp [hb])).1
            · exact (inS_facts b (g2 b hb)).2
      have e0 : schT a.s = [] := by rw [hs]; rfl
      rw [e0, List.nil_append, hn]
      rw [hs] at hback
      exact hback
    · have e := h2.resolve_left hs
      obtain ⟨_, y⟩ := schM_all e
      have e0 : schT a.s = a.s ++ [58, 47, 47] := by unfold schT; rw [if_neg (by simpa using hs)]
      rw [e0, List.append_assoc]
      show (match sp3 (a.s ++ 58 :: 47 :: 47 :: (frontS a ++ (sportT a.p ++ a.pa))) with
        | some (sc, r) => if sc = [] then none else restS (low sc) r
        | none => _) = _
      rw [sp3_at (fun b hb => (schB_src b (y b hb)).1)]
      simp only []
      rw [if_neg hs, schM_low e]
      exact hback
  rw [hp]
  simp [Option.filter, hR]

theorem beg_pre (t x : List UInt8) (ht : low t = t) : beg (t ++ x) t = true := by unfold beg; rw [List.take_left, ht]; simp
theorem drop_pre (t x : List UInt8) (c : UInt8) : ((t ++ (x ++ [c])).drop t.length).dropLast = x := by rw [List.drop_left, List.dropLast_concat]
theorem beg_mark (x : List UInt8) : beg (MRK ++ x) NON = false := by
  unfold beg
  rw [decide_eq_false_iff_not]
  intro e
  have e2 := congrArg (fun l => l[1]?) e
  simp [MRK, NON, low] at e2
  exact absurd e2 (by decide)
theorem last_snoc (a : List UInt8) (c : UInt8) : (a ++ [c]).getLast? = some c := by simp
theorem kept_cases {k : Int} (h : keptM k ≠ []) : k = 1 ∨ k = 2 ∨ k = 3 ∨ k = 4 ∨ k = 5 ∨ k = 6 ∨ k = 7 ∨ k = 8 := by
  unfold keptM at h
  by_cases h2 : 1 ≤ k ∧ k ≤ 8
  · omega
  · rw [if_neg h2] at h; exact absurd rfl h

/-- A source's word is parsed as it. -/
theorem parse_word {a : Src} (h : rightS a = true) : parseS (wordS a) = some a := by
  have hR := h
  unfold rightS at h
  by_cases k9 : a.k = 9
  · rw [if_pos k9] at h
    simp only [Bool.and_eq_true, List.isEmpty_iff, decide_eq_true_eq] at h
    obtain ⟨⟨⟨hb, hs⟩, _⟩, _⟩ := h
    obtain ⟨e1, e2, e3, e4⟩ := bare_parts hb
    have hw : wordS a = NON ++ (a.t ++ [39]) := by unfold wordS; rw [if_pos k9]
    have hq : quotedS (NON ++ (a.t ++ [39])) = a := by
      unfold quotedS
      rw [if_pos (beg_pre NON _ (by decide)), show (7 : Nat) = NON.length from rfl, drop_pre]
      obtain ⟨k, t, s, ho, w, p, pa⟩ := a
      simp only at *
      rw [k9, hs, e1, e2, e3, e4]
    rw [hw]
    unfold parseS
    rw [if_neg (by simp [NON]), if_pos ⟨by simp [NON], rfl, by rw [← List.append_assoc]; exact last_snoc _ _⟩, hq]
    simp [Option.filter, hR]
  rw [if_neg k9] at h
  by_cases k10 : a.k = 10
  · rw [if_pos k10] at h
    simp only [Bool.and_eq_true, List.isEmpty_iff, decide_eq_true_eq] at h
    obtain ⟨⟨hb, hs⟩, _⟩ := h
    obtain ⟨e1, e2, e3, e4⟩ := bare_parts hb
    have hw : wordS a = MRK ++ (encM a.t ++ [39]) := by unfold wordS; rw [if_neg k9, if_pos k10]
    have hq : quotedS (MRK ++ (encM a.t ++ [39])) = a := by
      unfold quotedS
      rw [if_neg (by rw [beg_mark]; simp), if_pos (beg_pre MRK _ (by decide)), show (6 : Nat) = MRK.length from rfl, drop_pre, dec_enc]
      obtain ⟨k, t, s, ho, w, p, pa⟩ := a
      simp only at *
      rw [k10, hs, e1, e2, e3, e4]
    rw [hw]
    unfold parseS
    rw [if_neg (by simp [MRK]), if_pos ⟨by simp [MRK], rfl, by rw [← List.append_assoc]; exact last_snoc _ _⟩, hq]
    simp [Option.filter, hR]
  rw [if_neg k10] at h
  by_cases k11 : a.k = 11
  · rw [if_pos k11] at h
    simp only [Bool.and_eq_true, List.isEmpty_iff] at h
    obtain ⟨⟨hb, ht⟩, hs⟩ := h
    obtain ⟨e1, e2, e3, e4⟩ := bare_parts hb
    have hw : wordS a = a.s ++ [58] := by unfold wordS; rw [if_neg k9, if_neg k10, if_pos k11]
    have hp : plainS (a.s ++ [58]) = some a := by
      unfold plainS
      rw [if_pos (last_snoc _ _), List.dropLast_concat, schM_low hs]
      obtain ⟨k, t, s, ho, w, p, pa⟩ := a
      simp only at *
      rw [k11, ht, e1, e2, e3, e4]
    rw [hw]
    unfold parseS
    rw [if_neg (by simp), if_neg (by rw [last_snoc]; intro e; exact absurd e.2.2 (by decide)), hp]
    simp [Option.filter, hR]
  rw [if_neg k11] at h
  by_cases k12 : a.k = 12
  · rw [if_pos k12] at h
    have hw : wordS a = schT a.s ++ (frontS a ++ (sportT a.p ++ a.pa)) := by unfold wordS; rw [if_neg k9, if_neg k10, if_neg k11, if_pos k12]
    rw [hw]
    exact parse_word_host h k12
  rw [if_neg k12] at h
  simp only [Bool.and_eq_true, List.isEmpty_iff, Bool.not_eq_true'] at h
  obtain ⟨⟨⟨hk, hb⟩, hs⟩, ht⟩ := h
  obtain ⟨e1, e2, e3, e4⟩ := bare_parts hb
  have hc := kept_cases (k := a.k) (by intro e; rw [e] at hk; cases hk)
  obtain ⟨k, t, s, ho, w, p, pa⟩ := a
  simp only at *
  subst hs; subst ht; subst e1; subst e2; subst e3; subst e4
  rcases hc with rfl | rfl | rfl | rfl | rfl | rfl | rfl | rfl <;> decide +kernel

theorem portU_inj {u v : U} (hu : rightM u = true) (hou : u.o = false) (hv : rightM v = true) (hov : v.o = false) (hs : u.s = v.s) : portU u = portU v ↔ u.p = v.p := by
  obtain ⟨_, _, _, _, h1, _⟩ := ranked_parts hu hou
  obtain ⟨_, _, _, _, h2, _⟩ := ranked_parts hv hov
  unfold portU
  rw [hs] at h1 ⊢
  split <;> split <;> omega

theorem origin_apart {u v : U} (hu : rightM u = true) (hou : u.o = false) (hv : rightM v = true) (hov : v.o = false) : sameM (originM u) (originM v) = (decide (u.s = v.s) && decide (u.h = v.h) && decide (u.p = v.p)) := by
  rw [origin_some hu hou, origin_some hv hov]
  unfold sameM
  simp only [O.mk.injEq, true_and, Bool.not_false, Bool.true_and]
  by_cases hs : u.s = v.s
  · have := portU_inj hu hou hv hov hs
    simp [hs, this]
  · simp [hs]

theorem mark_length (l : List UInt8) : (markL l).length = 16 := rfl

theorem no_nonce (L : List Src) : nonceL L [] = false := rfl
theorem nB_facts (b : UInt8) : nB b = true → lowB b = b ∧ blk b = false ∧ (b == 44) = false ∧ (b == 59) = false := by revert b; exact byte_any (by decide +kernel)
theorem wB_facts (b : UInt8) : wB b = true → blk b = false ∧ (b == 44) = false ∧ (b == 59) = false := by revert b; exact byte_any (by decide +kernel)
theorem nameH_all {l : List UInt8} (h : nameH l = true) : l ≠ [] ∧ l.length ≤ 40 ∧ ∀ b ∈ l, nB b = true := by
  unfold nameH at h
  simp only [Bool.and_eq_true, Bool.not_eq_true', decide_eq_true_eq, List.all_eq_true] at h
  exact ⟨by intro e; rw [e] at h; simp at h, h.1.2, h.2⟩
theorem wordH_all {l : List UInt8} (h : wordH l = true) : l ≠ [] ∧ ∀ b ∈ l, wB b = true := by
  unfold wordH at h
  simp only [Bool.and_eq_true, Bool.not_eq_true', List.all_eq_true] at h
  exact ⟨by intro e; rw [e] at h; simp at h, h.2⟩
theorem name_low {l : List UInt8} (h : nameH l = true) : low l = l := by
  have k := (nameH_all h).2.2
  clear h
  induction l with
  | nil => rfl
  | cons b l ih =>
    have e1 := (nB_facts b (k b (by simp))).1
    have e2 := ih (fun x hx => k x (by simp [hx]))
    show lowB b :: low l = _
    rw [e1, e2]

def dirR (d : D) : Bool := nameH d.n && decide (d.w.length ≤ 200) && d.w.all wordH
def onceM (ds : List D) : Prop := ds.Pairwise (fun a b => a.n ≠ b.n)
def rightH (ds : List D) : Prop := ds ≠ [] ∧ (∀ d ∈ ds, dirR d = true) ∧ onceM ds
def tailT (ws : List (List UInt8)) : List UInt8 := ws.flatMap (fun w => 32 :: w)
def dT (d : D) : List UInt8 := d.n ++ tailT d.w
def pT : List D → List UInt8
  | [] => []
  | [d] => dT d
  | d :: e :: r => dT d ++ 59 :: 32 :: pT (e :: r)
theorem pT_cons (d e : D) (r : List D) : pT (d :: e :: r) = dT d ++ 59 :: 32 :: pT (e :: r) := rfl
theorem dirR_all {d : D} (h : dirR d = true) : nameH d.n = true ∧ d.w.length ≤ 200 ∧ ∀ w ∈ d.w, wordH w = true := by
  unfold dirR at h
  simp only [Bool.and_eq_true, decide_eq_true_eq, List.all_eq_true] at h
  exact ⟨h.1.1, h.1.2, h.2⟩

theorem words_tail : ∀ (ws : List (List UInt8)) (a : List UInt8), a ≠ [] → (∀ b ∈ a, blk b = false) → (∀ w ∈ ws, w ≠ [] ∧ ∀ b ∈ w, blk b = false) → words (a ++ tailT ws) = a :: ws
  | [], a, h0, ha, _ => by
    show words (a ++ []) = _
    rw [List.append_nil]
    exact words_last a ha h0
  | w :: ws, a, h0, ha, h => by
    have hw := h w (by simp)
    show words (a ++ (32 :: w ++ tailT ws)) = _
    rw [List.cons_append, words_hit a 32 _ ha (by decide) h0, words_tail ws w hw.1 hw.2 (fun x hx => h x (by simp [hx]))]
theorem dir_blank {d : D} (h : dirR d = true) : (d.n ≠ [] ∧ ∀ b ∈ d.n, blk b = false) ∧ ∀ w ∈ d.w, w ≠ [] ∧ ∀ b ∈ w, blk b = false := by
  obtain ⟨h1, _, h3⟩ := dirR_all h
  exact ⟨⟨(nameH_all h1).1, fun b hb => (nB_facts b ((nameH_all h1).2.2 b hb)).2.1⟩, fun w hw => ⟨(wordH_all (h3 w hw)).1, fun b hb => (wB_facts b ((wordH_all (h3 w hw)).2 b hb)).1⟩⟩
theorem dirM_dT {d : D} (h : dirR d = true) : dirM (dT d) = some d := by
  obtain ⟨h1, h2, h3⟩ := dirR_all h
  obtain ⟨⟨k0, k1⟩, k2⟩ := dir_blank h
  have e : words (dT d) = d.n :: d.w := words_tail d.w d.n k0 k1 k2
  unfold dirM
  rw [e]
  show (if nameH (low d.n) then _ else _) = _
  rw [name_low h1, if_pos h1, List.take_of_length_le h2, List.filter_eq_self.2 h3]
theorem dT_mem {d : D} (h : dirR d = true) : ∀ b ∈ dT d, (b == 44) = false ∧ (b == 59) = false := by
  obtain ⟨h1, _, h3⟩ := dirR_all h
  intro b hb
  rcases List.mem_append.1 hb with hb | hb
  · exact (nB_facts b ((nameH_all h1).2.2 b hb)).2.2
  · obtain ⟨w, hw, hb⟩ := List.mem_flatMap.1 hb
    rcases List.mem_cons.1 hb with rfl | hb
    · decide
    · exact (wB_facts b ((wordH_all (h3 w hw)).2 b hb)).2
theorem last_of {t x : List UInt8} {b c : UInt8} (h : x ++ [c] = t ++ [b]) : b = c := by
  have := congrArg List.getLast? h
  simpa using this.symm
theorem ends_last (x y : List UInt8) (h0 : y ≠ []) (hy : ∀ b ∈ y, blk b = false) : ∀ b t, x ++ y = t ++ [b] → blk b = false := by
  intro b t h
  rw [← List.dropLast_concat_getLast h0, ← List.append_assoc] at h
  rw [last_of h]
  exact hy _ (List.getLast_mem h0)
theorem dT_last {d : D} (h : dirR d = true) (x : List UInt8) : ∀ b t, x ++ dT d = t ++ [b] → blk b = false := by
  obtain ⟨⟨k0, k1⟩, k2⟩ := dir_blank h
  rcases List.eq_nil_or_concat d.w with e | ⟨L, w, e⟩
  · unfold dT
    rw [e]
    show ∀ b t, x ++ (d.n ++ []) = t ++ [b] → _
    rw [List.append_nil]
    exact ends_last x d.n k0 k1
  · have hw := k2 w (by rw [e]; simp)
    have e2 : x ++ dT d = (x ++ d.n ++ tailT L ++ [32]) ++ w := by
      unfold dT tailT
      rw [e]
      simp
    rw [e2]
    exact ends_last _ w hw.1 hw.2
theorem dT_ends {d : D} (h : dirR d = true) : Ends (dT d) := by
  obtain ⟨⟨k0, k1⟩, _⟩ := dir_blank h
  refine ⟨fun b t e => ?_, by have := dT_last h []; simpa using this⟩
  obtain ⟨c, r, hc⟩ := List.exists_cons_of_ne_nil k0
  unfold dT at e
  rw [hc] at e
  obtain ⟨rfl, _⟩ := List.cons.inj e
  exact k1 c (by rw [hc]; simp)
theorem dT_ne {d : D} (h : dirR d = true) : ∃ c r, dT d = c :: r ∧ blk c = false := by
  obtain ⟨⟨k0, k1⟩, _⟩ := dir_blank h
  obtain ⟨c, r, hc⟩ := List.exists_cons_of_ne_nil k0
  exact ⟨c, r ++ tailT d.w, by unfold dT; rw [hc]; rfl, k1 c (by rw [hc]; simp)⟩
theorem trim_32 {l : List UInt8} (h : Ends l) : trim (32 :: l) = l := by
  have := trim_unique (a := [32]) (m := l) (z := []) (by decide) (by simp) h
  simpa using this
theorem parts_pT : ∀ (ds : List D), ds ≠ [] → (∀ d ∈ ds, dirR d = true) → (cut (· == 59) (pT ds)).map trim = ds.map dT ∧ (cut (· == 59) (32 :: pT ds)).map trim = ds.map dT
  | [], h0, _ => absurd rfl h0
  | [d], _, h => by
    have hd := h d (by simp)
    have he := dT_ends hd
    have h1 : ∀ b ∈ dT d, (b == 59) = false := fun b hb => (dT_mem hd b hb).2
    constructor
    · show (cut _ (dT d)).map trim = [dT d]
      rw [cut_none _ _ h1]
      simp [trim_of_ends he]
    · show (cut _ (32 :: dT d)).map trim = [dT d]
      rw [cut_none _ _ (fun b hb => by rcases List.mem_cons.1 hb with rfl | hb; decide; exact h1 b hb)]
      simp [trim_32 he]
  | d :: e :: r, _, h => by
    have hd := h d (by simp)
    have he := dT_ends hd
    have h1 : ∀ b ∈ dT d, (b == 59) = false := fun b hb => (dT_mem hd b hb).2
    have ih := (parts_pT (e :: r) (by simp) (fun x hx => h x (by simp [List.mem_cons.1 hx]))).2
    rw [pT_cons]
    constructor
    · rw [cut_hit (· == 59) (dT d) 59 _ h1 (by decide), List.map_cons, ih, trim_of_ends he]; rfl
    · rw [← List.cons_append, cut_hit (· == 59) (32 :: dT d) 59 _ (fun b hb => by rcases List.mem_cons.1 hb with rfl | hb; decide; exact h1 b hb) (by decide), List.map_cons, ih, trim_32 he]; rfl
theorem fold_dT : ∀ (ds acc : List D), (∀ d ∈ ds, dirR d = true) → onceM (acc ++ ds) → (ds.map dT).foldl addD acc = acc ++ ds
  | [], acc, _, _ => by simp
  | d :: ds, acc, h, ho => by
    have hd := h d (by simp)
    have hn : thereM acc d.n = false := by
      unfold thereM
      rw [List.any_eq_false]
      intro x hx e
      unfold onceM at ho
      rw [List.pairwise_append] at ho
      exact ho.2.2 x hx d (by simp) (by simpa using e)
    have e : addD acc (dT d) = acc ++ [d] := by
      unfold addD
      rw [dirM_dT hd]
      show (if thereM acc d.n then acc else acc ++ [d]) = _
      rw [hn]; rfl
    rw [List.map_cons, List.foldl_cons, e, fold_dT ds (acc ++ [d]) (fun x hx => h x (by simp [hx])) (by rw [List.append_assoc]; exact ho), List.append_assoc]
    rfl
theorem polM_pT {ds : List D} (h : rightH ds) : polM (pT ds) = ds := by
  unfold polM parts
  rw [(parts_pT ds h.1 h.2.1).1]
  exact fold_dT ds [] h.2.1 h.2.2
theorem pT_mem : ∀ {ds : List D}, (∀ d ∈ ds, dirR d = true) → ∀ b ∈ pT ds, (b == 44) = false
  | [], _, b, hb => by cases hb
  | [d], h, b, hb => (dT_mem (h d (by simp)) b hb).1
  | d :: e :: r, h, b, hb => by
    rw [pT_cons] at hb
    rcases List.mem_append.1 hb with hb | hb
    · exact (dT_mem (h d (by simp)) b hb).1
    · rcases List.mem_cons.1 hb with rfl | hb
      · decide
      · rcases List.mem_cons.1 hb with rfl | hb
        · decide
        · exact pT_mem (ds := e :: r) (fun x hx => h x (by simp [List.mem_cons.1 hx])) b hb
theorem pT_last : ∀ {ds : List D}, ds ≠ [] → (∀ d ∈ ds, dirR d = true) → ∀ (x : List UInt8) b t, x ++ pT ds = t ++ [b] → blk b = false
  | [], h0, _ => absurd rfl h0
  | [d], _, h => fun x => dT_last (h d (by simp)) x
  | d :: e :: r, _, h => fun x b t hx => by
    rw [pT_cons] at hx
    have e2 : x ++ (dT d ++ 59 :: 32 :: pT (e :: r)) = (x ++ dT d ++ [59, 32]) ++ pT (e :: r) := by simp
    rw [e2] at hx
    exact pT_last (ds := e :: r) (by simp) (fun y hy => h y (by simp [List.mem_cons.1 hy])) _ b t hx
theorem pT_head {d : D} {ds : List D} : ∃ r, pT (d :: ds) = dT d ++ r := by
  cases ds with
  | nil => exact ⟨[], (List.append_nil _).symm⟩
  | cons e r => exact ⟨_, pT_cons d e r⟩
theorem pT_ends {ds : List D} (h0 : ds ≠ []) (h : ∀ d ∈ ds, dirR d = true) : Ends (pT ds) := by
  refine ⟨fun b t e => ?_, by have := pT_last h0 h []; simpa using this⟩
  cases ds with
  | nil => exact absurd rfl h0
  | cons d r =>
    obtain ⟨z, hz⟩ := pT_head (d := d) (ds := r)
    obtain ⟨c, y, hc, hb⟩ := dT_ne (h d (by simp))
    rw [hz, hc] at e
    obtain ⟨rfl, _⟩ := List.cons.inj e
    exact hb
theorem allH_pT {ds : List D} (h : rightH ds) : allH (pT ds) = [ds] := by
  unfold allH parts
  rw [cut_none _ _ (pT_mem h.2.1)]
  have e : trim (pT ds) = pT ds := trim_of_ends (pT_ends h.1 h.2.1)
  simp only [List.map_cons, List.map_nil, e, polM_pT h]
  have : ds.isEmpty = false := by cases ds with
    | nil => exact absurd rfl h.1
    | cons => rfl
  simp [this]
theorem parseH_pT {ds : List D} (h : rightH ds) : parseH (pT ds) = [ds] := by unfold parseH; rw [allH_pT h]; rfl

def Tryz.lays105_ren : Go.Shelf.Ren := ⟨fun | 105 => 53 | 212 => 76 | 99 => 77 | 165 => 78 | 166 => 79 | 170 => 80 | 169 => 81 | 263 => 111 | 264 => 112 | 206 => 113 | 240 => 114 | 241 => 115 | 276 => 159 | 277 => 160 | n => n, fun | 9 => 9 | 3 => 3 | 4 => 4 | 20 => 20 | 0 => 0 | 46 => 109 | 109 => 110 | 5 => 5 | 72 => 114 | 76 => 118 | 51 => 142 | 146 => 143 | 53 => 121 | 148 => 145 | 70 => 112 | 37 => 85 | 75 => 117 | 127 => 147 | 164 => 171 | 80 => 93 | n => n, fun | n => n⟩
theorem Tryz.lays105 : Go.Proofs.Lays.n105 Tryz.prog Tryz.lays105_ren := {
  mixed := by kernel_rfl
  f99 := Tryz.func77.trans (congrArg some (by kernel_rfl))
  f105 := Tryz.func53.trans (congrArg some (by kernel_rfl))
  f165 := Tryz.func78.trans (congrArg some (by kernel_rfl))
  f166 := Tryz.func79.trans (congrArg some (by kernel_rfl))
  f169 := Tryz.func81.trans (congrArg some (by kernel_rfl))
  f170 := Tryz.func80.trans (congrArg some (by kernel_rfl))
  f206 := Tryz.func113.trans (congrArg some (by kernel_rfl))
  f212 := Tryz.func76.trans (congrArg some (by kernel_rfl))
  f240 := Tryz.func114.trans (congrArg some (by kernel_rfl))
  f241 := Tryz.func115.trans (congrArg some (by kernel_rfl))
  f263 := Tryz.func111.trans (congrArg some (by kernel_rfl))
  f264 := Tryz.func112.trans (congrArg some (by kernel_rfl))
  f276 := Tryz.func159.trans (congrArg some (by kernel_rfl))
  f277 := Tryz.func160.trans (congrArg some (by kernel_rfl))
  t0 := Tryz.underlying0
  a0 := Tryz.isAgg0
  z0 := Tryz.sizeOf0
  v0 := Tryz.zeroValue0
  t3 := Tryz.underlying3
  a3 := Tryz.isAgg3
  z3 := Tryz.sizeOf3
  v3 := Tryz.zeroValue3
  t4 := Tryz.underlying4
  a4 := Tryz.isAgg4
  z4 := Tryz.sizeOf4
  v4 := Tryz.zeroValue4
  t5 := Tryz.underlying5
  a5 := Tryz.isAgg5
  z5 := Tryz.sizeOf5
  v5 := Tryz.zeroValue5
  t9 := Tryz.underlying9
  a9 := Tryz.isAgg9
  z9 := Tryz.sizeOf9
  v9 := Tryz.zeroValue9
  t20 := Tryz.underlying20
  a20 := Tryz.isAgg20
  z20 := Tryz.sizeOf20
  v20 := Tryz.zeroValue20
  t37 := Tryz.underlying85
  a37 := Tryz.isAgg85
  z37 := Tryz.sizeOf85
  v37 := Tryz.zeroValue85
  t46 := Tryz.underlying109
  a46 := Tryz.isAgg109
  z46 := Tryz.sizeOf109
  v46 := Tryz.zeroValue109
  t51 := Tryz.underlying142
  a51 := Tryz.isAgg142
  z51 := Tryz.sizeOf142
  v51 := Tryz.zeroValue142
  t53 := Tryz.underlying121
  a53 := Tryz.isAgg121
  z53 := Tryz.sizeOf121
  v53 := Tryz.zeroValue121
  t70 := Tryz.underlying112
  a70 := Tryz.isAgg112
  z70 := Tryz.sizeOf112
  v70 := Tryz.zeroValue112
  t72 := Tryz.underlying114
  a72 := Tryz.isAgg114
  z72 := Tryz.sizeOf114
  v72 := Tryz.zeroValue114
  t75 := Tryz.underlying117
  a75 := Tryz.isAgg117
  z75 := Tryz.sizeOf117
  v75 := Tryz.zeroValue117
  t76 := Tryz.underlying118
  a76 := Tryz.isAgg118
  z76 := Tryz.sizeOf118
  v76 := Tryz.zeroValue118
  t109 := Tryz.underlying110
  a109 := Tryz.isAgg110
  z109 := Tryz.sizeOf110
  v109 := Tryz.zeroValue110
  t127 := Tryz.underlying147
  a127 := Tryz.isAgg147
  z127 := Tryz.sizeOf147
  v127 := Tryz.zeroValue147
  t146 := Tryz.underlying143
  a146 := Tryz.isAgg143
  z146 := Tryz.sizeOf143
  v146 := Tryz.zeroValue143
  t148 := Tryz.underlying145
  a148 := Tryz.isAgg145
  z148 := Tryz.sizeOf145
  v148 := Tryz.zeroValue145
  t164 := Tryz.underlying171
  a164 := Tryz.isAgg171
  z164 := Tryz.sizeOf171
  v164 := Tryz.zeroValue171 }
theorem Tryz.Builder_Extra_105 : Builder.Extra Tryz.prog Tryz.lays105_ren := {
  sizeBuilder := by kernel_rfl
  liesBuilder := by kernel_rfl
  t5 := Tryz.underlying5
  a5 := Tryz.isAgg5
  z5 := Tryz.sizeOf5
  v5 := Tryz.zeroValue5
  infoByte := by kernel_rfl
  cellsByte := by kernel_rfl
  sizeByte := by kernel_rfl
  neB5 := by decide }
open Go.RowKit Go.Lib in
theorem Tryz.strings_Repeat (s : ByteArray) (c : Nat) (w : World) (hc : c ≤ 9223372036854775807) (hlen : s.size * c ≤ 140737488355328) :
    Calls Tryz.prog 53 #[.string s, .int .i64 c] w fun e w' => e = .returned (.string ⟨(Lib.repeatL s.data.toList c).toArray⟩) ∧ Below w.heap.size w w' := Any.strings_Repeat Tryz.lays105 Tryz.Builder_Extra_105 s c w hc hlen
/-- A sign of the table at its place. -/
theorem sign_ix (kd : IntKind) (k : Nat) (h : k < 64) : ∀ W, (Instr.index 9 (.string ⟨#[65, 66, 67, 68, 69, 70, 71, 72, 73, 74, 75, 76, 77, 78, 79, 80, 81, 82, 83, 84, 85, 86, 87, 88, 89, 90, 97, 98, 99, 100, 101, 102, 103, 104, 105, 106, 107, 108, 109, 110, 111, 112, 113, 114, 115, 116, 117, 118, 119, 120, 121, 122, 48, 49, 50, 51, 52, 53, 54, 55, 56, 57, 43, 47]⟩) (.int kd (k : Int))).run Tryz.prog W = .ok (.int .u8 ((sgn k).toNat : Int)) W := fun W => by
  rw [run_index_string (P := Tryz.prog) W 9 _ kd k Tryz.underlying9]
  rw [dif_pos (by refine ⟨by omega, ?_⟩; show (k : Int) < 64; omega)]
  congr 2
  have e : sgn k = SG[k]'(by show k < 64; exact h) := by unfold sgn; rw [List.getD_eq_getElem?_getD, List.getElem?_eq_getElem (by show k < 64; exact h)]; rfl
  rw [e]
  congr 1

def sgV (x : Nat) : Value := .int .u8 ((sgn x).toNat : Int)
def zeroV (_ : Nat) : Value := .int .u8 0

set_option maxRecDepth 100000 in
set_option maxHeartbeats 1000000 in
theorem written_any (l : List Nat) (hl64 : ∀ x ∈ l, x < 64) (v : Value) (w : World) (T : ByteArray) (hT : T.data.toList = l.map sgn) (hin : NatsIn w v l) (hl : l.length ≤ 1000000000) :
    Calls Tryz.prog 52 #[v] w fun e w' => e = .returned (.string T) ∧ Below w.heap.size w w' := by
  obtain ⟨a, c, rfl⟩ := hin.form
  have hcell : Hid (∀ j, (h : j < l.length) → ∃ B off, a = some ⟨B, off, none⟩ ∧ B < w.heap.size ∧ w.cell? ⟨B, off + j, none⟩ = some (.int .u8 (l[j] : Int))) := Lib.hid fun j h => by
    rcases hin with ⟨_, h2⟩ | ⟨B, off, cap, h1, h2⟩
    · subst h2; simp at h
    · cases h1
      exact ⟨B, off, rfl, lt_of_cell (h2 j h), h2 j h⟩
  obtain ⟨i0, hi, hz0, hz1, hz2⟩ := info_parts Tinfo5
  have hmk := run_make (P := Tryz.prog) w 85 5 i0 _ Tryz.underlying85 hi hz0 .i64 .i64 (l.length : Int) (l.length : Int) (by omega) (Int.le_refl _) (by rw [hz2]; omega) (by omega)
  have ez : (Value.int IntKind.u8 0).cells = #[.int .u8 0] := rfl
  rw [hz1, Int.toNat_natCast, Nat.mul_one, ez] at hmk
  have hrow := VRow.made w (.int .u8 0) l.length 5
  have hb1 : Below w.heap.size w (w.alloc (.cells (madeCells #[.int .u8 0] l.length) 5)) := (Below.refl _ _).alloc (Nat.le_refl _) _
  have em : List.replicate l.length (Value.int .u8 0) = mixK sgV zeroV l 0 := by
    rw [mixK_zero]
    apply List.ext_getElem
    · simp
    · intro j h1 h2; simp [zeroV]
  rw [em] at hrow
  generalize hW1 : w.alloc (.cells (madeCells #[.int .u8 0] l.length) 5) = W1 at hmk hrow hb1
  have HT := Lib.hid hT
  clear hin hT hW1 ez em
  go_enter Tryz.func52, Tryz.ntmps52
  go_wp2
  go_loopw [4, 5, 11] (fun _ _ i wr => ∃ k : Nat, i = .int .i64 k ∧ k ≤ l.length ∧ VRow wr w.heap.size (mixK sgV zeroV l k) ∧ Below w.heap.size w wr) (fun _ _ i _ => l.length - (intOf i).toNat)
  case atStart => exact ⟨0, rfl, Nat.zero_le _, hrow, hb1⟩
  case round =>
    obtain ⟨k, rfl, hk, hr, hb⟩ := hrel
    clear hrow hb1 hmk
    by_cases hlt : k < l.length
    · obtain ⟨B, off, rfl, hB, hc⟩ := hcell.out k hlt
      have hc1 : wr.cell? ⟨B, off + k, none⟩ = some (.int .u8 (l[k] : Int)) := by rw [hb.cell hB, hc]
      have hb8 := hl64 _ (List.getElem_mem hlt)
      have ix := sign_ix .u8 l[k] hb8
      have hat : l[k]? = some l[k] := List.getElem?_eq_getElem hlt
      have hcell1 := hr.cell k _ (mixK_at sgV zeroV l k _ hat)
      have hfree := hr.free k (by rw [mixK_length]; exact hlt)
      have hset := hr.set (k := k) (by rw [mixK_length]; exact hlt) (sgV l[k])
      rw [← mixK_succ sgV zeroV l k _ hat] at hset
      have hbs := hb.setCell (p := ⟨w.heap.size, k, none⟩) (Nat.le_refl _) (sgV l[k])
      unfold zeroV at hcell1
      have HS := Lib.hid hset
      have HB := Lib.hid hbs
      have es : sgV l[k] = .int .u8 ((sgn l[k]).toNat : Int) := rfl
      rw [es] at HS HB
      clear hset hbs es hat hc
      generalize (sgn l[k]).toNat = y at *
      generalize l[k] = x at *
      go_wp2
      go_roundw
      case rel => exact ⟨k + 1, by go_num, by omega, HS.out, HB.out⟩
      case measure => simp [intOf]; omega
    · obtain rfl : k = l.length := by omega
      rw [mixK_all] at hr
      have hc := conv_cells wr w.heap.size l.length T.data.toList (fun j b hj => hr.cell j _ (by
        rw [HT.out, List.getElem?_map] at hj
        rw [List.getElem?_map]
        cases hx : l[j]? with
        | none => rw [hx] at hj; cases hj
        | some x => rw [hx] at hj; cases hj; rfl)) l.length (by rw [HT.out, List.length_map])
      have et : (⟨T.data.toList.toArray⟩ : ByteArray) = T := (text_is rfl).symm
      rw [et] at hc
      clear et
      go_wp2
      go_ret
      exact ⟨rfl, hb⟩

/-- []byte(s): its numbers. -/
theorem nats_world (w : World) (s : ByteArray) (cap : Nat) : NatsIn (Lib.bytesWorld w 5 s) (.slice (some ⟨w.heap.size, 0, none⟩) s.size cap) (nat8 s.data.toList) := by
  have hl : (nat8 s.data.toList).length = s.size := by rw [nat8, List.length_map, lsize]
  refine .inr ⟨w.heap.size, 0, cap, by rw [hl], fun j hj => ?_⟩
  rw [Nat.zero_add]
  refine (VRow.world w s).cell j _ ?_
  simp only [nat8, List.length_map] at hj
  rw [List.getElem?_map, List.getElem?_eq_getElem hj]
  simp [nat8]

theorem repeat_hid (c : Nat) (hc : c ≤ 3) (T : ByteArray) (hT : T.data.toList = List.replicate c 61) : Hid (∀ W, Calls Tryz.prog 53 #[.string ⟨#[61]⟩, .int .i64 (c : Int)] W fun e w' => e = .returned (.string T) ∧ Below W.heap.size W w') := Lib.hid fun W => by
  have h := Tryz.strings_Repeat ⟨#[61]⟩ c W (by omega) (by show 1 * c ≤ _; omega)
  have e : Lib.repeatL ((⟨#[61]⟩ : ByteArray).data.toList) c = T.data.toList := by
    have := Lib.repeatL_replicate 61 1 c
    rw [Nat.mul_one] at this
    rw [hT, ← this]
    rfl
  rw [e] at h
  have et : (⟨T.data.toList.toArray⟩ : ByteArray) = T := (text_is rfl).symm
  rw [et] at h
  exact h
theorem written_hid (l : List Nat) (hl64 : ∀ x ∈ l, x < 64) (T : ByteArray) (hT : T.data.toList = l.map sgn) (hl : l.length ≤ 1000000000) :
    Hid (∀ W v, NatsIn W v l → Calls Tryz.prog 52 #[v] W fun e w' => e = .returned (.string T) ∧ Below W.heap.size W w') :=
  Lib.hid fun W v h => written_any l hl64 v W T hT h hl

set_option maxRecDepth 100000 in
set_option maxHeartbeats 2000000 in
theorem encode_any (s : ByteArray) (hs : s.size ≤ 100000) (T : ByteArray) (hT : T.data.toList = encM s.data.toList) (w : World) :
    Calls Tryz.prog 30 #[.string s] w fun e w' => e = .returned (.string T) ∧ Below w.heap.size w w' := by
  have hconv := Lib.run_convert_string_bytes (P := Tryz.prog) w 9 85 5 s Tryz.underlying9 Tryz.underlying85 Tryz.underlying5
  have hin := nats_world w s (grownCap w s.size 0 5)
  have hbel := below_bytesWorld w s
  generalize Lib.bytesWorld w 5 s = W at hconv hin hbel
  generalize grownCap w s.size 0 5 = cap at hconv hin
  have CR := Lib.hid (regroup_any 8 6 (by decide) (by decide) (by decide) (by decide) (nat8 s.data.toList) (fun x hx => by have := nat8_lt _ x hx; omega) _ W hin (by rw [nat8, List.length_map, lsize]; omega))
  obtain ⟨g1, g2, g3⟩ := grp_spec 6 (by decide) (flat 8 (nat8 s.data.toList))
  have hE : encN s.data.toList = (grp 6 (flat 8 (nat8 s.data.toList))).1 ++ (if (grp 6 (flat 8 (nat8 s.data.toList))).2.length = 0 then [] else [num (grp 6 (flat 8 (nat8 s.data.toList))).2 * 2 ^ (6 - (grp 6 (flat 8 (nat8 s.data.toList))).2.length)]) := rfl
  have hnum := num_lt (grp 6 (flat 8 (nat8 s.data.toList))).2
  have hE64 := (enc_spec s.data.toList).2
  have hEl := enc_length s.data.toList
  rw [lsize] at hEl
  generalize grp 6 (flat 8 (nat8 s.data.toList)) = g at *
  obtain ⟨m, h⟩ := g
  simp only at CR g2 g3 hE hnum
  obtain ⟨L, hL⟩ : ∃ L, L = h.length := ⟨_, rfl⟩
  obtain ⟨H, hH⟩ : ∃ H, H = num h := ⟨_, rfl⟩
  rw [← hL, ← hH] at CR hE hnum
  rw [← hL] at g2
  have hms : ∀ n : Nat, n = (encN s.data.toList).length → (4 - (n : Int) % 4) % 4 = (((4 - n % 4) % 4 : Nat) : Int) := fun n _ => by omega
  obtain ⟨T1, hT1⟩ := text_of ((encN s.data.toList).map sgn)
  obtain ⟨T2, hT2⟩ := text_of (fill (encN s.data.toList).length)
  have z1 : T1.size ≤ 1000000 := by rw [← lsize, hT1, List.length_map]; omega
  have z2 : T2.size ≤ 3 := by rw [← lsize, hT2, fill_length]; omega
  have hadd := add_to T1 T2 T (by rw [hT, hT1, hT2]; rfl) (by omega)
  have CW := written_hid (encN s.data.toList) hE64 T1 hT1 (by omega)
  have CF := repeat_hid ((4 - (encN s.data.toList).length % 4) % 4) (by omega) T2 hT2
  clear hin hT hT1 hT2 g1 hL hH
  by_cases h0 : L = 0
  · subst h0
    rw [if_pos rfl, List.append_nil] at hE
    rw [hE] at CW CF hE64 hEl hms
    have hm := hms m.length rfl
    have hM : m.length ≤ 1000000 := by omega
    clear hms hE hEl
    go_enter Tryz.func30, Tryz.ntmps30
    go_wp2_with fail
    refine CR.out.mono ?_
    rintro e w1 ⟨⟨u, rfl, hown⟩, b1⟩
    have hN := NatsIn.of_row hown
    obtain ⟨a, cp, rfl⟩ := hN.form
    have B1 := hbel.trans (b1.mono hbel.size)
    have HN := Lib.hid hN
    clear hN hown b1 hconv CR
    generalize m.length = M at *
    generalize (4 - M % 4) % 4 = c at *
    go_wp2_with fail
    refine (CW.out _ _ HN.out).mono ?_
    rintro e w2 ⟨rfl, b2⟩
    have B2 := B1.trans (b2.mono B1.size)
    clear b2
    go_wp2_with fail
    refine (CF.out _).mono ?_
    rintro e w3 ⟨rfl, b3⟩
    have B3 := B2.trans (b3.mono B2.size)
    go_wp2
    go_ret
    exact ⟨rfl, B3⟩
  · rw [if_neg h0] at hE
    obtain ⟨V, hV⟩ : ∃ V, V = H * 2 ^ (6 - L) := ⟨_, rfl⟩
    rw [← hV] at hE
    rw [hE] at CW CF hE64 hEl hms
    have hm := hms (m.length + 1) (by rw [List.length_append, List.length_singleton])
    rw [List.length_append, List.length_singleton] at hEl CF
    have hM : m.length ≤ 1000000 := by omega
    have hz : (0 : Int) < (L : Int) := by omega
    have hV63 : V < 64 := hE64 V (by simp)
    have hsn := natCells_snoc m V
    have hVz : (H : Int) * 2 ^ (6 - L) = (V : Int) := by rw [hV, Int.natCast_mul, Int.natCast_pow]; rfl
    have hmi : -(((m.length : Int) + 1) % 4) % 4 = (((4 - (m.length + 1) % 4) % 4 : Nat) : Int) := by omega
    obtain ⟨i0, hi, hz0, hz1, hz2⟩ := info_parts Tinfo5
    clear hms hE hEl hV hm hnum hE64 g3
    go_enter Tryz.func30, Tryz.ntmps30
    go_wp2_with fail
    refine CR.out.mono ?_
    rintro e w1 ⟨⟨u, rfl, hown⟩, b1⟩
    have B1 := hbel.trans (b1.mono hbel.size)
    have hN := NatsIn.of_row hown
    obtain ⟨a, cp, rfl⟩ := hN.form
    have hWw := hbel.size
    have HSN := Lib.hid hsn
    obtain ⟨A, hA⟩ : ∃ A, natCells m = A := ⟨_, rfl⟩
    obtain ⟨M, hMe⟩ : ∃ M, m.length = M := ⟨_, rfl⟩
    rw [hA, hMe] at hown
    rw [hMe] at hM CF hmi ⊢
    have HA := Lib.hid hA
    have HM := Lib.hid hMe
    clear hN hconv CR hsn hA hMe
    rw [← hmi] at CF
    clear hmi
    have hb1s := b1.size
    go_wp2_with (at_builtin; refine wpList_append_own _ rfl _ _ 85 rfl W.heap.size 5 i0 (.int .u8 0) 1 1 Tryz.underlying85 hi hz0 hz1 hz2 rfl (by decide) _ _ _ rfl (hown.alloc _) ⟨w1.heap.size, 0, none⟩ 1 1 [.int .u8 (V : Int)] rfl rfl (cell_one_new _ _ _) (fun x hx => by simp at hx; subst hx; rfl) (by unfold maxLen; omega) (by omega) (by simp; omega) ?_; intro v' w5 hown' hgrow5 hnil5
                 have hb5 : Below W.heap.size W w5 := Below.grown (b1.alloc b1.size _) hgrow5 (by simp; omega) (fun j hj => by have := (hown.lt _ hj).1; omega)
                 have X : Aside (NatsIn w5 v' (m ++ [V]) ∧ Below w.heap.size w w5) := ⟨NatsIn.of_row (by rw [HSN.out, HA.out, List.length_append, List.length_singleton, HM.out]; exact hown'), hbel.trans (hb5.mono hbel.size)⟩
                 obtain ⟨a', cp', rfl⟩ : ∃ a' cp', v' = .slice a' (M + 1) cp' := by
                   have := X.out.1.form
                   rw [List.length_append, List.length_singleton, HM.out] at this
                   exact this
                 clear hown' hgrow5 hnil5 hown hb5)
    refine (CW.out _ _ X.out.1).mono ?_
    rintro e w2 ⟨rfl, b2⟩
    have B2 := X.out.2.trans (b2.mono X.out.2.size)
    clear b2
    go_wp2_with fail
    refine (CF.out _).mono ?_
    rintro e w3 ⟨rfl, b3⟩
    have B3 := B2.trans (b3.mono B2.size)
    go_wp2
    go_ret
    exact ⟨rfl, B3⟩
theorem encode_hid (s : ByteArray) (hs : s.size ≤ 100000) (T : ByteArray) (hT : T.data.toList = encM s.data.toList) : Hid (∀ W, Calls Tryz.prog 30 #[.string s] W fun e w' => e = .returned (.string T) ∧ Below W.heap.size W w') :=
  Lib.hid fun W => encode_any s hs T hT W
end Go.Proofs.YthnogdodlhkldaaGreatDoor
