/- The plain mathematics of fold: blanks, small letters, trimmed texts, words and parts, over lists of bytes. -/
import Derived.Lib.SlTrimSet
import Derived.Lib.Split
import Derived.Lib.DecodeN
import Derived.Lib.Bytealg
namespace Go.Proofs.YtgbilfbonliipaaGreatDoor

def blk (b : UInt8) : Bool := [9, 10, 12, 13, 32].contains b
def lowB (b : UInt8) : UInt8 := if 65 ≤ b.toNat ∧ b.toNat ≤ 90 then b + 32 else b
def low (l : List UInt8) : List UInt8 := l.map lowB
def trim (l : List UInt8) : List UInt8 := Lib.trimS l [9, 10, 12, 13, 32]

/-- The segments between the bytes that p tells. -/
def cut (p : UInt8 → Bool) : List UInt8 → List (List UInt8)
  | [] => [[]]
  | b :: l => if p b then [] :: cut p l else
    match cut p l with
    | [] => [[b]]
    | h :: t => (b :: h) :: t
def words (l : List UInt8) : List (List UInt8) := (cut blk l).filter (fun w => !w.isEmpty)
def parts (l : List UInt8) (c : UInt8) : List (List UInt8) := (cut (· == c) l).map trim

theorem cut_ne (p : UInt8 → Bool) (l : List UInt8) : cut p l ≠ [] := by
  cases l with
  | nil => simp [cut]
  | cons b l =>
    unfold cut
    split
    · simp
    · split <;> simp
theorem cut_hit (p : UInt8 → Bool) (a : List UInt8) (c : UInt8) (r : List UInt8) (ha : ∀ b ∈ a, p b = false) (hc : p c = true) : cut p (a ++ c :: r) = a :: cut p r := by
  induction a with
  | nil => simp [cut, hc]
  | cons b a ih =>
    have hb := ha b (by simp)
    have := ih (fun x hx => ha x (by simp [hx]))
    simp only [List.cons_append, cut, hb, this, if_false, Bool.false_eq_true]
theorem cut_none (p : UInt8 → Bool) (a : List UInt8) (ha : ∀ b ∈ a, p b = false) : cut p a = [a] := by
  induction a with
  | nil => rfl
  | cons b a ih =>
    have hb := ha b (by simp)
    have := ih (fun x hx => ha x (by simp [hx]))
    simp only [cut, hb, this, if_false, Bool.false_eq_true]
theorem cut_length (p : UInt8 → Bool) (l : List UInt8) : (cut p l).length = l.countP p + 1 := by
  induction l with
  | nil => rfl
  | cons b l ih =>
    unfold cut
    cases hb : p b
    · simp only [Bool.false_eq_true, if_false]
      have hne := cut_ne p l
      split
      · contradiction
      · rename_i h t he
        rw [he] at ih
        simp only [List.length_cons] at ih ⊢
        rw [List.countP_cons_of_neg (by simp [hb])]
        exact ih
    · simp only [if_true, List.length_cons]
      rw [ih, List.countP_cons_of_pos hb]
theorem cut_mem (p : UInt8 → Bool) (l : List UInt8) : ∀ w ∈ cut p l, ∀ b ∈ w, p b = false := by
  induction l with
  | nil => intro w hw b hb; simp [cut] at hw; subst hw; cases hb
  | cons c l ih =>
    intro w hw b hb
    unfold cut at hw
    cases hc : p c
    · rw [if_neg (by simp [hc])] at hw
      have hne := cut_ne p l
      split at hw
      · contradiction
      · rename_i h t he
        rcases List.mem_cons.1 hw with rfl | hw
        · rcases List.mem_cons.1 hb with rfl | hb
          · exact hc
          · exact ih h (by rw [he]; simp) b hb
        · exact ih w (by rw [he]; simp [hw]) b hb
    · rw [if_pos hc] at hw
      rcases List.mem_cons.1 hw with rfl | hw
      · cases hb
      · exact ih w hw b hb
/-- How long the segments are together: at most the whole. -/
theorem cut_total (p : UInt8 → Bool) (l : List UInt8) : ((cut p l).map List.length).sum + l.countP p = l.length := by
  induction l with
  | nil => rfl
  | cons b l ih =>
    unfold cut
    cases hb : p b
    · simp only [Bool.false_eq_true, if_false]
      have hne := cut_ne p l
      split
      · contradiction
      · rename_i h t he
        rw [he] at ih
        rw [List.countP_cons_of_neg (by simp [hb])]
        simp only [List.map_cons, List.sum_cons, List.length_cons] at ih ⊢
        omega
    · simp only [if_true, List.length_cons, List.map_cons, List.sum_cons, List.length_nil]
      rw [List.countP_cons_of_pos hb]
      omega

/-! Words. -/
theorem words_hit (a : List UInt8) (c : UInt8) (r : List UInt8) (ha : ∀ b ∈ a, blk b = false) (hc : blk c = true) (h0 : a ≠ []) : words (a ++ c :: r) = a :: words r := by
  unfold words
  rw [cut_hit blk a c r ha hc, List.filter_cons, if_pos (by cases a <;> simp_all)]
theorem words_skip (c : UInt8) (r : List UInt8) (hc : blk c = true) : words (c :: r) = words r := by
  unfold words
  have := cut_hit blk [] c r (by simp) hc
  rw [List.nil_append] at this
  rw [this, List.filter_cons, if_neg (by simp)]
theorem words_last (a : List UInt8) (ha : ∀ b ∈ a, blk b = false) (h0 : a ≠ []) : words a = [a] := by
  unfold words
  rw [cut_none blk a ha, List.filter_cons, if_pos (by cases a <;> simp_all)]
  rfl
theorem words_nil : words [] = [] := rfl
theorem words_mem (l : List UInt8) : ∀ w ∈ words l, w ≠ [] ∧ ∀ b ∈ w, blk b = false := by
  intro w hw
  unfold words at hw
  rw [List.mem_filter] at hw
  refine ⟨by cases w <;> simp_all, cut_mem blk l w hw.1⟩
theorem sum_filter_le (L : List (List UInt8)) (p : List UInt8 → Bool) : ((L.filter p).map List.length).sum ≤ (L.map List.length).sum := by
  induction L with
  | nil => simp
  | cons a L ih =>
    rw [List.filter_cons]
    split <;> simp <;> omega
theorem length_le_sum (L : List (List UInt8)) (h : ∀ w ∈ L, w ≠ []) : L.length ≤ (L.map List.length).sum := by
  induction L with
  | nil => simp
  | cons a L ih =>
    have h1 := h a (by simp)
    have h2 := ih (fun w hw => h w (by simp [hw]))
    have h3 : 0 < a.length := List.length_pos_iff.2 h1
    simp only [List.length_cons, List.map_cons, List.sum_cons]; omega
theorem words_total (l : List UInt8) : ((words l).map List.length).sum ≤ l.length ∧ (words l).length ≤ l.length := by
  have h1 := sum_filter_le (cut blk l) (fun w => !w.isEmpty)
  have h2 := cut_total blk l
  have h3 := length_le_sum (words l) (fun w hw => (words_mem l w hw).1)
  have h4 : words l = (cut blk l).filter (fun w => !w.isEmpty) := rfl
  rw [← h4] at h1
  omega

/-- Words joined: a blank first, each word with two behind it. -/
def spread (c : UInt8) (ws : List (List UInt8)) : List UInt8 := c :: ws.flatMap (fun w => w ++ [c, c])
theorem spread_words (c : UInt8) (hc : blk c = true) (ws : List (List UInt8)) (h : ∀ w ∈ ws, w ≠ [] ∧ ∀ b ∈ w, blk b = false) : words (spread c ws) = ws := by
  unfold spread
  rw [words_skip c _ hc]
  induction ws with
  | nil => rfl
  | cons w ws ih =>
    have hw := h w (by simp)
    rw [List.flatMap_cons, List.append_assoc]
    rw [show w ++ ([c, c] ++ ws.flatMap (fun w => w ++ [c, c])) = w ++ c :: (c :: ws.flatMap (fun w => w ++ [c, c])) by simp]
    rw [words_hit w c _ hw.2 hc hw.1, words_skip c _ hc, ih (fun x hx => h x (by simp [hx]))]

/-! Lower. -/
theorem lowB_lowB (b : UInt8) : lowB (lowB b) = lowB b := by
  unfold lowB
  by_cases h : 65 ≤ b.toNat ∧ b.toNat ≤ 90
  · rw [if_pos h, if_neg]
    rw [UInt8.toNat_add]
    simp
    omega
  · rw [if_neg h, if_neg h]
theorem low_low (l : List UInt8) : low (low l) = low l := by simp [low, lowB_lowB]
theorem low_length (l : List UInt8) : (low l).length = l.length := by simp [low]

/-! Trim. -/
theorem dropWhile_nil_or (p : UInt8 → Bool) (l : List UInt8) : l.dropWhile p = [] ∨ ∃ b t, l.dropWhile p = b :: t ∧ p b = false := by
  induction l with
  | nil => exact .inl rfl
  | cons b l ih =>
    rw [List.dropWhile_cons]
    cases hb : p b
    · exact .inr ⟨b, l, by simp, hb⟩
    · simpa using ih
theorem dropWhile_id (p : UInt8 → Bool) (l : List UInt8) (h : ∀ b t, l = b :: t → p b = false) : l.dropWhile p = l := by
  cases l with
  | nil => rfl
  | cons b t => rw [List.dropWhile_cons, if_neg (by simp [h b t rfl])]
theorem dropWhile_idem (p : UInt8 → Bool) (l : List UInt8) : (l.dropWhile p).dropWhile p = l.dropWhile p := by
  refine dropWhile_id p _ fun b t e => ?_
  rcases dropWhile_nil_or p l with h | ⟨b', t', h, hb⟩
  · rw [h] at e; cases e
  · rw [h] at e; cases e; exact hb
/-- What a text without blanks at both ends looks like. -/
def Ends (l : List UInt8) : Prop := (∀ b t, l = b :: t → blk b = false) ∧ (∀ b t, l = t ++ [b] → blk b = false)
theorem trim_of_ends {l : List UInt8} (h : Ends l) : trim l = l := by
  unfold trim Lib.trimS Lib.trimLeftS Lib.trimRightS
  have e1 : l.reverse.dropWhile ([9, 10, 12, 13, 32].contains ·) = l.reverse := by
    refine dropWhile_id _ _ fun b t e => ?_
    exact h.2 b t.reverse (by have := congrArg List.reverse e; simpa using this)
  rw [e1, List.reverse_reverse]
  exact dropWhile_id _ _ fun b t e => h.1 b t e
theorem dropWhile_suffix (p : UInt8 → Bool) (l : List UInt8) : ∃ a, l = a ++ l.dropWhile p ∧ ∀ b ∈ a, p b = true := by
  induction l with
  | nil => exact ⟨[], rfl, by simp⟩
  | cons b l ih =>
    rw [List.dropWhile_cons]
    cases hb : p b
    · exact ⟨[], by simp, by simp⟩
    · obtain ⟨a, ha, hb'⟩ := ih
      exact ⟨b :: a, by simpa using ha, fun x hx => by rcases List.mem_cons.1 hx with rfl | hx; exact hb; exact hb' x hx⟩
theorem trim_form (l : List UInt8) : ∃ a z, l = a ++ trim l ++ z ∧ (∀ b ∈ a, blk b = true) ∧ (∀ b ∈ z, blk b = true) := by
  unfold trim Lib.trimS
  obtain ⟨z, hz, hzb⟩ := dropWhile_suffix ([9, 10, 12, 13, 32].contains ·) l.reverse
  obtain ⟨a, ha, hab⟩ := dropWhile_suffix ([9, 10, 12, 13, 32].contains ·) (Lib.trimRightS l [9, 10, 12, 13, 32])
  refine ⟨a, z.reverse, ?_, hab, fun b hb => hzb b (by simpa using hb)⟩
  have h2 : l = Lib.trimRightS l [9, 10, 12, 13, 32] ++ z.reverse := by
    have := congrArg List.reverse hz
    simpa [Lib.trimRightS] using this
  unfold Lib.trimLeftS
  rw [← ha]
  exact h2
theorem trim_ends (l : List UInt8) : Ends (trim l) := by
  constructor
  · intro b t e
    unfold trim Lib.trimS at e
    rcases dropWhile_nil_or ([9, 10, 12, 13, 32].contains ·) (Lib.trimRightS l [9, 10, 12, 13, 32]) with h | ⟨b', t', h, hb⟩
    · unfold Lib.trimLeftS at e; rw [h] at e; cases e
    · unfold Lib.trimLeftS at e; rw [h] at e; cases e; exact hb
  · intro b t e
    unfold trim Lib.trimS at e
    obtain ⟨a, ha, _⟩ := dropWhile_suffix ([9, 10, 12, 13, 32].contains ·) (Lib.trimRightS l [9, 10, 12, 13, 32])
    have h2 : Lib.trimRightS l [9, 10, 12, 13, 32] = (a ++ t) ++ [b] := by rw [List.append_assoc, ← e]; exact ha
    unfold Lib.trimRightS at h2
    rcases dropWhile_nil_or ([9, 10, 12, 13, 32].contains ·) l.reverse with h | ⟨b', t', h, hb⟩
    · rw [h] at h2; simp at h2
    · rw [h] at h2
      have := congrArg List.reverse h2
      simp at this
      rw [← this.1]; exact hb
theorem trim_trim (l : List UInt8) : trim (trim l) = trim l := trim_of_ends (trim_ends l)
theorem trim_length (l : List UInt8) : (trim l).length ≤ l.length := by
  obtain ⟨a, z, h, _⟩ := trim_form l
  have := congrArg List.length h
  simp at this; omega
theorem trim_all_blank (l : List UInt8) (h : ∀ b ∈ l, blk b = true) : trim l = [] := by
  rcases hE : trim l with _ | ⟨b, t⟩
  · rfl
  · have h1 := (trim_ends l).1 b t hE
    obtain ⟨a, z, h2, _⟩ := trim_form l
    have hm : b ∈ l := by rw [h2, hE]; simp
    rw [h b hm] at h1; cases h1
theorem ends_unique {a m z a' m' z' : List UInt8} (h : a ++ m ++ z = a' ++ m' ++ z') (ha : ∀ b ∈ a, blk b = true) (hz : ∀ b ∈ z, blk b = true) (ha' : ∀ b ∈ a', blk b = true) (hz' : ∀ b ∈ z', blk b = true) (hm : Ends m) (hm' : Ends m') (hn : m ≠ []) (hn' : m' ≠ []) : m = m' := by
  have len : a.length = a'.length := by
    rcases Nat.lt_trichotomy a.length a'.length with h1 | h1 | h1
    · exfalso
      obtain ⟨b, t, rfl⟩ := List.exists_cons_of_ne_nil hn
      have e := congrArg (fun l : List UInt8 => l[a.length]?) h
      simp only [List.append_assoc] at e
      rw [List.getElem?_append_right (Nat.le_refl _), Nat.sub_self] at e
      rw [List.getElem?_append_left h1] at e
      simp at e
      have := ha' _ (List.mem_of_getElem? e.symm)
      rw [hm.1 b t rfl] at this; cases this
    · exact h1
    · exfalso
      obtain ⟨b, t, rfl⟩ := List.exists_cons_of_ne_nil hn'
      have e := congrArg (fun l : List UInt8 => l[a'.length]?) h
      simp only [List.append_assoc] at e
      rw [List.getElem?_append_left h1] at e
      rw [List.getElem?_append_right (Nat.le_refl _), Nat.sub_self] at e
      simp at e
      have := ha _ (List.mem_of_getElem? e)
      rw [hm'.1 b t rfl] at this; cases this
  simp only [List.append_assoc] at h
  obtain ⟨rfl, h2⟩ := List.append_inj h len
  have len2 : z.length = z'.length := by
    have hlen := congrArg List.length h2
    simp at hlen
    rcases Nat.lt_trichotomy m.length m'.length with h1 | h1 | h1
    · exfalso
      obtain ⟨t, b, rfl⟩ : ∃ t b, m' = t ++ [b] := ⟨m'.dropLast, m'.getLast hn', (List.dropLast_concat_getLast hn').symm⟩
      have e := congrArg (fun l : List UInt8 => l[t.length]?) h2
      simp only [List.append_assoc] at e
      rw [List.getElem?_append_right (by simp at h1; omega)] at e
      rw [List.getElem?_append_right (Nat.le_refl _), Nat.sub_self] at e
      simp at e
      have := hz _ (List.mem_of_getElem? e)
      rw [hm'.2 b t rfl] at this; cases this
    · omega
    · exfalso
      obtain ⟨t, b, rfl⟩ : ∃ t b, m = t ++ [b] := ⟨m.dropLast, m.getLast hn, (List.dropLast_concat_getLast hn).symm⟩
      have ht : m'.length ≤ t.length := by simp at h1; omega
      have e : (t ++ [b] ++ z)[t.length]? = (m' ++ z')[t.length]? := congrArg (fun l : List UInt8 => l[t.length]?) h2
      rw [List.getElem?_append_right ht, List.append_assoc, List.getElem?_append_right (Nat.le_refl _), Nat.sub_self] at e
      simp at e
      have := hz' _ (List.mem_of_getElem? e.symm)
      rw [hm.2 b t rfl] at this; cases this
  exact (List.append_inj' h2 len2).1
/-- What is trimmed is known by its shape. -/
theorem trim_unique {a m z : List UInt8} (ha : ∀ b ∈ a, blk b = true) (hz : ∀ b ∈ z, blk b = true) (hm : Ends m) : trim (a ++ m ++ z) = m := by
  obtain ⟨a', z', h, ha', hz'⟩ := trim_form (a ++ m ++ z)
  by_cases hn : m = []
  · subst hn
    refine trim_all_blank _ fun b hb => ?_
    simp at hb
    rcases hb with hb | hb
    · exact ha b hb
    · exact hz b hb
  · by_cases hn' : trim (a ++ m ++ z) = []
    · exfalso
      rw [hn'] at h
      obtain ⟨b, t, rfl⟩ := List.exists_cons_of_ne_nil hn
      have hb : b ∈ a' ++ [] ++ z' := by rw [← h]; simp
      simp at hb
      have := hm.1 b t rfl
      rcases hb with hb | hb
      · rw [ha' b hb] at this; cases this
      · rw [hz' b hb] at this; cases this
    · exact (ends_unique h ha hz ha' hz' hm (trim_ends _) hn hn').symm
/-- A range trimmed step by step from both ends. -/
theorem trim_range (l : List UInt8) (i j : Nat) (hij : i ≤ j) (hj : j ≤ l.length) (h1 : ∀ k, k < i → ∀ b, l[k]? = some b → blk b = true) (h2 : ∀ k, j ≤ k → ∀ b, l[k]? = some b → blk b = true) (h3 : i < j → ∀ b, l[i]? = some b → blk b = false) (h4 : i < j → ∀ b, l[j - 1]? = some b → blk b = false) : trim l = (l.take j).drop i := by
  have e : l = l.take i ++ (l.take j).drop i ++ l.drop j := by
    have : l.take i = (l.take j).take i := by rw [List.take_take]; congr 1; omega
    rw [this, List.take_append_drop, List.take_append_drop]
  have hlen : ((l.take j).drop i).length = j - i := by simp; omega
  rw [e]
  have := trim_unique (a := l.take i) (m := (l.take j).drop i) (z := l.drop j) (fun b hb => ?_) (fun b hb => ?_) ⟨fun b t hbt => ?_, fun b t hbt => ?_⟩
  · rw [← e] at this ⊢; exact this
  · obtain ⟨k, hk⟩ := List.mem_iff_getElem?.1 hb
    rw [List.getElem?_take] at hk
    split at hk
    · exact h1 k ‹_› b hk
    · cases hk
  · obtain ⟨k, hk⟩ := List.mem_iff_getElem?.1 hb
    rw [List.getElem?_drop] at hk
    exact h2 _ (by omega) b hk
  · have hl := congrArg List.length hbt
    rw [hlen] at hl; simp at hl
    have hk := congrArg (fun l : List UInt8 => l[0]?) hbt
    simp only [List.getElem?_drop, List.getElem?_take] at hk
    rw [if_pos (by omega)] at hk
    simp at hk
    exact h3 (by omega) b hk
  · have hl := congrArg List.length hbt
    rw [hlen] at hl; simp at hl
    have hk := congrArg (fun l : List UInt8 => l[t.length]?) hbt
    simp only [List.getElem?_drop, List.getElem?_take] at hk
    rw [if_pos (by omega)] at hk
    simp at hk
    exact h4 (by omega) b (by rw [← hk]; congr 1; omega)

/-! Parts. -/
theorem parts_length (l : List UInt8) (c : UInt8) : (parts l c).length = l.count c + 1 := by
  unfold parts
  rw [List.length_map, cut_length]
  rfl
/-- The parts joined by the byte. -/
def joined (c : UInt8) : List (List UInt8) → List UInt8
  | [] => []
  | [w] => w
  | w :: ws => w ++ c :: joined c ws
theorem joined_cons (c : UInt8) (w v : List UInt8) (ws : List (List UInt8)) : joined c (w :: v :: ws) = w ++ c :: joined c (v :: ws) := rfl
theorem joined_length_cons (c : UInt8) (w v : List UInt8) (ws : List (List UInt8)) : (joined c (w :: v :: ws)).length = w.length + (joined c (v :: ws)).length + 1 := by rw [joined_cons]; simp; omega
theorem cut_joined (c : UInt8) (ws : List (List UInt8)) (h0 : ws ≠ []) (h : ∀ w ∈ ws, ∀ b ∈ w, (b == c) = false) : cut (· == c) (joined c ws) = ws := by
  induction ws with
  | nil => exact absurd rfl h0
  | cons w ws ih =>
    cases ws with
    | nil => exact cut_none _ _ (h w (by simp))
    | cons v ws =>
      have := cut_hit (· == c) w c (joined c (v :: ws)) (h w (by simp)) (by simp)
      show cut (· == c) (w ++ c :: joined c (v :: ws)) = _
      rw [this, ih (by simp) (fun x hx => h x (by simp [hx]))]
theorem parts_joined (l : List UInt8) (c : UInt8) : parts (joined c (parts l c)) c = parts l c := by
  have hne : parts l c ≠ [] := by
    have := parts_length l c
    intro e; rw [e] at this; simp at this
  have hmem : ∀ w ∈ parts l c, ∀ b ∈ w, (b == c) = false := by
    intro w hw b hb
    unfold parts at hw
    obtain ⟨v, hv, rfl⟩ := List.mem_map.1 hw
    refine cut_mem (· == c) l v hv b ?_
    obtain ⟨a, z, h, _⟩ := trim_form v
    rw [h]; simp [hb]
  have e := cut_joined c (parts l c) hne hmem
  show (cut (· == c) (joined c (parts l c))).map trim = _
  rw [e]
  unfold parts
  rw [List.map_map]
  congr 1
  funext w
  exact trim_trim w
theorem joined_length (c : UInt8) (ws : List (List UInt8)) : (joined c ws).length ≤ (ws.map List.length).sum + ws.length := by
  induction ws with
  | nil => simp [joined]
  | cons w ws ih =>
    cases ws with
    | nil => simp [joined]
    | cons v ws =>
      rw [joined_length_cons]
      simp only [List.map_cons, List.sum_cons, List.length_cons] at ih ⊢
      omega
theorem sum_map_trim_le (L : List (List UInt8)) : ((L.map trim).map List.length).sum ≤ (L.map List.length).sum := by
  induction L with
  | nil => simp
  | cons a L ih =>
    have := trim_length a
    simp only [List.map_cons, List.sum_cons] at ih ⊢; omega
theorem parts_total (l : List UInt8) (c : UInt8) : ((parts l c).map List.length).sum ≤ l.length ∧ (parts l c).length ≤ l.length + 1 := by
  have h1 := sum_map_trim_le (cut (· == c) l)
  have h2 := cut_total (· == c) l
  have h3 := parts_length l c
  have h4 : l.count c ≤ l.length := List.count_le_length
  have h5 : parts l c = (cut (· == c) l).map trim := rfl
  rw [← h5] at h1
  omega

/-! Split. -/
theorem isPrefixOf_one (c b : UInt8) (l : List UInt8) : [c].isPrefixOf (b :: l) = (c == b) := by simp [List.isPrefixOf]
theorem index_one (l : List UInt8) (c : UInt8) : (Lib.index l [c] = -1 ∧ ∀ b ∈ l, (b == c) = false) ∨ ∃ a r, l = a ++ c :: r ∧ (∀ b ∈ a, (b == c) = false) ∧ Lib.index l [c] = a.length := by
  induction l with
  | nil => exact .inl ⟨rfl, by simp⟩
  | cons b l ih =>
    unfold Lib.index
    rw [isPrefixOf_one]
    cases hb : (c == b)
    · have hb' : (b == c) = false := by rw [Bool.eq_false_iff] at hb ⊢; intro h; exact hb (by rw [eq_of_beq h]; simp)
      simp only [Bool.false_eq_true, if_false]
      rcases ih with ⟨h1, h2⟩ | ⟨a, r, rfl, h2, h3⟩
      · left
        rw [h1]
        exact ⟨rfl, fun x hx => by rcases List.mem_cons.1 hx with rfl | hx; exact hb'; exact h2 x hx⟩
      · right
        refine ⟨b :: a, r, rfl, fun x hx => by rcases List.mem_cons.1 hx with rfl | hx; exact hb'; exact h2 x hx, ?_⟩
        rw [h3, if_neg (by simp)]
        rfl
    · right
      have hb' := eq_of_beq hb
      exact ⟨[], l, by simp [hb'], by simp, by simp⟩
theorem splitK_cut (c : UInt8) : ∀ (k : Nat) (l : List UInt8), l.countP (· == c) ≤ k → Lib.splitK [c] 0 k l = cut (· == c) l
  | 0, l, h => by
    have h0 : l.countP (· == c) = 0 := by omega
    rw [List.countP_eq_zero] at h0
    exact (cut_none _ l (fun b hb => by simpa using h0 b hb)).symm
  | k + 1, l, h => by
    unfold Lib.splitK
    rcases index_one l c with ⟨h1, h2⟩ | ⟨a, r, rfl, h2, h3⟩
    · rw [h1, cut_none _ l h2]; simp
    · rw [h3, if_neg (by simp), cut_hit _ a c r h2 (by simp)]
      have e1 : (a ++ c :: r).take ((a.length : Int).toNat + 0) = a := by simp
      have e2 : (a ++ c :: r).drop ((a.length : Int).toNat + [c].length) = r := by
        simp only [Int.toNat_natCast, List.length_cons, List.length_nil, Nat.zero_add]
        rw [List.drop_append]
        simp
      rw [e1, e2, splitK_cut c k r (by
        rw [List.countP_append, List.countP_cons_of_pos (by simp)] at h; omega)]

end Go.Proofs.YtgbilfbonliipaaGreatDoor
