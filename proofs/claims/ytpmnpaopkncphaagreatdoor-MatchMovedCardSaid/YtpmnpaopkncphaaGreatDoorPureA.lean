/- The plain mathematics of fold: blanks, small letters, trimmed texts, words and parts, over lists of bytes. A text's words as its code points tell them: a blank is a code point below 128, and no code point of several bytes has one among its bytes. The plain mathematics of url: bytes, hosts, paths, addresses, their texts and what is parsed, over lists of bytes. The plain mathematics of url, further: what the document's own loops know; texts that are parsed alike; an address' text and its front. The plain mathematics of resolve: an address' text is parsed as it; what a text begins with; what is joined to an address. -/
import Derived.Lib.SlTrimSet
import Derived.Lib.Split
import Derived.Lib.DecodeN
import Derived.Lib.Bytealg
import Derived.Lib.ItoaNum
import Derived.Lib.Join
namespace Go.Proofs.YtpmnpaopkncphaaGreatDoor

def blk (b : UInt8) : Bool := [9, 10, 12, 13, 32].contains b
def lowB (b : UInt8) : UInt8 := if 65 ≤ b.toNat ∧ b.toNat ≤ 90 then b + 32 else b
def low (l : List UInt8) : List UInt8 := l.map lowB
def trim (l : List UInt8) : List UInt8 := Lib.trimS l [9, 10, 12, 13, 32]

/-- The segments between the bytes that p tells. -/
def cut (p : UInt8 → Bool) : List UInt8 → List (List UInt8)
  | [] => [[]]
  | b :: l => if p b then [] :: cut p l else
    match cut p l with
    | [] => [[b]]
    | h :: t => (b :: h) :: t
def words (l : List UInt8) : List (List UInt8) := (cut blk l).filter (fun w => !w.isEmpty)
def parts (l : List UInt8) (c : UInt8) : List (List UInt8) := (cut (· == c) l).map trim

theorem cut_ne (p : UInt8 → Bool) (l : List UInt8) : cut p l ≠ [] := by
  cases l with
  | nil => simp [cut]
  | cons b l =>
    unfold cut
    split
    · simp
    · split <;> simp
theorem cut_hit (p : UInt8 → Bool) (a : List UInt8) (c : UInt8) (r : List UInt8) (ha : ∀ b ∈ a, p b = false) (hc : p c = true) : cut p (a ++ c :: r) = a :: cut p r := by
  induction a with
  | nil => simp [cut, hc]
  | cons b a ih =>
    have hb := ha b (by simp)
    have := ih (fun x hx => ha x (by simp [hx]))
    simp only [List.cons_append, cut, hb, this, if_false, Bool.false_eq_true]
theorem cut_none (p : UInt8 → Bool) (a : List UInt8) (ha : ∀ b ∈ a, p b = false) : cut p a = [a] := by
  induction a with
  | nil => rfl
  | cons b a ih =>
    have hb := ha b (by simp)
    have := ih (fun x hx => ha x (by simp [hx]))
    simp only [cut, hb, this, if_false, Bool.false_eq_true]
theorem cut_length (p : UInt8 → Bool) (l : List UInt8) : (cut p l).length = l.countP p + 1 := by
  induction l with
  | nil => rfl
  | cons b l ih =>
    unfold cut
    cases hb : p b
    · simp only [Bool.false_eq_true, if_false]
      have hne := cut_ne p l
      split
      · contradiction
      · rename_i h t he
        rw [he] at ih
        simp only [List.length_cons] at ih ⊢
        rw [List.countP_cons_of_neg (by simp [hb])]
        exact ih
    · simp only [if_true, List.length_cons]
      rw [ih, List.countP_cons_of_pos hb]
theorem cut_mem (p : UInt8 → Bool) (l : List UInt8) : ∀ w ∈ cut p l, ∀ b ∈ w, p b = false := by
  induction l with
  | nil => intro w hw b hb; simp [cut] at hw; subst hw; cases hb
  | cons c l ih =>
    intro w hw b hb
    unfold cut at hw
    cases hc : p c
    · rw [if_neg (by simp [hc])] at hw
      have hne := cut_ne p l
      split at hw
      · contradiction
      · rename_i h t he
        rcases List.mem_cons.1 hw with rfl | hw
        · rcases List.mem_cons.1 hb with rfl | hb
          · exact hc
          · exact ih h (by rw [he]; simp) b hb
        · exact ih w (by rw [he]; simp [hw]) b hb
    · rw [if_pos hc] at hw
      rcases List.mem_cons.1 hw with rfl | hw
      · cases hb
      · exact ih w hw b hb
/-- How long the segments are together: at most the whole. -/
theorem cut_total (p : UInt8 → Bool) (l : List UInt8) : ((cut p l).map List.length).sum + l.countP p = l.length := by
  induction l with
  | nil => rfl
  | cons b l ih =>
    unfold cut
    cases hb : p b
    · simp only [Bool.false_eq_true, if_false]
      have hne := cut_ne p l
      split
      · contradiction
      · rename_i h t he
        rw [he] at ih
        rw [List.countP_cons_of_neg (by simp [hb])]
        simp only [List.map_cons, List.sum_cons, List.length_cons] at ih ⊢
        omega
    · simp only [if_true, List.length_cons, List.map_cons, List.sum_cons, List.length_nil]
      rw [List.countP_cons_of_pos hb]
      omega

/-! Words. -/
theorem words_hit (a : List UInt8) (c : UInt8) (r : List UInt8) (ha : ∀ b ∈ a, blk b = false) (hc : blk c = true) (h0 : a ≠ []) : words (a ++ c :: r) = a :: words r := by
  unfold words
  rw [cut_hit blk a c r ha hc, List.filter_cons, if_pos (by cases a <;> simp_all)]
theorem words_skip (c : UInt8) (r : List UInt8) (hc : blk c = true) : words (c :: r) = words r := by
  unfold words
  have := cut_hit blk [] c r (by simp) hc
  rw [List.nil_append] at this
  rw [this, List.filter_cons, if_neg (by simp)]
theorem words_last (a : List UInt8) (ha : ∀ b ∈ a, blk b = false) (h0 : a ≠ []) : words a = [a] := by
  unfold words
  rw [cut_none blk a ha, List.filter_cons, if_pos (by cases a <;> simp_all)]
  rfl
theorem words_nil : words [] = [] := rfl
theorem words_mem (l : List UInt8) : ∀ w ∈ words l, w ≠ [] ∧ ∀ b ∈ w, blk b = false := by
  intro w hw
  unfold words at hw
  rw [List.mem_filter] at hw
  refine ⟨by cases w <;> simp_all, cut_mem blk l w hw.1⟩
theorem sum_filter_le (L : List (List UInt8)) (p : List UInt8 → Bool) : ((L.filter p).map List.length).sum ≤ (L.map List.length).sum := by
  induction L with
  | nil => simp
  | cons a L ih =>
    rw [List.filter_cons]
    split <;> simp <;> omega
theorem length_le_sum (L : List (List UInt8)) (h : ∀ w ∈ L, w ≠ []) : L.length ≤ (L.map List.length).sum := by
  induction L with
  | nil => simp
  | cons a L ih =>
    have h1 := h a (by simp)
    have h2 := ih (fun w hw => h w (by simp [hw]))
    have h3 : 0 < a.length := List.length_pos_iff.2 h1
    simp only [List.length_cons, List.map_cons, List.sum_cons]; omega
theorem words_total (l : List UInt8) : ((words l).map List.length).sum ≤ l.length ∧ (words l).length ≤ l.length := by
  have h1 := sum_filter_le (cut blk l) (fun w => !w.isEmpty)
  have h2 := cut_total blk l
  have h3 := length_le_sum (words l) (fun w hw => (words_mem l w hw).1)
  have h4 : words l = (cut blk l).filter (fun w => !w.isEmpty) := rfl
  rw [← h4] at h1
  omega

/-- Words joined: a blank first, each word with two behind it. -/
def spread (c : UInt8) (ws : List (List UInt8)) : List UInt8 := c :: ws.flatMap (fun w => w ++ [c, c])
theorem spread_words (c : UInt8) (hc : blk c = true) (ws : List (List UInt8)) (h : ∀ w ∈ ws, w ≠ [] ∧ ∀ b ∈ w, blk b = false) : words (spread c ws) = ws := by
  unfold spread
  rw [words_skip c _ hc]
  induction ws with
  | nil => rfl
  | cons w ws ih =>
    have hw := h w (by simp)
    rw [List.flatMap_cons, List.append_assoc]
    rw [show w ++ ([c, c] ++ ws.flatMap (fun w => w ++ [c, c])) = w ++ c :: (c :: ws.flatMap (fun w => w ++ [c, c])) by simp]
    rw [words_hit w c _ hw.2 hc hw.1, words_skip c _ hc, ih (fun x hx => h x (by simp [hx]))]

/-! Lower. -/
theorem lowB_lowB (b : UInt8) : lowB (lowB b) = lowB b := by
  unfold lowB
  by_cases h : 65 ≤ b.toNat ∧ b.toNat ≤ 90
  · rw [if_pos h, if_neg]
    rw [UInt8.toNat_add]
    simp
    omega
  · rw [if_neg h, if_neg h]
theorem low_low (l : List UInt8) : low (low l) = low l := by simp [low, lowB_lowB]
theorem low_length (l : List UInt8) : (low l).length = l.length := by simp [low]

/-! Trim. -/
theorem dropWhile_nil_or (p : UInt8 → Bool) (l : List UInt8) : l.dropWhile p = [] ∨ ∃ b t, l.dropWhile p = b :: t ∧ p b = false := by
  induction l with
  | nil => exact .inl rfl
  | cons b l ih =>
    rw [List.dropWhile_cons]
    cases hb : p b
    · exact .inr ⟨b, l, by simp, hb⟩
    · simpa using ih
theorem dropWhile_id (p : UInt8 → Bool) (l : List UInt8) (h : ∀ b t, l = b :: t → p b = false) : l.dropWhile p = l := by
  cases l with
  | nil => rfl
  | cons b t => rw [List.dropWhile_cons, if_neg (by simp [h b t rfl])]
theorem dropWhile_idem (p : UInt8 → Bool) (l : List UInt8) : (l.dropWhile p).dropWhile p = l.dropWhile p := by
  refine dropWhile_id p _ fun b t e => ?_
  rcases dropWhile_nil_or p l with h | ⟨b', t', h, hb⟩
  · rw [h] at e; cases e
  · rw [h] at e; cases e; exact hb
/-- What a text without blanks at both ends looks like. -/
def Ends (l : List UInt8) : Prop := (∀ b t, l = b :: t → blk b = false) ∧ (∀ b t, l = t ++ [b] → blk b = false)
theorem trim_of_ends {l : List UInt8} (h : Ends l) : trim l = l := by
  unfold trim Lib.trimS Lib.trimLeftS Lib.trimRightS
  have e1 : l.reverse.dropWhile ([9, 10, 12, 13, 32].contains ·) = l.reverse := by
    refine dropWhile_id _ _ fun b t e => ?_
    exact h.2 b t.reverse (by have := congrArg List.reverse e; simpa using this)
  rw [e1, List.reverse_reverse]
  exact dropWhile_id _ _ fun b t e => h.1 b t e
theorem dropWhile_suffix (p : UInt8 → Bool) (l : List UInt8) : ∃ a, l = a ++ l.dropWhile p ∧ ∀ b ∈ a, p b = true := by
  induction l with
  | nil => exact ⟨[], rfl, by simp⟩
  | cons b l ih =>
    rw [List.dropWhile_cons]
    cases hb : p b
    · exact ⟨[], by simp, by simp⟩
    · obtain ⟨a, ha, hb'⟩ := ih
      exact ⟨b :: a, by simpa using ha, fun x hx => by rcases List.mem_cons.1 hx with rfl | hx; exact hb; exact hb' x hx⟩
theorem trim_form (l : List UInt8) : ∃ a z, l = a ++ trim l ++ z ∧ (∀ b ∈ a, blk b = true) ∧ (∀ b ∈ z, blk b = true) := by
  unfold trim Lib.trimS
  obtain ⟨z, hz, hzb⟩ := dropWhile_suffix ([9, 10, 12, 13, 32].contains ·) l.reverse
  obtain ⟨a, ha, hab⟩ := dropWhile_suffix ([9, 10, 12, 13, 32].contains ·) (Lib.trimRightS l [9, 10, 12, 13, 32])
  refine ⟨a, z.reverse, ?_, hab, fun b hb => hzb b (by simpa using hb)⟩
  have h2 : l = Lib.trimRightS l [9, 10, 12, 13, 32] ++ z.reverse := by
    have := congrArg List.reverse hz
    simpa [Lib.trimRightS] using this
  unfold Lib.trimLeftS
  rw [← ha]
  exact h2
theorem trim_ends (l : List UInt8) : Ends (trim l) := by
  constructor
  · intro b t e
    unfold trim Lib.trimS at e
    rcases dropWhile_nil_or ([9, 10, 12, 13, 32].contains ·) (Lib.trimRightS l [9, 10, 12, 13, 32]) with h | ⟨b', t', h, hb⟩
    · unfold Lib.trimLeftS at e; rw [h] at e; cases e
    · unfold Lib.trimLeftS at e; rw [h] at e; cases e; exact hb
  · intro b t e
    unfold trim Lib.trimS at e
    obtain ⟨a, ha, _⟩ := dropWhile_suffix ([9, 10, 12, 13, 32].contains ·) (Lib.trimRightS l [9, 10, 12, 13, 32])
    have h2 : Lib.trimRightS l [9, 10, 12, 13, 32] = (a ++ t) ++ [b] := by rw [List.append_assoc, ← e]; exact ha
    unfold Lib.trimRightS at h2
    rcases dropWhile_nil_or ([9, 10, 12, 13, 32].contains ·) l.reverse with h | ⟨b', t', h, hb⟩
    · rw [h] at h2; simp at h2
    · rw [h] at h2
      have := congrArg List.reverse h2
      simp at this
      rw [← this.1]; exact hb
theorem trim_trim (l : List UInt8) : trim (trim l) = trim l := trim_of_ends (trim_ends l)
theorem trim_length (l : List UInt8) : (trim l).length ≤ l.length := by
  obtain ⟨a, z, h, _⟩ := trim_form l
  have := congrArg List.length h
  simp at this; omega
theorem trim_all_blank (l : List UInt8) (h : ∀ b ∈ l, blk b = true) : trim l = [] := by
  rcases hE : trim l with _ | ⟨b, t⟩
  · rfl
  · have h1 := (trim_ends l).1 b t hE
    obtain ⟨a, z, h2, _⟩ := trim_form l
    have hm : b ∈ l := by rw [h2, hE]; simp
    rw [h b hm] at h1; cases h1
theorem ends_unique {a m z a' m' z' : List UInt8} (h : a ++ m ++ z = a' ++ m' ++ z') (ha : ∀ b ∈ a, blk b = true) (hz : ∀ b ∈ z, blk b = true) (ha' : ∀ b ∈ a', blk b = true) (hz' : ∀ b ∈ z', blk b = true) (hm : Ends m) (hm' : Ends m') (hn : m ≠ []) (hn' : m' ≠ []) : m = m' := by
  have len : a.length = a'.length := by
    rcases Nat.lt_trichotomy a.length a'.length with h1 | h1 | h1
    · exfalso
      obtain ⟨b, t, rfl⟩ := List.exists_cons_of_ne_nil hn
      have e := congrArg (fun l : List UInt8 => l[a.length]?) h
      simp only [List.append_assoc] at e
      rw [List.getElem?_append_right (Nat.le_refl _), Nat.sub_self] at e
      rw [List.getElem?_append_left h1] at e
      simp at e
      have := ha' _ (List.mem_of_getElem? e.symm)
      rw [hm.1 b t rfl] at this; cases this
    · exact h1
    · exfalso
      obtain ⟨b, t, rfl⟩ := List.exists_cons_of_ne_nil hn'
      have e := congrArg (fun l : List UInt8 => l[a'.length]?) h
      simp only [List.append_assoc] at e
      rw [List.getElem?_append_left h1] at e
      rw [List.getElem?_append_right (Nat.le_refl _), Nat.sub_self] at e
      simp at e
      have := ha _ (List.mem_of_getElem? e)
      rw [hm'.1 b t rfl] at this; cases this
  simp only [List.append_assoc] at h
  obtain ⟨rfl, h2⟩ := List.append_inj h len
  have len2 : z.length = z'.length := by
    have hlen := congrArg List.length h2
    simp at hlen
    rcases Nat.lt_trichotomy m.length m'.length with h1 | h1 | h1
    · exfalso
      obtain ⟨t, b, rfl⟩ : ∃ t b, m' = t ++ [b] := ⟨m'.dropLast, m'.getLast hn', (List.dropLast_concat_getLast hn').symm⟩
      have e := congrArg (fun l : List UInt8 => l[t.length]?) h2
      simp only [List.append_assoc] at e
      rw [List.getElem?_append_right (by simp at h1; omega)] at e
      rw [List.getElem?_append_right (Nat.le_refl _), Nat.sub_self] at e
      simp at e
      have := hz _ (List.mem_of_getElem? e)
      rw [hm'.2 b t rfl] at this; cases this
    · omega
    · exfalso
      obtain ⟨t, b, rfl⟩ : ∃ t b, m = t ++ [b] := ⟨m.dropLast, m.getLast hn, (List.dropLast_concat_getLast hn).symm⟩
      have ht : m'.length ≤ t.length := by simp at h1; omega
      have e : (t ++ [b] ++ z)[t.length]? = (m' ++ z')[t.length]? := congrArg (fun l : List UInt8 => l[t.length]?) h2
      rw [List.getElem?_append_right ht, List.append_assoc, List.getElem?_append_right (Nat.le_refl _), Nat.sub_self] at e
      simp at e
      have := hz' _ (List.mem_of_getElem? e.symm)
      rw [hm.2 b t rfl] at this; cases this
  exact (List.append_inj' h2 len2).1
/-- What is trimmed is known by its shape. -/
theorem trim_unique {a m z : List UInt8} (ha : ∀ b ∈ a, blk b = true) (hz : ∀ b ∈ z, blk b = true) (hm : Ends m) : trim (a ++ m ++ z) = m := by
  obtain ⟨a', z', h, ha', hz'⟩ := trim_form (a ++ m ++ z)
  by_cases hn : m = []
  · subst hn
    refine trim_all_blank _ fun b hb => ?_
    simp at hb
    rcases hb with hb | hb
    · exact ha b hb
    · exact hz b hb
  · by_cases hn' : trim (a ++ m ++ z) = []
    · exfalso
      rw [hn'] at h
      obtain ⟨b, t, rfl⟩ := List.exists_cons_of_ne_nil hn
      have hb : b ∈ a' ++ [] ++ z' := by rw [← h]; simp
      simp at hb
      have := hm.1 b t rfl
      rcases hb with hb | hb
      · rw [ha' b hb] at this; cases this
      · rw [hz' b hb] at this; cases this
    · exact (ends_unique h ha hz ha' hz' hm (trim_ends _) hn hn').symm
/-- A range trimmed step by step from both ends. -/
theorem trim_range (l : List UInt8) (i j : Nat) (hij : i ≤ j) (hj : j ≤ l.length) (h1 : ∀ k, k < i → ∀ b, l[k]? = some b → blk b = true) (h2 : ∀ k, j ≤ k → ∀ b, l[k]? = some b → blk b = true) (h3 : i < j → ∀ b, l[i]? = some b → blk b = false) (h4 : i < j → ∀ b, l[j - 1]? = some b → blk b = false) : trim l = (l.take j).drop i := by
  have e : l = l.take i ++ (l.take j).drop i ++ l.drop j := by
    have : l.take i = (l.take j).take i := by rw [List.take_take]; congr 1; omega
    rw [this, List.take_append_drop, List.take_append_drop]
  have hlen : ((l.take j).drop i).length = j - i := by simp; omega
  rw [e]
  have := trim_unique (a := l.take i) (m := (l.take j).drop i) (z := l.drop j) (fun b hb => ?_) (fun b hb => ?_) ⟨fun b t hbt => ?_, fun b t hbt => ?_⟩
  · rw [← e] at this ⊢; exact this
  · obtain ⟨k, hk⟩ := List.mem_iff_getElem?.1 hb
    rw [List.getElem?_take] at hk
    split at hk
    · exact h1 k ‹_› b hk
    · cases hk
  · obtain ⟨k, hk⟩ := List.mem_iff_getElem?.1 hb
    rw [List.getElem?_drop] at hk
    exact h2 _ (by omega) b hk
  · have hl := congrArg List.length hbt
    rw [hlen] at hl; simp at hl
    have hk := congrArg (fun l : List UInt8 => l[0]?) hbt
    simp only [List.getElem?_drop, List.getElem?_take] at hk
    rw [if_pos (by omega)] at hk
    simp at hk
    exact h3 (by omega) b hk
  · have hl := congrArg List.length hbt
    rw [hlen] at hl; simp at hl
    have hk := congrArg (fun l : List UInt8 => l[t.length]?) hbt
    simp only [List.getElem?_drop, List.getElem?_take] at hk
    rw [if_pos (by omega)] at hk
    simp at hk
    exact h4 (by omega) b (by rw [← hk]; congr 1; omega)

/-! Parts. -/
theorem parts_length (l : List UInt8) (c : UInt8) : (parts l c).length = l.count c + 1 := by
  unfold parts
  rw [List.length_map, cut_length]
  rfl
/-- The parts joined by the byte. -/
def joined (c : UInt8) : List (List UInt8) → List UInt8
  | [] => []
  | [w] => w
  | w :: ws => w ++ c :: joined c ws
theorem joined_cons (c : UInt8) (w v : List UInt8) (ws : List (List UInt8)) : joined c (w :: v :: ws) = w ++ c :: joined c (v :: ws) := rfl
theorem joined_length_cons (c : UInt8) (w v : List UInt8) (ws : List (List UInt8)) : (joined c (w :: v :: ws)).length = w.length + (joined c (v :: ws)).length + 1 := by rw [joined_cons]; simp; omega
theorem cut_joined (c : UInt8) (ws : List (List UInt8)) (h0 : ws ≠ []) (h : ∀ w ∈ ws, ∀ b ∈ w, (b == c) = false) : cut (· == c) (joined c ws) = ws := by
  induction ws with
  | nil => exact absurd rfl h0
  | cons w ws ih =>
    cases ws with
    | nil => exact cut_none _ _ (h w (by simp))
    | cons v ws =>
      have := cut_hit (· == c) w c (joined c (v :: ws)) (h w (by simp)) (by simp)
      show cut (· == c) (w ++ c :: joined c (v :: ws)) = _
      rw [this, ih (by simp) (fun x hx => h x (by simp [hx]))]
theorem parts_joined (l : List UInt8) (c : UInt8) : parts (joined c (parts l c)) c = parts l c := by
  have hne : parts l c ≠ [] := by
    have := parts_length l c
    intro e; rw [e] at this; simp at this
  have hmem : ∀ w ∈ parts l c, ∀ b ∈ w, (b == c) = false := by
    intro w hw b hb
    unfold parts at hw
    obtain ⟨v, hv, rfl⟩ := List.mem_map.1 hw
    refine cut_mem (· == c) l v hv b ?_
    obtain ⟨a, z, h, _⟩ := trim_form v
    rw [h]; simp [hb]
  have e := cut_joined c (parts l c) hne hmem
  show (cut (· == c) (joined c (parts l c))).map trim = _
  rw [e]
  unfold parts
  rw [List.map_map]
  congr 1
  funext w
  exact trim_trim w
theorem joined_length (c : UInt8) (ws : List (List UInt8)) : (joined c ws).length ≤ (ws.map List.length).sum + ws.length := by
  induction ws with
  | nil => simp [joined]
  | cons w ws ih =>
    cases ws with
    | nil => simp [joined]
    | cons v ws =>
      rw [joined_length_cons]
      simp only [List.map_cons, List.sum_cons, List.length_cons] at ih ⊢
      omega
theorem sum_map_trim_le (L : List (List UInt8)) : ((L.map trim).map List.length).sum ≤ (L.map List.length).sum := by
  induction L with
  | nil => simp
  | cons a L ih =>
    have := trim_length a
    simp only [List.map_cons, List.sum_cons] at ih ⊢; omega
theorem parts_total (l : List UInt8) (c : UInt8) : ((parts l c).map List.length).sum ≤ l.length ∧ (parts l c).length ≤ l.length + 1 := by
  have h1 := sum_map_trim_le (cut (· == c) l)
  have h2 := cut_total (· == c) l
  have h3 := parts_length l c
  have h4 : l.count c ≤ l.length := List.count_le_length
  have h5 : parts l c = (cut (· == c) l).map trim := rfl
  rw [← h5] at h1
  omega

/-! Split. -/
theorem isPrefixOf_one (c b : UInt8) (l : List UInt8) : [c].isPrefixOf (b :: l) = (c == b) := by simp [List.isPrefixOf]
theorem index_one (l : List UInt8) (c : UInt8) : (Lib.index l [c] = -1 ∧ ∀ b ∈ l, (b == c) = false) ∨ ∃ a r, l = a ++ c :: r ∧ (∀ b ∈ a, (b == c) = false) ∧ Lib.index l [c] = a.length := by
  induction l with
  | nil => exact .inl ⟨rfl, by simp⟩
  | cons b l ih =>
    unfold Lib.index
    rw [isPrefixOf_one]
    cases hb : (c == b)
    · have hb' : (b == c) = false := by rw [Bool.eq_false_iff] at hb ⊢; intro h; exact hb (by rw [eq_of_beq h]; simp)
      simp only [Bool.false_eq_true, if_false]
      rcases ih with ⟨h1, h2⟩ | ⟨a, r, rfl, h2, h3⟩
      · left
        rw [h1]
        exact ⟨rfl, fun x hx => by rcases List.mem_cons.1 hx with rfl | hx; exact hb'; exact h2 x hx⟩
      · right
        refine ⟨b :: a, r, rfl, fun x hx => by rcases List.mem_cons.1 hx with rfl | hx; exact hb'; exact h2 x hx, ?_⟩
        rw [h3, if_neg (by simp)]
        rfl
    · right
      have hb' := eq_of_beq hb
      exact ⟨[], l, by simp [hb'], by simp, by simp⟩
theorem splitK_cut (c : UInt8) : ∀ (k : Nat) (l : List UInt8), l.countP (· == c) ≤ k → Lib.splitK [c] 0 k l = cut (· == c) l
  | 0, l, h => by
    have h0 : l.countP (· == c) = 0 := by omega
    rw [List.countP_eq_zero] at h0
    exact (cut_none _ l (fun b hb => by simpa using h0 b hb)).symm
  | k + 1, l, h => by
    unfold Lib.splitK
    rcases index_one l c with ⟨h1, h2⟩ | ⟨a, r, rfl, h2, h3⟩
    · rw [h1, cut_none _ l h2]; simp
    · rw [h3, if_neg (by simp), cut_hit _ a c r h2 (by simp)]
      have e1 : (a ++ c :: r).take ((a.length : Int).toNat + 0) = a := by simp
      have e2 : (a ++ c :: r).drop ((a.length : Int).toNat + [c].length) = r := by
        simp only [Int.toNat_natCast, List.length_cons, List.length_nil, Nat.zero_add]
        rw [List.drop_append]
        simp
      rw [e1, e2, splitK_cut c k r (by
        rw [List.countP_append, List.countP_cons_of_pos (by simp)] at h; omega)]

end Go.Proofs.YtpmnpaopkncphaaGreatDoor

namespace Go.Proofs.YtpmnpaopkncphaaGreatDoor

theorem get_of {s : ByteArray} {k : Nat} {b : UInt8} (h : s.data.toList[k]? = some b) : s.get! k = b ∧ k < s.size := by
  have hk := (List.getElem?_eq_some_iff.1 h).1
  rw [Array.length_toList] at hk
  refine ⟨?_, hk⟩
  rw [Array.getElem?_toList] at h
  simp [ByteArray.get!, Array.getElem!_eq_getD, Array.getD_eq_getD_getElem?, h]
theorem at_some {s : ByteArray} {k : Nat} (h : k < s.size) : ∃ b, s.data.toList[k]? = some b ∧ s.get! k = b ∧ s[k] = b := by
  refine ⟨s[k], ?_, ?_, rfl⟩
  · rw [Array.getElem?_toList]; exact Array.getElem?_eq_getElem h
  · exact (get_of (b := s[k]) (by rw [Array.getElem?_toList]; exact Array.getElem?_eq_getElem h)).1

theorem dec_ascii (s : ByteArray) (i : Nat) (h : (s.get! i).toNat < 128) : Utf8.decode s i = ((s.get! i).toNat, 1) := by
  rw [Lib.decode_at]; unfold Lib.decodeN; rw [if_pos h]

theorem dec_wide (s : ByteArray) (i : Nat) (hi : i < s.size) (h : ¬ (s.get! i).toNat < 128) :
    128 ≤ (Utf8.decode s i).1 ∧ 1 ≤ (Utf8.decode s i).2 ∧ i + (Utf8.decode s i).2 ≤ s.size ∧ ∀ k b, i ≤ k → k < i + (Utf8.decode s i).2 → s.data.toList[k]? = some b → 128 ≤ b.toNat := by
  have h0 : 128 ≤ (s.get! i).toNat := by omega
  rw [Lib.decode_at]
  have key : ∀ w r : Nat, 128 ≤ r → 1 ≤ w → i + w ≤ s.size → (∀ j, j < w → 128 ≤ (s.get! (i + j)).toNat) → 128 ≤ (r, w).1 ∧ 1 ≤ (r, w).2 ∧ i + (r, w).2 ≤ s.size ∧ ∀ k b, i ≤ k → k < i + (r, w).2 → s.data.toList[k]? = some b → 128 ≤ b.toNat := by
    intro w r hr hw hs hj
    refine ⟨hr, hw, hs, fun k b h1 h2 h3 => ?_⟩
    have := hj (k - i) (by show k - i < w; have : k < i + w := h2; omega)
    rw [show i + (k - i) = k by omega, (get_of h3).1] at this
    exact this
  have one : ∀ j, j < 1 → 128 ≤ (s.get! (i + j)).toNat := fun j hj => by obtain rfl : j = 0 := (by omega); exact h0
  unfold Lib.decodeN
  rw [if_neg h]
  split
  · rename_i h1
    split
    · exact key _ _ (by omega) (by omega) (by omega) fun j hj => by
        rcases (by omega : j = 0 ∨ j = 1) with rfl | rfl
        · exact h0
        · omega
    · exact key _ _ (by omega) (by omega) (by omega) one
  · split
    · rename_i h1
      split
      · exact key _ _ (by omega) (by omega) (by omega) fun j hj => by
          rcases (by omega : j = 0 ∨ j = 1 ∨ j = 2) with rfl | rfl | rfl
          · exact h0
          · omega
          · omega
      · exact key _ _ (by omega) (by omega) (by omega) one
    · split
      · rename_i h1
        split
        · exact key _ _ (by omega) (by omega) (by omega) fun j hj => by
            rcases (by omega : j = 0 ∨ j = 1 ∨ j = 2 ∨ j = 3) with rfl | rfl | rfl | rfl
            · exact h0
            · omega
            · omega
            · omega
        · exact key _ _ (by omega) (by omega) (by omega) one
      · exact key _ _ (by omega) (by omega) (by omega) one

/-- What the set's method answers of a code point. -/
def pr (x : Nat) : Bool := decide (x < 128) && blk x.toUInt8

theorem blk_small {b : UInt8} (h : blk b = true) : b.toNat < 128 := by
  unfold blk at h
  simp at h
  rcases h with rfl | rfl | rfl | rfl | rfl <;> decide

/-- One step over a code point: it is a blank, and one byte long; or it is none, and none of its bytes is. -/
theorem step_of (s : ByteArray) (i : Nat) (hi : i < s.size) :
    (pr (Utf8.decode s i).1 = true ∧ (Utf8.decode s i).2 = 1 ∧ blk (s.get! i) = true) ∨
    (pr (Utf8.decode s i).1 = false ∧ 1 ≤ (Utf8.decode s i).2 ∧ i + (Utf8.decode s i).2 ≤ s.size ∧ ∀ k b, i ≤ k → k < i + (Utf8.decode s i).2 → s.data.toList[k]? = some b → blk b = false) := by
  by_cases h : (s.get! i).toNat < 128
  · rw [dec_ascii s i h]
    have e : ((s.get! i).toNat).toUInt8 = s.get! i := by simp
    unfold pr
    simp only [h, decide_true, Bool.true_and, e]
    cases hb : blk (s.get! i)
    · right
      refine ⟨rfl, Nat.le_refl _, by omega, fun k b h1 h2 h3 => ?_⟩
      obtain rfl : k = i := by omega
      rw [(get_of h3).1] at hb; exact hb
    · left
      exact ⟨by simp, by simp, by simp⟩
  · obtain ⟨h1, h2, h3, h4⟩ := dec_wide s i hi h
    right
    refine ⟨?_, h2, h3, fun k b a1 a2 a3 => ?_⟩
    · unfold pr
      rw [decide_eq_false (by omega)]; rfl
    · have := h4 k b a1 a2 a3
      cases hb : blk b
      · rfl
      · have := blk_small hb; omega

/-- What has been read: the spans closed, and where the one that is open begins. -/
def pieces (l : List UInt8) (acc : List (Nat × Nat)) : List (List UInt8) := acc.map fun x => (l.drop x.1).take (x.2 - x.1)
structure Read (l : List UInt8) (pos : Nat) (st : Option Nat) (acc : List (Nat × Nat)) : Prop where
  sum : pieces l acc ++ words (l.drop (st.getD pos)) = words l
  open_ : ∀ a, st = some a → a < pos ∧ ∀ k b, a ≤ k → k < pos → l[k]? = some b → blk b = false
  spans : ∀ x ∈ acc, x.1 ≤ x.2 ∧ x.2 ≤ l.length
  few : acc.length ≤ pos
  le : pos ≤ l.length

theorem read_start (l : List UInt8) : Read l 0 none [] := ⟨rfl, (fun a h => by cases h), (fun x hx => by cases hx), Nat.le_refl _, Nat.zero_le _⟩
theorem read_in {l : List UInt8} {pos w a : Nat} {acc : List (Nat × Nat)} (h : Read l pos (some a) acc) (hw : 1 ≤ w) (hle : pos + w ≤ l.length) (hn : ∀ k b, pos ≤ k → k < pos + w → l[k]? = some b → blk b = false) : Read l (pos + w) (some a) acc := by
  refine ⟨h.sum, fun a' e => ?_, h.spans, by have := h.few; omega, hle⟩
  cases e
  obtain ⟨h1, h2⟩ := h.open_ a rfl
  refine ⟨by omega, fun k b k1 k2 hk => ?_⟩
  by_cases hp : k < pos
  · exact h2 k b k1 hp hk
  · exact hn k b (by omega) k2 hk
theorem read_new {l : List UInt8} {pos w : Nat} {acc : List (Nat × Nat)} (h : Read l pos none acc) (hw : 1 ≤ w) (hle : pos + w ≤ l.length) (hn : ∀ k b, pos ≤ k → k < pos + w → l[k]? = some b → blk b = false) : Read l (pos + w) (some pos) acc := by
  refine ⟨h.sum, fun a' e => ?_, h.spans, by have := h.few; omega, hle⟩
  cases e
  exact ⟨by omega, hn⟩
theorem drop_cons {l : List UInt8} {k : Nat} {b : UInt8} (h : l[k]? = some b) : l.drop k = b :: l.drop (k + 1) := by
  have hk := (List.getElem?_eq_some_iff.1 h)
  rw [List.drop_eq_getElem_cons hk.1, hk.2]
theorem read_blank {l : List UInt8} {pos : Nat} {b : UInt8} {acc : List (Nat × Nat)} (h : Read l pos none acc) (hb : l[pos]? = some b) (hbl : blk b = true) : Read l (pos + 1) none acc := by
  have hlt := (List.getElem?_eq_some_iff.1 hb).1
  refine ⟨?_, (fun a h => by cases h), h.spans, by have := h.few; omega, by omega⟩
  have := h.sum
  simp only [Option.getD_none] at this ⊢
  rw [drop_cons hb, words_skip b _ hbl] at this
  exact this
theorem seg {l : List UInt8} {a pos : Nat} {b : UInt8} (ha : a ≤ pos) (hb : l[pos]? = some b) : l.drop a = (l.drop a).take (pos - a) ++ b :: l.drop (pos + 1) := by
  have e : l.drop pos = (l.drop a).drop (pos - a) := by rw [List.drop_drop]; congr 1; omega
  rw [← drop_cons hb, e, List.take_append_drop]
theorem seg_no {l : List UInt8} {a pos : Nat} (h : ∀ k b, a ≤ k → k < pos → l[k]? = some b → blk b = false) : ∀ b ∈ (l.drop a).take (pos - a), blk b = false := by
  intro b hb
  obtain ⟨k, hk⟩ := List.mem_iff_getElem?.1 hb
  rw [List.getElem?_take] at hk
  split at hk
  · rw [List.getElem?_drop] at hk
    exact h (a + k) b (by omega) (by omega) hk
  · cases hk
theorem seg_ne {l : List UInt8} {a pos : Nat} (h1 : a < pos) (h2 : pos ≤ l.length) : (l.drop a).take (pos - a) ≠ [] := by
  intro e
  have := congrArg List.length e
  simp at this
  omega
theorem read_close {l : List UInt8} {pos a : Nat} {b : UInt8} {acc : List (Nat × Nat)} (h : Read l pos (some a) acc) (hb : l[pos]? = some b) (hbl : blk b = true) : Read l (pos + 1) none (acc ++ [(a, pos)]) := by
  obtain ⟨h1, h2⟩ := h.open_ a rfl
  have hlt := (List.getElem?_eq_some_iff.1 hb).1
  refine ⟨?_, (fun a h => by cases h), fun x hx => ?_, by have := h.few; simp; omega, by omega⟩
  · have hs := h.sum
    simp only [Option.getD_none, Option.getD_some] at hs ⊢
    rw [seg (Nat.le_of_lt h1) hb, words_hit _ b _ (seg_no h2) hbl (seg_ne h1 (by omega))] at hs
    rw [← hs]
    simp [pieces]
  · rcases List.mem_append.1 hx with hx | hx
    · exact h.spans x hx
    · simp at hx; subst hx; exact ⟨by show a ≤ pos; omega, by show pos ≤ l.length; omega⟩
theorem read_end {l : List UInt8} {acc : List (Nat × Nat)} (h : Read l l.length none acc) : pieces l acc = words l := by
  have := h.sum
  simp only [Option.getD_none, List.drop_length] at this
  rw [words_nil, List.append_nil] at this
  exact this
theorem read_end_open {l : List UInt8} {a : Nat} {acc : List (Nat × Nat)} (h : Read l l.length (some a) acc) : pieces l (acc ++ [(a, l.length)]) = words l ∧ ∀ x ∈ acc ++ [(a, l.length)], x.1 ≤ x.2 ∧ x.2 ≤ l.length := by
  obtain ⟨h1, h2⟩ := h.open_ a rfl
  constructor
  · have hs := h.sum
    simp only [Option.getD_some] at hs
    have e : l.drop a = (l.drop a).take (l.length - a) := by rw [List.take_of_length_le (by simp)]
    rw [e, words_last _ (seg_no h2) (seg_ne h1 (Nat.le_refl _))] at hs
    rw [← hs]
    simp [pieces]
  · intro x hx
    rcases List.mem_append.1 hx with hx | hx
    · exact h.spans x hx
    · simp at hx; subst hx; exact ⟨by show a ≤ l.length; omega, Nat.le_refl _⟩

/-! The document's own loops, over places. -/
structure WordsTo (l : List UInt8) (fr i : Nat) (out : List (List UInt8)) : Prop where
  sum : out ++ words (l.drop fr) = words l
  open_ : ∀ k b, fr ≤ k → k < i → l[k]? = some b → blk b = false
  le : fr ≤ i
  few : out.length ≤ fr
theorem wordsTo_start (l : List UInt8) : WordsTo l 0 0 [] := ⟨rfl, fun k b h1 h2 => by omega, Nat.le_refl _, Nat.le_refl _⟩
theorem wordsTo_in {l : List UInt8} {fr i : Nat} {b : UInt8} {out : List (List UInt8)} (h : WordsTo l fr i out) (hb : l[i]? = some b) (hbl : blk b = false) : WordsTo l fr (i + 1) out := by
  refine ⟨h.sum, fun k b' k1 k2 hk => ?_, by have := h.le; omega, h.few⟩
  by_cases hp : k < i
  · exact h.open_ k b' k1 hp hk
  · obtain rfl : k = i := by omega
    rw [hb] at hk; cases hk; exact hbl
theorem wordsTo_hit {l : List UInt8} {fr i : Nat} {b : UInt8} {out : List (List UInt8)} (h : WordsTo l fr i out) (hb : l[i]? = some b) (hbl : blk b = true) (hlt : fr < i) : WordsTo l (i + 1) (i + 1) (out ++ [(l.drop fr).take (i - fr)]) := by
  have hl := (List.getElem?_eq_some_iff.1 hb).1
  refine ⟨?_, fun k b' k1 k2 => by omega, Nat.le_refl _, by have := h.few; simp; omega⟩
  have hs := h.sum
  rw [seg h.le hb, words_hit _ b _ (seg_no h.open_) hbl (seg_ne hlt (by omega))] at hs
  rw [← hs]; simp
theorem wordsTo_skip {l : List UInt8} {i : Nat} {b : UInt8} {out : List (List UInt8)} (h : WordsTo l i i out) (hb : l[i]? = some b) (hbl : blk b = true) : WordsTo l (i + 1) (i + 1) out := by
  refine ⟨?_, fun k b' k1 k2 => by omega, Nat.le_refl _, by have := h.few; omega⟩
  have hs := h.sum
  rw [drop_cons hb, words_skip b _ hbl] at hs
  exact hs
theorem wordsTo_end {l : List UInt8} {out : List (List UInt8)} (h : WordsTo l l.length l.length out) : out = words l := by
  have := h.sum
  rw [List.drop_length, words_nil, List.append_nil] at this
  exact this
theorem wordsTo_end_open {l : List UInt8} {fr : Nat} {out : List (List UInt8)} (h : WordsTo l fr l.length out) (hlt : fr < l.length) : out ++ [(l.drop fr).take (l.length - fr)] = words l := by
  have hs := h.sum
  have e : l.drop fr = (l.drop fr).take (l.length - fr) := by rw [List.take_of_length_le (by simp)]
  rw [e, words_last _ (seg_no h.open_) (seg_ne hlt (Nat.le_refl _))] at hs
  exact hs

structure PartsTo (l : List UInt8) (c : UInt8) (fr i : Nat) (out : List (List UInt8)) : Prop where
  sum : out ++ parts (l.drop fr) c = parts l c
  open_ : ∀ k b, fr ≤ k → k < i → l[k]? = some b → (b == c) = false
  le : fr ≤ i
  few : out.length ≤ fr
theorem pseg_no {l : List UInt8} {c : UInt8} {a pos : Nat} (h : ∀ k b, a ≤ k → k < pos → l[k]? = some b → (b == c) = false) : ∀ b ∈ (l.drop a).take (pos - a), (b == c) = false := by
  intro b hb
  obtain ⟨k, hk⟩ := List.mem_iff_getElem?.1 hb
  rw [List.getElem?_take] at hk
  split at hk
  · rw [List.getElem?_drop] at hk
    exact h (a + k) b (by omega) (by omega) hk
  · cases hk
theorem partsTo_start (l : List UInt8) (c : UInt8) : PartsTo l c 0 0 [] := ⟨rfl, fun k b h1 h2 => by omega, Nat.le_refl _, Nat.le_refl _⟩
theorem partsTo_in {l : List UInt8} {c : UInt8} {fr i : Nat} {b : UInt8} {out : List (List UInt8)} (h : PartsTo l c fr i out) (hb : l[i]? = some b) (hbl : (b == c) = false) : PartsTo l c fr (i + 1) out := by
  refine ⟨h.sum, fun k b' k1 k2 hk => ?_, by have := h.le; omega, h.few⟩
  by_cases hp : k < i
  · exact h.open_ k b' k1 hp hk
  · obtain rfl : k = i := by omega
    rw [hb] at hk; cases hk; exact hbl
theorem partsTo_hit {l : List UInt8} {c : UInt8} {fr i : Nat} {b : UInt8} {out : List (List UInt8)} (h : PartsTo l c fr i out) (hb : l[i]? = some b) (hbl : (b == c) = true) : PartsTo l c (i + 1) (i + 1) (out ++ [trim ((l.drop fr).take (i - fr))]) := by
  refine ⟨?_, fun k b' k1 k2 => by omega, Nat.le_refl _, by have := h.few; have := h.le; simp; omega⟩
  have hs := h.sum
  unfold parts at hs ⊢
  rw [seg h.le hb, cut_hit (· == c) _ b _ (pseg_no h.open_) hbl, List.map_cons] at hs
  rw [← hs]; simp
theorem partsTo_end {l : List UInt8} {c : UInt8} {fr : Nat} {out : List (List UInt8)} (h : PartsTo l c fr l.length out) : out ++ [trim ((l.drop fr).take (l.length - fr))] = parts l c := by
  have hs := h.sum
  unfold parts at hs ⊢
  have e : l.drop fr = (l.drop fr).take (l.length - fr) := by rw [List.take_of_length_le (by simp)]
  rw [e, cut_none (· == c) _ (pseg_no h.open_)] at hs
  exact hs

theorem take_low (l : List UInt8) (k : Nat) (b : UInt8) (h : l[k]? = some b) : (low l).take (k + 1) = (low l).take k ++ [lowB b] := by
  rw [List.take_add_one]
  unfold low
  rw [List.getElem?_map, h]; rfl

end Go.Proofs.YtpmnpaopkncphaaGreatDoor

namespace Go.Proofs.YtpmnpaopkncphaaGreatDoor

theorem list_snoc {α : Type} {m : List α → Prop} (nil : m []) (append_singleton : ∀ L p, m L → m (L ++ [p])) (L : List α) : m L := by
  have key : ∀ n (L : List α), L.length = n → m L := by
    intro n
    induction n with
    | zero => intro L h; rw [List.length_eq_zero_iff.1 h]; exact nil
    | succ n ih =>
      intro L h
      have hne : L ≠ [] := by intro e; rw [e] at h; cases h
      rw [← List.dropLast_concat_getLast hne]
      exact append_singleton _ _ (ih _ (by simp [h]))
  exact key _ L rfl

/-! Bytes. -/
def small (b : UInt8) : Bool := decide (97 ≤ b.toNat ∧ b.toNat ≤ 122)
def digit (b : UInt8) : Bool := decide (48 ≤ b.toNat ∧ b.toNat ≤ 57)
def nameB (b : UInt8) : Bool := small b || digit b || b == 45
def schB (b : UInt8) : Bool := small b || digit b || b == 43 || b == 45 || b == 46
def schM : List UInt8 → Bool
  | [] => false
  | b :: l => decide (l.length < 20) && small b && (b :: l).all schB
/-- Bytes from first to 126, none of those in except. -/
def inB (first : Nat) (except : List UInt8) (b : UInt8) : Bool := decide (first ≤ b.toNat ∧ b.toNat ≤ 126) && !except.contains b
def within (first : Nat) (except : List UInt8) (l : List UInt8) : Bool := l.all (inB first except)

def HTTP : List UInt8 := [104, 116, 116, 112]
def HTTPS : List UInt8 := [104, 116, 116, 112, 115]
def WS : List UInt8 := [119, 115]
def WSS : List UInt8 := [119, 115, 115]
def dfl (l : List UInt8) : Nat := if l = HTTP ∨ l = WS then 80 else if l = HTTPS ∨ l = WSS then 443 else 0
theorem dfl_le (l : List UInt8) : dfl l ≤ 443 := by unfold dfl; split; omega; split <;> omega
theorem dfl_sch {l : List UInt8} (h : dfl l ≠ 0) : schM l = true := by
  unfold dfl at h
  split at h
  · rename_i h1; rcases h1 with rfl | rfl <;> decide +kernel
  · split at h
    · rename_i h1; rcases h1 with rfl | rfl <;> decide +kernel
    · exact absurd rfl h

/-! Hosts. -/
def nameM (l : List UInt8) : Bool := !l.isEmpty && l.all nameB
def dot (b : UInt8) : Bool := b == 46
def hostM (l : List UInt8) : Bool := decide (l.length ≤ 100) && (cut dot l).all nameM
/-- The same, from byte to byte: was a point, or nothing, ahead? -/
def hostR : Bool → List UInt8 → Bool
  | p, [] => !p
  | p, b :: l => if dot b then !p && hostR true l else nameB b && hostR false l
theorem cut_cons (p : UInt8 → Bool) (b : UInt8) (l : List UInt8) : cut p (b :: l) = if p b then [] :: cut p l else ((b :: (cut p l).head (cut_ne p l)) :: (cut p l).tail) := by
  cases hb : p b
  · simp only [Bool.false_eq_true, if_false]
    conv => lhs; unfold cut
    rw [hb]
    obtain ⟨x, xs, hx⟩ : ∃ x xs, cut p l = x :: xs := List.exists_cons_of_ne_nil (cut_ne p l)
    simp [hx]
  · rw [if_pos rfl]
    exact cut_hit p [] b l (by simp) hb
theorem hostR_spec (l : List UInt8) : hostR true l = (cut dot l).all nameM ∧ hostR false l = (((cut dot l).head (cut_ne dot l)).all nameB && (cut dot l).tail.all nameM) := by
  induction l with
  | nil => exact ⟨rfl, rfl⟩
  | cons b l ih =>
    obtain ⟨h1, h2⟩ := ih
    have hc := cut_cons dot b l
    cases hb : dot b
    · rw [hb] at hc
      simp only [Bool.false_eq_true, if_false] at hc
      have e : hostR true (b :: l) = (nameB b && hostR false l) := by simp [hostR, hb]
      have e2 : hostR false (b :: l) = (nameB b && hostR false l) := by simp [hostR, hb]
      rw [e, e2, h2]
      constructor
      · rw [hc]; simp [nameM, Bool.and_assoc]
      · simp only [hc]; simp [Bool.and_assoc]
    · rw [hb, if_pos rfl] at hc
      have e : hostR true (b :: l) = false := by simp [hostR, hb]
      have e2 : hostR false (b :: l) = hostR true l := by simp [hostR, hb]
      rw [e, e2, h1]
      constructor
      · rw [hc]; simp [nameM]
      · simp only [hc]; simp
theorem hostM_R (l : List UInt8) : hostM l = (decide (l.length ≤ 100) && hostR true l) := by unfold hostM; rw [(hostR_spec l).1]

/-! Paths. -/
def sl (b : UInt8) : Bool := b == 47
def dots (p : List UInt8) : Bool := decide (p = [46] ∨ p = [46, 46])
def stepC (acc : List (List UInt8)) (p : List UInt8) : List (List UInt8) := if p = [46] then acc else if p = [46, 46] then acc.dropLast else acc ++ [p]
def taken (L : List (List UInt8)) : List (List UInt8) := L.foldl stepC []
def endC (L acc : List (List UInt8)) : List (List UInt8) := match L.getLast? with | some p => if dots p then acc ++ [[]] else acc | none => acc
def slashed (L : List (List UInt8)) : List UInt8 := L.flatMap (fun p => 47 :: p)
def outC (r : List UInt8) : List (List UInt8) := endC (cut sl r) (taken (cut sl r))
def cleanP : List UInt8 → List UInt8
  | [] => []
  | b :: r => if sl b then slashed (outC r) else []
theorem taken_snoc (L : List (List UInt8)) (p : List UInt8) : taken (L ++ [p]) = stepC (taken L) p := by simp [taken]
theorem dots_one : dots [46] = true := rfl
theorem dots_two : dots [46, 46] = true := rfl
theorem dots_or {p : List UInt8} (h : dots p = true) : p = [46] ∨ p = [46, 46] := by simpa [dots] using h
theorem dots_not {p : List UInt8} (h : dots p = false) : p ≠ [46] ∧ p ≠ [46, 46] := by simpa [dots] using h
theorem stepC_not {acc : List (List UInt8)} {p : List UInt8} (h : dots p = false) : stepC acc p = acc ++ [p] := by
  obtain ⟨h1, h2⟩ := dots_not h
  unfold stepC; rw [if_neg h1, if_neg h2]
theorem stepC_mem {acc : List (List UInt8)} {p x : List UInt8} (h : x ∈ stepC acc p) : x ∈ acc ∨ (x = p ∧ dots p = false) := by
  cases hd : dots p
  · rw [stepC_not hd] at h; simp at h; rcases h with h | h; exact .inl h; exact .inr ⟨h, rfl⟩
  · rcases dots_or hd with rfl | rfl
    · unfold stepC at h; rw [if_pos rfl] at h; exact .inl h
    · unfold stepC at h; rw [if_neg (by decide), if_pos rfl] at h; exact .inl ((List.dropLast_sublist _).subset h)
theorem taken_mem (L : List (List UInt8)) : ∀ x ∈ taken L, x ∈ L ∧ dots x = false := by
  induction L using list_snoc with
  | nil => intro x hx; cases hx
  | append_singleton L p ih =>
    intro x hx
    rw [taken_snoc] at hx
    rcases stepC_mem hx with h | ⟨rfl, h⟩
    · exact ⟨by simp [(ih x h).1], (ih x h).2⟩
    · exact ⟨by simp, h⟩
/-- How many bytes the pieces have, each with a stroke. -/
def wt (L : List (List UInt8)) : Nat := (slashed L).length
theorem wt_nil : wt [] = 0 := rfl
theorem wt_snoc (L : List (List UInt8)) (p : List UInt8) : wt (L ++ [p]) = wt L + (p.length + 1) := by simp [wt, slashed]
theorem wt_dropLast (L : List (List UInt8)) : wt L.dropLast ≤ wt L := by
  induction L using list_snoc with
  | nil => exact Nat.le_refl _
  | append_singleton L p ih => rw [List.dropLast_concat, wt_snoc]; omega
theorem wt_step (acc : List (List UInt8)) (p : List UInt8) : wt (stepC acc p) ≤ wt acc + (if dots p then 0 else p.length + 1) := by
  cases hd : dots p
  · rw [stepC_not hd, wt_snoc]; simp
  · rcases dots_or hd with rfl | rfl
    · unfold stepC; rw [if_pos rfl]; simp
    · unfold stepC; rw [if_neg (by decide), if_pos rfl]; have := wt_dropLast acc; simpa using this
theorem wt_taken (L : List (List UInt8)) : wt (taken L) ≤ wt L := by
  induction L using list_snoc with
  | nil => exact Nat.le_refl _
  | append_singleton L p ih =>
    rw [taken_snoc, wt_snoc]
    have := wt_step (taken L) p
    split at this <;> omega
theorem endC_snoc (L acc : List (List UInt8)) (p : List UInt8) : endC (L ++ [p]) acc = if dots p then acc ++ [[]] else acc := by simp [endC]
theorem wt_end (L : List (List UInt8)) : wt (endC L (taken L)) ≤ wt L := by
  rcases List.eq_nil_or_concat L with rfl | ⟨L, p, rfl⟩
  · exact Nat.le_refl _
  · rw [List.concat_eq_append, endC_snoc, taken_snoc, wt_snoc]
    have h1 := wt_step (taken L) p
    have h2 := wt_taken L
    cases hd : dots p
    · rw [hd] at h1; simp at h1 ⊢; omega
    · rw [hd] at h1; simp only [if_true] at h1 ⊢
      rw [wt_snoc]
      rcases dots_or hd with rfl | rfl <;> simp at h1 ⊢ <;> omega
theorem wt_cut (l : List UInt8) : wt (cut sl l) = l.length + 1 := by
  have h1 := cut_total sl l
  have h2 := cut_length sl l
  have h3 : ∀ L : List (List UInt8), wt L = (L.map List.length).sum + L.length := fun L => by
    induction L with
    | nil => rfl
    | cons a L ih =>
      have : wt (a :: L) = (a.length + 1) + wt L := by simp [wt, slashed]; omega
      rw [this, ih]; simp; omega
  rw [h3]; omega
theorem cleanP_length (l : List UInt8) : (cleanP l).length ≤ l.length := by
  unfold cleanP
  split
  · exact Nat.le_refl _
  · rename_i b r
    split
    · have h1 := wt_end (cut sl r)
      rw [wt_cut] at h1
      exact h1
    · exact Nat.zero_le _
theorem outC_ne (r : List UInt8) : outC r ≠ [] := by
  unfold outC
  rcases List.eq_nil_or_concat (cut sl r) with h | ⟨L, p, h⟩
  · exact absurd h (cut_ne sl r)
  · rw [h, List.concat_eq_append, endC_snoc, taken_snoc]
    cases hd : dots p
    · rw [stepC_not hd]; simp
    · simp
theorem outC_mem (r : List UInt8) : ∀ x ∈ outC r, dots x = false ∧ ∀ b ∈ x, sl b = false := by
  unfold outC
  have ht := taken_mem (cut sl r)
  have hc := cut_mem sl r
  intro x hx
  have : x ∈ taken (cut sl r) ∨ x = [] := by
    unfold endC at hx
    split at hx
    · split at hx
      · simpa using hx
      · exact .inl hx
    · exact .inl hx
  rcases this with h | rfl
  · exact ⟨(ht x h).2, hc x (ht x h).1⟩
  · exact ⟨rfl, by simp⟩
theorem cut_slashed (x : List UInt8) (L : List (List UInt8)) (h : ∀ y ∈ x :: L, ∀ b ∈ y, sl b = false) : cut sl (x ++ slashed L) = x :: L := by
  induction L generalizing x with
  | nil => simp [slashed]; exact cut_none sl x (h x (by simp))
  | cons y L ih =>
    have e : x ++ slashed (y :: L) = x ++ 47 :: (y ++ slashed L) := by simp [slashed]
    rw [e, cut_hit sl x 47 _ (h x (by simp)) (by decide), ih y (fun z hz => h z (by simp [List.mem_cons.1 hz]))]
theorem taken_plain (L : List (List UInt8)) (h : ∀ x ∈ L, dots x = false) : taken L = L := by
  induction L using list_snoc with
  | nil => rfl
  | append_singleton L p ih => rw [taken_snoc, ih (fun x hx => h x (by simp [hx])), stepC_not (h p (by simp))]
theorem endC_plain (L acc : List (List UInt8)) (h : ∀ x ∈ L, dots x = false) : endC L acc = acc := by
  rcases List.eq_nil_or_concat L with rfl | ⟨M, p, rfl⟩
  · rfl
  · rw [List.concat_eq_append, endC_snoc, h p (by simp)]; rfl
theorem slashed_cut (r : List UInt8) : slashed (cut sl r) = 47 :: r := by
  induction r with
  | nil => rfl
  | cons b r ih =>
    rw [cut_cons]
    cases hb : sl b
    · simp only [Bool.false_eq_true, if_false]
      obtain ⟨x, xs, hx⟩ : ∃ x xs, cut sl r = x :: xs := List.exists_cons_of_ne_nil (cut_ne sl r)
      rw [hx] at ih
      simp only [hx, List.head_cons, List.tail_cons]
      simp [slashed] at ih ⊢
      exact ih
    · rw [if_pos rfl]
      have e : b = 47 := by simpa [sl] using hb
      simp only [slashed, List.flatMap_cons] at ih ⊢
      rw [ih, e]; rfl
theorem cleanP_plain (r : List UInt8) (h : ∀ x ∈ cut sl r, dots x = false) : cleanP (47 :: r) = 47 :: r := by
  show slashed (outC r) = _
  unfold outC
  rw [taken_plain _ h, endC_plain _ _ h, slashed_cut]
theorem slashed_cons (x : List UInt8) (L : List (List UInt8)) : slashed (x :: L) = 47 :: (x ++ slashed L) := by simp [slashed]
theorem cleanP_twice (l : List UInt8) : cleanP (cleanP l) = cleanP l := by
  cases l with
  | nil => rfl
  | cons b r =>
    cases hb : sl b
    · have : cleanP (b :: r) = [] := by simp [cleanP, hb]
      rw [this]; rfl
    · have e : cleanP (b :: r) = slashed (outC r) := by simp [cleanP, hb]
      rw [e]
      have hm := outC_mem r
      obtain ⟨x, L, hx⟩ := List.exists_cons_of_ne_nil (outC_ne r)
      rw [hx] at hm ⊢
      rw [slashed_cons]
      refine cleanP_plain _ ?_
      rw [cut_slashed x L (fun y hy => (hm y hy).2)]
      exact fun y hy => (hm y hy).1
theorem cleanP_head (l : List UInt8) : (l.head? = some 47 ∧ (cleanP l).head? = some 47) ∨ (l.head? ≠ some 47 ∧ cleanP l = []) := by
  cases l with
  | nil => exact .inr ⟨by simp, rfl⟩
  | cons b r =>
    cases hb : sl b
    · refine .inr ⟨?_, by simp [cleanP, hb]⟩
      intro h; simp at h; subst h; simp [sl] at hb
    · have e : b = 47 := by simpa [sl] using hb
      subst e
      refine .inl ⟨rfl, ?_⟩
      have e : cleanP (47 :: r) = slashed (outC r) := rfl
      obtain ⟨x, L, hx⟩ := List.exists_cons_of_ne_nil (outC_ne r)
      rw [e, hx, slashed_cons]; rfl
/-- A path is clean just if it is what it is cleaned. -/
theorem clean_iff (r : List UInt8) : cleanP (47 :: r) = 47 :: r ↔ ∀ x ∈ cut sl r, dots x = false := by
  constructor
  · intro h
    have e : slashed (outC r) = 47 :: r := h
    have hm := outC_mem r
    obtain ⟨x, L, hx⟩ := List.exists_cons_of_ne_nil (outC_ne r)
    rw [hx] at hm e
    rw [slashed_cons] at e
    have e2 : x ++ slashed L = r := by simpa using e
    rw [← e2, cut_slashed x L (fun y hy => (hm y hy).2)]
    exact fun y hy => (hm y hy).1
  · exact cleanP_plain r
def pathM (l : List UInt8) : Bool := !l.isEmpty && within 33 [63, 35] l && decide (cleanP l = l)

/-! Addresses. -/
structure U where
  o : Bool
  s : List UInt8
  h : List UInt8
  p : Int
  pa : List UInt8
  q : List UInt8
  deriving DecidableEq
def U.none : U := ⟨false, [], [], 0, [], []⟩
def queryM (l : List UInt8) : Bool := l.isEmpty || (l.head? == some 63 && within 33 [35] l)
def portT (p : Int) : List UInt8 := if p = 0 then [] else 58 :: Lib.decDigits p.toNat
def textM (u : U) : List UInt8 := if u.o then u.s ++ 58 :: u.pa else u.s ++ 58 :: 47 :: 47 :: (u.h ++ (portT u.p ++ (u.pa ++ u.q)))
def rankedM (u : U) : Bool := decide (dfl u.s ≠ 0) && hostM u.h && decide (0 ≤ u.p) && decide (u.p ≤ 65535) && decide (u.p ≠ (dfl u.s : Int)) && pathM u.pa && queryM u.q
def opaqueM (u : U) : Bool := schM u.s && decide (dfl u.s = 0) && u.h.isEmpty && decide (u.p = 0) && u.q.isEmpty && within 32 [35] u.pa && decide (trim u.pa = u.pa)
def rightM (u : U) : Bool := (if u.o then opaqueM u else rankedM u) && decide ((textM u).length ≤ 500)

/-! What is parsed. -/
def upto (p : UInt8 → Bool) (l : List UInt8) : List UInt8 := l.takeWhile (fun b => !p b)
def past (p : UInt8 → Bool) (l : List UInt8) : List UInt8 := l.dropWhile (fun b => !p b)
theorem upto_past (p : UInt8 → Bool) (l : List UInt8) : upto p l ++ past p l = l := List.takeWhile_append_dropWhile
def isC (c : UInt8) (b : UInt8) : Bool := b == c
def isE (b : UInt8) : Bool := b == 47 || b == 63
def numV (l : List UInt8) : Nat := l.foldl (fun n b => n * 10 + (b.toNat - 48)) 0
def numM (l : List UInt8) : Option Nat := if l = [] ∨ 5 < l.length ∨ l.all digit = false then none else some (numV l)
def portM (nu : List UInt8) : Option Nat := match nu with | [] => some 0 | _ :: ds => numM ds
def rankU (sc r2 : List UInt8) : Option U :=
  match portM (past (isC 58) (upto isE r2)) with
  | none => none
  | some n => some ⟨false, sc, low (upto (isC 58) (upto isE r2)), if n = dfl sc then 0 else n, cleanP (if upto (isC 63) (past isE r2) = [] then [47] else upto (isC 63) (past isE r2)), past (isC 63) (past isE r2)⟩
def parseT (t : List UInt8) : Option U :=
  match past (isC 58) t with
  | [] => none
  | _ :: r => if dfl (low (upto (isC 58) t)) = 0 then some ⟨true, low (upto (isC 58) t), [], 0, trim r, []⟩
    else if [47, 47].isPrefixOf r then rankU (low (upto (isC 58) t)) (r.drop 2) else none
def parseM (l : List UInt8) : Option U := (parseT (upto (isC 35) (trim l))).filter rightM

end Go.Proofs.YtpmnpaopkncphaaGreatDoor

namespace Go.Proofs.YtpmnpaopkncphaaGreatDoor

/-! Up to, and from there. -/
theorem past_none (p : UInt8 → Bool) (l : List UInt8) (h : ∀ b ∈ l, p b = false) : upto p l = l ∧ past p l = [] := by
  induction l with
  | nil => exact ⟨rfl, rfl⟩
  | cons b l ih =>
    have hb := h b (by simp)
    obtain ⟨h1, h2⟩ := ih (fun x hx => h x (by simp [hx]))
    unfold upto past at *
    rw [List.takeWhile_cons, List.dropWhile_cons, hb]
    simp [h1, h2]
theorem past_hit (p : UInt8 → Bool) (a : List UInt8) (c : UInt8) (r : List UInt8) (ha : ∀ b ∈ a, p b = false) (hc : p c = true) : upto p (a ++ c :: r) = a ∧ past p (a ++ c :: r) = c :: r := by
  induction a with
  | nil =>
    unfold upto past
    rw [List.nil_append, List.takeWhile_cons, List.dropWhile_cons, hc]; simp
  | cons b a ih =>
    have hb := ha b (by simp)
    obtain ⟨h1, h2⟩ := ih (fun x hx => ha x (by simp [hx]))
    unfold upto past at *
    rw [List.cons_append, List.takeWhile_cons, List.dropWhile_cons, hb]
    simp [h1, h2]
/-- Found at a place: the first byte that is asked for. -/
theorem past_at (p : UInt8 → Bool) (l : List UInt8) (k : Nat) (c : UInt8) (hk : l[k]? = some c) (hc : p c = true) (h : ∀ j, j < k → ∀ b, l[j]? = some b → p b = false) : upto p l = l.take k ∧ past p l = l.drop k := by
  have e : l = l.take k ++ c :: l.drop (k + 1) := by
    have hlt := (List.getElem?_eq_some_iff.1 hk)
    rw [← drop_cons hk, List.take_append_drop]
  have := past_hit p (l.take k) c (l.drop (k + 1)) (fun b hb => by
    obtain ⟨j, hj⟩ := List.mem_iff_getElem?.1 hb
    rw [List.getElem?_take] at hj
    split at hj
    · exact h j ‹_› b hj
    · cases hj) hc
  rw [← e] at this
  rw [drop_cons hk]
  exact this
theorem past_end (p : UInt8 → Bool) (l : List UInt8) (h : ∀ j, j < l.length → ∀ b, l[j]? = some b → p b = false) : upto p l = l ∧ past p l = [] :=
  past_none p l fun b hb => by
    obtain ⟨j, hj, rfl⟩ := List.getElem_of_mem hb
    exact h j hj _ (List.getElem?_eq_getElem hj)
theorem upto_length (p : UInt8 → Bool) (l : List UInt8) : (upto p l).length + (past p l).length = l.length := by
  have := congrArg List.length (upto_past p l)
  rw [List.length_append] at this; exact this
theorem past_take (p : UInt8 → Bool) (l : List UInt8) : upto p l = l.take (upto p l).length ∧ past p l = l.drop (upto p l).length := by
  have h := upto_past p l
  have h1 : (upto p l ++ past p l).take (upto p l).length = upto p l := List.take_left
  have h2 : (upto p l ++ past p l).drop (upto p l).length = past p l := List.drop_left
  rw [h] at h1 h2
  exact ⟨h1.symm, h2.symm⟩
theorem past_head (p : UInt8 → Bool) (l : List UInt8) (c : UInt8) (r : List UInt8) (h : past p l = c :: r) : p c = true := by
  induction l with
  | nil => cases h
  | cons b l ih =>
    unfold past at h ih
    rw [List.dropWhile_cons] at h
    cases hb : p b
    · rw [hb] at h; simp at h; exact ih h
    · rw [hb] at h; simp at h; rw [← h.1]; exact hb
theorem upto_no (p : UInt8 → Bool) (l : List UInt8) : ∀ b ∈ upto p l, p b = false := by
  induction l with
  | nil => intro b hb; cases hb
  | cons c l ih =>
    intro b hb
    unfold upto at hb ih
    rw [List.takeWhile_cons] at hb
    cases hc : p c
    · rw [hc] at hb
      simp at hb
      rcases hb with rfl | hb
      · exact hc
      · exact ih b (by simpa using hb)
    · rw [hc] at hb; simp at hb
theorem upto_eq {p : UInt8 → Bool} {l : List UInt8} (c : UInt8) (r a : List UInt8) (h : upto p l = a) : upto p (a ++ c :: r) = a ∨ p c = false := by
  cases hc : p c
  · exact .inr rfl
  · exact .inl (past_hit p a c r (h ▸ upto_no p l) hc).1

/-! The document's pieces. -/
structure CutTo (p : UInt8 → Bool) (l : List UInt8) (fr i : Nat) (out : List (List UInt8)) : Prop where
  sum : out ++ cut p (l.drop fr) = cut p (l.drop 1)
  open_ : ∀ k b, fr ≤ k → k < i → l[k]? = some b → p b = false
  le : fr ≤ i
  few : out.length < fr
theorem cutTo_start (p : UInt8 → Bool) (l : List UInt8) : CutTo p l 1 1 [] := ⟨rfl, fun k b h1 h2 => by omega, Nat.le_refl _, Nat.zero_lt_one⟩
theorem cutTo_in {p : UInt8 → Bool} {l : List UInt8} {fr i : Nat} {b : UInt8} {out : List (List UInt8)} (h : CutTo p l fr i out) (hb : l[i]? = some b) (hbl : p b = false) : CutTo p l fr (i + 1) out := by
  refine ⟨h.sum, fun k b' k1 k2 hk => ?_, by have := h.le; omega, h.few⟩
  by_cases hp : k < i
  · exact h.open_ k b' k1 hp hk
  · obtain rfl : k = i := by omega
    rw [hb] at hk; cases hk; exact hbl
theorem cseg_no {p : UInt8 → Bool} {l : List UInt8} {a pos : Nat} (h : ∀ k b, a ≤ k → k < pos → l[k]? = some b → p b = false) : ∀ b ∈ (l.drop a).take (pos - a), p b = false := by
  intro b hb
  obtain ⟨k, hk⟩ := List.mem_iff_getElem?.1 hb
  rw [List.getElem?_take] at hk
  split at hk
  · rw [List.getElem?_drop] at hk
    exact h (a + k) b (by omega) (by omega) hk
  · cases hk
theorem cutTo_hit {p : UInt8 → Bool} {l : List UInt8} {fr i : Nat} {b : UInt8} {out : List (List UInt8)} (h : CutTo p l fr i out) (hb : l[i]? = some b) (hbl : p b = true) : CutTo p l (i + 1) (i + 1) (out ++ [(l.drop fr).take (i - fr)]) := by
  refine ⟨?_, fun k b' k1 k2 => by omega, Nat.le_refl _, by have := h.few; have := h.le; simp; omega⟩
  have hs := h.sum
  rw [seg h.le hb, cut_hit p _ b _ (cseg_no h.open_) hbl] at hs
  rw [← hs]; simp
theorem cutTo_end {p : UInt8 → Bool} {l : List UInt8} {fr : Nat} {out : List (List UInt8)} (h : CutTo p l fr l.length out) : out ++ [(l.drop fr).take (l.length - fr)] = cut p (l.drop 1) := by
  have hs := h.sum
  have e : l.drop fr = (l.drop fr).take (l.length - fr) := by rw [List.take_of_length_le (by simp)]
  rw [e, cut_none p _ (cseg_no h.open_)] at hs
  exact hs

/-! The document's clean: in one go. -/
/-- What the document's loop has behind k pieces: the last piece's own end is laid in the loop. -/
def refC (L : List (List UInt8)) (k : Nat) : List (List UInt8) := if k = L.length then endC L (taken L) else taken (L.take k)
theorem refC_zero (L : List (List UInt8)) (h : L ≠ []) : refC L 0 = [] := by
  unfold refC
  rw [if_neg (by intro e; exact h (List.length_eq_zero_iff.1 e.symm))]; rfl
theorem refC_all (L : List (List UInt8)) : refC L L.length = endC L (taken L) := by unfold refC; rw [if_pos rfl]
theorem refC_lt (L : List (List UInt8)) (k : Nat) (h : k < L.length) : refC L k = taken (L.take k) := by unfold refC; rw [if_neg (by omega)]
theorem refC_succ (L : List (List UInt8)) (k : Nat) (h : k < L.length) : refC L (k + 1) = if k + 1 = L.length ∧ dots L[k] = true then stepC (taken (L.take k)) L[k] ++ [[]] else stepC (taken (L.take k)) L[k] := by
  have ht : L.take (k + 1) = L.take k ++ [L[k]] := List.take_succ_eq_append_getElem h
  by_cases he : k + 1 = L.length
  · have hL : L = L.take k ++ [L[k]] := by rw [← ht, List.take_of_length_le (by omega)]
    rw [he, refC_all]
    have e1 : endC L (taken L) = endC (L.take k ++ [L[k]]) (taken (L.take k ++ [L[k]])) := by rw [← hL]
    rw [e1, endC_snoc, taken_snoc]
    cases hd : dots L[k] <;> simp
  · rw [refC_lt L (k + 1) (by omega), ht, taken_snoc, if_neg (fun h => he h.1)]
theorem taken_length (L : List (List UInt8)) : (taken L).length ≤ L.length := by
  induction L using list_snoc with
  | nil => exact Nat.le_refl _
  | append_singleton L p ih =>
    rw [taken_snoc, List.length_append]
    have : (stepC (taken L) p).length ≤ (taken L).length + 1 := by
      unfold stepC
      split
      · omega
      · split
        · rw [List.length_dropLast]; omega
        · simp
    simp; omega
theorem slashed_snoc (L : List (List UInt8)) (p : List UInt8) : slashed (L ++ [p]) = slashed L ++ 47 :: p := by simp [slashed]
theorem slashed_join (x : List UInt8) (L : List (List UInt8)) : 47 :: Lib.join (x :: L) [47] = slashed (x :: L) := by
  induction L generalizing x with
  | nil => simp [Lib.join, slashed, List.intercalate]
  | cons y L ih =>
    have := ih y
    rw [slashed_cons, ← this]
    simp [Lib.join, List.intercalate]

/-! What is right. -/
theorem right_len {u : U} (h : rightM u = true) : (textM u).length ≤ 500 := by
  unfold rightM at h; simp at h; exact h.2
theorem right_lens {u : U} (h : rightM u = true) : u.s.length ≤ 500 ∧ u.h.length ≤ 500 ∧ u.pa.length ≤ 500 ∧ u.q.length ≤ 500 := by
  have h1 := right_len h
  unfold rightM at h
  cases ho : u.o
  · unfold textM at h1
    rw [ho] at h1
    simp only [Bool.false_eq_true, if_false, List.length_append, List.length_cons] at h1
    omega
  · rw [ho] at h
    unfold textM at h1
    rw [ho] at h1
    simp only [if_true, List.length_append, List.length_cons] at h1
    simp only [if_true, opaqueM, Bool.and_eq_true, List.isEmpty_iff, decide_eq_true_eq] at h
    obtain ⟨⟨⟨⟨⟨⟨⟨h2, h3⟩, h4⟩, h5⟩, h6⟩, _⟩, _⟩, _⟩ := h
    rw [h4, h6]
    simp
    omega
theorem right_sch {u : U} (h : rightM u = true) : schM u.s = true := by
  unfold rightM at h
  cases ho : u.o
  · rw [ho] at h
    simp only [Bool.false_eq_true, if_false, rankedM, Bool.and_eq_true, decide_eq_true_eq] at h
    exact dfl_sch h.1.1.1.1.1.1.1
  · rw [ho] at h
    simp only [if_true, opaqueM, Bool.and_eq_true] at h
    exact h.1.1.1.1.1.1.1
theorem right_dfl {u : U} (h : rightM u = true) : decide (0 < dfl u.s) = !u.o := by
  unfold rightM at h
  cases ho : u.o
  · rw [ho] at h
    simp only [Bool.false_eq_true, if_false, rankedM, Bool.and_eq_true, decide_eq_true_eq] at h
    have := h.1.1.1.1.1.1.1
    rw [decide_eq_true (by omega)]; rfl
  · rw [ho] at h
    simp only [if_true, opaqueM, Bool.and_eq_true, decide_eq_true_eq] at h
    have := h.1.1.1.1.1.1.2
    rw [this]; rfl
/-- How an address' text begins. -/
def frontM (u : U) : List UInt8 := if u.o then u.s ++ [58] else u.s ++ [58] ++ ([47, 47] ++ u.h)
theorem front_text (u : U) : (textM u).take (frontM u).length = frontM u ∧ (frontM u).length ≤ (textM u).length := by
  unfold textM frontM
  cases u.o
  · simp only [Bool.false_eq_true, if_false]
    have : u.s ++ 58 :: 47 :: 47 :: (u.h ++ (portT u.p ++ (u.pa ++ u.q))) = (u.s ++ [58] ++ ([47, 47] ++ u.h)) ++ (portT u.p ++ (u.pa ++ u.q)) := by simp
    rw [this]
    exact ⟨List.take_left, by rw [List.length_append (bs := portT u.p ++ (u.pa ++ u.q))]; omega⟩
  · simp only [if_true]
    have : u.s ++ 58 :: u.pa = (u.s ++ [58]) ++ u.pa := by simp
    rw [this]
    exact ⟨List.take_left, by rw [List.length_append (bs := u.pa)]; omega⟩

/-! What is parsed. -/
theorem parse_some {l : List UInt8} {u : U} (h : parseM l = some u) : rightM u = true ∧ low u.s = u.s ∧ low u.h = u.h := by
  unfold parseM at h
  rw [Option.filter_eq_some_iff] at h
  obtain ⟨h1, h2⟩ := h
  refine ⟨h2, ?_⟩
  unfold parseT at h1
  split at h1
  · cases h1
  · split at h1
    · cases h1; exact ⟨low_low _, rfl⟩
    · split at h1
      · unfold rankU at h1
        split at h1
        · cases h1
        · cases h1; exact ⟨low_low _, low_low _⟩
      · cases h1
theorem blk_35 : blk 35 = false := by decide
theorem trim_around (l : List UInt8) : trim ([32, 9] ++ l ++ [10]) = trim l := by
  obtain ⟨a, z, h, ha, hz⟩ := trim_form l
  have e : [32, 9] ++ l ++ [10] = ([32, 9] ++ a) ++ trim l ++ (z ++ [10]) := by
    conv => lhs; rw [h]
    simp
  rw [e]
  refine trim_unique (fun b hb => ?_) (fun b hb => ?_) (trim_ends l)
  · rcases List.mem_append.1 hb with hb | hb
    · simp at hb; rcases hb with rfl | rfl <;> decide
    · exact ha b hb
  · rcases List.mem_append.1 hb with hb | hb
    · exact hz b hb
    · simp at hb; subst hb; decide
theorem parse_around (l : List UInt8) : parseM ([32, 9] ++ l ++ [10]) = parseM l := by unfold parseM; rw [trim_around]
theorem ends_of_trim {l : List UInt8} (h : trim l = l) : Ends l := by rw [← h]; exact trim_ends l
/-- What stands behind a #, where no blank is ahead of this, plays no part in what is trimmed, and cut off. -/
theorem upto_hash (l m : List UInt8) (h : trim l = l) : upto (isC 35) (trim (l ++ 35 :: m)) = upto (isC 35) (trim l) := by
  obtain ⟨a, z, hm, ha, hz⟩ := trim_form m
  -- what is trimmed of the whole: l, the sign, and what is left of m's front
  have hex : ∃ m' z', l ++ 35 :: m = l ++ 35 :: m' ++ z' ∧ (∀ b ∈ z', blk b = true) ∧ Ends (l ++ 35 :: m') := by
    have he := ends_of_trim h
    have h1 : ∀ m' b t, l ++ 35 :: m' = b :: t → blk b = false := fun m' b t e => by
      cases l with
      | nil => simp at e; rw [← e.1]; decide
      | cons c l => simp at e; exact he.1 b l (by rw [e.1])
    by_cases hn : trim m = []
    · refine ⟨[], m, by simp, ?_, h1 [], fun b t e => ?_⟩
      · rw [hm, hn]; intro b hb; simp at hb; rcases hb with hb | hb; exact ha b hb; exact hz b hb
      · have := List.append_inj' e rfl
        simp at this; rw [← this.2]; decide
    · refine ⟨a ++ trim m, z, ?_, hz, h1 _, fun b t e => ?_⟩
      · conv => lhs; rw [hm]
        simp
      · obtain ⟨t2, b2, hb2⟩ : ∃ t2 b2, trim m = t2 ++ [b2] := ⟨(trim m).dropLast, (trim m).getLast hn, (List.dropLast_concat_getLast hn).symm⟩
        have h2 := (trim_ends m).2 b2 t2 hb2
        rw [hb2] at e
        have e2 : l ++ 35 :: (a ++ (t2 ++ [b2])) = (l ++ 35 :: (a ++ t2)) ++ [b2] := by simp
        rw [e2] at e
        have := List.append_inj' e rfl
        simp at this; rw [← this.2]; exact h2
  obtain ⟨m', z', e, hz', hE⟩ := hex
  have ht : trim (l ++ 35 :: m) = l ++ 35 :: m' := by
    have := trim_unique (a := []) (m := l ++ 35 :: m') (z := z') (by simp) hz' hE
    rw [e]; simpa using this
  rw [ht, h]
  -- up to the first #
  by_cases hin : ∃ b ∈ l, isC 35 b = true
  · obtain ⟨b, hb, hc⟩ := hin
    have hp : past (isC 35) l ≠ [] := by
      intro hn
      have := upto_past (isC 35) l
      rw [hn, List.append_nil] at this
      rw [← this] at hb
      rw [upto_no _ _ b hb] at hc; cases hc
    obtain ⟨c, r, hcr⟩ := List.exists_cons_of_ne_nil hp
    have h3 := upto_past (isC 35) l
    rw [hcr] at h3
    have h4 := past_hit (isC 35) (upto (isC 35) l) c (r ++ 35 :: m') (upto_no _ _) (past_head _ _ _ _ hcr)
    have e5 : l ++ 35 :: m' = upto (isC 35) l ++ c :: (r ++ 35 :: m') := by
      have h5 : upto (isC 35) l ++ c :: (r ++ 35 :: m') = (upto (isC 35) l ++ c :: r) ++ 35 :: m' := by simp
      rw [h5, h3]
    rw [e5]; exact h4.1
  · have hno : ∀ b ∈ l, isC 35 b = false := fun b hb => by
      cases hc : isC 35 b
      · rfl
      · exact absurd ⟨b, hb, hc⟩ hin
    rw [(past_none _ _ hno).1]
    exact (past_hit (isC 35) l 35 m' hno rfl).1
theorem parse_hash (l m : List UInt8) (h : trim l = l) : parseM (l ++ 35 :: m) = parseM l := by unfold parseM; rw [upto_hash l m h]

end Go.Proofs.YtpmnpaopkncphaaGreatDoor

namespace Go.Proofs.YtpmnpaopkncphaaGreatDoor

/-! Bytes, one by one. -/
theorem byte_all {p : UInt8 → Prop} (h : ∀ n : Fin 256, p (UInt8.ofNat n.val)) (b : UInt8) : p b := by
  have := h ⟨b.toNat, b.toNat_lt⟩
  simpa using this
theorem schB_facts (b : UInt8) : schB b = true → lowB b = b ∧ isC 58 b = false ∧ isC 35 b = false ∧ blk b = false := by revert b; exact byte_all (by decide +kernel)
theorem nameB_facts (b : UInt8) : (nameB b || dot b) = true → lowB b = b ∧ isC 58 b = false ∧ isC 35 b = false ∧ isE b = false := by revert b; exact byte_all (by decide +kernel)
theorem digit_facts (b : UInt8) : digit b = true → isC 58 b = false ∧ isC 35 b = false ∧ isE b = false := by revert b; exact byte_all (by decide +kernel)
theorem inPath_facts (b : UInt8) : inB 33 [63, 35] b = true → isC 63 b = false ∧ isC 35 b = false ∧ blk b = false := by revert b; exact byte_all (by decide +kernel)
theorem inQuery_facts (b : UInt8) : inB 33 [35] b = true → isC 35 b = false ∧ blk b = false := by revert b; exact byte_all (by decide +kernel)
theorem inRest_facts (b : UInt8) : inB 32 [35] b = true → isC 35 b = false := by revert b; exact byte_all (by decide +kernel)

theorem low_id {l : List UInt8} (h : ∀ b ∈ l, lowB b = b) : low l = l := by
  induction l with
  | nil => rfl
  | cons b l ih =>
    show lowB b :: low l = b :: l
    rw [h b (by simp), ih (fun x hx => h x (by simp [hx]))]
theorem schM_cons {b : UInt8} {l : List UInt8} : schM (b :: l) = (decide (l.length < 20) && small b && (b :: l).all schB) := rfl
theorem schM_all {l : List UInt8} (h : schM l = true) : l ≠ [] ∧ ∀ b ∈ l, schB b = true := by
  cases l with
  | nil => cases h
  | cons c l =>
    rw [schM_cons, Bool.and_eq_true, List.all_eq_true] at h
    exact ⟨by simp, h.2⟩
theorem schM_low {l : List UInt8} (h : schM l = true) : low l = l := low_id fun b hb => (schB_facts b ((schM_all h).2 b hb)).1
theorem hostR_mem {l : List UInt8} : ∀ {p : Bool}, hostR p l = true → ∀ b ∈ l, (nameB b || dot b) = true := by
  induction l with
  | nil => intro p _ b hb; cases hb
  | cons c l ih =>
    intro p h b hb
    unfold hostR at h
    cases hd : dot c
    · rw [hd] at h
      simp only [Bool.false_eq_true, if_false, Bool.and_eq_true] at h
      rcases List.mem_cons.1 hb with rfl | hb
      · rw [h.1]; rfl
      · exact ih h.2 b hb
    · rw [hd] at h
      simp only [if_true, Bool.and_eq_true] at h
      rcases List.mem_cons.1 hb with rfl | hb
      · rw [hd, Bool.or_true]
      · exact ih h.2 b hb
theorem hostM_mem {l : List UInt8} (h : hostM l = true) : ∀ b ∈ l, (nameB b || dot b) = true := by
  rw [hostM_R, Bool.and_eq_true] at h
  exact hostR_mem h.2

/-! Numerals. -/
theorem digit_ofNat (k : Nat) (h : k < 10) : digit (UInt8.ofNat (48 + k)) = true ∧ (UInt8.ofNat (48 + k)).toNat - 48 = k :=
  (show ∀ k : Fin 10, digit (UInt8.ofNat (48 + k.val)) = true ∧ (UInt8.ofNat (48 + k.val)).toNat - 48 = k.val by decide +kernel) ⟨k, h⟩
theorem dec_spec (u : Nat) : (∀ b ∈ Lib.decDigits u, digit b = true) ∧ numV (Lib.decDigits u) = u := by
  induction u using Nat.strongRecOn with
  | _ u ih =>
    by_cases h : u < 10
    · rw [Lib.decDigits, dif_pos h]
      obtain ⟨h1, h2⟩ := digit_ofNat u h
      refine ⟨fun b hb => by rw [List.mem_singleton.1 hb]; exact h1, ?_⟩
      show 0 * 10 + ((UInt8.ofNat (48 + u)).toNat - 48) = u
      rw [h2]; omega
    · rw [Lib.decDigits, dif_neg h]
      obtain ⟨h1, h2⟩ := digit_ofNat (u % 10) (by omega)
      obtain ⟨g1, g2⟩ := ih (u / 10) (by omega)
      refine ⟨fun b hb => ?_, ?_⟩
      · rcases List.mem_append.1 hb with hb | hb
        · exact g1 b hb
        · rw [List.mem_singleton.1 hb]; exact h1
      · unfold numV at g2 ⊢
        rw [List.foldl_append, g2]
        show u / 10 * 10 + ((UInt8.ofNat (48 + u % 10)).toNat - 48) = u
        rw [h2]; omega
theorem nDigits_le (u : Nat) (h : u ≤ 65535) : Lib.nDigits u ≤ 5 := by
  rcases Nat.lt_or_ge u 10 with h1 | h1
  · rw [Lib.nDigits_small h1]; omega
  rcases Nat.lt_or_ge u 100 with h2 | h2
  · rw [Lib.nDigits_unique 1 u (by simpa using h1) (by simpa using h2)]; omega
  rcases Nat.lt_or_ge u 1000 with h3 | h3
  · rw [Lib.nDigits_unique 2 u (by simpa using h2) (by simpa using h3)]; omega
  rcases Nat.lt_or_ge u 10000 with h4 | h4
  · rw [Lib.nDigits_unique 3 u (by simpa using h3) (by simpa using h4)]; omega
  · rw [Lib.nDigits_unique 4 u (by simpa using h4) (by omega)]; omega
theorem numM_dec (u : Nat) (h : u ≤ 65535) : numM (Lib.decDigits u) = some u := by
  obtain ⟨h1, h2⟩ := dec_spec u
  have h3 := nDigits_le u h
  have h4 := Lib.nDigits_pos u
  rw [← Lib.decDigits_length] at h3 h4
  unfold numM
  rw [if_neg, h2]
  rintro (e | e | e)
  · rw [e] at h4; cases h4
  · omega
  · rw [List.all_eq_true.2 h1] at e; cases e

/-! Up to, behind a front that has none. -/
theorem upto_append {p : UInt8 → Bool} {a : List UInt8} (r : List UInt8) (h : ∀ b ∈ a, p b = false) : upto p (a ++ r) = a ++ upto p r ∧ past p (a ++ r) = past p r := by
  induction a with
  | nil => exact ⟨rfl, rfl⟩
  | cons c a ih =>
    have hc := h c (by simp)
    obtain ⟨h1, h2⟩ := ih (fun x hx => h x (by simp [hx]))
    unfold upto past at *
    rw [List.cons_append, List.takeWhile_cons, List.dropWhile_cons, hc]
    simp [h1, h2]
theorem upto_stop {p : UInt8 → Bool} {c : UInt8} (r : List UInt8) (h : p c = true) : upto p (c :: r) = [] ∧ past p (c :: r) = c :: r := past_hit p [] c r (by simp) h
theorem upto_step {p : UInt8 → Bool} {c : UInt8} (r : List UInt8) (h : p c = false) : upto p (c :: r) = c :: upto p r ∧ past p (c :: r) = past p r := by
  have := upto_append (p := p) (a := [c]) r (by simpa using h)
  exact this

/-! What is right. -/
theorem ranked_parts {u : U} (h : rightM u = true) (ho : u.o = false) : dfl u.s ≠ 0 ∧ hostM u.h = true ∧ 0 ≤ u.p ∧ u.p ≤ 65535 ∧ u.p ≠ (dfl u.s : Int) ∧ pathM u.pa = true ∧ queryM u.q = true := by
  unfold rightM at h
  rw [ho] at h
  simp only [Bool.false_eq_true, if_false, rankedM, Bool.and_eq_true, decide_eq_true_eq] at h
  obtain ⟨⟨⟨⟨⟨⟨⟨h1, h2⟩, h3⟩, h4⟩, h5⟩, h6⟩, h7⟩, h8⟩ := h
  exact ⟨h1, h2, h3, h4, h5, h6, h7⟩
theorem opaque_parts {u : U} (h : rightM u = true) (ho : u.o = true) : schM u.s = true ∧ dfl u.s = 0 ∧ u.h = [] ∧ u.p = 0 ∧ u.q = [] ∧ (∀ b ∈ u.pa, inB 32 [35] b = true) ∧ trim u.pa = u.pa := by
  unfold rightM at h
  rw [ho] at h
  simp only [if_true, opaqueM, Bool.and_eq_true, decide_eq_true_eq, List.isEmpty_iff, within, List.all_eq_true] at h
  obtain ⟨⟨⟨⟨⟨⟨⟨h1, h2⟩, h3⟩, h4⟩, h5⟩, h6⟩, h7⟩, h8⟩ := h
  exact ⟨h1, h2, h3, h4, h5, h6, h7⟩
theorem path_parts {l : List UInt8} (h : pathM l = true) : ∃ r, l = 47 :: r ∧ (∀ b ∈ l, inB 33 [63, 35] b = true) ∧ cleanP l = l := by
  unfold pathM at h
  simp only [Bool.and_eq_true, decide_eq_true_eq, within, List.all_eq_true] at h
  obtain ⟨⟨h1, h2⟩, h3⟩ := h
  cases l with
  | nil => cases h1
  | cons b r =>
    rcases cleanP_head (b :: r) with ⟨e, _⟩ | ⟨_, e⟩
    · have : b = 47 := by simpa using e
      subst this
      exact ⟨r, rfl, h2, h3⟩
    · rw [e] at h3; cases h3
theorem query_parts {l : List UInt8} (h : queryM l = true) : l = [] ∨ ∃ r, l = 63 :: r ∧ ∀ b ∈ l, inB 33 [35] b = true := by
  cases l with
  | nil => exact .inl rfl
  | cons b r =>
    unfold queryM at h
    simp only [List.isEmpty_cons, Bool.false_or, Bool.and_eq_true, within, List.all_eq_true, List.head?_cons] at h
    have : b = 63 := by simpa using h.1
    subst this
    exact .inr ⟨r, rfl, h.2⟩
theorem portT_mem (p : Int) : ∀ b ∈ portT p, (b = 58 ∨ digit b = true) := by
  unfold portT
  split
  · intro b hb; cases hb
  · intro b hb
    rcases List.mem_cons.1 hb with h | h
    · exact .inl h
    · exact .inr ((dec_spec _).1 b h)

/-! An address' text, without its path and query. -/
def placeM (u : U) : List UInt8 := u.s ++ 58 :: 47 :: 47 :: (u.h ++ portT u.p)
theorem text_place {u : U} (ho : u.o = false) : textM u = placeM u ++ (u.pa ++ u.q) := by
  unfold textM placeM; rw [ho]; simp
theorem place_no {u : U} (h : rightM u = true) (ho : u.o = false) : ∀ b ∈ placeM u, isC 35 b = false := by
  obtain ⟨h1, h2, _⟩ := ranked_parts h ho
  have h3 := schM_all (right_sch h)
  intro b hb
  unfold placeM at hb
  simp only [List.mem_append, List.mem_cons] at hb
  rcases hb with hb | rfl | rfl | rfl | hb | hb
  · exact (schB_facts b (h3.2 b hb)).2.2.1
  · rfl
  · rfl
  · rfl
  · exact (nameB_facts b (hostM_mem h2 b hb)).2.2.1
  · rcases portT_mem _ b hb with rfl | hb
    · rfl
    · exact (digit_facts b hb).2.1
/-- What is parsed of it, and of any path and query behind it. -/
theorem parse_place {u : U} (h : rightM u = true) (ho : u.o = false) (Y : List UInt8) :
    parseT (placeM u ++ 47 :: Y) = some ⟨false, u.s, u.h, u.p, cleanP (upto (isC 63) (47 :: Y)), past (isC 63) (47 :: Y)⟩ := by
  obtain ⟨hd, hh, hp0, hp1, hpd, _, _⟩ := ranked_parts h ho
  have hs := right_sch h
  have e0 : placeM u ++ 47 :: Y = u.s ++ 58 :: (47 :: 47 :: ((u.h ++ portT u.p) ++ 47 :: Y)) := by unfold placeM; simp
  have hU := past_hit (isC 58) u.s 58 (47 :: 47 :: ((u.h ++ portT u.p) ++ 47 :: Y)) (fun b hb => (schB_facts b ((schM_all hs).2 b hb)).2.1) rfl
  rw [← e0] at hU
  have hE := past_hit isE (u.h ++ portT u.p) 47 Y (fun b hb => by
    rcases List.mem_append.1 hb with hb | hb
    · exact (nameB_facts b (hostM_mem hh b hb)).2.2.2
    · rcases portT_mem _ b hb with rfl | hb
      · rfl
      · exact (digit_facts b hb).2.2) rfl
  have hH : upto (isC 58) (u.h ++ portT u.p) = u.h ∧ past (isC 58) (u.h ++ portT u.p) = portT u.p := by
    obtain ⟨a1, a2⟩ := upto_append (p := isC 58) (a := u.h) (portT u.p) (fun b hb => (nameB_facts b (hostM_mem hh b hb)).2.1)
    rw [a1, a2]
    unfold portT
    split
    · exact ⟨by rw [(past_none (isC 58) [] (by simp)).1]; simp, rfl⟩
    · obtain ⟨b1, b2⟩ := upto_stop (p := isC 58) (c := 58) (Lib.decDigits u.p.toNat) rfl
      rw [b1, b2]; simp
  have hP : portM (portT u.p) = some u.p.toNat := by
    unfold portT
    split
    · rename_i e; rw [e]; rfl
    · exact numM_dec _ (by omega)
  have hpd' : (if u.p.toNat = dfl u.s then (0 : Int) else (u.p.toNat : Int)) = u.p := by
    rw [if_neg (by omega)]; omega
  have h63 : upto (isC 63) (47 :: Y) ≠ [] := by rw [(upto_step (p := isC 63) (c := 47) Y rfl).1]; simp
  unfold parseT
  rw [hU.1, hU.2]
  simp only
  rw [schM_low hs, if_neg hd, if_pos (by simp [List.isPrefixOf])]
  show rankU u.s ((u.h ++ portT u.p) ++ 47 :: Y) = _
  unfold rankU
  rw [hE.1, hE.2, hH.1, hH.2, hP]
  simp only
  rw [hpd', if_neg h63, low_id (fun b hb => (nameB_facts b (hostM_mem hh b hb)).1)]

/-! Trimming: a front without blanks at its beginning, and a stroke. -/
theorem trim_front (P X : List UInt8) (c : UInt8) (hP : P.head? = some c) (hc : blk c = false) : ∃ X', trim (P ++ 47 :: X) = P ++ 47 :: X' := by
  obtain ⟨a, z, h, ha, hz⟩ := trim_form (P ++ 47 :: X)
  obtain ⟨P', rfl⟩ : ∃ P', P = c :: P' := by
    cases P with
    | nil => cases hP
    | cons d P => cases hP; exact ⟨P, rfl⟩
  have ea : a = [] := by
    cases a with
    | nil => rfl
    | cons d a =>
      have e : c = d := by simpa using congrArg List.head? h
      rw [e, ha d (by simp)] at hc; cases hc
  subst ea
  rw [List.nil_append] at h
  have e2 : ((c :: P') ++ [47]) ++ X = trim (c :: P' ++ 47 :: X) ++ z := by rw [← h]; simp
  rcases List.append_eq_append_iff.1 e2 with ⟨t, h1, h2⟩ | ⟨t, h1, h2⟩
  · exact ⟨t, by rw [h1]; simp⟩
  · rcases List.eq_nil_or_concat t with rfl | ⟨t, d, rfl⟩
    · refine ⟨[], ?_⟩
      rw [List.append_nil] at h1
      rw [← h1]
    · rw [List.concat_eq_append] at h1 h2
      have e3 : (c :: P' ++ [47]) = (trim (c :: P' ++ 47 :: X) ++ t) ++ [d] := by rw [h1]; simp
      have e4 := List.append_inj' e3 rfl
      have e5 : (47 : UInt8) = d := by simpa using e4.2
      have := hz d (by rw [h2]; simp)
      rw [← e5] at this
      cases this
theorem place_head {u : U} (h : rightM u = true) : ∃ c, (placeM u).head? = some c ∧ u.s.head? = some c ∧ blk c = false := by
  have hs := schM_all (right_sch h)
  obtain ⟨c, l, e⟩ := List.exists_cons_of_ne_nil hs.1
  refine ⟨c, by unfold placeM; rw [e]; rfl, by rw [e]; rfl, (schB_facts c (hs.2 c (by rw [e]; simp))).2.2.2⟩
/-- What is told behind an address' place leaves scheme, host and port. -/
theorem parse_left {b u : U} (h : rightM b = true) (ho : b.o = false) (X : List UInt8) (hp : parseM (placeM b ++ 47 :: X) = some u) : u.o = false ∧ u.s = b.s ∧ u.h = b.h ∧ u.p = b.p := by
  obtain ⟨c, h1, _, h2⟩ := place_head h
  obtain ⟨X', e⟩ := trim_front (placeM b) X c h1 h2
  unfold parseM at hp
  rw [e, (upto_append (47 :: X') (place_no h ho)).1, (upto_step (p := isC 35) (c := 47) X' rfl).1, parse_place h ho] at hp
  obtain ⟨hp, _⟩ := Option.filter_eq_some_iff.1 hp
  have hp := Option.some.inj hp
  rw [← hp]
  exact ⟨rfl, rfl, rfl, rfl⟩

/-! An address' own text. -/
theorem trim_ends_of {l : List UInt8} (h1 : ∀ b t, l = b :: t → blk b = false) (h2 : ∀ b t, l = t ++ [b] → blk b = false) : trim l = l := trim_of_ends ⟨h1, h2⟩
theorem text_trim {u : U} (h : rightM u = true) : trim (textM u) = textM u ∧ upto (isC 35) (textM u) = textM u := by
  obtain ⟨c, _, hc, hcb⟩ := place_head h
  have hs := schM_all (right_sch h)
  have hfront : ∀ b t, textM u = b :: t → blk b = false := fun b t e => by
    have : (textM u).head? = some c := by
      obtain ⟨d, l, e2⟩ := List.exists_cons_of_ne_nil hs.1
      rw [e2] at hc
      unfold textM
      rw [e2]
      split
      · exact hc
      · exact hc
    rw [e] at this
    cases this; exact hcb
  cases ho : u.o
  · obtain ⟨_, _, _, _, _, hpa, hq⟩ := ranked_parts h ho
    obtain ⟨r, er, hpb, _⟩ := path_parts hpa
    have hvis : ∀ b ∈ u.pa ++ u.q, blk b = false ∧ isC 35 b = false := fun b hb => by
      rcases List.mem_append.1 hb with hb | hb
      · exact ⟨(inPath_facts b (hpb b hb)).2.2, (inPath_facts b (hpb b hb)).2.1⟩
      · rcases query_parts hq with e | ⟨r2, _, hqb⟩
        · rw [e] at hb; cases hb
        · exact ⟨(inQuery_facts b (hqb b hb)).2, (inQuery_facts b (hqb b hb)).1⟩
    constructor
    · refine trim_ends_of hfront fun b t e => ?_
      rw [text_place ho] at e
      have hne : u.pa ++ u.q ≠ [] := by rw [er]; simp
      have hl : (u.pa ++ u.q).getLast hne = b := by
        have h3 : (placeM u ++ (u.pa ++ u.q)).getLast? = some b := by rw [e]; simp
        rw [List.getLast?_append, List.getLast?_eq_some_getLast hne] at h3
        simpa using h3
      rw [← hl]
      exact (hvis _ (List.getLast_mem hne)).1
    · rw [text_place ho, (upto_append _ (place_no h ho)).1, (past_none (isC 35) _ (fun b hb => (hvis b hb).2)).1]
  · obtain ⟨h1, h2, h3, h4, h5, h6, h7⟩ := opaque_parts h ho
    have e0 : textM u = u.s ++ 58 :: u.pa := by unfold textM; rw [ho]; rfl
    constructor
    · refine trim_ends_of hfront fun b t e => ?_
      rw [e0] at e
      by_cases hn : u.pa = []
      · rw [hn] at e
        have := List.append_inj' e rfl
        simp at this
        rw [← this.2]; rfl
      · have hl : u.pa.getLast hn = b := by
          have h8 : (u.s ++ 58 :: u.pa).getLast? = some b := by rw [e]; simp
          rw [List.getLast?_append, List.getLast?_cons, List.getLast?_eq_some_getLast hn] at h8
          simpa using h8
        exact (ends_of_trim h7).2 b u.pa.dropLast (by rw [← hl, List.dropLast_concat_getLast])
    · rw [e0]
      refine (past_none (isC 35) _ fun b hb => ?_).1
      rcases List.mem_append.1 hb with hb | hb
      · exact (schB_facts b (hs.2 b hb)).2.2.1
      · rcases List.mem_cons.1 hb with rfl | hb
        · rfl
        · exact inRest_facts b (h6 b hb)
/-- AN ADDRESS' TEXT IS PARSED AS IT. -/
theorem parse_text {u : U} (h : rightM u = true) : parseM (textM u) = some u := by
  obtain ⟨h1, h2⟩ := text_trim h
  unfold parseM
  rw [h1, h2]
  have key : parseT (textM u) = some u := by
    cases ho : u.o
    · obtain ⟨_, _, _, _, _, hpa, hq⟩ := ranked_parts h ho
      obtain ⟨r, er, hpb, hcl⟩ := path_parts hpa
      rw [text_place ho, er, List.cons_append, parse_place h ho]
      have h63 : upto (isC 63) (47 :: (r ++ u.q)) = u.pa ∧ past (isC 63) (47 :: (r ++ u.q)) = u.q := by
        have e : 47 :: (r ++ u.q) = u.pa ++ u.q := by rw [er]; rfl
        obtain ⟨a1, a2⟩ := upto_append (p := isC 63) (a := u.pa) u.q (fun b hb => (inPath_facts b (hpb b hb)).1)
        rw [e, a1, a2]
        rcases query_parts hq with e2 | ⟨r2, e2, _⟩
        · rw [e2]; exact ⟨by rw [(past_none (isC 63) [] (by simp)).1]; simp, rfl⟩
        · rw [e2]
          obtain ⟨b1, b2⟩ := upto_stop (p := isC 63) (c := 63) r2 rfl
          rw [b1, b2]; simp
      rw [h63.1, h63.2, hcl]
      cases u
      simp only at ho
      rw [ho]
    · obtain ⟨g1, g2, g3, g4, g5, g6, g7⟩ := opaque_parts h ho
      have e0 : textM u = u.s ++ 58 :: u.pa := by unfold textM; rw [ho]; rfl
      have hU := past_hit (isC 58) u.s 58 u.pa (fun b hb => (schB_facts b ((schM_all g1).2 b hb)).2.1) rfl
      unfold parseT
      rw [e0, hU.1, hU.2]
      simp only
      rw [schM_low g1, if_pos g2, g7]
      cases u
      simp only at ho g3 g4 g5
      rw [ho, g3, g4, g5]
  rw [key]
  simp [h]

/-! What a text begins with. -/
def kindM (t : List UInt8) : Nat :=
  if past (isC 58) t ≠ [] ∧ schM (low (upto (isC 58) t)) = true then 1
  else if [47, 47].isPrefixOf t then 2 else if [47].isPrefixOf t then 3
  else if t = [] ∨ [35].isPrefixOf t = true then 4 else if [63].isPrefixOf t then 5 else 6
theorem kind_le (t : List UInt8) : 1 ≤ kindM t ∧ kindM t ≤ 6 := by
  unfold kindM
  repeat' split
  all_goals omega
theorem kind_text {u : U} (h : rightM u = true) : kindM (trim (textM u)) = 1 := by
  have hs := right_sch h
  have : ∃ R, textM u = u.s ++ 58 :: R := by
    unfold textM
    split
    · exact ⟨_, rfl⟩
    · exact ⟨_, rfl⟩
  obtain ⟨R, e⟩ := this
  obtain ⟨e1, e2⟩ := past_hit (isC 58) u.s 58 R (fun b hb => (schB_facts b ((schM_all hs).2 b hb)).2.1) rfl
  rw [(text_trim h).1, e]
  unfold kindM
  rw [e1, e2, schM_low hs, if_pos ⟨by simp, hs⟩]

/-! A path up to its last stroke. -/
def lastN (l : List UInt8) : Nat := (l.reverse.dropWhile (fun b => !sl b)).length
theorem lastN_nil : lastN [] = 0 := rfl
theorem lastN_snoc (l : List UInt8) (b : UInt8) : lastN (l ++ [b]) = if sl b then l.length + 1 else lastN l := by
  unfold lastN
  rw [List.reverse_append, List.reverse_singleton, List.singleton_append, List.dropWhile_cons]
  cases sl b <;> simp
theorem lastN_le (l : List UInt8) : lastN l ≤ l.length := by
  unfold lastN
  have := (List.dropWhile_sublist (l := l.reverse) (fun b => !sl b)).length_le
  simpa using this
def folder (l : List UInt8) : List UInt8 := l.take (lastN l)
/-- A text with a stroke: what is up to the last one, and what is behind. -/
theorem lastN_hit (x y : List UInt8) (hy : ∀ b ∈ y, sl b = false) : lastN (x ++ 47 :: y) = x.length + 1 := by
  induction y using list_snoc with
  | nil => rw [lastN_snoc]; rfl
  | append_singleton y b ih =>
    have e : x ++ 47 :: (y ++ [b]) = (x ++ 47 :: y) ++ [b] := by simp
    rw [e, lastN_snoc, hy b (by simp)]
    exact ih (fun c hc => hy c (by simp [hc]))
theorem lastN_none (y : List UInt8) (hy : ∀ b ∈ y, sl b = false) : lastN y = 0 := by
  induction y using list_snoc with
  | nil => rfl
  | append_singleton y b ih =>
    rw [lastN_snoc, hy b (by simp)]
    exact ih (fun c hc => hy c (by simp [hc]))
theorem folder_hit (x y : List UInt8) (hy : ∀ b ∈ y, sl b = false) : folder (x ++ 47 :: y) = x ++ [47] := by
  unfold folder
  rw [lastN_hit x y hy]
  have e : x ++ 47 :: y = (x ++ [47]) ++ y := by simp
  rw [e, List.take_left' (by simp)]
theorem last_split (l : List UInt8) (h : ∃ b ∈ l, sl b = true) : ∃ x y, l = x ++ 47 :: y ∧ ∀ b ∈ y, sl b = false := by
  induction l using list_snoc with
  | nil => obtain ⟨b, hb, _⟩ := h; cases hb
  | append_singleton l b ih =>
    cases hb : sl b
    · have : ∃ b ∈ l, sl b = true := by
        obtain ⟨c, hc, hd⟩ := h
        rcases List.mem_append.1 hc with hc | hc
        · exact ⟨c, hc, hd⟩
        · rw [List.mem_singleton.1 hc, hb] at hd; cases hd
      obtain ⟨x, y, e, hy⟩ := ih this
      refine ⟨x, y ++ [b], by rw [e]; simp, fun c hc => ?_⟩
      rcases List.mem_append.1 hc with hc | hc
      · exact hy c hc
      · rw [List.mem_singleton.1 hc]; exact hb
    · have : b = 47 := by simpa [sl] using hb
      subst this
      exact ⟨l, [], rfl, by simp⟩
theorem cut_strokes (x y : List UInt8) : cut sl (x ++ 47 :: y) = cut sl x ++ cut sl y := by
  induction x with
  | nil => exact cut_hit sl [] 47 y (by simp) rfl
  | cons b x ih =>
    rw [List.cons_append, cut_cons, cut_cons]
    cases hb : sl b
    · simp only [Bool.false_eq_true, if_false]
      obtain ⟨z, zs, hz⟩ : ∃ z zs, cut sl x = z :: zs := List.exists_cons_of_ne_nil (cut_ne sl x)
      simp only [ih, hz, List.cons_append, List.head_cons, List.tail_cons]
    · simp [ih]
/-- A right path's folder is right, and its own folder. -/
theorem folder_right {l : List UInt8} (h : pathM l = true) : pathM (folder l) = true ∧ folder (folder l) = folder l ∧ (folder l).length ≤ l.length ∧ ∃ r, folder l = 47 :: r := by
  obtain ⟨r, er, hb, hc⟩ := path_parts h
  obtain ⟨x, y, e, hy⟩ := last_split l ⟨47, by rw [er]; simp, rfl⟩
  have ef : folder l = x ++ [47] := by rw [e]; exact folder_hit x y hy
  have hlen : (folder l).length ≤ l.length := by rw [ef, e]; simp
  have hff : folder (folder l) = folder l := by rw [ef]; exact folder_hit x [] (by simp)
  have hsub : ∀ b ∈ folder l, inB 33 [63, 35] b = true := fun b hb' => hb b (by rw [ef] at hb'; rw [e]; simp at hb' ⊢; rcases hb' with h | h; exact .inl h; exact .inr (.inl h))
  have hcl : cleanP (folder l) = folder l ∧ ∃ r, folder l = 47 :: r := by
    rw [ef]
    cases x with
    | nil => exact ⟨by decide, [], rfl⟩
    | cons b x =>
      have eb : b = 47 := by rw [er] at e; simp at e; exact e.1.symm
      subst eb
      have e2 : l = 47 :: (x ++ 47 :: y) := by rw [e]; rfl
      rw [e2] at hc
      have h3 := (clean_iff _).1 hc
      rw [cut_strokes] at h3
      refine ⟨?_, x ++ [47], rfl⟩
      show cleanP (47 :: (x ++ [47])) = 47 :: (x ++ [47])
      rw [clean_iff, cut_strokes]
      intro z hz
      rcases List.mem_append.1 hz with hz | hz
      · exact h3 z (List.mem_append.2 (.inl hz))
      · have : z = [] := by simpa [cut] using hz
        rw [this]; rfl
  refine ⟨?_, hff, hlen, hcl.2⟩
  unfold pathM within
  rw [hcl.1]
  obtain ⟨r2, e2⟩ := hcl.2
  rw [List.all_eq_true.2 hsub, e2]
  simp

/-! What is joined. -/
def aheadM (u : U) (k : Nat) : List UInt8 :=
  if k = 2 then u.s ++ [58] else if k = 3 then placeM u else if k = 4 then textM u else if k = 5 then placeM u ++ u.pa else placeM u ++ folder u.pa
def joinT (u : U) (t : List UInt8) : List UInt8 := aheadM u (kindM t) ++ upto (isC 35) t
def joinM (u : U) (r : List UInt8) : Option U := if kindM (trim r) = 1 then parseM r else if u.o = true ∨ rightM u = false then none else parseM (joinT u (trim r))
def joinE (u : U) (r : List UInt8) : Int := if kindM (trim r) = 1 then 50 else if u.o = true ∨ rightM u = false then 51 else 50
theorem join_one {u : U} {r : List UInt8} (h : kindM (trim r) = 1) : joinM u r = parseM r ∧ joinE u r = 50 := by unfold joinM joinE; rw [if_pos h, if_pos h]; exact ⟨rfl, rfl⟩
theorem join_wrong {u : U} {r : List UInt8} (h : kindM (trim r) ≠ 1) (hu : u.o = true ∨ rightM u = false) : joinM u r = none ∧ joinE u r = 51 := by
  unfold joinM joinE; rw [if_neg h, if_neg h, if_pos hu, if_pos hu]; exact ⟨rfl, rfl⟩
theorem join_right {u : U} {r : List UInt8} (h : kindM (trim r) ≠ 1) (ho : u.o = false) (hr : rightM u = true) : joinM u r = parseM (joinT u (trim r)) ∧ joinE u r = 50 := by
  have hu : ¬ (u.o = true ∨ rightM u = false) := by rw [ho, hr]; simp
  unfold joinM joinE; rw [if_neg h, if_neg h, if_neg hu, if_neg hu]; exact ⟨rfl, rfl⟩
theorem join_some {u v : U} {r : List UInt8} (h : joinM u r = some v) : rightM v = true := by
  unfold joinM at h
  split at h
  · exact (parse_some h).1
  · split at h
    · cases h
    · exact (parse_some h).1
theorem kind_hash {t : List UInt8} (h : kindM t = 4) : upto (isC 35) t = [] := by
  have h4 : t = [] ∨ [35].isPrefixOf t = true := by
    unfold kindM at h
    repeat' split at h
    all_goals first | assumption | omega
  rcases h4 with rfl | h4
  · rfl
  · cases t with
    | nil => rfl
    | cons c t =>
      rw [isPrefixOf_one] at h4
      have : c = 35 := by rw [beq_iff_eq] at h4; exact h4.symm
      subst this
      exact (upto_stop (p := isC 35) t rfl).1
/-- KINDS 3 TO 6 LEAVE SCHEME, HOST AND PORT. -/
theorem join_left {u v : U} {r : List UInt8} (hk : 3 ≤ kindM (trim r)) (h : joinM u r = some v) : v.o = false ∧ v.s = u.s ∧ v.h = u.h ∧ v.p = u.p := by
  unfold joinM at h
  rw [if_neg (by omega)] at h
  split at h
  · cases h
  · rename_i hu
    have ho : u.o = false := by cases e : u.o; rfl; exact absurd (.inl e) hu
    have hr : rightM u = true := by cases e : rightM u; exact absurd (.inr e) hu; rfl
    obtain ⟨_, _, _, _, _, hpa, hq⟩ := ranked_parts hr ho
    obtain ⟨p1, ep, _⟩ := path_parts hpa
    obtain ⟨_, _, _, f1, ef⟩ := folder_right hpa
    have key : ∃ X, joinT u (trim r) = placeM u ++ 47 :: X := by
      have hle := kind_le (trim r)
      unfold joinT aheadM
      by_cases h3 : kindM (trim r) = 3
      · rw [h3]
        have hp : [47].isPrefixOf (trim r) = true := by
          unfold kindM at h3
          repeat' split at h3
          all_goals first | assumption | omega
        obtain ⟨t, et⟩ : ∃ t, trim r = 47 :: t := by
          cases e : trim r with
          | nil => rw [e] at hp; cases hp
          | cons c t => rw [e, isPrefixOf_one, beq_iff_eq] at hp; exact ⟨t, by rw [← hp]⟩
        refine ⟨upto (isC 35) t, ?_⟩
        rw [et, (upto_step (p := isC 35) (c := 47) t rfl).1]; rfl
      by_cases h4 : kindM (trim r) = 4
      · rw [kind_hash h4, h4]
        refine ⟨p1 ++ u.q, ?_⟩
        show textM u ++ [] = _
        rw [text_place ho, ep]; simp
      by_cases h5 : kindM (trim r) = 5
      · rw [h5]
        refine ⟨p1 ++ upto (isC 35) (trim r), ?_⟩
        show (placeM u ++ u.pa) ++ _ = _
        rw [ep]; simp
      · rw [if_neg (by omega), if_neg (by omega), if_neg (by omega), if_neg (by omega)]
        refine ⟨f1 ++ upto (isC 35) (trim r), ?_⟩
        rw [ef]; simp
    obtain ⟨X, e⟩ := key
    rw [e] at h
    exact parse_left hr ho X h
/-- AN ADDRESS' FOLDER. -/
def folderU (u : U) : U := ⟨u.o, u.s, u.h, u.p, folder u.pa, []⟩
theorem folderU_right {u : U} (h : rightM u = true) (ho : u.o = false) : rightM (folderU u) = true := by
  obtain ⟨h1, h2, h3, h4, h5, h6, h7⟩ := ranked_parts h ho
  obtain ⟨f1, _, f2, _⟩ := folder_right h6
  have hl := right_len h
  rw [text_place ho] at hl
  have e : textM (folderU u) = placeM u ++ folder u.pa := by
    rw [text_place (u := folderU u) ho]
    show placeM u ++ (folder u.pa ++ []) = _
    rw [List.append_nil]
  unfold rightM
  rw [e]
  have hr : rankedM (folderU u) = true := by
    unfold rankedM folderU
    simp only [Bool.and_eq_true, decide_eq_true_eq]
    exact ⟨⟨⟨⟨⟨⟨h1, h2⟩, h3⟩, h4⟩, h5⟩, f1⟩, rfl⟩
  have ho2 : (folderU u).o = false := ho
  rw [ho2, hr]
  simp only [List.length_append] at hl ⊢
  simp only [Bool.false_eq_true, if_false, Bool.true_and, decide_eq_true_eq]
  omega
theorem join_folder {u : U} {r : List UInt8} (hk : kindM (trim r) = 6) (ho : u.o = false) (hr : rightM u = true) : joinM (folderU u) r = joinM u r ∧ joinE (folderU u) r = joinE u r := by
  obtain ⟨_, _, _, _, _, hpa, _⟩ := ranked_parts hr ho
  obtain ⟨_, f2, _⟩ := folder_right hpa
  obtain ⟨a1, a2⟩ := join_right (u := u) (r := r) (by omega) ho hr
  obtain ⟨b1, b2⟩ := join_right (u := folderU u) (r := r) (by omega) ho (folderU_right hr ho)
  rw [a1, a2, b1, b2]
  refine ⟨?_, rfl⟩
  congr 1
  unfold joinT
  rw [hk]
  show (placeM u ++ folder (folder u.pa)) ++ _ = (placeM u ++ folder u.pa) ++ _
  rw [f2]
theorem trim_blanks {a z : List UInt8} (l : List UInt8) (ha : ∀ b ∈ a, blk b = true) (hz : ∀ b ∈ z, blk b = true) : trim (a ++ l ++ z) = trim l := by
  obtain ⟨a', z', h, ha', hz'⟩ := trim_form l
  have e : a ++ l ++ z = (a ++ a') ++ trim l ++ (z' ++ z) := by
    conv => lhs; rw [h]
    simp
  rw [e]
  refine trim_unique (fun b hb => ?_) (fun b hb => ?_) (trim_ends l)
  · rcases List.mem_append.1 hb with hb | hb
    · exact ha b hb
    · exact ha' b hb
  · rcases List.mem_append.1 hb with hb | hb
    · exact hz' b hb
    · exact hz b hb
theorem join_blanks (u : U) (l : List UInt8) : joinM u ([32] ++ l ++ [10]) = joinM u l ∧ joinE u ([32] ++ l ++ [10]) = joinE u l := by
  have e : trim ([32] ++ l ++ [10]) = trim l := trim_blanks l (by simp; rfl) (by simp; rfl)
  have e2 : parseM ([32] ++ l ++ [10]) = parseM l := by unfold parseM; rw [e]
  unfold joinM joinE
  rw [e, e2]
  exact ⟨rfl, rfl⟩
/-- WHAT WAS JOINED, JOINED AGAIN. -/
theorem join_own {u v : U} (h : rightM v = true) : joinM u (textM v) = some v := by
  rw [(join_one (kind_text h)).1]
  exact parse_text h

end Go.Proofs.YtpmnpaopkncphaaGreatDoor
