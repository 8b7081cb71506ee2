/- The plain mathematics of fold: blanks, small letters, trimmed texts, words and parts, over lists of bytes. A text's words as its code points tell them: a blank is a code point below 128, and no code point of several bytes has one among its bytes. The plain mathematics of url: bytes, hosts, paths, addresses, their texts and what is parsed, over lists of bytes. The plain mathematics of url, further: what the document's own loops know; texts that are parsed alike; an address' text and its front. The plain mathematics of resolve: an address' text is parsed as it; what a text begins with; what is joined to an address. -/
import Derived.Lib.SlTrimSet
import Derived.Lib.Split
import Derived.Lib.DecodeN
import Derived.Lib.Bytealg
import Derived.Lib.ItoaNum
import Derived.Lib.Join
namespace Go.Proofs.YtaldjkbnngeahaaGreatDoor

def blk (b : UInt8) : Bool := [9, 10, 12, 13, 32].contains b
def lowB (b : UInt8) : UInt8 := if 65 ≤ b.toNat ∧ b.toNat ≤ 90 then b + 32 else b
def low (l : List UInt8) : List UInt8 := l.map lowB
def trim (l : List UInt8) : List UInt8 := Lib.trimS l [9, 10, 12, 13, 32]

/-- The segments between the bytes that p tells. -/
def cut (p : UInt8 → Bool) : List UInt8 → List (List UInt8)
  | [] => [[]]
  | b :: l => if p b then [] :: cut p l else
    match cut p l with
    | [] => [[b]]
    | h :: t => (b :: h) :: t
def words (l : List UInt8) : List (List UInt8) := (cut blk l).filter (fun w => !w.isEmpty)
def parts (l : List UInt8) (c : UInt8) : List (List UInt8) := (cut (· == c) l).map trim

theorem cut_ne (p : UInt8 → Bool) (l : List UInt8) : cut p l ≠ [] := by
  cases l with
  | nil => simp [cut]
  | cons b l =>
    unfold cut
    split
    · simp
    · split <;> simp
theorem cut_hit (p : UInt8 → Bool) (a : List UInt8) (c : UInt8) (r : List UInt8) (ha : ∀ b ∈ a, p b = false) (hc : p c = true) : cut p (a ++ c :: r) = a :: cut p r := by
  induction a with
  | nil => simp [cut, hc]
  | cons b a ih =>
    have hb := ha b (by simp)
    have := ih (fun x hx => ha x (by simp [hx]))
    simp only [List.cons_append, cut, hb, this, if_false, Bool.false_eq_true]
theorem cut_none (p : UInt8 → Bool) (a : List UInt8) (ha : ∀ b ∈ a, p b = false) : cut p a = [a] := by
  induction a with
  | nil => rfl
  | cons b a ih =>
    have hb := ha b (by simp)
    have := ih (fun x hx => ha x (by simp [hx]))
    simp only [cut, hb, this, if_false, Bool.false_eq_true]
theorem cut_length (p : UInt8 → Bool) (l : List UInt8) : (cut p l).length = l.countP p + 1 := by
  induction l with
  | nil => rfl
  | cons b l ih =>
    unfold cut
    cases hb : p b
    · simp only [Bool.false_eq_true, if_false]
      have hne := cut_ne p l
      split
      · contradiction
      · rename_i h t he
        rw [he] at ih
        simp only [List.length_cons] at ih ⊢
        rw [List.countP_cons_of_neg (by simp [hb])]
        exact ih
    · simp only [if_true, List.length_cons]
      rw [ih, List.countP_cons_of_pos hb]
theorem cut_mem (p : UInt8 → Bool) (l : List UInt8) : ∀ w ∈ cut p l, ∀ b ∈ w, p b = false := by
  induction l with
  | nil => intro w hw b hb; simp [cut] at hw; subst hw; cases hb
  | cons c l ih =>
    intro w hw b hb
    unfold cut at hw
    cases hc : p c
    · rw [if_neg (by simp [hc])] at hw
      have hne := cut_ne p l
      split at hw
      · contradiction
      · rename_i h t he
        rcases List.mem_cons.1 hw with rfl | hw
        · rcases List.mem_cons.1 hb with rfl | hb
          · exact hc
          · exact ih h (by rw [he]; simp) b hb
        · exact ih w (by rw [he]; simp [hw]) b hb
    · rw [if_pos hc] at hw
      rcases List.mem_cons.1 hw with rfl | hw
      · cases hb
      · exact ih w hw b hb
/-- How long the segments are together: at most the whole. -/
theorem cut_total (p : UInt8 → Bool) (l : List UInt8) : ((cut p l).map List.length).sum + l.countP p = l.length := by
  induction l with
  | nil => rfl
  | cons b l ih =>
    unfold cut
    cases hb : p b
    · simp only [Bool.false_eq_true, if_false]
      have hne := cut_ne p l
      split
      · contradiction
      · rename_i h t he
        rw [he] at ih
        rw [List.countP_cons_of_neg (by simp [hb])]
        simp only [List.map_cons, List.sum_cons, List.length_cons] at ih ⊢
        omega
    · simp only [if_true, List.length_cons, List.map_cons, List.sum_cons, List.length_nil]
      rw [List.countP_cons_of_pos hb]
      omega

/-! Words. -/
/-! Lower. -/
theorem lowB_lowB (b : UInt8) : lowB (lowB b) = lowB b := by
  unfold lowB
  by_cases h : 65 ≤ b.toNat ∧ b.toNat ≤ 90
  · rw [if_pos h, if_neg]
    rw [UInt8.toNat_add]
    simp
    omega
  · rw [if_neg h, if_neg h]
theorem low_low (l : List UInt8) : low (low l) = low l := by simp [low, lowB_lowB]
theorem low_length (l : List UInt8) : (low l).length = l.length := by simp [low]

/-! Trim. -/
theorem dropWhile_nil_or (p : UInt8 → Bool) (l : List UInt8) : l.dropWhile p = [] ∨ ∃ b t, l.dropWhile p = b :: t ∧ p b = false := by
  induction l with
  | nil => exact .inl rfl
  | cons b l ih =>
    rw [List.dropWhile_cons]
    cases hb : p b
    · exact .inr ⟨b, l, by simp, hb⟩
    · simpa using ih
/-- What a text without blanks at both ends looks like. -/
def Ends (l : List UInt8) : Prop := (∀ b t, l = b :: t → blk b = false) ∧ (∀ b t, l = t ++ [b] → blk b = false)
theorem dropWhile_suffix (p : UInt8 → Bool) (l : List UInt8) : ∃ a, l = a ++ l.dropWhile p ∧ ∀ b ∈ a, p b = true := by
  induction l with
  | nil => exact ⟨[], rfl, by simp⟩
  | cons b l ih =>
    rw [List.dropWhile_cons]
    cases hb : p b
    · exact ⟨[], by simp, by simp⟩
    · obtain ⟨a, ha, hb'⟩ := ih
      exact ⟨b :: a, by simpa using ha, fun x hx => by rcases List.mem_cons.1 hx with rfl | hx; exact hb; exact hb' x hx⟩
theorem trim_form (l : List UInt8) : ∃ a z, l = a ++ trim l ++ z ∧ (∀ b ∈ a, blk b = true) ∧ (∀ b ∈ z, blk b = true) := by
  unfold trim Lib.trimS
  obtain ⟨z, hz, hzb⟩ := dropWhile_suffix ([9, 10, 12, 13, 32].contains ·) l.reverse
  obtain ⟨a, ha, hab⟩ := dropWhile_suffix ([9, 10, 12, 13, 32].contains ·) (Lib.trimRightS l [9, 10, 12, 13, 32])
  refine ⟨a, z.reverse, ?_, hab, fun b hb => hzb b (by simpa using hb)⟩
  have h2 : l = Lib.trimRightS l [9, 10, 12, 13, 32] ++ z.reverse := by
    have := congrArg List.reverse hz
    simpa [Lib.trimRightS] using this
  unfold Lib.trimLeftS
  rw [← ha]
  exact h2
theorem trim_ends (l : List UInt8) : Ends (trim l) := by
  constructor
  · intro b t e
    unfold trim Lib.trimS at e
    rcases dropWhile_nil_or ([9, 10, 12, 13, 32].contains ·) (Lib.trimRightS l [9, 10, 12, 13, 32]) with h | ⟨b', t', h, hb⟩
    · unfold Lib.trimLeftS at e; rw [h] at e; cases e
    · unfold Lib.trimLeftS at e; rw [h] at e; cases e; exact hb
  · intro b t e
    unfold trim Lib.trimS at e
    obtain ⟨a, ha, _⟩ := dropWhile_suffix ([9, 10, 12, 13, 32].contains ·) (Lib.trimRightS l [9, 10, 12, 13, 32])
    have h2 : Lib.trimRightS l [9, 10, 12, 13, 32] = (a ++ t) ++ [b] := by rw [List.append_assoc, ← e]; exact ha
    unfold Lib.trimRightS at h2
    rcases dropWhile_nil_or ([9, 10, 12, 13, 32].contains ·) l.reverse with h | ⟨b', t', h, hb⟩
    · rw [h] at h2; simp at h2
    · rw [h] at h2
      have := congrArg List.reverse h2
      simp at this
      rw [← this.1]; exact hb
theorem trim_all_blank (l : List UInt8) (h : ∀ b ∈ l, blk b = true) : trim l = [] := by
  rcases hE : trim l with _ | ⟨b, t⟩
  · rfl
  · have h1 := (trim_ends l).1 b t hE
    obtain ⟨a, z, h2, _⟩ := trim_form l
    have hm : b ∈ l := by rw [h2, hE]; simp
    rw [h b hm] at h1; cases h1
theorem ends_unique {a m z a' m' z' : List UInt8} (h : a ++ m ++ z = a' ++ m' ++ z') (ha : ∀ b ∈ a, blk b = true) (hz : ∀ b ∈ z, blk b = true) (ha' : ∀ b ∈ a', blk b = true) (hz' : ∀ b ∈ z', blk b = true) (hm : Ends m) (hm' : Ends m') (hn : m ≠ []) (hn' : m' ≠ []) : m = m' := by
  have len : a.length = a'.length := by
    rcases Nat.lt_trichotomy a.length a'.length with h1 | h1 | h1
    · exfalso
      obtain ⟨b, t, rfl⟩ := List.exists_cons_of_ne_nil hn
      have e := congrArg (fun l : List UInt8 => l[a.length]?) h
      simp only [List.append_assoc] at e
      rw [List.getElem?_append_right (Nat.le_refl _), Nat.sub_self] at e
      rw [List.getElem?_append_left h1] at e
      simp at e
      have := ha' _ (List.mem_of_getElem? e.symm)
      rw [hm.1 b t rfl] at this; cases this
    · exact h1
    · exfalso
      obtain ⟨b, t, rfl⟩ := List.exists_cons_of_ne_nil hn'
      have e := congrArg (fun l : List UInt8 => l[a'.length]?) h
      simp only [List.append_assoc] at e
      rw [List.getElem?_append_left h1] at e
      rw [List.getElem?_append_right (Nat.le_refl _), Nat.sub_self] at e
      simp at e
      have := ha _ (List.mem_of_getElem? e)
      rw [hm'.1 b t rfl] at this; cases this
  simp only [List.append_assoc] at h
  obtain ⟨rfl, h2⟩ := List.append_inj h len
  have len2 : z.length = z'.length := by
    have hlen := congrArg List.length h2
    simp at hlen
    rcases Nat.lt_trichotomy m.length m'.length with h1 | h1 | h1
    · exfalso
      obtain ⟨t, b, rfl⟩ : ∃ t b, m' = t ++ [b] := ⟨m'.dropLast, m'.getLast hn', (List.dropLast_concat_getLast hn').symm⟩
      have e := congrArg (fun l : List UInt8 => l[t.length]?) h2
      simp only [List.append_assoc] at e
      rw [List.getElem?_append_right (by simp at h1; omega)] at e
      rw [List.getElem?_append_right (Nat.le_refl _), Nat.sub_self] at e
      simp at e
      have := hz _ (List.mem_of_getElem? e)
      rw [hm'.2 b t rfl] at this; cases this
    · omega
    · exfalso
      obtain ⟨t, b, rfl⟩ : ∃ t b, m = t ++ [b] := ⟨m.dropLast, m.getLast hn, (List.dropLast_concat_getLast hn).symm⟩
      have ht : m'.length ≤ t.length := by simp at h1; omega
      have e : (t ++ [b] ++ z)[t.length]? = (m' ++ z')[t.length]? := congrArg (fun l : List UInt8 => l[t.length]?) h2
      rw [List.getElem?_append_right ht, List.append_assoc, List.getElem?_append_right (Nat.le_refl _), Nat.sub_self] at e
      simp at e
      have := hz' _ (List.mem_of_getElem? e.symm)
      rw [hm.2 b t rfl] at this; cases this
  exact (List.append_inj' h2 len2).1
/-- What is trimmed is known by its shape. -/
theorem trim_unique {a m z : List UInt8} (ha : ∀ b ∈ a, blk b = true) (hz : ∀ b ∈ z, blk b = true) (hm : Ends m) : trim (a ++ m ++ z) = m := by
  obtain ⟨a', z', h, ha', hz'⟩ := trim_form (a ++ m ++ z)
  by_cases hn : m = []
  · subst hn
    refine trim_all_blank _ fun b hb => ?_
    simp at hb
    rcases hb with hb | hb
    · exact ha b hb
    · exact hz b hb
  · by_cases hn' : trim (a ++ m ++ z) = []
    · exfalso
      rw [hn'] at h
      obtain ⟨b, t, rfl⟩ := List.exists_cons_of_ne_nil hn
      have hb : b ∈ a' ++ [] ++ z' := by rw [← h]; simp
      simp at hb
      have := hm.1 b t rfl
      rcases hb with hb | hb
      · rw [ha' b hb] at this; cases this
      · rw [hz' b hb] at this; cases this
    · exact (ends_unique h ha hz ha' hz' hm (trim_ends _) hn hn').symm
/-- A range trimmed step by step from both ends. -/
theorem trim_range (l : List UInt8) (i j : Nat) (hij : i ≤ j) (hj : j ≤ l.length) (h1 : ∀ k, k < i → ∀ b, l[k]? = some b → blk b = true) (h2 : ∀ k, j ≤ k → ∀ b, l[k]? = some b → blk b = true) (h3 : i < j → ∀ b, l[i]? = some b → blk b = false) (h4 : i < j → ∀ b, l[j - 1]? = some b → blk b = false) : trim l = (l.take j).drop i := by
  have e : l = l.take i ++ (l.take j).drop i ++ l.drop j := by
    have : l.take i = (l.take j).take i := by rw [List.take_take]; congr 1; omega
    rw [this, List.take_append_drop, List.take_append_drop]
  have hlen : ((l.take j).drop i).length = j - i := by simp; omega
  rw [e]
  have := trim_unique (a := l.take i) (m := (l.take j).drop i) (z := l.drop j) (fun b hb => ?_) (fun b hb => ?_) ⟨fun b t hbt => ?_, fun b t hbt => ?_⟩
  · rw [← e] at this ⊢; exact this
  · obtain ⟨k, hk⟩ := List.mem_iff_getElem?.1 hb
    rw [List.getElem?_take] at hk
    split at hk
    · exact h1 k ‹_› b hk
    · cases hk
  · obtain ⟨k, hk⟩ := List.mem_iff_getElem?.1 hb
    rw [List.getElem?_drop] at hk
    exact h2 _ (by omega) b hk
  · have hl := congrArg List.length hbt
    rw [hlen] at hl; simp at hl
    have hk := congrArg (fun l : List UInt8 => l[0]?) hbt
    simp only [List.getElem?_drop, List.getElem?_take] at hk
    rw [if_pos (by omega)] at hk
    simp at hk
    exact h3 (by omega) b hk
  · have hl := congrArg List.length hbt
    rw [hlen] at hl; simp at hl
    have hk := congrArg (fun l : List UInt8 => l[t.length]?) hbt
    simp only [List.getElem?_drop, List.getElem?_take] at hk
    rw [if_pos (by omega)] at hk
    simp at hk
    exact h4 (by omega) b (by rw [← hk]; congr 1; omega)

/-! Parts. -/
/-- The parts joined by the byte. -/
def joined (c : UInt8) : List (List UInt8) → List UInt8
  | [] => []
  | [w] => w
  | w :: ws => w ++ c :: joined c ws
/-! Split. -/
theorem isPrefixOf_one (c b : UInt8) (l : List UInt8) : [c].isPrefixOf (b :: l) = (c == b) := by simp [List.isPrefixOf]
theorem index_one (l : List UInt8) (c : UInt8) : (Lib.index l [c] = -1 ∧ ∀ b ∈ l, (b == c) = false) ∨ ∃ a r, l = a ++ c :: r ∧ (∀ b ∈ a, (b == c) = false) ∧ Lib.index l [c] = a.length := by
  induction l with
  | nil => exact .inl ⟨rfl, by simp⟩
  | cons b l ih =>
    unfold Lib.index
    rw [isPrefixOf_one]
    cases hb : (c == b)
    · have hb' : (b == c) = false := by rw [Bool.eq_false_iff] at hb ⊢; intro h; exact hb (by rw [eq_of_beq h]; simp)
      simp only [Bool.false_eq_true, if_false]
      rcases ih with ⟨h1, h2⟩ | ⟨a, r, rfl, h2, h3⟩
      · left
        rw [h1]
        exact ⟨rfl, fun x hx => by rcases List.mem_cons.1 hx with rfl | hx; exact hb'; exact h2 x hx⟩
      · right
        refine ⟨b :: a, r, rfl, fun x hx => by rcases List.mem_cons.1 hx with rfl | hx; exact hb'; exact h2 x hx, ?_⟩
        rw [h3, if_neg (by simp)]
        rfl
    · right
      have hb' := eq_of_beq hb
      exact ⟨[], l, by simp [hb'], by simp, by simp⟩
theorem splitK_cut (c : UInt8) : ∀ (k : Nat) (l : List UInt8), l.countP (· == c) ≤ k → Lib.splitK [c] 0 k l = cut (· == c) l
  | 0, l, h => by
    have h0 : l.countP (· == c) = 0 := by omega
    rw [List.countP_eq_zero] at h0
    exact (cut_none _ l (fun b hb => by simpa using h0 b hb)).symm
  | k + 1, l, h => by
    unfold Lib.splitK
    rcases index_one l c with ⟨h1, h2⟩ | ⟨a, r, rfl, h2, h3⟩
    · rw [h1, cut_none _ l h2]; simp
    · rw [h3, if_neg (by simp), cut_hit _ a c r h2 (by simp)]
      have e1 : (a ++ c :: r).take ((a.length : Int).toNat + 0) = a := by simp
      have e2 : (a ++ c :: r).drop ((a.length : Int).toNat + [c].length) = r := by
        simp only [Int.toNat_natCast, List.length_cons, List.length_nil, Nat.zero_add]
        rw [List.drop_append]
        simp
      rw [e1, e2, splitK_cut c k r (by
        rw [List.countP_append, List.countP_cons_of_pos (by simp)] at h; omega)]

end Go.Proofs.YtaldjkbnngeahaaGreatDoor

namespace Go.Proofs.YtaldjkbnngeahaaGreatDoor

theorem get_of {s : ByteArray} {k : Nat} {b : UInt8} (h : s.data.toList[k]? = some b) : s.get! k = b ∧ k < s.size := by
  have hk := (List.getElem?_eq_some_iff.1 h).1
  rw [Array.length_toList] at hk
  refine ⟨?_, hk⟩
  rw [Array.getElem?_toList] at h
  simp [ByteArray.get!, Array.getElem!_eq_getD, Array.getD_eq_getD_getElem?, h]
theorem at_some {s : ByteArray} {k : Nat} (h : k < s.size) : ∃ b, s.data.toList[k]? = some b ∧ s.get! k = b ∧ s[k] = b := by
  refine ⟨s[k], ?_, ?_, rfl⟩
  · rw [Array.getElem?_toList]; exact Array.getElem?_eq_getElem h
  · exact (get_of (b := s[k]) (by rw [Array.getElem?_toList]; exact Array.getElem?_eq_getElem h)).1

theorem dec_ascii (s : ByteArray) (i : Nat) (h : (s.get! i).toNat < 128) : Utf8.decode s i = ((s.get! i).toNat, 1) := by
  rw [Lib.decode_at]; unfold Lib.decodeN; rw [if_pos h]

theorem dec_wide (s : ByteArray) (i : Nat) (hi : i < s.size) (h : ¬ (s.get! i).toNat < 128) :
    128 ≤ (Utf8.decode s i).1 ∧ 1 ≤ (Utf8.decode s i).2 ∧ i + (Utf8.decode s i).2 ≤ s.size ∧ ∀ k b, i ≤ k → k < i + (Utf8.decode s i).2 → s.data.toList[k]? = some b → 128 ≤ b.toNat := by
  have h0 : 128 ≤ (s.get! i).toNat := by omega
  rw [Lib.decode_at]
  have key : ∀ w r : Nat, 128 ≤ r → 1 ≤ w → i + w ≤ s.size → (∀ j, j < w → 128 ≤ (s.get! (i + j)).toNat) → 128 ≤ (r, w).1 ∧ 1 ≤ (r, w).2 ∧ i + (r, w).2 ≤ s.size ∧ ∀ k b, i ≤ k → k < i + (r, w).2 → s.data.toList[k]? = some b → 128 ≤ b.toNat := by
    intro w r hr hw hs hj
    refine ⟨hr, hw, hs, fun k b h1 h2 h3 => ?_⟩
    have := hj (k - i) (by show k - i < w; have : k < i + w := h2; omega)
    rw [show i + (k - i) = k by omega, (get_of h3).1] at this
    exact this
  have one : ∀ j, j < 1 → 128 ≤ (s.get! (i + j)).toNat := fun j hj => by obtain rfl : j = 0 := (by omega); exact h0
  unfold Lib.decodeN
  rw [if_neg h]
  split
  · rename_i h1
    split
    · exact key _ _ (by omega) (by omega) (by omega) fun j hj => by
        rcases (by omega : j = 0 ∨ j = 1) with rfl | rfl
        · exact h0
        · omega
    · exact key _ _ (by omega) (by omega) (by omega) one
  · split
    · rename_i h1
      split
      · exact key _ _ (by omega) (by omega) (by omega) fun j hj => by
          rcases (by omega : j = 0 ∨ j = 1 ∨ j = 2) with rfl | rfl | rfl
          · exact h0
          · omega
          · omega
      · exact key _ _ (by omega) (by omega) (by omega) one
    · split
      · rename_i h1
        split
        · exact key _ _ (by omega) (by omega) (by omega) fun j hj => by
            rcases (by omega : j = 0 ∨ j = 1 ∨ j = 2 ∨ j = 3) with rfl | rfl | rfl | rfl
            · exact h0
            · omega
            · omega
            · omega
        · exact key _ _ (by omega) (by omega) (by omega) one
      · exact key _ _ (by omega) (by omega) (by omega) one

/-- What the set's method answers of a code point. -/
def pr (x : Nat) : Bool := decide (x < 128) && blk x.toUInt8

/-- What has been read: the spans closed, and where the one that is open begins. -/
def pieces (l : List UInt8) (acc : List (Nat × Nat)) : List (List UInt8) := acc.map fun x => (l.drop x.1).take (x.2 - x.1)
structure Read (l : List UInt8) (pos : Nat) (st : Option Nat) (acc : List (Nat × Nat)) : Prop where
  sum : pieces l acc ++ words (l.drop (st.getD pos)) = words l
  open_ : ∀ a, st = some a → a < pos ∧ ∀ k b, a ≤ k → k < pos → l[k]? = some b → blk b = false
  spans : ∀ x ∈ acc, x.1 ≤ x.2 ∧ x.2 ≤ l.length
  few : acc.length ≤ pos
  le : pos ≤ l.length

theorem drop_cons {l : List UInt8} {k : Nat} {b : UInt8} (h : l[k]? = some b) : l.drop k = b :: l.drop (k + 1) := by
  have hk := (List.getElem?_eq_some_iff.1 h)
  rw [List.drop_eq_getElem_cons hk.1, hk.2]
theorem seg {l : List UInt8} {a pos : Nat} {b : UInt8} (ha : a ≤ pos) (hb : l[pos]? = some b) : l.drop a = (l.drop a).take (pos - a) ++ b :: l.drop (pos + 1) := by
  have e : l.drop pos = (l.drop a).drop (pos - a) := by rw [List.drop_drop]; congr 1; omega
  rw [← drop_cons hb, e, List.take_append_drop]
/-! The document's own loops, over places. -/
structure WordsTo (l : List UInt8) (fr i : Nat) (out : List (List UInt8)) : Prop where
  sum : out ++ words (l.drop fr) = words l
  open_ : ∀ k b, fr ≤ k → k < i → l[k]? = some b → blk b = false
  le : fr ≤ i
  few : out.length ≤ fr
structure PartsTo (l : List UInt8) (c : UInt8) (fr i : Nat) (out : List (List UInt8)) : Prop where
  sum : out ++ parts (l.drop fr) c = parts l c
  open_ : ∀ k b, fr ≤ k → k < i → l[k]? = some b → (b == c) = false
  le : fr ≤ i
  few : out.length ≤ fr
theorem take_low (l : List UInt8) (k : Nat) (b : UInt8) (h : l[k]? = some b) : (low l).take (k + 1) = (low l).take k ++ [lowB b] := by
  rw [List.take_add_one]
  unfold low
  rw [List.getElem?_map, h]; rfl

end Go.Proofs.YtaldjkbnngeahaaGreatDoor

namespace Go.Proofs.YtaldjkbnngeahaaGreatDoor

theorem list_snoc {α : Type} {m : List α → Prop} (nil : m []) (append_singleton : ∀ L p, m L → m (L ++ [p])) (L : List α) : m L := by
  have key : ∀ n (L : List α), L.length = n → m L := by
    intro n
    induction n with
    | zero => intro L h; rw [List.length_eq_zero_iff.1 h]; exact nil
    | succ n ih =>
      intro L h
      have hne : L ≠ [] := by intro e; rw [e] at h; cases h
      rw [← List.dropLast_concat_getLast hne]
      exact append_singleton _ _ (ih _ (by simp [h]))
  exact key _ L rfl

/-! Bytes. -/
def small (b : UInt8) : Bool := decide (97 ≤ b.toNat ∧ b.toNat ≤ 122)
def digit (b : UInt8) : Bool := decide (48 ≤ b.toNat ∧ b.toNat ≤ 57)
def nameB (b : UInt8) : Bool := small b || digit b || b == 45
def schB (b : UInt8) : Bool := small b || digit b || b == 43 || b == 45 || b == 46
def schM : List UInt8 → Bool
  | [] => false
  | b :: l => decide (l.length < 20) && small b && (b :: l).all schB
/-- Bytes from first to 126, none of those in except. -/
def inB (first : Nat) (except : List UInt8) (b : UInt8) : Bool := decide (first ≤ b.toNat ∧ b.toNat ≤ 126) && !except.contains b
def within (first : Nat) (except : List UInt8) (l : List UInt8) : Bool := l.all (inB first except)

def HTTP : List UInt8 := [104, 116, 116, 112]
def HTTPS : List UInt8 := [104, 116, 116, 112, 115]
def WS : List UInt8 := [119, 115]
def WSS : List UInt8 := [119, 115, 115]
def dfl (l : List UInt8) : Nat := if l = HTTP ∨ l = WS then 80 else if l = HTTPS ∨ l = WSS then 443 else 0
theorem dfl_sch {l : List UInt8} (h : dfl l ≠ 0) : schM l = true := by
  unfold dfl at h
  split at h
  · rename_i h1; rcases h1 with rfl | rfl <;> decide +kernel
  · split at h
    · rename_i h1; rcases h1 with rfl | rfl <;> decide +kernel
    · exact absurd rfl h

/-! Hosts. -/
def nameM (l : List UInt8) : Bool := !l.isEmpty && l.all nameB
def dot (b : UInt8) : Bool := b == 46
def hostM (l : List UInt8) : Bool := decide (l.length ≤ 100) && (cut dot l).all nameM
/-- The same, from byte to byte: was a point, or nothing, ahead? -/
def hostR : Bool → List UInt8 → Bool
  | p, [] => !p
  | p, b :: l => if dot b then !p && hostR true l else nameB b && hostR false l
theorem cut_cons (p : UInt8 → Bool) (b : UInt8) (l : List UInt8) : cut p (b :: l) = if p b then [] :: cut p l else ((b :: (cut p l).head (cut_ne p l)) :: (cut p l).tail) := by
  cases hb : p b
  · simp only [Bool.false_eq_true, if_false]
    conv => lhs; unfold cut
    rw [hb]
    obtain ⟨x, xs, hx⟩ : ∃ x xs, cut p l = x :: xs := List.exists_cons_of_ne_nil (cut_ne p l)
    simp [hx]
  · rw [if_pos rfl]
    exact cut_hit p [] b l (by simp) hb
theorem hostR_spec (l : List UInt8) : hostR true l = (cut dot l).all nameM ∧ hostR false l = (((cut dot l).head (cut_ne dot l)).all nameB && (cut dot l).tail.all nameM) := by
  induction l with
  | nil => exact ⟨rfl, rfl⟩
  | cons b l ih =>
    obtain ⟨h1, h2⟩ := ih
    have hc := cut_cons dot b l
    cases hb : dot b
    · rw [hb] at hc
      simp only [Bool.false_eq_true, if_false] at hc
      have e : hostR true (b :: l) = (nameB b && hostR false l) := by simp [hostR, hb]
      have e2 : hostR false (b :: l) = (nameB b && hostR false l) := by simp [hostR, hb]
      rw [e, e2, h2]
      constructor
      · rw [hc]; simp [nameM, Bool.and_assoc]
      · simp only [hc]; simp [Bool.and_assoc]
    · rw [hb, if_pos rfl] at hc
      have e : hostR true (b :: l) = false := by simp [hostR, hb]
      have e2 : hostR false (b :: l) = hostR true l := by simp [hostR, hb]
      rw [e, e2, h1]
      constructor
      · rw [hc]; simp [nameM]
      · simp only [hc]; simp
theorem hostM_R (l : List UInt8) : hostM l = (decide (l.length ≤ 100) && hostR true l) := by unfold hostM; rw [(hostR_spec l).1]

/-! Paths. -/
def sl (b : UInt8) : Bool := b == 47
def dots (p : List UInt8) : Bool := decide (p = [46] ∨ p = [46, 46])
def stepC (acc : List (List UInt8)) (p : List UInt8) : List (List UInt8) := if p = [46] then acc else if p = [46, 46] then acc.dropLast else acc ++ [p]
def taken (L : List (List UInt8)) : List (List UInt8) := L.foldl stepC []
def endC (L acc : List (List UInt8)) : List (List UInt8) := match L.getLast? with | some p => if dots p then acc ++ [[]] else acc | none => acc
def slashed (L : List (List UInt8)) : List UInt8 := L.flatMap (fun p => 47 :: p)
def outC (r : List UInt8) : List (List UInt8) := endC (cut sl r) (taken (cut sl r))
def cleanP : List UInt8 → List UInt8
  | [] => []
  | b :: r => if sl b then slashed (outC r) else []
theorem taken_snoc (L : List (List UInt8)) (p : List UInt8) : taken (L ++ [p]) = stepC (taken L) p := by simp [taken]
theorem dots_or {p : List UInt8} (h : dots p = true) : p = [46] ∨ p = [46, 46] := by simpa [dots] using h
theorem dots_not {p : List UInt8} (h : dots p = false) : p ≠ [46] ∧ p ≠ [46, 46] := by simpa [dots] using h
theorem stepC_not {acc : List (List UInt8)} {p : List UInt8} (h : dots p = false) : stepC acc p = acc ++ [p] := by
  obtain ⟨h1, h2⟩ := dots_not h
  unfold stepC; rw [if_neg h1, if_neg h2]
theorem stepC_mem {acc : List (List UInt8)} {p x : List UInt8} (h : x ∈ stepC acc p) : x ∈ acc ∨ (x = p ∧ dots p = false) := by
  cases hd : dots p
  · rw [stepC_not hd] at h; simp at h; rcases h with h | h; exact .inl h; exact .inr ⟨h, rfl⟩
  · rcases dots_or hd with rfl | rfl
    · unfold stepC at h; rw [if_pos rfl] at h; exact .inl h
    · unfold stepC at h; rw [if_neg (by decide), if_pos rfl] at h; exact .inl ((List.dropLast_sublist _).subset h)
theorem taken_mem (L : List (List UInt8)) : ∀ x ∈ taken L, x ∈ L ∧ dots x = false := by
  induction L using list_snoc with
  | nil => intro x hx; cases hx
  | append_singleton L p ih =>
    intro x hx
    rw [taken_snoc] at hx
    rcases stepC_mem hx with h | ⟨rfl, h⟩
    · exact ⟨by simp [(ih x h).1], (ih x h).2⟩
    · exact ⟨by simp, h⟩
/-- How many bytes the pieces have, each with a stroke. -/
def wt (L : List (List UInt8)) : Nat := (slashed L).length
theorem wt_snoc (L : List (List UInt8)) (p : List UInt8) : wt (L ++ [p]) = wt L + (p.length + 1) := by simp [wt, slashed]
theorem wt_dropLast (L : List (List UInt8)) : wt L.dropLast ≤ wt L := by
  induction L using list_snoc with
  | nil => exact Nat.le_refl _
  | append_singleton L p ih => rw [List.dropLast_concat, wt_snoc]; omega
theorem wt_step (acc : List (List UInt8)) (p : List UInt8) : wt (stepC acc p) ≤ wt acc + (if dots p then 0 else p.length + 1) := by
  cases hd : dots p
  · rw [stepC_not hd, wt_snoc]; simp
  · rcases dots_or hd with rfl | rfl
    · unfold stepC; rw [if_pos rfl]; simp
    · unfold stepC; rw [if_neg (by decide), if_pos rfl]; have := wt_dropLast acc; simpa using this
theorem wt_taken (L : List (List UInt8)) : wt (taken L) ≤ wt L := by
  induction L using list_snoc with
  | nil => exact Nat.le_refl _
  | append_singleton L p ih =>
    rw [taken_snoc, wt_snoc]
    have := wt_step (taken L) p
    split at this <;> omega
theorem endC_snoc (L acc : List (List UInt8)) (p : List UInt8) : endC (L ++ [p]) acc = if dots p then acc ++ [[]] else acc := by simp [endC]
theorem wt_end (L : List (List UInt8)) : wt (endC L (taken L)) ≤ wt L := by
  rcases List.eq_nil_or_concat L with rfl | ⟨L, p, rfl⟩
  · exact Nat.le_refl _
  · rw [List.concat_eq_append, endC_snoc, taken_snoc, wt_snoc]
    have h1 := wt_step (taken L) p
    have h2 := wt_taken L
    cases hd : dots p
    · rw [hd] at h1; simp at h1 ⊢; omega
    · rw [hd] at h1; simp only [if_true] at h1 ⊢
      rw [wt_snoc]
      rcases dots_or hd with rfl | rfl <;> simp at h1 ⊢ <;> omega
theorem wt_cut (l : List UInt8) : wt (cut sl l) = l.length + 1 := by
  have h1 := cut_total sl l
  have h2 := cut_length sl l
  have h3 : ∀ L : List (List UInt8), wt L = (L.map List.length).sum + L.length := fun L => by
    induction L with
    | nil => rfl
    | cons a L ih =>
      have : wt (a :: L) = (a.length + 1) + wt L := by simp [wt, slashed]; omega
      rw [this, ih]; simp; omega
  rw [h3]; omega
theorem cleanP_length (l : List UInt8) : (cleanP l).length ≤ l.length := by
  unfold cleanP
  split
  · exact Nat.le_refl _
  · rename_i b r
    split
    · have h1 := wt_end (cut sl r)
      rw [wt_cut] at h1
      exact h1
    · exact Nat.zero_le _
theorem outC_ne (r : List UInt8) : outC r ≠ [] := by
  unfold outC
  rcases List.eq_nil_or_concat (cut sl r) with h | ⟨L, p, h⟩
  · exact absurd h (cut_ne sl r)
  · rw [h, List.concat_eq_append, endC_snoc, taken_snoc]
    cases hd : dots p
    · rw [stepC_not hd]; simp
    · simp
theorem outC_mem (r : List UInt8) : ∀ x ∈ outC r, dots x = false ∧ ∀ b ∈ x, sl b = false := by
  unfold outC
  have ht := taken_mem (cut sl r)
  have hc := cut_mem sl r
  intro x hx
  have : x ∈ taken (cut sl r) ∨ x = [] := by
    unfold endC at hx
    split at hx
    · split at hx
      · simpa using hx
      · exact .inl hx
    · exact .inl hx
  rcases this with h | rfl
  · exact ⟨(ht x h).2, hc x (ht x h).1⟩
  · exact ⟨rfl, by simp⟩
theorem cut_slashed (x : List UInt8) (L : List (List UInt8)) (h : ∀ y ∈ x :: L, ∀ b ∈ y, sl b = false) : cut sl (x ++ slashed L) = x :: L := by
  induction L generalizing x with
  | nil => simp [slashed]; exact cut_none sl x (h x (by simp))
  | cons y L ih =>
    have e : x ++ slashed (y :: L) = x ++ 47 :: (y ++ slashed L) := by simp [slashed]
    rw [e, cut_hit sl x 47 _ (h x (by simp)) (by decide), ih y (fun z hz => h z (by simp [List.mem_cons.1 hz]))]
theorem taken_plain (L : List (List UInt8)) (h : ∀ x ∈ L, dots x = false) : taken L = L := by
  induction L using list_snoc with
  | nil => rfl
  | append_singleton L p ih => rw [taken_snoc, ih (fun x hx => h x (by simp [hx])), stepC_not (h p (by simp))]
theorem endC_plain (L acc : List (List UInt8)) (h : ∀ x ∈ L, dots x = false) : endC L acc = acc := by
  rcases List.eq_nil_or_concat L with rfl | ⟨M, p, rfl⟩
  · rfl
  · rw [List.concat_eq_append, endC_snoc, h p (by simp)]; rfl
theorem slashed_cut (r : List UInt8) : slashed (cut sl r) = 47 :: r := by
  induction r with
  | nil => rfl
  | cons b r ih =>
    rw [cut_cons]
    cases hb : sl b
    · simp only [Bool.false_eq_true, if_false]
      obtain ⟨x, xs, hx⟩ : ∃ x xs, cut sl r = x :: xs := List.exists_cons_of_ne_nil (cut_ne sl r)
      rw [hx] at ih
      simp only [hx, List.head_cons, List.tail_cons]
      simp [slashed] at ih ⊢
      exact ih
    · rw [if_pos rfl]
      have e : b = 47 := by simpa [sl] using hb
      simp only [slashed, List.flatMap_cons] at ih ⊢
      rw [ih, e]; rfl
theorem cleanP_plain (r : List UInt8) (h : ∀ x ∈ cut sl r, dots x = false) : cleanP (47 :: r) = 47 :: r := by
  show slashed (outC r) = _
  unfold outC
  rw [taken_plain _ h, endC_plain _ _ h, slashed_cut]
theorem slashed_cons (x : List UInt8) (L : List (List UInt8)) : slashed (x :: L) = 47 :: (x ++ slashed L) := by simp [slashed]
/-- A path is clean just if it is what it is cleaned. -/
theorem clean_iff (r : List UInt8) : cleanP (47 :: r) = 47 :: r ↔ ∀ x ∈ cut sl r, dots x = false := by
  constructor
  · intro h
    have e : slashed (outC r) = 47 :: r := h
    have hm := outC_mem r
    obtain ⟨x, L, hx⟩ := List.exists_cons_of_ne_nil (outC_ne r)
    rw [hx] at hm e
    rw [slashed_cons] at e
    have e2 : x ++ slashed L = r := by simpa using e
    rw [← e2, cut_slashed x L (fun y hy => (hm y hy).2)]
    exact fun y hy => (hm y hy).1
  · exact cleanP_plain r
def pathM (l : List UInt8) : Bool := !l.isEmpty && within 33 [63, 35] l && decide (cleanP l = l)

/-! Addresses. -/
structure U where
  o : Bool
  s : List UInt8
  h : List UInt8
  p : Int
  pa : List UInt8
  q : List UInt8
  deriving DecidableEq
def U.none : U := ⟨false, [], [], 0, [], []⟩
def queryM (l : List UInt8) : Bool := l.isEmpty || (l.head? == some 63 && within 33 [35] l)
def portT (p : Int) : List UInt8 := if p = 0 then [] else 58 :: Lib.decDigits p.toNat
def textM (u : U) : List UInt8 := if u.o then u.s ++ 58 :: u.pa else u.s ++ 58 :: 47 :: 47 :: (u.h ++ (portT u.p ++ (u.pa ++ u.q)))
def rankedM (u : U) : Bool := decide (dfl u.s ≠ 0) && hostM u.h && decide (0 ≤ u.p) && decide (u.p ≤ 65535) && decide (u.p ≠ (dfl u.s : Int)) && pathM u.pa && queryM u.q
def opaqueM (u : U) : Bool := schM u.s && decide (dfl u.s = 0) && u.h.isEmpty && decide (u.p = 0) && u.q.isEmpty && within 32 [35] u.pa && decide (trim u.pa = u.pa)
def rightM (u : U) : Bool := (if u.o then opaqueM u else rankedM u) && decide ((textM u).length ≤ 500)

/-! What is parsed. -/
def upto (p : UInt8 → Bool) (l : List UInt8) : List UInt8 := l.takeWhile (fun b => !p b)
def past (p : UInt8 → Bool) (l : List UInt8) : List UInt8 := l.dropWhile (fun b => !p b)
theorem upto_past (p : UInt8 → Bool) (l : List UInt8) : upto p l ++ past p l = l := List.takeWhile_append_dropWhile
def isC (c : UInt8) (b : UInt8) : Bool := b == c
def numV (l : List UInt8) : Nat := l.foldl (fun n b => n * 10 + (b.toNat - 48)) 0
def numM (l : List UInt8) : Option Nat := if l = [] ∨ 5 < l.length ∨ l.all digit = false then none else some (numV l)
end Go.Proofs.YtaldjkbnngeahaaGreatDoor

namespace Go.Proofs.YtaldjkbnngeahaaGreatDoor

/-! Up to, and from there. -/
theorem past_none (p : UInt8 → Bool) (l : List UInt8) (h : ∀ b ∈ l, p b = false) : upto p l = l ∧ past p l = [] := by
  induction l with
  | nil => exact ⟨rfl, rfl⟩
  | cons b l ih =>
    have hb := h b (by simp)
    obtain ⟨h1, h2⟩ := ih (fun x hx => h x (by simp [hx]))
    unfold upto past at *
    rw [List.takeWhile_cons, List.dropWhile_cons, hb]
    simp [h1, h2]
theorem past_hit (p : UInt8 → Bool) (a : List UInt8) (c : UInt8) (r : List UInt8) (ha : ∀ b ∈ a, p b = false) (hc : p c = true) : upto p (a ++ c :: r) = a ∧ past p (a ++ c :: r) = c :: r := by
  induction a with
  | nil =>
    unfold upto past
    rw [List.nil_append, List.takeWhile_cons, List.dropWhile_cons, hc]; simp
  | cons b a ih =>
    have hb := ha b (by simp)
    obtain ⟨h1, h2⟩ := ih (fun x hx => ha x (by simp [hx]))
    unfold upto past at *
    rw [List.cons_append, List.takeWhile_cons, List.dropWhile_cons, hb]
    simp [h1, h2]
theorem upto_length (p : UInt8 → Bool) (l : List UInt8) : (upto p l).length + (past p l).length = l.length := by
  have := congrArg List.length (upto_past p l)
  rw [List.length_append] at this; exact this
theorem past_head (p : UInt8 → Bool) (l : List UInt8) (c : UInt8) (r : List UInt8) (h : past p l = c :: r) : p c = true := by
  induction l with
  | nil => cases h
  | cons b l ih =>
    unfold past at h ih
    rw [List.dropWhile_cons] at h
    cases hb : p b
    · rw [hb] at h; simp at h; exact ih h
    · rw [hb] at h; simp at h; rw [← h.1]; exact hb
theorem upto_no (p : UInt8 → Bool) (l : List UInt8) : ∀ b ∈ upto p l, p b = false := by
  induction l with
  | nil => intro b hb; cases hb
  | cons c l ih =>
    intro b hb
    unfold upto at hb ih
    rw [List.takeWhile_cons] at hb
    cases hc : p c
    · rw [hc] at hb
      simp at hb
      rcases hb with rfl | hb
      · exact hc
      · exact ih b (by simpa using hb)
    · rw [hc] at hb; simp at hb
/-! The document's pieces. -/
structure CutTo (p : UInt8 → Bool) (l : List UInt8) (fr i : Nat) (out : List (List UInt8)) : Prop where
  sum : out ++ cut p (l.drop fr) = cut p (l.drop 1)
  open_ : ∀ k b, fr ≤ k → k < i → l[k]? = some b → p b = false
  le : fr ≤ i
  few : out.length < fr
theorem cutTo_start (p : UInt8 → Bool) (l : List UInt8) : CutTo p l 1 1 [] := ⟨rfl, fun k b h1 h2 => by omega, Nat.le_refl _, Nat.zero_lt_one⟩
theorem cutTo_in {p : UInt8 → Bool} {l : List UInt8} {fr i : Nat} {b : UInt8} {out : List (List UInt8)} (h : CutTo p l fr i out) (hb : l[i]? = some b) (hbl : p b = false) : CutTo p l fr (i + 1) out := by
  refine ⟨h.sum, fun k b' k1 k2 hk => ?_, by have := h.le; omega, h.few⟩
  by_cases hp : k < i
  · exact h.open_ k b' k1 hp hk
  · obtain rfl : k = i := by omega
    rw [hb] at hk; cases hk; exact hbl
theorem cseg_no {p : UInt8 → Bool} {l : List UInt8} {a pos : Nat} (h : ∀ k b, a ≤ k → k < pos → l[k]? = some b → p b = false) : ∀ b ∈ (l.drop a).take (pos - a), p b = false := by
  intro b hb
  obtain ⟨k, hk⟩ := List.mem_iff_getElem?.1 hb
  rw [List.getElem?_take] at hk
  split at hk
  · rw [List.getElem?_drop] at hk
    exact h (a + k) b (by omega) (by omega) hk
  · cases hk
theorem cutTo_hit {p : UInt8 → Bool} {l : List UInt8} {fr i : Nat} {b : UInt8} {out : List (List UInt8)} (h : CutTo p l fr i out) (hb : l[i]? = some b) (hbl : p b = true) : CutTo p l (i + 1) (i + 1) (out ++ [(l.drop fr).take (i - fr)]) := by
  refine ⟨?_, fun k b' k1 k2 => by omega, Nat.le_refl _, by have := h.few; have := h.le; simp; omega⟩
  have hs := h.sum
  rw [seg h.le hb, cut_hit p _ b _ (cseg_no h.open_) hbl] at hs
  rw [← hs]; simp
theorem cutTo_end {p : UInt8 → Bool} {l : List UInt8} {fr : Nat} {out : List (List UInt8)} (h : CutTo p l fr l.length out) : out ++ [(l.drop fr).take (l.length - fr)] = cut p (l.drop 1) := by
  have hs := h.sum
  have e : l.drop fr = (l.drop fr).take (l.length - fr) := by rw [List.take_of_length_le (by simp)]
  rw [e, cut_none p _ (cseg_no h.open_)] at hs
  exact hs

/-! The document's clean: in one go. -/
theorem taken_length (L : List (List UInt8)) : (taken L).length ≤ L.length := by
  induction L using list_snoc with
  | nil => exact Nat.le_refl _
  | append_singleton L p ih =>
    rw [taken_snoc, List.length_append]
    have : (stepC (taken L) p).length ≤ (taken L).length + 1 := by
      unfold stepC
      split
      · omega
      · split
        · rw [List.length_dropLast]; omega
        · simp
    simp; omega
theorem slashed_join (x : List UInt8) (L : List (List UInt8)) : 47 :: Lib.join (x :: L) [47] = slashed (x :: L) := by
  induction L generalizing x with
  | nil => simp [Lib.join, slashed, List.intercalate]
  | cons y L ih =>
    have := ih y
    rw [slashed_cons, ← this]
    simp [Lib.join, List.intercalate]

/-! What is right. -/
theorem right_len {u : U} (h : rightM u = true) : (textM u).length ≤ 500 := by
  unfold rightM at h; simp at h; exact h.2
theorem right_lens {u : U} (h : rightM u = true) : u.s.length ≤ 500 ∧ u.h.length ≤ 500 ∧ u.pa.length ≤ 500 ∧ u.q.length ≤ 500 := by
  have h1 := right_len h
  unfold rightM at h
  cases ho : u.o
  · unfold textM at h1
    rw [ho] at h1
    simp only [Bool.false_eq_true, if_false, List.length_append, List.length_cons] at h1
    omega
  · rw [ho] at h
    unfold textM at h1
    rw [ho] at h1
    simp only [if_true, List.length_append, List.length_cons] at h1
    simp only [if_true, opaqueM, Bool.and_eq_true, List.isEmpty_iff, decide_eq_true_eq] at h
    obtain ⟨⟨⟨⟨⟨⟨⟨h2, h3⟩, h4⟩, h5⟩, h6⟩, _⟩, _⟩, _⟩ := h
    rw [h4, h6]
    simp
    omega
theorem right_sch {u : U} (h : rightM u = true) : schM u.s = true := by
  unfold rightM at h
  cases ho : u.o
  · rw [ho] at h
    simp only [Bool.false_eq_true, if_false, rankedM, Bool.and_eq_true, decide_eq_true_eq] at h
    exact dfl_sch h.1.1.1.1.1.1.1
  · rw [ho] at h
    simp only [if_true, opaqueM, Bool.and_eq_true] at h
    exact h.1.1.1.1.1.1.1
/-! What is parsed. -/
end Go.Proofs.YtaldjkbnngeahaaGreatDoor

namespace Go.Proofs.YtaldjkbnngeahaaGreatDoor

/-! Bytes, one by one. -/
theorem byte_all {p : UInt8 → Prop} (h : ∀ n : Fin 256, p (UInt8.ofNat n.val)) (b : UInt8) : p b := by
  have := h ⟨b.toNat, b.toNat_lt⟩
  simpa using this
theorem schM_cons {b : UInt8} {l : List UInt8} : schM (b :: l) = (decide (l.length < 20) && small b && (b :: l).all schB) := rfl
theorem hostR_mem {l : List UInt8} : ∀ {p : Bool}, hostR p l = true → ∀ b ∈ l, (nameB b || dot b) = true := by
  induction l with
  | nil => intro p _ b hb; cases hb
  | cons c l ih =>
    intro p h b hb
    unfold hostR at h
    cases hd : dot c
    · rw [hd] at h
      simp only [Bool.false_eq_true, if_false, Bool.and_eq_true] at h
      rcases List.mem_cons.1 hb with rfl | hb
      · rw [h.1]; rfl
      · exact ih h.2 b hb
    · rw [hd] at h
      simp only [if_true, Bool.and_eq_true] at h
      rcases List.mem_cons.1 hb with rfl | hb
      · rw [hd, Bool.or_true]
      · exact ih h.2 b hb
theorem hostM_mem {l : List UInt8} (h : hostM l = true) : ∀ b ∈ l, (nameB b || dot b) = true := by
  rw [hostM_R, Bool.and_eq_true] at h
  exact hostR_mem h.2

/-! Numerals. -/
/-! Up to, behind a front that has none. -/
theorem upto_append {p : UInt8 → Bool} {a : List UInt8} (r : List UInt8) (h : ∀ b ∈ a, p b = false) : upto p (a ++ r) = a ++ upto p r ∧ past p (a ++ r) = past p r := by
  induction a with
  | nil => exact ⟨rfl, rfl⟩
  | cons c a ih =>
    have hc := h c (by simp)
    obtain ⟨h1, h2⟩ := ih (fun x hx => h x (by simp [hx]))
    unfold upto past at *
    rw [List.cons_append, List.takeWhile_cons, List.dropWhile_cons, hc]
    simp [h1, h2]
theorem upto_stop {p : UInt8 → Bool} {c : UInt8} (r : List UInt8) (h : p c = true) : upto p (c :: r) = [] ∧ past p (c :: r) = c :: r := past_hit p [] c r (by simp) h
theorem upto_step {p : UInt8 → Bool} {c : UInt8} (r : List UInt8) (h : p c = false) : upto p (c :: r) = c :: upto p r ∧ past p (c :: r) = past p r := by
  have := upto_append (p := p) (a := [c]) r (by simpa using h)
  exact this

/-! What is right. -/
/-! An address' text, without its path and query. -/
/-! Trimming: a front without blanks at its beginning, and a stroke. -/
/-! An address' own text. -/
/-! What a text begins with. -/
/-! A path up to its last stroke. -/
/-! What is joined. -/
end Go.Proofs.YtaldjkbnngeahaaGreatDoor
