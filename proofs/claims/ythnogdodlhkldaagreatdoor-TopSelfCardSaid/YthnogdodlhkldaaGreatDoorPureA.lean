/- The plain mathematics of fold: blanks, small letters, trimmed texts, words and parts, over lists of bytes. A text's words as its code points tell them: a blank is a code point below 128, and no code point of several bytes has one among its bytes. The plain mathematics of url: bytes, hosts, paths, addresses, their texts and what is parsed, over lists of bytes. The plain mathematics of url, further: what the document's own loops know; texts that are parsed alike; an address' text and its front. The plain mathematics of resolve: an address' text is parsed as it; what a text begins with; what is joined to an address. Bits as plain mathematics: a number's bits, the number of bits, bits in groups; what is encoded. What is decoded; what is encoded is decoded, and the other way round. The plain mathematics of source: sources, their words and what is parsed, over lists of bytes; a source's word is parsed as it. The plain mathematics of the program's Parse of a source: what is cut off a word, and that it is the source that the word tells. A source's word is short. The plain mathematics of origin: where an address comes from, over lists of bytes. Marks as plain mathematics: two numbers off a list of bytes, four bytes of a number, the sixteen bytes. The plain mathematics of match: whether a source lets an address be, over lists of bytes, and what the seven statements want of it. The plain mathematics of allow: what a list of sources lets be, over lists of bytes, and what the seven statements want of it. The plain mathematics of header: directives, policies, their texts and what is parsed, over lists of bytes. The plain mathematics of chain: what policies say of a request, over lists; what the statements of layer 12 want of it. -/
import Derived.Lib.SlTrimSet
import Derived.Lib.Split
import Derived.Lib.DecodeN
import Derived.Lib.Bytealg
import Derived.Lib.ItoaNum
import Derived.Lib.Join
import Derived.Lib.TrimByte
import Derived.Lib.Repeat
namespace Go.Proofs.YthnogdodlhkldaaGreatDoor

def blk (b : UInt8) : Bool := [9, 10, 12, 13, 32].contains b
def lowB (b : UInt8) : UInt8 := if 65 ≤ b.toNat ∧ b.toNat ≤ 90 then b + 32 else b
def low (l : List UInt8) : List UInt8 := l.map lowB
def trim (l : List UInt8) : List UInt8 := Lib.trimS l [9, 10, 12, 13, 32]

/-- The segments between the bytes that p tells. -/
def cut (p : UInt8 → Bool) : List UInt8 → List (List UInt8)
  | [] => [[]]
  | b :: l => if p b then [] :: cut p l else
    match cut p l with
    | [] => [[b]]
    | h :: t => (b :: h) :: t
def words (l : List UInt8) : List (List UInt8) := (cut blk l).filter (fun w => !w.isEmpty)
def parts (l : List UInt8) (c : UInt8) : List (List UInt8) := (cut (· == c) l).map trim

theorem cut_ne (p : UInt8 → Bool) (l : List UInt8) : cut p l ≠ [] := by
  cases l with
  | nil => simp [cut]
  | cons b l =>
    unfold cut
    split
    · simp
    · split <;> simp
theorem cut_hit (p : UInt8 → Bool) (a : List UInt8) (c : UInt8) (r : List UInt8) (ha : ∀ b ∈ a, p b = false) (hc : p c = true) : cut p (a ++ c :: r) = a :: cut p r := by
  induction a with
  | nil => simp [cut, hc]
  | cons b a ih =>
    have hb := ha b (by simp)
    have := ih (fun x hx => ha x (by simp [hx]))
    simp only [List.cons_append, cut, hb, this, if_false, Bool.false_eq_true]
theorem cut_none (p : UInt8 → Bool) (a : List UInt8) (ha : ∀ b ∈ a, p b = false) : cut p a = [a] := by
  induction a with
  | nil => rfl
  | cons b a ih =>
    have hb := ha b (by simp)
    have := ih (fun x hx => ha x (by simp [hx]))
    simp only [cut, hb, this, if_false, Bool.false_eq_true]
theorem cut_length (p : UInt8 → Bool) (l : List UInt8) : (cut p l).length = l.countP p + 1 := by
  induction l with
  | nil => rfl
  | cons b l ih =>
    unfold cut
    cases hb : p b
    · simp only [Bool.false_eq_true, if_false]
      have hne := cut_ne p l
      split
      · contradiction
      · rename_i h t he
        rw [he] at ih
        simp only [List.length_cons] at ih ⊢
        rw [List.countP_cons_of_neg (by simp [hb])]
        exact ih
    · simp only [if_true, List.length_cons]
      rw [ih, List.countP_cons_of_pos hb]
theorem cut_mem (p : UInt8 → Bool) (l : List UInt8) : ∀ w ∈ cut p l, ∀ b ∈ w, p b = false := by
  induction l with
  | nil => intro w hw b hb; simp [cut] at hw; subst hw; cases hb
  | cons c l ih =>
    intro w hw b hb
    unfold cut at hw
    cases hc : p c
    · rw [if_neg (by simp [hc])] at hw
      have hne := cut_ne p l
      split at hw
      · contradiction
      · rename_i h t he
        rcases List.mem_cons.1 hw with rfl | hw
        · rcases List.mem_cons.1 hb with rfl | hb
          · exact hc
          · exact ih h (by rw [he]; simp) b hb
        · exact ih w (by rw [he]; simp [hw]) b hb
    · rw [if_pos hc] at hw
      rcases List.mem_cons.1 hw with rfl | hw
      · cases hb
      · exact ih w hw b hb
/-- How long the segments are together: at most the whole. -/
theorem cut_total (p : UInt8 → Bool) (l : List UInt8) : ((cut p l).map List.length).sum + l.countP p = l.length := by
  induction l with
  | nil => rfl
  | cons b l ih =>
    unfold cut
    cases hb : p b
    · simp only [Bool.false_eq_true, if_false]
      have hne := cut_ne p l
      split
      · contradiction
      · rename_i h t he
        rw [he] at ih
        rw [List.countP_cons_of_neg (by simp [hb])]
        simp only [List.map_cons, List.sum_cons, List.length_cons] at ih ⊢
        omega
    · simp only [if_true, List.length_cons, List.map_cons, List.sum_cons, List.length_nil]
      rw [List.countP_cons_of_pos hb]
      omega

/-! Words. -/
theorem words_hit (a : List UInt8) (c : UInt8) (r : List UInt8) (ha : ∀ b ∈ a, blk b = false) (hc : blk c = true) (h0 : a ≠ []) : words (a ++ c :: r) = a :: words r := by
  unfold words
  rw [cut_hit blk a c r ha hc, List.filter_cons, if_pos (by cases a <;> simp_all)]
theorem words_skip (c : UInt8) (r : List UInt8) (hc : blk c = true) : words (c :: r) = words r := by
  unfold words
  have := cut_hit blk [] c r (by simp) hc
  rw [List.nil_append] at this
  rw [this, List.filter_cons, if_neg (by simp)]
theorem words_last (a : List UInt8) (ha : ∀ b ∈ a, blk b = false) (h0 : a ≠ []) : words a = [a] := by
  unfold words
  rw [cut_none blk a ha, List.filter_cons, if_pos (by cases a <;> simp_all)]
  rfl
theorem words_nil : words [] = [] := rfl
theorem words_mem (l : List UInt8) : ∀ w ∈ words l, w ≠ [] ∧ ∀ b ∈ w, blk b = false := by
  intro w hw
  unfold words at hw
  rw [List.mem_filter] at hw
  refine ⟨by cases w <;> simp_all, cut_mem blk l w hw.1⟩
theorem sum_filter_le (L : List (List UInt8)) (p : List UInt8 → Bool) : ((L.filter p).map List.length).sum ≤ (L.map List.length).sum := by
  induction L with
  | nil => simp
  | cons a L ih =>
    rw [List.filter_cons]
    split <;> simp <;> omega
theorem length_le_sum (L : List (List UInt8)) (h : ∀ w ∈ L, w ≠ []) : L.length ≤ (L.map List.length).sum := by
  induction L with
  | nil => simp
  | cons a L ih =>
    have h1 := h a (by simp)
    have h2 := ih (fun w hw => h w (by simp [hw]))
    have h3 : 0 < a.length := List.length_pos_iff.2 h1
    simp only [List.length_cons, List.map_cons, List.sum_cons]; omega
theorem words_total (l : List UInt8) : ((words l).map List.length).sum ≤ l.length ∧ (words l).length ≤ l.length := by
  have h1 := sum_filter_le (cut blk l) (fun w => !w.isEmpty)
  have h2 := cut_total blk l
  have h3 := length_le_sum (words l) (fun w hw => (words_mem l w hw).1)
  have h4 : words l = (cut blk l).filter (fun w => !w.isEmpty) := rfl
  rw [← h4] at h1
  omega

/-! Lower. -/
theorem lowB_lowB (b : UInt8) : lowB (lowB b) = lowB b := by
  unfold lowB
  by_cases h : 65 ≤ b.toNat ∧ b.toNat ≤ 90
  · rw [if_pos h, if_neg]
    rw [UInt8.toNat_add]
    simp
    omega
  · rw [if_neg h, if_neg h]
theorem low_low (l : List UInt8) : low (low l) = low l := by simp [low, lowB_lowB]
theorem low_length (l : List UInt8) : (low l).length = l.length := by simp [low]

/-! Trim. -/
theorem dropWhile_suffix (p : UInt8 → Bool) (l : List UInt8) : ∃ a, l = a ++ l.dropWhile p ∧ ∀ b ∈ a, p b = true := by
  induction l with
  | nil => exact ⟨[], rfl, by simp⟩
  | cons b l ih =>
    rw [List.dropWhile_cons]
    cases hb : p b
    · exact ⟨[], by simp, by simp⟩
    · obtain ⟨a, ha, hb'⟩ := ih
      exact ⟨b :: a, by simpa using ha, fun x hx => by rcases List.mem_cons.1 hx with rfl | hx; exact hb; exact hb' x hx⟩
theorem trim_form (l : List UInt8) : ∃ a z, l = a ++ trim l ++ z ∧ (∀ b ∈ a, blk b = true) ∧ (∀ b ∈ z, blk b = true) := by
  unfold trim Lib.trimS
  obtain ⟨z, hz, hzb⟩ := dropWhile_suffix ([9, 10, 12, 13, 32].contains ·) l.reverse
  obtain ⟨a, ha, hab⟩ := dropWhile_suffix ([9, 10, 12, 13, 32].contains ·) (Lib.trimRightS l [9, 10, 12, 13, 32])
  refine ⟨a, z.reverse, ?_, hab, fun b hb => hzb b (by simpa using hb)⟩
  have h2 : l = Lib.trimRightS l [9, 10, 12, 13, 32] ++ z.reverse := by
    have := congrArg List.reverse hz
    simpa [Lib.trimRightS] using this
  unfold Lib.trimLeftS
  rw [← ha]
  exact h2
theorem trim_length (l : List UInt8) : (trim l).length ≤ l.length := by
  obtain ⟨a, z, h, _⟩ := trim_form l
  have := congrArg List.length h
  simp at this; omega
/-! Parts. -/
/-- The parts joined by the byte. -/
def joined (c : UInt8) : List (List UInt8) → List UInt8
  | [] => []
  | [w] => w
  | w :: ws => w ++ c :: joined c ws
/-! Split. -/
theorem isPrefixOf_one (c b : UInt8) (l : List UInt8) : [c].isPrefixOf (b :: l) = (c == b) := by simp [List.isPrefixOf]
theorem index_one (l : List UInt8) (c : UInt8) : (Lib.index l [c] = -1 ∧ ∀ b ∈ l, (b == c) = false) ∨ ∃ a r, l = a ++ c :: r ∧ (∀ b ∈ a, (b == c) = false) ∧ Lib.index l [c] = a.length := by
  induction l with
  | nil => exact .inl ⟨rfl, by simp⟩
  | cons b l ih =>
    unfold Lib.index
    rw [isPrefixOf_one]
    cases hb : (c == b)
    · have hb' : (b == c) = false := by rw [Bool.eq_false_iff] at hb ⊢; intro h; exact hb (by rw [eq_of_beq h]; simp)
      simp only [Bool.false_eq_true, if_false]
      rcases ih with ⟨h1, h2⟩ | ⟨a, r, rfl, h2, h3⟩
      · left
        rw [h1]
        exact ⟨rfl, fun x hx => by rcases List.mem_cons.1 hx with rfl | hx; exact hb'; exact h2 x hx⟩
      · right
        refine ⟨b :: a, r, rfl, fun x hx => by rcases List.mem_cons.1 hx with rfl | hx; exact hb'; exact h2 x hx, ?_⟩
        rw [h3, if_neg (by simp)]
        rfl
    · right
      have hb' := eq_of_beq hb
      exact ⟨[], l, by simp [hb'], by simp, by simp⟩
theorem splitK_cut (c : UInt8) : ∀ (k : Nat) (l : List UInt8), l.countP (· == c) ≤ k → Lib.splitK [c] 0 k l = cut (· == c) l
  | 0, l, h => by
    have h0 : l.countP (· == c) = 0 := by omega
    rw [List.countP_eq_zero] at h0
    exact (cut_none _ l (fun b hb => by simpa using h0 b hb)).symm
  | k + 1, l, h => by
    unfold Lib.splitK
    rcases index_one l c with ⟨h1, h2⟩ | ⟨a, r, rfl, h2, h3⟩
    · rw [h1, cut_none _ l h2]; simp
    · rw [h3, if_neg (by simp), cut_hit _ a c r h2 (by simp)]
      have e1 : (a ++ c :: r).take ((a.length : Int).toNat + 0) = a := by simp
      have e2 : (a ++ c :: r).drop ((a.length : Int).toNat + [c].length) = r := by
        simp only [Int.toNat_natCast, List.length_cons, List.length_nil, Nat.zero_add]
        rw [List.drop_append]
        simp
      rw [e1, e2, splitK_cut c k r (by
        rw [List.countP_append, List.countP_cons_of_pos (by simp)] at h; omega)]

end Go.Proofs.YthnogdodlhkldaaGreatDoor

namespace Go.Proofs.YthnogdodlhkldaaGreatDoor

theorem get_of {s : ByteArray} {k : Nat} {b : UInt8} (h : s.data.toList[k]? = some b) : s.get! k = b ∧ k < s.size := by
  have hk := (List.getElem?_eq_some_iff.1 h).1
  rw [Array.length_toList] at hk
  refine ⟨?_, hk⟩
  rw [Array.getElem?_toList] at h
  simp [ByteArray.get!, Array.getElem!_eq_getD, Array.getD_eq_getD_getElem?, h]
theorem at_some {s : ByteArray} {k : Nat} (h : k < s.size) : ∃ b, s.data.toList[k]? = some b ∧ s.get! k = b ∧ s[k] = b := by
  refine ⟨s[k], ?_, ?_, rfl⟩
  · rw [Array.getElem?_toList]; exact Array.getElem?_eq_getElem h
  · exact (get_of (b := s[k]) (by rw [Array.getElem?_toList]; exact Array.getElem?_eq_getElem h)).1

theorem dec_ascii (s : ByteArray) (i : Nat) (h : (s.get! i).toNat < 128) : Utf8.decode s i = ((s.get! i).toNat, 1) := by
  rw [Lib.decode_at]; unfold Lib.decodeN; rw [if_pos h]

theorem dec_wide (s : ByteArray) (i : Nat) (hi : i < s.size) (h : ¬ (s.get! i).toNat < 128) :
    128 ≤ (Utf8.decode s i).1 ∧ 1 ≤ (Utf8.decode s i).2 ∧ i + (Utf8.decode s i).2 ≤ s.size ∧ ∀ k b, i ≤ k → k < i + (Utf8.decode s i).2 → s.data.toList[k]? = some b → 128 ≤ b.toNat := by
  have h0 : 128 ≤ (s.get! i).toNat := by omega
  rw [Lib.decode_at]
  have key : ∀ w r : Nat, 128 ≤ r → 1 ≤ w → i + w ≤ s.size → (∀ j, j < w → 128 ≤ (s.get! (i + j)).toNat) → 128 ≤ (r, w).1 ∧ 1 ≤ (r, w).2 ∧ i + (r, w).2 ≤ s.size ∧ ∀ k b, i ≤ k → k < i + (r, w).2 → s.data.toList[k]? = some b → 128 ≤ b.toNat := by
    intro w r hr hw hs hj
    refine ⟨hr, hw, hs, fun k b h1 h2 h3 => ?_⟩
    have := hj (k - i) (by show k - i < w; have : k < i + w := h2; omega)
    rw [show i + (k - i) = k by omega, (get_of h3).1] at this
    exact this
  have one : ∀ j, j < 1 → 128 ≤ (s.get! (i + j)).toNat := fun j hj => by obtain rfl : j = 0 := (by omega); exact h0
  unfold Lib.decodeN
  rw [if_neg h]
  split
  · rename_i h1
    split
    · exact key _ _ (by omega) (by omega) (by omega) fun j hj => by
        rcases (by omega : j = 0 ∨ j = 1) with rfl | rfl
        · exact h0
        · omega
    · exact key _ _ (by omega) (by omega) (by omega) one
  · split
    · rename_i h1
      split
      · exact key _ _ (by omega) (by omega) (by omega) fun j hj => by
          rcases (by omega : j = 0 ∨ j = 1 ∨ j = 2) with rfl | rfl | rfl
          · exact h0
          · omega
          · omega
      · exact key _ _ (by omega) (by omega) (by omega) one
    · split
      · rename_i h1
        split
        · exact key _ _ (by omega) (by omega) (by omega) fun j hj => by
            rcases (by omega : j = 0 ∨ j = 1 ∨ j = 2 ∨ j = 3) with rfl | rfl | rfl | rfl
            · exact h0
            · omega
            · omega
            · omega
        · exact key _ _ (by omega) (by omega) (by omega) one
      · exact key _ _ (by omega) (by omega) (by omega) one

/-- What the set's method answers of a code point. -/
def pr (x : Nat) : Bool := decide (x < 128) && blk x.toUInt8

theorem blk_small {b : UInt8} (h : blk b = true) : b.toNat < 128 := by
  unfold blk at h
  simp at h
  rcases h with rfl | rfl | rfl | rfl | rfl <;> decide

/-- One step over a code point: it is a blank, and one byte long; or it is none, and none of its bytes is. -/
theorem step_of (s : ByteArray) (i : Nat) (hi : i < s.size) :
    (pr (Utf8.decode s i).1 = true ∧ (Utf8.decode s i).2 = 1 ∧ blk (s.get! i) = true) ∨
    (pr (Utf8.decode s i).1 = false ∧ 1 ≤ (Utf8.decode s i).2 ∧ i + (Utf8.decode s i).2 ≤ s.size ∧ ∀ k b, i ≤ k → k < i + (Utf8.decode s i).2 → s.data.toList[k]? = some b → blk b = false) := by
  by_cases h : (s.get! i).toNat < 128
  · rw [dec_ascii s i h]
    have e : ((s.get! i).toNat).toUInt8 = s.get! i := by simp
    unfold pr
    simp only [h, decide_true, Bool.true_and, e]
    cases hb : blk (s.get! i)
    · right
      refine ⟨rfl, Nat.le_refl _, by omega, fun k b h1 h2 h3 => ?_⟩
      obtain rfl : k = i := by omega
      rw [(get_of h3).1] at hb; exact hb
    · left
      exact ⟨by simp, by simp, by simp⟩
  · obtain ⟨h1, h2, h3, h4⟩ := dec_wide s i hi h
    right
    refine ⟨?_, h2, h3, fun k b a1 a2 a3 => ?_⟩
    · unfold pr
      rw [decide_eq_false (by omega)]; rfl
    · have := h4 k b a1 a2 a3
      cases hb : blk b
      · rfl
      · have := blk_small hb; omega

/-- What has been read: the spans closed, and where the one that is open begins. -/
def pieces (l : List UInt8) (acc : List (Nat × Nat)) : List (List UInt8) := acc.map fun x => (l.drop x.1).take (x.2 - x.1)
structure Read (l : List UInt8) (pos : Nat) (st : Option Nat) (acc : List (Nat × Nat)) : Prop where
  sum : pieces l acc ++ words (l.drop (st.getD pos)) = words l
  open_ : ∀ a, st = some a → a < pos ∧ ∀ k b, a ≤ k → k < pos → l[k]? = some b → blk b = false
  spans : ∀ x ∈ acc, x.1 ≤ x.2 ∧ x.2 ≤ l.length
  few : acc.length ≤ pos
  le : pos ≤ l.length

theorem read_start (l : List UInt8) : Read l 0 none [] := ⟨rfl, (fun a h => by cases h), (fun x hx => by cases hx), Nat.le_refl _, Nat.zero_le _⟩
theorem read_in {l : List UInt8} {pos w a : Nat} {acc : List (Nat × Nat)} (h : Read l pos (some a) acc) (hw : 1 ≤ w) (hle : pos + w ≤ l.length) (hn : ∀ k b, pos ≤ k → k < pos + w → l[k]? = some b → blk b = false) : Read l (pos + w) (some a) acc := by
  refine ⟨h.sum, fun a' e => ?_, h.spans, by have := h.few; omega, hle⟩
  cases e
  obtain ⟨h1, h2⟩ := h.open_ a rfl
  refine ⟨by omega, fun k b k1 k2 hk => ?_⟩
  by_cases hp : k < pos
  · exact h2 k b k1 hp hk
  · exact hn k b (by omega) k2 hk
theorem read_new {l : List UInt8} {pos w : Nat} {acc : List (Nat × Nat)} (h : Read l pos none acc) (hw : 1 ≤ w) (hle : pos + w ≤ l.length) (hn : ∀ k b, pos ≤ k → k < pos + w → l[k]? = some b → blk b = false) : Read l (pos + w) (some pos) acc := by
  refine ⟨h.sum, fun a' e => ?_, h.spans, by have := h.few; omega, hle⟩
  cases e
  exact ⟨by omega, hn⟩
theorem drop_cons {l : List UInt8} {k : Nat} {b : UInt8} (h : l[k]? = some b) : l.drop k = b :: l.drop (k + 1) := by
  have hk := (List.getElem?_eq_some_iff.1 h)
  rw [List.drop_eq_getElem_cons hk.1, hk.2]
theorem read_blank {l : List UInt8} {pos : Nat} {b : UInt8} {acc : List (Nat × Nat)} (h : Read l pos none acc) (hb : l[pos]? = some b) (hbl : blk b = true) : Read l (pos + 1) none acc := by
  have hlt := (List.getElem?_eq_some_iff.1 hb).1
  refine ⟨?_, (fun a h => by cases h), h.spans, by have := h.few; omega, by omega⟩
  have := h.sum
  simp only [Option.getD_none] at this ⊢
  rw [drop_cons hb, words_skip b _ hbl] at this
  exact this
theorem seg {l : List UInt8} {a pos : Nat} {b : UInt8} (ha : a ≤ pos) (hb : l[pos]? = some b) : l.drop a = (l.drop a).take (pos - a) ++ b :: l.drop (pos + 1) := by
  have e : l.drop pos = (l.drop a).drop (pos - a) := by rw [List.drop_drop]; congr 1; omega
  rw [← drop_cons hb, e, List.take_append_drop]
theorem seg_no {l : List UInt8} {a pos : Nat} (h : ∀ k b, a ≤ k → k < pos → l[k]? = some b → blk b = false) : ∀ b ∈ (l.drop a).take (pos - a), blk b = false := by
  intro b hb
  obtain ⟨k, hk⟩ := List.mem_iff_getElem?.1 hb
  rw [List.getElem?_take] at hk
  split at hk
  · rw [List.getElem?_drop] at hk
    exact h (a + k) b (by omega) (by omega) hk
  · cases hk
theorem seg_ne {l : List UInt8} {a pos : Nat} (h1 : a < pos) (h2 : pos ≤ l.length) : (l.drop a).take (pos - a) ≠ [] := by
  intro e
  have := congrArg List.length e
  simp at this
  omega
theorem read_close {l : List UInt8} {pos a : Nat} {b : UInt8} {acc : List (Nat × Nat)} (h : Read l pos (some a) acc) (hb : l[pos]? = some b) (hbl : blk b = true) : Read l (pos + 1) none (acc ++ [(a, pos)]) := by
  obtain ⟨h1, h2⟩ := h.open_ a rfl
  have hlt := (List.getElem?_eq_some_iff.1 hb).1
  refine ⟨?_, (fun a h => by cases h), fun x hx => ?_, by have := h.few; simp; omega, by omega⟩
  · have hs := h.sum
    simp only [Option.getD_none, Option.getD_some] at hs ⊢
    rw [seg (Nat.le_of_lt h1) hb, words_hit _ b _ (seg_no h2) hbl (seg_ne h1 (by omega))] at hs
    rw [← hs]
    simp [pieces]
  · rcases List.mem_append.1 hx with hx | hx
    · exact h.spans x hx
    · simp at hx; subst hx; exact ⟨by show a ≤ pos; omega, by show pos ≤ l.length; omega⟩
theorem read_end {l : List UInt8} {acc : List (Nat × Nat)} (h : Read l l.length none acc) : pieces l acc = words l := by
  have := h.sum
  simp only [Option.getD_none, List.drop_length] at this
  rw [words_nil, List.append_nil] at this
  exact this
theorem read_end_open {l : List UInt8} {a : Nat} {acc : List (Nat × Nat)} (h : Read l l.length (some a) acc) : pieces l (acc ++ [(a, l.length)]) = words l ∧ ∀ x ∈ acc ++ [(a, l.length)], x.1 ≤ x.2 ∧ x.2 ≤ l.length := by
  obtain ⟨h1, h2⟩ := h.open_ a rfl
  constructor
  · have hs := h.sum
    simp only [Option.getD_some] at hs
    have e : l.drop a = (l.drop a).take (l.length - a) := by rw [List.take_of_length_le (by simp)]
    rw [e, words_last _ (seg_no h2) (seg_ne h1 (Nat.le_refl _))] at hs
    rw [← hs]
    simp [pieces]
  · intro x hx
    rcases List.mem_append.1 hx with hx | hx
    · exact h.spans x hx
    · simp at hx; subst hx; exact ⟨by show a ≤ l.length; omega, Nat.le_refl _⟩

/-! The document's own loops, over places. -/
structure WordsTo (l : List UInt8) (fr i : Nat) (out : List (List UInt8)) : Prop where
  sum : out ++ words (l.drop fr) = words l
  open_ : ∀ k b, fr ≤ k → k < i → l[k]? = some b → blk b = false
  le : fr ≤ i
  few : out.length ≤ fr
structure PartsTo (l : List UInt8) (c : UInt8) (fr i : Nat) (out : List (List UInt8)) : Prop where
  sum : out ++ parts (l.drop fr) c = parts l c
  open_ : ∀ k b, fr ≤ k → k < i → l[k]? = some b → (b == c) = false
  le : fr ≤ i
  few : out.length ≤ fr
end Go.Proofs.YthnogdodlhkldaaGreatDoor

namespace Go.Proofs.YthnogdodlhkldaaGreatDoor

theorem list_snoc {α : Type} {m : List α → Prop} (nil : m []) (append_singleton : ∀ L p, m L → m (L ++ [p])) (L : List α) : m L := by
  have key : ∀ n (L : List α), L.length = n → m L := by
    intro n
    induction n with
    | zero => intro L h; rw [List.length_eq_zero_iff.1 h]; exact nil
    | succ n ih =>
      intro L h
      have hne : L ≠ [] := by intro e; rw [e] at h; cases h
      rw [← List.dropLast_concat_getLast hne]
      exact append_singleton _ _ (ih _ (by simp [h]))
  exact key _ L rfl

/-! Bytes. -/
def small (b : UInt8) : Bool := decide (97 ≤ b.toNat ∧ b.toNat ≤ 122)
def digit (b : UInt8) : Bool := decide (48 ≤ b.toNat ∧ b.toNat ≤ 57)
def nameB (b : UInt8) : Bool := small b || digit b || b == 45
def schB (b : UInt8) : Bool := small b || digit b || b == 43 || b == 45 || b == 46
def schM : List UInt8 → Bool
  | [] => false
  | b :: l => decide (l.length < 20) && small b && (b :: l).all schB
/-- Bytes from first to 126, none of those in except. -/
def inB (first : Nat) (except : List UInt8) (b : UInt8) : Bool := decide (first ≤ b.toNat ∧ b.toNat ≤ 126) && !except.contains b
def within (first : Nat) (except : List UInt8) (l : List UInt8) : Bool := l.all (inB first except)

def HTTP : List UInt8 := [104, 116, 116, 112]
def HTTPS : List UInt8 := [104, 116, 116, 112, 115]
def WS : List UInt8 := [119, 115]
def WSS : List UInt8 := [119, 115, 115]
def dfl (l : List UInt8) : Nat := if l = HTTP ∨ l = WS then 80 else if l = HTTPS ∨ l = WSS then 443 else 0
theorem dfl_sch {l : List UInt8} (h : dfl l ≠ 0) : schM l = true := by
  unfold dfl at h
  split at h
  · rename_i h1; rcases h1 with rfl | rfl <;> decide +kernel
  · split at h
    · rename_i h1; rcases h1 with rfl | rfl <;> decide +kernel
    · exact absurd rfl h

/-! Hosts. -/
def nameM (l : List UInt8) : Bool := !l.isEmpty && l.all nameB
def dot (b : UInt8) : Bool := b == 46
def hostM (l : List UInt8) : Bool := decide (l.length ≤ 100) && (cut dot l).all nameM
/-- The same, from byte to byte: was a point, or nothing, ahead? -/
def hostR : Bool → List UInt8 → Bool
  | p, [] => !p
  | p, b :: l => if dot b then !p && hostR true l else nameB b && hostR false l
theorem cut_cons (p : UInt8 → Bool) (b : UInt8) (l : List UInt8) : cut p (b :: l) = if p b then [] :: cut p l else ((b :: (cut p l).head (cut_ne p l)) :: (cut p l).tail) := by
  cases hb : p b
  · simp only [Bool.false_eq_true, if_false]
    conv => lhs; unfold cut
    rw [hb]
    obtain ⟨x, xs, hx⟩ : ∃ x xs, cut p l = x :: xs := List.exists_cons_of_ne_nil (cut_ne p l)
    simp [hx]
  · rw [if_pos rfl]
    exact cut_hit p [] b l (by simp) hb
theorem hostR_spec (l : List UInt8) : hostR true l = (cut dot l).all nameM ∧ hostR false l = (((cut dot l).head (cut_ne dot l)).all nameB && (cut dot l).tail.all nameM) := by
  induction l with
  | nil => exact ⟨rfl, rfl⟩
  | cons b l ih =>
    obtain ⟨h1, h2⟩ := ih
    have hc := cut_cons dot b l
    cases hb : dot b
    · rw [hb] at hc
      simp only [Bool.false_eq_true, if_false] at hc
      have e : hostR true (b :: l) = (nameB b && hostR false l) := by simp [hostR, hb]
      have e2 : hostR false (b :: l) = (nameB b && hostR false l) := by simp [hostR, hb]
      rw [e, e2, h2]
      constructor
      · rw [hc]; simp [nameM, Bool.and_assoc]
      · simp only [hc]; simp [Bool.and_assoc]
    · rw [hb, if_pos rfl] at hc
      have e : hostR true (b :: l) = false := by simp [hostR, hb]
      have e2 : hostR false (b :: l) = hostR true l := by simp [hostR, hb]
      rw [e, e2, h1]
      constructor
      · rw [hc]; simp [nameM]
      · simp only [hc]; simp
theorem hostM_R (l : List UInt8) : hostM l = (decide (l.length ≤ 100) && hostR true l) := by unfold hostM; rw [(hostR_spec l).1]

/-! Paths. -/
def sl (b : UInt8) : Bool := b == 47
def dots (p : List UInt8) : Bool := decide (p = [46] ∨ p = [46, 46])
def stepC (acc : List (List UInt8)) (p : List UInt8) : List (List UInt8) := if p = [46] then acc else if p = [46, 46] then acc.dropLast else acc ++ [p]
def taken (L : List (List UInt8)) : List (List UInt8) := L.foldl stepC []
def endC (L acc : List (List UInt8)) : List (List UInt8) := match L.getLast? with | some p => if dots p then acc ++ [[]] else acc | none => acc
def slashed (L : List (List UInt8)) : List UInt8 := L.flatMap (fun p => 47 :: p)
def outC (r : List UInt8) : List (List UInt8) := endC (cut sl r) (taken (cut sl r))
def cleanP : List UInt8 → List UInt8
  | [] => []
  | b :: r => if sl b then slashed (outC r) else []
theorem taken_snoc (L : List (List UInt8)) (p : List UInt8) : taken (L ++ [p]) = stepC (taken L) p := by simp [taken]
theorem dots_or {p : List UInt8} (h : dots p = true) : p = [46] ∨ p = [46, 46] := by simpa [dots] using h
theorem dots_not {p : List UInt8} (h : dots p = false) : p ≠ [46] ∧ p ≠ [46, 46] := by simpa [dots] using h
theorem stepC_not {acc : List (List UInt8)} {p : List UInt8} (h : dots p = false) : stepC acc p = acc ++ [p] := by
  obtain ⟨h1, h2⟩ := dots_not h
  unfold stepC; rw [if_neg h1, if_neg h2]
/-- How many bytes the pieces have, each with a stroke. -/
def wt (L : List (List UInt8)) : Nat := (slashed L).length
theorem wt_snoc (L : List (List UInt8)) (p : List UInt8) : wt (L ++ [p]) = wt L + (p.length + 1) := by simp [wt, slashed]
theorem wt_dropLast (L : List (List UInt8)) : wt L.dropLast ≤ wt L := by
  induction L using list_snoc with
  | nil => exact Nat.le_refl _
  | append_singleton L p ih => rw [List.dropLast_concat, wt_snoc]; omega
theorem wt_step (acc : List (List UInt8)) (p : List UInt8) : wt (stepC acc p) ≤ wt acc + (if dots p then 0 else p.length + 1) := by
  cases hd : dots p
  · rw [stepC_not hd, wt_snoc]; simp
  · rcases dots_or hd with rfl | rfl
    · unfold stepC; rw [if_pos rfl]; simp
    · unfold stepC; rw [if_neg (by decide), if_pos rfl]; have := wt_dropLast acc; simpa using this
theorem wt_taken (L : List (List UInt8)) : wt (taken L) ≤ wt L := by
  induction L using list_snoc with
  | nil => exact Nat.le_refl _
  | append_singleton L p ih =>
    rw [taken_snoc, wt_snoc]
    have := wt_step (taken L) p
    split at this <;> omega
theorem endC_snoc (L acc : List (List UInt8)) (p : List UInt8) : endC (L ++ [p]) acc = if dots p then acc ++ [[]] else acc := by simp [endC]
theorem wt_end (L : List (List UInt8)) : wt (endC L (taken L)) ≤ wt L := by
  rcases List.eq_nil_or_concat L with rfl | ⟨L, p, rfl⟩
  · exact Nat.le_refl _
  · rw [List.concat_eq_append, endC_snoc, taken_snoc, wt_snoc]
    have h1 := wt_step (taken L) p
    have h2 := wt_taken L
    cases hd : dots p
    · rw [hd] at h1; simp at h1 ⊢; omega
    · rw [hd] at h1; simp only [if_true] at h1 ⊢
      rw [wt_snoc]
      rcases dots_or hd with rfl | rfl <;> simp at h1 ⊢ <;> omega
theorem wt_cut (l : List UInt8) : wt (cut sl l) = l.length + 1 := by
  have h1 := cut_total sl l
  have h2 := cut_length sl l
  have h3 : ∀ L : List (List UInt8), wt L = (L.map List.length).sum + L.length := fun L => by
    induction L with
    | nil => rfl
    | cons a L ih =>
      have : wt (a :: L) = (a.length + 1) + wt L := by simp [wt, slashed]; omega
      rw [this, ih]; simp; omega
  rw [h3]; omega
theorem cleanP_length (l : List UInt8) : (cleanP l).length ≤ l.length := by
  unfold cleanP
  split
  · exact Nat.le_refl _
  · rename_i b r
    split
    · have h1 := wt_end (cut sl r)
      rw [wt_cut] at h1
      exact h1
    · exact Nat.zero_le _
theorem slashed_cons (x : List UInt8) (L : List (List UInt8)) : slashed (x :: L) = 47 :: (x ++ slashed L) := by simp [slashed]
def pathM (l : List UInt8) : Bool := !l.isEmpty && within 33 [63, 35] l && decide (cleanP l = l)

/-! Addresses. -/
structure U where
  o : Bool
  s : List UInt8
  h : List UInt8
  p : Int
  pa : List UInt8
  q : List UInt8
  deriving DecidableEq
def U.none : U := ⟨false, [], [], 0, [], []⟩
def queryM (l : List UInt8) : Bool := l.isEmpty || (l.head? == some 63 && within 33 [35] l)
def portT (p : Int) : List UInt8 := if p = 0 then [] else 58 :: Lib.decDigits p.toNat
def textM (u : U) : List UInt8 := if u.o then u.s ++ 58 :: u.pa else u.s ++ 58 :: 47 :: 47 :: (u.h ++ (portT u.p ++ (u.pa ++ u.q)))
def rankedM (u : U) : Bool := decide (dfl u.s ≠ 0) && hostM u.h && decide (0 ≤ u.p) && decide (u.p ≤ 65535) && decide (u.p ≠ (dfl u.s : Int)) && pathM u.pa && queryM u.q
def opaqueM (u : U) : Bool := schM u.s && decide (dfl u.s = 0) && u.h.isEmpty && decide (u.p = 0) && u.q.isEmpty && within 32 [35] u.pa && decide (trim u.pa = u.pa)
def rightM (u : U) : Bool := (if u.o then opaqueM u else rankedM u) && decide ((textM u).length ≤ 500)

/-! What is parsed. -/
def upto (p : UInt8 → Bool) (l : List UInt8) : List UInt8 := l.takeWhile (fun b => !p b)
def past (p : UInt8 → Bool) (l : List UInt8) : List UInt8 := l.dropWhile (fun b => !p b)
theorem upto_past (p : UInt8 → Bool) (l : List UInt8) : upto p l ++ past p l = l := List.takeWhile_append_dropWhile
def isC (c : UInt8) (b : UInt8) : Bool := b == c
def numV (l : List UInt8) : Nat := l.foldl (fun n b => n * 10 + (b.toNat - 48)) 0
def numM (l : List UInt8) : Option Nat := if l = [] ∨ 5 < l.length ∨ l.all digit = false then none else some (numV l)
end Go.Proofs.YthnogdodlhkldaaGreatDoor

namespace Go.Proofs.YthnogdodlhkldaaGreatDoor

/-! Up to, and from there. -/
theorem past_none (p : UInt8 → Bool) (l : List UInt8) (h : ∀ b ∈ l, p b = false) : upto p l = l ∧ past p l = [] := by
  induction l with
  | nil => exact ⟨rfl, rfl⟩
  | cons b l ih =>
    have hb := h b (by simp)
    obtain ⟨h1, h2⟩ := ih (fun x hx => h x (by simp [hx]))
    unfold upto past at *
    rw [List.takeWhile_cons, List.dropWhile_cons, hb]
    simp [h1, h2]
theorem past_hit (p : UInt8 → Bool) (a : List UInt8) (c : UInt8) (r : List UInt8) (ha : ∀ b ∈ a, p b = false) (hc : p c = true) : upto p (a ++ c :: r) = a ∧ past p (a ++ c :: r) = c :: r := by
  induction a with
  | nil =>
    unfold upto past
    rw [List.nil_append, List.takeWhile_cons, List.dropWhile_cons, hc]; simp
  | cons b a ih =>
    have hb := ha b (by simp)
    obtain ⟨h1, h2⟩ := ih (fun x hx => ha x (by simp [hx]))
    unfold upto past at *
    rw [List.cons_append, List.takeWhile_cons, List.dropWhile_cons, hb]
    simp [h1, h2]
theorem upto_length (p : UInt8 → Bool) (l : List UInt8) : (upto p l).length + (past p l).length = l.length := by
  have := congrArg List.length (upto_past p l)
  rw [List.length_append] at this; exact this
theorem past_head (p : UInt8 → Bool) (l : List UInt8) (c : UInt8) (r : List UInt8) (h : past p l = c :: r) : p c = true := by
  induction l with
  | nil => cases h
  | cons b l ih =>
    unfold past at h ih
    rw [List.dropWhile_cons] at h
    cases hb : p b
    · rw [hb] at h; simp at h; exact ih h
    · rw [hb] at h; simp at h; rw [← h.1]; exact hb
theorem upto_no (p : UInt8 → Bool) (l : List UInt8) : ∀ b ∈ upto p l, p b = false := by
  induction l with
  | nil => intro b hb; cases hb
  | cons c l ih =>
    intro b hb
    unfold upto at hb ih
    rw [List.takeWhile_cons] at hb
    cases hc : p c
    · rw [hc] at hb
      simp at hb
      rcases hb with rfl | hb
      · exact hc
      · exact ih b (by simpa using hb)
    · rw [hc] at hb; simp at hb
/-! The document's pieces. -/
structure CutTo (p : UInt8 → Bool) (l : List UInt8) (fr i : Nat) (out : List (List UInt8)) : Prop where
  sum : out ++ cut p (l.drop fr) = cut p (l.drop 1)
  open_ : ∀ k b, fr ≤ k → k < i → l[k]? = some b → p b = false
  le : fr ≤ i
  few : out.length < fr
/-! The document's clean: in one go. -/
theorem taken_length (L : List (List UInt8)) : (taken L).length ≤ L.length := by
  induction L using list_snoc with
  | nil => exact Nat.le_refl _
  | append_singleton L p ih =>
    rw [taken_snoc, List.length_append]
    have : (stepC (taken L) p).length ≤ (taken L).length + 1 := by
      unfold stepC
      split
      · omega
      · split
        · rw [List.length_dropLast]; omega
        · simp
    simp; omega
theorem slashed_join (x : List UInt8) (L : List (List UInt8)) : 47 :: Lib.join (x :: L) [47] = slashed (x :: L) := by
  induction L generalizing x with
  | nil => simp [Lib.join, slashed, List.intercalate]
  | cons y L ih =>
    have := ih y
    rw [slashed_cons, ← this]
    simp [Lib.join, List.intercalate]

/-! What is right. -/
/-! What is parsed. -/
end Go.Proofs.YthnogdodlhkldaaGreatDoor

namespace Go.Proofs.YthnogdodlhkldaaGreatDoor

/-! Bytes, one by one. -/
theorem byte_all {p : UInt8 → Prop} (h : ∀ n : Fin 256, p (UInt8.ofNat n.val)) (b : UInt8) : p b := by
  have := h ⟨b.toNat, b.toNat_lt⟩
  simpa using this
theorem schM_cons {b : UInt8} {l : List UInt8} : schM (b :: l) = (decide (l.length < 20) && small b && (b :: l).all schB) := rfl
theorem hostR_mem {l : List UInt8} : ∀ {p : Bool}, hostR p l = true → ∀ b ∈ l, (nameB b || dot b) = true := by
  induction l with
  | nil => intro p _ b hb; cases hb
  | cons c l ih =>
    intro p h b hb
    unfold hostR at h
    cases hd : dot c
    · rw [hd] at h
      simp only [Bool.false_eq_true, if_false, Bool.and_eq_true] at h
      rcases List.mem_cons.1 hb with rfl | hb
      · rw [h.1]; rfl
      · exact ih h.2 b hb
    · rw [hd] at h
      simp only [if_true, Bool.and_eq_true] at h
      rcases List.mem_cons.1 hb with rfl | hb
      · rw [hd, Bool.or_true]
      · exact ih h.2 b hb
theorem hostM_mem {l : List UInt8} (h : hostM l = true) : ∀ b ∈ l, (nameB b || dot b) = true := by
  rw [hostM_R, Bool.and_eq_true] at h
  exact hostR_mem h.2

/-! Numerals. -/
/-! Up to, behind a front that has none. -/
theorem upto_append {p : UInt8 → Bool} {a : List UInt8} (r : List UInt8) (h : ∀ b ∈ a, p b = false) : upto p (a ++ r) = a ++ upto p r ∧ past p (a ++ r) = past p r := by
  induction a with
  | nil => exact ⟨rfl, rfl⟩
  | cons c a ih =>
    have hc := h c (by simp)
    obtain ⟨h1, h2⟩ := ih (fun x hx => h x (by simp [hx]))
    unfold upto past at *
    rw [List.cons_append, List.takeWhile_cons, List.dropWhile_cons, hc]
    simp [h1, h2]
theorem upto_stop {p : UInt8 → Bool} {c : UInt8} (r : List UInt8) (h : p c = true) : upto p (c :: r) = [] ∧ past p (c :: r) = c :: r := past_hit p [] c r (by simp) h
theorem upto_step {p : UInt8 → Bool} {c : UInt8} (r : List UInt8) (h : p c = false) : upto p (c :: r) = c :: upto p r ∧ past p (c :: r) = past p r := by
  have := upto_append (p := p) (a := [c]) r (by simpa using h)
  exact this

/-! What is right. -/
/-! An address' text, without its path and query. -/
/-! Trimming: a front without blanks at its beginning, and a stroke. -/
/-! An address' own text. -/
/-! What a text begins with. -/
/-! A path up to its last stroke. -/
/-! What is joined. -/
end Go.Proofs.YthnogdodlhkldaaGreatDoor

namespace Go.Proofs.YthnogdodlhkldaaGreatDoor

theorem snoc_ind {α : Type} {P : List α → Prop} (h0 : P []) (hs : ∀ l b, P l → P (l ++ [b])) (l : List α) : P l := by
  rw [← l.reverse_reverse]
  generalize l.reverse = r
  induction r with
  | nil => exact h0
  | cons a r ih => rw [List.reverse_cons]; exact hs _ _ ih

/-- The k bits of a number, the greatest first. -/
def bitsN : Nat → Nat → List Bool
  | 0, _ => []
  | k + 1, x => bitsN k (x / 2) ++ [x % 2 == 1]
/-- The number of bits. -/
def num (l : List Bool) : Nat := l.foldl (fun n b => 2 * n + b.toNat) 0
def flat (t : Nat) (l : List Nat) : List Bool := (l.map (bitsN t)).flatten
def stepG (t : Nat) (p : List Nat × List Bool) (b : Bool) : List Nat × List Bool := if p.2.length + 1 = t then (p.1 ++ [num (p.2 ++ [b])], []) else (p.1, p.2 ++ [b])
/-- Bits in groups of t, and what is left. -/
def grp (t : Nat) (bs : List Bool) : List Nat × List Bool := bs.foldl (stepG t) ([], [])

theorem bitsN_length (t x : Nat) : (bitsN t x).length = t := by
  induction t generalizing x with
  | zero => rfl
  | succ k ih => rw [bitsN, List.length_append, ih]; rfl
theorem num_snoc (l : List Bool) (b : Bool) : num (l ++ [b]) = 2 * num l + b.toNat := by simp [num]
theorem num_lt (l : List Bool) : num l < 2 ^ l.length := by
  induction l using snoc_ind with
  | h0 => decide
  | hs l b ih =>
    rw [num_snoc, List.length_append, List.length_singleton, Nat.pow_succ]
    cases b <;> simp <;> omega
theorem bitsN_num (l : List Bool) : bitsN l.length (num l) = l := by
  induction l using snoc_ind with
  | h0 => rfl
  | hs l b ih =>
    rw [List.length_append, List.length_singleton, bitsN, num_snoc]
    cases b
    · have e1 : (2 * num l + false.toNat) / 2 = num l := by simp
      have e2 : ((2 * num l + false.toNat) % 2 == 1) = false := by simp
      rw [e1, e2, ih]
    · have e1 : (2 * num l + true.toNat) / 2 = num l := by simp; omega
      have e2 : ((2 * num l + true.toNat) % 2 == 1) = true := by simp
      rw [e1, e2, ih]
theorem bitsN_get (t x j : Nat) (h : j < t) : (bitsN t x)[j]? = some (x / 2 ^ (t - 1 - j) % 2 == 1) := by
  induction t generalizing x with
  | zero => omega
  | succ k ih =>
    rw [bitsN]
    by_cases hj : j < k
    · rw [List.getElem?_append_left (by rw [bitsN_length]; exact hj), ih (x / 2) hj, Nat.div_div_eq_div_mul]
      have : k + 1 - 1 - j = (k - 1 - j) + 1 := by omega
      rw [this, Nat.pow_succ, Nat.mul_comm]
    · obtain rfl : j = k := by omega
      rw [List.getElem?_append_right (by rw [bitsN_length]; exact Nat.le_refl _), bitsN_length, Nat.sub_self]
      simp
theorem flat_append (t : Nat) (a b : List Nat) : flat t (a ++ b) = flat t a ++ flat t b := by simp [flat]
theorem flat_cons (t x : Nat) (a : List Nat) : flat t (x :: a) = bitsN t x ++ flat t a := by simp [flat]
theorem flat_one (t x : Nat) : flat t [x] = bitsN t x := by simp [flat]
theorem flat_length (t : Nat) (a : List Nat) : (flat t a).length = t * a.length := by
  induction a with
  | nil => rfl
  | cons x a ih => rw [flat_cons, List.length_append, bitsN_length, ih, List.length_cons, Nat.mul_succ]; omega
theorem flat_take (t : Nat) (a : List Nat) (k x : Nat) (h : a[k]? = some x) : flat t (a.take (k + 1)) = flat t (a.take k) ++ bitsN t x := by
  rw [List.take_add_one, h]
  simp [flat]

theorem grp_snoc (t : Nat) (bs : List Bool) (b : Bool) : grp t (bs ++ [b]) = stepG t (grp t bs) b := by simp [grp]
theorem grp_spec (t : Nat) (h0 : 0 < t) (bs : List Bool) : bs = flat t (grp t bs).1 ++ (grp t bs).2 ∧ (grp t bs).2.length < t ∧ ∀ x ∈ (grp t bs).1, x < 2 ^ t := by
  induction bs using snoc_ind with
  | h0 => exact ⟨rfl, h0, fun x hx => by cases hx⟩
  | hs bs b ih =>
    rw [grp_snoc]
    generalize grp t bs = p at ih
    obtain ⟨m, h⟩ := p
    obtain ⟨h1, h2, h3⟩ := ih
    simp only at h1 h2 h3
    unfold stepG
    by_cases e : h.length + 1 = t
    · have el : (h ++ [b]).length = t := by simpa using e
      rw [if_pos e]
      refine ⟨?_, h0, fun x hx => ?_⟩
      · simp only [List.append_nil]
        rw [flat_append, flat_one, ← el, bitsN_num, el, h1, List.append_assoc]
      · simp only [List.mem_append, List.mem_singleton] at hx
        rcases hx with hx | rfl
        · exact h3 x hx
        · have := num_lt (h ++ [b])
          rw [el] at this
          exact this
    · rw [if_neg e]
      refine ⟨?_, by simp; omega, h3⟩
      simp only
      rw [h1, List.append_assoc]
/-! The signs. -/
def SG : List UInt8 := [65, 66, 67, 68, 69, 70, 71, 72, 73, 74, 75, 76, 77, 78, 79, 80, 81, 82, 83, 84, 85, 86, 87, 88, 89, 90, 97, 98, 99, 100, 101, 102, 103, 104, 105, 106, 107, 108, 109, 110, 111, 112, 113, 114, 115, 116, 117, 118, 119, 120, 121, 122, 48, 49, 50, 51, 52, 53, 54, 55, 56, 57, 43, 47]
/-- A byte as it is written. -/
def plB (c : UInt8) : UInt8 := if c = 45 then 43 else if c = 95 then 47 else c
def val (c : UInt8) : Int := Lib.indexByte SG (plB c)
def valN (c : UInt8) : Nat := (val c).toNat

theorem all_bytes {P : UInt8 → Prop} (h : ∀ n : Fin 256, P (UInt8.ofNat n.val)) (c : UInt8) : P c := by
  have := h ⟨c.toNat, c.toNat_lt⟩
  simpa using this
theorem val_rng (c : UInt8) : -1 ≤ val c ∧ val c ≤ 63 := by
  revert c
  refine all_bytes ?_
  decide +kernel
theorem valN_lt (c : UInt8) : valN c < 64 := by have := val_rng c; unfold valN; omega
theorem valN_int {c : UInt8} (h : 0 ≤ val c) : (valN c : Int) = val c := by unfold valN; omega
theorem plB_id {c : UInt8} (h : c ≠ 45) (h2 : c ≠ 95) : plB c = c := by unfold plB; rw [if_neg h, if_neg h2]
/-! What is encoded. -/
end Go.Proofs.YthnogdodlhkldaaGreatDoor

namespace Go.Proofs.YthnogdodlhkldaaGreatDoor

/-- A text without the = that it ends with. -/
def hd (s : List UInt8) : List UInt8 := Lib.trimRightB s 61
def good (h : List UInt8) : Bool := h.all fun c => decide (0 ≤ val c)
def formM (s : List UInt8) : Bool := !(hd s).isEmpty && decide (s.length - (hd s).length ≤ 2) && good (hd s)
def bits6 (h : List UInt8) : List Bool := flat 6 (h.map valN)
def decM (s : List UInt8) : List UInt8 × Bool :=
  if s = [] then ([], true)
  else if formM s = false then ([], false)
  else if (hd s).length < s.length ∧ s.length % 4 ≠ 0 then ([], false)
  else if 6 ≤ (grp 8 (bits6 (hd s))).2.length ∨ num (grp 8 (bits6 (hd s))).2 ≠ 0 then ([], false)
  else ((grp 8 (bits6 (hd s))).1.map Nat.toUInt8, true)

theorem hd_snoc (s : List UInt8) (b : UInt8) : hd (s ++ [b]) = if b = 61 then hd s else s ++ [b] := by
  unfold hd Lib.trimRightB
  rw [List.reverse_append, List.reverse_singleton, List.singleton_append, List.dropWhile_cons]
  by_cases e : b = 61
  · subst e
    rw [if_pos (by rfl), if_pos rfl]
  · rw [if_neg (by simpa using e), if_neg e]
    simp
/-- Nothing that is = stands last. -/
def endless (l : List UInt8) : Prop := ∀ b, l.getLast? = some b → b ≠ 61
theorem hd_split (s : List UInt8) : ∃ k, s = hd s ++ List.replicate k 61 ∧ endless (hd s) := by
  induction s using snoc_ind with
  | h0 => exact ⟨0, rfl, fun b h => by cases h⟩
  | hs s b ih =>
    rw [hd_snoc]
    by_cases e : b = 61
    · subst e
      obtain ⟨k, h1, h2⟩ := ih
      rw [if_pos rfl]
      refine ⟨k + 1, ?_, h2⟩
      rw [List.replicate_succ', ← List.append_assoc, ← h1]
    · rw [if_neg e]
      exact ⟨0, by simp, fun c h => by simp at h; subst h; exact e⟩
theorem hd_le (s : List UInt8) : (hd s).length ≤ s.length := by
  obtain ⟨k, h, _⟩ := hd_split s
  have := congrArg List.length h
  rw [List.length_append] at this
  omega
theorem good_mem {h : List UInt8} (e : good h = true) : ∀ c ∈ h, 0 ≤ val c := by
  intro c hc
  have := List.all_eq_true.1 e c hc
  simpa using this
end Go.Proofs.YthnogdodlhkldaaGreatDoor

namespace Go.Proofs.YthnogdodlhkldaaGreatDoor

structure Src where
  k : Int
  t : List UInt8
  s : List UInt8
  h : List UInt8
  w : Bool
  p : Int
  pa : List UInt8
  deriving DecidableEq
def Src.zero : Src := ⟨0, [], [], [], false, 0, []⟩
def KEPT : List (List UInt8) := [[39, 110, 111, 110, 101, 39], [39, 115, 101, 108, 102, 39], [39, 117, 110, 115, 97, 102, 101, 45, 105, 110, 108, 105, 110, 101, 39], [39, 117, 110, 115, 97, 102, 101, 45, 101, 118, 97, 108, 39], [39, 119, 97, 115, 109, 45, 117, 110, 115, 97, 102, 101, 45, 101, 118, 97, 108, 39], [39, 115, 116, 114, 105, 99, 116, 45, 100, 121, 110, 97, 109, 105, 99, 39], [39, 117, 110, 115, 97, 102, 101, 45, 104, 97, 115, 104, 101, 115, 39], [39, 114, 101, 112, 111, 114, 116, 45, 115, 97, 109, 112, 108, 101, 39]]
def keptM (k : Int) : List UInt8 := if 1 ≤ k ∧ k ≤ 8 then KEPT.getD (k - 1).toNat [] else []
def inS (b : UInt8) : Bool := inB 33 [63, 35, 44, 59, 58] b
def spathM (l : List UInt8) : Bool := decide (l.length ≤ 200) && (l.isEmpty || l.head? == some 47) && l.all inS
def bareS (a : Src) : Bool := a.h.isEmpty && !a.w && decide (a.p = 0) && a.pa.isEmpty
def shostM (a : Src) : Bool := a.t.isEmpty && (a.s.isEmpty || schM a.s) && (a.h.isEmpty || hostM a.h) && (!a.h.isEmpty || a.w) && decide (-1 ≤ a.p ∧ a.p ≤ 65535) && spathM a.pa
def rightS (a : Src) : Bool :=
  if a.k = 9 then bareS a && a.s.isEmpty && decide (a.t.length ≤ 200) && formM a.t
  else if a.k = 10 then bareS a && a.s.isEmpty && decide (a.t.length = 16)
  else if a.k = 11 then bareS a && a.t.isEmpty && schM a.s
  else if a.k = 12 then shostM a
  else !(keptM a.k).isEmpty && bareS a && a.s.isEmpty && a.t.isEmpty
def NON : List UInt8 := [39, 110, 111, 110, 99, 101, 45]
def MRK : List UInt8 := [39, 109, 97, 114, 107, 45]
def beg (l t : List UInt8) : Bool := decide (low (l.take t.length) = t)
def quotedS (l : List UInt8) : Src :=
  if beg l NON then ⟨9, (l.drop 7).dropLast, [], [], false, 0, []⟩
  else if beg l MRK then ⟨10, (decM ((l.drop 6).dropLast)).1, [], [], false, 0, []⟩
  else match ([1, 2, 3, 4, 5, 6, 7, 8] : List Int).find? (fun k => decide (low l = keptM k)) with
    | some k => ⟨k, [], [], [], false, 0, []⟩
    | none => Src.zero
/-- What stands ahead of the first :// and behind it. -/
def sp3 : List UInt8 → Option (List UInt8 × List UInt8)
  | [] => none
  | b :: l => if [58, 47, 47].isPrefixOf (b :: l) then some ([], (b :: l).drop 3) else (sp3 l).map fun x => (b :: x.1, x.2)
def sportP (l : List UInt8) : Int := if l = [42] then -1 else match numM l with | some n => if n = 0 ∨ 65535 < n then -2 else (n : Int) | none => -2
def numS (l : List UInt8) : Int := match l with | [] => 0 | _ :: ds => sportP ds
def placeS (sc name : List UInt8) (p : Int) (pa : List UInt8) : Option Src :=
  if low (name.take 2) = [42, 46] then (if 2 < name.length then some ⟨12, [], sc, low (name.drop 2), true, p, pa⟩ else none)
  else if name = [42] then some ⟨12, [], sc, [], true, p, pa⟩
  else some ⟨12, [], sc, low name, false, p, pa⟩
def restS (sc l : List UInt8) : Option Src := placeS sc (upto (isC 58) (upto (isC 47) l)) (numS (past (isC 58) (upto (isC 47) l))) (past (isC 47) l)
def plainS (l : List UInt8) : Option Src :=
  if l.getLast? = some 58 then some ⟨11, [], low l.dropLast, [], false, 0, []⟩
  else match sp3 l with
    | some (sc, r) => if sc = [] then none else restS (low sc) r
    | none => restS [] l
def parseS (l : List UInt8) : Option Src :=
  if l = [] then none
  else (if 2 ≤ l.length ∧ l.head? = some 39 ∧ l.getLast? = some 39 then some (quotedS l) else plainS l).filter rightS

/-! Small letters. -/
theorem lowB_fix (b : UInt8) : (lowB b = 58 ↔ b = 58) ∧ (lowB b = 47 ↔ b = 47) ∧ (lowB b = 39 ↔ b = 39) ∧ (lowB b = 42 ↔ b = 42) ∧ digit (lowB b) = digit b ∧ (digit b = true → lowB b = b) ∧ isC 47 (lowB b) = isC 47 b ∧ isC 58 (lowB b) = isC 58 b := by revert b; exact byte_all (by decide +kernel)
theorem low_star (l : List UInt8) : low l = [42] ↔ l = [42] := by
  constructor
  · intro h
    have hl : l.length = 1 := by rw [← low_length, h]; rfl
    obtain ⟨b, rfl⟩ := List.length_eq_one_iff.1 hl
    simp [low] at h
    rw [(lowB_fix b).2.2.2.1.1 h]
  · rintro rfl; decide
theorem last_low (l : List UInt8) : ((low l).getLast? = some 39 ↔ l.getLast? = some 39) ∧ ((low l).getLast? = some 58 ↔ l.getLast? = some 58) := by
  unfold low
  rw [List.getLast?_map]
  cases l.getLast? with
  | none => simp
  | some b => simp [(lowB_fix b).2.2.1, (lowB_fix b).1]
theorem beg_low (l t : List UInt8) : beg (low l) t = beg l t := by
  unfold beg
  rw [show (low l).take t.length = low (l.take t.length) by unfold low; rw [List.map_take], low_low]

/-! Lists of words. -/
def listS (L : List (List UInt8)) : List Src := L.filterMap parseS
theorem listS_append (a b : List (List UInt8)) : listS (a ++ b) = listS a ++ listS b := List.filterMap_append
theorem listS_length (L : List (List UInt8)) : (listS L).length ≤ L.length := List.length_filterMap_le _ _
end Go.Proofs.YthnogdodlhkldaaGreatDoor

namespace Go.Proofs.YthnogdodlhkldaaGreatDoor

def portO (l : List UInt8) : Option Int := if l = [42] then some (-1) else match numM l with | some n => if 0 < n ∧ n ≤ 65535 then some (n : Int) else none | none => none
def nameO (l : List UInt8) : Option (List UInt8 × Bool) :=
  if l = [42] then some ([], true)
  else if [42, 46].isPrefixOf l then (if l.drop 2 = [] then none else some (l.drop 2, true))
  else if l = [] then none else some (l, false)
def toldO (sc h : List UInt8) (wd : Bool) (pa rest : List UInt8) : Option Src :=
  match rest with
  | [] => some ⟨12, [], sc, h, wd, 0, pa⟩
  | _ :: ds => (portO ds).map fun p => ⟨12, [], sc, h, wd, p, pa⟩
def placeO (sc l : List UInt8) : Option Src :=
  match nameO (low (upto (isC 58) (upto (isC 47) l))) with
  | none => none
  | some (h, wd) => toldO sc h wd (past (isC 47) l) (past (isC 58) (upto (isC 47) l))
def bareK (k : Int) (t : List UInt8) : Src := ⟨k, t, [], [], false, 0, []⟩
def quotedO (m : List UInt8) : Src :=
  if beg m NON then bareK 9 (m.drop 7)
  else if beg m MRK then bareK 10 (decM (m.drop 6)).1
  else Src.zero
def keptO (l : List UInt8) : Option Int := ([1, 2, 3, 4, 5, 6, 7, 8] : List Int).find? (fun k => decide (low l = keptM k))
def cutO (l : List UInt8) : Option Src :=
  if l.head? = some 39 then
    match keptO l with
    | some k => some (bareK k [])
    | none => if l.getLast? = some 39 then some (quotedO l.dropLast) else none
  else if l.getLast? = some 58 then some ⟨11, [], low l.dropLast, [], false, 0, []⟩
  else match sp3 l with
    | some (sc, r) => if sc = [] then none else placeO (low sc) r
    | none => placeO [] l

theorem right_sport {a : Src} (hk : a.k = 12) (hp : a.p = -2) : rightS a = false := by
  unfold rightS shostM
  rw [hk, hp]
  simp
theorem sportP_O (l : List UInt8) : sportP l = (portO l).getD (-2) := by
  unfold sportP portO
  by_cases h : l = [42]
  · rw [if_pos h, if_pos h]; rfl
  · rw [if_neg h, if_neg h]
    cases numM l with
    | none => rfl
    | some n =>
      simp only []
      by_cases h1 : n = 0 ∨ 65535 < n
      · rw [if_pos h1, if_neg (by omega)]; rfl
      · rw [if_neg h1, if_pos (by omega)]; rfl
theorem low_two (l : List UInt8) : low (l.take 2) = [42, 46] ↔ [42, 46].isPrefixOf (low l) = true := by
  have hz : ∀ (c : UInt8), ((42 == lowB c) = true ↔ lowB c = 42) ∧ ((46 == lowB c) = true ↔ lowB c = 46) := byte_all (by decide +kernel)
  match l with
  | [] => simp [low]
  | [x] => simp [low]
  | x :: y :: r =>
    simp only [low, List.take_succ_cons, List.take_zero, List.map_cons, List.map_nil, List.isPrefixOf, Bool.and_true, Bool.and_eq_true, List.cons.injEq, and_true]
    rw [(hz x).1, (hz y).2]
theorem told_place (sc h : List UInt8) (wd : Bool) (pa rest : List UInt8) : (toldO sc h wd pa rest).filter rightS = (some (⟨12, [], sc, h, wd, numS rest, pa⟩ : Src)).filter rightS := by
  cases rest with
  | nil => rfl
  | cons c ds =>
    unfold toldO numS
    simp only []
    rw [sportP_O]
    cases hp : portO ds with
    | some p => rfl
    | none => simp [Option.filter, right_sport]
theorem place_O (sc l : List UInt8) : (placeO sc l).filter rightS = (restS sc l).filter rightS := by
  unfold placeO restS placeS
  generalize upto (isC 58) (upto (isC 47) l) = nm
  generalize past (isC 58) (upto (isC 47) l) = rest
  generalize past (isC 47) l = pa
  have hd : (low nm).drop 2 = low (nm.drop 2) := by unfold low; rw [List.map_drop]
  have hn : low nm = [] ↔ nm = [] := by unfold low; exact List.map_eq_nil_iff
  unfold nameO
  by_cases h1 : nm = [42]
  · subst h1
    rw [if_pos (by decide), if_neg (by decide), if_pos rfl]
    exact told_place _ _ _ _ _
  · rw [if_neg (fun e => h1 ((low_star nm).1 e))]
    by_cases h2 : low (nm.take 2) = [42, 46]
    · rw [if_pos ((low_two nm).1 h2), if_pos h2, hd]
      have h4 : low (nm.drop 2) = [] ↔ ¬ 2 < nm.length := by
        unfold low
        rw [List.map_eq_nil_iff, List.drop_eq_nil_iff]
        omega
      by_cases h3 : 2 < nm.length
      · rw [if_neg (fun e => (h4.1 e) h3), if_pos h3]
        exact told_place _ _ _ _ _
      · rw [if_pos (h4.2 h3), if_neg h3]
    · rw [if_neg (fun e => h2 ((low_two nm).2 e)), if_neg h2, if_neg h1]
      by_cases h3 : nm = []
      · rw [if_pos (hn.2 h3), h3]
        have : rightS (⟨12, [], sc, low [], false, numS rest, pa⟩ : Src) = false := by unfold rightS shostM low; simp
        simp [Option.filter, this]
      · rw [if_neg (fun e => h3 (hn.1 e))]
        exact told_place _ _ _ _ _
theorem schM_quote {l : List UInt8} (h : l.head? = some 39) : schM (low l) = false := by
  cases l with
  | nil => cases h
  | cons b l =>
    simp at h
    subst h
    rw [show low (39 :: l) = 39 :: low l from rfl, schM_cons, show small 39 = false by decide]
    simp
theorem hostM_quote {l : List UInt8} (h : l.head? = some 39) : hostM (low l) = false := by
  cases l with
  | nil => cases h
  | cons b l =>
    simp at h
    subst h
    cases hm : hostM (low (39 :: l))
    · rfl
    · have := hostM_mem hm 39 (by simp [low]; exact .inl (by decide))
      exact absurd this (by decide)
theorem upto_head {p : UInt8 → Bool} {l : List UInt8} {c : UInt8} (h : l.head? = some c) (hp : p c = false) : (upto p l).head? = some c := by
  cases l with
  | nil => cases h
  | cons b l =>
    simp at h
    subst h
    rw [(upto_step l hp).1]
    rfl
theorem sp3_head {l sc r : List UInt8} {c : UInt8} (h : l.head? = some c) (hc : c ≠ 58) (hs : sp3 l = some (sc, r)) : sc.head? = some c := by
  cases l with
  | nil => cases h
  | cons b l =>
    simp at h
    subst h
    unfold sp3 at hs
    rw [if_neg (by simp [List.isPrefixOf]; intro e; exact absurd e.symm hc)] at hs
    cases hx : sp3 l with
    | none => rw [hx] at hs; cases hs
    | some x =>
      rw [hx] at hs
      simp at hs
      rw [← hs.1]
      rfl
theorem right_sc {sc l : List UInt8} (h0 : sc ≠ []) (h : schM sc = false) : (restS sc l).filter rightS = none := by
  cases hx : restS sc l with
  | none => rfl
  | some a =>
    have hk : a.s = sc ∧ a.k = 12 := by
      unfold restS placeS at hx
      split at hx
      · split at hx
        · cases hx; exact ⟨rfl, rfl⟩
        · cases hx
      · split at hx
        · cases hx; exact ⟨rfl, rfl⟩
        · cases hx; exact ⟨rfl, rfl⟩
    have : rightS a = false := by
      unfold rightS shostM
      rw [hk.1, hk.2, h]
      have : sc.isEmpty = false := by simpa using h0
      rw [this]
      simp
    simp [Option.filter, this]
theorem plain_quote {l : List UInt8} (h : l.head? = some 39) : (plainS l).filter rightS = none := by
  unfold plainS
  by_cases h1 : l.getLast? = some 58
  · rw [if_pos h1]
    have hs : schM (low l.dropLast) = false := by
      by_cases hd : l.dropLast = []
      · rw [hd]; rfl
      · refine schM_quote ?_
        cases l with
        | nil => cases h
        | cons b l =>
          cases l with
          | nil => exact absurd rfl hd
          | cons c l => simpa using h
    have : rightS (⟨11, [], low l.dropLast, [], false, 0, []⟩ : Src) = false := by unfold rightS; simp [hs]
    simp [Option.filter, this]
  · rw [if_neg h1]
    cases hx : sp3 l with
    | some x =>
      obtain ⟨sc, r⟩ := x
      simp only []
      have hh := sp3_head h (by decide) hx
      have h0 : sc ≠ [] := by intro e; rw [e] at hh; cases hh
      rw [if_neg h0]
      exact right_sc (by intro e; exact h0 (List.map_eq_nil_iff.1 e)) (schM_quote hh)
    | none =>
      simp only []
      have hh := upto_head (p := isC 58) (upto_head (p := isC 47) h (by decide)) (by decide)
      unfold restS placeS
      generalize upto (isC 58) (upto (isC 47) l) = nm at hh
      have e1 : low (nm.take 2) ≠ [42, 46] := by
        intro e
        cases nm with
        | nil => cases hh
        | cons b nm =>
          simp at hh
          subst hh
          simp [low] at e
          exact absurd e.1 (by decide)
      have e2 : nm ≠ [42] := by rintro rfl; simp at hh
      rw [if_neg e1, if_neg e2]
      have hm := hostM_quote hh
      have : (low nm).isEmpty = false := by
        cases nm with
        | nil => cases hh
        | cons b nm => rfl
      have : ∀ p pa, rightS (⟨12, [], [], low nm, false, p, pa⟩ : Src) = false := by
        intro p pa
        unfold rightS shostM
        rw [hm, this]
        simp
      simp [Option.filter, this]
theorem beg_len {l t : List UInt8} (h : beg l t = true) : t.length ≤ l.length := by
  unfold beg at h
  have := congrArg List.length (of_decide_eq_true h)
  rw [low_length, List.length_take] at this
  omega
theorem beg_dropLast {l t : List UInt8} {c : UInt8} (hl : l.getLast? = some c) (ht : ∀ b, t.getLast? = some b → b ≠ lowB c) : beg l.dropLast t = beg l t := by
  have hd : l = l.dropLast ++ [c] := by
    have hne : l ≠ [] := by intro e; rw [e] at hl; cases hl
    have := List.dropLast_concat_getLast hne
    rw [List.getLast?_eq_some_getLast hne] at hl
    rw [Option.some.inj hl] at this
    exact this.symm
  rw [Bool.eq_iff_iff]
  constructor
  · intro h
    have hlen := beg_len h
    unfold beg at h ⊢
    rw [hd, List.take_append_of_le_length hlen]
    exact h
  · intro h
    have hlen := beg_len h
    have hlt : t.length ≤ l.dropLast.length := by
      rcases Nat.lt_or_ge l.dropLast.length t.length with hx | hx
      · exfalso
        have hl2 : l.length = t.length := by
          have : l.length = l.dropLast.length + 1 := by have := congrArg List.length hd; rw [List.length_append] at this; exact this
          omega
        unfold beg at h
        have e := of_decide_eq_true h
        rw [← hl2, List.take_length] at e
        have e2 : (low l).getLast? = some (lowB c) := by unfold low; rw [List.getLast?_map, hl]; rfl
        rw [e] at e2
        exact ht _ e2 rfl
      · exact hx
    unfold beg at h ⊢
    rw [hd, List.take_append_of_le_length hlt] at h
    exact h
theorem kept_some {l : List UInt8} {k : Int} (h : keptO l = some k) : low l = keptM k ∧ (k = 1 ∨ k = 2 ∨ k = 3 ∨ k = 4 ∨ k = 5 ∨ k = 6 ∨ k = 7 ∨ k = 8) := by
  have h1 := List.find?_some h
  have h2 := List.mem_of_find?_eq_some h
  refine ⟨of_decide_eq_true h1, ?_⟩
  simpa using h2
theorem kept_begs {k : Int} (h : k = 1 ∨ k = 2 ∨ k = 3 ∨ k = 4 ∨ k = 5 ∨ k = 6 ∨ k = 7 ∨ k = 8) : (keptM k).head? = some 39 ∧ (keptM k).getLast? = some 39 ∧ 2 ≤ (keptM k).length ∧ beg (keptM k) NON = false ∧ beg (keptM k) MRK = false := by
  rcases h with rfl | rfl | rfl | rfl | rfl | rfl | rfl | rfl <;> decide +kernel
theorem drop_dropLast' (l : List UInt8) (n : Nat) : (l.drop n).dropLast = l.dropLast.drop n := by
  rw [List.dropLast_eq_take, List.dropLast_eq_take, List.length_drop, List.drop_take]
  congr 1
  omega

/-- What the program cuts off a word, if it is right, is the source that the word tells. -/
theorem parse_O (l : List UInt8) : parseS l = (cutO l).filter rightS := by
  unfold parseS cutO
  by_cases h0 : l = []
  · subst h0
    rfl
  rw [if_neg h0]
  by_cases hh : l.head? = some 39
  · rw [if_pos hh]
    cases hk : keptO l with
    | some k =>
      obtain ⟨e1, e2⟩ := kept_some hk
      obtain ⟨k1, k2, k3, k4, k5⟩ := kept_begs e2
      rw [← e1] at k1 k2 k3 k4 k5
      rw [if_pos ⟨by rw [← low_length]; exact k3, hh, (last_low l).1.1 k2⟩]
      unfold quotedS
      rw [beg_low] at k4 k5
      rw [k4, k5]
      simp only [Bool.false_eq_true, if_false]
      unfold keptO at hk
      rw [hk]
      rfl
    | none =>
      simp only []
      by_cases hz : l.getLast? = some 39
      · rw [if_pos hz]
        by_cases h2 : 2 ≤ l.length
        · rw [if_pos ⟨h2, hh, hz⟩]
          unfold quotedS quotedO
          have ht : ∀ t : List UInt8, (t = NON ∨ t = MRK) → beg l.dropLast t = beg l t := by
            intro t ht
            refine beg_dropLast hz ?_
            rcases ht with rfl | rfl <;> intro b hb <;> (simp [NON, MRK] at hb; subst hb; decide)
          rw [ht NON (.inl rfl), ht MRK (.inr rfl), drop_dropLast', drop_dropLast']
          unfold keptO at hk
          rw [hk]
          rfl
        · rw [if_neg (fun e => h2 e.1)]
          rw [plain_quote hh]
          have hl : l = [39] := by
            cases l with
            | nil => exact absurd rfl h0
            | cons b l =>
              cases l with
              | nil => simp at hh; rw [hh]
              | cons c l => exact absurd (by simp) h2
          subst hl
          rfl
      · rw [if_neg hz, if_neg (fun e => hz e.2.2), plain_quote hh]
        rfl
  · rw [if_neg hh, if_neg (fun e => hh e.2.1)]
    unfold plainS
    by_cases h58 : l.getLast? = some 58
    · rw [if_pos h58, if_pos h58]
    · rw [if_neg h58, if_neg h58]
      cases sp3 l with
      | some x =>
        obtain ⟨sc, r⟩ := x
        simp only []
        by_cases hs : sc = []
        · rw [if_pos hs, if_pos hs]
        · rw [if_neg hs, if_neg hs]
          exact (place_O _ _).symm
      | none => exact (place_O _ _).symm

end Go.Proofs.YthnogdodlhkldaaGreatDoor

namespace Go.Proofs.YthnogdodlhkldaaGreatDoor

end Go.Proofs.YthnogdodlhkldaaGreatDoor

namespace Go.Proofs.YthnogdodlhkldaaGreatDoor

structure O where
  o : Bool
  s : List UInt8
  h : List UInt8
  p : Int
  deriving DecidableEq
def O.none : O := ⟨true, [], [], 0⟩
def portU (u : U) : Int := if u.p = 0 then (dfl u.s : Int) else u.p
def originM (u : U) : O := if rightM u = true ∧ u.o = false then ⟨false, u.s, u.h, portU u⟩ else O.none
def sameM (a b : O) : Bool := !a.o && decide (a = b)

theorem origin_none {u : U} (h : ¬ (rightM u = true ∧ u.o = false)) : originM u = O.none := by unfold originM; rw [if_neg h]
theorem origin_some {u : U} (h : rightM u = true) (ho : u.o = false) : originM u = ⟨false, u.s, u.h, portU u⟩ := by unfold originM; rw [if_pos ⟨h, ho⟩]
end Go.Proofs.YthnogdodlhkldaaGreatDoor

namespace Go.Proofs.YthnogdodlhkldaaGreatDoor

def stp (f n : Nat) (b : UInt8) : Nat := (n * f + b.toNat + 1) % 1000000007
def rx (l : List UInt8) : Nat := l.foldl (stp 257) 7
def ry (l : List UInt8) : Nat := l.foldl (stp 65539) 11
def fourM (n : Nat) : List UInt8 := [(n / 16777216).toUInt8, (n / 65536).toUInt8, (n / 256).toUInt8, n.toUInt8]
def markL (l : List UInt8) : List UInt8 := fourM (rx l) ++ fourM (ry l) ++ fourM (rx l * ry l % 1000000007) ++ fourM (l.length % 1000000007)

theorem stp_lt (f n : Nat) (b : UInt8) : stp f n b ≤ 1000000006 := by
  have := Nat.mod_lt (n * f + b.toNat + 1) (show 1000000007 > 0 by decide)
  unfold stp; omega
theorem fold_lt (f : Nat) (l : List UInt8) (n : Nat) (h : n ≤ 1000000006) : l.foldl (stp f) n ≤ 1000000006 := by
  induction l generalizing n with
  | nil => exact h
  | cons b l ih => exact ih _ (stp_lt f n b)
theorem rx_lt (l : List UInt8) : rx l ≤ 1000000006 := fold_lt _ _ _ (by decide)
theorem ry_lt (l : List UInt8) : ry l ≤ 1000000006 := fold_lt _ _ _ (by decide)
theorem rx_snoc (l : List UInt8) (b : UInt8) : rx (l ++ [b]) = stp 257 (rx l) b := by simp [rx]
theorem ry_snoc (l : List UInt8) (b : UInt8) : ry (l ++ [b]) = stp 65539 (ry l) b := by simp [ry]
theorem mul_lt (a b : Nat) (h1 : a ≤ 1000000006) (h2 : b ≤ 1000000006) : a * b ≤ 1000000012000000036 := Nat.le_trans (Nat.mul_le_mul h1 h2) (by decide)
end Go.Proofs.YthnogdodlhkldaaGreatDoor

namespace Go.Proofs.YthnogdodlhkldaaGreatDoor

def schL (t i : List UInt8) : Bool := decide (t = i) || (decide (t = HTTP) && decide (i = HTTPS)) || (decide (t = WS) && decide (i = WSS))
def endsL (l t : List UInt8) : Bool := decide (t.length < l.length) && decide (l.drop (l.length - t.length) = t)
def hostL (w : Bool) (sh h : List UInt8) : Bool := if w then (low sh).isEmpty || endsL (low h) (46 :: low sh) else decide (low sh = low h)
def portL (sp : Int) (u : U) : Bool := if sp = -1 then true else if sp = 0 then decide (portU u = (dfl u.s : Int)) else decide (portU u = sp) || (decide (sp = 80) && decide (portU u = 443))
def pathL (t i : List UInt8) (m : Bool) : Bool := t.isEmpty || m || decide (i = t) || (decide (t.getLast? = some 47) && t.isPrefixOf i)
def nearL (u v : U) : Bool := rightM v && !v.o && !u.o && decide (v.h = u.h) && decide (v.p = 0) && decide (u.p = 0) && schL v.s u.s
def selfL (u v : U) : Bool := sameM (originM v) (originM u) || nearL u v
def toldL (a : Src) (v : U) : List UInt8 := if a.s.isEmpty then v.s else a.s
def letsL (a : Src) (u v : U) (m : Bool) : Bool := !u.o && schL (toldL a v) u.s && hostL a.w a.h u.h && portL a.p u && pathL a.pa u.pa m
def urlL (a : Src) (u v : U) (m : Bool) : Bool := rightM u && (if a.k = 11 then schL a.s u.s else if a.k = 12 then letsL a u v m else if a.k = 2 then selfL u v else false)

/-- 'self': what is of the page's own origin; what is of another host. -/
theorem url_self (a : Src) (ha : a.k = 2) (u v : U) (m : Bool) : urlL a u v m = (rightM u && selfL u v) := by
  unfold urlL
  rw [ha]
  rfl
end Go.Proofs.YthnogdodlhkldaaGreatDoor

namespace Go.Proofs.YthnogdodlhkldaaGreatDoor

def hasL (L : List Src) (k : Int) : Bool := L.any fun a => decide (a.k = k)
def textQ (L : List Src) (k : Int) (s : List UInt8) : Bool := L.any fun a => decide (a.k = k) && decide (a.t = s)
def urlsL (L : List Src) (u v : U) (m : Bool) : Bool := L.any fun a => urlL a u v m
def nonceL (L : List Src) (n : List UInt8) : Bool := !n.isEmpty && textQ L 9 n
def hashL (L : List Src) (s : List UInt8) : Bool := textQ L 10 (markL s)
def looseL (L : List Src) : Bool := hasL L 3 && !hasL L 9 && !hasL L 10 && !hasL L 6
def inlineL (L : List Src) (k : Int) (n s : List UInt8) : Bool := if k = 1 then looseL L || nonceL L n || hashL L s else if k = 3 ∨ k = 4 then looseL L || (hasL L 7 && hashL L s) else false
def fetchL (L : List Src) (u v : U) (m : Bool) (n : List UInt8) (b : Bool) : Bool := if hasL L 6 then nonceL L n || !b else nonceL L n || urlsL L u v m
def evalL (L : List Src) (k : Int) : Bool := if k = 5 then hasL L 4 else if k = 6 then hasL L 4 || hasL L 5 else false

structure SameL (L M : List Src) : Prop where
  has : ∀ k, hasL L k = hasL M k
  text : ∀ k s, textQ L k s = textQ M k s
  urls : ∀ u v m, urlsL L u v m = urlsL M u v m
theorem SameL.eval {L M : List Src} (h : SameL L M) (k : Int) : evalL L k = evalL M k := by
  unfold evalL
  simp only [h.has]
/-- What is let be inline has its witness. -/
theorem witness (L : List Src) (k : Int) (n s : List UInt8) (h : inlineL L k n s = true) : (looseL L || (decide (k = 1) && (!n.isEmpty && textQ L 9 n)) || textQ L 10 (markL s)) = true ∧ (k = 1 ∨ k = 3 ∨ k = 4) := by
  unfold inlineL nonceL hashL at h
  split at h
  · next e =>
    refine ⟨?_, .inl e⟩
    rw [decide_eq_true e, Bool.true_and]
    exact h
  · next e =>
    split at h
    · next e2 =>
      refine ⟨?_, .inr e2⟩
      simp only [Bool.or_eq_true, Bool.and_eq_true] at *
      rcases h with h | h
      · exact .inl (.inl h)
      · exact .inr h.2
    · cases h
end Go.Proofs.YthnogdodlhkldaaGreatDoor

namespace Go.Proofs.YthnogdodlhkldaaGreatDoor

theorem byte_any {p : UInt8 → Prop} (h : ∀ n : Fin 256, p (UInt8.ofNat n.val)) (b : UInt8) : p b := by
  have := h ⟨b.toNat, b.toNat_lt⟩
  simpa using this

structure D where
  n : List UInt8
  w : List (List UInt8)
  deriving DecidableEq

/-! Names, words. -/
def nB (b : UInt8) : Bool := decide (97 ≤ b.toNat ∧ b.toNat ≤ 122) || decide (48 ≤ b.toNat ∧ b.toNat ≤ 57) || b == 45
def wB (b : UInt8) : Bool := decide (33 ≤ b.toNat ∧ b.toNat ≤ 126) && !(b == 44) && !(b == 59)
def nameH (l : List UInt8) : Bool := !l.isEmpty && decide (l.length ≤ 40) && l.all nB
def wordH (l : List UInt8) : Bool := !l.isEmpty && l.all wB
/-! A directive, a policy, policies of a text. -/
def dirM (s : List UInt8) : Option D :=
  match words s with
  | [] => none
  | n :: ws => if nameH (low n) then some ⟨low n, (ws.take 200).filter wordH⟩ else none
def thereM (ds : List D) (n : List UInt8) : Bool := ds.any (fun d => d.n == n)
def addD (ds : List D) (s : List UInt8) : List D :=
  match dirM s with
  | none => ds
  | some d => if thereM ds d.n then ds else ds ++ [d]
def polM (s : List UInt8) : List D := (parts s 59).foldl addD []
def allH (s : List UInt8) : List (List D) := ((parts s 44).map polM).filter (fun p => !p.isEmpty)
def parseH (s : List UInt8) : List (List D) := (allH s).take 10
def findM (ds : List D) (name : List UInt8) : Option (List (List UInt8)) := (ds.find? (fun d => d.n == low name)).map D.w

/-! Which policies are right, and their texts. -/
/-! What is parsed is right. -/
/-! A right policy's text is parsed as it. -/
/-! Texts with a comma between them. -/
/-! What is found, and what a text has. -/
end Go.Proofs.YthnogdodlhkldaaGreatDoor
