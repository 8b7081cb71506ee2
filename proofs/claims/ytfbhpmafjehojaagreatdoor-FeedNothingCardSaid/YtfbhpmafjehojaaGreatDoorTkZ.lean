/- The plain mathematics of fold: blanks, small letters, trimmed texts, words and parts, over lists of bytes. A text's words as its code points tell them: a blank is a code point below 128, and no code point of several bytes has one among its bytes. Plain mathematics of signs told by name or number (no program in this text): names, numbers, what a text is decoded and encoded as; what is encoded is decoded. Plain mathematics of documents as tokens (no program in this text): what the document's reader makes of a text, by places; what tokens' text is. Plain mathematics of documents as tokens (no program in this text): a tag's text is read as the tag. Plain mathematics of documents as tokens (no program in this text): tokens that are as a reader tells them are read again off their text. Plain mathematics of documents as tokens (no program in this text): the reader goes back over tokens' text to the tokens, and finds no Fail. Plain mathematics of documents as tokens (no program in this text): tokens as a reader tells them are those of their text, without a Fail. Plain mathematics of documents as tokens (no program in this text): what the reader's steps give is as tokens are. Plain mathematics of documents as tokens (no program in this text): the steps of a reader that finds no Fail. Plain mathematics of documents as tokens (no program in this text): a text that has no Fail is told as the tokens of its tokens' text. Plain mathematics of documents as tokens (no program in this text): the reader's steps as a cursor goes them. Plain mathematics of documents as tokens (no program in this text): a round of the program's reader, and what it is to the document's. Plain mathematics of documents as tokens (no program in this text): a round of the program's reader at a tag. -/
import Derived.Lib.SlTrimSet
import Derived.Lib.Split
import Derived.Lib.DecodeN
import Derived.Lib.Bytealg
import Derived.Lib.RuneBytes
namespace Go.Proofs.YtfbhpmafjehojaaGreatDoor

def blk (b : UInt8) : Bool := [9, 10, 12, 13, 32].contains b
def lowB (b : UInt8) : UInt8 := if 65 ≤ b.toNat ∧ b.toNat ≤ 90 then b + 32 else b
def low (l : List UInt8) : List UInt8 := l.map lowB
def trim (l : List UInt8) : List UInt8 := Lib.trimS l [9, 10, 12, 13, 32]

/-- The segments between the bytes that p tells. -/
def cut (p : UInt8 → Bool) : List UInt8 → List (List UInt8)
  | [] => [[]]
  | b :: l => if p b then [] :: cut p l else
    match cut p l with
    | [] => [[b]]
    | h :: t => (b :: h) :: t
def words (l : List UInt8) : List (List UInt8) := (cut blk l).filter (fun w => !w.isEmpty)
def parts (l : List UInt8) (c : UInt8) : List (List UInt8) := (cut (· == c) l).map trim

/-! Words. -/
/-! Lower. -/
theorem lowB_lowB (b : UInt8) : lowB (lowB b) = lowB b := by
  unfold lowB
  by_cases h : 65 ≤ b.toNat ∧ b.toNat ≤ 90
  · rw [if_pos h, if_neg]
    rw [UInt8.toNat_add]
    simp
    omega
  · rw [if_neg h, if_neg h]
theorem low_low (l : List UInt8) : low (low l) = low l := by simp [low, lowB_lowB]
theorem low_length (l : List UInt8) : (low l).length = l.length := by simp [low]

/-! Trim. -/
theorem dropWhile_nil_or (p : UInt8 → Bool) (l : List UInt8) : l.dropWhile p = [] ∨ ∃ b t, l.dropWhile p = b :: t ∧ p b = false := by
  induction l with
  | nil => exact .inl rfl
  | cons b l ih =>
    rw [List.dropWhile_cons]
    cases hb : p b
    · exact .inr ⟨b, l, by simp, hb⟩
    · simpa using ih
/-- What a text without blanks at both ends looks like. -/
def Ends (l : List UInt8) : Prop := (∀ b t, l = b :: t → blk b = false) ∧ (∀ b t, l = t ++ [b] → blk b = false)
theorem dropWhile_suffix (p : UInt8 → Bool) (l : List UInt8) : ∃ a, l = a ++ l.dropWhile p ∧ ∀ b ∈ a, p b = true := by
  induction l with
  | nil => exact ⟨[], rfl, by simp⟩
  | cons b l ih =>
    rw [List.dropWhile_cons]
    cases hb : p b
    · exact ⟨[], by simp, by simp⟩
    · obtain ⟨a, ha, hb'⟩ := ih
      exact ⟨b :: a, by simpa using ha, fun x hx => by rcases List.mem_cons.1 hx with rfl | hx; exact hb; exact hb' x hx⟩
theorem trim_form (l : List UInt8) : ∃ a z, l = a ++ trim l ++ z ∧ (∀ b ∈ a, blk b = true) ∧ (∀ b ∈ z, blk b = true) := by
  unfold trim Lib.trimS
  obtain ⟨z, hz, hzb⟩ := dropWhile_suffix ([9, 10, 12, 13, 32].contains ·) l.reverse
  obtain ⟨a, ha, hab⟩ := dropWhile_suffix ([9, 10, 12, 13, 32].contains ·) (Lib.trimRightS l [9, 10, 12, 13, 32])
  refine ⟨a, z.reverse, ?_, hab, fun b hb => hzb b (by simpa using hb)⟩
  have h2 : l = Lib.trimRightS l [9, 10, 12, 13, 32] ++ z.reverse := by
    have := congrArg List.reverse hz
    simpa [Lib.trimRightS] using this
  unfold Lib.trimLeftS
  rw [← ha]
  exact h2
theorem trim_ends (l : List UInt8) : Ends (trim l) := by
  constructor
  · intro b t e
    unfold trim Lib.trimS at e
    rcases dropWhile_nil_or ([9, 10, 12, 13, 32].contains ·) (Lib.trimRightS l [9, 10, 12, 13, 32]) with h | ⟨b', t', h, hb⟩
    · unfold Lib.trimLeftS at e; rw [h] at e; cases e
    · unfold Lib.trimLeftS at e; rw [h] at e; cases e; exact hb
  · intro b t e
    unfold trim Lib.trimS at e
    obtain ⟨a, ha, _⟩ := dropWhile_suffix ([9, 10, 12, 13, 32].contains ·) (Lib.trimRightS l [9, 10, 12, 13, 32])
    have h2 : Lib.trimRightS l [9, 10, 12, 13, 32] = (a ++ t) ++ [b] := by rw [List.append_assoc, ← e]; exact ha
    unfold Lib.trimRightS at h2
    rcases dropWhile_nil_or ([9, 10, 12, 13, 32].contains ·) l.reverse with h | ⟨b', t', h, hb⟩
    · rw [h] at h2; simp at h2
    · rw [h] at h2
      have := congrArg List.reverse h2
      simp at this
      rw [← this.1]; exact hb
theorem trim_length (l : List UInt8) : (trim l).length ≤ l.length := by
  obtain ⟨a, z, h, _⟩ := trim_form l
  have := congrArg List.length h
  simp at this; omega
theorem trim_all_blank (l : List UInt8) (h : ∀ b ∈ l, blk b = true) : trim l = [] := by
  rcases hE : trim l with _ | ⟨b, t⟩
  · rfl
  · have h1 := (trim_ends l).1 b t hE
    obtain ⟨a, z, h2, _⟩ := trim_form l
    have hm : b ∈ l := by rw [h2, hE]; simp
    rw [h b hm] at h1; cases h1
theorem ends_unique {a m z a' m' z' : List UInt8} (h : a ++ m ++ z = a' ++ m' ++ z') (ha : ∀ b ∈ a, blk b = true) (hz : ∀ b ∈ z, blk b = true) (ha' : ∀ b ∈ a', blk b = true) (hz' : ∀ b ∈ z', blk b = true) (hm : Ends m) (hm' : Ends m') (hn : m ≠ []) (hn' : m' ≠ []) : m = m' := by
  have len : a.length = a'.length := by
    rcases Nat.lt_trichotomy a.length a'.length with h1 | h1 | h1
    · exfalso
      obtain ⟨b, t, rfl⟩ := List.exists_cons_of_ne_nil hn
      have e := congrArg (fun l : List UInt8 => l[a.length]?) h
      simp only [List.append_assoc] at e
      rw [List.getElem?_append_right (Nat.le_refl _), Nat.sub_self] at e
      rw [List.getElem?_append_left h1] at e
      simp at e
      have := ha' _ (List.mem_of_getElem? e.symm)
      rw [hm.1 b t rfl] at this; cases this
    · exact h1
    · exfalso
      obtain ⟨b, t, rfl⟩ := List.exists_cons_of_ne_nil hn'
      have e := congrArg (fun l : List UInt8 => l[a'.length]?) h
      simp only [List.append_assoc] at e
      rw [List.getElem?_append_left h1] at e
      rw [List.getElem?_append_right (Nat.le_refl _), Nat.sub_self] at e
      simp at e
      have := ha _ (List.mem_of_getElem? e)
      rw [hm'.1 b t rfl] at this; cases this
  simp only [List.append_assoc] at h
  obtain ⟨rfl, h2⟩ := List.append_inj h len
  have len2 : z.length = z'.length := by
    have hlen := congrArg List.length h2
    simp at hlen
    rcases Nat.lt_trichotomy m.length m'.length with h1 | h1 | h1
    · exfalso
      obtain ⟨t, b, rfl⟩ : ∃ t b, m' = t ++ [b] := ⟨m'.dropLast, m'.getLast hn', (List.dropLast_concat_getLast hn').symm⟩
      have e := congrArg (fun l : List UInt8 => l[t.length]?) h2
      simp only [List.append_assoc] at e
      rw [List.getElem?_append_right (by simp at h1; omega)] at e
      rw [List.getElem?_append_right (Nat.le_refl _), Nat.sub_self] at e
      simp at e
      have := hz _ (List.mem_of_getElem? e)
      rw [hm'.2 b t rfl] at this; cases this
    · omega
    · exfalso
      obtain ⟨t, b, rfl⟩ : ∃ t b, m = t ++ [b] := ⟨m.dropLast, m.getLast hn, (List.dropLast_concat_getLast hn).symm⟩
      have ht : m'.length ≤ t.length := by simp at h1; omega
      have e : (t ++ [b] ++ z)[t.length]? = (m' ++ z')[t.length]? := congrArg (fun l : List UInt8 => l[t.length]?) h2
      rw [List.getElem?_append_right ht, List.append_assoc, List.getElem?_append_right (Nat.le_refl _), Nat.sub_self] at e
      simp at e
      have := hz' _ (List.mem_of_getElem? e.symm)
      rw [hm.2 b t rfl] at this; cases this
  exact (List.append_inj' h2 len2).1
/-- What is trimmed is known by its shape. -/
theorem trim_unique {a m z : List UInt8} (ha : ∀ b ∈ a, blk b = true) (hz : ∀ b ∈ z, blk b = true) (hm : Ends m) : trim (a ++ m ++ z) = m := by
  obtain ⟨a', z', h, ha', hz'⟩ := trim_form (a ++ m ++ z)
  by_cases hn : m = []
  · subst hn
    refine trim_all_blank _ fun b hb => ?_
    simp at hb
    rcases hb with hb | hb
    · exact ha b hb
    · exact hz b hb
  · by_cases hn' : trim (a ++ m ++ z) = []
    · exfalso
      rw [hn'] at h
      obtain ⟨b, t, rfl⟩ := List.exists_cons_of_ne_nil hn
      have hb : b ∈ a' ++ [] ++ z' := by rw [← h]; simp
      simp at hb
      have := hm.1 b t rfl
      rcases hb with hb | hb
      · rw [ha' b hb] at this; cases this
      · rw [hz' b hb] at this; cases this
    · exact (ends_unique h ha hz ha' hz' hm (trim_ends _) hn hn').symm
/-- A range trimmed step by step from both ends. -/
theorem trim_range (l : List UInt8) (i j : Nat) (hij : i ≤ j) (hj : j ≤ l.length) (h1 : ∀ k, k < i → ∀ b, l[k]? = some b → blk b = true) (h2 : ∀ k, j ≤ k → ∀ b, l[k]? = some b → blk b = true) (h3 : i < j → ∀ b, l[i]? = some b → blk b = false) (h4 : i < j → ∀ b, l[j - 1]? = some b → blk b = false) : trim l = (l.take j).drop i := by
  have e : l = l.take i ++ (l.take j).drop i ++ l.drop j := by
    have : l.take i = (l.take j).take i := by rw [List.take_take]; congr 1; omega
    rw [this, List.take_append_drop, List.take_append_drop]
  have hlen : ((l.take j).drop i).length = j - i := by simp; omega
  rw [e]
  have := trim_unique (a := l.take i) (m := (l.take j).drop i) (z := l.drop j) (fun b hb => ?_) (fun b hb => ?_) ⟨fun b t hbt => ?_, fun b t hbt => ?_⟩
  · rw [← e] at this ⊢; exact this
  · obtain ⟨k, hk⟩ := List.mem_iff_getElem?.1 hb
    rw [List.getElem?_take] at hk
    split at hk
    · exact h1 k ‹_› b hk
    · cases hk
  · obtain ⟨k, hk⟩ := List.mem_iff_getElem?.1 hb
    rw [List.getElem?_drop] at hk
    exact h2 _ (by omega) b hk
  · have hl := congrArg List.length hbt
    rw [hlen] at hl; simp at hl
    have hk := congrArg (fun l : List UInt8 => l[0]?) hbt
    simp only [List.getElem?_drop, List.getElem?_take] at hk
    rw [if_pos (by omega)] at hk
    simp at hk
    exact h3 (by omega) b hk
  · have hl := congrArg List.length hbt
    rw [hlen] at hl; simp at hl
    have hk := congrArg (fun l : List UInt8 => l[t.length]?) hbt
    simp only [List.getElem?_drop, List.getElem?_take] at hk
    rw [if_pos (by omega)] at hk
    simp at hk
    exact h4 (by omega) b (by rw [← hk]; congr 1; omega)

/-! Parts. -/
/-! Split. -/
theorem isPrefixOf_one (c b : UInt8) (l : List UInt8) : [c].isPrefixOf (b :: l) = (c == b) := by simp [List.isPrefixOf]
end Go.Proofs.YtfbhpmafjehojaaGreatDoor

namespace Go.Proofs.YtfbhpmafjehojaaGreatDoor

theorem get_of {s : ByteArray} {k : Nat} {b : UInt8} (h : s.data.toList[k]? = some b) : s.get! k = b ∧ k < s.size := by
  have hk := (List.getElem?_eq_some_iff.1 h).1
  rw [Array.length_toList] at hk
  refine ⟨?_, hk⟩
  rw [Array.getElem?_toList] at h
  simp [ByteArray.get!, Array.getElem!_eq_getD, Array.getD_eq_getD_getElem?, h]
theorem at_some {s : ByteArray} {k : Nat} (h : k < s.size) : ∃ b, s.data.toList[k]? = some b ∧ s.get! k = b ∧ s[k] = b := by
  refine ⟨s[k], ?_, ?_, rfl⟩
  · rw [Array.getElem?_toList]; exact Array.getElem?_eq_getElem h
  · exact (get_of (b := s[k]) (by rw [Array.getElem?_toList]; exact Array.getElem?_eq_getElem h)).1

/-- What has been read: the spans closed, and where the one that is open begins. -/
def pieces (l : List UInt8) (acc : List (Nat × Nat)) : List (List UInt8) := acc.map fun x => (l.drop x.1).take (x.2 - x.1)
structure Read (l : List UInt8) (pos : Nat) (st : Option Nat) (acc : List (Nat × Nat)) : Prop where
  sum : pieces l acc ++ words (l.drop (st.getD pos)) = words l
  open_ : ∀ a, st = some a → a < pos ∧ ∀ k b, a ≤ k → k < pos → l[k]? = some b → blk b = false
  spans : ∀ x ∈ acc, x.1 ≤ x.2 ∧ x.2 ≤ l.length
  few : acc.length ≤ pos
  le : pos ≤ l.length

theorem drop_cons {l : List UInt8} {k : Nat} {b : UInt8} (h : l[k]? = some b) : l.drop k = b :: l.drop (k + 1) := by
  have hk := (List.getElem?_eq_some_iff.1 h)
  rw [List.drop_eq_getElem_cons hk.1, hk.2]
/-! The document's own loops, over places. -/
structure WordsTo (l : List UInt8) (fr i : Nat) (out : List (List UInt8)) : Prop where
  sum : out ++ words (l.drop fr) = words l
  open_ : ∀ k b, fr ≤ k → k < i → l[k]? = some b → blk b = false
  le : fr ≤ i
  few : out.length ≤ fr
structure PartsTo (l : List UInt8) (c : UInt8) (fr i : Nat) (out : List (List UInt8)) : Prop where
  sum : out ++ parts (l.drop fr) c = parts l c
  open_ : ∀ k b, fr ≤ k → k < i → l[k]? = some b → (b == c) = false
  le : fr ≤ i
  few : out.length ≤ fr
theorem take_low (l : List UInt8) (k : Nat) (b : UInt8) (h : l[k]? = some b) : (low l).take (k + 1) = (low l).take k ++ [lowB b] := by
  rw [List.take_add_one]
  unfold low
  rw [List.getElem?_map, h]; rfl

end Go.Proofs.YtfbhpmafjehojaaGreatDoor

namespace Go.Proofs.YtfbhpmafjehojaaGreatDoor

/-! ### code points -/
def isPt (n : Nat) : Prop := n ≤ 1114111 ∧ (n < 55296 ∨ 57343 < n)
instance (n : Nat) : Decidable (isPt n) := by unfold isPt; infer_instance
def ptB (n : Int) : Bool := decide (0 ≤ n ∧ n ≤ 1114111 ∧ (n < 55296 ∨ 57343 < n))
theorem ptB_iff (n : Nat) : ptB (n : Int) = true ↔ isPt n := by
  unfold ptB isPt; simp only [decide_eq_true_eq]; omega
theorem ptB_dec (n : Nat) : ptB (n : Int) = decide (isPt n) := by
  rw [Bool.eq_iff_iff, ptB_iff, decide_eq_true_eq]
def encN (c : Nat) : List UInt8 :=
  if c ≤ 127 then [c.toUInt8]
  else if c ≤ 2047 then [(192 + c / 64).toUInt8, (128 + c % 64).toUInt8]
  else if c ≤ 65535 then [(224 + c / 4096).toUInt8, (128 + c / 64 % 64).toUInt8, (128 + c % 64).toUInt8]
  else [(240 + c / 262144).toUInt8, (128 + c / 4096 % 64).toUInt8, (128 + c / 64 % 64).toUInt8, (128 + c % 64).toUInt8]
theorem u8_toNat {n : Nat} (h : n < 256) : (n.toUInt8).toNat = n := by
  simp; omega
theorem encN_length (c : Nat) : 1 ≤ (encN c).length ∧ (encN c).length ≤ 4 := by
  unfold encN
  repeat' split
  all_goals simp
theorem encodeRune_eq {c : Nat} (h : isPt c) : Lib.encodeRune (c : Int) = encN c := by
  unfold isPt at h
  unfold Lib.encodeRune Lib.encodeRuneZ encN
  repeat' split
  all_goals first
    | (exfalso; omega)
    | (simp only [List.map_cons, List.map_nil]
       congr 1)

/-! ### the names -/
/-- Each name, what it stands for, and whether it is written. -/
def tabM : List (List UInt8 × List UInt8 × Bool) :=
  [([97, 109, 112], [38], true), ([108, 116], [60], true), ([103, 116], [62], true), ([113, 117, 111, 116], [34], true), ([97, 112, 111, 115], [39], true),
   ([110, 98, 115, 112], [194, 160], false), ([99, 111, 108, 111, 110], [58], false), ([108, 112, 97, 114], [40], false), ([114, 112, 97, 114], [41], false), ([116, 97, 98], [9], false)]
def lookM : List (List UInt8 × List UInt8 × Bool) → List UInt8 → List UInt8
  | [], _ => []
  | e :: r, l => if e.1 = l then e.2.1 else lookM r l
def nameM (l : List UInt8) : List UInt8 := lookM tabM l
theorem look_mem : ∀ (T : List (List UInt8 × List UInt8 × Bool)) (l : List UInt8), lookM T l = [] ∨ ∃ e ∈ T, e.1 = l ∧ e.2.1 = lookM T l
  | [], _ => .inl rfl
  | e :: r, l => by
    unfold lookM
    by_cases h : e.1 = l
    · rw [if_pos h]; exact .inr ⟨e, by simp, h, rfl⟩
    · rw [if_neg h]
      rcases look_mem r l with g | ⟨d, hd, g⟩
      · exact .inl g
      · exact .inr ⟨d, by simp [hd], g⟩
/-- A name that stands for something is one of ten, and what it stands for is no longer than itself. -/
theorem name_len (l : List UInt8) (h : nameM l ≠ []) : l.length ≤ 5 ∧ (nameM l).length ≤ 2 ∧ 2 ≤ l.length := by
  rcases look_mem tabM l with g | ⟨e, he, h1, h2⟩
  · exact absurd g h
  · have : ∀ d ∈ tabM, d.1.length ≤ 5 ∧ d.2.1.length ≤ 2 ∧ 2 ≤ d.1.length := by decide
    have := this e he
    rw [h1] at this
    have h3 : e.2.1 = nameM l := h2
    rw [← h3]; exact this
/-! ### the numbers -/
def digM (B : Nat) (c : UInt8) : Option Nat :=
  let n := c.toNat
  if 48 ≤ n ∧ n ≤ 57 then (if n - 48 < B then some (n - 48) else none)
  else if 97 ≤ n ∧ n ≤ 102 then (if n - 87 < B then some (n - 87) else none)
  else if 65 ≤ n ∧ n ≤ 70 then (if n - 55 < B then some (n - 55) else none)
  else none
theorem digM_lt {B : Nat} {c : UInt8} {d : Nat} (h : digM B c = some d) : d < B ∧ d < 16 := by
  unfold digM at h
  simp only at h
  repeat' split at h
  all_goals first
    | (cases h; done)
    | (injection h with h; omega)
/-- The number behind these digits, from n on. -/
def numF (B : Nat) : Nat → List UInt8 → Option Nat
  | n, [] => some n
  | n, c :: r => match digM B c with
    | some d => numF B (n * B + d) r
    | none => none
/-- That of a text of digits; none, if it is empty. -/
def numD (B : Nat) (l : List UInt8) : Option Nat := if l = [] then none else numF B 0 l
/-- Of at most so many. -/
def numU (B m : Nat) (l : List UInt8) : Option Nat := if l.length < 1 ∨ m < l.length then none else numF B 0 l
theorem numU_eq (B m : Nat) (l : List UInt8) (h : l.length ≤ m) : numU B m l = numD B l := by
  unfold numU numD
  cases l with
  | nil => simp
  | cons c r => rw [if_neg (by simp; simp at h; omega), if_neg (by simp)]
theorem numF_lt (B : Nat) : ∀ (l : List UInt8) (n m k : Nat), numF B n l = some m → n + 1 ≤ B ^ k → m + 1 ≤ B ^ (k + l.length)
  | [], n, m, k, h, hn => by injection h with h; subst h; exact hn
  | c :: r, n, m, k, h, hn => by
    unfold numF at h
    cases hd : digM B c with
    | none => rw [hd] at h; cases h
    | some d =>
      rw [hd] at h
      have hl := (digM_lt hd).1
      have := numF_lt B r (n * B + d) m (k + 1) h (by
        rw [Nat.pow_succ]
        calc n * B + d + 1 ≤ n * B + B := by omega
          _ = (n + 1) * B := by rw [Nat.add_mul, Nat.one_mul]
          _ ≤ B ^ k * B := Nat.mul_le_mul_right _ hn)
      rw [show k + (c :: r).length = k + 1 + r.length by simp; omega]
      exact this
/-- The number that stands between & and ;. -/
def numM (l : List UInt8) : Option Nat :=
  if l.head? = some 35 then (if (l.drop 1).head? = some 120 ∨ (l.drop 1).head? = some 88 then numU 16 6 (l.drop 2) else numU 10 7 (l.drop 1)) else none
theorem num_sharp (r : List UInt8) : numM (35 :: r) = if r.head? = some 120 ∨ r.head? = some 88 then numU 16 6 (r.drop 1) else numU 10 7 r := by
  unfold numM
  rw [if_pos (by rfl)]
  rfl
theorem num_plain (l : List UInt8) (h : l.head? ≠ some 35) : numM l = none := by
  unfold numM
  rw [if_neg h]
theorem num_lt {l : List UInt8} {n : Nat} (h : numM l = some n) : n < 16777216 := by
  cases l with
  | nil => cases h
  | cons a r =>
    by_cases ha : a = 35
    · subst ha
      rw [num_sharp] at h
      split at h
      · by_cases hl : (r.drop 1).length < 1 ∨ 6 < (r.drop 1).length
        · unfold numU at h; rw [if_pos hl] at h; cases h
        · unfold numU at h; rw [if_neg hl] at h
          have := numF_lt 16 _ 0 n 0 h (by simp)
          have h2 : (16 : Nat) ^ (0 + (r.drop 1).length) ≤ 16 ^ 6 := Nat.pow_le_pow_right (by decide) (by omega)
          omega
      · by_cases hl : r.length < 1 ∨ 7 < r.length
        · unfold numU at h; rw [if_pos hl] at h; cases h
        · unfold numU at h; rw [if_neg hl] at h
          have := numF_lt 10 _ 0 n 0 h (by simp)
          have h2 : (10 : Nat) ^ (0 + r.length) ≤ 10 ^ 7 := Nat.pow_le_pow_right (by decide) (by omega)
          omega
    · rw [num_plain _ (by simpa using ha)] at h; cases h
theorem num_len {l : List UInt8} {n : Nat} (h : numM l = some n) : l.length ≤ 8 ∧ 2 ≤ l.length := by
  cases l with
  | nil => cases h
  | cons a r =>
    by_cases ha : a = 35
    · subst ha
      rw [num_sharp] at h
      split at h
      · by_cases hl : (r.drop 1).length < 1 ∨ 6 < (r.drop 1).length
        · unfold numU at h; rw [if_pos hl] at h; cases h
        · rw [List.length_drop] at hl; simp only [List.length_cons]; omega
      · by_cases hl : r.length < 1 ∨ 7 < r.length
        · unfold numU at h; rw [if_pos hl] at h; cases h
        · simp only [List.length_cons]; omega
    · rw [num_plain _ (by simpa using ha)] at h; cases h

/-! ### a sign's text -/
def badT : List UInt8 := [239, 191, 189]
/-- What stands between & and ; stands for, and whether its number is none. -/
def signM (l : List UInt8) : Option (List UInt8 × Bool) :=
  if nameM l ≠ [] then some (nameM l, false)
  else match numM l with
    | none => none
    | some n => if n = 0 ∨ ¬ isPt n then some (badT, true) else some (encN n, false)
theorem sign_name {l : List UInt8} (h : nameM l ≠ []) : signM l = some (nameM l, false) := if_pos h
theorem sign_none {l : List UInt8} (h : nameM l = []) (h2 : numM l = none) : signM l = none := by
  unfold signM; rw [if_neg (by simpa using h), h2]
theorem sign_bad {l : List UInt8} {n : Nat} (h : nameM l = []) (h2 : numM l = some n) (h3 : n = 0 ∨ ¬ isPt n) : signM l = some (badT, true) := by
  unfold signM; rw [if_neg (by simpa using h), h2]; exact if_pos h3
theorem sign_point {l : List UInt8} {n : Nat} (h : nameM l = []) (h2 : numM l = some n) (h3 : n ≠ 0) (h4 : isPt n) : signM l = some (encN n, false) := by
  unfold signM; rw [if_neg (by simpa using h), h2]; exact if_neg (by rintro (g | g); exact h3 g; exact g h4)
theorem sign_len {l t : List UInt8} {b : Bool} (h : signM l = some (t, b)) : l.length ≤ 8 ∧ 2 ≤ l.length ∧ 1 ≤ t.length ∧ t.length ≤ l.length + 2 := by
  by_cases hn : nameM l = []
  · cases hm : numM l with
    | none => rw [sign_none hn hm] at h; cases h
    | some n =>
      have hl := num_len hm
      by_cases h3 : n = 0 ∨ ¬ isPt n
      · rw [sign_bad hn hm h3] at h
        injection h with h; injection h with h h'; subst h; subst h'
        exact ⟨hl.1, hl.2, by decide, by have e3 : badT.length = 3 := rfl; omega⟩
      · have h4 : isPt n := Classical.byContradiction fun g => h3 (.inr g)
        rw [sign_point hn hm (fun g => h3 (.inl g)) h4] at h
        injection h with h; injection h with h h'; subst h; subst h'
        have := encN_length n
        exact ⟨hl.1, hl.2, this.1, by omega⟩
  · rw [sign_name hn] at h
    injection h with h; injection h with h h'; subst h; subst h'
    have := name_len l hn
    have h2 : 1 ≤ (nameM l).length := List.length_pos_iff.2 hn
    exact ⟨by omega, this.2.2, h2, by omega⟩
theorem sign_long {l : List UInt8} (h : 8 < l.length) : signM l = none := by
  cases hs : signM l with
  | none => rfl
  | some p => have := (sign_len (t := p.1) (b := p.2) (by rw [hs])).1; omega

/-- The place of the first ;. -/
def semi : List UInt8 → Option Nat
  | [] => none
  | c :: r => if c = 59 then some 0 else (semi r).map (· + 1)
theorem semi_lt : ∀ {l : List UInt8} {k : Nat}, semi l = some k → k < l.length ∧ l[k]? = some 59 ∧ 59 ∉ l.take k
  | [], k, h => by cases h
  | c :: r, k, h => by
    unfold semi at h
    by_cases hc : c = 59
    · rw [if_pos hc] at h; injection h with h; subst h; subst hc; simp
    · rw [if_neg hc] at h
      cases hs : semi r with
      | none => rw [hs] at h; cases h
      | some j =>
        rw [hs] at h
        have h := Option.some.inj h
        simp only at h
        subst h
        obtain ⟨h1, h2, h3⟩ := semi_lt hs
        refine ⟨by simp; omega, by simpa using h2, ?_⟩
        simp only [List.take_succ_cons, List.mem_cons, not_or]
        exact ⟨fun e => hc e.symm, h3⟩
theorem semi_of : ∀ (a r : List UInt8), 59 ∉ a → semi (a ++ 59 :: r) = some a.length
  | [], r, _ => by simp [semi]
  | c :: a, r, h => by
    simp only [List.mem_cons, not_or] at h
    unfold semi
    rw [List.cons_append]
    simp only
    rw [if_neg (fun e => h.1 e.symm), semi_of a r h.2]
    rfl
theorem semi_not : ∀ (l : List UInt8), 59 ∉ l → semi l = none
  | [], _ => rfl
  | c :: r, h => by
    simp only [List.mem_cons, not_or] at h
    unfold semi
    rw [if_neg (fun e => h.1 e.symm), semi_not r h.2]
    rfl
/-- A sign's text that a text begins with: what it stands for, whether its number is none, its size. -/
def firstM : List UInt8 → Option (List UInt8 × Bool × Nat)
  | 38 :: r => match semi r with
    | some k => (signM (r.take k)).map fun p => (p.1, p.2, k + 2)
    | none => none
  | _ => none
theorem first_amp (r : List UInt8) : firstM (38 :: r) = match semi r with
    | some k => (signM (r.take k)).map fun p => (p.1, p.2, k + 2)
    | none => none := rfl
theorem first_plain (c : UInt8) (r : List UInt8) (h : c ≠ 38) : firstM (c :: r) = none := by
  unfold firstM
  split
  · rename_i h2; injection h2 with h2; exact absurd h2 h
  · rfl
theorem first_len {l t : List UInt8} {b : Bool} {k : Nat} (h : firstM l = some (t, b, k)) : 4 ≤ k ∧ k ≤ 10 ∧ k ≤ l.length ∧ 1 ≤ t.length ∧ t.length ≤ k := by
  cases l with
  | nil => cases h
  | cons c r =>
    by_cases hc : c = 38
    · subst hc
      rw [first_amp] at h
      cases hs : semi r with
      | none => rw [hs] at h; cases h
      | some j =>
        rw [hs] at h
        simp only at h
        obtain ⟨h1, _, _⟩ := semi_lt hs
        cases hg : signM (r.take j) with
        | none => rw [hg] at h; cases h
        | some p =>
          rw [hg] at h
          injection h with h
          injection h with e1 h
          injection h with e2 e3
          subst e1; subst e2; subst e3
          have hl := sign_len (t := p.1) (b := p.2) (by rw [hg])
          rw [List.length_take] at hl
          simp only [List.length_cons]
          omega
    · rw [first_plain c r hc] at h; cases h

/-! ### the whole text -/
def decF : Nat → Nat → List UInt8 → List UInt8 × List Nat
  | 0, _, _ => ([], [])
  | _ + 1, _, [] => ([], [])
  | f + 1, n, c :: r => match firstM (c :: r) with
    | some (t, b, k) => (t ++ (decF f (n + k) ((c :: r).drop k)).1, (if b then [n] else []) ++ (decF f (n + k) ((c :: r).drop k)).2)
    | none => (c :: (decF f (n + 1) r).1, (decF f (n + 1) r).2)
def decT (n : Nat) (l : List UInt8) : List UInt8 × List Nat := decF l.length n l
theorem decF_nil (f n : Nat) : decF f n [] = ([], []) := by cases f <;> rfl
theorem decF_more : ∀ (f g n : Nat) (l : List UInt8), l.length ≤ f → l.length ≤ g → decF f n l = decF g n l
  | 0, g, n, l, hf, _ => by
    have : l = [] := List.length_eq_zero_iff.1 (by omega)
    rw [this, decF_nil, decF_nil]
  | f + 1, 0, n, l, _, hg => by
    have : l = [] := List.length_eq_zero_iff.1 (by omega)
    rw [this, decF_nil, decF_nil]
  | f + 1, g + 1, n, [], _, _ => by rw [decF_nil, decF_nil]
  | f + 1, g + 1, n, c :: r, hf, hg => by
    simp only [List.length_cons] at hf hg
    unfold decF
    cases hs : firstM (c :: r) with
    | none => simp only; rw [decF_more f g (n + 1) r (by omega) (by omega)]
    | some p =>
      obtain ⟨t, b, k⟩ := p
      have := first_len hs
      simp only
      rw [decF_more f g (n + k) ((c :: r).drop k) (by simp; omega) (by simp; omega)]
theorem decT_nil (n : Nat) : decT n [] = ([], []) := rfl
theorem decT_sign (n : Nat) {l t : List UInt8} {b : Bool} {k : Nat} (h : firstM l = some (t, b, k)) : decT n l = (t ++ (decT (n + k) (l.drop k)).1, (if b then [n] else []) ++ (decT (n + k) (l.drop k)).2) := by
  cases l with
  | nil => cases h
  | cons c r =>
    have hl := first_len h
    unfold decT
    rw [List.length_cons]
    conv => lhs; unfold decF
    rw [h]
    simp only
    rw [decF_more r.length ((c :: r).drop k).length (n + k) ((c :: r).drop k) (by simp; omega) (Nat.le_refl _)]
theorem decT_plain (n : Nat) (c : UInt8) (r : List UInt8) (h : firstM (c :: r) = none) : decT n (c :: r) = (c :: (decT (n + 1) r).1, (decT (n + 1) r).2) := by
  unfold decT
  rw [List.length_cons]
  conv => lhs; unfold decF
  rw [h]
/-- The places move with the text; the text does not. -/
theorem decT_shift (n m : Nat) (l : List UInt8) : decT (n + m) l = ((decT n l).1, (decT n l).2.map (· + m)) := by
  generalize hn : l.length = f
  induction f using Nat.strongRecOn generalizing l n with
  | _ f ih =>
    cases l with
    | nil => rfl
    | cons c r =>
      cases hs : firstM (c :: r) with
      | none =>
        rw [decT_plain _ _ _ hs, decT_plain _ _ _ hs]
        have := ih r.length (by subst hn; simp) (n + 1) r rfl
        rw [show n + m + 1 = n + 1 + m by omega, this]
      | some p =>
        obtain ⟨t, b, k⟩ := p
        have hl := first_len hs
        rw [decT_sign _ hs, decT_sign _ hs]
        have := ih ((c :: r).drop k).length (by subst hn; simp; omega) (n + k) ((c :: r).drop k) rfl
        rw [show n + m + k = n + k + m by omega, this]
        cases b <;> simp
theorem decT_len (n : Nat) (l : List UInt8) : (decT n l).1.length ≤ l.length ∧ (decT n l).2.length ≤ l.length := by
  generalize hn : l.length = f
  induction f using Nat.strongRecOn generalizing l n with
  | _ f ih =>
    cases l with
    | nil => simp [decT_nil]
    | cons c r =>
      cases hs : firstM (c :: r) with
      | none =>
        rw [decT_plain _ _ _ hs]
        have := ih r.length (by subst hn; simp) (n + 1) r rfl
        subst hn
        simp; omega
      | some p =>
        obtain ⟨t, b, k⟩ := p
        have hl := first_len hs
        rw [decT_sign _ hs]
        have := ih ((c :: r).drop k).length (by subst hn; simp; omega) (n + k) ((c :: r).drop k) rfl
        subst hn
        simp only [List.length_append, List.length_drop] at this ⊢
        have hb : (if b then [n] else ([] : List Nat)).length ≤ 1 := by cases b <;> simp
        omega

/-- Each place lies in the text. -/
theorem decT_place (n : Nat) (l : List UInt8) : ∀ i ∈ (decT n l).2, i ≤ n + l.length := by
  generalize hn : l.length = f
  induction f using Nat.strongRecOn generalizing l n with
  | _ f ih =>
    cases l with
    | nil => intro i hi; rw [decT_nil] at hi; cases hi
    | cons c r =>
      subst hn
      cases hs : firstM (c :: r) with
      | none =>
        rw [decT_plain _ _ _ hs]
        intro i hi
        have := ih r.length (by simp) (n + 1) r rfl i hi
        simp only [List.length_cons]
        omega
      | some p =>
        obtain ⟨t, b, k⟩ := p
        have hl := first_len hs
        rw [decT_sign _ hs]
        intro i hi
        rcases List.mem_append.1 hi with hi | hi
        · cases b
          · cases hi
          · simp only [if_true, List.mem_singleton] at hi; omega
        · have := ih ((c :: r).drop k).length (by simp; omega) (n + k) ((c :: r).drop k) rfl i hi
          rw [List.length_drop] at this
          omega
/-- A text without & is decoded as itself, whatever comes behind it. -/
theorem dec_ahead : ∀ (a b : List UInt8) (n : Nat), 38 ∉ a → decT n (a ++ b) = (a ++ (decT (n + a.length) b).1, (decT (n + a.length) b).2)
  | [], b, n, _ => by simp
  | c :: a, b, n, h => by
    simp only [List.mem_cons, not_or] at h
    rw [List.cons_append, decT_plain n c (a ++ b) (first_plain c _ (fun e => h.1 e.symm)), dec_ahead a b (n + 1) h.2]
    simp only [List.length_cons, List.cons_append]
    rw [show n + 1 + a.length = n + (a.length + 1) by omega]
/-! ### encoded -/
def encB (c : UInt8) : List UInt8 :=
  if c = 38 then [38, 97, 109, 112, 59]
  else if c = 60 then [38, 108, 116, 59]
  else if c = 62 then [38, 103, 116, 59]
  else if c = 34 then [38, 113, 117, 111, 116, 59]
  else if c = 39 then [38, 97, 112, 111, 115, 59]
  else [c]
def encT (l : List UInt8) : List UInt8 := l.flatMap encB
theorem encT_nil : encT [] = [] := rfl
theorem encT_cons (c : UInt8) (r : List UInt8) : encT (c :: r) = encB c ++ encT r := rfl
theorem encB_len (c : UInt8) : 1 ≤ (encB c).length ∧ (encB c).length ≤ 6 := by
  unfold encB
  repeat' split
  all_goals simp
theorem encT_len (l : List UInt8) : l.length ≤ (encT l).length ∧ (encT l).length ≤ 6 * l.length := by
  induction l with
  | nil => simp [encT_nil]
  | cons c r ih =>
    have := encB_len c
    rw [encT_cons, List.length_append]
    simp only [List.length_cons]
    omega
theorem encB_other {c : UInt8} (h1 : c ≠ 38) (h2 : c ≠ 60) (h3 : c ≠ 62) (h4 : c ≠ 34) (h5 : c ≠ 39) : encB c = [c] := by
  unfold encB; rw [if_neg h1, if_neg h2, if_neg h3, if_neg h4, if_neg h5]
theorem encB_clean (c : UInt8) : ∀ x ∈ encB c, x ≠ 60 ∧ x ≠ 62 ∧ x ≠ 34 ∧ x ≠ 39 := by
  by_cases h1 : c = 38
  · subst h1; decide
  by_cases h2 : c = 60
  · subst h2; decide
  by_cases h3 : c = 62
  · subst h3; decide
  by_cases h4 : c = 34
  · subst h4; decide
  by_cases h5 : c = 39
  · subst h5; decide
  rw [encB_other h1 h2 h3 h4 h5]
  intro x hx
  simp only [List.mem_singleton] at hx
  subst hx
  exact ⟨h2, h3, h4, h5⟩
theorem encT_clean (l : List UInt8) : ∀ x ∈ encT l, x ≠ 60 ∧ x ≠ 62 ∧ x ≠ 34 ∧ x ≠ 39 := by
  intro x hx
  unfold encT at hx
  obtain ⟨c, _, h⟩ := List.mem_flatMap.1 hx
  exact encB_clean c x h
/-- A name's text is read off, whatever comes behind it. -/
theorem first_named (a r t : List UInt8) (ha : 59 ∉ a) (h : signM a = some (t, false)) : firstM (38 :: a ++ 59 :: r) = some (t, false, a.length + 2) := by
  rw [List.cons_append, first_amp, semi_of a r ha]
  simp only
  rw [List.take_left, h]
  rfl
theorem dec_named (n : Nat) (a r t : List UInt8) (ha : 59 ∉ a) (h : signM a = some (t, false)) : decT n (38 :: a ++ 59 :: r) = (t ++ (decT (n + (a.length + 2)) r).1, (decT (n + (a.length + 2)) r).2) := by
  rw [decT_sign n (first_named a r t ha h)]
  have : (38 :: a ++ 59 :: r).drop (a.length + 2) = r := by
    rw [List.cons_append, show a.length + 2 = (a.length + 1) + 1 by omega, List.drop_succ_cons, List.drop_append]
    simp
  rw [this]
  simp
theorem dec_encB (n : Nat) (c : UInt8) (r : List UInt8) : decT n (encB c ++ r) = (c :: (decT (n + (encB c).length) r).1, (decT (n + (encB c).length) r).2) := by
  by_cases h1 : c = 38
  · subst h1; exact dec_named n [97, 109, 112] r [38] (by decide) (by decide)
  by_cases h2 : c = 60
  · subst h2; exact dec_named n [108, 116] r [60] (by decide) (by decide)
  by_cases h3 : c = 62
  · subst h3; exact dec_named n [103, 116] r [62] (by decide) (by decide)
  by_cases h4 : c = 34
  · subst h4; exact dec_named n [113, 117, 111, 116] r [34] (by decide) (by decide)
  by_cases h5 : c = 39
  · subst h5; exact dec_named n [97, 112, 111, 115] r [39] (by decide) (by decide)
  rw [encB_other h1 h2 h3 h4 h5]
  have := dec_ahead [c] r n (by simpa using fun e => h1 e.symm)
  simpa using this
theorem dec_enc (l : List UInt8) : ∀ n, decT n (encT l) = (l, []) := by
  induction l with
  | nil => intro n; rfl
  | cons c r ih =>
    intro n
    rw [encT_cons, dec_encB, ih]

end Go.Proofs.YtfbhpmafjehojaaGreatDoor

namespace Go.Proofs.YtfbhpmafjehojaaGreatDoor

/-- A token: kind, name, data, attributes, whether it is closed. -/
structure Tk where
  k : Int
  n : List UInt8
  d : List UInt8
  a : List (List UInt8 × List UInt8)
  c : Bool
/-- A Fail: its code, its place. -/
abbrev Fl := Int × Nat

/-! ### names, places -/
def letB (c : UInt8) : Bool := decide (97 ≤ c.toNat ∧ c.toNat ≤ 122) || decide (65 ≤ c.toNat ∧ c.toNat ≤ 90)
def scriptN : List UInt8 := [115, 99, 114, 105, 112, 116]
def styleN : List UInt8 := [115, 116, 121, 108, 101]
def areaN : List UInt8 := [116, 101, 120, 116, 97, 114, 101, 97]
def titleN : List UInt8 := [116, 105, 116, 108, 101]
def rawM (l : List UInt8) : Bool := decide (l = scriptN) || decide (l = styleN) || decide (l = areaN) || decide (l = titleN)
/-- Of these the text is decoded. -/
def softM (l : List UInt8) : Bool := decide (l = areaN) || decide (l = titleN)
/-- The place of a text's first beginning. -/
def findT (t : List UInt8) : List UInt8 → Option Nat
  | [] => if t = [] then some 0 else none
  | c :: r => if t.isPrefixOf (c :: r) then some 0 else (findT t r).map (· + 1)
theorem findT_le (t : List UInt8) : ∀ (l : List UInt8) (k : Nat), findT t l = some k → k + t.length ≤ l.length
  | [], k, h => by
    unfold findT at h
    split at h
    · rename_i ht
      subst ht
      cases h
      simp
    · cases h
  | c :: r, k, h => by
    unfold findT at h
    split at h
    · rename_i hp
      cases h
      have := (List.isPrefixOf_iff_prefix.1 hp).length_le
      simpa using this
    · cases hf : findT t r with
      | none => rw [hf] at h; cases h
      | some m =>
        rw [hf] at h
        cases h
        have := findT_le t r m hf
        simp
        omega
def nameE (c : UInt8) : Bool := blk c || c == 47 || c == 62
def attrE (c : UInt8) : Bool := nameE c || c == 61
def wordE (c : UInt8) : Bool := blk c || c == 62
def decL (n : Nat) (l : List UInt8) : List UInt8 × List Fl := ((decT n l).1, (decT n l).2.map fun i => ((130 : Int), i))

/-! ### tags -/
/-- An attribute's value, off what stands behind its '=' and the blanks: the value, its Fails, how many bytes; none: it is cut. -/
def valueM (n : Nat) (l : List UInt8) : Option ((List UInt8 × List Fl) × Nat) :=
  match l with
  | q :: r => if q = 34 ∨ q = 39 then (if r.findIdx (· == q) < r.length then some (decL (n + 1) (r.take (r.findIdx (· == q))), r.findIdx (· == q) + 2) else none)
    else some (decL n (l.take (l.findIdx wordE)), l.findIdx wordE)
  | [] => some (([], []), 0)
/-- An attribute that begins here: its name, its value, the value's Fails, how many bytes; none: it is cut. -/
def attrM (n : Nat) (l : List UInt8) : Option (List UInt8 × (List UInt8 × List Fl) × Nat) :=
  let e := 1 + (l.drop 1).findIdx attrE
  let b := (l.drop e).findIdx fun c => !blk c
  let r := l.drop (e + b)
  if r.head? = some 61 then
    let z := (r.drop 1).findIdx fun c => !blk c
    (valueM (n + (e + b + 1 + z)) (r.drop (1 + z))).map fun (v, k) => (low (l.take e), v, e + b + 1 + z + k)
  else some (low (l.take e), ([], []), e)
/-- What an attribute is to a tag: its attributes, and the Fail, if any. -/
def takeM (st : Bool) (as : List (List UInt8 × List UInt8)) (n : Nat) (x v : List UInt8) : List (List UInt8 × List UInt8) × List Fl :=
  if st then
    if as.any (fun y => y.1 == x) then (as, [(142, n)])
    else if 30 ≤ as.length then (as, [(2, n)])
    else (as ++ [(x, v)], [])
  else (as, [])
/-- A tag's inside, from behind its name to its '>': attributes, Fails, whether a '/' was right ahead, the place of the '>'. -/
def insideF : Nat → Bool → Nat → List UInt8 → List (List UInt8 × List UInt8) → List Fl → Bool → Option (List (List UInt8 × List UInt8) × List Fl × Bool × Nat)
  | 0, _, _, _, _, _, _ => none
  | f + 1, st, n, l, as, fl, sl =>
    match l with
    | [] => none
    | c :: r =>
      if c = 62 then some (as, fl, sl, n)
      else if c = 47 ∨ blk c = true then insideF f st (n + 1) r as fl (c == 47)
      else
        match attrM n (c :: r) with
        | none => none
        | some (x, v, k) => insideF f st (n + k) ((c :: r).drop k) (takeM st as n x v.1).1 (fl ++ (takeM st as n x v.1).2 ++ v.2) false

/-! ### what stands where -/
/-- One step: the token or the text, the Fails, how many bytes, the raw name that is next. -/
structure Step where
  t : Option Tk
  f : List Fl
  k : Nat
  r : List UInt8
/-- A tag whose name is d bytes behind here. -/
def tagM (st : Bool) (d n : Nat) (l : List UInt8) : Step :=
  let e := d + (l.drop d).findIdx nameE
  match insideF (l.length + 1) st (n + e) (l.drop e) [] [] false with
  | none => ⟨none, [(140, n)], l.length, []⟩
  | some (as, fl, sl, p) => ⟨some ⟨if st then 2 else 3, low ((l.drop d).take ((l.drop d).findIdx nameE)), [], as, st && sl⟩, fl, p + 1 - n, if st && rawM (low ((l.drop d).take ((l.drop d).findIdx nameE))) then low ((l.drop d).take ((l.drop d).findIdx nameE)) else []⟩
/-- A comment, a doctype: its text d bytes behind here, up to z. -/
def noteM (k : Int) (d n : Nat) (z l : List UInt8) : Step :=
  match findT z (l.drop d) with
  | none => ⟨some ⟨k, [], if k = 5 then trim (l.drop d) else l.drop d, [], false⟩, [(140, n)], l.length, []⟩
  | some m => ⟨some ⟨k, [], if k = 5 then trim ((l.drop d).take m) else (l.drop d).take m, [], false⟩, [], d + m + z.length, []⟩
def beginsM (t l : List UInt8) : Bool := decide (t.length ≤ l.length) && decide (low (l.take t.length) = t)
def textT (d : List UInt8) : Tk := ⟨1, [], d, [], false⟩
/-- A '<' stands here. -/
def signS (n : Nat) (l : List UInt8) : Step :=
  let c1 := l.getD 1 0
  let c2 := l.getD 2 0
  if 2 ≤ l.length ∧ letB c1 = true then tagM true 1 n l
  else if 3 ≤ l.length ∧ c1 = 47 ∧ letB c2 = true then tagM false 2 n l
  else if beginsM [60, 33, 45, 45] l = true then noteM 4 4 n [45, 45, 62] l
  else if beginsM [60, 33, 100, 111, 99, 116, 121, 112, 101] l = true then noteM 5 9 n [62] l
  else if 2 ≤ l.length ∧ (c1 = 33 ∨ c1 = 63 ∨ c1 = 47) then { noteM 4 2 n [62] l with f := (141, n) :: (noteM 4 2 n [62] l).f }
  else ⟨some (textT [60]), [(141, n)], 1, []⟩
/-- The place of a raw name's end. -/
def endM (x : List UInt8) : List UInt8 → Nat
  | [] => 0
  | c :: r => if beginsM (60 :: 47 :: x) (c :: r) = true ∧ (((c :: r)[2 + x.length]?).any fun y => nameE y) = true then 0 else endM x r + 1
theorem endM_le (x : List UInt8) : ∀ l : List UInt8, endM x l ≤ l.length
  | [] => Nat.le_refl _
  | c :: r => by
    unfold endM
    split
    · exact Nat.zero_le _
    · have := endM_le x r
      simp
      omega
/-- A raw name's text stands here. -/
def rawS (x : List UInt8) (n : Nat) (l : List UInt8) : Step :=
  let e := endM x l
  let v := if softM x then decL n (l.take e) else (l.take e, [])
  ⟨some (textT v.1), v.2 ++ (if e = l.length then [(140, n)] else []), e, []⟩
def stepM (x : List UInt8) (n : Nat) (l : List UInt8) : Step :=
  if x ≠ [] then rawS x n l
  else if l.head? = some 60 then signS n l
  else ⟨some (textT (decL n (l.take (l.findIdx (· == 60)))).1), (decL n (l.take (l.findIdx (· == 60)))).2, l.findIdx (· == 60), []⟩
/-- A token more: a text joins the one ahead of it, and an empty one is none. -/
def pushM (L : List Tk) : Option Tk → List Tk
  | none => L
  | some t =>
    if t.k = 1 then
      if t.d = [] then L
      else match L.getLast? with
        | some u => if u.k = 1 then L.dropLast ++ [{ u with d := u.d ++ t.d }] else L ++ [t]
        | none => L ++ [t]
    else L ++ [t]
/-- The document's reader, from a place on. -/
def readF : Nat → List UInt8 → Nat → List UInt8 → List Tk → List Fl → List Tk × List Fl
  | 0, _, _, _, L, F => (L, F)
  | f + 1, x, n, l, L, F =>
    if l = [] ∧ x = [] then (L, F)
    else readF f (stepM x n l).r (n + (stepM x n l).k) (l.drop (stepM x n l).k) (pushM L (stepM x n l).t) (F ++ (stepM x n l).f)
def readM (l : List UInt8) : List Tk × List Fl := readF (l.length + 2) [] 0 l [] []

/-! ### tokens' text -/
def attrT (y : List UInt8 × List UInt8) : List UInt8 := 32 :: y.1 ++ [61, 34] ++ encT y.2 ++ [34]
def startT (t : Tk) : List UInt8 := 60 :: t.n ++ t.a.flatMap attrT ++ (if t.c then [47, 62] else [62])
/-- Does a text behind this one stay as it is? -/
def hardM (t : Option Tk) : Bool := t.any fun u => decide (u.k = 2) && (decide (u.n = scriptN) || decide (u.n = styleN))
def printT (hard : Bool) (t : Tk) : List UInt8 :=
  if t.k = 1 then (if hard then t.d else encT t.d)
  else if t.k = 2 then startT t
  else if t.k = 3 then 60 :: 47 :: t.n ++ [62]
  else if t.k = 4 then [60, 33, 45, 45] ++ t.d ++ [45, 45, 62]
  else if t.k = 5 then [60, 33, 100, 111, 99, 116, 121, 112, 101, 32] ++ t.d ++ [62]
  else []
def printF (b : Option Tk) : List Tk → List UInt8
  | [] => []
  | t :: L => printT (hardM b) t ++ printF (some t) L
def printM (L : List Tk) : List UInt8 := printF none L

end Go.Proofs.YtfbhpmafjehojaaGreatDoor

namespace Go.Proofs.YtfbhpmafjehojaaGreatDoor

theorem idx_at (p : UInt8 → Bool) : ∀ (a : List UInt8) (c : UInt8) (r : List UInt8), (∀ b ∈ a, p b = false) → p c = true → (a ++ c :: r).findIdx p = a.length
  | [], c, r, _, hc => by simp [List.findIdx_cons, hc]
  | b :: a, c, r, ha, hc => by
    rw [List.cons_append, List.findIdx_cons, ha b (by simp), idx_at p a c r (fun x hx => ha x (by simp [hx])) hc]
    rfl
theorem idx_none (p : UInt8 → Bool) : ∀ (a : List UInt8), (∀ b ∈ a, p b = false) → a.findIdx p = a.length
  | [], _ => rfl
  | b :: a, ha => by
    rw [List.findIdx_cons, ha b (by simp), idx_none p a (fun x hx => ha x (by simp [hx]))]
    rfl
theorem idx_zero (p : UInt8 → Bool) (c : UInt8) (r : List UInt8) (hc : p c = true) : (c :: r).findIdx p = 0 := by simp [List.findIdx_cons, hc]
theorem decL_enc (n : Nat) (l : List UInt8) : decL n (encT l) = (l, []) := by
  unfold decL
  rw [dec_enc]
  rfl

/-- What an attribute's name is. -/
def AttrOk (x : List UInt8) : Prop := ∃ c r, x = c :: r ∧ nameE c = false ∧ (∀ b ∈ r, attrE b = false) ∧ low x = x
theorem value_text (n : Nat) (v rest : List UInt8) : valueM n (34 :: encT v ++ 34 :: rest) = some ((v, []), (encT v).length + 2) := by
  have h := idx_at (· == 34) (encT v) 34 rest (fun b hb => by have := (encT_clean v b hb).2.2.1; simpa using this) (by simp)
  have hl : (encT v).length < (encT v ++ 34 :: rest).length := by simp
  rw [List.cons_append]
  unfold valueM
  simp only [true_or, if_true]
  rw [h, if_pos hl, List.take_left, decL_enc]
theorem attr_text (n : Nat) (x v rest : List UInt8) (hx : AttrOk x) : attrM n (x ++ [61, 34] ++ encT v ++ 34 :: rest) = some (x, (v, []), x.length + 2 + ((encT v).length + 1)) := by
  obtain ⟨c, r, rfl, hc, hr, hlow⟩ := hx
  have e0 : (c :: r) ++ [61, 34] ++ encT v ++ 34 :: rest = (c :: r) ++ 61 :: (34 :: encT v ++ 34 :: rest) := by simp
  rw [e0]
  have e1 : ((c :: r ++ 61 :: (34 :: encT v ++ 34 :: rest)).drop 1).findIdx attrE = r.length := by
    rw [List.cons_append, List.drop_succ_cons, List.drop_zero]
    exact idx_at attrE r 61 _ hr (by decide)
  have e2 : (c :: r ++ 61 :: (34 :: encT v ++ 34 :: rest)).drop (1 + r.length) = 61 :: (34 :: encT v ++ 34 :: rest) := by
    rw [show 1 + r.length = (c :: r).length by simp; omega]
    exact List.drop_left
  have e3 : (61 :: (34 :: encT v ++ 34 :: rest)).findIdx (fun c => !blk c) = 0 := idx_zero _ _ _ (by decide)
  have e4 : (34 :: encT v ++ 34 :: rest).findIdx (fun c => !blk c) = 0 := idx_zero _ _ _ (by decide)
  have e5 : (c :: r ++ 61 :: (34 :: encT v ++ 34 :: rest)).take (1 + r.length) = c :: r := by
    rw [show 1 + r.length = (c :: r).length by simp; omega]
    exact List.take_left
  unfold attrM
  simp only [e1, e2, e3, e5, Nat.add_zero, List.head?_cons, if_true]
  rw [List.drop_succ_cons, List.drop_zero, e4]
  simp only [Nat.add_zero, List.drop_succ_cons, List.drop_zero]
  rw [value_text, hlow]
  simp
  omega

theorem take_new (as : List (List UInt8 × List UInt8)) (n : Nat) (x v : List UInt8) (hn : ∀ y ∈ as, y.1 ≠ x) (hl : as.length < 30) : takeM true as n x v = (as ++ [(x, v)], []) := by
  unfold takeM
  have : as.any (fun y => y.1 == x) = false := by
    rw [List.any_eq_false]
    intro y hy
    simpa using hn y hy
  rw [this]
  simp
  omega
/-- A start tag's inside is read as it is. -/
theorem inside_text : ∀ (bs as : List (List UInt8 × List UInt8)) (f n : Nat) (cl : Bool) (rest : List UInt8), (∀ y ∈ bs, AttrOk y.1) → ((as ++ bs).map Prod.fst).Nodup → (as ++ bs).length ≤ 30 → 2 * bs.length + 3 ≤ f → insideF f true n (bs.flatMap attrT ++ ((if cl then [47, 62] else [62]) ++ rest)) as [] false = some (as ++ bs, [], cl, n + (bs.flatMap attrT).length + (if cl then 1 else 0))
  | [], as, f, n, cl, rest, _, _, _, hf => by
    obtain ⟨g, rfl⟩ : ∃ g, f = g + 3 := ⟨f - 3, by simp at hf; omega⟩
    cases cl
    · simp [insideF]
    · simp [insideF]
  | (x, v) :: bs, as, f, n, cl, rest, hb, hd, hl, hf => by
    obtain ⟨g, rfl⟩ : ∃ g, f = g + 2 := ⟨f - 2, by simp at hf; omega⟩
    have hx := hb (x, v) (by simp)
    have hn : ∀ y ∈ as, y.1 ≠ x := by
      intro y hy e
      rw [List.map_append, List.nodup_append] at hd
      exact hd.2.2 y.1 (List.mem_map_of_mem hy) x (by simp) e
    have hlen : as.length < 30 := by
      rw [List.length_append] at hl
      simp at hl
      omega
    have e0 : ((x, v) :: bs).flatMap attrT ++ ((if cl then [47, 62] else [62]) ++ rest) = 32 :: (x ++ [61, 34] ++ encT v ++ 34 :: (bs.flatMap attrT ++ ((if cl then [47, 62] else [62]) ++ rest))) := by
      rw [List.flatMap_cons]
      unfold attrT
      simp
    have ha := attr_text (n + 1) x v (bs.flatMap attrT ++ ((if cl then [47, 62] else [62]) ++ rest)) hx
    have e1 : (x ++ [61, 34] ++ encT v ++ 34 :: (bs.flatMap attrT ++ ((if cl then [47, 62] else [62]) ++ rest))).drop (x.length + 2 + ((encT v).length + 1)) = bs.flatMap attrT ++ ((if cl then [47, 62] else [62]) ++ rest) := by
      have : x ++ [61, 34] ++ encT v ++ 34 :: (bs.flatMap attrT ++ ((if cl then [47, 62] else [62]) ++ rest)) = (x ++ [61, 34] ++ encT v ++ [34]) ++ (bs.flatMap attrT ++ ((if cl then [47, 62] else [62]) ++ rest)) := by simp
      rw [this, show x.length + 2 + ((encT v).length + 1) = (x ++ [61, 34] ++ encT v ++ [34]).length by simp; omega]
      exact List.drop_left
    have ih := inside_text bs (as ++ [(x, v)]) g (n + 1 + (x.length + 2 + ((encT v).length + 1))) cl rest (fun y hy => hb y (by simp [hy])) (by rw [List.append_assoc]; exact hd) (by rw [List.append_assoc]; exact hl) (by simp at hf; omega)
    obtain ⟨c, r, hxe, hc, hr, hlow⟩ := hx
    rw [e0]
    have hxe : x = c :: r := hxe
    have hstep : ∀ (T y : List UInt8) (u : List UInt8 × List Fl) (k : Nat), attrM (n + 1) (c :: T) = some (y, u, k) → insideF (g + 2) true n (32 :: (c :: T)) as [] false = insideF g true (n + 1 + k) ((c :: T).drop k) (takeM true as (n + 1) y u.1).1 ([] ++ (takeM true as (n + 1) y u.1).2 ++ u.2) false := by
      intro T y u k hk
      have hc2 : c ≠ 62 ∧ ¬ (c = 47 ∨ blk c = true) := by
        unfold nameE at hc
        simp only [Bool.or_eq_false_iff, beq_eq_false_iff_ne] at hc
        exact ⟨hc.2, fun h => by rcases h with h | h; exact hc.1.2 h; rw [hc.1.1] at h; cases h⟩
      rw [insideF]
      simp only [show ((32 : UInt8) = 62) = False by simp, if_false, show ((32 : UInt8) = 47 ∨ blk 32 = true) = True by simp [blk], if_true]
      rw [insideF]
      simp only [hc2.1, hc2.2, if_false, hk]
    have ex : x ++ [61, 34] ++ encT v ++ 34 :: (bs.flatMap attrT ++ ((if cl then [47, 62] else [62]) ++ rest)) = c :: (r ++ [61, 34] ++ encT v ++ 34 :: (bs.flatMap attrT ++ ((if cl then [47, 62] else [62]) ++ rest))) := by rw [hxe]; simp
    rw [ex] at ha e1 ⊢
    rw [hstep _ _ _ _ ha, e1]
    rw [take_new as (n + 1) x v hn hlen]
    simp only [List.append_nil]
    rw [ih]
    simp only [List.append_assoc, List.singleton_append, List.flatMap_cons]
    congr 4
    unfold attrT
    simp
    omega

/-- What a tag's name is. -/
def NameOk (x : List UInt8) : Prop := ∃ c r, x = c :: r ∧ 97 ≤ c.toNat ∧ c.toNat ≤ 122 ∧ (∀ b ∈ c :: r, nameE b = false) ∧ low x = x
theorem flat_len : ∀ bs : List (List UInt8 × List UInt8), 2 * bs.length ≤ (bs.flatMap attrT).length
  | [] => Nat.zero_le _
  | y :: bs => by
    have := flat_len bs
    rw [List.flatMap_cons, List.length_append]
    have h : 2 ≤ (attrT y).length := by
      unfold attrT
      simp only [List.length_append, List.length_cons, List.length_nil]
      omega
    simp only [List.length_cons]
    omega
/-- A start tag as it is told. -/
def StartOk (t : Tk) : Prop := t.k = 2 ∧ NameOk t.n ∧ t.d = [] ∧ (∀ y ∈ t.a, AttrOk y.1) ∧ (t.a.map Prod.fst).Nodup ∧ t.a.length ≤ 30
theorem start_text (t : Tk) (h : StartOk t) (n : Nat) (rest : List UInt8) : tagM true 1 n (startT t ++ rest) = ⟨some t, [], (startT t).length, if rawM t.n then t.n else []⟩ := by
  obtain ⟨k, x, d, as, cl⟩ := t
  obtain ⟨h1, ⟨c, r, h2, _, _, h3, h4⟩, h5, h6, h7, h8⟩ := h
  dsimp only at h1 h2 h4 h5 h6 h7 h8
  subst h1 h5
  have e0 : startT ⟨2, x, [], as, cl⟩ ++ rest = 60 :: (x ++ (as.flatMap attrT ++ ((if cl then [47, 62] else [62]) ++ rest))) := by
    unfold startT
    simp
  obtain ⟨z, R, hz, hR⟩ : ∃ z R, as.flatMap attrT ++ ((if cl then [47, 62] else [62]) ++ rest) = z :: R ∧ nameE z = true := by
    cases as with
    | nil => cases cl <;> exact ⟨_, _, rfl, by decide⟩
    | cons y bs => exact ⟨_, _, rfl, by decide⟩
  have e1 : (x ++ (as.flatMap attrT ++ ((if cl then [47, 62] else [62]) ++ rest))).findIdx nameE = x.length := by
    rw [hz]
    exact idx_at nameE x z R (by rw [h2]; exact h3) hR
  have e2 : (60 :: (x ++ (as.flatMap attrT ++ ((if cl then [47, 62] else [62]) ++ rest)))).drop (1 + x.length) = as.flatMap attrT ++ ((if cl then [47, 62] else [62]) ++ rest) := by
    rw [show 1 + x.length = x.length + 1 by omega, List.drop_succ_cons]
    exact List.drop_left
  have hfl := flat_len as
  have e3 := inside_text as [] ((60 :: (x ++ (as.flatMap attrT ++ ((if cl then [47, 62] else [62]) ++ rest)))).length + 1) (n + (1 + x.length)) cl rest h6 h7 h8 (by
    have : 1 ≤ x.length := by rw [h2]; simp
    cases cl <;> (simp only [List.length_append, List.length_cons, List.length_nil, Bool.false_eq_true, if_true, if_false]; omega))
  rw [e0]
  unfold tagM
  simp only [List.drop_succ_cons, List.drop_zero, e1, e2, e3, if_true, Bool.true_and, List.nil_append, List.take_left, h4]
  congr 1
  unfold startT
  cases cl <;> (simp only [List.length_append, List.length_cons, List.length_nil, Bool.false_eq_true, if_true, if_false]; omega)
def EndOk (t : Tk) : Prop := t.k = 3 ∧ NameOk t.n ∧ t.d = [] ∧ t.a = [] ∧ t.c = false
theorem end_text (t : Tk) (h : EndOk t) (n : Nat) (rest : List UInt8) : tagM false 2 n ((60 :: 47 :: t.n ++ [62]) ++ rest) = ⟨some t, [], (60 :: 47 :: t.n ++ [62]).length, []⟩ := by
  obtain ⟨k, x, d, as, cl⟩ := t
  obtain ⟨h1, ⟨c, r, h2, _, _, h3, h4⟩, h5, h6, h7⟩ := h
  dsimp only at h1 h2 h4 h5 h6 h7 ⊢
  subst h1 h5 h6 h7
  have e0 : (60 :: 47 :: x ++ [62]) ++ rest = 60 :: 47 :: (x ++ 62 :: rest) := by simp
  have e1 : (x ++ 62 :: rest).findIdx nameE = x.length := idx_at nameE x 62 rest (by rw [h2]; exact h3) (by decide)
  have e2 : (60 :: 47 :: (x ++ 62 :: rest)).drop (2 + x.length) = 62 :: rest := by
    rw [show 2 + x.length = x.length + 1 + 1 by omega, List.drop_succ_cons, List.drop_succ_cons]
    exact List.drop_left
  rw [e0]
  unfold tagM
  simp only [List.drop_succ_cons, List.drop_zero, e1, e2]
  rw [insideF]
  simp [h4]
  omega

end Go.Proofs.YtfbhpmafjehojaaGreatDoor

namespace Go.Proofs.YtfbhpmafjehojaaGreatDoor

theorem findT_at (z : List UInt8) (hz : z ≠ []) : ∀ (d rest : List UInt8), findT z (d ++ z) = some d.length → findT z (d ++ z ++ rest) = some d.length
  | [], rest, _ => by
    obtain ⟨c, r, rfl⟩ := List.exists_cons_of_ne_nil hz
    rw [List.nil_append, List.cons_append, findT, if_pos (List.isPrefixOf_iff_prefix.2 (by rw [← List.cons_append]; exact List.prefix_append _ _))]
    rfl
  | c :: d, rest, h => by
    rw [List.cons_append, findT] at h
    rw [List.cons_append, List.cons_append, findT]
    by_cases hp : z.isPrefixOf (c :: (d ++ z)) = true
    · rw [if_pos hp] at h
      cases h
    · rw [if_neg hp] at h
      have hp2 : ¬ z.isPrefixOf (c :: (d ++ z ++ rest)) = true := fun h2 => hp (by
        rw [List.isPrefixOf_iff_prefix] at h2 ⊢
        rw [← List.cons_append] at h2
        exact List.prefix_of_prefix_length_le h2 (List.prefix_append _ _) (by simp; omega))
      rw [if_neg hp2]
      cases hf : findT z (d ++ z) with
      | none => rw [hf] at h; cases h
      | some m =>
        rw [hf] at h
        have hm : m = d.length := by simpa using h
        rw [findT_at z hz d rest (by rw [hf, hm])]
        rfl
theorem begins_app (t l rest : List UInt8) (h : t.length ≤ l.length) : beginsM t (l ++ rest) = beginsM t l := by
  unfold beginsM
  rw [List.take_append_of_le_length h]
  have h1 : t.length ≤ (l ++ rest).length := by simp; omega
  rw [decide_eq_true h, decide_eq_true h1]
theorem endM_at (x : List UInt8) : ∀ (d rest : List UInt8), endM x (d ++ (60 :: 47 :: x ++ [62])) = d.length → endM x (d ++ (60 :: 47 :: x ++ [62]) ++ rest) = d.length
  | [], rest, h => by
    rw [List.nil_append] at h ⊢
    rw [show (60 :: 47 :: x ++ [62] : List UInt8) = 60 :: (47 :: x ++ [62]) from rfl] at h ⊢
    rw [endM] at h
    rw [List.cons_append, endM]
    by_cases hc : beginsM (60 :: 47 :: x) (60 :: (47 :: x ++ [62])) = true ∧ (((60 :: (47 :: x ++ [62]))[2 + x.length]?).any fun y => nameE y) = true
    · rw [← List.cons_append, begins_app _ _ _ (by simp), List.getElem?_append_left (by simp; omega), if_pos hc]
      rfl
    · rw [if_neg hc] at h
      cases h
  | c :: d, rest, h => by
    rw [List.cons_append, endM] at h
    rw [List.cons_append, List.cons_append, endM, ← List.cons_append, begins_app _ _ _ (by simp; omega), List.getElem?_append_left (by simp; omega)]
    by_cases hc : beginsM (60 :: 47 :: x) (c :: (d ++ (60 :: 47 :: x ++ [62]))) = true ∧ (((c :: (d ++ (60 :: 47 :: x ++ [62])))[2 + x.length]?).any fun y => nameE y) = true
    · rw [if_pos hc] at h
      cases h
    · rw [if_neg hc] at h
      rw [if_neg hc, endM_at x d rest (by simpa using h)]
      rfl
theorem low_of_ok {x : List UInt8} (h : low x = x) : low (60 :: 47 :: x) = 60 :: 47 :: x := by
  have : low (60 :: 47 :: x) = 60 :: 47 :: low x := rfl
  rw [this, h]
theorem endM_here (x rest : List UInt8) (hx : low x = x) : endM x (60 :: 47 :: x ++ [62] ++ rest) = 0 := by
  have e : (60 :: 47 :: x ++ [62] ++ rest : List UInt8) = 60 :: (47 :: x ++ [62] ++ rest) := rfl
  rw [e, endM, if_pos]
  refine ⟨?_, ?_⟩
  · rw [← e]
    unfold beginsM
    have h1 : (60 :: 47 :: x ++ [62] ++ rest).take (60 :: 47 :: x).length = 60 :: 47 :: x := by
      rw [List.append_assoc]
      exact List.take_left
    rw [h1, low_of_ok hx]
    simp
  · rw [← e, show (60 :: 47 :: x ++ [62] ++ rest : List UInt8) = (60 :: 47 :: x) ++ 62 :: rest by simp, List.getElem?_append_right (by simp; omega)]
    simp [nameE, show 2 + x.length - (x.length + 1 + 1) = 0 by omega]
theorem endM_soft (x : List UInt8) (hx : low x = x) : ∀ (d rest : List UInt8), 60 ∉ d → endM x (d ++ (60 :: 47 :: x ++ [62]) ++ rest) = d.length
  | [], rest, _ => by rw [List.nil_append]; exact endM_here x rest hx
  | c :: d, rest, h => by
    have hb : beginsM (60 :: 47 :: x) (c :: (d ++ (60 :: 47 :: x ++ [62]) ++ rest)) = false := by
      unfold beginsM
      rw [Bool.and_eq_false_iff]
      refine .inr (decide_eq_false fun e => ?_)
      rw [List.length_cons, List.take_succ_cons] at e
      have e2 : lowB c = 60 := (List.cons.inj e).1
      have : c = 60 := by
        unfold lowB at e2
        split at e2
        · rename_i hh
          exfalso
          have := congrArg UInt8.toNat e2
          rw [UInt8.toNat_add] at this
          simp at this
          omega
        · exact e2
      exact h (by rw [this]; simp)
    rw [List.cons_append, List.cons_append, endM, if_neg (by rw [hb]; simp), endM_soft x hx d rest (fun hh => h (by simp [hh]))]
    rfl

def TextOk (t : Tk) : Prop := t.k = 1 ∧ t.n = [] ∧ t.a = [] ∧ t.c = false ∧ t.d ≠ []
def NoteOk (t : Tk) : Prop := t.k = 4 ∧ t.n = [] ∧ t.a = [] ∧ t.c = false ∧ findT [45, 45, 62] (t.d ++ [45, 45, 62]) = some t.d.length
def DocOk (t : Tk) : Prop := t.k = 5 ∧ t.n = [] ∧ t.a = [] ∧ t.c = false ∧ 62 ∉ t.d ∧ trim (32 :: t.d) = t.d
def HardOk (x d : List UInt8) : Prop := softM x = false → endM x (d ++ (60 :: 47 :: x ++ [62])) = d.length
/-- Tokens as a reader tells them: x is the raw name whose text is next, lt whether a text is ahead. -/
def WF : List UInt8 → Bool → List Tk → Prop
  | x, _, [] => x = []
  | x, lt, t :: L =>
    (x = [] ∧ TextOk t ∧ lt = false ∧ WF [] true L) ∨
    (x = [] ∧ StartOk t ∧ WF (if rawM t.n then t.n else []) false L) ∨
    (x = [] ∧ (EndOk t ∨ NoteOk t ∨ DocOk t) ∧ WF [] false L) ∨
    (x ≠ [] ∧ TextOk t ∧ HardOk x t.d ∧ (∃ e M, L = e :: M ∧ EndOk e ∧ e.n = x) ∧ WF [] true L) ∨
    (x ≠ [] ∧ EndOk t ∧ t.n = x ∧ WF [] false L)
theorem push_other (L : List Tk) (t : Tk) (h : t.k ≠ 1) : pushM L (some t) = L ++ [t] := by
  unfold pushM
  simp only [h, if_false]
theorem push_text (L : List Tk) (t : Tk) (h1 : t.k = 1) (h : t.d ≠ []) (hl : ∀ u, L.getLast? = some u → u.k ≠ 1) : pushM L (some t) = L ++ [t] := by
  unfold pushM
  simp only [h1, if_true, h, if_false]
  cases hg : L.getLast? with
  | none => rfl
  | some u => simp only [hl u hg, if_false]
theorem push_empty (L : List Tk) : pushM L (some (textT [])) = L := by
  unfold pushM textT
  simp

end Go.Proofs.YtfbhpmafjehojaaGreatDoor

namespace Go.Proofs.YtfbhpmafjehojaaGreatDoor

def lastT (L : List Tk) (lt : Bool) : Prop := ∀ u, L.getLast? = some u → (u.k = 1 ↔ lt = true)
theorem last_app (L : List Tk) (t : Tk) (b : Bool) (h : t.k = 1 ↔ b = true) : lastT (L ++ [t]) b := by
  intro u hu
  rw [List.getLast?_append] at hu
  simp at hu
  subst hu
  exact h
theorem sign_start (t : Tk) (h : StartOk t) (n : Nat) (rest : List UInt8) : stepM [] n (startT t ++ rest) = ⟨some t, [], (startT t).length, if rawM t.n then t.n else []⟩ := by
  obtain ⟨c, r, h2, h3, h4, _, _⟩ := h.2.1
  have e : startT t ++ rest = 60 :: c :: (r ++ t.a.flatMap attrT ++ (if t.c then [47, 62] else [62]) ++ rest) := by
    unfold startT
    rw [h2]
    simp
  have hs : signS n (startT t ++ rest) = tagM true 1 n (startT t ++ rest) := by
    unfold signS
    have h5 : (startT t ++ rest).getD 1 0 = c := by rw [e]; rfl
    have h6 : 2 ≤ (startT t ++ rest).length := by rw [e]; simp
    simp only [h5]
    rw [if_pos ⟨h6, by unfold letB; simp; omega⟩]
  unfold stepM
  rw [if_neg (by simp), if_pos (by rw [e]; rfl), hs]
  exact start_text t h n rest
theorem sign_end (t : Tk) (h : EndOk t) (n : Nat) (rest : List UInt8) : stepM [] n ((60 :: 47 :: t.n ++ [62]) ++ rest) = ⟨some t, [], (60 :: 47 :: t.n ++ [62]).length, []⟩ := by
  obtain ⟨c, r, h2, h3, h4, _, _⟩ := h.2.1
  have e : (60 :: 47 :: t.n ++ [62]) ++ rest = 60 :: 47 :: c :: (r ++ [62] ++ rest) := by
    rw [h2]
    simp
  have hs : signS n ((60 :: 47 :: t.n ++ [62]) ++ rest) = tagM false 2 n ((60 :: 47 :: t.n ++ [62]) ++ rest) := by
    unfold signS
    have h5 : ((60 :: 47 :: t.n ++ [62]) ++ rest).getD 1 0 = 47 := by rw [e]; rfl
    have h7 : ((60 :: 47 :: t.n ++ [62]) ++ rest).getD 2 0 = c := by rw [e]; rfl
    have h6 : 3 ≤ ((60 :: 47 :: t.n ++ [62]) ++ rest).length := by rw [e]; simp
    simp only [h5, h7]
    rw [if_neg (fun hh => absurd hh.2 (by decide)), if_pos ⟨h6, trivial, by unfold letB; simp; omega⟩]
  unfold stepM
  rw [if_neg (by simp), if_pos (by rw [e]; rfl), hs]
  exact end_text t h n rest
theorem sign_note (t : Tk) (h : NoteOk t) (n : Nat) (rest : List UInt8) : stepM [] n (([60, 33, 45, 45] ++ t.d ++ [45, 45, 62]) ++ rest) = ⟨some t, [], ([60, 33, 45, 45] ++ t.d ++ [45, 45, 62]).length, []⟩ := by
  obtain ⟨k, x, d, as, cl⟩ := t
  obtain ⟨h1, h2, h3, h4, h5⟩ := h
  dsimp only at h1 h2 h3 h4 h5 ⊢
  subst h1 h2 h3 h4
  have e : ([60, 33, 45, 45] ++ d ++ [45, 45, 62]) ++ rest = 60 :: 33 :: 45 :: 45 :: (d ++ [45, 45, 62] ++ rest) := by simp
  have hb : beginsM [60, 33, 45, 45] (([60, 33, 45, 45] ++ d ++ [45, 45, 62]) ++ rest) = true := by
    rw [e]
    unfold beginsM
    simp [low, lowB]
  have hs : signS n (([60, 33, 45, 45] ++ d ++ [45, 45, 62]) ++ rest) = noteM 4 4 n [45, 45, 62] (([60, 33, 45, 45] ++ d ++ [45, 45, 62]) ++ rest) := by
    unfold signS
    have h5 : (([60, 33, 45, 45] ++ d ++ [45, 45, 62]) ++ rest).getD 1 0 = 33 := by rw [e]; rfl
    simp only [h5]
    rw [if_neg (fun hh => absurd hh.2 (by decide)), if_neg (fun hh => absurd hh.2.1 (by decide)), if_pos hb]
  unfold stepM
  rw [if_neg (by simp), if_pos (by rw [e]; rfl), hs]
  unfold noteM
  rw [e]
  simp only [List.drop_succ_cons, List.drop_zero]
  rw [findT_at _ (by simp) d rest h5]
  simp
  omega
theorem find_one (c : UInt8) : ∀ (d rest : List UInt8), c ∉ d → findT [c] (d ++ c :: rest) = some d.length
  | [], rest, _ => by rw [List.nil_append, findT, if_pos (by simp)]; rfl
  | b :: d, rest, h => by
    rw [List.cons_append, findT, if_neg (by simp; intro e; exact h (by simp [e])), find_one c d rest (fun hh => h (by simp [hh]))]
    rfl
theorem sign_doc (t : Tk) (h : DocOk t) (n : Nat) (rest : List UInt8) : stepM [] n (([60, 33, 100, 111, 99, 116, 121, 112, 101, 32] ++ t.d ++ [62]) ++ rest) = ⟨some t, [], ([60, 33, 100, 111, 99, 116, 121, 112, 101, 32] ++ t.d ++ [62]).length, []⟩ := by
  obtain ⟨k, x, d, as, cl⟩ := t
  obtain ⟨h1, h2, h3, h4, h5, h6⟩ := h
  dsimp only at h1 h2 h3 h4 h5 h6 ⊢
  subst h1 h2 h3 h4
  have e : ([60, 33, 100, 111, 99, 116, 121, 112, 101, 32] ++ d ++ [62]) ++ rest = 60 :: 33 :: 100 :: 111 :: 99 :: 116 :: 121 :: 112 :: 101 :: ((32 :: d) ++ 62 :: rest) := by simp
  have hb : beginsM [60, 33, 45, 45] (([60, 33, 100, 111, 99, 116, 121, 112, 101, 32] ++ d ++ [62]) ++ rest) = false := by
    rw [e]
    unfold beginsM
    simp [low, lowB]
  have hc : beginsM [60, 33, 100, 111, 99, 116, 121, 112, 101] (([60, 33, 100, 111, 99, 116, 121, 112, 101, 32] ++ d ++ [62]) ++ rest) = true := by
    rw [e]
    unfold beginsM
    simp [low, lowB]
  have hs : signS n (([60, 33, 100, 111, 99, 116, 121, 112, 101, 32] ++ d ++ [62]) ++ rest) = noteM 5 9 n [62] (([60, 33, 100, 111, 99, 116, 121, 112, 101, 32] ++ d ++ [62]) ++ rest) := by
    unfold signS
    have h5 : (([60, 33, 100, 111, 99, 116, 121, 112, 101, 32] ++ d ++ [62]) ++ rest).getD 1 0 = 33 := by rw [e]; rfl
    simp only [h5]
    rw [if_neg (fun hh => absurd hh.2 (by decide)), if_neg (fun hh => absurd hh.2.1 (by decide)), if_neg (by rw [hb]; simp), if_pos hc]
  unfold stepM
  rw [if_neg (by simp), if_pos (by rw [e]; rfl), hs]
  unfold noteM
  rw [e]
  simp only [List.drop_succ_cons, List.drop_zero]
  rw [find_one 62 (32 :: d) rest (by simp; exact h5)]
  simp only [List.take_left, if_true, h6]
  simp
  omega
theorem raw_soft (t : Tk) (h : TextOk t) (x : List UInt8) (hx : x ≠ []) (hs : softM x = true) (hl : low x = x) (n : Nat) (rest : List UInt8) : stepM x n (encT t.d ++ (60 :: 47 :: x ++ [62]) ++ rest) = ⟨some t, [], (encT t.d).length, []⟩ := by
  obtain ⟨k, y, d, as, cl⟩ := t
  obtain ⟨h1, h2, h3, h4, h5⟩ := h
  dsimp only at h1 h2 h3 h4 h5 ⊢
  subst h1 h2 h3 h4
  have he := endM_soft x hl (encT d) rest (fun hh => (encT_clean d 60 hh).1 rfl)
  unfold stepM
  rw [if_pos hx]
  unfold rawS
  simp only [he, hs, if_true]
  rw [List.append_assoc, List.take_left, decL_enc]
  rw [if_neg (by simp)]
  rfl
theorem raw_hard (t : Tk) (h : TextOk t) (x : List UInt8) (hx : x ≠ []) (hs : softM x = false) (ho : HardOk x t.d) (n : Nat) (rest : List UInt8) : stepM x n (t.d ++ (60 :: 47 :: x ++ [62]) ++ rest) = ⟨some t, [], t.d.length, []⟩ := by
  obtain ⟨k, y, d, as, cl⟩ := t
  obtain ⟨h1, h2, h3, h4, h5⟩ := h
  dsimp only at h1 h2 h3 h4 h5 ho ⊢
  subst h1 h2 h3 h4
  have he := endM_at x d rest (ho hs)
  unfold stepM
  rw [if_pos hx]
  unfold rawS
  simp only [he, hs, Bool.false_eq_true, if_false]
  rw [List.append_assoc, List.take_left]
  rw [if_neg (by simp)]
  rfl
theorem raw_none (x : List UInt8) (hx : x ≠ []) (hl : low x = x) (n : Nat) (rest : List UInt8) : stepM x n ((60 :: 47 :: x ++ [62]) ++ rest) = ⟨some (textT []), [], 0, []⟩ := by
  have he := endM_here x rest hl
  unfold stepM
  rw [if_pos hx]
  unfold rawS
  simp only [he, List.take_zero]
  have : decL n [] = ([], []) := decL_enc n []
  rw [this]
  simp
theorem text_step (t : Tk) (h : TextOk t) (n : Nat) (rest : List UInt8) (hr : rest = [] ∨ ∃ r, rest = 60 :: r) : stepM [] n (encT t.d ++ rest) = ⟨some t, [], (encT t.d).length, []⟩ := by
  obtain ⟨k, y, d, as, cl⟩ := t
  obtain ⟨h1, h2, h3, h4, h5⟩ := h
  dsimp only at h1 h2 h3 h4 h5 ⊢
  subst h1 h2 h3 h4
  have hcl : ∀ b ∈ encT d, (b == (60 : UInt8)) = false := fun b hb => by simpa using (encT_clean d b hb).1
  have hi : (encT d ++ rest).findIdx (· == 60) = (encT d).length := by
    rcases hr with rfl | ⟨r, rfl⟩
    · rw [List.append_nil]
      exact idx_none _ _ hcl
    · exact idx_at (· == 60) (encT d) 60 r hcl (by simp)
  obtain ⟨c, r, hd⟩ := List.exists_cons_of_ne_nil h5
  have hh : ¬ (encT d ++ rest).head? = some 60 := by
    have hl := (encB_len c).1
    obtain ⟨z, w, hz⟩ := List.exists_cons_of_ne_nil (l := encB c) (fun e => by rw [e] at hl; simp at hl)
    have := (encB_clean c z (by rw [hz]; simp)).1
    rw [hd, encT_cons, hz]
    simpa using this
  unfold stepM
  rw [if_neg (by simp), if_neg hh]
  simp only [hi, List.take_left, decL_enc]
  rfl

end Go.Proofs.YtfbhpmafjehojaaGreatDoor

namespace Go.Proofs.YtfbhpmafjehojaaGreatDoor

theorem hard_no (b : Option Tk) (h : ∀ u, b = some u → u.k ≠ 2) : hardM b = false := by
  cases b with
  | none => rfl
  | some u =>
    unfold hardM
    simp [h u rfl]
theorem hard_start (t : Tk) (h : t.k = 2) : hardM (some t) = (decide ((if rawM t.n then t.n else []) ≠ []) && !softM (if rawM t.n then t.n else [])) := by
  unfold hardM rawM softM
  simp only [Option.any_some, h, decide_true, Bool.true_and]
  by_cases h1 : t.n = scriptN
  · simp [h1, scriptN, styleN, areaN, titleN]
  · by_cases h2 : t.n = styleN
    · simp [h2, scriptN, styleN, areaN, titleN]
    · by_cases h3 : t.n = areaN
      · simp [h3, scriptN, styleN, areaN, titleN]
      · by_cases h4 : t.n = titleN
        · simp [h4, scriptN, styleN, areaN, titleN]
        · simp [h1, h2, h3, h4]
theorem readF_step (f : Nat) (x : List UInt8) (n : Nat) (l : List UInt8) (L : List Tk) (F : List Fl) (h : ¬ (l = [] ∧ x = [])) : readF (f + 1) x n l L F = readF f (stepM x n l).r (n + (stepM x n l).k) (l.drop (stepM x n l).k) (pushM L (stepM x n l).t) (F ++ (stepM x n l).f) := by
  rw [readF, if_neg h]
theorem readF_take (f : Nat) (x : List UInt8) (n : Nat) (a rest : List UInt8) (L : List Tk) (t : Tk) (r : List UInt8) (h : stepM x n (a ++ rest) = ⟨some t, [], a.length, r⟩) (hne : a ≠ []) (hp : pushM L (some t) = L ++ [t]) : readF (f + 1) x n (a ++ rest) L [] = readF f r (n + a.length) rest (L ++ [t]) [] := by
  rw [readF_step f x n (a ++ rest) L [] (fun hh => hne (List.append_eq_nil_iff.1 hh.1).1), h]
  simp only [List.drop_left, hp, List.append_nil]
theorem wf_low {x : List UInt8} {lt : Bool} {L : List Tk} (h : WF x lt L) (hx : x ≠ []) : low x = x := by
  have hn : ∀ {e : Tk}, EndOk e → low e.n = e.n := fun h => by
    obtain ⟨_, ⟨_, _, _, _, _, _, h2⟩, _⟩ := h
    exact h2
  cases L with
  | nil => exact absurd h hx
  | cons t L =>
    rcases h with ⟨h, _⟩ | ⟨h, _⟩ | ⟨h, _⟩ | ⟨_, _, _, ⟨e, M, _, h2, h3⟩, _⟩ | ⟨_, h2, h3, _⟩
    · exact absurd h hx
    · exact absurd h hx
    · exact absurd h hx
    · rw [← h3]; exact hn h2
    · rw [← h3]; exact hn h2
/-- What is behind a text begins with a '<', or is nothing. -/
theorem wf_front {b : Option Tk} {L : List Tk} (h : WF [] true L) : printF b L = [] ∨ ∃ r, printF b L = 60 :: r := by
  cases L with
  | nil => exact .inl rfl
  | cons t L =>
    refine .inr ?_
    rcases h with ⟨_, _, h, _⟩ | ⟨_, h, _⟩ | ⟨_, h, _⟩ | ⟨h, _⟩ | ⟨h, _⟩
    · cases h
    · refine ⟨t.n ++ t.a.flatMap attrT ++ (if t.c then [47, 62] else [62]) ++ printF (some t) L, ?_⟩
      rw [printF]
      unfold printT
      simp only [h.1, show ((2 : Int) = 1) = False by simp, if_false, if_true]
      unfold startT
      simp
    · rcases h with h | h | h
      · refine ⟨47 :: t.n ++ [62] ++ printF (some t) L, ?_⟩
        rw [printF]
        unfold printT
        simp only [h.1, show ((3 : Int) = 1) = False by simp, show ((3 : Int) = 2) = False by simp, if_false, if_true]
        simp
      · refine ⟨[33, 45, 45] ++ t.d ++ [45, 45, 62] ++ printF (some t) L, ?_⟩
        rw [printF]
        unfold printT
        simp only [h.1, show ((4 : Int) = 1) = False by simp, show ((4 : Int) = 2) = False by simp, show ((4 : Int) = 3) = False by simp, if_false, if_true]
        simp
      · refine ⟨[33, 100, 111, 99, 116, 121, 112, 101, 32] ++ t.d ++ [62] ++ printF (some t) L, ?_⟩
        rw [printF]
        unfold printT
        simp only [h.1, show ((5 : Int) = 1) = False by simp, show ((5 : Int) = 2) = False by simp, show ((5 : Int) = 3) = False by simp, show ((5 : Int) = 4) = False by simp, if_false, if_true]
        simp
    · exact absurd rfl h
    · exact absurd rfl h
theorem lastT_no {L : List Tk} (h : lastT L false) : ∀ u, L.getLast? = some u → u.k ≠ 1 := fun u hu h1 => by
  have := (h u hu).1 h1
  cases this
theorem print_end (hard : Bool) (t : Tk) (h : EndOk t) : printT hard t = 60 :: 47 :: t.n ++ [62] := by
  unfold printT
  simp only [h.1, show ((3 : Int) = 1) = False by simp, show ((3 : Int) = 2) = False by simp, if_false, if_true]
/-- TOKENS AS A READER TELLS THEM ARE READ AGAIN OFF THEIR TEXT, WITHOUT A FAIL. -/
theorem reread : ∀ (L : List Tk) (x : List UInt8) (lt : Bool) (b : Option Tk) (f n : Nat) (K : List Tk), WF x lt L → hardM b = (decide (x ≠ []) && !softM x) → lastT K lt → (x ≠ [] → lt = false) → (printF b L).length + (if x = [] then 0 else 1) + 1 ≤ f → readF f x n (printF b L) K [] = (K ++ L, [])
  | [], x, lt, b, f, n, K, hw, _, _, _, hf => by
    have hx : x = [] := hw
    subst hx
    obtain ⟨g, rfl⟩ : ∃ g, f = g + 1 := ⟨f - 1, by omega⟩
    rw [printF, readF, if_pos ⟨rfl, rfl⟩, List.append_nil]
  | t :: L, x, lt, b, f, n, K, hw, hh, hlast, hxl, hf => by
    obtain ⟨g, rfl⟩ : ∃ g, f = g + 1 := ⟨f - 1, by omega⟩
    have hlow := wf_low hw
    have hno : ∀ z : Tk, z.k ≠ 2 → hardM (some z) = (decide (([] : List UInt8) ≠ []) && !softM []) := fun z hz => by
      rw [hard_no _ (fun u hu => by cases hu; exact hz)]
      rfl
    rw [printF] at hf ⊢
    rw [List.length_append] at hf
    have fin : ∀ (a : List UInt8) (r : List UInt8) (q : Bool), printT (hardM b) t = a → a ≠ [] → stepM x n (a ++ printF (some t) L) = ⟨some t, [], a.length, r⟩ → pushM K (some t) = K ++ [t] → WF r q L → hardM (some t) = (decide (r ≠ []) && !softM r) → (t.k = 1 ↔ q = true) → (r ≠ [] → q = false) → (r ≠ [] → 2 ≤ a.length) → readF (g + 1) x n (printT (hardM b) t ++ printF (some t) L) K [] = (K ++ t :: L, []) := fun a r q h1 h2 h3 h4 h5 h6 h7 h8 h9 => by
      have ha : 1 ≤ a.length := by
        cases a with
        | nil => exact absurd rfl h2
        | cons c a => simp
      rw [h1] at hf ⊢
      rw [readF_take g x n a _ K t r h3 h2 h4, reread L r q (some t) g _ _ h5 h6 (last_app K t q h7) h8 (by
        by_cases hr : r = []
        · rw [if_pos hr]
          split at hf <;> omega
        · rw [if_neg hr]
          have := h9 hr
          split at hf <;> omega)]
      simp
    rcases hw with ⟨rfl, ht, hlt, hw⟩ | ⟨rfl, ht, hw⟩ | ⟨rfl, ht, hw⟩ | ⟨hx, ht, ho, ⟨e, M, rfl, he, hen⟩, hw⟩ | ⟨hx, ht, hen, hw⟩
    · have hd : hardM b = false := by rw [hh]; rfl
      have hp : printT (hardM b) t = encT t.d := by
        unfold printT
        rw [hd]
        simp only [ht.1, if_true, Bool.false_eq_true, if_false]
      have hne : encT t.d ≠ [] := fun e => by
        have := (encT_len t.d).1
        rw [e] at this
        exact ht.2.2.2.2 (List.length_eq_zero_iff.1 (by simpa using this))
      subst hlt
      exact fin _ [] true hp hne (text_step t ht n _ (wf_front hw)) (push_text K t ht.1 ht.2.2.2.2 (lastT_no hlast)) hw (hno t (by rw [ht.1]; decide)) (by simp [ht.1]) (fun h => absurd rfl h) (fun h => absurd rfl h)
    · have hp : printT (hardM b) t = startT t := by
        unfold printT
        simp only [ht.1, show ((2 : Int) = 1) = False by simp, if_false, if_true]
      exact fin _ _ false hp (by unfold startT; simp) (sign_start t ht n _) (push_other K t (by rw [ht.1]; decide)) hw (hard_start t ht.1) (by simp [ht.1]) (fun _ => rfl) (fun _ => by unfold startT; split <;> (simp; omega))
    · rcases ht with ht | ht | ht
      · exact fin _ [] false (print_end _ t ht) (by simp) (sign_end t ht n _) (push_other K t (by rw [ht.1]; decide)) hw (hno t (by rw [ht.1]; decide)) (by simp [ht.1]) (fun h => absurd rfl h) (fun h => absurd rfl h)
      · have hp : printT (hardM b) t = [60, 33, 45, 45] ++ t.d ++ [45, 45, 62] := by
          unfold printT
          simp only [ht.1, show ((4 : Int) = 1) = False by simp, show ((4 : Int) = 2) = False by simp, show ((4 : Int) = 3) = False by simp, if_false, if_true]
        exact fin _ [] false hp (by simp) (sign_note t ht n _) (push_other K t (by rw [ht.1]; decide)) hw (hno t (by rw [ht.1]; decide)) (by simp [ht.1]) (fun h => absurd rfl h) (fun h => absurd rfl h)
      · have hp : printT (hardM b) t = [60, 33, 100, 111, 99, 116, 121, 112, 101, 32] ++ t.d ++ [62] := by
          unfold printT
          simp only [ht.1, show ((5 : Int) = 1) = False by simp, show ((5 : Int) = 2) = False by simp, show ((5 : Int) = 3) = False by simp, show ((5 : Int) = 4) = False by simp, if_false, if_true]
        exact fin _ [] false hp (by simp) (sign_doc t ht n _) (push_other K t (by rw [ht.1]; decide)) hw (hno t (by rw [ht.1]; decide)) (by simp [ht.1]) (fun h => absurd rfl h) (fun h => absurd rfl h)
    · have hlt := hxl hx
      subst hlt
      have hpush := push_text K t ht.1 ht.2.2.2.2 (lastT_no hlast)
      have hrest : printF (some t) (e :: M) = (60 :: 47 :: x ++ [62]) ++ printF (some e) M := by
        rw [printF, print_end _ e he, hen]
      cases hs : softM x with
      | true =>
        have hd : hardM b = false := by rw [hh, hs]; simp
        have hp : printT (hardM b) t = encT t.d := by
          unfold printT
          rw [hd]
          simp only [ht.1, if_true, Bool.false_eq_true, if_false]
        have hne : encT t.d ≠ [] := fun e => by
          have := (encT_len t.d).1
          rw [e] at this
          exact ht.2.2.2.2 (List.length_eq_zero_iff.1 (by simpa using this))
        exact fin _ [] true hp hne (by rw [hrest, ← List.append_assoc]; exact raw_soft t ht x hx hs (hlow hx) n _) hpush hw (hno t (by rw [ht.1]; decide)) (by simp [ht.1]) (fun h => absurd rfl h) (fun h => absurd rfl h)
      | false =>
        have hd : hardM b = true := by rw [hh, hs]; simp [hx]
        have hp : printT (hardM b) t = t.d := by
          unfold printT
          rw [hd]
          simp only [ht.1, if_true]
        exact fin _ [] true hp ht.2.2.2.2 (by rw [hrest, ← List.append_assoc]; exact raw_hard t ht x hx hs ho n _) hpush hw (hno t (by rw [ht.1]; decide)) (by simp [ht.1]) (fun h => absurd rfl h) (fun h => absurd rfl h)
    · have hlt := hxl hx
      subst hlt
      have hp := print_end (hardM b) t ht
      obtain ⟨g2, rfl⟩ : ∃ g2, g = g2 + 1 := ⟨g - 1, by rw [if_neg hx] at hf; omega⟩
      rw [hp] at hf ⊢
      have h0 := raw_none x hx (hlow hx) n (printF (some t) L)
      rw [hen] at hf ⊢
      rw [readF_step (g2 + 1) x n _ K [] (fun hh => hx hh.2), h0]
      simp only [List.drop_zero, push_empty, List.append_nil, Nat.add_zero]
      have h1 := sign_end t ht n (printF (some t) L)
      rw [hen] at h1
      rw [readF_take g2 [] n _ _ K t [] h1 (by simp) (push_other K t (by rw [ht.1]; decide)), reread L [] false (some t) g2 _ _ hw (hno t (by rw [ht.1]; decide)) (last_app K t false (by simp [ht.1])) (fun h => absurd rfl h) (by rw [if_neg hx] at hf; simp at hf ⊢; omega)]
      simp
theorem read_print (L : List Tk) (h : WF [] false L) : readM (printM L) = (L, []) := by
  have := reread L [] false none ((printM L).length + 2) 0 [] h rfl (fun u hu => by cases hu) (fun h => absurd rfl h) (by rw [if_pos rfl]; unfold printM; omega)
  rw [List.nil_append] at this
  exact this

end Go.Proofs.YtfbhpmafjehojaaGreatDoor

namespace Go.Proofs.YtfbhpmafjehojaaGreatDoor

theorem nameE_low (c : UInt8) : nameE (lowB c) = nameE c := by
  unfold lowB
  split
  · rename_i h
    have h1 : nameE c = false := by
      unfold nameE blk
      simp only [Bool.or_eq_false_iff, beq_eq_false_iff_ne, List.contains_eq_mem, decide_eq_false_iff_not, List.mem_cons, List.not_mem_nil, or_false, not_or]
      refine ⟨⟨⟨?_, ?_, ?_, ?_, ?_⟩, ?_⟩, ?_⟩ <;> (intro e; subst e; revert h; decide)
    have h2 : nameE (c + 32) = false := by
      have hn : (c + 32).toNat = c.toNat + 32 := by
        rw [UInt8.toNat_add]
        simp
        omega
      have hb : ∀ z : UInt8, z.toNat < 97 → c + 32 ≠ z := fun z hz e => by rw [e] at hn; omega
      unfold nameE blk
      simp only [Bool.or_eq_false_iff, beq_eq_false_iff_ne, List.contains_eq_mem, decide_eq_false_iff_not, List.mem_cons, List.not_mem_nil, or_false, not_or]
      exact ⟨⟨⟨hb _ (by decide), hb _ (by decide), hb _ (by decide), hb _ (by decide), hb _ (by decide)⟩, hb _ (by decide)⟩, hb _ (by decide)⟩
    rw [h1, h2]
  · rfl
theorem attrE_low (c : UInt8) : attrE (lowB c) = attrE c := by
  unfold attrE
  rw [nameE_low]
  congr 1
  unfold lowB
  split
  · rename_i h
    have hn : (c + 32).toNat = c.toNat + 32 := by
      rw [UInt8.toNat_add]
      simp
      omega
    have h1 : c + 32 ≠ 61 := fun e => by rw [e] at hn; simp at hn; omega
    have h2 : c ≠ 61 := fun e => by subst e; simp at h
    rw [beq_eq_false_iff_ne.2 h1, beq_eq_false_iff_ne.2 h2]
  · rfl
theorem idx_before (p : UInt8 → Bool) : ∀ (l : List UInt8), ∀ b ∈ l.take (l.findIdx p), p b = false
  | [], b, hb => by simp at hb
  | c :: l, b, hb => by
    rw [List.findIdx_cons] at hb
    cases hc : p c with
    | true => rw [hc] at hb; simp at hb
    | false =>
      rw [hc] at hb
      simp only [cond_false, List.take_succ_cons, List.mem_cons] at hb
      rcases hb with rfl | hb
      · exact hc
      · exact idx_before p l b hb
theorem idx_le (p : UInt8 → Bool) (l : List UInt8) : l.findIdx p ≤ l.length := List.findIdx_le_length
theorem low_mem {l : List UInt8} {p : UInt8 → Bool} (hp : ∀ c, p (lowB c) = p c) (h : ∀ b ∈ l, p b = false) : ∀ b ∈ low l, p b = false := fun b hb => by
  unfold low at hb
  obtain ⟨c, hc, rfl⟩ := List.mem_map.1 hb
  rw [hp]
  exact h c hc
theorem value_len {n : Nat} {l : List UInt8} {v : List UInt8 × List Fl} {k : Nat} (h : valueM n l = some (v, k)) : k ≤ l.length := by
  unfold valueM at h
  cases l with
  | nil => cases h; exact Nat.le_refl _
  | cons q r =>
    dsimp only at h
    split at h
    · split at h
      · cases h
        simp
        omega
      · cases h
    · cases h
      exact idx_le _ _
theorem attr_ok {n : Nat} {c : UInt8} {r x : List UInt8} {v : List UInt8 × List Fl} {k : Nat} (hc : nameE c = false) (h : attrM n (c :: r) = some (x, v, k)) : AttrOk x ∧ 1 ≤ k ∧ k ≤ (c :: r).length := by
  have hle := idx_le attrE r
  have hx : AttrOk (low ((c :: r).take (1 + r.findIdx attrE))) := by
    refine ⟨lowB c, low (r.take (r.findIdx attrE)), ?_, ?_, ?_, low_low _⟩
    · rw [Nat.add_comm, List.take_succ_cons]
      rfl
    · rw [nameE_low]; exact hc
    · exact low_mem attrE_low (idx_before attrE r)
  unfold attrM at h
  simp only [List.drop_succ_cons, List.drop_zero] at h
  split at h
  · rename_i hq
    have hlt : 1 + r.findIdx attrE + ((c :: r).drop (1 + r.findIdx attrE)).findIdx (fun c => !blk c) < (c :: r).length := by
      rw [List.head?_drop] at hq
      exact (List.getElem?_eq_some_iff.1 hq).1
    cases hv : valueM (n + (1 + r.findIdx attrE + ((c :: r).drop (1 + r.findIdx attrE)).findIdx (fun c => !blk c) + 1 + (((c :: r).drop (1 + r.findIdx attrE + ((c :: r).drop (1 + r.findIdx attrE)).findIdx (fun c => !blk c))).drop 1).findIdx (fun c => !blk c))) (((c :: r).drop (1 + r.findIdx attrE + ((c :: r).drop (1 + r.findIdx attrE)).findIdx (fun c => !blk c))).drop (1 + (((c :: r).drop (1 + r.findIdx attrE + ((c :: r).drop (1 + r.findIdx attrE)).findIdx (fun c => !blk c))).drop 1).findIdx (fun c => !blk c))) with
    | none => rw [hv] at h; cases h
    | some y =>
      obtain ⟨u, m⟩ := y
      rw [hv] at h
      have hm := value_len hv
      have h3 := idx_le (fun c => !blk c) (((c :: r).drop (1 + r.findIdx attrE + ((c :: r).drop (1 + r.findIdx attrE)).findIdx (fun c => !blk c))).drop 1)
      simp only [List.length_drop] at hm h3
      cases h
      exact ⟨hx, by omega, by omega⟩
  · cases h
    exact ⟨hx, by omega, by simp; omega⟩

/-- Attributes as a start tag has them. -/
def AttrsOk (st : Bool) (as : List (List UInt8 × List UInt8)) : Prop := if st then (∀ y ∈ as, AttrOk y.1) ∧ (as.map Prod.fst).Nodup ∧ as.length ≤ 30 else as = []
theorem take_ok {st : Bool} {as : List (List UInt8 × List UInt8)} (n : Nat) {x : List UInt8} (v : List UInt8) (h : AttrsOk st as) (hx : AttrOk x) : AttrsOk st (takeM st as n x v).1 := by
  unfold AttrsOk takeM at *
  cases st with
  | false => exact h
  | true =>
    simp only [if_true] at h ⊢
    obtain ⟨h1, h2, h3⟩ := h
    split
    · exact ⟨h1, h2, h3⟩
    · rename_i hn
      split
      · exact ⟨h1, h2, h3⟩
      · rename_i hl
        refine ⟨fun y hy => ?_, ?_, by simp; omega⟩
        · rcases List.mem_append.1 hy with hy | hy
          · exact h1 y hy
          · rw [List.mem_singleton.1 hy]; exact hx
        · rw [List.map_append, List.nodup_append]
          refine ⟨h2, by simp, fun a ha b hb e => hn ?_⟩
          obtain ⟨y, hy, hya⟩ := List.mem_map.1 ha
          rw [List.any_eq_true]
          refine ⟨y, hy, ?_⟩
          simp at hb
          rw [hya, e, hb]
          simp
theorem inside_ok : ∀ (f : Nat) (st : Bool) (n : Nat) (l : List UInt8) (as : List (List UInt8 × List UInt8)) (fl : List Fl) (sl : Bool) (as2 : List (List UInt8 × List UInt8)) (fl2 : List Fl) (sl2 : Bool) (p : Nat), AttrsOk st as → insideF f st n l as fl sl = some (as2, fl2, sl2, p) → AttrsOk st as2 ∧ n ≤ p ∧ p < n + l.length ∧ (fl2 = [] → fl = [])
  | 0, _, _, _, _, _, _, _, _, _, _, _, h => by cases h
  | f + 1, st, n, l, as, fl, sl, as2, fl2, sl2, p, ha, h => by
    cases l with
    | nil => simp [insideF] at h
    | cons c r =>
      rw [insideF] at h
      split at h
      · cases h
        exact ⟨ha, Nat.le_refl _, by simp, fun h => h⟩
      · rename_i hc1
        split at h
        · obtain ⟨h1, h2, h3, h4⟩ := inside_ok f st (n + 1) r as fl _ as2 fl2 sl2 p ha h
          exact ⟨h1, by omega, by simp; omega, h4⟩
        · rename_i hc2
          cases hm : attrM n (c :: r) with
          | none => rw [hm] at h; cases h
          | some y =>
            obtain ⟨x, v, k⟩ := y
            rw [hm] at h
            have hne : nameE c = false := by
              unfold nameE
              simp only [not_or, Bool.not_eq_true] at hc2
              rw [hc2.2, beq_eq_false_iff_ne.2 hc2.1, beq_eq_false_iff_ne.2 hc1]
              rfl
            obtain ⟨hx, hk1, hk2⟩ := attr_ok hne hm
            obtain ⟨h1, h2, h3, h4⟩ := inside_ok f st (n + k) _ _ _ _ as2 fl2 sl2 p (take_ok n v.1 ha hx) h
            rw [List.length_drop] at h3
            exact ⟨h1, by omega, by omega, fun hh => (List.append_eq_nil_iff.1 (List.append_eq_nil_iff.1 (h4 hh)).1).1⟩

end Go.Proofs.YtfbhpmafjehojaaGreatDoor

namespace Go.Proofs.YtfbhpmafjehojaaGreatDoor

theorem low_back {c z : UInt8} (h : lowB c = z) (hz : z.toNat < 97) : c = z := by
  unfold lowB at h
  split at h
  · rename_i hh
    exfalso
    have := congrArg UInt8.toNat h
    rw [UInt8.toNat_add] at this
    simp at this
    omega
  · exact h
theorem let_low {c : UInt8} : letB c = true ↔ 97 ≤ (lowB c).toNat ∧ (lowB c).toNat ≤ 122 := by
  unfold letB lowB
  simp only [Bool.or_eq_true, decide_eq_true_eq]
  split
  · rename_i h
    rw [UInt8.toNat_add]
    simp
    omega
  · omega
theorem let_name {c : UInt8} (h : letB c = true) : nameE c = false := by
  rw [← nameE_low]
  have h2 := let_low.1 h
  have hb : ∀ z : UInt8, z.toNat < 97 → lowB c ≠ z := fun z hz e => by rw [e] at h2; omega
  unfold nameE blk
  simp only [Bool.or_eq_false_iff, beq_eq_false_iff_ne, List.contains_eq_mem, decide_eq_false_iff_not, List.mem_cons, List.not_mem_nil, or_false, not_or]
  exact ⟨⟨⟨hb _ (by decide), hb _ (by decide), hb _ (by decide), hb _ (by decide), hb _ (by decide)⟩, hb _ (by decide)⟩, hb _ (by decide)⟩
theorem name_ok {c : UInt8} (r : List UInt8) (h : letB c = true) : NameOk (low ((c :: r).take ((c :: r).findIdx nameE))) := by
  have h0 : (c :: r).findIdx nameE = r.findIdx nameE + 1 := by rw [List.findIdx_cons, let_name h]; rfl
  have hb := low_mem nameE_low (idx_before nameE (c :: r))
  rw [h0, List.take_succ_cons] at hb ⊢
  have h2 := let_low.1 h
  exact ⟨lowB c, low (r.take (r.findIdx nameE)), rfl, h2.1, h2.2, hb, low_low _⟩
/-- A tag that is told without a Fail. -/
theorem tag_ok (st : Bool) (d n : Nat) (l : List UInt8) (hn : NameOk (low ((l.drop d).take ((l.drop d).findIdx nameE)))) (h : (tagM st d n l).f = []) : ∃ t, (tagM st d n l).t = some t ∧ (if st then StartOk t ∧ (tagM st d n l).r = (if rawM t.n then t.n else []) else EndOk t ∧ (tagM st d n l).r = []) ∧ t.n = low ((l.drop d).take ((l.drop d).findIdx nameE)) ∧ d + 1 ≤ (tagM st d n l).k ∧ (tagM st d n l).k ≤ l.length := by
  have he := idx_le nameE (l.drop d)
  rw [List.length_drop] at he
  unfold tagM at h ⊢
  dsimp only at h ⊢
  cases hi : insideF (l.length + 1) st (n + (d + (l.drop d).findIdx nameE)) (l.drop (d + (l.drop d).findIdx nameE)) [] [] false with
  | none => rw [hi] at h; cases h
  | some y =>
    obtain ⟨as, fl, sl, p⟩ := y
    rw [hi] at h
    dsimp only at h ⊢
    obtain ⟨h1, h2, h3, _⟩ := inside_ok _ st _ _ _ _ _ _ _ _ _ (by unfold AttrsOk; cases st <;> simp) hi
    rw [List.length_drop] at h3
    refine ⟨_, rfl, ?_, rfl, by omega, by omega⟩
    cases st with
    | false =>
      simp only [Bool.false_eq_true, if_false, Bool.false_and]
      exact ⟨⟨rfl, hn, rfl, h1, rfl⟩, trivial⟩
    | true =>
      simp only [if_true, Bool.true_and]
      exact ⟨⟨rfl, hn, rfl, h1⟩, trivial⟩
/-- What begins with a raw name's end. -/
theorem end_front {x l : List UInt8} (hx : NameOk x) (h1 : beginsM (60 :: 47 :: x) l = true) (h2 : ((l[2 + x.length]?).any fun y => nameE y) = true) : ∃ c r, l = 60 :: 47 :: c :: r ∧ letB c = true ∧ low ((c :: r).take ((c :: r).findIdx nameE)) = x := by
  unfold beginsM at h1
  simp only [Bool.and_eq_true, decide_eq_true_eq] at h1
  obtain ⟨hl, ht⟩ := h1
  obtain ⟨c0, x', rfl, hc1, hc2, hx3, _⟩ := hx
  obtain ⟨a0, a1, a', hl', ha⟩ : ∃ a0 a1 a', l = a0 :: a1 :: a' ∧ True := by
    match l, hl with
    | a0 :: a1 :: a', _ => exact ⟨a0, a1, a', rfl, trivial⟩
  subst hl'
  rw [show (60 :: 47 :: (c0 :: x') : List UInt8).length = (c0 :: x').length + 1 + 1 by simp, List.take_succ_cons, List.take_succ_cons] at ht
  have e0 : lowB a0 = 60 := (List.cons.inj ht).1
  have e1 : lowB a1 = 47 := (List.cons.inj (List.cons.inj ht).2).1
  have e2 : low (a'.take (c0 :: x').length) = c0 :: x' := (List.cons.inj (List.cons.inj ht).2).2
  obtain rfl := low_back e0 (by decide)
  obtain rfl := low_back e1 (by decide)
  rw [show 2 + (c0 :: x').length = (c0 :: x').length + 1 + 1 by omega, List.getElem?_cons_succ, List.getElem?_cons_succ] at h2
  obtain ⟨z, hz, hz2⟩ : ∃ z, a'[(c0 :: x').length]? = some z ∧ nameE z = true := by
    cases hg : a'[(c0 :: x').length]? with
    | none => rw [hg] at h2; cases h2
    | some z => rw [hg] at h2; exact ⟨z, rfl, h2⟩
  have hlen := (List.getElem?_eq_some_iff.1 hz).1
  have hsp : a' = a'.take (c0 :: x').length ++ z :: a'.drop ((c0 :: x').length + 1) := by
    conv => lhs; rw [← List.take_append_drop (c0 :: x').length a']
    rw [List.drop_eq_getElem_cons hlen, (List.getElem?_eq_some_iff.1 hz).2]
  have hb : ∀ b ∈ a'.take (c0 :: x').length, nameE b = false := fun b hb => by
    rw [← nameE_low]
    exact hx3 _ (by rw [← e2]; unfold low; exact List.mem_map_of_mem hb)
  have hi : a'.findIdx nameE = (c0 :: x').length := by
    rw [hsp, idx_at nameE _ z _ hb hz2, List.length_take]
    omega
  cases a' with
  | nil => simp at hlen
  | cons c r =>
    refine ⟨c, r, rfl, ?_, by rw [hi]; exact e2⟩
    rw [List.length_cons, List.take_succ_cons] at e2
    have : lowB c = c0 := (List.cons.inj e2).1
    rw [let_low, this]
    exact ⟨hc1, hc2⟩
theorem raw_names {x : List UInt8} (h : rawM x = true) : NameOk x := by
  unfold rawM at h
  simp only [Bool.or_eq_true, decide_eq_true_eq] at h
  rcases h with ((rfl | rfl) | rfl) | rfl
  · exact ⟨_, _, rfl, by decide, by decide, by decide, by decide⟩
  · exact ⟨_, _, rfl, by decide, by decide, by decide, by decide⟩
  · exact ⟨_, _, rfl, by decide, by decide, by decide, by decide⟩
  · exact ⟨_, _, rfl, by decide, by decide, by decide, by decide⟩
theorem findT_self (z : List UInt8) (hz : z ≠ []) : ∀ (l : List UInt8) (m : Nat), findT z l = some m → findT z (l.take m ++ z) = some m
  | [], m, h => by
    unfold findT at h
    rw [if_neg hz] at h
    cases h
  | c :: r, m, h => by
    rw [findT] at h
    split at h
    · cases h
      obtain ⟨b, q, rfl⟩ := List.exists_cons_of_ne_nil hz
      rw [List.take_zero, List.nil_append, findT, if_pos (List.isPrefixOf_iff_prefix.2 (List.prefix_refl _))]
    · rename_i hp
      cases hf : findT z r with
      | none => rw [hf] at h; cases h
      | some k =>
        rw [hf] at h
        cases h
        have hk := findT_le z r k hf
        have hp2 : ¬ z.isPrefixOf (c :: (r.take k ++ z)) = true := fun h2 => by
          refine hp ?_
          rw [List.isPrefixOf_iff_prefix] at h2 ⊢
          have h3 : findT z (r.take k ++ z) = some k := findT_self z hz r k hf
          -- both begin alike as far as z goes
          have h4 : (c :: (r.take k ++ z)).take z.length = (c :: r).take z.length := by
            obtain ⟨b, q, rfl⟩ := List.exists_cons_of_ne_nil hz
            have : ∃ w, r = r.take k ++ (b :: q) ++ w := by
              have hd : (r.drop k).take (b :: q).length = b :: q := by
                clear h2 h3 hp
                induction r generalizing k with
                | nil => unfold findT at hf; rw [if_neg (by simp)] at hf; cases hf
                | cons y r ih =>
                  rw [findT] at hf
                  split at hf
                  · rename_i hpp
                    cases hf
                    rw [List.isPrefixOf_iff_prefix] at hpp
                    rw [List.drop_zero]
                    exact (List.prefix_iff_eq_take.1 hpp).symm
                  · cases hg : findT (b :: q) r with
                    | none => rw [hg] at hf; cases hf
                    | some j =>
                      rw [hg] at hf
                      cases hf
                      rw [List.drop_succ_cons]
                      exact ih j hg (findT_le _ _ _ hg)
              refine ⟨(r.drop k).drop (b :: q).length, ?_⟩
              conv => lhs; rw [← List.take_append_drop k r, ← List.take_append_drop (b :: q).length (r.drop k), hd]
              rw [List.append_assoc]
            obtain ⟨w, hw⟩ := this
            conv => rhs; rw [hw]
            rw [show c :: (r.take k ++ (b :: q) ++ w) = (c :: (r.take k ++ (b :: q))) ++ w by simp, List.take_append_of_le_length (by simp; omega)]
          rw [List.prefix_iff_eq_take] at h2 ⊢
          rw [← h4]
          exact h2
        rw [List.take_succ_cons, List.cons_append, findT, if_neg hp2, findT_self z hz r k hf]
        rfl

/-- Does a raw name's end begin here? -/
def condM (x l : List UInt8) : Prop := beginsM (60 :: 47 :: x) l = true ∧ ((l[2 + x.length]?).any fun y => nameE y) = true
theorem begins_low (t l : List UInt8) : beginsM t l = decide (low (l.take t.length) = t) := by
  unfold beginsM
  by_cases h : low (l.take t.length) = t
  · have hl := congrArg List.length h
    rw [low_length, List.length_take] at hl
    rw [decide_eq_true h, decide_eq_true (by omega)]
    rfl
  · rw [decide_eq_false h, Bool.and_false]
theorem any_low (l : List UInt8) (k : Nat) : ((l[k]?).any fun y => nameE y) = (((low (l.take (k + 1)))[k]?).any fun y => nameE y) := by
  unfold low
  rw [List.getElem?_map, List.getElem?_take_of_lt (by omega)]
  cases l[k]? with
  | none => rfl
  | some z => simp [nameE_low]
theorem cond_low (x A B : List UInt8) (h : low (A.take (3 + x.length)) = low (B.take (3 + x.length))) (ha : condM x A) : condM x B := by
  obtain ⟨h1, h2⟩ := ha
  have hl : ∀ C : List UInt8, low (C.take (60 :: 47 :: x).length) = (low (C.take (3 + x.length))).take (2 + x.length) := fun C => by
    unfold low
    rw [← List.map_take, List.take_take, show min (2 + x.length) (3 + x.length) = (60 :: 47 :: x).length by simp; omega]
  refine ⟨?_, ?_⟩
  · rw [begins_low, hl] at h1 ⊢
    rw [← h]
    exact h1
  · rw [any_low, show 2 + x.length + 1 = 3 + x.length by omega] at h2 ⊢
    rw [← h]
    exact h2
theorem endM_cond (x : List UInt8) : ∀ l : List UInt8, endM x l < l.length → condM x (l.drop (endM x l))
  | [], h => by cases h
  | c :: r, h => by
    rw [endM] at h ⊢
    split at h
    · rename_i hc
      rw [if_pos hc, List.drop_zero]
      exact hc
    · rename_i hc
      rw [if_neg hc, List.drop_succ_cons]
      exact endM_cond x r (by simpa using h)
theorem endM_self (x : List UInt8) (hx : low x = x) : ∀ l : List UInt8, endM x l < l.length → endM x (l.take (endM x l) ++ (60 :: 47 :: x ++ [62])) = endM x l
  | [], h => by cases h
  | c :: r, h => by
    rw [endM] at h ⊢
    split at h
    · rename_i hc
      rw [if_pos hc, List.take_zero, List.nil_append]
      have := endM_here x [] hx
      rwa [List.append_nil] at this
    · rename_i hc
      rw [if_neg hc, List.take_succ_cons, List.cons_append, endM]
      have hr : endM x r < r.length := by simpa using h
      have hcd := endM_cond x r hr
      have hno : ¬ condM x (c :: (r.take (endM x r) ++ (60 :: 47 :: x ++ [62]))) := fun hh => hc (cond_low x _ _ (by
        have h1 := hcd.1
        rw [begins_low, decide_eq_true_eq] at h1
        have e1 : r = r.take (endM x r) ++ r.drop (endM x r) := (List.take_append_drop _ _).symm
        have e2 : low (r.take (endM x r + (60 :: 47 :: x).length)) = low (r.take (endM x r)) ++ (60 :: 47 :: x) := by
          rw [List.take_add]
          unfold low at h1 ⊢
          rw [List.map_append, h1]
        have e3 : low ((r.take (endM x r) ++ (60 :: 47 :: x ++ [62])).take (endM x r + (60 :: 47 :: x).length)) = low (r.take (endM x r)) ++ (60 :: 47 :: x) := by
          have : (r.take (endM x r)).length = endM x r := by rw [List.length_take]; omega
          rw [← List.append_assoc, List.take_append_of_le_length (by simp; omega), List.take_of_length_le (by simp; omega)]
          unfold low at hx ⊢
          rw [List.map_append]
          congr 1
          show lowB 60 :: lowB 47 :: List.map lowB x = _
          rw [hx]
          rfl
        have e4 : ∀ C : List UInt8, low ((c :: C).take (3 + x.length)) = lowB c :: (low (C.take (endM x r + (60 :: 47 :: x).length))).take (2 + x.length) := fun C => by
          rw [show 3 + x.length = 2 + x.length + 1 by omega, List.take_succ_cons]
          unfold low
          rw [List.map_cons, ← List.map_take, List.take_take, show min (2 + x.length) (endM x r + (60 :: 47 :: x).length) = 2 + x.length by simp; omega]
        rw [e4, e4, e2, e3]) hh)
      unfold condM at hno
      rw [if_neg hno, endM_self x hx r hr]

end Go.Proofs.YtfbhpmafjehojaaGreatDoor

namespace Go.Proofs.YtfbhpmafjehojaaGreatDoor

theorem readF_fails : ∀ (f : Nat) (x : List UInt8) (n : Nat) (l : List UInt8) (K : List Tk) (F : List Fl), ∃ G, (readF f x n l K F).2 = F ++ G
  | 0, _, _, _, _, F => ⟨[], by simp [readF]⟩
  | f + 1, x, n, l, K, F => by
    by_cases h : l = [] ∧ x = []
    · rw [readF, if_pos h]
      exact ⟨[], by simp⟩
    · rw [readF_step f x n l K F h]
      obtain ⟨G, hG⟩ := readF_fails f (stepM x n l).r (n + (stepM x n l).k) (l.drop (stepM x n l).k) (pushM K (stepM x n l).t) (F ++ (stepM x n l).f)
      exact ⟨(stepM x n l).f ++ G, by rw [hG, List.append_assoc]⟩
/-- What the reader tells behind here: the tokens are as tokens are; and where a raw name's end begins here, its end tag is first. -/
def Told (x : List UInt8) (lt : Bool) (l : List UInt8) (K R : List Tk) : Prop :=
  ∃ L, R = K ++ L ∧ WF x lt L ∧ (∀ y, rawM y = true → x = [] → condM y l → ∃ e M, L = e :: M ∧ EndOk e ∧ e.n = y)
theorem cond_form {y l : List UInt8} (hy : rawM y = true) (h : condM y l) : ∃ c r, l = 60 :: 47 :: c :: r ∧ letB c = true ∧ low ((c :: r).take ((c :: r).findIdx nameE)) = y := end_front (raw_names hy) h.1 h.2
/-- A token that is no text, off a step that begins with a '<'. -/
theorem told_one {x' : List UInt8} {l l2 : List UInt8} {K R : List Tk} {t : Tk} {lt : Bool} (hk : t.k ≠ 1) (hw : ∀ L, WF x' false L → WF [] lt (t :: L)) (hc : ∀ y, rawM y = true → condM y l → EndOk t ∧ t.n = y) (h : Told x' false l2 (pushM K (some t)) R) : Told [] lt l K R := by
  obtain ⟨L, h1, h2, _⟩ := h
  rw [push_other K t hk] at h1
  refine ⟨t :: L, by rw [h1]; simp, hw L h2, fun y hy _ hcd => ⟨t, L, rfl, hc y hy hcd⟩⟩
theorem find_low {c : UInt8} : ∀ (l : List UInt8) (m : Nat), findT [c] l = some m → c ∉ l.take m
  | [], m, h => by simp
  | b :: r, m, h => by
    rw [findT] at h
    split at h
    · cases h
      simp
    · rename_i hp
      cases hf : findT [c] r with
      | none => rw [hf] at h; cases h
      | some k =>
        rw [hf] at h
        cases h
        rw [List.take_succ_cons]
        intro hm
        rcases List.mem_cons.1 hm with e | hm
        · subst e
          simp at hp
        · exact find_low r k hf hm
theorem trim_sub (l : List UInt8) : ∀ b ∈ trim l, b ∈ l := fun b hb => by
  obtain ⟨a, z, h, _, _⟩ := trim_form l
  rw [h]
  simp [hb]
theorem trim_blank (l : List UInt8) : trim (32 :: trim l) = trim l := by
  have := trim_unique (a := [32]) (m := trim l) (z := []) (by simp [blk]) (by simp) (trim_ends l)
  simpa using this
theorem note_ok {n : Nat} {l : List UInt8} (h : (noteM 4 4 n [45, 45, 62] l).f = []) : ∃ t, (noteM 4 4 n [45, 45, 62] l).t = some t ∧ NoteOk t ∧ (noteM 4 4 n [45, 45, 62] l).r = [] ∧ 1 ≤ (noteM 4 4 n [45, 45, 62] l).k ∧ (noteM 4 4 n [45, 45, 62] l).k ≤ l.length := by
  unfold noteM at h ⊢
  cases hf : findT [45, 45, 62] (l.drop 4) with
  | none => rw [hf] at h; cases h
  | some m =>
    have hl := findT_le _ _ _ hf
    rw [List.length_drop] at hl
    dsimp only
    refine ⟨_, rfl, ⟨rfl, rfl, rfl, rfl, ?_⟩, rfl, by simp, by simp at hl ⊢; omega⟩
    simp only [show ((4 : Int) = 5) = False by simp, if_false]
    rw [findT_self _ (by simp) _ _ hf, List.length_take, List.length_drop]
    simp at hl
    congr 1
    omega
theorem doc_ok {n : Nat} {l : List UInt8} (h : (noteM 5 9 n [62] l).f = []) : ∃ t, (noteM 5 9 n [62] l).t = some t ∧ DocOk t ∧ (noteM 5 9 n [62] l).r = [] ∧ 1 ≤ (noteM 5 9 n [62] l).k ∧ (noteM 5 9 n [62] l).k ≤ l.length := by
  unfold noteM at h ⊢
  cases hf : findT [62] (l.drop 9) with
  | none => rw [hf] at h; cases h
  | some m =>
    have hl := findT_le _ _ _ hf
    rw [List.length_drop] at hl
    dsimp only
    refine ⟨_, rfl, ⟨rfl, rfl, rfl, rfl, ?_, ?_⟩, rfl, by simp, by simp at hl ⊢; omega⟩
    · simp only [if_true]
      exact fun hm => find_low _ _ hf (trim_sub _ _ hm)
    · simp only [if_true]
      exact trim_blank _

theorem sign_second {l : List UInt8} {y : List UInt8} (hy : rawM y = true) (h : condM y l) : l.getD 1 0 = 47 ∧ letB (l.getD 2 0) = true ∧ 3 ≤ l.length := by
  obtain ⟨c, r, rfl, hc, _⟩ := cond_form hy h
  exact ⟨rfl, hc, by simp⟩
theorem told : ∀ (f : Nat) (x : List UInt8) (n : Nat) (l : List UInt8) (K R : List Tk) (lt : Bool), (x = [] ∨ rawM x = true) → (x ≠ [] → lt = false) → lastT K lt → (lt = true → l = [] ∨ l.head? = some 60) → l.length + (if x = [] then 0 else 1) + 1 ≤ f → readF f x n l K [] = (R, []) → Told x lt l K R
  | 0, _, _, _, _, _, _, _, _, _, _, hf, _ => by omega
  | f + 1, x, n, l, K, R, lt, hx, hxl, hlast, hlt, hf, h => by
    by_cases h0 : l = [] ∧ x = []
    · rw [readF, if_pos h0] at h
      cases h
      obtain ⟨rfl, rfl⟩ := h0
      exact ⟨[], by simp, rfl, fun y hy _ hcd => by
        have := (sign_second hy hcd).2.2
        simp at this⟩
    rw [readF_step f x n l K [] h0, List.nil_append] at h
    obtain ⟨G, hG⟩ := readF_fails f (stepM x n l).r (n + (stepM x n l).k) (l.drop (stepM x n l).k) (pushM K (stepM x n l).t) (stepM x n l).f
    rw [h] at hG
    have hF : (stepM x n l).f = [] := (List.append_eq_nil_iff.1 hG.symm).1
    rw [hF] at h
    clear hG G
    rcases hx with rfl | hx
    · -- no raw name's text is next
      rw [if_pos rfl] at hf
      by_cases h60 : l.head? = some 60
      · have hs : stepM [] n l = signS n l := by
          unfold stepM
          rw [if_neg (by simp), if_pos h60]
        rw [hs] at h hF
        obtain ⟨w, rfl⟩ : ∃ w, l = 60 :: w := by
          cases l with
          | nil => cases h60
          | cons a w => cases h60; exact ⟨w, rfl⟩
        have go : ∀ (t : Tk) (s : Step), signS n (60 :: w) = s → s.t = some t → t.k ≠ 1 → (s.r = [] ∨ rawM s.r = true) → 1 ≤ s.k → (s.r ≠ [] → 2 ≤ s.k) → s.k ≤ (60 :: w).length → (∀ L, WF s.r false L → WF [] lt (t :: L)) → (∀ y, rawM y = true → condM y (60 :: w) → EndOk t ∧ t.n = y) → Told [] lt (60 :: w) K R := fun t s e1 e2 e3 e4 e5 e6 e7 e8 e9 => by
          rw [e1, e2] at h
          refine told_one e3 e8 e9 (told f s.r (n + s.k) _ _ _ false e4 (fun _ => rfl) ?_ (fun hh => by cases hh) ?_ h)
          · rw [push_other K t e3]
            exact last_app K t false (by simp [e3])
          · rw [List.length_drop]
            by_cases hr : s.r = []
            · rw [if_pos hr]; omega
            · rw [if_neg hr]
              have := e6 hr
              omega
        by_cases b1 : 2 ≤ (60 :: w).length ∧ letB ((60 :: w).getD 1 0) = true
        · have hs1 : signS n (60 :: w) = tagM true 1 n (60 :: w) := by
            unfold signS
            simp only []
            rw [if_pos b1]
          rw [hs1] at hF
          obtain ⟨c, r, rfl⟩ : ∃ c r, w = c :: r := by
            cases w with
            | nil => simp at b1
            | cons c r => exact ⟨c, r, rfl⟩
          obtain ⟨t, t1, t2, _, t4, t5⟩ := tag_ok true 1 n (60 :: c :: r) (name_ok r b1.2) hF
          rw [if_pos rfl] at t2
          refine go t _ hs1 t1 (by rw [t2.1.1]; decide) ?_ (by omega) (fun _ => t4) t5 (fun L hL => .inr (.inl ⟨rfl, t2.1, by rw [t2.2] at hL; exact hL⟩)) (fun y hy hcd => ?_)
          · rw [t2.2]
            by_cases hr : rawM t.n = true
            · rw [if_pos hr]; exact .inr hr
            · rw [if_neg hr]; exact .inl rfl
          · have := (sign_second hy hcd).1
            rw [this] at b1
            exact absurd b1.2 (by decide)
        by_cases b2 : 3 ≤ (60 :: w).length ∧ (60 :: w).getD 1 0 = 47 ∧ letB ((60 :: w).getD 2 0) = true
        · have hs1 : signS n (60 :: w) = tagM false 2 n (60 :: w) := by
            unfold signS
            simp only []
            rw [if_neg b1, if_pos b2]
          rw [hs1] at hF
          obtain ⟨a, c, r, rfl⟩ : ∃ a c r, w = a :: c :: r := by
            match w, b2 with
            | [], b2 => simp at b2
            | [a], b2 => simp at b2
            | a :: c :: r, _ => exact ⟨a, c, r, rfl⟩
          obtain ⟨t, t1, t2, t3, t4, t5⟩ := tag_ok false 2 n (60 :: a :: c :: r) (name_ok r b2.2.2) hF
          rw [if_neg (by simp)] at t2
          refine go t _ hs1 t1 (by rw [t2.1.1]; decide) (.inl t2.2) (by omega) (fun hh => absurd t2.2 hh) t5 (fun L hL => .inr (.inr (.inl ⟨rfl, .inl t2.1, by rw [t2.2] at hL; exact hL⟩))) (fun y hy hcd => ⟨t2.1, ?_⟩)
          obtain ⟨c', r', e, _, hn⟩ := cond_form hy hcd
          cases e
          rw [t3]
          exact hn
        have hnoc : ∀ y, rawM y = true → ¬ condM y (60 :: w) := fun y hy hcd => by
          have := sign_second hy hcd
          exact b2 ⟨this.2.2, this.1, this.2.1⟩
        by_cases b3 : beginsM [60, 33, 45, 45] (60 :: w) = true
        · have hs1 : signS n (60 :: w) = noteM 4 4 n [45, 45, 62] (60 :: w) := by
            unfold signS
            simp only []
            rw [if_neg b1, if_neg b2, if_pos b3]
          rw [hs1] at hF
          obtain ⟨t, t1, t2, t3, t4, t5⟩ := note_ok hF
          exact go t _ hs1 t1 (by rw [t2.1]; decide) (.inl t3) t4 (fun hh => absurd t3 hh) t5 (fun L hL => .inr (.inr (.inl ⟨rfl, .inr (.inl t2), by rw [t3] at hL; exact hL⟩))) (fun y hy hcd => absurd hcd (hnoc y hy))
        by_cases b4 : beginsM [60, 33, 100, 111, 99, 116, 121, 112, 101] (60 :: w) = true
        · have hs1 : signS n (60 :: w) = noteM 5 9 n [62] (60 :: w) := by
            unfold signS
            simp only []
            rw [if_neg b1, if_neg b2, if_neg b3, if_pos b4]
          rw [hs1] at hF
          obtain ⟨t, t1, t2, t3, t4, t5⟩ := doc_ok hF
          exact go t _ hs1 t1 (by rw [t2.1]; decide) (.inl t3) t4 (fun hh => absurd t3 hh) t5 (fun L hL => .inr (.inr (.inl ⟨rfl, .inr (.inr t2), by rw [t3] at hL; exact hL⟩))) (fun y hy hcd => absurd hcd (hnoc y hy))
        exfalso
        unfold signS at hF
        simp only [] at hF
        rw [if_neg b1, if_neg b2, if_neg b3, if_neg b4] at hF
        split at hF <;> cases hF
      · -- text up to the next sign
        have hne : l ≠ [] := fun e => h0 ⟨e, rfl⟩
        have hltf : lt = false := by
          cases lt with
          | false => rfl
          | true => rcases hlt rfl with e | e; exact absurd e hne; exact absurd e h60
        subst hltf
        have hs : stepM [] n l = ⟨some (textT (decL n (l.take (l.findIdx (· == 60)))).1), (decL n (l.take (l.findIdx (· == 60)))).2, l.findIdx (· == 60), []⟩ := by
          unfold stepM
          rw [if_neg (by simp), if_neg h60]
        rw [hs] at h
        dsimp only at h
        have hm1 : 1 ≤ l.findIdx (· == 60) := by
          cases l with
          | nil => exact absurd rfl hne
          | cons c r =>
            have hc : (c == (60 : UInt8)) = false := by
              rw [beq_eq_false_iff_ne]
              intro e
              exact h60 (by rw [e]; rfl)
            rw [List.findIdx_cons, hc]
            simp
        have hm2 := idx_le (· == 60) l
        have hnoc : ∀ y, rawM y = true → ¬ condM y l := fun y hy hcd => by
          obtain ⟨c, r, e, _⟩ := cond_form hy hcd
          exact h60 (by rw [e]; rfl)
        have hrest : l.drop (l.findIdx (· == 60)) = [] ∨ (l.drop (l.findIdx (· == 60))).head? = some 60 := by
          rcases Nat.lt_or_ge (l.findIdx (· == 60)) l.length with hh | hh
          · refine .inr ?_
            rw [List.head?_drop, List.getElem?_eq_getElem hh]
            have := List.findIdx_getElem (w := hh)
            rw [beq_iff_eq] at this
            rw [this]
          · exact .inl (List.drop_of_length_le hh)
        by_cases hd : (decL n (l.take (l.findIdx (· == 60)))).1 = []
        · rw [hd, push_empty] at h
          obtain ⟨L, e1, e2, _⟩ := told f [] _ _ K R false (.inl rfl) (fun _ => rfl) hlast (fun hh => by cases hh) (by rw [if_pos rfl, List.length_drop]; omega) h
          exact ⟨L, e1, e2, fun y hy _ hcd => absurd hcd (hnoc y hy)⟩
        · rw [push_text K _ rfl hd (lastT_no hlast)] at h
          obtain ⟨L, e1, e2, _⟩ := told f [] _ _ _ R true (.inl rfl) (fun hh => absurd rfl hh) (last_app K _ true (by simp [textT])) (fun _ => hrest) (by rw [if_pos rfl, List.length_drop]; omega) h
          exact ⟨textT (decL n (l.take (l.findIdx (· == 60)))).1 :: L, by rw [e1]; simp, .inl ⟨rfl, ⟨rfl, rfl, rfl, rfl, hd⟩, rfl, e2⟩, fun y hy _ hcd => absurd hcd (hnoc y hy)⟩
    · -- a raw name's text
      have hxn : x ≠ [] := by
        obtain ⟨c, r, e, _⟩ := raw_names hx
        rw [e]; simp
      rw [if_neg hxn] at hf
      have hltf := hxl hxn
      subst hltf
      have hlow : low x = x := by
        obtain ⟨_, _, _, _, _, _, e⟩ := raw_names hx
        exact e
      have hs : stepM x n l = rawS x n l := by
        unfold stepM
        rw [if_pos hxn]
      rw [hs] at h hF
      have hle := endM_le x l
      unfold rawS at h hF
      dsimp only at h hF
      obtain ⟨_, hF2⟩ := List.append_eq_nil_iff.1 hF
      have hlt2 : endM x l < l.length := by
        rcases Nat.lt_or_ge (endM x l) l.length with hh | hh
        · exact hh
        · rw [if_pos (by omega)] at hF2
          cases hF2
      have hcd := endM_cond x l hlt2
      have hfront := cond_form hx hcd
      have hfu : (l.drop (endM x l)).length + (if ([] : List UInt8) = [] then 0 else 1) + 1 ≤ f := by
        rw [if_pos rfl, List.length_drop]
        omega
      have hh60 : (l.drop (endM x l)).head? = some 60 := by
        obtain ⟨c, r, e, _⟩ := hfront
        rw [e]; rfl
      by_cases hd : (if softM x = true then decL n (l.take (endM x l)) else (l.take (endM x l), [])).1 = []
      · rw [hd, push_empty] at h
        obtain ⟨L, e1, e2, e3⟩ := told f [] _ _ K R false (.inl rfl) (fun _ => rfl) hlast (fun hh => by cases hh) hfu h
        obtain ⟨e, M, rfl, he, hen⟩ := e3 x hx rfl hcd
        refine ⟨e :: M, e1, .inr (.inr (.inr (.inr ⟨hxn, he, hen, ?_⟩))), fun y _ hh => absurd hh hxn⟩
        rcases e2 with ⟨_, k, _⟩ | ⟨_, k, _⟩ | ⟨_, _, k⟩ | ⟨k, _⟩ | ⟨k, _⟩
        · exact absurd (k.1.symm.trans he.1) (by decide)
        · exact absurd (k.1.symm.trans he.1) (by decide)
        · exact k
        · exact absurd rfl k
        · exact absurd rfl k
      · rw [push_text K _ rfl hd (lastT_no hlast)] at h
        obtain ⟨L, e1, e2, e3⟩ := told f [] _ _ _ R true (.inl rfl) (fun hh => absurd rfl hh) (last_app K _ true (by simp [textT])) (fun _ => .inr hh60) hfu h
        refine ⟨textT (if softM x = true then decL n (l.take (endM x l)) else (l.take (endM x l), [])).1 :: L, by rw [e1]; simp, .inr (.inr (.inr (.inl ⟨hxn, ⟨rfl, rfl, rfl, rfl, hd⟩, fun hsoft => ?_, e3 x hx rfl hcd, e2⟩))), fun y _ hh => absurd hh hxn⟩
        simp only [textT, hsoft, Bool.false_eq_true, if_false]
        rw [endM_self x hlow l hlt2, List.length_take]
        omega
/-- THE TOKENS OF A TEXT THAT HAS NO FAIL ARE THOSE OF THEIR TEXT. -/
theorem back (l : List UInt8) (L : List Tk) (h : readM l = (L, [])) : readM (printM L) = (L, []) := by
  obtain ⟨M, e1, e2, _⟩ := told (l.length + 2) [] 0 l [] L false (.inl rfl) (fun _ => rfl) (fun u hu => by cases hu) (fun hh => by cases hh) (by rw [if_pos rfl]; omega) h
  rw [List.nil_append] at e1
  subst e1
  exact read_print L e2

end Go.Proofs.YtfbhpmafjehojaaGreatDoor

namespace Go.Proofs.YtfbhpmafjehojaaGreatDoor

/-! ### a tag's inside, however much there is to spare -/
theorem blk62 : blk 62 = false := by decide
theorem nameE_no {c : UInt8} (h1 : c ≠ 62) (h2 : ¬ (c = 47 ∨ blk c = true)) : nameE c = false := by
  unfold nameE
  simp only [not_or, Bool.not_eq_true] at h2
  simp [h1, h2.1, h2.2]
theorem inside_fuel (st : Bool) : ∀ (f g n : Nat) (l : List UInt8) (as : List (List UInt8 × List UInt8)) (fl : List Fl) (sl : Bool), l.length < f → l.length < g → insideF f st n l as fl sl = insideF g st n l as fl sl
  | 0, _, _, _, _, _, _, h, _ => by omega
  | _ + 1, 0, _, _, _, _, _, _, h => by omega
  | f + 1, g + 1, n, l, as, fl, sl, h1, h2 => by
    cases l with
    | nil => rfl
    | cons c r =>
      unfold insideF
      dsimp only
      by_cases h62 : c = 62
      · rw [if_pos h62, if_pos h62]
      · rw [if_neg h62, if_neg h62]
        by_cases hs : c = 47 ∨ blk c = true
        · rw [if_pos hs, if_pos hs]
          exact inside_fuel st f g _ r _ _ _ (by simp at h1; omega) (by simp at h2; omega)
        · rw [if_neg hs, if_neg hs]
          cases ha : attrM n (c :: r) with
          | none => rfl
          | some y =>
            obtain ⟨x, v, k⟩ := y
            obtain ⟨_, h3, h4⟩ := attr_ok (nameE_no h62 hs) ha
            dsimp only
            exact inside_fuel st f g _ _ _ _ _ (by rw [List.length_drop]; omega) (by rw [List.length_drop]; omega)
def insG (st : Bool) (n : Nat) (l : List UInt8) (as : List (List UInt8 × List UInt8)) (fl : List Fl) (sl : Bool) := insideF (l.length + 1) st n l as fl sl
theorem insG_of {f : Nat} (st : Bool) (n : Nat) (l : List UInt8) (as : List (List UInt8 × List UInt8)) (fl : List Fl) (sl : Bool) (h : l.length < f) : insideF f st n l as fl sl = insG st n l as fl sl := inside_fuel st _ _ _ _ _ _ _ h (Nat.lt_succ_self _)
theorem insG_nil (st : Bool) (n : Nat) (as : List (List UInt8 × List UInt8)) (fl : List Fl) (sl : Bool) : insG st n [] as fl sl = none := rfl
theorem insG_end (st : Bool) (n : Nat) (r : List UInt8) (as : List (List UInt8 × List UInt8)) (fl : List Fl) (sl : Bool) : insG st n (62 :: r) as fl sl = some (as, fl, sl, n) := by
  unfold insG insideF
  dsimp only
  rw [if_pos rfl]
theorem insG_skip (st : Bool) (n : Nat) (c : UInt8) (r : List UInt8) (as : List (List UInt8 × List UInt8)) (fl : List Fl) (sl : Bool) (h : c = 47 ∨ blk c = true) : insG st n (c :: r) as fl sl = insG st (n + 1) r as fl (c == 47) := by
  have h62 : c ≠ 62 := by
    rintro rfl
    rcases h with h | h
    · exact absurd h (by decide)
    · rw [blk62] at h; cases h
  unfold insG
  rw [List.length_cons]
  conv => lhs; unfold insideF
  dsimp only
  rw [if_neg h62, if_pos h]
theorem insG_attr (st : Bool) (n : Nat) (c : UInt8) (r : List UInt8) (as : List (List UInt8 × List UInt8)) (fl : List Fl) (sl : Bool) (h1 : c ≠ 62) (h2 : ¬ (c = 47 ∨ blk c = true)) : insG st n (c :: r) as fl sl = match attrM n (c :: r) with
    | none => none
    | some (x, v, k) => insG st (n + k) ((c :: r).drop k) (takeM st as n x v.1).1 (fl ++ (takeM st as n x v.1).2 ++ v.2) false := by
  unfold insG
  rw [List.length_cons]
  conv => lhs; unfold insideF
  dsimp only
  rw [if_neg h1, if_neg h2]
  cases ha : attrM n (c :: r) with
  | none => rfl
  | some y =>
    obtain ⟨x, v, k⟩ := y
    obtain ⟨_, h3, h4⟩ := attr_ok (nameE_no h1 h2) ha
    dsimp only
    refine inside_fuel st _ _ _ _ _ _ _ ?_ (Nat.lt_succ_self _)
    rw [List.length_drop]
    simp at h4 ⊢
    omega
theorem insG_run (st : Bool) : ∀ (a rest : List UInt8) (n : Nat) (as : List (List UInt8 × List UInt8)) (fl : List Fl) (sl : Bool), (∀ b ∈ a, b = 47 ∨ blk b = true) → insG st n (a ++ rest) as fl sl = insG st (n + a.length) rest as fl (if a = [] then sl else decide (a.getLast? = some 47))
  | [], rest, n, as, fl, sl, _ => by rw [if_pos rfl]; rfl
  | c :: a, rest, n, as, fl, sl, h => by
    have ih := insG_run st a rest (n + 1) as fl (c == 47) fun b hb => h b (by simp [hb])
    rw [List.cons_append, insG_skip st n c (a ++ rest) as fl sl (h c (by simp)), ih, List.length_cons, show n + 1 + a.length = n + (a.length + 1) by omega]
    congr 1
    rw [if_neg (List.cons_ne_nil c a)]
    cases a with
    | nil =>
      rw [if_pos rfl, Bool.eq_iff_iff]
      simp only [beq_iff_eq, decide_eq_true_eq, List.getLast?_singleton, Option.some.injEq]
    | cons d a => rw [if_neg (List.cons_ne_nil d a), List.getLast?_cons_cons]
/-- What stands ahead of the first byte that is neither a blank nor a '/'. -/
def gapE (c : UInt8) : Bool := !(blk c || c == 47)
theorem gap_take (l : List UInt8) : ∀ b ∈ l.take (l.findIdx gapE), b = 47 ∨ blk b = true := fun b hb => by
  have h := idx_before gapE l b hb
  unfold gapE at h
  simp only [Bool.not_eq_false', Bool.or_eq_true, beq_iff_eq] at h
  exact h.symm
/-- A tag's inside at the first byte that is neither a blank nor a '/'. -/
theorem insG_gap (st : Bool) (n : Nat) (l : List UInt8) (as : List (List UInt8 × List UInt8)) (fl : List Fl) : insG st n l as fl false = insG st (n + l.findIdx gapE) (l.drop (l.findIdx gapE)) as fl (decide ((l.take (l.findIdx gapE)).getLast? = some 47)) := by
  have h := insG_run st (l.take (l.findIdx gapE)) (l.drop (l.findIdx gapE)) n as fl false (gap_take l)
  rw [List.take_append_drop, List.length_take, Nat.min_eq_left (idx_le gapE l)] at h
  rw [h]
  congr 1
  by_cases ha : l.take (l.findIdx gapE) = []
  · rw [if_pos ha, ha]; rfl
  · rw [if_neg ha]
theorem insG_blanks (st : Bool) (n j : Nat) (l : List UInt8) (as : List (List UInt8 × List UInt8)) (fl : List Fl) (hj : j ≤ l.length) (h : ∀ b ∈ l.take j, blk b = true) : insG st n l as fl false = insG st (n + j) (l.drop j) as fl false := by
  have h2 := insG_run st (l.take j) (l.drop j) n as fl false fun b hb => .inr (h b hb)
  rw [List.take_append_drop, List.length_take, Nat.min_eq_left hj] at h2
  rw [h2]
  congr 1
  by_cases ha : l.take j = []
  · rw [if_pos ha]
  · rw [if_neg ha]
    rw [decide_eq_false_iff_not]
    intro hh
    have := h 47 (List.mem_of_getLast? hh)
    exact absurd this (by decide)

/-! ### an attribute's value as a cursor reads it -/
def blkE (c : UInt8) : Bool := !blk c
/-- The value, its Fails, how many bytes; whether it is whole. -/
def valP (n : Nat) (l : List UInt8) : (List UInt8 × List Fl) × Nat × Bool :=
  let b := l.findIdx blkE
  let r := l.drop b
  if r.head? = some 61 then
    let z := (r.drop 1).findIdx blkE
    match valueM (n + (b + 1 + z)) (r.drop (1 + z)) with
    | some (v, k) => (v, b + 1 + z + k, true)
    | none => (decL (n + (b + 1 + z) + 1) ((r.drop (1 + z)).drop 1), l.length, false)
  else (([], []), b, true)
theorem val_attr (n : Nat) (l : List UInt8) :
    ((valP (n + (1 + (l.drop 1).findIdx attrE)) (l.drop (1 + (l.drop 1).findIdx attrE))).2.2 = true → ∃ k j, attrM n l = some (low (l.take (1 + (l.drop 1).findIdx attrE)), (valP (n + (1 + (l.drop 1).findIdx attrE)) (l.drop (1 + (l.drop 1).findIdx attrE))).1, k) ∧ 1 + (l.drop 1).findIdx attrE + (valP (n + (1 + (l.drop 1).findIdx attrE)) (l.drop (1 + (l.drop 1).findIdx attrE))).2.1 = k + j ∧ ∀ b ∈ (l.drop k).take j, blk b = true) ∧
    ((valP (n + (1 + (l.drop 1).findIdx attrE)) (l.drop (1 + (l.drop 1).findIdx attrE))).2.2 = false → attrM n l = none ∧ (valP (n + (1 + (l.drop 1).findIdx attrE)) (l.drop (1 + (l.drop 1).findIdx attrE))).2.1 = (l.drop (1 + (l.drop 1).findIdx attrE)).length) := by
  generalize he : 1 + (l.drop 1).findIdx attrE = e
  have hA : attrM n l = (let b := (l.drop e).findIdx blkE
      let r := l.drop (e + b)
      if r.head? = some 61 then
        let z := (r.drop 1).findIdx blkE
        (valueM (n + (e + b + 1 + z)) (r.drop (1 + z))).map fun (v, k) => (low (l.take e), v, e + b + 1 + z + k)
      else some (low (l.take e), ([], []), e)) := by
    unfold attrM
    rw [he]
    rfl
  dsimp only at hA
  unfold valP
  dsimp only
  rw [List.drop_drop]
  generalize hb : (l.drop e).findIdx blkE = b at hA ⊢
  by_cases h61 : (l.drop (e + b)).head? = some 61
  · rw [if_pos h61] at hA ⊢
    generalize hz : ((l.drop (e + b)).drop 1).findIdx blkE = z at hA ⊢
    rw [show n + e + (b + 1 + z) = n + (e + b + 1 + z) by omega]
    cases hv : valueM (n + (e + b + 1 + z)) ((l.drop (e + b)).drop (1 + z)) with
    | some y =>
      obtain ⟨v, k⟩ := y
      rw [hv] at hA
      refine ⟨fun _ => ⟨e + b + 1 + z + k, 0, hA, by dsimp only; omega, fun c hc => by simp at hc⟩, fun hh => by cases hh⟩
    | none =>
      rw [hv] at hA
      exact ⟨fun hh => (by cases hh), fun _ => ⟨hA, rfl⟩⟩
  · rw [if_neg h61] at hA ⊢
    refine ⟨fun _ => ⟨e, b, hA, rfl, fun c hc => ?_⟩, fun hh => by cases hh⟩
    rw [← hb] at hc
    have := idx_before blkE (l.drop e) c hc
    unfold blkE at this
    simpa using this
theorem val_len (n : Nat) (l : List UInt8) : (valP n l).2.1 ≤ l.length := by
  unfold valP
  dsimp only
  have h1 := idx_le blkE l
  generalize l.findIdx blkE = b at h1 ⊢
  by_cases h61 : (l.drop b).head? = some 61
  · rw [if_pos h61]
    have h0 : 1 ≤ (l.drop b).length := by
      cases hh : l.drop b with
      | nil => rw [hh] at h61; cases h61
      | cons => simp
    have h2 := idx_le blkE ((l.drop b).drop 1)
    generalize ((l.drop b).drop 1).findIdx blkE = z at h2 ⊢
    cases hv : valueM (n + (b + 1 + z)) ((l.drop b).drop (1 + z)) with
    | none => exact Nat.le_refl _
    | some y =>
      obtain ⟨v, k⟩ := y
      have := value_len hv
      rw [List.length_drop, List.length_drop] at this
      rw [List.length_drop] at h0 h2
      rw [List.length_drop] at h2
      dsimp only
      omega
  · rw [if_neg h61]
    exact h1

theorem decL_len (n : Nat) (l : List UInt8) : (decL n l).2.length ≤ l.length := by
  unfold decL
  simp only [List.length_map]
  exact (decT_len n l).2
theorem value_fails {n : Nat} {l : List UInt8} {v : List UInt8 × List Fl} {k : Nat} (h : valueM n l = some (v, k)) : v.2.length ≤ k := by
  unfold valueM at h
  cases l with
  | nil => cases h; exact Nat.le_refl _
  | cons q r =>
    simp only at h
    split at h
    · split at h
      · cases h
        have := decL_len (n + 1) (r.take (r.findIdx (· == q)))
        rw [List.length_take] at this
        omega
      · cases h
    · cases h
      have := decL_len n ((q :: r).take ((q :: r).findIdx wordE))
      rw [List.length_take] at this
      omega
theorem val_fails (n : Nat) (l : List UInt8) : (valP n l).1.2.length ≤ (valP n l).2.1 := by
  unfold valP
  dsimp only
  generalize l.findIdx blkE = b
  by_cases h61 : (l.drop b).head? = some 61
  · rw [if_pos h61]
    generalize ((l.drop b).drop 1).findIdx blkE = z
    cases hv : valueM (n + (b + 1 + z)) ((l.drop b).drop (1 + z)) with
    | none =>
      have := decL_len (n + (b + 1 + z) + 1) (((l.drop b).drop (1 + z)).drop 1)
      simp only [List.length_drop] at this
      dsimp only
      omega
    | some y =>
      obtain ⟨v, k⟩ := y
      have := value_fails hv
      dsimp only
      omega
  · rw [if_neg h61]
    exact Nat.zero_le _
theorem find_hit {P : UInt8 → Bool} {l : List UInt8} {q u : Nat} {c : UInt8} (hu : (l.drop q).findIdx P = u) (hc : l[q + u]? = some c) : P c = true := by
  have h1 : (l.drop q)[u]? = some c := by rw [List.getElem?_drop]; exact hc
  subst hu
  obtain ⟨h2, h3⟩ := List.getElem?_eq_some_iff.1 h1
  have := List.findIdx_getElem (w := h2)
  rw [h3] at this
  exact this

/-! ### places -/
theorem index_find (z : List UInt8) : ∀ l : List UInt8, Lib.index l z = match findT z l with | some k => (k : Int) | none => -1
  | [] => by
    unfold Lib.index findT
    cases z with
    | nil => rfl
    | cons => rfl
  | c :: r => by
    unfold Lib.index findT
    by_cases h : z.isPrefixOf (c :: r) = true
    · rw [if_pos h, if_pos h]; rfl
    · rw [if_neg h, if_neg h]
      have ih := index_find z r
      cases hf : findT z r with
      | none => rw [hf] at ih; rw [ih]; rfl
      | some k =>
        rw [hf] at ih
        simp only at ih
        rw [ih]
        simp only [Option.map_some]
        have hk : ((k : Int) == -1) = false := by rw [beq_eq_false_iff_ne]; omega
        rw [hk]
        simp
theorem find_single (c : UInt8) : ∀ l : List UInt8, findT [c] l = if l.findIdx (· == c) < l.length then some (l.findIdx (· == c)) else none
  | [] => rfl
  | b :: r => by
    unfold findT
    rw [isPrefixOf_one]
    by_cases h : b = c
    · subst h
      simp [List.findIdx_cons]
    · have h1 : (c == b) = false := by rw [beq_eq_false_iff_ne]; exact fun e => h e.symm
      have h2 : (b == c) = false := by rw [beq_eq_false_iff_ne]; exact h
      rw [h1, if_neg (by simp), find_single c r, List.findIdx_cons, h2]
      simp only [cond_false, List.length_cons]
      split
      · rw [if_pos (by omega)]; rfl
      · rw [if_neg (by omega)]; rfl
theorem find_at (z : List UInt8) : ∀ (l : List UInt8) (m : Nat), findT z l = some m → z.isPrefixOf (l.drop m) = true
  | [], m, h => by
    unfold findT at h
    split at h
    · rename_i e
      subst e
      cases h
      rfl
    · cases h
  | c :: r, m, h => by
    unfold findT at h
    split at h
    · rename_i e
      cases h
      exact e
    · cases hf : findT z r with
      | none => rw [hf] at h; cases h
      | some k =>
        rw [hf] at h
        cases h
        exact find_at z r k hf
theorem decL_shift (n : Nat) (l : List UInt8) : decL n l = ((decT 0 l).1, (decT 0 l).2.map fun i => ((130 : Int), n + i)) := by
  unfold decL
  have h := decT_shift 0 n l
  rw [Nat.zero_add] at h
  rw [h]
  simp only [List.map_map]
  congr 1
  apply List.map_congr_left
  intro i _
  simp only [Function.comp]
  rw [Nat.add_comm]
theorem decL_sign (n : Nat) (r : List UInt8) : decL n (60 :: r) = (60 :: (decL (n + 1) r).1, (decL (n + 1) r).2) := by
  unfold decL
  rw [decT_plain n 60 r (first_plain 60 r (by decide))]

/-! ### the text that is held -/
def txtH (H : List UInt8) : List Tk := if H = [] then [] else [textT H]
theorem txtH_nil : txtH [] = [] := rfl
theorem txtH_some {H : List UInt8} (h : H ≠ []) : txtH H = [textT H] := if_neg h
def NoText (T : List Tk) : Prop := ∀ u, T.getLast? = some u → u.k ≠ 1
theorem noText_nil : NoText [] := fun u h => by cases h
theorem noText_snoc (T : List Tk) {t : Tk} (h : t.k ≠ 1) : NoText (T ++ [t]) := fun u hu => by
  rw [List.getLast?_append] at hu
  simp at hu
  rw [← hu]
  exact h
theorem push_held {T : List Tk} (h : NoText T) (H d : List UInt8) : pushM (T ++ txtH H) (some (textT d)) = T ++ txtH (H ++ d) := by
  by_cases hd : d = []
  · subst hd
    rw [push_empty, List.append_nil]
  · by_cases hH : H = []
    · subst hH
      rw [txtH_nil, List.append_nil, List.nil_append, txtH_some hd]
      exact push_text T (textT d) rfl hd h
    · rw [txtH_some hH, txtH_some (by simp [hH])]
      unfold pushM
      simp only [textT, if_true, hd, if_false]
      rw [List.getLast?_append]
      simp
theorem push_tell (T : List Tk) (H : List UInt8) {t : Tk} (h : t.k ≠ 1) : pushM (T ++ txtH H) (some t) = (T ++ txtH H) ++ [t] := push_other _ t h

end Go.Proofs.YtfbhpmafjehojaaGreatDoor

namespace Go.Proofs.YtfbhpmafjehojaaGreatDoor

def failM (place : Nat) (p : List Nat) : List Fl := p.map fun i => ((130 : Int), place + i)
theorem decL_fail {p : Nat} {l D : List UInt8} {q : List Nat} (h : decT 0 l = (D, q)) : decL p l = (D, failM p q) := by
  rw [decL_shift, h]
  rfl
/-- What the document's reader makes of one state it makes of the other. -/
def Rd (s : List UInt8) (n : Nat) (H : List UInt8) (T : List Tk) (F : List Fl) (n' : Nat) (H' : List UInt8) (T' : List Tk) (F' : List Fl) : Prop :=
  ∀ f, s.length - n < f → ∃ f', s.length - n' < f' ∧ readF f [] n (s.drop n) (T ++ txtH H) F = readF f' [] n' (s.drop n') (T' ++ txtH H') F'
theorem ne_and {l : List UInt8} (h : l ≠ []) (x : List UInt8) : ¬ (l = [] ∧ x = []) := fun e => h e.1
theorem drop_ne {s : List UInt8} {n : Nat} (h : n < s.length) : s.drop n ≠ [] := fun e => by
  have := congrArg List.length e
  rw [List.length_drop] at this
  simp at this
  omega
/-- One step, after which nothing raw is next. -/
theorem rd_one {s : List UInt8} {n : Nat} {H : List UInt8} {T : List Tk} {F : List Fl} {H' : List UInt8} {T' : List Tk} (hn : n < s.length) {S : Step} (hs : stepM [] n (s.drop n) = S) (hr : S.r = []) (hk : 1 ≤ S.k) (ht : pushM (T ++ txtH H) S.t = T' ++ txtH H') : Rd s n H T F (n + S.k) H' T' (F ++ S.f) := fun f hf => by
  obtain ⟨f, rfl⟩ : ∃ g, f = g + 1 := ⟨f - 1, by omega⟩
  refine ⟨f, by omega, ?_⟩
  rw [readF_step f [] n _ _ _ (ne_and (drop_ne hn) _), hs, hr, ht, List.drop_drop]
/-- Two steps: the second one's raw name is x. -/
theorem rd_two {s : List UInt8} {n : Nat} {H : List UInt8} {T : List Tk} {F : List Fl} {H' : List UInt8} {T1 T' : List Tk} (hn : n < s.length) {S S2 : Step} (hs : stepM [] n (s.drop n) = S) (ht : pushM (T ++ txtH H) S.t = T1) (h0 : S.r ≠ [] ∨ n + S.k < s.length) (hs2 : stepM S.r (n + S.k) (s.drop (n + S.k)) = S2) (hr : S2.r = []) (hk2 : n + 2 ≤ n + S.k + S2.k) (ht2 : pushM T1 S2.t = T' ++ txtH H') (hle : n + S.k + S2.k ≤ s.length) : Rd s n H T F (n + S.k + S2.k) H' T' (F ++ S.f ++ S2.f) := fun f hf => by
  obtain ⟨f, rfl⟩ : ∃ g, f = g + 2 := ⟨f - 2, by omega⟩
  refine ⟨f, by omega, ?_⟩
  rw [readF_step (f + 1) [] n _ _ _ (ne_and (drop_ne hn) _), hs, ht, List.drop_drop, readF_step f S.r (n + S.k) _ _ _ (by
    rintro ⟨e1, e2⟩
    rcases h0 with h0 | h0
    · exact h0 e2
    · exact drop_ne h0 e1), hs2, hr, ht2, List.drop_drop]
theorem Rd.cast {s : List UInt8} {n : Nat} {H : List UInt8} {T : List Tk} {F : List Fl} {n1 n2 : Nat} {H1 H2 : List UInt8} {T1 T2 : List Tk} {F1 F2 : List Fl} (h : Rd s n H T F n1 H1 T1 F1) (e1 : n1 = n2) (e2 : H1 = H2) (e3 : T1 = T2) (e4 : F1 = F2) : Rd s n H T F n2 H2 T2 F2 := by subst e1 e2 e3 e4; exact h

/-! ### text -/
theorem head_get {l : List UInt8} : l.head? = l[0]? := by cases l <;> rfl
theorem text_find {l : List UInt8} (hl : l ≠ []) (h : l.head? ≠ some 60) : l.findIdx (· == 60) = 1 + (l.drop 1).findIdx (· == 60) := by
  cases l with
  | nil => exact absurd rfl hl
  | cons c r =>
    have hc : (c == 60) = false := by
      rw [beq_eq_false_iff_ne]
      rintro rfl
      exact h rfl
    rw [List.findIdx_cons, hc]
    simp only [cond_false, List.drop_succ_cons, List.drop_zero]
    omega
theorem rd_text {s : List UInt8} {n k : Nat} {H : List UInt8} {T : List Tk} {F : List Fl} {D : List UInt8} {q : List Nat} (hn : n < s.length) (hT : NoText T) (h : (s.drop n).head? ≠ some 60) (hk : k = 1 + ((s.drop n).drop 1).findIdx (· == 60)) (hd : decT 0 ((s.drop n).take k) = (D, q)) : Rd s n H T F (n + k) (H ++ D) T (F ++ failM n q) := by
  have hi := text_find (drop_ne hn) h
  rw [← hk] at hi
  have hs : stepM [] n (s.drop n) = ⟨some (textT D), failM n q, k, []⟩ := by
    unfold stepM
    rw [if_neg (by simp), if_neg h, hi, decL_fail hd]
  exact rd_one (H := H) (F := F) (T' := T) (H' := H ++ D) hn hs rfl (by show 1 ≤ k; omega) (push_held hT H D)
theorem rd_open {s : List UInt8} {n k : Nat} {H : List UInt8} {T : List Tk} {F : List Fl} {D : List UInt8} {q : List Nat} (hT : NoText T) (h : (s.drop n).head? = some 60) (hsg : signS n (s.drop n) = ⟨some (textT [60]), [(141, n)], 1, []⟩) (hk : k = 1 + ((s.drop n).drop 1).findIdx (· == 60)) (hd : decT 0 ((s.drop n).take k) = (D, q)) : Rd s n H T F (n + k) (H ++ D) T ((F ++ [((141 : Int), n)]) ++ failM n q) := by
  obtain ⟨r, hr⟩ : ∃ r, s.drop n = 60 :: r := by
    cases hl : s.drop n with
    | nil => rw [hl] at h; cases h
    | cons c r =>
      rw [hl] at h
      cases h
      exact ⟨r, rfl⟩
  have hn : n < s.length := by
    have := congrArg List.length hr
    rw [List.length_drop] at this
    simp at this
    omega
  have hs : stepM [] n (s.drop n) = ⟨some (textT [60]), [(141, n)], 1, []⟩ := by
    unfold stepM
    rw [if_neg (by simp), if_pos h]
    exact hsg
  have hrd : s.drop (n + 1) = r := by rw [← List.drop_drop, hr]; rfl
  have hp1 : pushM (T ++ txtH H) (some (textT [60])) = T ++ txtH (H ++ [60]) := push_held hT H [60]
  rw [hr] at hk hd
  simp only [List.drop_succ_cons, List.drop_zero] at hk
  have hd2 := decL_fail (p := n) hd
  rw [hk, Nat.add_comm, List.take_succ_cons, decL_sign] at hd2
  injection hd2 with e1 e2
  by_cases h2 : r.findIdx (· == 60) = 0
  · -- nothing behind it, or another '<'
    rw [h2] at hk e1 e2
    subst hk
    have e1' : D = [60] := by rw [← e1]; rfl
    have e2' : failM n q = [] := by rw [← e2]; rfl
    rw [e1', e2', List.append_nil]
    exact rd_one (H := H) (F := F) (T' := T) (H' := H ++ [60]) hn hs rfl (Nat.le_refl 1) hp1
  · have hrne : r ≠ [] := fun e => h2 (by rw [e]; rfl)
    have hr60 : r.head? ≠ some 60 := fun e => h2 (by
      cases r with
      | nil => rfl
      | cons c t => cases e; rfl)
    have hs2 : stepM [] (n + 1) (s.drop (n + 1)) = ⟨some (textT (decL (n + 1) (r.take (r.findIdx (· == 60)))).1), (decL (n + 1) (r.take (r.findIdx (· == 60)))).2, r.findIdx (· == 60), []⟩ := by
      rw [hrd]
      unfold stepM
      rw [if_neg (by simp), if_neg hr60]
    have hlr : r.length = s.length - (n + 1) := by rw [← hrd, List.length_drop]
    have hle := idx_le (· == (60 : UInt8)) r
    have h0 : n + 1 < s.length := by
      have : r.length ≠ 0 := fun e => hrne (List.length_eq_zero_iff.1 e)
      omega
    refine (rd_two (H := H) (F := F) (T1 := T ++ txtH (H ++ [60])) (T' := T) (H' := (H ++ [60]) ++ (decL (n + 1) (r.take (r.findIdx (· == 60)))).1) hn hs hp1 (.inr h0) hs2 rfl ?_ (push_held hT (H ++ [60]) _) ?_).cast ?_ ?_ rfl ?_
    · show n + 2 ≤ n + 1 + r.findIdx (· == 60); omega
    · show n + 1 + r.findIdx (· == 60) ≤ s.length; omega
    · show n + 1 + r.findIdx (· == 60) = n + k; omega
    · rw [← e1]; simp
    · rw [← e2]

/-! ### signs -/
theorem begins_first {z : UInt8} (hz : z.toNat < 97) (hl : lowB z = z) (l : List UInt8) : beginsM [z] l = decide (l[0]? = some z) := by
  unfold beginsM
  cases l with
  | nil => simp
  | cons c r =>
    rw [Bool.eq_iff_iff]
    simp only [List.length_cons, List.length_nil, List.take_succ_cons, List.take_zero, low, List.map_cons, List.map_nil, Bool.and_eq_true, decide_eq_true_eq, List.cons.injEq, and_true, List.getElem?_cons_zero, Option.some.injEq]
    constructor
    · rintro ⟨_, h⟩
      exact low_back h hz
    · rintro rfl
      exact ⟨by omega, hl⟩
theorem begins_pair {y z : UInt8} (hy : y.toNat < 97) (hly : lowB y = y) (hz : z.toNat < 97) (hl : lowB z = z) (l : List UInt8) : beginsM [y, z] l = (decide (l[0]? = some y) && decide (l[1]? = some z)) := by
  unfold beginsM
  cases l with
  | nil => simp
  | cons c r =>
    cases r with
    | nil => simp
    | cons d t =>
      rw [Bool.eq_iff_iff]
      simp only [List.length_cons, List.length_nil, List.take_succ_cons, List.take_zero, low, List.map_cons, List.map_nil, Bool.and_eq_true, decide_eq_true_eq, List.cons.injEq, and_true, List.getElem?_cons_zero, List.getElem?_cons_succ, Option.some.injEq]
      constructor
      · rintro ⟨_, h1, h2⟩
        exact ⟨low_back h1 hy, low_back h2 hz⟩
      · rintro ⟨rfl, rfl⟩
        exact ⟨by omega, hly, hl⟩
/-- The document's sign, by what stands behind. -/
theorem signS_is (n : Nat) (l : List UInt8) : signS n l =
    if (l[1]?).any letB = true then tagM true 1 n l
    else if l[1]? = some 47 ∧ (l[2]?).any letB = true then tagM false 2 n l
    else if beginsM [60, 33, 45, 45] l = true then noteM 4 4 n [45, 45, 62] l
    else if beginsM [60, 33, 100, 111, 99, 116, 121, 112, 101] l = true then noteM 5 9 n [62] l
    else if l[1]? = some 33 ∨ l[1]? = some 63 ∨ l[1]? = some 47 then { noteM 4 2 n [62] l with f := (141, n) :: (noteM 4 2 n [62] l).f }
    else ⟨some (textT [60]), [(141, n)], 1, []⟩ := by
  have g : ∀ k, l[k]? = none ∨ ∃ c, l[k]? = some c ∧ l.getD k 0 = c ∧ k + 1 ≤ l.length := fun k => by
    cases h : l[k]? with
    | none => exact .inl rfl
    | some c => exact .inr ⟨c, rfl, by simp [List.getD, h], (List.getElem?_eq_some_iff.1 h).1⟩
  have g2 : ∀ k, l[k]? = none → l.length ≤ k := fun k h => List.getElem?_eq_none_iff.1 h
  unfold signS
  dsimp only
  rcases g 1 with h1 | ⟨c1, h1, e1, l1⟩
  · have := g2 1 h1
    rw [if_neg (by omega), if_neg (by omega), h1]
    simp only [Option.any_none, Bool.false_eq_true, if_false, reduceCtorEq, false_and, or_self]
    rw [if_neg (show ¬ (2 ≤ l.length ∧ (l.getD 1 0 = 33 ∨ l.getD 1 0 = 63 ∨ l.getD 1 0 = 47)) by omega)]
  · rw [e1, h1]
    simp only [Option.any_some, Option.some.injEq]
    have el : (2 ≤ l.length ∧ letB c1 = true) ↔ letB c1 = true := ⟨fun h => h.2, fun h => ⟨l1, h⟩⟩
    have em : (2 ≤ l.length ∧ (c1 = 33 ∨ c1 = 63 ∨ c1 = 47)) ↔ (c1 = 33 ∨ c1 = 63 ∨ c1 = 47) := ⟨fun h => h.2, fun h => ⟨l1, h⟩⟩
    simp only [el, em]
    rcases g 2 with h2 | ⟨c2, h2, e2, l2⟩
    · have := g2 2 h2
      rw [h2]
      have en : ¬ (3 ≤ l.length ∧ c1 = 47 ∧ letB (l.getD 2 0) = true) := by omega
      simp only [en, Option.any_none, Bool.false_eq_true, and_false]
    · rw [e2, h2]
      have en : (3 ≤ l.length ∧ c1 = 47 ∧ letB c2 = true) ↔ (c1 = 47 ∧ letB c2 = true) := ⟨fun h => h.2, fun h => ⟨l2, h⟩⟩
      simp only [en, Option.any_some]

/-! ### comments, doctypes -/
theorem rd_note {s : List UInt8} {n : Nat} {H : List UInt8} {T : List Tk} {F : List Fl} (h : (s.drop n).head? = some 60) {S : Step} (hs : signS n (s.drop n) = S) (hr : S.r = []) (hk : 1 ≤ S.k) {t : Tk} (ht : S.t = some t) (h1 : t.k ≠ 1) : Rd s n H T F (n + S.k) [] (T ++ txtH H ++ [t]) (F ++ S.f) := by
  have hn : n < s.length := by
    cases hl : s.drop n with
    | nil => rw [hl] at h; cases h
    | cons c r =>
      have := congrArg List.length hl
      rw [List.length_drop] at this
      simp at this
      omega
  have hs' : stepM [] n (s.drop n) = S := by
    unfold stepM
    rw [if_neg (by simp), if_pos h]
    exact hs
  exact rd_one (H := H) (F := F) (T' := T ++ txtH H ++ [t]) (H' := []) hn hs' hr hk (by rw [ht, push_tell T H h1, txtH_nil, List.append_nil])

end Go.Proofs.YtfbhpmafjehojaaGreatDoor

namespace Go.Proofs.YtfbhpmafjehojaaGreatDoor

def nameT (d : Nat) (l : List UInt8) : List UInt8 := low ((l.drop d).take ((l.drop d).findIdx nameE))
def insT (st : Bool) (d n : Nat) (l : List UInt8) := insG st (n + (d + (l.drop d).findIdx nameE)) (l.drop (d + (l.drop d).findIdx nameE)) [] [] false
theorem tagM_none {st : Bool} {d n : Nat} {l : List UInt8} (h : insT st d n l = none) : tagM st d n l = ⟨none, [(140, n)], l.length, []⟩ := by
  unfold tagM
  dsimp only
  rw [insG_of st _ _ _ _ _ (by rw [List.length_drop]; omega)]
  unfold insT at h
  rw [h]
theorem tagM_some {st : Bool} {d n : Nat} {l : List UInt8} {as : List (List UInt8 × List UInt8)} {fl : List Fl} {sl : Bool} {p : Nat} (h : insT st d n l = some (as, fl, sl, p)) : tagM st d n l = ⟨some ⟨if st then 2 else 3, nameT d l, [], as, st && sl⟩, fl, p + 1 - n, if st && rawM (nameT d l) then nameT d l else []⟩ := by
  unfold tagM
  dsimp only
  rw [insG_of st _ _ _ _ _ (by rw [List.length_drop]; omega)]
  unfold insT at h
  rw [h]
  rfl
theorem head_lt {s : List UInt8} {n : Nat} {c : UInt8} (h : (s.drop n).head? = some c) : n < s.length := by
  cases hl : s.drop n with
  | nil => rw [hl] at h; cases h
  | cons c r =>
    have := congrArg List.length hl
    rw [List.length_drop] at this
    simp at this
    omega
theorem step_sign {l : List UInt8} (n : Nat) (h : l.head? = some 60) : stepM [] n l = signS n l := by
  unfold stepM
  rw [if_neg (by simp), if_pos h]
theorem rd_cut {s : List UInt8} {n d : Nat} {H : List UInt8} {T : List Tk} {F : List Fl} {st : Bool} (h : (s.drop n).head? = some 60) (hs : signS n (s.drop n) = tagM st d n (s.drop n)) (hi : insT st d n (s.drop n) = none) : Rd s n H T F s.length H T (F ++ [((140 : Int), n)]) := by
  have hn := head_lt h
  have hl : (s.drop n).length = s.length - n := List.length_drop
  refine (rd_one (H := H) (F := F) (T' := T) (H' := H) hn ((step_sign n h).trans (hs.trans (tagM_none hi))) rfl (by show 1 ≤ (s.drop n).length; omega) rfl).cast ?_ rfl rfl rfl
  show n + (s.drop n).length = s.length
  omega
theorem rd_tag {s : List UInt8} {n d : Nat} {H : List UInt8} {T : List Tk} {F : List Fl} {st : Bool} {as : List (List UInt8 × List UInt8)} {fl : List Fl} {sl : Bool} {p : Nat} (h : (s.drop n).head? = some 60) (hs : signS n (s.drop n) = tagM st d n (s.drop n)) (hi : insT st d n (s.drop n) = some (as, fl, sl, p)) (hp : n ≤ p) (hr : (st && rawM (nameT d (s.drop n))) = false) : Rd s n H T F (p + 1) [] (T ++ txtH H ++ [⟨if st then 2 else 3, nameT d (s.drop n), [], as, st && sl⟩]) (F ++ fl) := by
  have hn := head_lt h
  have ht : tagM st d n (s.drop n) = ⟨some ⟨if st then 2 else 3, nameT d (s.drop n), [], as, st && sl⟩, fl, p + 1 - n, []⟩ := by rw [tagM_some hi, hr]; rfl
  have h1 : (if st = true then (2 : Int) else 3) ≠ 1 := by cases st <;> simp
  refine (rd_one (H := H) (F := F) (T' := T ++ txtH H ++ [⟨if st then 2 else 3, nameT d (s.drop n), [], as, st && sl⟩]) (H' := []) hn ((step_sign n h).trans (hs.trans ht)) rfl (by show 1 ≤ p + 1 - n; omega) ?_).cast ?_ rfl rfl rfl
  · show pushM (T ++ txtH H) (some _) = _
    rw [push_tell T H h1, txtH_nil, List.append_nil]
  · show n + (p + 1 - n) = p + 1
    omega
/-- What stands behind a raw name's start tag. -/
def rawF (x : List UInt8) (n : Nat) (l : List UInt8) : List Fl := (rawS x n l).f
theorem rd_raw {s : List UInt8} {n d : Nat} {H : List UInt8} {T : List Tk} {F : List Fl} {as : List (List UInt8 × List UInt8)} {fl : List Fl} {sl : Bool} {p : Nat} {D : List UInt8} (h : (s.drop n).head? = some 60) (hs : signS n (s.drop n) = tagM true d n (s.drop n)) (hi : insT true d n (s.drop n) = some (as, fl, sl, p)) (hp : n < p) (hps : p + 1 ≤ s.length) (hr : rawM (nameT d (s.drop n)) = true)
    (hD : D = if softM (nameT d (s.drop n)) then (decL (p + 1) ((s.drop (p + 1)).take (endM (nameT d (s.drop n)) (s.drop (p + 1))))).1 else (s.drop (p + 1)).take (endM (nameT d (s.drop n)) (s.drop (p + 1)))) : Rd s n H T F (p + 1 + endM (nameT d (s.drop n)) (s.drop (p + 1))) D (T ++ txtH H ++ [⟨2, nameT d (s.drop n), [], as, sl⟩]) (F ++ fl ++ rawF (nameT d (s.drop n)) (p + 1) (s.drop (p + 1))) := by
  have hn := head_lt h
  obtain ⟨x, hx⟩ : ∃ x, nameT d (s.drop n) = x := ⟨_, rfl⟩
  have ht : tagM true d n (s.drop n) = ⟨some ⟨2, nameT d (s.drop n), [], as, sl⟩, fl, p + 1 - n, nameT d (s.drop n)⟩ := by
    rw [tagM_some hi]
    simp only [Bool.true_and, hr, if_true]
  rw [hx] at hr hD ht ⊢
  have hne : x ≠ [] := fun e => by rw [e] at hr; exact absurd hr (by decide)
  have he := endM_le x (s.drop (p + 1))
  rw [List.length_drop] at he
  have hk : n + (p + 1 - n) = p + 1 := by omega
  have hs2 : stepM x (n + (p + 1 - n)) (s.drop (n + (p + 1 - n))) = rawS x (p + 1) (s.drop (p + 1)) := by
    rw [hk]
    unfold stepM
    rw [if_pos hne]
  refine (rd_two (H := H) (F := F) (T1 := T ++ txtH H ++ [⟨2, x, [], as, sl⟩]) (T' := T ++ txtH H ++ [⟨2, x, [], as, sl⟩]) (H' := D) hn ((step_sign n h).trans (hs.trans ht)) (push_tell T H (by show (2 : Int) ≠ 1; decide)) (.inl hne) hs2 rfl ?_ ?_ ?_).cast ?_ rfl rfl rfl
  · show n + 2 ≤ n + (p + 1 - n) + endM x (s.drop (p + 1)); omega
  · show pushM _ (some (textT _)) = _
    have := push_held (T := T ++ txtH H ++ [⟨2, x, [], as, sl⟩]) (noText_snoc (t := ⟨2, x, [], as, sl⟩) _ (by show (2 : Int) ≠ 1; decide)) [] D
    rw [txtH_nil, List.append_nil, List.nil_append] at this
    rw [← this, hD]
    congr 3
    cases softM x <;> rfl
  · show n + (p + 1 - n) + endM x (s.drop (p + 1)) ≤ s.length; omega
  · show n + (p + 1 - n) + endM x (s.drop (p + 1)) = _; omega

end Go.Proofs.YtfbhpmafjehojaaGreatDoor
