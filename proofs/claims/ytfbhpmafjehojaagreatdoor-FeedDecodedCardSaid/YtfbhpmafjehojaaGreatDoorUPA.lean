/- Plain mathematics of bytes and code points (no program in this text): what bytes are decoded as, where they may be cut, which ends are not told yet. The document's own way to find a code point's bytes, and that it is the way of a range. -/
import Derived.Lib.DecodeNEq
import Derived.Lib.RuneBytes
namespace Go.Proofs.YtfbhpmafjehojaaGreatDoor.U1
open Go.Lib (decodeN firstT accLo accHi)

def nb (l : List UInt8) (k : Nat) : Nat := (l.getD k 0).toNat
theorem nb_lt (l : List UInt8) (k : Nat) : nb l k < 256 := (l.getD k 0).toNat_lt
theorem nb_append_left {a b : List UInt8} {k : Nat} (h : k < a.length) : nb (a ++ b) k = nb a k := by
  simp [nb, List.getD_eq_getElem?_getD, List.getElem?_append_left h]
theorem nb_append_right {a b : List UInt8} {k : Nat} (h : a.length ≤ k) : nb (a ++ b) k = nb b (k - a.length) := by
  simp [nb, List.getD_eq_getElem?_getD, List.getElem?_append_right h]
theorem nb_drop (l : List UInt8) (i k : Nat) : nb (l.drop i) k = nb l (i + k) := by
  simp [nb, List.getD_eq_getElem?_getD]

def decL (l : List UInt8) : Nat × Nat := decodeN l.length (nb l 0) (nb l 1) (nb l 2) (nb l 3)

theorem decode_drop (s : ByteArray) (i : Nat) : Utf8.decode s i = decL (s.data.toList.drop i) := by
  have g : ∀ k, (s.get! (i + k)).toNat = nb (s.data.toList.drop i) k := by
    intro k
    rw [nb_drop]
    simp [nb, ByteArray.get!, List.getD_eq_getElem?_getD, Array.getElem!_eq_getD, Array.getD_eq_getD_getElem?]
    rfl
  rw [Lib.decode_at, decL]
  have h0 := g 0
  rw [Nat.add_zero] at h0
  rw [h0, g 1, g 2, g 3]
  simp

def isPt (n : Nat) : Prop := n ≤ 1114111 ∧ (n < 55296 ∨ 57343 < n)

def encN (c : Nat) : List UInt8 :=
  if c ≤ 127 then [c.toUInt8]
  else if c ≤ 2047 then [(192 + c / 64).toUInt8, (128 + c % 64).toUInt8]
  else if c ≤ 65535 then [(224 + c / 4096).toUInt8, (128 + c / 64 % 64).toUInt8, (128 + c % 64).toUInt8]
  else [(240 + c / 262144).toUInt8, (128 + c / 4096 % 64).toUInt8, (128 + c / 64 % 64).toUInt8, (128 + c % 64).toUInt8]

theorem u8_toNat {n : Nat} (h : n < 256) : (n.toUInt8).toNat = n := by
  simp; omega

theorem encN_length (c : Nat) : 1 ≤ (encN c).length ∧ (encN c).length ≤ 4 := by
  unfold encN
  repeat' split
  all_goals simp

theorem encodeRune_eq {c : Nat} (h : isPt c) : Lib.encodeRune (c : Int) = encN c := by
  unfold isPt at h
  unfold Lib.encodeRune Lib.encodeRuneZ encN
  repeat' split
  all_goals first
    | (exfalso; omega)
    | (simp only [List.map_cons, List.map_nil]
       congr 1)



theorem take_1 (l : List UInt8) (h : 0 < l.length) : l.take 1 = [(nb l 0).toUInt8] := by
  match l, h with
  | [a], _ => simp [nb]
  | a :: b :: t, _ => simp [nb]
theorem take_2 (l : List UInt8) (h : 1 < l.length) : l.take 2 = [(nb l 0).toUInt8, (nb l 1).toUInt8] := by
  match l, h with
  | a :: b :: t, _ => simp [nb]
theorem take_3 (l : List UInt8) (h : 2 < l.length) : l.take 3 = [(nb l 0).toUInt8, (nb l 1).toUInt8, (nb l 2).toUInt8] := by
  match l, h with
  | a :: b :: c :: t, _ => simp [nb]
theorem take_4 (l : List UInt8) (h : 3 < l.length) : l.take 4 = [(nb l 0).toUInt8, (nb l 1).toUInt8, (nb l 2).toUInt8, (nb l 3).toUInt8] := by
  match l, h with
  | a :: b :: c :: d :: t, _ => simp [nb]

theorem l1 {a a' : UInt8} (h : a = a') : [a] = [a'] := by rw [h]
theorem l2 {a a' b b' : UInt8} (h : a = a') (h2 : b = b') : [a, b] = [a', b'] := by rw [h, h2]
theorem l3 {a a' b b' c c' : UInt8} (h : a = a') (h2 : b = b') (h3 : c = c') : [a, b, c] = [a', b', c'] := by rw [h, h2, h3]
theorem l4 {a a' b b' c c' d d' : UInt8} (h : a = a') (h2 : b = b') (h3 : c = c') (h4 : d = d') : [a, b, c, d] = [a', b', c', d'] := by rw [h, h2, h3, h4]
theorem u8c {a b : Nat} (h : a = b) : a.toUInt8 = b.toUInt8 := by rw [h]

/-- What decodeN can answer: a bad byte, or a code point whose bytes stand there. -/
theorem decL_cases (l : List UInt8) (h : l ≠ []) :
    decL l = (65533, 1) ∨ (isPt (decL l).1 ∧ (decL l).2 ≤ l.length ∧ encN (decL l).1 = l.take (decL l).2 ∧ (decL l).2 = (encN (decL l).1).length) := by
  have hl : 0 < l.length := List.length_pos_iff.2 h
  have b0 := nb_lt l 0
  have b1 := nb_lt l 1
  have b2 := nb_lt l 2
  have b3 := nb_lt l 3
  have t1 := take_1 l hl
  have t2 := take_2 l
  have t3 := take_3 l
  have t4 := take_4 l
  unfold decL decodeN
  generalize nb l 0 = x0 at *
  generalize nb l 1 = x1 at *
  generalize nb l 2 = x2 at *
  generalize nb l 3 = x3 at *
  split
  · right
    rw [t1, show encN x0 = [x0.toUInt8] by unfold encN; rw [if_pos (by omega)]]
    exact ⟨by unfold isPt; simp only; omega, hl, rfl, rfl⟩
  · split
    · split
      · right
        rename_i h1 h2
        rw [t2 (by omega)]
        have e : encN (x0 % 32 * 64 + x1 % 64) = [x0.toUInt8, x1.toUInt8] := by
          unfold encN
          rw [if_neg (by omega), if_pos (by omega)]
          exact l2 (u8c (by omega)) (u8c (by omega))
        simp only
        rw [e]
        exact ⟨by unfold isPt; omega, by omega, rfl, rfl⟩
      · left; rfl
    · split
      · split
        · right
          rename_i h1 h2
          rw [t3 (by omega)]
          have e : encN (x0 % 16 * 4096 + x1 % 64 * 64 + x2 % 64) = [x0.toUInt8, x1.toUInt8, x2.toUInt8] := by
            unfold encN
            rw [if_neg (by omega), if_neg (by omega), if_pos (by omega)]
            exact l3 (u8c (by omega)) (u8c (by omega)) (u8c (by omega))
          simp only
          rw [e]
          exact ⟨by unfold isPt; omega, by omega, rfl, rfl⟩
        · left; rfl
      · split
        · split
          · right
            rename_i h1 h2
            rw [t4 (by omega)]
            have e : encN (x0 % 8 * 262144 + x1 % 64 * 4096 + x2 % 64 * 64 + x3 % 64) = [x0.toUInt8, x1.toUInt8, x2.toUInt8, x3.toUInt8] := by
              unfold encN
              rw [if_neg (by omega), if_neg (by omega), if_neg (by omega)]
              exact l4 (u8c (by omega)) (u8c (by omega)) (u8c (by omega)) (u8c (by omega))
            simp only
            rw [e]
            exact ⟨by unfold isPt; omega, by omega, rfl, rfl⟩
          · left; rfl
        · left; rfl

theorem nb_cons0 (a : UInt8) (t : List UInt8) : nb (a :: t) 0 = a.toNat := by simp [nb]
theorem nb_cons1 (a b : UInt8) (t : List UInt8) : nb (a :: b :: t) 1 = b.toNat := by simp [nb]
theorem nb_cons2 (a b c : UInt8) (t : List UInt8) : nb (a :: b :: c :: t) 2 = c.toNat := by simp [nb]
theorem nb_cons3 (a b c d : UInt8) (t : List UInt8) : nb (a :: b :: c :: d :: t) 3 = d.toNat := by simp [nb]

theorem decL_enc (c : Nat) (hc : isPt c) (x : List UInt8) : decL (encN c ++ x) = (c, (encN c).length) := by
  unfold isPt at hc
  by_cases h1 : c ≤ 127
  · rw [show encN c = [c.toUInt8] by unfold encN; rw [if_pos h1]]
    unfold decL
    simp only [List.cons_append, List.nil_append, nb_cons0]
    rw [u8_toNat (by omega)]
    unfold decodeN
    rw [if_pos (by omega)]
    rfl
  · by_cases h2 : c ≤ 2047
    · rw [show encN c = [(192 + c / 64).toUInt8, (128 + c % 64).toUInt8] by unfold encN; rw [if_neg h1, if_pos h2]]
      unfold decL
      simp only [List.cons_append, List.nil_append, nb_cons0, nb_cons1, List.length_cons]
      rw [u8_toNat (by omega), u8_toNat (by omega)]
      unfold decodeN
      rw [if_neg (by omega), if_pos (by omega), if_pos (by omega)]
      simp only [List.length_nil]
      congr 1
      omega
    · by_cases h3 : c ≤ 65535
      · rw [show encN c = [(224 + c / 4096).toUInt8, (128 + c / 64 % 64).toUInt8, (128 + c % 64).toUInt8] by unfold encN; rw [if_neg h1, if_neg h2, if_pos h3]]
        unfold decL
        simp only [List.cons_append, List.nil_append, nb_cons0, nb_cons1, nb_cons2, List.length_cons]
        rw [u8_toNat (by omega), u8_toNat (by omega), u8_toNat (by omega)]
        unfold decodeN
        rw [if_neg (by omega), if_neg (by omega), if_pos (by omega), if_pos (by omega)]
        simp only [List.length_nil]
        congr 1
        omega
      · rw [show encN c = [(240 + c / 262144).toUInt8, (128 + c / 4096 % 64).toUInt8, (128 + c / 64 % 64).toUInt8, (128 + c % 64).toUInt8] by unfold encN; rw [if_neg h1, if_neg h2, if_neg h3]]
        unfold decL
        simp only [List.cons_append, List.nil_append, nb_cons0, nb_cons1, nb_cons2, nb_cons3, List.length_cons]
        rw [u8_toNat (by omega), u8_toNat (by omega), u8_toNat (by omega), u8_toNat (by omega)]
        unfold decodeN
        rw [if_neg (by omega), if_neg (by omega), if_neg (by omega), if_pos (by omega), if_pos (by omega)]
        simp only [List.length_nil]
        congr 1
        omega

def full (l : List UInt8) : Bool :=
  if l.length = 0 then false
  else if firstT (nb l 0) % 8 ≤ l.length then true
  else if 1 < l.length ∧ (nb l 1 < accLo (firstT (nb l 0) / 16) ∨ accHi (firstT (nb l 0) / 16) < nb l 1) then true
  else decide (2 < l.length ∧ (nb l 2 < 128 ∨ 191 < nb l 2))

/-- A continuation byte. -/
def contB (n : Nat) : Prop := 128 ≤ n ∧ n ≤ 191
instance (n : Nat) : Decidable (contB n) := by unfold contB; infer_instance

/-- The lead byte's class. -/
theorem first_class (b : Nat) (hb : b < 256) :
    (firstT b % 8 ≤ 1 ∧ (b < 128 ∨ (128 ≤ b ∧ b < 194) ∨ 244 < b)) ∨
    (firstT b = 2 ∧ 194 ≤ b ∧ b < 224) ∨ (firstT b = 19 ∧ b = 224) ∨ (firstT b = 3 ∧ ((225 ≤ b ∧ b < 237) ∨ (238 ≤ b ∧ b < 240))) ∨ (firstT b = 35 ∧ b = 237) ∨
    (firstT b = 52 ∧ b = 240) ∨ (firstT b = 4 ∧ 241 ≤ b ∧ b < 244) ∨ (firstT b = 68 ∧ b = 244) := by
  unfold firstT
  repeat' split
  all_goals omega

theorem cont_bad (l : List UInt8) (h : contB (nb l 0)) : decL l = (65533, 1) := by
  unfold contB at h
  unfold decL decodeN
  repeat' split
  all_goals first | rfl | (exfalso; omega)


theorem dA (n b0 b1 b2 b3 : Nat) (h : b0 < 128) : decodeN n b0 b1 b2 b3 = (b0, 1) := by
  unfold decodeN; rw [if_pos h]
theorem dBad (n b0 b1 b2 b3 : Nat) (h : (128 ≤ b0 ∧ b0 < 194) ∨ (244 < b0)) (hb : b0 < 256) : decodeN n b0 b1 b2 b3 = (65533, 1) := by
  unfold decodeN
  rw [if_neg (by omega)]
  repeat' split
  all_goals first | rfl | (exfalso; omega)
theorem dC (n b0 b1 b2 b3 : Nat) (h : 194 ≤ b0 ∧ b0 < 224) : decodeN n b0 b1 b2 b3 = if 1 < n ∧ contB b1 then (b0 % 32 * 64 + b1 % 64, 2) else (65533, 1) := by
  unfold decodeN contB
  rw [if_neg (by omega)]
  by_cases hc : 1 < n ∧ 128 ≤ b1 ∧ b1 ≤ 191
  · rw [if_pos (by omega), if_pos (by omega), if_pos hc]
  · rw [if_neg (by omega), if_neg (by omega), if_neg (by omega), if_neg hc]
theorem dE (n b0 b1 b2 b3 lo hi : Nat) (h : (b0 = 224 ∧ lo = 160 ∧ hi = 191) ∨ (((225 ≤ b0 ∧ b0 < 237) ∨ (238 ≤ b0 ∧ b0 < 240)) ∧ lo = 128 ∧ hi = 191) ∨ (b0 = 237 ∧ lo = 128 ∧ hi = 159)) :
    decodeN n b0 b1 b2 b3 = if (1 < n ∧ lo ≤ b1 ∧ b1 ≤ hi) ∧ (2 < n ∧ contB b2) then (b0 % 16 * 4096 + b1 % 64 * 64 + b2 % 64, 3) else (65533, 1) := by
  unfold decodeN contB
  rw [if_neg (by omega), if_neg (by omega)]
  by_cases hc : (1 < n ∧ lo ≤ b1 ∧ b1 ≤ hi) ∧ (2 < n ∧ 128 ≤ b2 ∧ b2 ≤ 191)
  · rw [if_pos (by omega), if_pos (by omega), if_pos hc]
  · rw [if_neg hc]
    repeat' split
    all_goals first | rfl | (exfalso; omega)
theorem dF (n b0 b1 b2 b3 lo hi : Nat) (h : (b0 = 240 ∧ lo = 144 ∧ hi = 191) ∨ ((241 ≤ b0 ∧ b0 < 244) ∧ lo = 128 ∧ hi = 191) ∨ (b0 = 244 ∧ lo = 128 ∧ hi = 143)) :
    decodeN n b0 b1 b2 b3 = if (1 < n ∧ lo ≤ b1 ∧ b1 ≤ hi) ∧ (2 < n ∧ contB b2) ∧ (3 < n ∧ contB b3) then (b0 % 8 * 262144 + b1 % 64 * 4096 + b2 % 64 * 64 + b3 % 64, 4) else (65533, 1) := by
  unfold decodeN contB
  rw [if_neg (by omega), if_neg (by omega), if_neg (by omega)]
  by_cases hc : (1 < n ∧ lo ≤ b1 ∧ b1 ≤ hi) ∧ (2 < n ∧ 128 ≤ b2 ∧ b2 ≤ 191) ∧ (3 < n ∧ 128 ≤ b3 ∧ b3 ≤ 191)
  · rw [if_pos (by omega), if_pos (by omega), if_pos hc]
  · rw [if_neg hc]
    repeat' split
    all_goals first | rfl | (exfalso; omega)

/-- The classes, with the second byte's bounds. -/
theorem classes (b : Nat) (hb : b < 256) :
    (firstT b % 8 ≤ 1 ∧ b < 128) ∨ (firstT b % 8 ≤ 1 ∧ ((128 ≤ b ∧ b < 194) ∨ 244 < b)) ∨ (firstT b % 8 = 2 ∧ accLo (firstT b / 16) = 128 ∧ accHi (firstT b / 16) = 191 ∧ (194 ≤ b ∧ b < 224)) ∨
    (firstT b % 8 = 3 ∧ ∃ lo hi, accLo (firstT b / 16) = lo ∧ accHi (firstT b / 16) = hi ∧ 128 ≤ lo ∧ hi ≤ 191 ∧ ((b = 224 ∧ lo = 160 ∧ hi = 191) ∨ (((225 ≤ b ∧ b < 237) ∨ (238 ≤ b ∧ b < 240)) ∧ lo = 128 ∧ hi = 191) ∨ (b = 237 ∧ lo = 128 ∧ hi = 159))) ∨
    (firstT b % 8 = 4 ∧ ∃ lo hi, accLo (firstT b / 16) = lo ∧ accHi (firstT b / 16) = hi ∧ 128 ≤ lo ∧ hi ≤ 191 ∧ ((b = 240 ∧ lo = 144 ∧ hi = 191) ∨ ((241 ≤ b ∧ b < 244) ∧ lo = 128 ∧ hi = 191) ∨ (b = 244 ∧ lo = 128 ∧ hi = 143))) := by
  rcases first_class b hb with ⟨h, h2⟩ | ⟨h, h2⟩ | ⟨h, h2⟩ | ⟨h, h2⟩ | ⟨h, h2⟩ | ⟨h, h2⟩ | ⟨h, h2⟩ | ⟨h, h2⟩
  · rcases h2 with h2 | h2
    · exact .inl ⟨h, h2⟩
    · exact .inr (.inl ⟨h, h2⟩)
  · rw [h]; exact .inr (.inr (.inl ⟨rfl, rfl, rfl, h2⟩))
  · rw [h]; exact .inr (.inr (.inr (.inl ⟨rfl, 160, 191, rfl, rfl, by omega, by omega, by omega⟩)))
  · rw [h]; exact .inr (.inr (.inr (.inl ⟨rfl, 128, 191, rfl, rfl, by omega, by omega, by omega⟩)))
  · rw [h]; exact .inr (.inr (.inr (.inl ⟨rfl, 128, 159, rfl, rfl, by omega, by omega, by omega⟩)))
  · rw [h]; exact .inr (.inr (.inr (.inr ⟨rfl, 144, 191, rfl, rfl, by omega, by omega, by omega⟩)))
  · rw [h]; exact .inr (.inr (.inr (.inr ⟨rfl, 128, 191, rfl, rfl, by omega, by omega, by omega⟩)))
  · rw [h]; exact .inr (.inr (.inr (.inr ⟨rfl, 128, 143, rfl, rfl, by omega, by omega, by omega⟩)))

theorem ite_same {p q : Prop} [Decidable p] [Decidable q] {a b c : Nat × Nat} (h : p ↔ q) (h2 : p → a = b) : (if p then a else c) = if q then b else c := by
  by_cases hp : p
  · rw [if_pos hp, if_pos (h.1 hp), h2 hp]
  · rw [if_neg hp, if_neg (fun hq => hp (h.2 hq))]

theorem app_parts (a r : List UInt8) (ha : a ≠ []) : nb (a ++ r) 0 = nb a 0 ∧ (1 < a.length → nb (a ++ r) 1 = nb a 1) ∧ (2 < a.length → nb (a ++ r) 2 = nb a 2) ∧ (3 < a.length → nb (a ++ r) 3 = nb a 3) ∧
    (a.length = 1 → nb (a ++ r) 1 = nb r 0) ∧ (a.length = 2 → nb (a ++ r) 2 = nb r 0) ∧ (a.length = 3 → nb (a ++ r) 3 = nb r 0) :=
  ⟨nb_append_left (List.length_pos_iff.2 ha), fun h => nb_append_left h, fun h => nb_append_left h, fun h => nb_append_left h,
    fun h => by rw [nb_append_right (by omega), h], fun h => by rw [nb_append_right (by omega), h], fun h => by rw [nb_append_right (by omega), h]⟩

theorem full_stable (l x : List UInt8) (h : l ≠ []) (hf : (decL l).1 ≠ 65533 ∨ full l = true) : decL (l ++ x) = decL l := by
  have hl : 0 < l.length := List.length_pos_iff.2 h
  obtain ⟨e0, e1, e2, e3, _, _, _⟩ := app_parts l x h
  have hlen : (l ++ x).length = l.length + x.length := List.length_append
  have z := nb_lt l 0
  have hf' : (decL l).1 ≠ 65533 ∨ firstT (nb l 0) % 8 ≤ l.length ∨ (1 < l.length ∧ (nb l 1 < accLo (firstT (nb l 0) / 16) ∨ accHi (firstT (nb l 0) / 16) < nb l 1)) ∨ (2 < l.length ∧ (nb l 2 < 128 ∨ 191 < nb l 2)) := by
    rcases hf with hf | hf
    · exact .inl hf
    · right
      unfold full at hf
      rw [if_neg (by omega)] at hf
      split at hf
      · left; assumption
      · split at hf
        · right; left; assumption
        · right; right; exact of_decide_eq_true hf
  clear hf h
  unfold decL at *
  rw [e0, hlen]
  generalize nb (l ++ x) 1 = y1 at *
  generalize nb (l ++ x) 2 = y2 at *
  generalize nb (l ++ x) 3 = y3 at *
  generalize nb l 0 = x0 at *
  generalize nb l 1 = x1 at *
  generalize nb l 2 = x2 at *
  generalize nb l 3 = x3 at *
  generalize l.length = n at *
  generalize x.length = m at *
  rcases classes x0 z with ⟨_, h⟩ | ⟨_, h⟩ | ⟨f1, f2, f3, h⟩ | ⟨f1, lo, hi, f2, f3, h1, h2, h⟩ | ⟨f1, lo, hi, f2, f3, h1, h2, h⟩
  · rw [dA _ _ _ _ _ h, dA _ _ _ _ _ h]
  · rw [dBad _ _ _ _ _ h z, dBad _ _ _ _ _ h z]
  · rw [dC _ _ _ _ _ h] at hf'
    rw [dC _ _ _ _ _ h, dC _ _ _ _ _ h]
    rw [f1, f2, f3] at hf'
    have hn : 2 ≤ n := by
      rcases hf' with hf' | hf'
      · by_cases hp : 1 < n ∧ contB x1
        · omega
        · rw [if_neg hp] at hf'; simp at hf'
      · omega
    have := e1 (by omega)
    subst y1
    clear hf'
    unfold contB
    exact ite_same (by omega) (fun _ => rfl)
  · rw [dE _ _ _ _ _ lo hi h] at hf'
    rw [dE _ _ _ _ _ lo hi h, dE _ _ _ _ _ lo hi h]
    rw [f1, f2, f3] at hf'
    have hn : 3 ≤ n ∨ (1 < n ∧ (x1 < lo ∨ hi < x1)) := by
      rcases hf' with hf' | hf'
      · by_cases hp : (1 < n ∧ lo ≤ x1 ∧ x1 ≤ hi) ∧ (2 < n ∧ contB x2)
        · omega
        · rw [if_neg hp] at hf'; simp at hf'
      · omega
    clear hf'
    unfold contB
    exact ite_same (by omega) (fun hp => by rw [e1 (by omega), e2 (by omega)])
  · rw [dF _ _ _ _ _ lo hi h] at hf'
    rw [dF _ _ _ _ _ lo hi h, dF _ _ _ _ _ lo hi h]
    rw [f1, f2, f3] at hf'
    have hn : 4 ≤ n ∨ (1 < n ∧ (x1 < lo ∨ hi < x1)) ∨ (2 < n ∧ (x2 < 128 ∨ 191 < x2)) := by
      rcases hf' with hf' | hf'
      · by_cases hp : (1 < n ∧ lo ≤ x1 ∧ x1 ≤ hi) ∧ (2 < n ∧ contB x2) ∧ (3 < n ∧ contB x3)
        · omega
        · rw [if_neg hp] at hf'; simp at hf'
      · omega
    clear hf'
    unfold contB
    exact ite_same (by omega) (fun hp => by rw [e1 (by omega), e2 (by omega), e3 (by omega)])

theorem not_full (l : List UInt8) (h : l ≠ []) (hf : full l = false) : l.length ≤ 3 ∧ ¬ contB (nb l 0) ∧ decL l = (65533, 1) ∧ (∀ k, 1 ≤ k → k < l.length → contB (nb l k)) := by
  have hl : 0 < l.length := List.length_pos_iff.2 h
  have z := nb_lt l 0
  unfold full at hf
  rw [if_neg (by omega)] at hf
  split at hf
  · cases hf
  split at hf
  · cases hf
  have hf3 := of_decide_eq_false hf
  rename_i g1 g2
  have hk : ∀ k, 1 ≤ k → k < l.length → l.length ≤ 3 → k = 1 ∨ k = 2 := fun k _ _ _ => by omega
  unfold decL
  have b1 : ∀ k, k = 1 → nb l k = nb l 1 := fun k e => by rw [e]
  have b2 : ∀ k, k = 2 → nb l k = nb l 2 := fun k e => by rw [e]
  rcases classes (nb l 0) z with ⟨f1, h⟩ | ⟨f1, h⟩ | ⟨f1, f2, f3, h⟩ | ⟨f1, lo, hi, f2, f3, h1, h2, h⟩ | ⟨f1, lo, hi, f2, f3, h1, h2, h⟩
  · omega
  · omega
  · rw [f1] at g1
    exact ⟨by omega, by unfold contB; omega, by rw [dC _ _ _ _ _ h, if_neg (by omega)], fun k _ _ => by omega⟩
  · rw [f1] at g1
    rw [f2, f3] at g2
    refine ⟨by omega, by unfold contB; omega, by rw [dE _ _ _ _ _ lo hi h, if_neg (by omega)], fun k hk1 hk2 => ?_⟩
    rw [b1 k (by omega)]
    unfold contB
    omega
  · rw [f1] at g1
    rw [f2, f3] at g2
    refine ⟨by omega, by unfold contB; omega, by rw [dF _ _ _ _ _ lo hi h, if_neg (by omega)], fun k hk1 hk2 => ?_⟩
    rcases hk k hk1 hk2 (by omega) with e | e
    · rw [b1 k e]; unfold contB; omega
    · rw [b2 k e]; unfold contB; omega

/-! ### the whole text -/
def ptsF : Nat → List UInt8 → List Nat
  | 0, _ => []
  | f + 1, l => if l = [] then [] else (decL l).1 :: ptsF f (l.drop (decL l).2)
def pts (l : List UInt8) : List Nat := ptsF l.length l
def encs (p : List Nat) : List UInt8 := p.flatMap encN
def dec (l : List UInt8) : List UInt8 := encs (pts l)

theorem width_pos (l : List UInt8) (h : l ≠ []) : 1 ≤ (decL l).2 ∧ (decL l).2 ≤ l.length ∧ (decL l).2 ≤ 4 := by
  have hl : 0 < l.length := List.length_pos_iff.2 h
  rcases decL_cases l h with e | ⟨_, h2, h3, h4⟩
  · rw [e]; exact ⟨Nat.le_refl _, hl, by simp⟩
  · have := encN_length (decL l).1
    omega
theorem ptsF_nil (f : Nat) : ptsF f [] = [] := by cases f <;> simp [ptsF]
theorem ptsF_more : ∀ (f g : Nat) (l : List UInt8), l.length ≤ f → l.length ≤ g → ptsF f l = ptsF g l
  | 0, g, l, hf, _ => by
    have : l = [] := List.length_eq_zero_iff.1 (by omega)
    rw [this, ptsF_nil, ptsF_nil]
  | f + 1, 0, l, _, hg => by
    have : l = [] := List.length_eq_zero_iff.1 (by omega)
    rw [this, ptsF_nil, ptsF_nil]
  | f + 1, g + 1, l, hf, hg => by
    by_cases h : l = []
    · rw [h, ptsF_nil, ptsF_nil]
    · have hw := width_pos l h
      simp only [ptsF, if_neg h]
      rw [ptsF_more f g (l.drop (decL l).2) (by simp; omega) (by simp; omega)]
theorem pts_nil : pts [] = [] := rfl
theorem pts_cons (l : List UInt8) (h : l ≠ []) : pts l = (decL l).1 :: pts (l.drop (decL l).2) := by
  have hw := width_pos l h
  have hl : 0 < l.length := List.length_pos_iff.2 h
  unfold pts
  obtain ⟨n, hn⟩ : ∃ n, l.length = n + 1 := ⟨l.length - 1, by omega⟩
  rw [show ptsF l.length l = ptsF (n + 1) l by rw [hn]]
  simp only [ptsF, if_neg h]
  rw [ptsF_more n (l.drop (decL l).2).length _ (by simp; omega) (Nat.le_refl _)]

theorem encs_nil : encs [] = [] := rfl
theorem encs_cons (c : Nat) (p : List Nat) : encs (c :: p) = encN c ++ encs p := by simp [encs]
theorem encs_append (p q : List Nat) : encs (p ++ q) = encs p ++ encs q := by simp [encs]
theorem isPt_bad : isPt 65533 := by unfold isPt; omega
theorem decL_pt (l : List UInt8) (h : l ≠ []) : isPt (decL l).1 := by
  rcases decL_cases l h with e | ⟨h1, _⟩
  · rw [e]; exact isPt_bad
  · exact h1

/-- An induction along the code points. -/
theorem pts_ind {P : List UInt8 → Prop} (h0 : P []) (h1 : ∀ l, l ≠ [] → P (l.drop (decL l).2) → P l) : ∀ l, P l := by
  intro l
  generalize hn : l.length = n
  induction n using Nat.strongRecOn generalizing l with
  | _ n ih =>
    by_cases h : l = []
    · rw [h]; exact h0
    · have hw := width_pos l h
      exact h1 l h (ih _ (by subst hn; simp; omega) _ rfl)

theorem pts_valid (l : List UInt8) : ∀ c ∈ pts l, isPt c := by
  induction l using pts_ind with
  | h0 => intro c hc; cases hc
  | h1 l h ih =>
    intro c hc
    rw [pts_cons l h] at hc
    rcases List.mem_cons.1 hc with e | e
    · rw [e]; exact decL_pt l h
    · exact ih c e

theorem pts_cont : ∀ (l : List UInt8), (∀ k, k < l.length → contB (nb l k)) → pts l = List.replicate l.length 65533
  | [], _ => rfl
  | b :: t, h => by
    have e := cont_bad (b :: t) (h 0 (by simp))
    rw [pts_cons _ (by simp), e]
    simp only [List.drop_one, List.tail_cons, List.length_cons, List.replicate_succ]
    rw [pts_cont t (fun k hk => by
      have := h (k + 1) (by simp; omega)
      simpa [nb] using this)]
theorem pts_not_full (l : List UInt8) (h : l ≠ []) (hf : full l = false) : pts l = List.replicate l.length 65533 := by
  obtain ⟨_, _, h3, h4⟩ := not_full l h hf
  match l, h with
  | b :: t, h =>
    rw [pts_cons _ h, h3]
    simp only [List.drop_one, List.tail_cons, List.length_cons, List.replicate_succ]
    rw [pts_cont t (fun k hk => by
      have := h4 (k + 1) (by omega) (by simp; omega)
      simpa [nb] using this)]

/-! ### what is told now, and what is kept -/
/-- By at most f code points: what is told as points, and the rest. -/
def tellF : Nat → List UInt8 → List Nat × List UInt8
  | 0, l => ([], l)
  | f + 1, l => if l = [] then ([], []) else if (decL l).1 ≠ 65533 ∨ full l = true then ((decL l).1 :: (tellF f (l.drop (decL l).2)).1, (tellF f (l.drop (decL l).2)).2) else ([], l)
def tellP (l : List UInt8) : List Nat := (tellF l.length l).1
def rest (l : List UInt8) : List UInt8 := (tellF l.length l).2
def told (l : List UInt8) : List UInt8 := encs (tellP l)

theorem tellF_more : ∀ (f g : Nat) (l : List UInt8), l.length ≤ f → l.length ≤ g → tellF f l = tellF g l
  | 0, 0, l, hf, _ => rfl
  | 0, g + 1, l, hf, _ => by
    have : l = [] := List.length_eq_zero_iff.1 (by omega)
    rw [this]; simp [tellF]
  | f + 1, 0, l, _, hg => by
    have : l = [] := List.length_eq_zero_iff.1 (by omega)
    rw [this]; simp [tellF]
  | f + 1, g + 1, l, hf, hg => by
    by_cases h : l = []
    · rw [h]; simp [tellF]
    · have hw := width_pos l h
      simp only [tellF, if_neg h]
      rw [tellF_more f g (l.drop (decL l).2) (by simp; omega) (by simp; omega)]
theorem tell_nil : tellP [] = [] ∧ rest [] = [] := ⟨rfl, rfl⟩
theorem tell_step (l : List UInt8) (h : l ≠ []) (hs : (decL l).1 ≠ 65533 ∨ full l = true) : tellP l = (decL l).1 :: tellP (l.drop (decL l).2) ∧ rest l = rest (l.drop (decL l).2) := by
  have hw := width_pos l h
  have hl : 0 < l.length := List.length_pos_iff.2 h
  unfold tellP rest
  obtain ⟨n, hn⟩ : ∃ n, l.length = n + 1 := ⟨l.length - 1, by omega⟩
  rw [show tellF l.length l = tellF (n + 1) l by rw [hn]]
  simp only [tellF, if_neg h, if_pos hs]
  rw [tellF_more n (l.drop (decL l).2).length _ (by simp; omega) (Nat.le_refl _)]
  exact ⟨rfl, rfl⟩
theorem tell_stop (l : List UInt8) (h : l ≠ []) (h1 : (decL l).1 = 65533) (h2 : full l = false) : tellP l = [] ∧ rest l = l := by
  have hl : 0 < l.length := List.length_pos_iff.2 h
  unfold tellP rest
  obtain ⟨n, hn⟩ : ∃ n, l.length = n + 1 := ⟨l.length - 1, by omega⟩
  rw [show tellF l.length l = tellF (n + 1) l by rw [hn]]
  have : ¬ ((decL l).1 ≠ 65533 ∨ full l = true) := by rw [h1, h2]; simp
  simp only [tellF, if_neg h, if_neg this, and_self]

/-- The rest: nothing, or bytes whose code point is not whole. -/
theorem rest_kind (l : List UInt8) : rest l = [] ∨ (rest l ≠ [] ∧ full (rest l) = false) := by
  induction l using pts_ind with
  | h0 => exact .inl rfl
  | h1 l h ih =>
    by_cases hs : (decL l).1 ≠ 65533 ∨ full l = true
    · rw [(tell_step l h hs).2]; exact ih
    · have h1 : (decL l).1 = 65533 := Classical.byContradiction fun g => hs (.inl g)
      have h2 : full l = false := by
        cases hb : full l with
        | false => rfl
        | true => exact absurd (.inr hb) hs
      rw [(tell_stop l h h1 h2).2]; exact .inr ⟨h, h2⟩
theorem rest_len (l : List UInt8) : (rest l).length ≤ 3 := by
  rcases rest_kind l with e | ⟨h, h2⟩
  · rw [e]; simp
  · exact (not_full _ h h2).1
/-- Whatever comes behind: what is told stays told. -/
theorem tell_stays (l x : List UInt8) : pts (l ++ x) = tellP l ++ pts (rest l ++ x) := by
  induction l using pts_ind with
  | h0 => rfl
  | h1 l h ih =>
    by_cases hs : (decL l).1 ≠ 65533 ∨ full l = true
    · obtain ⟨e1, e2⟩ := tell_step l h hs
      have hw := width_pos l h
      have hne : l ++ x ≠ [] := fun e => h (List.append_eq_nil_iff.1 e).1
      rw [e1, e2, pts_cons _ hne, full_stable l x h hs, List.drop_append_of_le_length hw.2.1, ih]
      rfl
    · have h1 : (decL l).1 = 65533 := Classical.byContradiction fun g => hs (.inl g)
      have h2 : full l = false := by
        cases hb : full l with
        | false => rfl
        | true => exact absurd (.inr hb) hs
      obtain ⟨e1, e2⟩ := tell_stop l h h1 h2
      rw [e1, e2]; rfl
theorem pts_rest (l : List UInt8) : pts (rest l) = List.replicate (rest l).length 65533 := by
  rcases rest_kind l with e | ⟨h, h2⟩
  · rw [e]; rfl
  · exact pts_not_full _ h h2
/-- Decode: what is told, and three bytes for each byte of the rest. -/
theorem dec_tell (l : List UInt8) : dec l = told l ++ encs (List.replicate (rest l).length 65533) := by
  have := tell_stays l []
  rw [List.append_nil, List.append_nil, pts_rest] at this
  unfold dec told
  rw [this, encs_append]
theorem encs_len_le (p : List Nat) : p.length ≤ (encs p).length ∧ (encs p).length ≤ 4 * p.length := by
  induction p with
  | nil => simp [encs_nil]
  | cons c p ih =>
    have := encN_length c
    rw [encs_cons]
    simp
    omega
theorem pts_len (l : List UInt8) : (pts l).length ≤ l.length ∧ l.length ≤ 4 * (pts l).length := by
  induction l using pts_ind with
  | h0 => simp [pts_nil]
  | h1 l h ih =>
    have hw := width_pos l h
    rw [pts_cons l h]
    simp at ih ⊢
    omega

end Go.Proofs.YtfbhpmafjehojaaGreatDoor.U1

namespace Go.Proofs.YtfbhpmafjehojaaGreatDoor.U1

/-- How many bytes one has that begins so, and what its first byte says of it. -/
def leadK (c : Nat) : Nat := if c < 128 then 1 else if c < 192 then 0 else if c < 224 then 2 else if c < 240 then 3 else if c < 248 then 4 else 0
def leadN (c : Nat) : Nat := if c < 128 then c else if c < 192 then 0 else if c < 224 then c - 192 else if c < 240 then c - 224 else if c < 248 then c - 240 else 0
/-- The number behind i bytes (i at least 1). -/
def accL (l : List UInt8) : Nat → Nat
  | 0 => 0
  | 1 => leadN (nb l 0)
  | i + 2 => 64 * accL l (i + 1) + nb l (i + 1) % 64
theorem accL_one (l : List UInt8) : accL l 1 = leadN (nb l 0) := rfl
theorem accL_succ (l : List UInt8) (i : Nat) (h : 1 ≤ i) : accL l (i + 1) = 64 * accL l i + nb l i % 64 := by
  obtain ⟨j, rfl⟩ : ∃ j, i = j + 1 := ⟨i - 1, by omega⟩
  rfl
theorem leadN_lt (c : Nat) : leadN c < 128 := by
  unfold leadN
  repeat' split
  all_goals omega
theorem accL_lt (l : List UInt8) (i : Nat) (h : i ≤ 4) : accL l i < 33554432 := by
  have h1 := leadN_lt (nb l 0)
  have h2 : accL l 2 = 64 * leadN (nb l 0) + nb l 1 % 64 := rfl
  have h3 : accL l 3 = 64 * accL l 2 + nb l 2 % 64 := rfl
  have h4 : accL l 4 = 64 * accL l 3 + nb l 3 % 64 := rfl
  match i, h with
  | 0, _ => simp [accL]
  | 1, _ => rw [accL_one]; omega
  | 2, _ => omega
  | 3, _ => omega
  | 4, _ => omega
def ptB (n : Int) : Bool := decide (0 ≤ n ∧ n ≤ 1114111 ∧ (n < 55296 ∨ 57343 < n))
theorem ptB_iff (n : Nat) : ptB (n : Int) = true ↔ isPt n := by
  unfold ptB isPt; simp only [decide_eq_true_eq]; omega

/-- First: the code point whose bytes a text begins with, and how many they are. -/
def firstL (l : List UInt8) : Nat × Nat :=
  if leadK (nb l 0) = 0 ∨ l.length < leadK (nb l 0) then (0, 0)
  else if ptB (accL l (leadK (nb l 0)) : Nat) = true ∧ encN (accL l (leadK (nb l 0))) = l.take (leadK (nb l 0)) then (accL l (leadK (nb l 0)), leadK (nb l 0))
  else (0, 0)

/-- A code point's bytes say how many they are, and it. -/
theorem lead_enc (c : Nat) (hc : isPt c) (x : List UInt8) : leadK (nb (encN c ++ x) 0) = (encN c).length ∧ accL (encN c ++ x) (encN c).length = c := by
  unfold isPt at hc
  by_cases h1 : c ≤ 127
  · rw [show encN c = [c.toUInt8] from if_pos h1]
    simp only [List.cons_append, List.nil_append, nb_cons0, List.length_cons, List.length_nil, Nat.zero_add, accL]
    rw [u8_toNat (by omega)]
    unfold leadK leadN
    rw [if_pos (by omega), if_pos (by omega)]
    exact ⟨rfl, rfl⟩
  · by_cases h2 : c ≤ 2047
    · rw [show encN c = [(192 + c / 64).toUInt8, (128 + c % 64).toUInt8] by unfold encN; rw [if_neg h1, if_pos h2]]
      simp only [List.cons_append, List.nil_append, nb_cons0, nb_cons1, List.length_cons, List.length_nil, Nat.zero_add, Nat.reduceAdd, accL]
      rw [u8_toNat (by omega), u8_toNat (by omega)]
      unfold leadK leadN
      rw [if_neg (by omega), if_neg (by omega), if_pos (by omega), if_neg (by omega), if_neg (by omega), if_pos (by omega)]
      exact ⟨rfl, by omega⟩
    · by_cases h3 : c ≤ 65535
      · rw [show encN c = [(224 + c / 4096).toUInt8, (128 + c / 64 % 64).toUInt8, (128 + c % 64).toUInt8] by unfold encN; rw [if_neg h1, if_neg h2, if_pos h3]]
        simp only [List.cons_append, List.nil_append, nb_cons0, nb_cons1, nb_cons2, List.length_cons, List.length_nil, Nat.zero_add, Nat.reduceAdd, accL]
        rw [u8_toNat (by omega), u8_toNat (by omega), u8_toNat (by omega)]
        unfold leadK leadN
        rw [if_neg (by omega), if_neg (by omega), if_neg (by omega), if_pos (by omega), if_neg (by omega), if_neg (by omega), if_neg (by omega), if_pos (by omega)]
        exact ⟨rfl, by omega⟩
      · rw [show encN c = [(240 + c / 262144).toUInt8, (128 + c / 4096 % 64).toUInt8, (128 + c / 64 % 64).toUInt8, (128 + c % 64).toUInt8] by unfold encN; rw [if_neg h1, if_neg h2, if_neg h3]]
        simp only [List.cons_append, List.nil_append, nb_cons0, nb_cons1, nb_cons2, nb_cons3, List.length_cons, List.length_nil, Nat.zero_add, Nat.reduceAdd, accL]
        rw [u8_toNat (by omega), u8_toNat (by omega), u8_toNat (by omega), u8_toNat (by omega)]
        unfold leadK leadN
        rw [if_neg (by omega), if_neg (by omega), if_neg (by omega), if_neg (by omega), if_pos (by omega), if_neg (by omega), if_neg (by omega), if_neg (by omega), if_neg (by omega), if_pos (by omega)]
        exact ⟨rfl, by omega⟩

theorem leadK_le (c : Nat) : leadK c ≤ 4 := by
  unfold leadK
  repeat' split
  all_goals omega

theorem firstL_dec (l : List UInt8) (h : l ≠ []) : ((firstL l).2 = 0 ∧ (firstL l).1 = 0 ∧ decL l = (65533, 1)) ∨ (1 ≤ (firstL l).2 ∧ decL l = firstL l) := by
  rcases decL_cases l h with e | ⟨h1, h2, h3, h4⟩
  · -- a bad byte: First finds none
    unfold firstL
    by_cases hk : leadK (nb l 0) = 0 ∨ l.length < leadK (nb l 0)
    · rw [if_pos hk]; exact .inl ⟨rfl, rfl, e⟩
    · rw [if_neg hk]
      by_cases hp : ptB (accL l (leadK (nb l 0)) : Nat) = true ∧ encN (accL l (leadK (nb l 0))) = l.take (leadK (nb l 0))
      · rw [if_pos hp]
        right
        have hpt := (ptB_iff _).1 hp.1
        have e2 := decL_enc _ hpt (l.drop (leadK (nb l 0)))
        have hlen : (encN (accL l (leadK (nb l 0)))).length = leadK (nb l 0) := by rw [hp.2]; simp; omega
        rw [hp.2, List.take_append_drop] at e2
        rw [← hp.2, hlen] at e2
        exact ⟨by simp only; omega, e2⟩
      · rw [if_neg hp]; exact .inl ⟨rfl, rfl, e⟩
  · right
    have hsplit : l = encN (decL l).1 ++ l.drop (decL l).2 := by rw [h3, List.take_append_drop]
    obtain ⟨q1, q2⟩ := lead_enc _ h1 (l.drop (decL l).2)
    rw [← hsplit, ← h4] at q1 q2
    have hpos := encN_length (decL l).1
    have e : firstL l = decL l := by
      unfold firstL
      rw [q1, if_neg (by omega), q2, if_pos ⟨(ptB_iff _).2 h1, h3⟩]
    rw [e]
    exact ⟨by omega, rfl⟩

end Go.Proofs.YtfbhpmafjehojaaGreatDoor.U1
