/- Bits as plain mathematics: a number's bits, the number of bits, bits in groups; what is encoded. What is decoded; what is encoded is decoded, and the other way round. The plain mathematics of source: sources, their words and what is parsed, over lists of bytes; a source's word is parsed as it. The plain mathematics of the program's Parse of a source: what is cut off a word, and that it is the source that the word tells. A source's word is short. The plain mathematics of origin: where an address comes from, over lists of bytes. -/
import Derived.Lib.Bytealg
import Derived.Lib.TrimByte
import Derived.Lib.Repeat
import Derived.Test.YtaldjkbnngeahaaGreatDoorPureA
namespace Go.Proofs.YtaldjkbnngeahaaGreatDoor

theorem snoc_ind {α : Type} {P : List α → Prop} (h0 : P []) (hs : ∀ l b, P l → P (l ++ [b])) (l : List α) : P l := by
  rw [← l.reverse_reverse]
  generalize l.reverse = r
  induction r with
  | nil => exact h0
  | cons a r ih => rw [List.reverse_cons]; exact hs _ _ ih

/-- The k bits of a number, the greatest first. -/
def bitsN : Nat → Nat → List Bool
  | 0, _ => []
  | k + 1, x => bitsN k (x / 2) ++ [x % 2 == 1]
/-- The number of bits. -/
def num (l : List Bool) : Nat := l.foldl (fun n b => 2 * n + b.toNat) 0
def flat (t : Nat) (l : List Nat) : List Bool := (l.map (bitsN t)).flatten
def stepG (t : Nat) (p : List Nat × List Bool) (b : Bool) : List Nat × List Bool := if p.2.length + 1 = t then (p.1 ++ [num (p.2 ++ [b])], []) else (p.1, p.2 ++ [b])
/-- Bits in groups of t, and what is left. -/
def grp (t : Nat) (bs : List Bool) : List Nat × List Bool := bs.foldl (stepG t) ([], [])

theorem bitsN_length (t x : Nat) : (bitsN t x).length = t := by
  induction t generalizing x with
  | zero => rfl
  | succ k ih => rw [bitsN, List.length_append, ih]; rfl
theorem num_snoc (l : List Bool) (b : Bool) : num (l ++ [b]) = 2 * num l + b.toNat := by simp [num]
theorem num_lt (l : List Bool) : num l < 2 ^ l.length := by
  induction l using snoc_ind with
  | h0 => decide
  | hs l b ih =>
    rw [num_snoc, List.length_append, List.length_singleton, Nat.pow_succ]
    cases b <;> simp <;> omega
theorem bitsN_num (l : List Bool) : bitsN l.length (num l) = l := by
  induction l using snoc_ind with
  | h0 => rfl
  | hs l b ih =>
    rw [List.length_append, List.length_singleton, bitsN, num_snoc]
    cases b
    · have e1 : (2 * num l + false.toNat) / 2 = num l := by simp
      have e2 : ((2 * num l + false.toNat) % 2 == 1) = false := by simp
      rw [e1, e2, ih]
    · have e1 : (2 * num l + true.toNat) / 2 = num l := by simp; omega
      have e2 : ((2 * num l + true.toNat) % 2 == 1) = true := by simp
      rw [e1, e2, ih]
theorem bitsN_get (t x j : Nat) (h : j < t) : (bitsN t x)[j]? = some (x / 2 ^ (t - 1 - j) % 2 == 1) := by
  induction t generalizing x with
  | zero => omega
  | succ k ih =>
    rw [bitsN]
    by_cases hj : j < k
    · rw [List.getElem?_append_left (by rw [bitsN_length]; exact hj), ih (x / 2) hj, Nat.div_div_eq_div_mul]
      have : k + 1 - 1 - j = (k - 1 - j) + 1 := by omega
      rw [this, Nat.pow_succ, Nat.mul_comm]
    · obtain rfl : j = k := by omega
      rw [List.getElem?_append_right (by rw [bitsN_length]; exact Nat.le_refl _), bitsN_length, Nat.sub_self]
      simp
theorem flat_append (t : Nat) (a b : List Nat) : flat t (a ++ b) = flat t a ++ flat t b := by simp [flat]
theorem flat_cons (t x : Nat) (a : List Nat) : flat t (x :: a) = bitsN t x ++ flat t a := by simp [flat]
theorem flat_one (t x : Nat) : flat t [x] = bitsN t x := by simp [flat]
theorem flat_length (t : Nat) (a : List Nat) : (flat t a).length = t * a.length := by
  induction a with
  | nil => rfl
  | cons x a ih => rw [flat_cons, List.length_append, bitsN_length, ih, List.length_cons, Nat.mul_succ]; omega
theorem flat_take (t : Nat) (a : List Nat) (k x : Nat) (h : a[k]? = some x) : flat t (a.take (k + 1)) = flat t (a.take k) ++ bitsN t x := by
  rw [List.take_add_one, h]
  simp [flat]

theorem grp_snoc (t : Nat) (bs : List Bool) (b : Bool) : grp t (bs ++ [b]) = stepG t (grp t bs) b := by simp [grp]
theorem grp_spec (t : Nat) (h0 : 0 < t) (bs : List Bool) : bs = flat t (grp t bs).1 ++ (grp t bs).2 ∧ (grp t bs).2.length < t ∧ ∀ x ∈ (grp t bs).1, x < 2 ^ t := by
  induction bs using snoc_ind with
  | h0 => exact ⟨rfl, h0, fun x hx => by cases hx⟩
  | hs bs b ih =>
    rw [grp_snoc]
    generalize grp t bs = p at ih
    obtain ⟨m, h⟩ := p
    obtain ⟨h1, h2, h3⟩ := ih
    simp only at h1 h2 h3
    unfold stepG
    by_cases e : h.length + 1 = t
    · have el : (h ++ [b]).length = t := by simpa using e
      rw [if_pos e]
      refine ⟨?_, h0, fun x hx => ?_⟩
      · simp only [List.append_nil]
        rw [flat_append, flat_one, ← el, bitsN_num, el, h1, List.append_assoc]
      · simp only [List.mem_append, List.mem_singleton] at hx
        rcases hx with hx | rfl
        · exact h3 x hx
        · have := num_lt (h ++ [b])
          rw [el] at this
          exact this
    · rw [if_neg e]
      refine ⟨?_, by simp; omega, h3⟩
      simp only
      rw [h1, List.append_assoc]
/-! The signs. -/
def SG : List UInt8 := [65, 66, 67, 68, 69, 70, 71, 72, 73, 74, 75, 76, 77, 78, 79, 80, 81, 82, 83, 84, 85, 86, 87, 88, 89, 90, 97, 98, 99, 100, 101, 102, 103, 104, 105, 106, 107, 108, 109, 110, 111, 112, 113, 114, 115, 116, 117, 118, 119, 120, 121, 122, 48, 49, 50, 51, 52, 53, 54, 55, 56, 57, 43, 47]
/-- A byte as it is written. -/
def plB (c : UInt8) : UInt8 := if c = 45 then 43 else if c = 95 then 47 else c
def val (c : UInt8) : Int := Lib.indexByte SG (plB c)
def valN (c : UInt8) : Nat := (val c).toNat

theorem all_bytes {P : UInt8 → Prop} (h : ∀ n : Fin 256, P (UInt8.ofNat n.val)) (c : UInt8) : P c := by
  have := h ⟨c.toNat, c.toNat_lt⟩
  simpa using this
theorem val_rng (c : UInt8) : -1 ≤ val c ∧ val c ≤ 63 := by
  revert c
  refine all_bytes ?_
  decide +kernel
theorem valN_lt (c : UInt8) : valN c < 64 := by have := val_rng c; unfold valN; omega
theorem valN_int {c : UInt8} (h : 0 ≤ val c) : (valN c : Int) = val c := by unfold valN; omega
theorem plB_id {c : UInt8} (h : c ≠ 45) (h2 : c ≠ 95) : plB c = c := by unfold plB; rw [if_neg h, if_neg h2]
/-! What is encoded. -/
end Go.Proofs.YtaldjkbnngeahaaGreatDoor

namespace Go.Proofs.YtaldjkbnngeahaaGreatDoor

/-- A text without the = that it ends with. -/
def hd (s : List UInt8) : List UInt8 := Lib.trimRightB s 61
def good (h : List UInt8) : Bool := h.all fun c => decide (0 ≤ val c)
def formM (s : List UInt8) : Bool := !(hd s).isEmpty && decide (s.length - (hd s).length ≤ 2) && good (hd s)
def bits6 (h : List UInt8) : List Bool := flat 6 (h.map valN)
def decM (s : List UInt8) : List UInt8 × Bool :=
  if s = [] then ([], true)
  else if formM s = false then ([], false)
  else if (hd s).length < s.length ∧ s.length % 4 ≠ 0 then ([], false)
  else if 6 ≤ (grp 8 (bits6 (hd s))).2.length ∨ num (grp 8 (bits6 (hd s))).2 ≠ 0 then ([], false)
  else ((grp 8 (bits6 (hd s))).1.map Nat.toUInt8, true)

theorem hd_snoc (s : List UInt8) (b : UInt8) : hd (s ++ [b]) = if b = 61 then hd s else s ++ [b] := by
  unfold hd Lib.trimRightB
  rw [List.reverse_append, List.reverse_singleton, List.singleton_append, List.dropWhile_cons]
  by_cases e : b = 61
  · subst e
    rw [if_pos (by rfl), if_pos rfl]
  · rw [if_neg (by simpa using e), if_neg e]
    simp
/-- Nothing that is = stands last. -/
def endless (l : List UInt8) : Prop := ∀ b, l.getLast? = some b → b ≠ 61
theorem hd_split (s : List UInt8) : ∃ k, s = hd s ++ List.replicate k 61 ∧ endless (hd s) := by
  induction s using snoc_ind with
  | h0 => exact ⟨0, rfl, fun b h => by cases h⟩
  | hs s b ih =>
    rw [hd_snoc]
    by_cases e : b = 61
    · subst e
      obtain ⟨k, h1, h2⟩ := ih
      rw [if_pos rfl]
      refine ⟨k + 1, ?_, h2⟩
      rw [List.replicate_succ', ← List.append_assoc, ← h1]
    · rw [if_neg e]
      exact ⟨0, by simp, fun c h => by simp at h; subst h; exact e⟩
theorem hd_le (s : List UInt8) : (hd s).length ≤ s.length := by
  obtain ⟨k, h, _⟩ := hd_split s
  have := congrArg List.length h
  rw [List.length_append] at this
  omega
theorem good_mem {h : List UInt8} (e : good h = true) : ∀ c ∈ h, 0 ≤ val c := by
  intro c hc
  have := List.all_eq_true.1 e c hc
  simpa using this
end Go.Proofs.YtaldjkbnngeahaaGreatDoor

namespace Go.Proofs.YtaldjkbnngeahaaGreatDoor

structure Src where
  k : Int
  t : List UInt8
  s : List UInt8
  h : List UInt8
  w : Bool
  p : Int
  pa : List UInt8
  deriving DecidableEq
def Src.zero : Src := ⟨0, [], [], [], false, 0, []⟩
def KEPT : List (List UInt8) := [[39, 110, 111, 110, 101, 39], [39, 115, 101, 108, 102, 39], [39, 117, 110, 115, 97, 102, 101, 45, 105, 110, 108, 105, 110, 101, 39], [39, 117, 110, 115, 97, 102, 101, 45, 101, 118, 97, 108, 39], [39, 119, 97, 115, 109, 45, 117, 110, 115, 97, 102, 101, 45, 101, 118, 97, 108, 39], [39, 115, 116, 114, 105, 99, 116, 45, 100, 121, 110, 97, 109, 105, 99, 39], [39, 117, 110, 115, 97, 102, 101, 45, 104, 97, 115, 104, 101, 115, 39], [39, 114, 101, 112, 111, 114, 116, 45, 115, 97, 109, 112, 108, 101, 39]]
def keptM (k : Int) : List UInt8 := if 1 ≤ k ∧ k ≤ 8 then KEPT.getD (k - 1).toNat [] else []
def inS (b : UInt8) : Bool := inB 33 [63, 35, 44, 59, 58] b
def spathM (l : List UInt8) : Bool := decide (l.length ≤ 200) && (l.isEmpty || l.head? == some 47) && l.all inS
def bareS (a : Src) : Bool := a.h.isEmpty && !a.w && decide (a.p = 0) && a.pa.isEmpty
def shostM (a : Src) : Bool := a.t.isEmpty && (a.s.isEmpty || schM a.s) && (a.h.isEmpty || hostM a.h) && (!a.h.isEmpty || a.w) && decide (-1 ≤ a.p ∧ a.p ≤ 65535) && spathM a.pa
def rightS (a : Src) : Bool :=
  if a.k = 9 then bareS a && a.s.isEmpty && decide (a.t.length ≤ 200) && formM a.t
  else if a.k = 10 then bareS a && a.s.isEmpty && decide (a.t.length = 16)
  else if a.k = 11 then bareS a && a.t.isEmpty && schM a.s
  else if a.k = 12 then shostM a
  else !(keptM a.k).isEmpty && bareS a && a.s.isEmpty && a.t.isEmpty
def NON : List UInt8 := [39, 110, 111, 110, 99, 101, 45]
def MRK : List UInt8 := [39, 109, 97, 114, 107, 45]
def beg (l t : List UInt8) : Bool := decide (low (l.take t.length) = t)
def quotedS (l : List UInt8) : Src :=
  if beg l NON then ⟨9, (l.drop 7).dropLast, [], [], false, 0, []⟩
  else if beg l MRK then ⟨10, (decM ((l.drop 6).dropLast)).1, [], [], false, 0, []⟩
  else match ([1, 2, 3, 4, 5, 6, 7, 8] : List Int).find? (fun k => decide (low l = keptM k)) with
    | some k => ⟨k, [], [], [], false, 0, []⟩
    | none => Src.zero
/-- What stands ahead of the first :// and behind it. -/
def sp3 : List UInt8 → Option (List UInt8 × List UInt8)
  | [] => none
  | b :: l => if [58, 47, 47].isPrefixOf (b :: l) then some ([], (b :: l).drop 3) else (sp3 l).map fun x => (b :: x.1, x.2)
def sportP (l : List UInt8) : Int := if l = [42] then -1 else match numM l with | some n => if n = 0 ∨ 65535 < n then -2 else (n : Int) | none => -2
def numS (l : List UInt8) : Int := match l with | [] => 0 | _ :: ds => sportP ds
def placeS (sc name : List UInt8) (p : Int) (pa : List UInt8) : Option Src :=
  if low (name.take 2) = [42, 46] then (if 2 < name.length then some ⟨12, [], sc, low (name.drop 2), true, p, pa⟩ else none)
  else if name = [42] then some ⟨12, [], sc, [], true, p, pa⟩
  else some ⟨12, [], sc, low name, false, p, pa⟩
def restS (sc l : List UInt8) : Option Src := placeS sc (upto (isC 58) (upto (isC 47) l)) (numS (past (isC 58) (upto (isC 47) l))) (past (isC 47) l)
def plainS (l : List UInt8) : Option Src :=
  if l.getLast? = some 58 then some ⟨11, [], low l.dropLast, [], false, 0, []⟩
  else match sp3 l with
    | some (sc, r) => if sc = [] then none else restS (low sc) r
    | none => restS [] l
def parseS (l : List UInt8) : Option Src :=
  if l = [] then none
  else (if 2 ≤ l.length ∧ l.head? = some 39 ∧ l.getLast? = some 39 then some (quotedS l) else plainS l).filter rightS

/-! Small letters. -/
theorem lowB_fix (b : UInt8) : (lowB b = 58 ↔ b = 58) ∧ (lowB b = 47 ↔ b = 47) ∧ (lowB b = 39 ↔ b = 39) ∧ (lowB b = 42 ↔ b = 42) ∧ digit (lowB b) = digit b ∧ (digit b = true → lowB b = b) ∧ isC 47 (lowB b) = isC 47 b ∧ isC 58 (lowB b) = isC 58 b := by revert b; exact byte_all (by decide +kernel)
theorem low_star (l : List UInt8) : low l = [42] ↔ l = [42] := by
  constructor
  · intro h
    have hl : l.length = 1 := by rw [← low_length, h]; rfl
    obtain ⟨b, rfl⟩ := List.length_eq_one_iff.1 hl
    simp [low] at h
    rw [(lowB_fix b).2.2.2.1.1 h]
  · rintro rfl; decide
theorem last_low (l : List UInt8) : ((low l).getLast? = some 39 ↔ l.getLast? = some 39) ∧ ((low l).getLast? = some 58 ↔ l.getLast? = some 58) := by
  unfold low
  rw [List.getLast?_map]
  cases l.getLast? with
  | none => simp
  | some b => simp [(lowB_fix b).2.2.1, (lowB_fix b).1]
theorem beg_low (l t : List UInt8) : beg (low l) t = beg l t := by
  unfold beg
  rw [show (low l).take t.length = low (l.take t.length) by unfold low; rw [List.map_take], low_low]

/-! Lists of words. -/
def listS (L : List (List UInt8)) : List Src := L.filterMap parseS
theorem listS_append (a b : List (List UInt8)) : listS (a ++ b) = listS a ++ listS b := List.filterMap_append
theorem listS_length (L : List (List UInt8)) : (listS L).length ≤ L.length := List.length_filterMap_le _ _
end Go.Proofs.YtaldjkbnngeahaaGreatDoor

namespace Go.Proofs.YtaldjkbnngeahaaGreatDoor

def portO (l : List UInt8) : Option Int := if l = [42] then some (-1) else match numM l with | some n => if 0 < n ∧ n ≤ 65535 then some (n : Int) else none | none => none
def nameO (l : List UInt8) : Option (List UInt8 × Bool) :=
  if l = [42] then some ([], true)
  else if [42, 46].isPrefixOf l then (if l.drop 2 = [] then none else some (l.drop 2, true))
  else if l = [] then none else some (l, false)
def toldO (sc h : List UInt8) (wd : Bool) (pa rest : List UInt8) : Option Src :=
  match rest with
  | [] => some ⟨12, [], sc, h, wd, 0, pa⟩
  | _ :: ds => (portO ds).map fun p => ⟨12, [], sc, h, wd, p, pa⟩
def placeO (sc l : List UInt8) : Option Src :=
  match nameO (low (upto (isC 58) (upto (isC 47) l))) with
  | none => none
  | some (h, wd) => toldO sc h wd (past (isC 47) l) (past (isC 58) (upto (isC 47) l))
def bareK (k : Int) (t : List UInt8) : Src := ⟨k, t, [], [], false, 0, []⟩
def quotedO (m : List UInt8) : Src :=
  if beg m NON then bareK 9 (m.drop 7)
  else if beg m MRK then bareK 10 (decM (m.drop 6)).1
  else Src.zero
def keptO (l : List UInt8) : Option Int := ([1, 2, 3, 4, 5, 6, 7, 8] : List Int).find? (fun k => decide (low l = keptM k))
def cutO (l : List UInt8) : Option Src :=
  if l.head? = some 39 then
    match keptO l with
    | some k => some (bareK k [])
    | none => if l.getLast? = some 39 then some (quotedO l.dropLast) else none
  else if l.getLast? = some 58 then some ⟨11, [], low l.dropLast, [], false, 0, []⟩
  else match sp3 l with
    | some (sc, r) => if sc = [] then none else placeO (low sc) r
    | none => placeO [] l

theorem right_sport {a : Src} (hk : a.k = 12) (hp : a.p = -2) : rightS a = false := by
  unfold rightS shostM
  rw [hk, hp]
  simp
theorem sportP_O (l : List UInt8) : sportP l = (portO l).getD (-2) := by
  unfold sportP portO
  by_cases h : l = [42]
  · rw [if_pos h, if_pos h]; rfl
  · rw [if_neg h, if_neg h]
    cases numM l with
    | none => rfl
    | some n =>
      simp only []
      by_cases h1 : n = 0 ∨ 65535 < n
      · rw [if_pos h1, if_neg (by omega)]; rfl
      · rw [if_neg h1, if_pos (by omega)]; rfl
theorem low_two (l : List UInt8) : low (l.take 2) = [42, 46] ↔ [42, 46].isPrefixOf (low l) = true := by
  have hz : ∀ (c : UInt8), ((42 == lowB c) = true ↔ lowB c = 42) ∧ ((46 == lowB c) = true ↔ lowB c = 46) := byte_all (by decide +kernel)
  match l with
  | [] => simp [low]
  | [x] => simp [low]
  | x :: y :: r =>
    simp only [low, List.take_succ_cons, List.take_zero, List.map_cons, List.map_nil, List.isPrefixOf, Bool.and_true, Bool.and_eq_true, List.cons.injEq, and_true]
    rw [(hz x).1, (hz y).2]
theorem told_place (sc h : List UInt8) (wd : Bool) (pa rest : List UInt8) : (toldO sc h wd pa rest).filter rightS = (some (⟨12, [], sc, h, wd, numS rest, pa⟩ : Src)).filter rightS := by
  cases rest with
  | nil => rfl
  | cons c ds =>
    unfold toldO numS
    simp only []
    rw [sportP_O]
    cases hp : portO ds with
    | some p => rfl
    | none => simp [Option.filter, right_sport]
theorem place_O (sc l : List UInt8) : (placeO sc l).filter rightS = (restS sc l).filter rightS := by
  unfold placeO restS placeS
  generalize upto (isC 58) (upto (isC 47) l) = nm
  generalize past (isC 58) (upto (isC 47) l) = rest
  generalize past (isC 47) l = pa
  have hd : (low nm).drop 2 = low (nm.drop 2) := by unfold low; rw [List.map_drop]
  have hn : low nm = [] ↔ nm = [] := by unfold low; exact List.map_eq_nil_iff
  unfold nameO
  by_cases h1 : nm = [42]
  · subst h1
    rw [if_pos (by decide), if_neg (by decide), if_pos rfl]
    exact told_place _ _ _ _ _
  · rw [if_neg (fun e => h1 ((low_star nm).1 e))]
    by_cases h2 : low (nm.take 2) = [42, 46]
    · rw [if_pos ((low_two nm).1 h2), if_pos h2, hd]
      have h4 : low (nm.drop 2) = [] ↔ ¬ 2 < nm.length := by
        unfold low
        rw [List.map_eq_nil_iff, List.drop_eq_nil_iff]
        omega
      by_cases h3 : 2 < nm.length
      · rw [if_neg (fun e => (h4.1 e) h3), if_pos h3]
        exact told_place _ _ _ _ _
      · rw [if_pos (h4.2 h3), if_neg h3]
    · rw [if_neg (fun e => h2 ((low_two nm).2 e)), if_neg h2, if_neg h1]
      by_cases h3 : nm = []
      · rw [if_pos (hn.2 h3), h3]
        have : rightS (⟨12, [], sc, low [], false, numS rest, pa⟩ : Src) = false := by unfold rightS shostM low; simp
        simp [Option.filter, this]
      · rw [if_neg (fun e => h3 (hn.1 e))]
        exact told_place _ _ _ _ _
theorem schM_quote {l : List UInt8} (h : l.head? = some 39) : schM (low l) = false := by
  cases l with
  | nil => cases h
  | cons b l =>
    simp at h
    subst h
    rw [show low (39 :: l) = 39 :: low l from rfl, schM_cons, show small 39 = false by decide]
    simp
theorem hostM_quote {l : List UInt8} (h : l.head? = some 39) : hostM (low l) = false := by
  cases l with
  | nil => cases h
  | cons b l =>
    simp at h
    subst h
    cases hm : hostM (low (39 :: l))
    · rfl
    · have := hostM_mem hm 39 (by simp [low]; exact .inl (by decide))
      exact absurd this (by decide)
theorem upto_head {p : UInt8 → Bool} {l : List UInt8} {c : UInt8} (h : l.head? = some c) (hp : p c = false) : (upto p l).head? = some c := by
  cases l with
  | nil => cases h
  | cons b l =>
    simp at h
    subst h
    rw [(upto_step l hp).1]
    rfl
theorem sp3_head {l sc r : List UInt8} {c : UInt8} (h : l.head? = some c) (hc : c ≠ 58) (hs : sp3 l = some (sc, r)) : sc.head? = some c := by
  cases l with
  | nil => cases h
  | cons b l =>
    simp at h
    subst h
    unfold sp3 at hs
    rw [if_neg (by simp [List.isPrefixOf]; intro e; exact absurd e.symm hc)] at hs
    cases hx : sp3 l with
    | none => rw [hx] at hs; cases hs
    | some x =>
      rw [hx] at hs
      simp at hs
      rw [← hs.1]
      rfl
theorem right_sc {sc l : List UInt8} (h0 : sc ≠ []) (h : schM sc = false) : (restS sc l).filter rightS = none := by
  cases hx : restS sc l with
  | none => rfl
  | some a =>
    have hk : a.s = sc ∧ a.k = 12 := by
      unfold restS placeS at hx
      split at hx
      · split at hx
        · cases hx; exact ⟨rfl, rfl⟩
        · cases hx
      · split at hx
        · cases hx; exact ⟨rfl, rfl⟩
        · cases hx; exact ⟨rfl, rfl⟩
    have : rightS a = false := by
      unfold rightS shostM
      rw [hk.1, hk.2, h]
      have : sc.isEmpty = false := by simpa using h0
      rw [this]
      simp
    simp [Option.filter, this]
theorem plain_quote {l : List UInt8} (h : l.head? = some 39) : (plainS l).filter rightS = none := by
  unfold plainS
  by_cases h1 : l.getLast? = some 58
  · rw [if_pos h1]
    have hs : schM (low l.dropLast) = false := by
      by_cases hd : l.dropLast = []
      · rw [hd]; rfl
      · refine schM_quote ?_
        cases l with
        | nil => cases h
        | cons b l =>
          cases l with
          | nil => exact absurd rfl hd
          | cons c l => simpa using h
    have : rightS (⟨11, [], low l.dropLast, [], false, 0, []⟩ : Src) = false := by unfold rightS; simp [hs]
    simp [Option.filter, this]
  · rw [if_neg h1]
    cases hx : sp3 l with
    | some x =>
      obtain ⟨sc, r⟩ := x
      simp only []
      have hh := sp3_head h (by decide) hx
      have h0 : sc ≠ [] := by intro e; rw [e] at hh; cases hh
      rw [if_neg h0]
      exact right_sc (by intro e; exact h0 (List.map_eq_nil_iff.1 e)) (schM_quote hh)
    | none =>
      simp only []
      have hh := upto_head (p := isC 58) (upto_head (p := isC 47) h (by decide)) (by decide)
      unfold restS placeS
      generalize upto (isC 58) (upto (isC 47) l) = nm at hh
      have e1 : low (nm.take 2) ≠ [42, 46] := by
        intro e
        cases nm with
        | nil => cases hh
        | cons b nm =>
          simp at hh
          subst hh
          simp [low] at e
          exact absurd e.1 (by decide)
      have e2 : nm ≠ [42] := by rintro rfl; simp at hh
      rw [if_neg e1, if_neg e2]
      have hm := hostM_quote hh
      have : (low nm).isEmpty = false := by
        cases nm with
        | nil => cases hh
        | cons b nm => rfl
      have : ∀ p pa, rightS (⟨12, [], [], low nm, false, p, pa⟩ : Src) = false := by
        intro p pa
        unfold rightS shostM
        rw [hm, this]
        simp
      simp [Option.filter, this]
theorem beg_len {l t : List UInt8} (h : beg l t = true) : t.length ≤ l.length := by
  unfold beg at h
  have := congrArg List.length (of_decide_eq_true h)
  rw [low_length, List.length_take] at this
  omega
theorem beg_dropLast {l t : List UInt8} {c : UInt8} (hl : l.getLast? = some c) (ht : ∀ b, t.getLast? = some b → b ≠ lowB c) : beg l.dropLast t = beg l t := by
  have hd : l = l.dropLast ++ [c] := by
    have hne : l ≠ [] := by intro e; rw [e] at hl; cases hl
    have := List.dropLast_concat_getLast hne
    rw [List.getLast?_eq_some_getLast hne] at hl
    rw [Option.some.inj hl] at this
    exact this.symm
  rw [Bool.eq_iff_iff]
  constructor
  · intro h
    have hlen := beg_len h
    unfold beg at h ⊢
    rw [hd, List.take_append_of_le_length hlen]
    exact h
  · intro h
    have hlen := beg_len h
    have hlt : t.length ≤ l.dropLast.length := by
      rcases Nat.lt_or_ge l.dropLast.length t.length with hx | hx
      · exfalso
        have hl2 : l.length = t.length := by
          have : l.length = l.dropLast.length + 1 := by have := congrArg List.length hd; rw [List.length_append] at this; exact this
          omega
        unfold beg at h
        have e := of_decide_eq_true h
        rw [← hl2, List.take_length] at e
        have e2 : (low l).getLast? = some (lowB c) := by unfold low; rw [List.getLast?_map, hl]; rfl
        rw [e] at e2
        exact ht _ e2 rfl
      · exact hx
    unfold beg at h ⊢
    rw [hd, List.take_append_of_le_length hlt] at h
    exact h
theorem kept_some {l : List UInt8} {k : Int} (h : keptO l = some k) : low l = keptM k ∧ (k = 1 ∨ k = 2 ∨ k = 3 ∨ k = 4 ∨ k = 5 ∨ k = 6 ∨ k = 7 ∨ k = 8) := by
  have h1 := List.find?_some h
  have h2 := List.mem_of_find?_eq_some h
  refine ⟨of_decide_eq_true h1, ?_⟩
  simpa using h2
theorem kept_begs {k : Int} (h : k = 1 ∨ k = 2 ∨ k = 3 ∨ k = 4 ∨ k = 5 ∨ k = 6 ∨ k = 7 ∨ k = 8) : (keptM k).head? = some 39 ∧ (keptM k).getLast? = some 39 ∧ 2 ≤ (keptM k).length ∧ beg (keptM k) NON = false ∧ beg (keptM k) MRK = false := by
  rcases h with rfl | rfl | rfl | rfl | rfl | rfl | rfl | rfl <;> decide +kernel
theorem drop_dropLast' (l : List UInt8) (n : Nat) : (l.drop n).dropLast = l.dropLast.drop n := by
  rw [List.dropLast_eq_take, List.dropLast_eq_take, List.length_drop, List.drop_take]
  congr 1
  omega

/-- What the program cuts off a word, if it is right, is the source that the word tells. -/
theorem parse_O (l : List UInt8) : parseS l = (cutO l).filter rightS := by
  unfold parseS cutO
  by_cases h0 : l = []
  · subst h0
    rfl
  rw [if_neg h0]
  by_cases hh : l.head? = some 39
  · rw [if_pos hh]
    cases hk : keptO l with
    | some k =>
      obtain ⟨e1, e2⟩ := kept_some hk
      obtain ⟨k1, k2, k3, k4, k5⟩ := kept_begs e2
      rw [← e1] at k1 k2 k3 k4 k5
      rw [if_pos ⟨by rw [← low_length]; exact k3, hh, (last_low l).1.1 k2⟩]
      unfold quotedS
      rw [beg_low] at k4 k5
      rw [k4, k5]
      simp only [Bool.false_eq_true, if_false]
      unfold keptO at hk
      rw [hk]
      rfl
    | none =>
      simp only []
      by_cases hz : l.getLast? = some 39
      · rw [if_pos hz]
        by_cases h2 : 2 ≤ l.length
        · rw [if_pos ⟨h2, hh, hz⟩]
          unfold quotedS quotedO
          have ht : ∀ t : List UInt8, (t = NON ∨ t = MRK) → beg l.dropLast t = beg l t := by
            intro t ht
            refine beg_dropLast hz ?_
            rcases ht with rfl | rfl <;> intro b hb <;> (simp [NON, MRK] at hb; subst hb; decide)
          rw [ht NON (.inl rfl), ht MRK (.inr rfl), drop_dropLast', drop_dropLast']
          unfold keptO at hk
          rw [hk]
          rfl
        · rw [if_neg (fun e => h2 e.1)]
          rw [plain_quote hh]
          have hl : l = [39] := by
            cases l with
            | nil => exact absurd rfl h0
            | cons b l =>
              cases l with
              | nil => simp at hh; rw [hh]
              | cons c l => exact absurd (by simp) h2
          subst hl
          rfl
      · rw [if_neg hz, if_neg (fun e => hz e.2.2), plain_quote hh]
        rfl
  · rw [if_neg hh, if_neg (fun e => hh e.2.1)]
    unfold plainS
    by_cases h58 : l.getLast? = some 58
    · rw [if_pos h58, if_pos h58]
    · rw [if_neg h58, if_neg h58]
      cases sp3 l with
      | some x =>
        obtain ⟨sc, r⟩ := x
        simp only []
        by_cases hs : sc = []
        · rw [if_pos hs, if_pos hs]
        · rw [if_neg hs, if_neg hs]
          exact (place_O _ _).symm
      | none => exact (place_O _ _).symm

end Go.Proofs.YtaldjkbnngeahaaGreatDoor

namespace Go.Proofs.YtaldjkbnngeahaaGreatDoor

end Go.Proofs.YtaldjkbnngeahaaGreatDoor

namespace Go.Proofs.YtaldjkbnngeahaaGreatDoor

structure O where
  o : Bool
  s : List UInt8
  h : List UInt8
  p : Int
  deriving DecidableEq
def O.none : O := ⟨true, [], [], 0⟩
def portU (u : U) : Int := if u.p = 0 then (dfl u.s : Int) else u.p
def originM (u : U) : O := if rightM u = true ∧ u.o = false then ⟨false, u.s, u.h, portU u⟩ else O.none
def sameM (a b : O) : Bool := !a.o && decide (a = b)

theorem origin_none {u : U} (h : ¬ (rightM u = true ∧ u.o = false)) : originM u = O.none := by unfold originM; rw [if_neg h]
theorem origin_some {u : U} (h : rightM u = true) (ho : u.o = false) : originM u = ⟨false, u.s, u.h, portU u⟩ := by unfold originM; rw [if_pos ⟨h, ho⟩]
end Go.Proofs.YtaldjkbnngeahaaGreatDoor
