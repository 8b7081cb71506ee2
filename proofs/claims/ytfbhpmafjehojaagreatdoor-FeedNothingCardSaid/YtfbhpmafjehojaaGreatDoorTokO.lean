/- The program's reader: an attribute in one word, a raw name's text in one word; Fails that are taken back. -/
import Derived.Test.YtfbhpmafjehojaaGreatDoorTokK
import Derived.Test.YtfbhpmafjehojaaGreatDoorTokN
namespace Go.Proofs.YtfbhpmafjehojaaGreatDoor
open Go.RowKit

theorem refM_142 {A : List (List UInt8 × List UInt8)} {x : List UInt8} (h : refM A x = 142) (n : Nat) (v : List UInt8) : takeM true A n x v = (A, [(142, n)]) := by
  unfold refM at h
  unfold takeM
  rw [if_pos rfl]
  by_cases ha : A.any (fun y => y.1 == x) = true
  · rw [if_pos ha]
  · rw [if_neg ha] at h
    split at h <;> omega
theorem refM_2 {A : List (List UInt8 × List UInt8)} {x : List UInt8} (h : refM A x = 2) (n : Nat) (v : List UInt8) : takeM true A n x v = (A, [(2, n)]) := by
  unfold refM at h
  unfold takeM
  rw [if_pos rfl]
  by_cases ha : A.any (fun y => y.1 == x) = true
  · rw [if_pos ha] at h; omega
  · rw [if_neg ha] at h ⊢
    by_cases hl : A.length = 30
    · rw [if_pos (by omega)]
    · rw [if_neg hl] at h; omega
theorem refM_0 {A : List (List UInt8 × List UInt8)} {x : List UInt8} (h : refM A x = 0) (hA : A.length ≤ 30) (n : Nat) (v : List UInt8) : takeM true A n x v = (A ++ [(x, v)], []) := by
  unfold refM at h
  unfold takeM
  rw [if_pos rfl]
  by_cases ha : A.any (fun y => y.1 == x) = true
  · rw [if_pos ha] at h; omega
  · rw [if_neg ha] at h ⊢
    by_cases hl : A.length = 30
    · rw [if_pos hl] at h; omega
    · rw [if_neg (by omega)]
theorem refM_cases (A : List (List UInt8 × List UInt8)) (x : List UInt8) : refM A x = 142 ∨ refM A x = 2 ∨ refM A x = 0 := by
  unfold refM
  split
  · exact .inl rfl
  · split
    · exact .inr (.inl rfl)
    · exact .inr (.inr rfl)
theorem refM_nil (x : List UInt8) : refM [] x = 0 := rfl
theorem takeM_len {A : List (List UInt8 × List UInt8)} (hA : A.length ≤ 30) (st : Bool) (n : Nat) (x v : List UInt8) : (takeM st A n x v).1.length ≤ 30 ∧ (takeM st A n x v).2.length ≤ 1 := by
  unfold takeM
  split
  · split
    · exact ⟨hA, by simp⟩
    · split
      · exact ⟨hA, by simp⟩
      · exact ⟨by simp; omega, by simp⟩
  · exact ⟨hA, by simp⟩

theorem attr2_hid (s : ByteArray) (n e1 : Nat) (A : List (List UInt8 × List UInt8)) (he : 1 + ((s.data.toList.drop n).drop 1).findIdx attrE = e1) (hA : A.length ≤ 30) (hn : n < s.size) (hs : s.size ≤ 20000) : Hid (∀ W B m R Tb NM c av H T F v0 F0, RS W B m R s n H T F v0 F0 → TA W m Tb 2 NM A c av → F.length ≤ 300000 → Calls Tryz.prog 65 #[.pointer (some ⟨R, 0, none⟩), .pointer (some ⟨Tb, 0, none⟩)] W fun en w' => en = .returned (.tuple #[]) ∧ RS w' B m R s (n + e1 + (valP (n + e1) (s.data.toList.drop (n + e1))).2.1) H T (F ++ (takeM true A n (low ((s.data.toList.drop n).take e1)) (valP (n + e1) (s.data.toList.drop (n + e1))).1.1).2 ++ (valP (n + e1) (s.data.toList.drop (n + e1))).1.2) v0 F0 ∧ (∃ av', TA w' m Tb 2 NM (takeM true A n (low ((s.data.toList.drop n).take e1)) (valP (n + e1) (s.data.toList.drop (n + e1))).1.1).1 c av') ∧ Below B W w') := by
  obtain ⟨D, hD⟩ := text_of (valP (n + e1) (s.data.toList.drop (n + e1))).1.1
  rcases refM_cases A (low ((s.data.toList.drop n).take e1)) with h | h | h
  · rw [refM_142 h]
    exact attr_2_142 s D n e1 A he hD h hA hn hs
  · rw [refM_2 h]
    exact attr_2_2 s D n e1 A he hD h hA hn hs
  · rw [refM_0 h hA]
    simp only [List.append_nil]
    have C := attr_2_0 s D n e1 A he hD h hA hn hs
    rw [hD] at C
    exact C
theorem attr3_hid (s : ByteArray) (n e1 : Nat) (he : 1 + ((s.data.toList.drop n).drop 1).findIdx attrE = e1) (hn : n < s.size) (hs : s.size ≤ 20000) : Hid (∀ W B m R Tb NM c av H T F v0 F0, RS W B m R s n H T F v0 F0 → TA W m Tb 3 NM [] c av → F.length ≤ 300000 → Calls Tryz.prog 65 #[.pointer (some ⟨R, 0, none⟩), .pointer (some ⟨Tb, 0, none⟩)] W fun en w' => en = .returned (.tuple #[]) ∧ RS w' B m R s (n + e1 + (valP (n + e1) (s.data.toList.drop (n + e1))).2.1) H T (F ++ (valP (n + e1) (s.data.toList.drop (n + e1))).1.2) v0 F0 ∧ (∃ av', TA w' m Tb 3 NM [] c av') ∧ Below B W w') := by
  obtain ⟨D, hD⟩ := text_of (valP (n + e1) (s.data.toList.drop (n + e1))).1.1
  exact attr_3_0 s D n e1 [] he hD (refM_nil _) (by simp) hn hs
/-- One round of a tag's inside: at an attribute. -/
theorem ins_attr (s : List UInt8) (st sl : Bool) (n e1 : Nat) (A : List (List UInt8 × List UInt8)) (fl : List Fl) (c : UInt8) (hc : s[n]? = some c) (h1 : c ≠ 62) (h2 : ¬ (c = 47 ∨ blk c = true)) (he : 1 + ((s.drop n).drop 1).findIdx attrE = e1) :
    n + e1 + (valP (n + e1) (s.drop (n + e1))).2.1 ≤ s.length ∧ insG st n (s.drop n) A fl sl = insG st (n + e1 + (valP (n + e1) (s.drop (n + e1))).2.1) (s.drop (n + e1 + (valP (n + e1) (s.drop (n + e1))).2.1)) (takeM st A n (low ((s.drop n).take e1)) (valP (n + e1) (s.drop (n + e1))).1.1).1 (fl ++ (takeM st A n (low ((s.drop n).take e1)) (valP (n + e1) (s.drop (n + e1))).1.1).2 ++ (valP (n + e1) (s.drop (n + e1))).1.2) false := by
  obtain ⟨hn, hcc⟩ := List.getElem?_eq_some_iff.1 hc
  have hd : s.drop n = c :: s.drop (n + 1) := by rw [List.drop_eq_getElem_cons hn, hcc]
  have hvl := val_len (n + e1) (s.drop (n + e1))
  rw [List.length_drop] at hvl
  have hel := idx_le attrE ((s.drop n).drop 1)
  rw [List.length_drop, List.length_drop] at hel
  have hva := val_attr n (s.drop n)
  rw [he, List.drop_drop] at hva
  have hle : n + e1 + (valP (n + e1) (s.drop (n + e1))).2.1 ≤ s.length := by omega
  refine ⟨hle, ?_⟩
  have hi : insG st n (s.drop n) A fl sl = match attrM n (s.drop n) with
    | none => none
    | some (x, v, k) => insG st (n + k) ((s.drop n).drop k) (takeM st A n x v.1).1 (fl ++ (takeM st A n x v.1).2 ++ v.2) false := by
    rw [hd]
    exact insG_attr st n c (s.drop (n + 1)) A fl sl h1 h2
  obtain ⟨V, hV⟩ : ∃ V, valP (n + e1) (s.drop (n + e1)) = V := ⟨_, rfl⟩
  rw [hV] at hva hle hvl ⊢
  cases hb : V.2.2 with
  | true =>
    obtain ⟨k, j, ha, hkj, hbl⟩ := hva.1 hb
    rw [hi, ha]
    dsimp only
    rw [List.drop_drop] at hbl ⊢
    rw [insG_blanks st (n + k) j (s.drop (n + k)) _ _ (by rw [List.length_drop]; omega) hbl, List.drop_drop, show n + k + j = n + e1 + V.2.1 by omega]
  | false =>
    obtain ⟨ha, hl⟩ := hva.2 hb
    rw [List.length_drop] at hl
    rw [hi, ha]
    have he2 : n + e1 + V.2.1 = s.length := by omega
    rw [he2, List.drop_of_length_le (Nat.le_refl _)]
    rfl

/-- A raw name's text, whatever it is. -/
theorem readRaw_hid (s x D : ByteArray) (n : Nat) (hx : rawM x.data.toList = true) (hD : D.data.toList = if softM x.data.toList then (decL n ((s.data.toList.drop n).take (endM x.data.toList (s.data.toList.drop n)))).1 else (s.data.toList.drop n).take (endM x.data.toList (s.data.toList.drop n))) (hn : n ≤ s.size) (hs : s.size ≤ 20000) : Hid (∀ W B m R H T F v0 F0, RS W B m R s n H T F v0 F0 → F.length ≤ 200000 → H.length ≤ 500000 → Calls Tryz.prog 68 #[.pointer (some ⟨R, 0, none⟩), .string x] W fun e w' => e = .returned (.tuple #[]) ∧ RS w' B m R s (n + endM x.data.toList (s.data.toList.drop n)) (H ++ D.data.toList) T (F ++ rawF x.data.toList n (s.data.toList.drop n)) v0 F0 ∧ Below B W w') := by
  have hxn : low x.data.toList = x.data.toList := by
    obtain ⟨_, _, _, _, _, _, h⟩ := raw_names hx
    exact h
  have hxs : x.size ≤ 20000 := by
    unfold rawM at hx
    simp only [Bool.or_eq_true, decide_eq_true_eq] at hx
    rw [← lsize]
    rcases hx with ((h | h) | h) | h <;> rw [h] <;> decide
  obtain ⟨V, hV⟩ := text_of ((s.data.toList.drop n).take (endM x.data.toList (s.data.toList.drop n)))
  have hll : (s.data.toList.drop n).length = s.size - n := by rw [List.length_drop, lsize]
  have hle := endM_le x.data.toList (s.data.toList.drop n)
  rw [hll] at hle
  cases hs2 : softM x.data.toList with
  | true =>
    have hk : (decide (x.data.toList = scriptN) || decide (x.data.toList = styleN)) = false := by
      unfold softM at hs2
      simp only [Bool.or_eq_true, decide_eq_true_eq] at hs2
      rcases hs2 with h | h <;> rw [h] <;> decide
    rw [hs2, if_pos rfl, ← hV, decL_shift] at hD
    obtain ⟨q, hq⟩ : ∃ q, (decT 0 V.data.toList).2 = q := ⟨_, rfl⟩
    have hd : decT 0 V.data.toList = (D.data.toList, q) := by rw [hD, ← hq]
    by_cases hc : endM x.data.toList (s.data.toList.drop n) < s.size - n
    · have e : rawF x.data.toList n (s.data.toList.drop n) = failM n q := by
        unfold rawF rawS
        dsimp only
        rw [hs2, if_pos rfl, if_neg (by omega), ← hV, decL_fail hd, List.append_nil]
      rw [e]
      exact raw_closed_soft s x V D n q hc hV hd hk hn hxn hxs hs
    · have e : rawF x.data.toList n (s.data.toList.drop n) = failM n q ++ [((140 : Int), n)] := by
        unfold rawF rawS
        dsimp only
        rw [hs2, if_pos rfl, if_pos (by omega), ← hV, decL_fail hd]
      rw [e]
      simp only [← List.append_assoc]
      exact raw_open_soft s x V D n q hc hV hd hk hn hxn hxs hs
  | false =>
    have hk : (decide (x.data.toList = scriptN) || decide (x.data.toList = styleN)) = true := by
      unfold rawM at hx
      unfold softM at hs2
      rw [Bool.or_assoc, hs2, Bool.or_false] at hx
      exact hx
    rw [hs2] at hD
    simp only [Bool.false_eq_true, if_false] at hD
    obtain rfl : V = D := text_same (by rw [hV, hD])
    by_cases hc : endM x.data.toList (s.data.toList.drop n) < s.size - n
    · have e : rawF x.data.toList n (s.data.toList.drop n) = [] := by
        unfold rawF rawS
        dsimp only
        rw [hs2]
        simp only [Bool.false_eq_true, if_false]
        rw [if_neg (by omega)]
        rfl
      rw [e]
      simp only [List.append_nil]
      exact raw_closed_code s x V n hc hV hk hn hxn hxs hs
    · have e : rawF x.data.toList n (s.data.toList.drop n) = [((140 : Int), n)] := by
        unfold rawF rawS
        dsimp only
        rw [hs2]
        simp only [Bool.false_eq_true, if_false]
        rw [if_pos (by omega)]
        rfl
      rw [e]
      exact raw_open_code s x V n hc hV hk hn hxn hxs hs
theorem rawF_len (x : List UInt8) (n : Nat) (l : List UInt8) : (rawF x n l).length ≤ endM x l + 1 := by
  unfold rawF rawS
  dsimp only
  rw [List.length_append]
  have h1 : (if softM x then decL n (l.take (endM x l)) else (l.take (endM x l), [])).2.length ≤ endM x l := by
    split
    · unfold decL
      simp only [List.length_map]
      have := (decT_len n (l.take (endM x l))).2
      rw [List.length_take] at this
      omega
    · simp
  have h2 : (if endM x l = l.length then [((140 : Int), n)] else []).length ≤ 1 := by split <;> simp
  omega

/-- The Fails as they were when the slice v0 was taken. -/
theorem RV.restore {w : World} {B m R : Nat} {s : ByteArray} {n : Nat} {H : List UInt8} {T : List Tk} {F : List Fl} {v0 : Value} {F0 : List Fl} {p bv tv fv : Value} (h : RV w B m R s n H T F v0 F0 p bv tv fv) : RV (w.setCell ⟨R, 5, none⟩ v0) B m R s n H T F0 v0 F0 p bv tv v0 := by
  have k := h.x.kset 5 v0
  have ne : ∀ {base size n : Nat} {e : TypeId} {v : Value} {xs : List Value}, w.ownsRow base e size v n xs → 67 ≠ e → (w.setCell ⟨R, 5, none⟩ v0).ownsRow base e size v n xs := fun r hne => k.row r fun j hj _ e => row_ne r h.x hne (by rw [hj]; exact congrArg some e)
  exact ⟨h.x.set5 v0, h.hp, ne h.hb (by decide), h.hn, h.ht.at h.x k, ne h.h0 (by decide), ne h.h0 (by decide), fun _ => Nat.le_refl _, h.lo, h.hi, Nat.le_trans h.mw k.size, h.low.on (k.below (fun j t e => by rw [show j = R from e]; exact h.lo) h.bw)⟩
theorem RS.drop0 {w : World} {B m R : Nat} {s : ByteArray} {n : Nat} {H : List UInt8} {T : List Tk} {F : List Fl} {v0 : Value} {F0 : List Fl} (h : RS w B m R s n H T F v0 F0) : RS w B m R s n H T F (.slice none 0 0) [] := by
  obtain ⟨p, bv, tv, fv, h⟩ := h
  exact ⟨p, bv, tv, fv, h.x, h.hp, h.hb, h.hn, h.ht, h.hf, World.ownsRow_nil _ _ _ _, fun _ => Nat.zero_le _, h.lo, h.hi, h.mw, h.low⟩
/-- The slice of Fails as it is now is kept as the elder one. -/
theorem RV.hold {w : World} {B m R : Nat} {s : ByteArray} {n : Nat} {H : List UInt8} {T : List Tk} {F : List Fl} {v0 : Value} {F0 : List Fl} {p bv tv fv : Value} (h : RV w B m R s n H T F v0 F0 p bv tv fv) : RV w B w.heap.size R s n H T F fv F p bv tv fv :=
  ⟨h.x, h.hp, h.hb, h.hn, h.ht.up h.mw, h.hf, h.hf, fun _ => Nat.le_refl _, h.lo, Nat.lt_of_lt_of_le h.hi h.mw, Nat.le_refl _, h.low⟩
theorem RS.pos {w : World} {B m R : Nat} {s : ByteArray} {n : Nat} {H : List UInt8} {T : List Tk} {F : List Fl} {v0 : Value} {F0 : List Fl} (h : RS w B m R s n H T F v0 F0) : posOf R w = n := by
  obtain ⟨p, bv, tv, fv, h⟩ := h
  exact h.x.pos
theorem ownsRow_low {w : World} {b base : Nat} {e : TypeId} {size : Nat} {v : Value} {n : Nat} {xs : List Value} (h : w.ownsRow base e size v n xs) (hb : b ≤ base) : w.ownsRow b e size v n xs := by
  refine ⟨h.1, ?_⟩
  rcases h.2 with h2 | ⟨g, cap, cur, a1, a2, a3⟩
  · exact .inl h2
  · exact .inr ⟨g, cap, cur, a1, Nat.le_trans hb a2, a3⟩
/-- What a round of the reader leaves. -/
def RoundP (B R : Nat) (s : ByteArray) (n : Nat) (H : List UInt8) (T : List Tk) (F : List Fl) (W : World) (e : Ending) (w' : World) : Prop :=
  e = .returned (.tuple #[]) ∧ Below B W w' ∧ ∃ m' n' H' T' F', RS w' B m' R s n' H' T' F' (.slice none 0 0) [] ∧ Rd s.data.toList n H T F n' H' T' F' ∧ n < n' ∧ n' ≤ s.size ∧ NoText T' ∧ H'.length ≤ n' ∧ T'.length ≤ n' ∧ F'.length ≤ 3 * n'

end Go.Proofs.YtfbhpmafjehojaaGreatDoor
