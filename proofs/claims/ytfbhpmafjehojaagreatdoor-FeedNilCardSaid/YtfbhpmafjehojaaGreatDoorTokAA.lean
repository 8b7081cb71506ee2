/- The document's reader: ahead of tags. -/
import Derived.Test.YtfbhpmafjehojaaGreatDoorTokZT
namespace Go.Proofs.YtfbhpmafjehojaaGreatDoor
open Go.RowKit

theorem rowCapF {w : World} {base size n : Nat} {e : TypeId} {v : Value} {xs : List Value} (h : w.ownsRow base e size v n xs) : ∃ a cap, v = .slice a n cap ∧ n ≤ cap ∧ (a = none → cap = 0) := by
  rcases h.2 with ⟨h1, h2⟩ | ⟨g, cap, cur, a, _, _, b, _⟩
  · exact ⟨none, 0, by rw [h1, h2], by omega, fun _ => rfl⟩
  · exact ⟨_, cap, a, b, fun e => by cases e⟩
theorem flC_take (F f : List Fl) : (flC (F ++ f)).take (F.length * 2) = flC F := by
  rw [show flC (F ++ f) = flC F ++ flC f by simp [flC], List.take_append_of_le_length (by rw [flC_length]; exact Nat.le_refl _), List.take_of_length_le (by rw [flC_length]; exact Nat.le_refl _)]
theorem QV.refail {w : World} {B m Q : Nat} {s : ByteArray} {n : Nat} {T : List Tk} {F' F : List Fl} {x : ByteArray} {tv fv fv2 : Value} (h : QV w B m Q s n T F' x tv fv) (hr : w.ownsRow B 50 2 fv2 F.length (flC F)) : QV (w.setCell ⟨Q, 3, none⟩ fv2) B m Q s n T F x tv fv2 := by
  have k := h.q.kset 3 fv2
  have ne : ∀ {base size n : Nat} {e : TypeId} {v : Value} {xs : List Value}, w.ownsRow base e size v n xs → 74 ≠ e → (w.setCell ⟨Q, 3, none⟩ fv2).ownsRow base e size v n xs := fun r hne => k.row r fun j hj _ e => row_ne r h.q hne (by rw [hj]; exact congrArg some e)
  obtain ⟨cs, t1, t2, t3⟩ := h.ht
  exact ⟨h.q.set3 fv2, ⟨cs, ne t1 (by decide), t2, t3.rows fun av A ha => ⟨ne ha.1 (by decide), ha.2⟩⟩, ne hr (by decide), h.lo, h.hi, Nat.le_trans h.mw k.size⟩
/-- One round of a tag's inside, as the document goes: at an attribute. -/
theorem insQ_none {s : List UInt8} {st sl : Bool} {p e1 : Nat} {A : List (List UInt8 × List UInt8)} {fl : List Fl} {c : UInt8} (hc : s[p]? = some c) (h1 : c ≠ 62) (h2 : ¬ (c = 47 ∨ blk c = true)) (he : 1 + ((s.drop p).drop 1).findIdx attrE = e1) (hv : attV (p + e1) (s.drop (p + e1)) = none) : insG st p (s.drop p) A fl sl = none := by
  obtain ⟨hn, hcc⟩ := List.getElem?_eq_some_iff.1 hc
  have hd : s.drop p = c :: s.drop (p + 1) := by rw [List.drop_eq_getElem_cons hn, hcc]
  have ha := attrM_attV (n := p) he
  rw [List.drop_drop, hv] at ha
  have hi := insG_attr st p c (s.drop (p + 1)) A fl sl h1 h2
  rw [← hd, ha] at hi
  exact hi
theorem attV_len {n : Nat} {l : List UInt8} {q : (List UInt8 × List Fl) × Nat} (h : attV n l = some q) : q.2 ≤ l.length ∧ q.1.2.length ≤ q.2 := by
  unfold attV at h
  dsimp only at h
  split at h
  · rename_i hh
    obtain ⟨b, hb⟩ : ∃ b, l.findIdx blkE = b := ⟨_, rfl⟩
    rw [hb] at h hh
    have hbl := idx_le blkE l
    rw [hb] at hbl
    obtain ⟨z, hz⟩ : ∃ z, (l.drop (b + 1)).findIdx blkE = z := ⟨_, rfl⟩
    rw [hz] at h
    have hzl := idx_le blkE (l.drop (b + 1))
    rw [hz, List.length_drop] at hzl
    have hb1 : b < l.length := by
      rcases Nat.lt_or_ge b l.length with h | h
      · exact h
      · rw [List.drop_of_length_le h] at hh; cases hh
    cases hv : valueM (n + (b + 1 + z)) (l.drop (b + 1 + z)) with
    | none => rw [hv] at h; cases h
    | some p =>
      rw [hv] at h
      cases h
      obtain ⟨v, k⟩ := p
      have h3 := value_fails hv
      have h4 := value_len hv
      rw [List.length_drop] at h4
      refine ⟨?_, ?_⟩
      · show b + 1 + z + k ≤ l.length
        omega
      · show v.2.length ≤ b + 1 + z + k
        omega
  · cases h
    exact ⟨Nat.zero_le _, Nat.le_refl _⟩
theorem insQ_some {s : List UInt8} {st sl : Bool} {p e1 : Nat} {A : List (List UInt8 × List UInt8)} {fl : List Fl} {c : UInt8} {q : (List UInt8 × List Fl) × Nat} (hc : s[p]? = some c) (h1 : c ≠ 62) (h2 : ¬ (c = 47 ∨ blk c = true)) (he : 1 + ((s.drop p).drop 1).findIdx attrE = e1) (hv : attV (p + e1) (s.drop (p + e1)) = some q) : insG st p (s.drop p) A fl sl = insG st (p + e1 + q.2) (s.drop (p + e1 + q.2)) (takeM st A p (low ((s.drop p).take e1)) q.1.1).1 (fl ++ (takeM st A p (low ((s.drop p).take e1)) q.1.1).2 ++ q.1.2) false ∧ p + e1 + q.2 ≤ s.length ∧ q.1.2.length ≤ q.2 := by
  obtain ⟨hn, hcc⟩ := List.getElem?_eq_some_iff.1 hc
  have hd : s.drop p = c :: s.drop (p + 1) := by rw [List.drop_eq_getElem_cons hn, hcc]
  have ha := attrM_attV (n := p) he
  rw [List.drop_drop, hv] at ha
  have hi := insG_attr st p c (s.drop (p + 1)) A fl sl h1 h2
  rw [← hd, ha] at hi
  have hl := attV_len hv
  rw [List.length_drop] at hl
  have hel := idx_le attrE ((s.drop p).drop 1)
  rw [List.length_drop, List.length_drop] at hel
  refine ⟨?_, by omega, hl.2⟩
  rw [hi]
  simp only [Option.map_some, List.drop_drop, Nat.add_assoc]
/-- What a tag's loop holds: at a place, or cut. -/
def LoopQ (wr w : World) (B Q Tb : Nat) (s : ByteArray) (n : Nat) (T : List Tk) (F : List Fl) (st : Bool) (X : ByteArray) (I : Option (List (List UInt8 × List UInt8) × List Fl × Bool × Nat)) (v : Int) (sl : Bool) : Prop :=
  ∃ (f : List Fl), QS wr B w.heap.size Q s n T (F ++ f) ⟨#[]⟩ ∧ Below B w wr ∧ f.length ≤ 100000 ∧ ((v = -1 ∧ I = none) ∨ ∃ (p : Nat) (A : List (List UInt8 × List UInt8)) (av : Value), v = (p : Int) ∧ n < p ∧ p ≤ s.size ∧ f.length ≤ 2 * (p - n) ∧ A.length ≤ 30 ∧ TA wr w.heap.size Tb (if st then 2 else 3) X A false av ∧ I = insG st p (s.data.toList.drop p) A f sl ∧ (st = false → A = []))
end Go.Proofs.YtfbhpmafjehojaaGreatDoor
