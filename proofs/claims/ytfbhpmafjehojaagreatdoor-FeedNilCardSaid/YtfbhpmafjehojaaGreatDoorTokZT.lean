/- The document's reader: an attribute, told by its value. -/
import Derived.Test.YtfbhpmafjehojaaGreatDoorTokO
import Derived.Test.YtfbhpmafjehojaaGreatDoorTokZ
namespace Go.Proofs.YtfbhpmafjehojaaGreatDoor
open Go.RowKit

/-! ### what an attribute comes to -/
/-- The value that stands behind a name that ends at E: the blanks, the '=', the blanks. -/
def attV (n : Nat) (l : List UInt8) : Option ((List UInt8 × List Fl) × Nat) :=
  let b := l.findIdx blkE
  if (l.drop b).head? = some 61 then (valueM (n + (b + 1 + (l.drop (b + 1)).findIdx blkE)) (l.drop (b + 1 + (l.drop (b + 1)).findIdx blkE))).map fun p => (p.1, b + 1 + (l.drop (b + 1)).findIdx blkE + p.2)
  else some (([], []), 0)
theorem attrM_attV {n e1 : Nat} {l : List UInt8} (he : 1 + (l.drop 1).findIdx attrE = e1) : attrM n l = (attV (n + e1) (l.drop e1)).map fun p => (low (l.take e1), p.1, e1 + p.2) := by
  unfold attrM attV
  rw [he]
  dsimp only
  have hb : (fun c => !blk c) = blkE := rfl
  rw [hb]
  obtain ⟨b, hbb⟩ : ∃ b, (l.drop e1).findIdx blkE = b := ⟨_, rfl⟩
  rw [hbb]
  simp only [List.drop_drop, ← Nat.add_assoc]
  by_cases h : (l.drop (e1 + b)).head? = some 61
  · rw [if_pos h, if_pos h]
    obtain ⟨z, hz⟩ : ∃ z, (l.drop (e1 + b + 1)).findIdx blkE = z := ⟨_, rfl⟩
    rw [hz]
    cases valueM (n + e1 + b + 1 + z) (l.drop (e1 + b + 1 + z)) with
    | none => rfl
    | some p =>
      simp only [Option.map_some, ← Nat.add_assoc]
  · rw [if_neg h, if_neg h]
    rfl
/-- An attribute of a tag: told by its value. -/
theorem attrQ_hid (s : ByteArray) (n e1 : Nat) (st : Bool) (A : List (List UInt8 × List UInt8)) (he : 1 + ((s.data.toList.drop n).drop 1).findIdx attrE = e1) (hst : st = false → A = []) (hA : A.length ≤ 30) (hn : n < s.size) (hs : s.size ≤ 20000) : Hid (∀ W B m Q Tb NM c av n0 T F x, QS W B m Q s n0 T F x → TA W m Tb (if st then 2 else 3) NM A c av → F.length ≤ 300000 → Calls Tryz.prog 105 #[.pointer (some ⟨Q, 0, none⟩), .pointer (some ⟨Tb, 0, none⟩), .int .i64 (n : Int)] W fun en w' => en = .returned (.int .i64 (outV (n + e1) (attV (n + e1) (s.data.toList.drop (n + e1))))) ∧ QS w' B m Q s n0 T ((F ++ (takeM st A n (low ((s.data.toList.drop n).take e1)) (outD (attV (n + e1) (s.data.toList.drop (n + e1))))).2) ++ outF (attV (n + e1) (s.data.toList.drop (n + e1)))) x ∧ (∃ av', TA w' m Tb (if st then 2 else 3) NM (takeM st A n (low ((s.data.toList.drop n).take e1)) (outD (attV (n + e1) (s.data.toList.drop (n + e1))))).1 c av') ∧ Below B W w') := by
  obtain ⟨U, hU⟩ := text_of ((s.data.toList.drop n).take e1)
  obtain ⟨X, hX⟩ := text_of (low U.data.toList)
  obtain ⟨b, hb⟩ : ∃ b, (s.data.toList.drop (n + e1)).findIdx blkE = b := ⟨_, rfl⟩
  have hhead : ((s.data.toList.drop (n + e1)).drop b).head? = s.data.toList[n + e1 + b]? := by rw [head_get, List.drop_drop, List.getElem?_drop, Nat.add_zero]
  by_cases hq : s.data.toList[n + e1 + b]? = some 61
  · obtain ⟨z, hz⟩ : ∃ z, (s.data.toList.drop (n + e1 + b + 1)).findIdx blkE = z := ⟨_, rfl⟩
    obtain ⟨g, hg⟩ : ∃ g, n + e1 + b + 1 + z = g := ⟨_, rfl⟩
    obtain ⟨r, hr⟩ : ∃ r, valueM g (s.data.toList.drop g) = r := ⟨_, rfl⟩
    have ha : attV (n + e1) (s.data.toList.drop (n + e1)) = r.map fun p => (p.1, b + 1 + z + p.2) := by
      unfold attV
      dsimp only
      rw [hb, hhead, if_pos hq, List.drop_drop, show n + e1 + (b + 1) = n + e1 + b + 1 by omega, hz, List.drop_drop, show n + e1 + (b + 1 + z) = g by omega, hr]
    obtain ⟨V, hV⟩ := text_of (outD r)
    have o1 : outV (n + e1) (r.map fun p => (p.1, b + 1 + z + p.2)) = outV g r := by
      cases r with
      | none => rfl
      | some p =>
        unfold outV
        simp only [Option.map_some]
        congr 1
        omega
    have o2 : outD (r.map fun p => (p.1, b + 1 + z + p.2)) = outD r := by cases r <;> rfl
    have o3 : outF (r.map fun p => (p.1, b + 1 + z + p.2)) = outF r := by cases r <;> rfl
    rw [ha, o1, o2, o3, ← hU, ← hX, ← hV]
    cases st with
    | true =>
      rcases refM_cases A X.data.toList with h | h | h
      · rw [refM_142 h]
        exact attrQ_142_eq s X V U n e1 b z g A r he hU hX hb hq hz hg hr hV h hA hn hs
      · rw [refM_2 h]
        exact attrQ_2_eq s X V U n e1 b z g A r he hU hX hb hq hz hg hr hV h hA hn hs
      · rw [refM_0 h hA]
        dsimp only
        simp only [List.append_nil]
        exact attrQ_0_eq s X V U n e1 b z g A r he hU hX hb hq hz hg hr hV h hA hn hs
    | false =>
      unfold takeM
      simp only [Bool.false_eq_true, if_false, List.append_nil]
      exact attrQ_end_eq s X V U n e1 b z g A r he hU hX hb hq hz hg hr hV hA hn hs
  · have ha : attV (n + e1) (s.data.toList.drop (n + e1)) = some (([], []), 0) := by
      unfold attV
      dsimp only
      rw [hb, hhead, if_neg hq]
    rw [ha, ← hU, ← hX]
    unfold outV outD outF
    simp only [List.append_nil, Nat.add_zero]
    cases hc : s.data.toList[n + e1 + b]? with
    | none =>
      cases st with
      | true =>
        rcases refM_cases A X.data.toList with h | h | h
        · rw [refM_142 h]
          exact attrQ_142_no s X U n e1 b A he hU hX hb hc h hA hn hs
        · rw [refM_2 h]
          exact attrQ_2_no s X U n e1 b A he hU hX hb hc h hA hn hs
        · rw [refM_0 h hA]
          simp only [List.append_nil]
          exact attrQ_0_no s X U n e1 b A he hU hX hb hc h hA hn hs
      | false =>
        unfold takeM
        simp only [Bool.false_eq_true, if_false, List.append_nil]
        exact attrQ_end_no s X U n e1 b A he hU hX hb hc hA hn hs
    | some d =>
      have hd : d ≠ 61 := fun e => hq (by rw [hc, e])
      cases st with
      | true =>
        rcases refM_cases A X.data.toList with h | h | h
        · rw [refM_142 h]
          exact attrQ_142_other s X U n e1 b A d he hU hX hb hc hd h hA hn hs
        · rw [refM_2 h]
          exact attrQ_2_other s X U n e1 b A d he hU hX hb hc hd h hA hn hs
        · rw [refM_0 h hA]
          simp only [List.append_nil]
          exact attrQ_0_other s X U n e1 b A d he hU hX hb hc hd h hA hn hs
      | false =>
        unfold takeM
        simp only [Bool.false_eq_true, if_false, List.append_nil]
        exact attrQ_end_other s X U n e1 b A d he hU hX hb hc hd hA hn hs

end Go.Proofs.YtfbhpmafjehojaaGreatDoor
