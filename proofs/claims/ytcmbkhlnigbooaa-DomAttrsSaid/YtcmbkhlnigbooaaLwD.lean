/- Plain mathematics of documents as nodes (no program in this text): what a change's end tells, and what comes out fits. -/
import Derived.Test.YtcmbkhlnigbooaaDoO
import Derived.Test.YtcmbkhlnigbooaaDoQ
import Derived.Test.YtcmbkhlnigbooaaDoST
namespace Go.Proofs.Ytcmbkhlnigbooaa.Dm

theorem cutR_inv {D : List Nd} {n : Int} (h : (cutR D n).2 = 0) : ∃ m : Nat, n = (m : Int) ∧ Right D ∧ 0 < m ∧ m < D.length ∧ cutR D n = (cutM D m, 0) := by
  by_cases hc : checkM D = 0
  · by_cases h1 : 1 ≤ n ∧ n < (D.length : Int)
    · obtain ⟨m, rfl⟩ : ∃ m : Nat, n = (m : Int) := ⟨n.toNat, by omega⟩
      exact ⟨m, rfl, check_right.1 hc, by omega, by omega, cutR_ok hc (by omega) (by omega)⟩
    · rw [cutR_e2 hc h1] at h
      exact absurd h (by decide)
  · rw [cutR_e1 hc] at h
    exact absurd h hc
theorem putR_inv {D : List Nd} {q n : Int} (h : (putR D q n).2 = 0) : ∃ p m : Nat, q = (p : Int) ∧ n = (m : Int) ∧ Right D ∧ 0 < m ∧ m < D.length ∧ p < D.length ∧ holds D p = true ∧ upM D m p = false ∧ putR D q n = (putM D p m, 0) := by
  by_cases hc : checkM D = 0
  · by_cases h1 : putOk D q n
    · obtain ⟨p, rfl⟩ : ∃ m : Nat, q = (m : Int) := ⟨q.toNat, by have := h1.1; omega⟩
      obtain ⟨m, rfl⟩ : ∃ m : Nat, n = (m : Int) := ⟨n.toNat, by have := h1.2.2.1; omega⟩
      cases hu : upM D m p with
      | true => rw [putR_e3 hc h1 hu] at h; exact absurd h (by decide)
      | false =>
        have h2 := h1
        obtain ⟨_, a2, a3, a4, a5⟩ := h1
        rw [Int.toNat_natCast] at a5
        exact ⟨p, m, rfl, rfl, check_right.1 hc, by omega, by omega, by omega, a5, hu, putR_ok hc h2 hu⟩
    · rw [putR_e2 hc h1] at h
      exact absurd h (by decide)
  · rw [putR_e1 hc] at h
    exact absurd h hc
theorem setR_inv {D : List Nd} {n : Int} {nm v : List UInt8} (h : (setR D n nm v).2 = 0) : ∃ m : Nat, n = (m : Int) ∧ Right D ∧ m < D.length ∧ (∀ x, D[m]? = some x → x.k = 2 ∧ ((findA nm x.a).isSome = true ∨ x.a.length < 30)) ∧ setR D n nm v = (setM D m nm v, 0) := by
  by_cases hc : checkM D = 0
  · by_cases h1 : 0 ≤ n ∧ n < (D.length : Int)
    · obtain ⟨m, rfl⟩ : ∃ m : Nat, n = (m : Int) := ⟨n.toNat, by omega⟩
      have hm : m < D.length := by omega
      by_cases h2 : D[m].k = 2
      · by_cases h3 : (findA nm D[m].a).isSome = true ∨ D[m].a.length < 30
        · exact ⟨m, rfl, check_right.1 hc, hm, fun x hx => by
            rw [List.getElem?_eq_getElem hm] at hx
            cases hx
            exact ⟨h2, h3⟩, setR_ok hc hm h2 h3⟩
        · rw [setR_e4 hc hm h2 (by cases e : (findA nm D[m].a).isSome with | false => rfl | true => exact absurd (.inl e) h3) (by omega)] at h
          exact absurd h (by decide)
      · rw [setR_e3 hc hm h2] at h
        exact absurd h (by decide)
    · rw [setR_e2 hc h1] at h
      exact absurd h (by decide)
  · rw [setR_e1 hc] at h
    exact absurd h hc
theorem makeR_inv {D : List Nd} {x : Nd} (h : (makeR D x).2.2 = 0) : Right D ∧ mayM x = true ∧ x.k ≠ 1 ∧ D.length < 300 ∧ makeR D x = (makeM D x, (D.length : Int), 0) := by
  by_cases hc : checkM D = 0
  · by_cases h1 : mayM x = false ∨ x.k = 1
    · rw [make_e2 hc h1] at h
      exact absurd h (by decide)
    · have h2 : mayM x = true := by cases e : mayM x with | true => rfl | false => exact absurd (.inl e) h1
      have h3 : x.k ≠ 1 := fun e => h1 (.inr e)
      by_cases h4 : 300 ≤ D.length
      · rw [make_e3 hc h2 h3 h4] at h
        exact absurd h (by decide)
      · exact ⟨check_right.1 hc, h2, h3, by omega, make_ok hc h2 h3 (by omega)⟩
  · rw [make_e1 hc] at h
    exact absurd h hc

/-! ### texts that fit -/
def TxtN (x : Nd) : Prop := x.n.length ≤ 1000 ∧ x.d.length ≤ 10000 ∧ x.a.length ≤ 1000 ∧ ∀ y ∈ x.a, y.1.length ≤ 10000 ∧ y.2.length ≤ 10000
def TxtD (D : List Nd) : Prop := ∀ x ∈ D, TxtN x
theorem Right.fit {D : List Nd} (R : Right D) (h : TxtD D) : FitD D := by
  refine ⟨by have := R.len; omega, fun x hx => ?_⟩
  obtain ⟨i, hi, rfl⟩ := List.getElem_of_mem hx
  have h1 := h _ hx
  have h2 := R.kidLen i
  have h3 := R.len
  rw [kid_some (List.getElem?_eq_getElem hi)] at h2
  exact ⟨h1.1, h1.2.1, h1.2.2.1, by omega, h1.2.2.2⟩
theorem FitD.txt {D : List Nd} (h : FitD D) : TxtD D := fun x hx => ⟨(h.2 x hx).1, (h.2 x hx).2.1, (h.2 x hx).2.2.1, (h.2 x hx).2.2.2.2⟩
theorem TxtD.cut {D : List Nd} (h : TxtD D) (n : Nat) : TxtD (cutM D n) := fun x hx => by
  unfold cutM at hx
  rw [List.mem_mapIdx] at hx
  obtain ⟨i, hi, rfl⟩ := hx
  have h1 : TxtN D[i] := h _ (List.getElem_mem hi)
  exact h1
theorem TxtD.put {D : List Nd} (h : TxtD D) (q n : Nat) : TxtD (putM D q n) := fun x hx => by
  unfold putM at hx
  rw [List.mem_mapIdx] at hx
  obtain ⟨i, hi, rfl⟩ := hx
  have h1 : TxtN D[i] := h _ (List.getElem_mem hi)
  exact h1
theorem TxtD.make {D : List Nd} (h : TxtD D) {x : Nd} (hx : TxtN x) : TxtD (makeM D x) := fun y hy => by
  unfold makeM at hy
  rw [List.mem_append, List.mem_singleton] at hy
  rcases hy with h1 | rfl
  · exact h y h1
  · exact hx
theorem setA_mem {nm v : List UInt8} : ∀ {a : List (List UInt8 × List UInt8)} {y : List UInt8 × List UInt8}, y ∈ setA nm v a → y ∈ a ∨ (y.2 = v ∧ (y.1 = nm))
  | [], y, h => by
    simp only [setA, List.mem_singleton] at h
    subst h
    exact .inr ⟨rfl, rfl⟩
  | (k, u) :: r, y, h => by
    unfold setA at h
    split at h
    · next e =>
      rcases List.mem_cons.1 h with rfl | h1
      · exact .inr ⟨rfl, e⟩
      · exact .inl (List.mem_cons_of_mem _ h1)
    · rcases List.mem_cons.1 h with rfl | h1
      · exact .inl (List.mem_cons_self ..)
      · rcases setA_mem h1 with h2 | h2
        · exact .inl (List.mem_cons_of_mem _ h2)
        · exact .inr h2
theorem FitT.set {D : List Nd} (h : FitT D) (n : Nat) {nm v : List UInt8} (h1 : nm.length ≤ 300) (h2 : v.length ≤ 1000) : TxtD (setM D n nm v) := fun x hx => by
  unfold setM at hx
  rw [List.mem_mapIdx] at hx
  obtain ⟨i, hi, rfl⟩ := hx
  have h0 := h.2 _ (List.getElem_mem hi)
  have ha : ∀ y ∈ D[i].a, y.1.length ≤ 10000 ∧ y.2.length ≤ 10000 := fun y hy => by have := h0.2.2.2.2 y hy; omega
  refine ⟨by have := h0.1; show D[i].n.length ≤ 1000; omega, by have := h0.2.1; show D[i].d.length ≤ 10000; omega, ?_, ?_⟩
  · show (if i = n then setA nm v D[i].a else D[i].a).length ≤ 1000
    have := h0.2.2.1
    split
    · rw [set_len2]; split <;> omega
    · omega
  · show ∀ y ∈ (if i = n then setA nm v D[i].a else D[i].a), _
    intro y hy
    split at hy
    · rcases setA_mem hy with h3 | ⟨h3, h4⟩
      · exact ha y h3
      · rw [h3, h4]; omega
    · exact ha y hy
/-! ### what is read of what comes out -/
theorem there_of {D : List Nd} (R : Right D) (n : Int) : thereM D n = (decide (0 ≤ n) && decide (n < (D.length : Int))) := by
  unfold thereM
  rw [decide_eq_true (check_right.2 R), Bool.and_true]
theorem attr_set {D : List Nd} {m : Nat} {nm v : List UInt8} (hm : m < D.length) (RE : Right (setM D m nm v)) : attrM (setM D m nm v) (m : Int) nm = some v := by
  unfold attrM
  rw [there_of RE, set_len, decide_eq_true (by omega), decide_eq_true (by omega), Bool.and_true, if_pos rfl, Int.toNat_natCast]
  have h := set_find D m nm v m nm
  rw [if_pos ⟨rfl, rfl, hm⟩, Option.bind_map] at h
  exact h
theorem attr_else {D : List Nd} (R : Right D) {m : Nat} {nm v other : List UInt8} (RE : Right (setM D m nm v)) (n : Int) (h : ¬ (n = (m : Int) ∧ other = nm)) : attrM (setM D m nm v) n other = attrM D n other := by
  unfold attrM
  rw [there_of RE, there_of R, set_len]
  split
  · next e =>
    simp only [Bool.and_eq_true, decide_eq_true_eq] at e
    have h1 := set_find D m nm v n.toNat other
    rw [if_neg (fun h2 => h ⟨by have := h2.1; omega, h2.2.1⟩), Option.bind_map, Option.bind_map] at h1
    exact h1
  · rfl

end Go.Proofs.Ytcmbkhlnigbooaa.Dm
