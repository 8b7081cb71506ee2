/- Plain mathematics of documents az tokens: how much one step tells. -/
import Derived.Test.YtfbhpmafjehojaaGreatDoorTokAD
namespace Go.Proofs.YtfbhpmafjehojaaGreatDoor
open Go.RowKit

/-- What tokens weigh. -/
def wA (az : List (List UInt8 × List UInt8)) : Nat := (az.map fun y => y.1.length + y.2.length + 5).sum
def wT (t : Tk) : Nat := t.n.length + t.d.length + wA t.a + 16
def wL (L : List Tk) : Nat := (L.map wT).sum
theorem wA_snoc (az : List (List UInt8 × List UInt8)) (x v : List UInt8) : wA (az ++ [(x, v)]) = wA az + (x.length + v.length + 5) := by simp [wA]
theorem wL_snoc (L : List Tk) (t : Tk) : wL (L ++ [t]) = wL L + wT t := by simp [wL]
theorem wL_len : ∀ L : List Tk, L.length ≤ wL L
  | [] => Nat.le_refl _
  | t :: L => by
    have := wL_len L
    simp only [wL, List.map_cons, List.sum_cons, List.length_cons] at this ⊢
    have h1 : 16 ≤ wT t := Nat.le_add_left _ _
    omega
theorem wL_mem {t : Tk} : ∀ {L : List Tk}, t ∈ L → wT t ≤ wL L
  | u :: L, h => by
    simp only [wL, List.map_cons, List.sum_cons]
    rcases List.mem_cons.1 h with rfl | h
    · omega
    · have := wL_mem h
      simp only [wL] at this
      omega
theorem wL_push (K : List Tk) (t : Option Tk) : wL (pushM K t) ≤ wL K + (match t with | some u => wT u | none => 0) := by
  cases t with
  | none => exact Nat.le_refl _
  | some t =>
    unfold pushM
    dsimp only
    split
    · split
      · exact Nat.le_add_right _ _
      · cases hl : K.getLast? with
        | none =>
          dsimp only
          rw [wL_snoc]
          exact Nat.le_refl _
        | some u =>
          dsimp only
          split
          · obtain ⟨K', rfl⟩ := List.getLast?_eq_some_iff.1 hl
            rw [List.dropLast_concat, wL_snoc, wL_snoc]
            unfold wT
            simp only [List.length_append]
            omega
          · rw [wL_snoc]
            exact Nat.le_refl _
    · rw [wL_snoc]
      exact Nat.le_refl _

theorem decL_val (n : Nat) (l : List UInt8) : (decL n l).1.length ≤ l.length := (decT_len n l).1
theorem value_val {n : Nat} {l : List UInt8} {v : List UInt8 × List Fl} {k : Nat} (h : valueM n l = some (v, k)) : v.1.length ≤ k := by
  unfold valueM at h
  cases l with
  | nil => cases h; exact Nat.le_refl _
  | cons q r =>
    simp only at h
    split at h
    · split at h
      · cases h
        have := decL_val (n + 1) (r.take (r.findIdx (· == q)))
        rw [List.length_take] at this
        omega
      · cases h
    · cases h
      have := decL_val n ((q :: r).take ((q :: r).findIdx wordE))
      rw [List.length_take] at this
      omega
theorem attV_val {n : Nat} {l : List UInt8} {q : (List UInt8 × List Fl) × Nat} (h : attV n l = some q) : q.1.1.length ≤ q.2 := by
  unfold attV at h
  dsimp only at h
  split at h
  · obtain ⟨b, hb⟩ : ∃ b, l.findIdx blkE = b := ⟨_, rfl⟩
    rw [hb] at h
    obtain ⟨z, hz⟩ : ∃ z, (l.drop (b + 1)).findIdx blkE = z := ⟨_, rfl⟩
    rw [hz] at h
    cases hv : valueM (n + (b + 1 + z)) (l.drop (b + 1 + z)) with
    | none => rw [hv] at h; cases h
    | some p =>
      rw [hv] at h
      cases h
      obtain ⟨v, k⟩ := p
      have := value_val hv
      show v.1.length ≤ b + 1 + z + k
      omega
  · cases h
    exact Nat.le_refl _
theorem attr_bound {n : Nat} {l x : List UInt8} {v : List UInt8 × List Fl} {k : Nat} (h : attrM n l = some (x, v, k)) : x.length + v.1.length ≤ k ∧ v.2.length + 1 ≤ k := by
  rw [attrM_attV rfl] at h
  cases hv : attV (n + (1 + (l.drop 1).findIdx attrE)) (l.drop (1 + (l.drop 1).findIdx attrE)) with
  | none => rw [hv] at h; cases h
  | some q =>
    rw [hv] at h
    cases h
    have h1 := attV_val hv
    have h2 := (attV_len hv).2
    have h3 : (low (l.take (1 + (l.drop 1).findIdx attrE))).length ≤ 1 + (l.drop 1).findIdx attrE := by
      rw [low_length, List.length_take]
      exact Nat.min_le_left _ _
    omega
theorem take_bound (st : Bool) (az : List (List UInt8 × List UInt8)) (n : Nat) (x v : List UInt8) : wA (takeM st az n x v).1 ≤ wA az + (x.length + v.length + 5) ∧ (takeM st az n x v).2.length ≤ 1 := by
  unfold takeM
  split
  · split
    · exact ⟨Nat.le_add_right _ _, Nat.le_refl _⟩
    · split
      · exact ⟨Nat.le_add_right _ _, Nat.le_refl _⟩
      · exact ⟨by rw [wA_snoc]; exact Nat.le_refl _, Nat.zero_le _⟩
  · exact ⟨Nat.le_add_right _ _, Nat.zero_le _⟩
theorem inside_bound : ∀ (f : Nat) (st : Bool) (n : Nat) (l : List UInt8) (az : List (List UInt8 × List UInt8)) (fl : List Fl) (sl : Bool) (as2 : List (List UInt8 × List UInt8)) (fl2 : List Fl) (sl2 : Bool) (p : Nat), insideF f st n l az fl sl = some (as2, fl2, sl2, p) → n ≤ p ∧ p < n + l.length ∧ fl2.length ≤ fl.length + 2 * (p - n) ∧ wA as2 ≤ wA az + 6 * (p - n)
  | 0, _, _, _, _, _, _, _, _, _, _, h => by cases h
  | f + 1, st, n, l, az, fl, sl, as2, fl2, sl2, p, h => by
    cases l with
    | nil => simp [insideF] at h
    | cons c r =>
      rw [insideF] at h
      split at h
      · cases h
        exact ⟨Nat.le_refl _, by simp, by omega, by omega⟩
      · rename_i hc1
        split at h
        · obtain ⟨h2, h3, h4, h5⟩ := inside_bound f st (n + 1) r az fl _ as2 fl2 sl2 p h
          exact ⟨by omega, by simp; omega, by omega, by omega⟩
        · rename_i hc2
          cases hm : attrM n (c :: r) with
          | none => rw [hm] at h; cases h
          | some y =>
            obtain ⟨x, v, k⟩ := y
            rw [hm] at h
            have hne : nameE c = false := by
              unfold nameE
              simp only [not_or, Bool.not_eq_true] at hc2
              rw [hc2.2, beq_eq_false_iff_ne.2 hc2.1, beq_eq_false_iff_ne.2 hc1]
              rfl
            obtain ⟨_, hk1, hk2⟩ := attr_ok hne hm
            obtain ⟨g1, g2⟩ := attr_bound hm
            obtain ⟨g3, g4⟩ := take_bound st az n x v.1
            obtain ⟨h2, h3, h4, h5⟩ := inside_bound f st (n + k) _ _ _ _ as2 fl2 sl2 p h
            rw [List.length_drop] at h3
            rw [List.length_append, List.length_append] at h4
            exact ⟨by omega, by omega, by omega, by omega⟩

/-- A step tells no more than its bytes allow. -/
structure StepB (x : List UInt8) (l : List UInt8) (S : Step) : Prop where
  le : S.k ≤ l.length
  one : x = [] → 1 ≤ S.k
  raw : S.r ≠ [] → x = [] ∧ 2 ≤ S.k ∧ rawM S.r = true
  fails : S.f.length ≤ 2 * S.k + 1
  weight : ∀ t, S.t = some t → wT t ≤ 22 * S.k + 16
  text : x = [] → (∀ t, S.t = some t → wT t ≤ 22 * S.k) ∧ S.f.length ≤ 2 * S.k
theorem StepB.of {l : List UInt8} {S : Step} (le : S.k ≤ l.length) (one : 1 ≤ S.k) (raw : S.r ≠ [] → 2 ≤ S.k ∧ rawM S.r = true) (fails : S.f.length ≤ 2 * S.k) (weight : ∀ t, S.t = some t → wT t ≤ 22 * S.k) : StepB [] l S :=
  ⟨le, fun _ => one, fun h => ⟨rfl, raw h⟩, by omega, fun t ht => by have := weight t ht; omega, fun _ => ⟨weight, fails⟩⟩
theorem wT_text (d : List UInt8) : wT (textT d) = d.length + 16 := by simp [wT, textT, wA]
theorem tag_bound (st : Bool) (d n : Nat) (l : List UInt8) (hd : 1 ≤ d) (hl : d ≤ l.length) : StepB [] l (tagM st d n l) := by
  unfold tagM
  dsimp only
  have he := idx_le nameE (l.drop d)
  rw [List.length_drop] at he
  obtain ⟨e, hee⟩ : ∃ e, (l.drop d).findIdx nameE = e := ⟨_, rfl⟩
  rw [hee] at he ⊢
  cases hi : insideF (l.length + 1) st (n + (d + e)) (l.drop (d + e)) [] [] false with
  | none => exact StepB.of (Nat.le_refl _) (by show 1 ≤ l.length; omega) (fun h => absurd rfl h) (by show 1 ≤ 2 * l.length; omega) (fun t h => by cases h)
  | some y =>
    obtain ⟨az, fl, sl, p⟩ := y
    obtain ⟨h1, h2, h3, h4⟩ := inside_bound _ _ _ _ _ _ _ _ _ _ _ hi
    rw [List.length_drop] at h2
    refine StepB.of ?_ ?_ ?_ ?_ ?_
    · show p + 1 - n ≤ l.length
      omega
    · show 1 ≤ p + 1 - n
      omega
    · intro h
      refine ⟨by show 2 ≤ p + 1 - n; omega, ?_⟩
      dsimp only at h ⊢
      split at h
      · rename_i hh
        rw [Bool.and_eq_true] at hh
        rw [if_pos (by rw [Bool.and_eq_true]; exact hh)]
        exact hh.2
      · exact absurd rfl h
    · show fl.length ≤ 2 * (p + 1 - n)
      simp only [List.length_nil] at h3
      omega
    · rintro t ⟨⟩
      have hn : (low ((l.drop d).take e)).length ≤ e := by rw [low_length, List.length_take]; exact Nat.min_le_left _ _
      show (low ((l.drop d).take e)).length + ([] : List UInt8).length + wA az + 16 ≤ 22 * (p + 1 - n)
      have h0 : wA [] = 0 := rfl
      simp only [List.length_nil]
      omega
theorem note_bound (k : Int) (d n : Nat) (z l : List UInt8) (hd : 1 ≤ d) (hl : d ≤ l.length) : StepB [] l (noteM k d n z l) ∧ (noteM k d n z l).f.length ≤ 1 := by
  unfold noteM
  cases hf : findT z (l.drop d) with
  | none =>
    refine ⟨StepB.of (Nat.le_refl _) (by show 1 ≤ l.length; omega) (fun h => absurd rfl h) (by show 1 ≤ 2 * l.length; omega) ?_, Nat.le_refl _⟩
    rintro t ⟨⟩
    show ([] : List UInt8).length + (if k = 5 then trim (l.drop d) else l.drop d).length + wA [] + 16 ≤ 22 * l.length
    have h0 : wA [] = 0 := rfl
    have h1 := trim_length (l.drop d)
    rw [List.length_drop] at h1
    simp only [List.length_nil]
    split
    · omega
    · rw [List.length_drop]; omega
  | some m =>
    have hle := findT_le _ _ _ hf
    rw [List.length_drop] at hle
    refine ⟨StepB.of (by show d + m + z.length ≤ l.length; omega) (by show 1 ≤ d + m + z.length; omega) (fun h => absurd rfl h) (Nat.zero_le _) ?_, Nat.zero_le _⟩
    rintro t ⟨⟩
    show ([] : List UInt8).length + (if k = 5 then trim ((l.drop d).take m) else (l.drop d).take m).length + wA [] + 16 ≤ 22 * (d + m + z.length)
    have h0 : wA [] = 0 := rfl
    have h1 := trim_length ((l.drop d).take m)
    rw [List.length_take] at h1
    simp only [List.length_nil]
    split
    · omega
    · rw [List.length_take]; omega
theorem get_len {l : List UInt8} {k : Nat} {p : UInt8 → Bool} (h : (l[k]?).any p = true) : k + 1 ≤ l.length := by
  cases hc : l[k]? with
  | none => rw [hc] at h; cases h
  | some c => exact (List.getElem?_eq_some_iff.1 hc).1
theorem sign_bound (n : Nat) (l : List UInt8) (hl : l ≠ []) : StepB [] l (signS n l) := by
  have h0 : 1 ≤ l.length := by
    cases l with
    | nil => exact absurd rfl hl
    | cons => simp
  rw [signS_is]
  split
  · rename_i h
    have := get_len h
    exact tag_bound true 1 n l (Nat.le_refl _) (by omega)
  · split
    · rename_i h
      have := get_len h.2
      exact tag_bound false 2 n l (by decide) (by omega)
    · split
      · rename_i h
        exact (note_bound 4 4 n _ l (by decide) (begins_size h)).1
      · split
        · rename_i h
          exact (note_bound 5 9 n _ l (by decide) (begins_size h)).1
        · split
          · rename_i h
            have h2 : 2 ≤ l.length := by
              have : ∀ c : UInt8, l[1]? = some c → 2 ≤ l.length := fun c hc => (List.getElem?_eq_some_iff.1 hc).1
              rcases h with h | h | h <;> exact this _ h
            obtain ⟨hb, hf⟩ := note_bound 4 2 n [62] l (by decide) h2
            refine StepB.of hb.le (hb.one rfl) (fun h => ⟨(hb.raw h).2.1, (hb.raw h).2.2⟩) ?_ (hb.text rfl).1
            show (noteM 4 2 n [62] l).f.length + 1 ≤ 2 * (noteM 4 2 n [62] l).k
            have := hb.one rfl
            omega
          · exact StepB.of h0 (Nat.le_refl _) (fun h => absurd rfl h) (by show 1 ≤ 2 * 1; omega) (fun t h => by cases h; rw [wT_text]; show 1 + 16 ≤ 22 * 1; decide)
theorem raw_bound (x : List UInt8) (n : Nat) (l : List UInt8) (hx : x ≠ []) : StepB x l (rawS x n l) := by
  have he := endM_le x l
  unfold rawS
  dsimp only
  obtain ⟨e, hee⟩ : ∃ e, endM x l = e := ⟨_, rfl⟩
  rw [hee] at he ⊢
  have h1 := decL_val n (l.take e)
  have h2 := decL_len n (l.take e)
  rw [List.length_take] at h1 h2
  have h3 : (if e = l.length then [((140 : Int), n)] else []).length ≤ 1 := by split <;> simp
  refine ⟨he, fun h => absurd h hx, fun h => absurd rfl h, ?_, ?_, fun h => absurd h hx⟩
  · dsimp only
    rw [List.length_append]
    split
    · show (decL n (l.take e)).2.length + _ ≤ _
      omega
    · show ([] : List Fl).length + _ ≤ _
      rw [List.length_nil]
      omega
  · rintro t ⟨⟩
    rw [wT_text]
    split
    · show (decL n (l.take e)).1.length + 16 ≤ 22 * e + 16
      omega
    · show (l.take e).length + 16 ≤ 22 * e + 16
      rw [List.length_take]
      omega
theorem step_bound (x : List UInt8) (n : Nat) (l : List UInt8) (h : ¬ (l = [] ∧ x = [])) : StepB x l (stepM x n l) := by
  unfold stepM
  by_cases hx : x = []
  · subst hx
    have hl : l ≠ [] := fun e => h ⟨e, rfl⟩
    rw [if_neg (by simp)]
    split
    · exact sign_bound n l hl
    · rename_i h60
      have hi := text_find hl h60
      have hle := idx_le (· == (60 : UInt8)) l
      have h1 := decL_val n (l.take (l.findIdx (· == 60)))
      have h2 := decL_len n (l.take (l.findIdx (· == 60)))
      rw [List.length_take] at h1 h2
      refine StepB.of hle (by show 1 ≤ l.findIdx (· == 60); omega) (fun h => absurd rfl h) (by dsimp only; omega) ?_
      rintro t ⟨⟩
      rw [wT_text]
      show (decL n (l.take (l.findIdx (· == 60)))).1.length + 16 ≤ _
      dsimp only
      omega
  · rw [if_pos hx]
    exact raw_bound x n l hx

/-! ### a whole document -/
/-- How much is ahead: twice the bytes, and one if a raw name's text is next. -/
def aheadM (x : List UInt8) (l : List UInt8) : Nat := 2 * l.length + (if x = [] then 0 else 1)
theorem ahead_step {x l : List UInt8} {S : Step} (h : StepB x l S) : aheadM S.r (l.drop S.k) + 1 ≤ aheadM x l ∧ S.f.length + 4 * aheadM S.r (l.drop S.k) ≤ 4 * aheadM x l ∧ (∀ t, S.t = some t → wT t + 22 * aheadM S.r (l.drop S.k) ≤ 22 * aheadM x l) := by
  unfold aheadM
  rw [List.length_drop]
  have hle := h.le
  by_cases hx : x = []
  · have h1 := h.one hx
    have ht := h.text hx
    by_cases hr : S.r = []
    · rw [if_pos hr, if_pos hx]
      refine ⟨by omega, by have := ht.2; omega, fun t e => by have := ht.1 t e; omega⟩
    · have := h.raw hr
      rw [if_neg hr, if_pos hx]
      refine ⟨by omega, by have := ht.2; omega, fun t e => by have := ht.1 t e; omega⟩
  · have hr : S.r = [] := Classical.byContradiction fun hr => hx (h.raw hr).1
    rw [if_pos hr, if_neg hx]
    have := h.fails
    refine ⟨by omega, by omega, fun t e => by have := h.weight t e; omega⟩
theorem readF_bound : ∀ (f : Nat) (x : List UInt8) (n : Nat) (l : List UInt8) (K : List Tk) (F : List Fl), wL (readF f x n l K F).1 ≤ wL K + 22 * aheadM x l ∧ (readF f x n l K F).2.length ≤ F.length + 4 * aheadM x l
  | 0, _, _, _, _, _ => ⟨Nat.le_add_right _ _, Nat.le_add_right _ _⟩
  | f + 1, x, n, l, K, F => by
    unfold readF
    by_cases h0 : l = [] ∧ x = []
    · rw [if_pos h0]
      exact ⟨Nat.le_add_right _ _, Nat.le_add_right _ _⟩
    · rw [if_neg h0]
      have hb := step_bound x n l h0
      have ha := ahead_step hb
      generalize stepM x n l = S at hb ha ⊢
      have ih := readF_bound f S.r (n + S.k) (l.drop S.k) (pushM K S.t) (F ++ S.f)
      have hp := wL_push K S.t
      rw [List.length_append] at ih
      refine ⟨?_, by omega⟩
      cases ht : S.t with
      | none =>
        rw [ht] at hp ih
        dsimp only at hp
        omega
      | some t =>
        rw [ht] at hp ih
        dsimp only at hp
        have := ha.2.2 t ht
        omega
theorem read_bound (l : List UInt8) : wL (readM l).1 ≤ 44 * l.length ∧ (readM l).2.length ≤ 8 * l.length := by
  have h := readF_bound (l.length + 2) [] 0 l [] []
  have e : aheadM [] l = 2 * l.length := by simp [aheadM]
  rw [e] at h
  unfold readM
  refine ⟨?_, ?_⟩
  · have := h.1
    have e0 : wL [] = 0 := rfl
    omega
  · have := h.2
    simp only [List.length_nil] at this
    omega

end Go.Proofs.YtfbhpmafjehojaaGreatDoor
