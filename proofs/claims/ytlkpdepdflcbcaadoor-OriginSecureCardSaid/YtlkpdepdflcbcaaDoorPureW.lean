/- The plain mathematics of resolve: an address' text is parsed as it; what a text begins with; what is joined to an address. -/
import Derived.Test.YtlkpdepdflcbcaaDoorPureV
namespace Go.Proofs.YtlkpdepdflcbcaaDoor

/-! Bytes, one by one. -/
theorem byte_all {p : UInt8 → Prop} (h : ∀ n : Fin 256, p (UInt8.ofNat n.val)) (b : UInt8) : p b := by
  have := h ⟨b.toNat, b.toNat_lt⟩
  simpa using this
theorem schB_facts (b : UInt8) : schB b = true → lowB b = b ∧ isC 58 b = false ∧ isC 35 b = false ∧ blk b = false := by revert b; exact byte_all (by decide +kernel)
theorem nameB_facts (b : UInt8) : (nameB b || dot b) = true → lowB b = b ∧ isC 58 b = false ∧ isC 35 b = false ∧ isE b = false := by revert b; exact byte_all (by decide +kernel)
theorem digit_facts (b : UInt8) : digit b = true → isC 58 b = false ∧ isC 35 b = false ∧ isE b = false := by revert b; exact byte_all (by decide +kernel)
theorem inPath_facts (b : UInt8) : inB 33 [63, 35] b = true → isC 63 b = false ∧ isC 35 b = false ∧ blk b = false := by revert b; exact byte_all (by decide +kernel)
theorem inQuery_facts (b : UInt8) : inB 33 [35] b = true → isC 35 b = false ∧ blk b = false := by revert b; exact byte_all (by decide +kernel)
theorem inRest_facts (b : UInt8) : inB 32 [35] b = true → isC 35 b = false := by revert b; exact byte_all (by decide +kernel)

theorem low_id {l : List UInt8} (h : ∀ b ∈ l, lowB b = b) : low l = l := by
  induction l with
  | nil => rfl
  | cons b l ih =>
    show lowB b :: low l = b :: l
    rw [h b (by simp), ih (fun x hx => h x (by simp [hx]))]
theorem schM_cons {b : UInt8} {l : List UInt8} : schM (b :: l) = (decide (l.length < 20) && small b && (b :: l).all schB) := rfl
theorem schM_all {l : List UInt8} (h : schM l = true) : l ≠ [] ∧ ∀ b ∈ l, schB b = true := by
  cases l with
  | nil => cases h
  | cons c l =>
    rw [schM_cons, Bool.and_eq_true, List.all_eq_true] at h
    exact ⟨by simp, h.2⟩
theorem schM_low {l : List UInt8} (h : schM l = true) : low l = l := low_id fun b hb => (schB_facts b ((schM_all h).2 b hb)).1
theorem hostR_mem {l : List UInt8} : ∀ {p : Bool}, hostR p l = true → ∀ b ∈ l, (nameB b || dot b) = true := by
  induction l with
  | nil => intro p _ b hb; cases hb
  | cons c l ih =>
    intro p h b hb
    unfold hostR at h
    cases hd : dot c
    · rw [hd] at h
      simp only [Bool.false_eq_true, if_false, Bool.and_eq_true] at h
      rcases List.mem_cons.1 hb with rfl | hb
      · rw [h.1]; rfl
      · exact ih h.2 b hb
    · rw [hd] at h
      simp only [if_true, Bool.and_eq_true] at h
      rcases List.mem_cons.1 hb with rfl | hb
      · rw [hd, Bool.or_true]
      · exact ih h.2 b hb
theorem hostM_mem {l : List UInt8} (h : hostM l = true) : ∀ b ∈ l, (nameB b || dot b) = true := by
  rw [hostM_R, Bool.and_eq_true] at h
  exact hostR_mem h.2

/-! Numerals. -/
theorem digit_ofNat (k : Nat) (h : k < 10) : digit (UInt8.ofNat (48 + k)) = true ∧ (UInt8.ofNat (48 + k)).toNat - 48 = k :=
  (show ∀ k : Fin 10, digit (UInt8.ofNat (48 + k.val)) = true ∧ (UInt8.ofNat (48 + k.val)).toNat - 48 = k.val by decide +kernel) ⟨k, h⟩
theorem dec_spec (u : Nat) : (∀ b ∈ Lib.decDigits u, digit b = true) ∧ numV (Lib.decDigits u) = u := by
  induction u using Nat.strongRecOn with
  | _ u ih =>
    by_cases h : u < 10
    · rw [Lib.decDigits, dif_pos h]
      obtain ⟨h1, h2⟩ := digit_ofNat u h
      refine ⟨fun b hb => by rw [List.mem_singleton.1 hb]; exact h1, ?_⟩
      show 0 * 10 + ((UInt8.ofNat (48 + u)).toNat - 48) = u
      rw [h2]; omega
    · rw [Lib.decDigits, dif_neg h]
      obtain ⟨h1, h2⟩ := digit_ofNat (u % 10) (by omega)
      obtain ⟨g1, g2⟩ := ih (u / 10) (by omega)
      refine ⟨fun b hb => ?_, ?_⟩
      · rcases List.mem_append.1 hb with hb | hb
        · exact g1 b hb
        · rw [List.mem_singleton.1 hb]; exact h1
      · unfold numV at g2 ⊢
        rw [List.foldl_append, g2]
        show u / 10 * 10 + ((UInt8.ofNat (48 + u % 10)).toNat - 48) = u
        rw [h2]; omega
theorem nDigits_le (u : Nat) (h : u ≤ 65535) : Lib.nDigits u ≤ 5 := by
  rcases Nat.lt_or_ge u 10 with h1 | h1
  · rw [Lib.nDigits_small h1]; omega
  rcases Nat.lt_or_ge u 100 with h2 | h2
  · rw [Lib.nDigits_unique 1 u (by simpa using h1) (by simpa using h2)]; omega
  rcases Nat.lt_or_ge u 1000 with h3 | h3
  · rw [Lib.nDigits_unique 2 u (by simpa using h2) (by simpa using h3)]; omega
  rcases Nat.lt_or_ge u 10000 with h4 | h4
  · rw [Lib.nDigits_unique 3 u (by simpa using h3) (by simpa using h4)]; omega
  · rw [Lib.nDigits_unique 4 u (by simpa using h4) (by omega)]; omega
theorem numM_dec (u : Nat) (h : u ≤ 65535) : numM (Lib.decDigits u) = some u := by
  obtain ⟨h1, h2⟩ := dec_spec u
  have h3 := nDigits_le u h
  have h4 := Lib.nDigits_pos u
  rw [← Lib.decDigits_length] at h3 h4
  unfold numM
  rw [if_neg, h2]
  rintro (e | e | e)
  · rw [e] at h4; cases h4
  · omega
  · rw [List.all_eq_true.2 h1] at e; cases e

/-! Up to, behind a front that has none. -/
theorem upto_append {p : UInt8 → Bool} {a : List UInt8} (r : List UInt8) (h : ∀ b ∈ a, p b = false) : upto p (a ++ r) = a ++ upto p r ∧ past p (a ++ r) = past p r := by
  induction a with
  | nil => exact ⟨rfl, rfl⟩
  | cons c a ih =>
    have hc := h c (by simp)
    obtain ⟨h1, h2⟩ := ih (fun x hx => h x (by simp [hx]))
    unfold upto past at *
    rw [List.cons_append, List.takeWhile_cons, List.dropWhile_cons, hc]
    simp [h1, h2]
theorem upto_stop {p : UInt8 → Bool} {c : UInt8} (r : List UInt8) (h : p c = true) : upto p (c :: r) = [] ∧ past p (c :: r) = c :: r := past_hit p [] c r (by simp) h
theorem upto_step {p : UInt8 → Bool} {c : UInt8} (r : List UInt8) (h : p c = false) : upto p (c :: r) = c :: upto p r ∧ past p (c :: r) = past p r := by
  have := upto_append (p := p) (a := [c]) r (by simpa using h)
  exact this

/-! What is right. -/
theorem ranked_parts {u : U} (h : rightM u = true) (ho : u.o = false) : dfl u.s ≠ 0 ∧ hostM u.h = true ∧ 0 ≤ u.p ∧ u.p ≤ 65535 ∧ u.p ≠ (dfl u.s : Int) ∧ pathM u.pa = true ∧ queryM u.q = true := by
  unfold rightM at h
  rw [ho] at h
  simp only [Bool.false_eq_true, if_false, rankedM, Bool.and_eq_true, decide_eq_true_eq] at h
  obtain ⟨⟨⟨⟨⟨⟨⟨h1, h2⟩, h3⟩, h4⟩, h5⟩, h6⟩, h7⟩, h8⟩ := h
  exact ⟨h1, h2, h3, h4, h5, h6, h7⟩
theorem opaque_parts {u : U} (h : rightM u = true) (ho : u.o = true) : schM u.s = true ∧ dfl u.s = 0 ∧ u.h = [] ∧ u.p = 0 ∧ u.q = [] ∧ (∀ b ∈ u.pa, inB 32 [35] b = true) ∧ trim u.pa = u.pa := by
  unfold rightM at h
  rw [ho] at h
  simp only [if_true, opaqueM, Bool.and_eq_true, decide_eq_true_eq, List.isEmpty_iff, within, List.all_eq_true] at h
  obtain ⟨⟨⟨⟨⟨⟨⟨h1, h2⟩, h3⟩, h4⟩, h5⟩, h6⟩, h7⟩, h8⟩ := h
  exact ⟨h1, h2, h3, h4, h5, h6, h7⟩
theorem path_parts {l : List UInt8} (h : pathM l = true) : ∃ r, l = 47 :: r ∧ (∀ b ∈ l, inB 33 [63, 35] b = true) ∧ cleanP l = l := by
  unfold pathM at h
  simp only [Bool.and_eq_true, decide_eq_true_eq, within, List.all_eq_true] at h
  obtain ⟨⟨h1, h2⟩, h3⟩ := h
  cases l with
  | nil => cases h1
  | cons b r =>
    rcases cleanP_head (b :: r) with ⟨e, _⟩ | ⟨_, e⟩
    · have : b = 47 := by simpa using e
      subst this
      exact ⟨r, rfl, h2, h3⟩
    · rw [e] at h3; cases h3
theorem query_parts {l : List UInt8} (h : queryM l = true) : l = [] ∨ ∃ r, l = 63 :: r ∧ ∀ b ∈ l, inB 33 [35] b = true := by
  cases l with
  | nil => exact .inl rfl
  | cons b r =>
    unfold queryM at h
    simp only [List.isEmpty_cons, Bool.false_or, Bool.and_eq_true, within, List.all_eq_true, List.head?_cons] at h
    have : b = 63 := by simpa using h.1
    subst this
    exact .inr ⟨r, rfl, h.2⟩
theorem portT_mem (p : Int) : ∀ b ∈ portT p, (b = 58 ∨ digit b = true) := by
  unfold portT
  split
  · intro b hb; cases hb
  · intro b hb
    rcases List.mem_cons.1 hb with h | h
    · exact .inl h
    · exact .inr ((dec_spec _).1 b h)

/-! An address' text, without its path and query. -/
def placeM (u : U) : List UInt8 := u.s ++ 58 :: 47 :: 47 :: (u.h ++ portT u.p)
theorem text_place {u : U} (ho : u.o = false) : textM u = placeM u ++ (u.pa ++ u.q) := by
  unfold textM placeM; rw [ho]; simp
theorem place_no {u : U} (h : rightM u = true) (ho : u.o = false) : ∀ b ∈ placeM u, isC 35 b = false := by
  obtain ⟨h1, h2, _⟩ := ranked_parts h ho
  have h3 := schM_all (right_sch h)
  intro b hb
  unfold placeM at hb
  simp only [List.mem_append, List.mem_cons] at hb
  rcases hb with hb | rfl | rfl | rfl | hb | hb
  · exact (schB_facts b (h3.2 b hb)).2.2.1
  · rfl
  · rfl
  · rfl
  · exact (nameB_facts b (hostM_mem h2 b hb)).2.2.1
  · rcases portT_mem _ b hb with rfl | hb
    · rfl
    · exact (digit_facts b hb).2.1
/-- What is parsed of it, and of any path and query behind it. -/
theorem parse_place {u : U} (h : rightM u = true) (ho : u.o = false) (Y : List UInt8) :
    parseT (placeM u ++ 47 :: Y) = some ⟨false, u.s, u.h, u.p, cleanP (upto (isC 63) (47 :: Y)), past (isC 63) (47 :: Y)⟩ := by
  obtain ⟨hd, hh, hp0, hp1, hpd, _, _⟩ := ranked_parts h ho
  have hs := right_sch h
  have e0 : placeM u ++ 47 :: Y = u.s ++ 58 :: (47 :: 47 :: ((u.h ++ portT u.p) ++ 47 :: Y)) := by unfold placeM; simp
  have hU := past_hit (isC 58) u.s 58 (47 :: 47 :: ((u.h ++ portT u.p) ++ 47 :: Y)) (fun b hb => (schB_facts b ((schM_all hs).2 b hb)).2.1) rfl
  rw [← e0] at hU
  have hE := past_hit isE (u.h ++ portT u.p) 47 Y (fun b hb => by
    rcases List.mem_append.1 hb with hb | hb
    · exact (nameB_facts b (hostM_mem hh b hb)).2.2.2
    · rcases portT_mem _ b hb with rfl | hb
      · rfl
      · exact (digit_facts b hb).2.2) rfl
  have hH : upto (isC 58) (u.h ++ portT u.p) = u.h ∧ past (isC 58) (u.h ++ portT u.p) = portT u.p := by
    obtain ⟨a1, a2⟩ := upto_append (p := isC 58) (a := u.h) (portT u.p) (fun b hb => (nameB_facts b (hostM_mem hh b hb)).2.1)
    rw [a1, a2]
    unfold portT
    split
    · exact ⟨by rw [(past_none (isC 58) [] (by simp)).1]; simp, rfl⟩
    · obtain ⟨b1, b2⟩ := upto_stop (p := isC 58) (c := 58) (Lib.decDigits u.p.toNat) rfl
      rw [b1, b2]; simp
  have hP : portM (portT u.p) = some u.p.toNat := by
    unfold portT
    split
    · rename_i e; rw [e]; rfl
    · exact numM_dec _ (by omega)
  have hpd' : (if u.p.toNat = dfl u.s then (0 : Int) else (u.p.toNat : Int)) = u.p := by
    rw [if_neg (by omega)]; omega
  have h63 : upto (isC 63) (47 :: Y) ≠ [] := by rw [(upto_step (p := isC 63) (c := 47) Y rfl).1]; simp
  unfold parseT
  rw [hU.1, hU.2]
  simp only
  rw [schM_low hs, if_neg hd, if_pos (by simp [List.isPrefixOf])]
  show rankU u.s ((u.h ++ portT u.p) ++ 47 :: Y) = _
  unfold rankU
  rw [hE.1, hE.2, hH.1, hH.2, hP]
  simp only
  rw [hpd', if_neg h63, low_id (fun b hb => (nameB_facts b (hostM_mem hh b hb)).1)]

/-! Trimming: a front without blanks at its beginning, and a stroke. -/
theorem trim_front (P X : List UInt8) (c : UInt8) (hP : P.head? = some c) (hc : blk c = false) : ∃ X', trim (P ++ 47 :: X) = P ++ 47 :: X' := by
  obtain ⟨a, z, h, ha, hz⟩ := trim_form (P ++ 47 :: X)
  obtain ⟨P', rfl⟩ : ∃ P', P = c :: P' := by
    cases P with
    | nil => cases hP
    | cons d P => cases hP; exact ⟨P, rfl⟩
  have ea : a = [] := by
    cases a with
    | nil => rfl
    | cons d a =>
      have e : c = d := by simpa using congrArg List.head? h
      rw [e, ha d (by simp)] at hc; cases hc
  subst ea
  rw [List.nil_append] at h
  have e2 : ((c :: P') ++ [47]) ++ X = trim (c :: P' ++ 47 :: X) ++ z := by rw [← h]; simp
  rcases List.append_eq_append_iff.1 e2 with ⟨t, h1, h2⟩ | ⟨t, h1, h2⟩
  · exact ⟨t, by rw [h1]; simp⟩
  · rcases List.eq_nil_or_concat t with rfl | ⟨t, d, rfl⟩
    · refine ⟨[], ?_⟩
      rw [List.append_nil] at h1
      rw [← h1]
    · rw [List.concat_eq_append] at h1 h2
      have e3 : (c :: P' ++ [47]) = (trim (c :: P' ++ 47 :: X) ++ t) ++ [d] := by rw [h1]; simp
      have e4 := List.append_inj' e3 rfl
      have e5 : (47 : UInt8) = d := by simpa using e4.2
      have := hz d (by rw [h2]; simp)
      rw [← e5] at this
      cases this
theorem place_head {u : U} (h : rightM u = true) : ∃ c, (placeM u).head? = some c ∧ u.s.head? = some c ∧ blk c = false := by
  have hs := schM_all (right_sch h)
  obtain ⟨c, l, e⟩ := List.exists_cons_of_ne_nil hs.1
  refine ⟨c, by unfold placeM; rw [e]; rfl, by rw [e]; rfl, (schB_facts c (hs.2 c (by rw [e]; simp))).2.2.2⟩
/-- What is told behind an address' place leaves scheme, host and port. -/
theorem parse_left {b u : U} (h : rightM b = true) (ho : b.o = false) (X : List UInt8) (hp : parseM (placeM b ++ 47 :: X) = some u) : u.o = false ∧ u.s = b.s ∧ u.h = b.h ∧ u.p = b.p := by
  obtain ⟨c, h1, _, h2⟩ := place_head h
  obtain ⟨X', e⟩ := trim_front (placeM b) X c h1 h2
  unfold parseM at hp
  rw [e, (upto_append (47 :: X') (place_no h ho)).1, (upto_step (p := isC 35) (c := 47) X' rfl).1, parse_place h ho] at hp
  obtain ⟨hp, _⟩ := Option.filter_eq_some_iff.1 hp
  have hp := Option.some.inj hp
  rw [← hp]
  exact ⟨rfl, rfl, rfl, rfl⟩

/-! An address' own text. -/
theorem trim_ends_of {l : List UInt8} (h1 : ∀ b t, l = b :: t → blk b = false) (h2 : ∀ b t, l = t ++ [b] → blk b = false) : trim l = l := trim_of_ends ⟨h1, h2⟩
theorem text_trim {u : U} (h : rightM u = true) : trim (textM u) = textM u ∧ upto (isC 35) (textM u) = textM u := by
  obtain ⟨c, _, hc, hcb⟩ := place_head h
  have hs := schM_all (right_sch h)
  have hfront : ∀ b t, textM u = b :: t → blk b = false := fun b t e => by
    have : (textM u).head? = some c := by
      obtain ⟨d, l, e2⟩ := List.exists_cons_of_ne_nil hs.1
      rw [e2] at hc
      unfold textM
      rw [e2]
      split
      · exact hc
      · exact hc
    rw [e] at this
    cases this; exact hcb
  cases ho : u.o
  · obtain ⟨_, _, _, _, _, hpa, hq⟩ := ranked_parts h ho
    obtain ⟨r, er, hpb, _⟩ := path_parts hpa
    have hvis : ∀ b ∈ u.pa ++ u.q, blk b = false ∧ isC 35 b = false := fun b hb => by
      rcases List.mem_append.1 hb with hb | hb
      · exact ⟨(inPath_facts b (hpb b hb)).2.2, (inPath_facts b (hpb b hb)).2.1⟩
      · rcases query_parts hq with e | ⟨r2, _, hqb⟩
        · rw [e] at hb; cases hb
        · exact ⟨(inQuery_facts b (hqb b hb)).2, (inQuery_facts b (hqb b hb)).1⟩
    constructor
    · refine trim_ends_of hfront fun b t e => ?_
      rw [text_place ho] at e
      have hne : u.pa ++ u.q ≠ [] := by rw [er]; simp
      have hl : (u.pa ++ u.q).getLast hne = b := by
        have h3 : (placeM u ++ (u.pa ++ u.q)).getLast? = some b := by rw [e]; simp
        rw [List.getLast?_append, List.getLast?_eq_some_getLast hne] at h3
        simpa using h3
      rw [← hl]
      exact (hvis _ (List.getLast_mem hne)).1
    · rw [text_place ho, (upto_append _ (place_no h ho)).1, (past_none (isC 35) _ (fun b hb => (hvis b hb).2)).1]
  · obtain ⟨h1, h2, h3, h4, h5, h6, h7⟩ := opaque_parts h ho
    have e0 : textM u = u.s ++ 58 :: u.pa := by unfold textM; rw [ho]; rfl
    constructor
    · refine trim_ends_of hfront fun b t e => ?_
      rw [e0] at e
      by_cases hn : u.pa = []
      · rw [hn] at e
        have := List.append_inj' e rfl
        simp at this
        rw [← this.2]; rfl
      · have hl : u.pa.getLast hn = b := by
          have h8 : (u.s ++ 58 :: u.pa).getLast? = some b := by rw [e]; simp
          rw [List.getLast?_append, List.getLast?_cons, List.getLast?_eq_some_getLast hn] at h8
          simpa using h8
        exact (ends_of_trim h7).2 b u.pa.dropLast (by rw [← hl, List.dropLast_concat_getLast])
    · rw [e0]
      refine (past_none (isC 35) _ fun b hb => ?_).1
      rcases List.mem_append.1 hb with hb | hb
      · exact (schB_facts b (hs.2 b hb)).2.2.1
      · rcases List.mem_cons.1 hb with rfl | hb
        · rfl
        · exact inRest_facts b (h6 b hb)
/-- AN ADDRESS' TEXT IS PARSED AS IT. -/
theorem parse_text {u : U} (h : rightM u = true) : parseM (textM u) = some u := by
  obtain ⟨h1, h2⟩ := text_trim h
  unfold parseM
  rw [h1, h2]
  have key : parseT (textM u) = some u := by
    cases ho : u.o
    · obtain ⟨_, _, _, _, _, hpa, hq⟩ := ranked_parts h ho
      obtain ⟨r, er, hpb, hcl⟩ := path_parts hpa
      rw [text_place ho, er, List.cons_append, parse_place h ho]
      have h63 : upto (isC 63) (47 :: (r ++ u.q)) = u.pa ∧ past (isC 63) (47 :: (r ++ u.q)) = u.q := by
        have e : 47 :: (r ++ u.q) = u.pa ++ u.q := by rw [er]; rfl
        obtain ⟨a1, a2⟩ := upto_append (p := isC 63) (a := u.pa) u.q (fun b hb => (inPath_facts b (hpb b hb)).1)
        rw [e, a1, a2]
        rcases query_parts hq with e2 | ⟨r2, e2, _⟩
        · rw [e2]; exact ⟨by rw [(past_none (isC 63) [] (by simp)).1]; simp, rfl⟩
        · rw [e2]
          obtain ⟨b1, b2⟩ := upto_stop (p := isC 63) (c := 63) r2 rfl
          rw [b1, b2]; simp
      rw [h63.1, h63.2, hcl]
      cases u
      simp only at ho
      rw [ho]
    · obtain ⟨g1, g2, g3, g4, g5, g6, g7⟩ := opaque_parts h ho
      have e0 : textM u = u.s ++ 58 :: u.pa := by unfold textM; rw [ho]; rfl
      have hU := past_hit (isC 58) u.s 58 u.pa (fun b hb => (schB_facts b ((schM_all g1).2 b hb)).2.1) rfl
      unfold parseT
      rw [e0, hU.1, hU.2]
      simp only
      rw [schM_low g1, if_pos g2, g7]
      cases u
      simp only at ho g3 g4 g5
      rw [ho, g3, g4, g5]
  rw [key]
  simp [h]

/-! What a text begins with. -/
def kindM (t : List UInt8) : Nat :=
  if past (isC 58) t ≠ [] ∧ schM (low (upto (isC 58) t)) = true then 1
  else if [47, 47].isPrefixOf t then 2 else if [47].isPrefixOf t then 3
  else if t = [] ∨ [35].isPrefixOf t = true then 4 else if [63].isPrefixOf t then 5 else 6
theorem kind_le (t : List UInt8) : 1 ≤ kindM t ∧ kindM t ≤ 6 := by
  unfold kindM
  repeat' split
  all_goals omega
theorem kind_text {u : U} (h : rightM u = true) : kindM (trim (textM u)) = 1 := by
  have hs := right_sch h
  have : ∃ R, textM u = u.s ++ 58 :: R := by
    unfold textM
    split
    · exact ⟨_, rfl⟩
    · exact ⟨_, rfl⟩
  obtain ⟨R, e⟩ := this
  obtain ⟨e1, e2⟩ := past_hit (isC 58) u.s 58 R (fun b hb => (schB_facts b ((schM_all hs).2 b hb)).2.1) rfl
  rw [(text_trim h).1, e]
  unfold kindM
  rw [e1, e2, schM_low hs, if_pos ⟨by simp, hs⟩]

/-! A path up to its last stroke. -/
def lastN (l : List UInt8) : Nat := (l.reverse.dropWhile (fun b => !sl b)).length
theorem lastN_nil : lastN [] = 0 := rfl
theorem lastN_snoc (l : List UInt8) (b : UInt8) : lastN (l ++ [b]) = if sl b then l.length + 1 else lastN l := by
  unfold lastN
  rw [List.reverse_append, List.reverse_singleton, List.singleton_append, List.dropWhile_cons]
  cases sl b <;> simp
theorem lastN_le (l : List UInt8) : lastN l ≤ l.length := by
  unfold lastN
  have := (List.dropWhile_sublist (l := l.reverse) (fun b => !sl b)).length_le
  simpa using this
def folder (l : List UInt8) : List UInt8 := l.take (lastN l)
/-- A text with a stroke: what is up to the last one, and what is behind. -/
theorem lastN_hit (x y : List UInt8) (hy : ∀ b ∈ y, sl b = false) : lastN (x ++ 47 :: y) = x.length + 1 := by
  induction y using list_snoc with
  | nil => rw [lastN_snoc]; rfl
  | append_singleton y b ih =>
    have e : x ++ 47 :: (y ++ [b]) = (x ++ 47 :: y) ++ [b] := by simp
    rw [e, lastN_snoc, hy b (by simp)]
    exact ih (fun c hc => hy c (by simp [hc]))
theorem lastN_none (y : List UInt8) (hy : ∀ b ∈ y, sl b = false) : lastN y = 0 := by
  induction y using list_snoc with
  | nil => rfl
  | append_singleton y b ih =>
    rw [lastN_snoc, hy b (by simp)]
    exact ih (fun c hc => hy c (by simp [hc]))
theorem folder_hit (x y : List UInt8) (hy : ∀ b ∈ y, sl b = false) : folder (x ++ 47 :: y) = x ++ [47] := by
  unfold folder
  rw [lastN_hit x y hy]
  have e : x ++ 47 :: y = (x ++ [47]) ++ y := by simp
  rw [e, List.take_left' (by simp)]
theorem last_split (l : List UInt8) (h : ∃ b ∈ l, sl b = true) : ∃ x y, l = x ++ 47 :: y ∧ ∀ b ∈ y, sl b = false := by
  induction l using list_snoc with
  | nil => obtain ⟨b, hb, _⟩ := h; cases hb
  | append_singleton l b ih =>
    cases hb : sl b
    · have : ∃ b ∈ l, sl b = true := by
        obtain ⟨c, hc, hd⟩ := h
        rcases List.mem_append.1 hc with hc | hc
        · exact ⟨c, hc, hd⟩
        · rw [List.mem_singleton.1 hc, hb] at hd; cases hd
      obtain ⟨x, y, e, hy⟩ := ih this
      refine ⟨x, y ++ [b], by rw [e]; simp, fun c hc => ?_⟩
      rcases List.mem_append.1 hc with hc | hc
      · exact hy c hc
      · rw [List.mem_singleton.1 hc]; exact hb
    · have : b = 47 := by simpa [sl] using hb
      subst this
      exact ⟨l, [], rfl, by simp⟩
theorem cut_strokes (x y : List UInt8) : cut sl (x ++ 47 :: y) = cut sl x ++ cut sl y := by
  induction x with
  | nil => exact cut_hit sl [] 47 y (by simp) rfl
  | cons b x ih =>
    rw [List.cons_append, cut_cons, cut_cons]
    cases hb : sl b
    · simp only [Bool.false_eq_true, if_false]
      obtain ⟨z, zs, hz⟩ : ∃ z zs, cut sl x = z :: zs := List.exists_cons_of_ne_nil (cut_ne sl x)
      simp only [ih, hz, List.cons_append, List.head_cons, List.tail_cons]
    · simp [ih]
/-- A right path's folder is right, and its own folder. -/
theorem folder_right {l : List UInt8} (h : pathM l = true) : pathM (folder l) = true ∧ folder (folder l) = folder l ∧ (folder l).length ≤ l.length ∧ ∃ r, folder l = 47 :: r := by
  obtain ⟨r, er, hb, hc⟩ := path_parts h
  obtain ⟨x, y, e, hy⟩ := last_split l ⟨47, by rw [er]; simp, rfl⟩
  have ef : folder l = x ++ [47] := by rw [e]; exact folder_hit x y hy
  have hlen : (folder l).length ≤ l.length := by rw [ef, e]; simp
  have hff : folder (folder l) = folder l := by rw [ef]; exact folder_hit x [] (by simp)
  have hsub : ∀ b ∈ folder l, inB 33 [63, 35] b = true := fun b hb' => hb b (by rw [ef] at hb'; rw [e]; simp at hb' ⊢; rcases hb' with h | h; exact .inl h; exact .inr (.inl h))
  have hcl : cleanP (folder l) = folder l ∧ ∃ r, folder l = 47 :: r := by
    rw [ef]
    cases x with
    | nil => exact ⟨by decide, [], rfl⟩
    | cons b x =>
      have eb : b = 47 := by rw [er] at e; simp at e; exact e.1.symm
      subst eb
      have e2 : l = 47 :: (x ++ 47 :: y) := by rw [e]; rfl
      rw [e2] at hc
      have h3 := (clean_iff _).1 hc
      rw [cut_strokes] at h3
      refine ⟨?_, x ++ [47], rfl⟩
      show cleanP (47 :: (x ++ [47])) = 47 :: (x ++ [47])
      rw [clean_iff, cut_strokes]
      intro z hz
      rcases List.mem_append.1 hz with hz | hz
      · exact h3 z (List.mem_append.2 (.inl hz))
      · have : z = [] := by simpa [cut] using hz
        rw [this]; rfl
  refine ⟨?_, hff, hlen, hcl.2⟩
  unfold pathM within
  rw [hcl.1]
  obtain ⟨r2, e2⟩ := hcl.2
  rw [List.all_eq_true.2 hsub, e2]
  simp

/-! What is joined. -/
def aheadM (u : U) (k : Nat) : List UInt8 :=
  if k = 2 then u.s ++ [58] else if k = 3 then placeM u else if k = 4 then textM u else if k = 5 then placeM u ++ u.pa else placeM u ++ folder u.pa
def joinT (u : U) (t : List UInt8) : List UInt8 := aheadM u (kindM t) ++ upto (isC 35) t
def joinM (u : U) (r : List UInt8) : Option U := if kindM (trim r) = 1 then parseM r else if u.o = true ∨ rightM u = false then none else parseM (joinT u (trim r))
def joinE (u : U) (r : List UInt8) : Int := if kindM (trim r) = 1 then 50 else if u.o = true ∨ rightM u = false then 51 else 50
theorem join_one {u : U} {r : List UInt8} (h : kindM (trim r) = 1) : joinM u r = parseM r ∧ joinE u r = 50 := by unfold joinM joinE; rw [if_pos h, if_pos h]; exact ⟨rfl, rfl⟩
theorem join_wrong {u : U} {r : List UInt8} (h : kindM (trim r) ≠ 1) (hu : u.o = true ∨ rightM u = false) : joinM u r = none ∧ joinE u r = 51 := by
  unfold joinM joinE; rw [if_neg h, if_neg h, if_pos hu, if_pos hu]; exact ⟨rfl, rfl⟩
theorem join_right {u : U} {r : List UInt8} (h : kindM (trim r) ≠ 1) (ho : u.o = false) (hr : rightM u = true) : joinM u r = parseM (joinT u (trim r)) ∧ joinE u r = 50 := by
  have hu : ¬ (u.o = true ∨ rightM u = false) := by rw [ho, hr]; simp
  unfold joinM joinE; rw [if_neg h, if_neg h, if_neg hu, if_neg hu]; exact ⟨rfl, rfl⟩
theorem join_some {u v : U} {r : List UInt8} (h : joinM u r = some v) : rightM v = true := by
  unfold joinM at h
  split at h
  · exact (parse_some h).1
  · split at h
    · cases h
    · exact (parse_some h).1
theorem kind_hash {t : List UInt8} (h : kindM t = 4) : upto (isC 35) t = [] := by
  have h4 : t = [] ∨ [35].isPrefixOf t = true := by
    unfold kindM at h
    repeat' split at h
    all_goals first | assumption | omega
  rcases h4 with rfl | h4
  · rfl
  · cases t with
    | nil => rfl
    | cons c t =>
      rw [isPrefixOf_one] at h4
      have : c = 35 := by rw [beq_iff_eq] at h4; exact h4.symm
      subst this
      exact (upto_stop (p := isC 35) t rfl).1
/-- KINDS 3 TO 6 LEAVE SCHEME, HOST AND PORT. -/
theorem join_left {u v : U} {r : List UInt8} (hk : 3 ≤ kindM (trim r)) (h : joinM u r = some v) : v.o = false ∧ v.s = u.s ∧ v.h = u.h ∧ v.p = u.p := by
  unfold joinM at h
  rw [if_neg (by omega)] at h
  split at h
  · cases h
  · rename_i hu
    have ho : u.o = false := by cases e : u.o; rfl; exact absurd (.inl e) hu
    have hr : rightM u = true := by cases e : rightM u; exact absurd (.inr e) hu; rfl
    obtain ⟨_, _, _, _, _, hpa, hq⟩ := ranked_parts hr ho
    obtain ⟨p1, ep, _⟩ := path_parts hpa
    obtain ⟨_, _, _, f1, ef⟩ := folder_right hpa
    have key : ∃ X, joinT u (trim r) = placeM u ++ 47 :: X := by
      have hle := kind_le (trim r)
      unfold joinT aheadM
      by_cases h3 : kindM (trim r) = 3
      · rw [h3]
        have hp : [47].isPrefixOf (trim r) = true := by
          unfold kindM at h3
          repeat' split at h3
          all_goals first | assumption | omega
        obtain ⟨t, et⟩ : ∃ t, trim r = 47 :: t := by
          cases e : trim r with
          | nil => rw [e] at hp; cases hp
          | cons c t => rw [e, isPrefixOf_one, beq_iff_eq] at hp; exact ⟨t, by rw [← hp]⟩
        refine ⟨upto (isC 35) t, ?_⟩
        rw [et, (upto_step (p := isC 35) (c := 47) t rfl).1]; rfl
      by_cases h4 : kindM (trim r) = 4
      · rw [kind_hash h4, h4]
        refine ⟨p1 ++ u.q, ?_⟩
        show textM u ++ [] = _
        rw [text_place ho, ep]; simp
      by_cases h5 : kindM (trim r) = 5
      · rw [h5]
        refine ⟨p1 ++ upto (isC 35) (trim r), ?_⟩
        show (placeM u ++ u.pa) ++ _ = _
        rw [ep]; simp
      · rw [if_neg (by omega), if_neg (by omega), if_neg (by omega), if_neg (by omega)]
        refine ⟨f1 ++ upto (isC 35) (trim r), ?_⟩
        rw [ef]; simp
    obtain ⟨X, e⟩ := key
    rw [e] at h
    exact parse_left hr ho X h
/-- AN ADDRESS' FOLDER. -/
def folderU (u : U) : U := ⟨u.o, u.s, u.h, u.p, folder u.pa, []⟩
theorem folderU_right {u : U} (h : rightM u = true) (ho : u.o = false) : rightM (folderU u) = true := by
  obtain ⟨h1, h2, h3, h4, h5, h6, h7⟩ := ranked_parts h ho
  obtain ⟨f1, _, f2, _⟩ := folder_right h6
  have hl := right_len h
  rw [text_place ho] at hl
  have e : textM (folderU u) = placeM u ++ folder u.pa := by
    rw [text_place (u := folderU u) ho]
    show placeM u ++ (folder u.pa ++ []) = _
    rw [List.append_nil]
  unfold rightM
  rw [e]
  have hr : rankedM (folderU u) = true := by
    unfold rankedM folderU
    simp only [Bool.and_eq_true, decide_eq_true_eq]
    exact ⟨⟨⟨⟨⟨⟨h1, h2⟩, h3⟩, h4⟩, h5⟩, f1⟩, rfl⟩
  have ho2 : (folderU u).o = false := ho
  rw [ho2, hr]
  simp only [List.length_append] at hl ⊢
  simp only [Bool.false_eq_true, if_false, Bool.true_and, decide_eq_true_eq]
  omega
theorem join_folder {u : U} {r : List UInt8} (hk : kindM (trim r) = 6) (ho : u.o = false) (hr : rightM u = true) : joinM (folderU u) r = joinM u r ∧ joinE (folderU u) r = joinE u r := by
  obtain ⟨_, _, _, _, _, hpa, _⟩ := ranked_parts hr ho
  obtain ⟨_, f2, _⟩ := folder_right hpa
  obtain ⟨a1, a2⟩ := join_right (u := u) (r := r) (by omega) ho hr
  obtain ⟨b1, b2⟩ := join_right (u := folderU u) (r := r) (by omega) ho (folderU_right hr ho)
  rw [a1, a2, b1, b2]
  refine ⟨?_, rfl⟩
  congr 1
  unfold joinT
  rw [hk]
  show (placeM u ++ folder (folder u.pa)) ++ _ = (placeM u ++ folder u.pa) ++ _
  rw [f2]
theorem trim_blanks {a z : List UInt8} (l : List UInt8) (ha : ∀ b ∈ a, blk b = true) (hz : ∀ b ∈ z, blk b = true) : trim (a ++ l ++ z) = trim l := by
  obtain ⟨a', z', h, ha', hz'⟩ := trim_form l
  have e : a ++ l ++ z = (a ++ a') ++ trim l ++ (z' ++ z) := by
    conv => lhs; rw [h]
    simp
  rw [e]
  refine trim_unique (fun b hb => ?_) (fun b hb => ?_) (trim_ends l)
  · rcases List.mem_append.1 hb with hb | hb
    · exact ha b hb
    · exact ha' b hb
  · rcases List.mem_append.1 hb with hb | hb
    · exact hz' b hb
    · exact hz b hb
theorem join_blanks (u : U) (l : List UInt8) : joinM u ([32] ++ l ++ [10]) = joinM u l ∧ joinE u ([32] ++ l ++ [10]) = joinE u l := by
  have e : trim ([32] ++ l ++ [10]) = trim l := trim_blanks l (by simp; rfl) (by simp; rfl)
  have e2 : parseM ([32] ++ l ++ [10]) = parseM l := by unfold parseM; rw [e]
  unfold joinM joinE
  rw [e, e2]
  exact ⟨rfl, rfl⟩
/-- WHAT WAS JOINED, JOINED AGAIN. -/
theorem join_own {u v : U} (h : rightM v = true) : joinM u (textM v) = some v := by
  rw [(join_one (kind_text h)).1]
  exact parse_text h

end Go.Proofs.YtlkpdepdflcbcaaDoor
