/- The plain mathematics of origin: where an address comes from, over lists of bytes. -/
import Derived.Test.YtlkpdepdflcbcaaDoorPureW
namespace Go.Proofs.YtlkpdepdflcbcaaDoor

structure O where
  o : Bool
  s : List UInt8
  h : List UInt8
  p : Int
  deriving DecidableEq
def O.none : O := ⟨true, [], [], 0⟩
def portU (u : U) : Int := if u.p = 0 then (dfl u.s : Int) else u.p
def originM (u : U) : O := if rightM u = true ∧ u.o = false then ⟨false, u.s, u.h, portU u⟩ else O.none
def NULL : List UInt8 := [110, 117, 108, 108]
def oportT (s : List UInt8) (p : Int) : List UInt8 := if p = (dfl s : Int) then [] else 58 :: Lib.itoa p
def otextM (x : O) : List UInt8 := if x.o then NULL else x.s ++ 58 :: 47 :: 47 :: (x.h ++ oportT x.s x.p)
def secM (u : U) : Bool := rightM u && decide (u.s = HTTPS ∨ u.s = WSS)
def sameM (a b : O) : Bool := !a.o && decide (a = b)

theorem origin_none {u : U} (h : ¬ (rightM u = true ∧ u.o = false)) : originM u = O.none := by unfold originM; rw [if_neg h]
theorem origin_some {u : U} (h : rightM u = true) (ho : u.o = false) : originM u = ⟨false, u.s, u.h, portU u⟩ := by unfold originM; rw [if_pos ⟨h, ho⟩]
theorem portU_range {u : U} (h : rightM u = true) (ho : u.o = false) : 0 ≤ portU u ∧ portU u ≤ 65535 := by
  obtain ⟨_, _, h0, h1, _⟩ := ranked_parts h ho
  unfold portU
  have := dfl_le u.s
  split <;> omega
theorem portU_inj {u v : U} (hu : rightM u = true) (hou : u.o = false) (hv : rightM v = true) (hov : v.o = false) (hs : u.s = v.s) : portU u = portU v ↔ u.p = v.p := by
  obtain ⟨_, _, _, _, h1, _⟩ := ranked_parts hu hou
  obtain ⟨_, _, _, _, h2, _⟩ := ranked_parts hv hov
  unfold portU
  rw [hs] at h1 ⊢
  split <;> split <;> omega

/-- The schemes that are ranked have no colon. -/
theorem dfl_colon {l : List UInt8} (h : dfl l ≠ 0) : ∀ b ∈ l, isC 58 b = false := by
  have := (schM_all (dfl_sch h)).2
  exact fun b hb => (schB_facts b (this b hb)).2.1
theorem itoa_inj {p q : Int} (h0 : 0 ≤ p) (h1 : 0 ≤ q) (h : Lib.itoa p = Lib.itoa q) : p = q := by
  unfold Lib.itoa at h
  rw [if_neg (by omega), if_neg (by omega)] at h
  have e : numV (Lib.decDigits p.toNat) = numV (Lib.decDigits q.toNat) := by rw [h]
  rw [(dec_spec _).2, (dec_spec _).2] at e
  omega
theorem oport_inj {s : List UInt8} {p q : Int} (h0 : 0 ≤ p) (h1 : 0 ≤ q) (h : oportT s p = oportT s q) : p = q := by
  unfold oportT at h
  split at h <;> split at h
  · omega
  · cases h
  · cases h
  · exact itoa_inj h0 h1 (List.cons.inj h).2
/-- What stands ahead of the first colon is told by the whole, and what stands behind it. -/
theorem ahead_inj {p : UInt8 → Bool} {a a' r r' : List UInt8} (ha : ∀ b ∈ a, p b = false) (ha' : ∀ b ∈ a', p b = false) (hr : r = [] ∨ ∃ c t, r = c :: t ∧ p c = true) (hr' : r' = [] ∨ ∃ c t, r' = c :: t ∧ p c = true) (h : a ++ r = a' ++ r') : a = a' ∧ r = r' := by
  have k : ∀ {a r : List UInt8}, (∀ b ∈ a, p b = false) → (r = [] ∨ ∃ c t, r = c :: t ∧ p c = true) → upto p (a ++ r) = a ∧ past p (a ++ r) = r := by
    intro a r ha hr
    obtain ⟨e1, e2⟩ := upto_append r ha
    rcases hr with rfl | ⟨c, t, rfl, hc⟩
    · rw [e1, e2]; simp [upto, past]
    · obtain ⟨f1, f2⟩ := upto_stop (p := p) t hc
      rw [e1, e2, f1, f2]; simp
  obtain ⟨e1, e2⟩ := k ha hr
  obtain ⟨f1, f2⟩ := k ha' hr'
  rw [h] at e1 e2
  exact ⟨e1.symm.trans f1, e2.symm.trans f2⟩
theorem oport_form (s : List UInt8) (p : Int) : oportT s p = [] ∨ ∃ c t, oportT s p = c :: t ∧ isC 58 c = true := by
  unfold oportT
  split
  · exact .inl rfl
  · exact .inr ⟨58, _, rfl, rfl⟩
theorem null_colon : ∀ b ∈ NULL, isC 58 b = false := by decide
/-- Texts of two origins of addresses are the same just if the origins are. -/
theorem origin_texts (u v : U) : otextM (originM u) = otextM (originM v) ↔ originM u = originM v := by
  constructor
  case mpr => intro h; rw [h]
  intro h
  have no : ∀ {w : U}, rightM w = true ∧ w.o = false → otextM (originM w) ≠ NULL := by
    intro w ⟨hr, ho⟩ e
    rw [origin_some hr ho] at e
    have : (58 : UInt8) ∈ NULL := by rw [← e]; simp [otextM]
    revert this; decide
  by_cases hu : rightM u = true ∧ u.o = false
  · by_cases hv : rightM v = true ∧ v.o = false
    · obtain ⟨u1, u2, _⟩ := ranked_parts hu.1 hu.2
      obtain ⟨v1, v2, _⟩ := ranked_parts hv.1 hv.2
      have pu := (portU_range hu.1 hu.2).1
      have pv := (portU_range hv.1 hv.2).1
      rw [origin_some hu.1 hu.2, origin_some hv.1 hv.2] at h ⊢
      have h' : u.s ++ 58 :: 47 :: 47 :: (u.h ++ oportT u.s (portU u)) = v.s ++ 58 :: 47 :: 47 :: (v.h ++ oportT v.s (portU v)) := h
      obtain ⟨e1, e2⟩ := ahead_inj (p := isC 58) (dfl_colon u1) (dfl_colon v1) (.inr ⟨58, _, rfl, rfl⟩) (.inr ⟨58, _, rfl, rfl⟩) h'
      have e3 : u.h ++ oportT u.s (portU u) = v.h ++ oportT v.s (portU v) := by simpa using e2
      obtain ⟨e4, e5⟩ := ahead_inj (p := isC 58) (fun b hb => (nameB_facts b (hostM_mem u2 b hb)).2.1) (fun b hb => (nameB_facts b (hostM_mem v2 b hb)).2.1) (oport_form _ _) (oport_form _ _) e3
      rw [e1] at e5
      rw [e1, e4, oport_inj pu pv e5]
    · rw [origin_none hv] at h
      exact absurd h (no hu)
  · by_cases hv : rightM v = true ∧ v.o = false
    · rw [origin_none hu] at h
      exact absurd h.symm (no hv)
    · rw [origin_none hu, origin_none hv]

/-- What an address leaves where its path and query are taken away. -/
def bareU (u : U) : U := ⟨u.o, u.s, u.h, u.p, [47], []⟩
theorem bare_right {u : U} (h : rightM u = true) (ho : u.o = false) : rightM (bareU u) = true := by
  obtain ⟨a1, a2, a3, a4, a5, a6, _⟩ := ranked_parts h ho
  obtain ⟨r, hr, _⟩ := path_parts a6
  have hl := right_len h
  have e1 : (bareU u).o = false := ho
  unfold rightM
  rw [e1]
  have e2 : rankedM (bareU u) = true := by
    have p1 : pathM [47] = true := by decide +kernel
    unfold rankedM bareU
    simp only [Bool.and_eq_true, decide_eq_true_eq]
    exact ⟨⟨⟨⟨⟨⟨a1, a2⟩, a3⟩, a4⟩, a5⟩, p1⟩, rfl⟩
  have e3 : (textM (bareU u)).length ≤ (textM u).length := by
    unfold textM
    rw [e1, ho]
    simp only [bareU, Bool.false_eq_true, if_false, List.length_append, List.length_cons, hr]
    simp
    omega
  simp only [Bool.false_eq_true, if_false, Bool.and_eq_true, decide_eq_true_eq]
  exact ⟨e2, by omega⟩
theorem bare_origin {u : U} (h : rightM u = true) (ho : u.o = false) : originM (bareU u) = originM u := by
  rw [origin_some h ho, origin_some (bare_right h ho) ho]; rfl
theorem bare_sec {u : U} (h : rightM u = true) (ho : u.o = false) : secM (bareU u) = secM u := by
  unfold secM; rw [bare_right h ho, h]; rfl
/-- What is secure is what comes from a place with such a scheme. -/
theorem sec_origin (u : U) : secM u = (!(originM u).o && decide ((originM u).s = HTTPS ∨ (originM u).s = WSS)) := by
  by_cases hu : rightM u = true ∧ u.o = false
  · rw [origin_some hu.1 hu.2]; unfold secM; rw [hu.1]; rfl
  · rw [origin_none hu]
    show secM u = false
    unfold secM
    cases hr : rightM u
    · rfl
    · have ho : u.o = true := by
        cases ho : u.o
        · exact absurd ⟨hr, ho⟩ hu
        · rfl
      have hd := (opaque_parts hr ho).2.1
      have : ¬ (u.s = HTTPS ∨ u.s = WSS) := by
        rintro (e | e) <;> (rw [e] at hd; revert hd; decide +kernel)
      simp [this]
theorem origin_apart {u v : U} (hu : rightM u = true) (hou : u.o = false) (hv : rightM v = true) (hov : v.o = false) : sameM (originM u) (originM v) = (decide (u.s = v.s) && decide (u.h = v.h) && decide (u.p = v.p)) := by
  rw [origin_some hu hou, origin_some hv hov]
  unfold sameM
  simp only [O.mk.injEq, true_and, Bool.not_false, Bool.true_and]
  by_cases hs : u.s = v.s
  · have := portU_inj hu hou hv hov hs
    simp [hs, this]
  · simp [hs]

end Go.Proofs.YtlkpdepdflcbcaaDoor
