/- The plain mathematics of url: bytes, hosts, paths, addresses, their texts and what is parsed, over lists of bytes. -/
import Derived.Test.YtmlanlagnhnppaaDoorPureB
import Derived.Lib.ItoaNum
namespace Go.Proofs.YtmlanlagnhnppaaDoor

theorem list_snoc {α : Type} {m : List α → Prop} (nil : m []) (append_singleton : ∀ L p, m L → m (L ++ [p])) (L : List α) : m L := by
  have key : ∀ n (L : List α), L.length = n → m L := by
    intro n
    induction n with
    | zero => intro L h; rw [List.length_eq_zero_iff.1 h]; exact nil
    | succ n ih =>
      intro L h
      have hne : L ≠ [] := by intro e; rw [e] at h; cases h
      rw [← List.dropLast_concat_getLast hne]
      exact append_singleton _ _ (ih _ (by simp [h]))
  exact key _ L rfl

/-! Bytes. -/
def small (b : UInt8) : Bool := decide (97 ≤ b.toNat ∧ b.toNat ≤ 122)
def digit (b : UInt8) : Bool := decide (48 ≤ b.toNat ∧ b.toNat ≤ 57)
def nameB (b : UInt8) : Bool := small b || digit b || b == 45
def schB (b : UInt8) : Bool := small b || digit b || b == 43 || b == 45 || b == 46
def schM : List UInt8 → Bool
  | [] => false
  | b :: l => decide (l.length < 20) && small b && (b :: l).all schB
/-- Bytes from first to 126, none of those in except. -/
def inB (first : Nat) (except : List UInt8) (b : UInt8) : Bool := decide (first ≤ b.toNat ∧ b.toNat ≤ 126) && !except.contains b
def within (first : Nat) (except : List UInt8) (l : List UInt8) : Bool := l.all (inB first except)

def HTTP : List UInt8 := [104, 116, 116, 112]
def HTTPS : List UInt8 := [104, 116, 116, 112, 115]
def WS : List UInt8 := [119, 115]
def WSS : List UInt8 := [119, 115, 115]
def dfl (l : List UInt8) : Nat := if l = HTTP ∨ l = WS then 80 else if l = HTTPS ∨ l = WSS then 443 else 0
theorem dfl_le (l : List UInt8) : dfl l ≤ 443 := by unfold dfl; split; omega; split <;> omega
theorem dfl_sch {l : List UInt8} (h : dfl l ≠ 0) : schM l = true := by
  unfold dfl at h
  split at h
  · rename_i h1; rcases h1 with rfl | rfl <;> decide +kernel
  · split at h
    · rename_i h1; rcases h1 with rfl | rfl <;> decide +kernel
    · exact absurd rfl h

/-! Hosts. -/
def nameM (l : List UInt8) : Bool := !l.isEmpty && l.all nameB
def dot (b : UInt8) : Bool := b == 46
def hostM (l : List UInt8) : Bool := decide (l.length ≤ 100) && (cut dot l).all nameM
/-- The same, from byte to byte: was a point, or nothing, ahead? -/
def hostR : Bool → List UInt8 → Bool
  | p, [] => !p
  | p, b :: l => if dot b then !p && hostR true l else nameB b && hostR false l
theorem cut_cons (p : UInt8 → Bool) (b : UInt8) (l : List UInt8) : cut p (b :: l) = if p b then [] :: cut p l else ((b :: (cut p l).head (cut_ne p l)) :: (cut p l).tail) := by
  cases hb : p b
  · simp only [Bool.false_eq_true, if_false]
    conv => lhs; unfold cut
    rw [hb]
    obtain ⟨x, xs, hx⟩ : ∃ x xs, cut p l = x :: xs := List.exists_cons_of_ne_nil (cut_ne p l)
    simp [hx]
  · rw [if_pos rfl]
    exact cut_hit p [] b l (by simp) hb
theorem hostR_spec (l : List UInt8) : hostR true l = (cut dot l).all nameM ∧ hostR false l = (((cut dot l).head (cut_ne dot l)).all nameB && (cut dot l).tail.all nameM) := by
  induction l with
  | nil => exact ⟨rfl, rfl⟩
  | cons b l ih =>
    obtain ⟨h1, h2⟩ := ih
    have hc := cut_cons dot b l
    cases hb : dot b
    · rw [hb] at hc
      simp only [Bool.false_eq_true, if_false] at hc
      have e : hostR true (b :: l) = (nameB b && hostR false l) := by simp [hostR, hb]
      have e2 : hostR false (b :: l) = (nameB b && hostR false l) := by simp [hostR, hb]
      rw [e, e2, h2]
      constructor
      · rw [hc]; simp [nameM, Bool.and_assoc]
      · simp only [hc]; simp [Bool.and_assoc]
    · rw [hb, if_pos rfl] at hc
      have e : hostR true (b :: l) = false := by simp [hostR, hb]
      have e2 : hostR false (b :: l) = hostR true l := by simp [hostR, hb]
      rw [e, e2, h1]
      constructor
      · rw [hc]; simp [nameM]
      · simp only [hc]; simp
theorem hostM_R (l : List UInt8) : hostM l = (decide (l.length ≤ 100) && hostR true l) := by unfold hostM; rw [(hostR_spec l).1]

/-! Paths. -/
def sl (b : UInt8) : Bool := b == 47
def dots (p : List UInt8) : Bool := decide (p = [46] ∨ p = [46, 46])
def stepC (acc : List (List UInt8)) (p : List UInt8) : List (List UInt8) := if p = [46] then acc else if p = [46, 46] then acc.dropLast else acc ++ [p]
def taken (L : List (List UInt8)) : List (List UInt8) := L.foldl stepC []
def endC (L acc : List (List UInt8)) : List (List UInt8) := match L.getLast? with | some p => if dots p then acc ++ [[]] else acc | none => acc
def slashed (L : List (List UInt8)) : List UInt8 := L.flatMap (fun p => 47 :: p)
def outC (r : List UInt8) : List (List UInt8) := endC (cut sl r) (taken (cut sl r))
def cleanP : List UInt8 → List UInt8
  | [] => []
  | b :: r => if sl b then slashed (outC r) else []
theorem taken_snoc (L : List (List UInt8)) (p : List UInt8) : taken (L ++ [p]) = stepC (taken L) p := by simp [taken]
theorem dots_one : dots [46] = true := rfl
theorem dots_two : dots [46, 46] = true := rfl
theorem dots_or {p : List UInt8} (h : dots p = true) : p = [46] ∨ p = [46, 46] := by simpa [dots] using h
theorem dots_not {p : List UInt8} (h : dots p = false) : p ≠ [46] ∧ p ≠ [46, 46] := by simpa [dots] using h
theorem stepC_not {acc : List (List UInt8)} {p : List UInt8} (h : dots p = false) : stepC acc p = acc ++ [p] := by
  obtain ⟨h1, h2⟩ := dots_not h
  unfold stepC; rw [if_neg h1, if_neg h2]
theorem stepC_mem {acc : List (List UInt8)} {p x : List UInt8} (h : x ∈ stepC acc p) : x ∈ acc ∨ (x = p ∧ dots p = false) := by
  cases hd : dots p
  · rw [stepC_not hd] at h; simp at h; rcases h with h | h; exact .inl h; exact .inr ⟨h, rfl⟩
  · rcases dots_or hd with rfl | rfl
    · unfold stepC at h; rw [if_pos rfl] at h; exact .inl h
    · unfold stepC at h; rw [if_neg (by decide), if_pos rfl] at h; exact .inl ((List.dropLast_sublist _).subset h)
theorem taken_mem (L : List (List UInt8)) : ∀ x ∈ taken L, x ∈ L ∧ dots x = false := by
  induction L using list_snoc with
  | nil => intro x hx; cases hx
  | append_singleton L p ih =>
    intro x hx
    rw [taken_snoc] at hx
    rcases stepC_mem hx with h | ⟨rfl, h⟩
    · exact ⟨by simp [(ih x h).1], (ih x h).2⟩
    · exact ⟨by simp, h⟩
/-- How many bytes the pieces have, each with a stroke. -/
def wt (L : List (List UInt8)) : Nat := (slashed L).length
theorem wt_nil : wt [] = 0 := rfl
theorem wt_snoc (L : List (List UInt8)) (p : List UInt8) : wt (L ++ [p]) = wt L + (p.length + 1) := by simp [wt, slashed]
theorem wt_dropLast (L : List (List UInt8)) : wt L.dropLast ≤ wt L := by
  induction L using list_snoc with
  | nil => exact Nat.le_refl _
  | append_singleton L p ih => rw [List.dropLast_concat, wt_snoc]; omega
theorem wt_step (acc : List (List UInt8)) (p : List UInt8) : wt (stepC acc p) ≤ wt acc + (if dots p then 0 else p.length + 1) := by
  cases hd : dots p
  · rw [stepC_not hd, wt_snoc]; simp
  · rcases dots_or hd with rfl | rfl
    · unfold stepC; rw [if_pos rfl]; simp
    · unfold stepC; rw [if_neg (by decide), if_pos rfl]; have := wt_dropLast acc; simpa using this
theorem wt_taken (L : List (List UInt8)) : wt (taken L) ≤ wt L := by
  induction L using list_snoc with
  | nil => exact Nat.le_refl _
  | append_singleton L p ih =>
    rw [taken_snoc, wt_snoc]
    have := wt_step (taken L) p
    split at this <;> omega
theorem endC_snoc (L acc : List (List UInt8)) (p : List UInt8) : endC (L ++ [p]) acc = if dots p then acc ++ [[]] else acc := by simp [endC]
theorem wt_end (L : List (List UInt8)) : wt (endC L (taken L)) ≤ wt L := by
  rcases List.eq_nil_or_concat L with rfl | ⟨L, p, rfl⟩
  · exact Nat.le_refl _
  · rw [List.concat_eq_append, endC_snoc, taken_snoc, wt_snoc]
    have h1 := wt_step (taken L) p
    have h2 := wt_taken L
    cases hd : dots p
    · rw [hd] at h1; simp at h1 ⊢; omega
    · rw [hd] at h1; simp only [if_true] at h1 ⊢
      rw [wt_snoc]
      rcases dots_or hd with rfl | rfl <;> simp at h1 ⊢ <;> omega
theorem wt_cut (l : List UInt8) : wt (cut sl l) = l.length + 1 := by
  have h1 := cut_total sl l
  have h2 := cut_length sl l
  have h3 : ∀ L : List (List UInt8), wt L = (L.map List.length).sum + L.length := fun L => by
    induction L with
    | nil => rfl
    | cons a L ih =>
      have : wt (a :: L) = (a.length + 1) + wt L := by simp [wt, slashed]; omega
      rw [this, ih]; simp; omega
  rw [h3]; omega
theorem cleanP_length (l : List UInt8) : (cleanP l).length ≤ l.length := by
  unfold cleanP
  split
  · exact Nat.le_refl _
  · rename_i b r
    split
    · have h1 := wt_end (cut sl r)
      rw [wt_cut] at h1
      exact h1
    · exact Nat.zero_le _
theorem outC_ne (r : List UInt8) : outC r ≠ [] := by
  unfold outC
  rcases List.eq_nil_or_concat (cut sl r) with h | ⟨L, p, h⟩
  · exact absurd h (cut_ne sl r)
  · rw [h, List.concat_eq_append, endC_snoc, taken_snoc]
    cases hd : dots p
    · rw [stepC_not hd]; simp
    · simp
theorem outC_mem (r : List UInt8) : ∀ x ∈ outC r, dots x = false ∧ ∀ b ∈ x, sl b = false := by
  unfold outC
  have ht := taken_mem (cut sl r)
  have hc := cut_mem sl r
  intro x hx
  have : x ∈ taken (cut sl r) ∨ x = [] := by
    unfold endC at hx
    split at hx
    · split at hx
      · simpa using hx
      · exact .inl hx
    · exact .inl hx
  rcases this with h | rfl
  · exact ⟨(ht x h).2, hc x (ht x h).1⟩
  · exact ⟨rfl, by simp⟩
theorem cut_slashed (x : List UInt8) (L : List (List UInt8)) (h : ∀ y ∈ x :: L, ∀ b ∈ y, sl b = false) : cut sl (x ++ slashed L) = x :: L := by
  induction L generalizing x with
  | nil => simp [slashed]; exact cut_none sl x (h x (by simp))
  | cons y L ih =>
    have e : x ++ slashed (y :: L) = x ++ 47 :: (y ++ slashed L) := by simp [slashed]
    rw [e, cut_hit sl x 47 _ (h x (by simp)) (by decide), ih y (fun z hz => h z (by simp [List.mem_cons.1 hz]))]
theorem taken_plain (L : List (List UInt8)) (h : ∀ x ∈ L, dots x = false) : taken L = L := by
  induction L using list_snoc with
  | nil => rfl
  | append_singleton L p ih => rw [taken_snoc, ih (fun x hx => h x (by simp [hx])), stepC_not (h p (by simp))]
theorem endC_plain (L acc : List (List UInt8)) (h : ∀ x ∈ L, dots x = false) : endC L acc = acc := by
  rcases List.eq_nil_or_concat L with rfl | ⟨M, p, rfl⟩
  · rfl
  · rw [List.concat_eq_append, endC_snoc, h p (by simp)]; rfl
theorem slashed_cut (r : List UInt8) : slashed (cut sl r) = 47 :: r := by
  induction r with
  | nil => rfl
  | cons b r ih =>
    rw [cut_cons]
    cases hb : sl b
    · simp only [Bool.false_eq_true, if_false]
      obtain ⟨x, xs, hx⟩ : ∃ x xs, cut sl r = x :: xs := List.exists_cons_of_ne_nil (cut_ne sl r)
      rw [hx] at ih
      simp only [hx, List.head_cons, List.tail_cons]
      simp [slashed] at ih ⊢
      exact ih
    · rw [if_pos rfl]
      have e : b = 47 := by simpa [sl] using hb
      simp only [slashed, List.flatMap_cons] at ih ⊢
      rw [ih, e]; rfl
theorem cleanP_plain (r : List UInt8) (h : ∀ x ∈ cut sl r, dots x = false) : cleanP (47 :: r) = 47 :: r := by
  show slashed (outC r) = _
  unfold outC
  rw [taken_plain _ h, endC_plain _ _ h, slashed_cut]
theorem slashed_cons (x : List UInt8) (L : List (List UInt8)) : slashed (x :: L) = 47 :: (x ++ slashed L) := by simp [slashed]
theorem cleanP_twice (l : List UInt8) : cleanP (cleanP l) = cleanP l := by
  cases l with
  | nil => rfl
  | cons b r =>
    cases hb : sl b
    · have : cleanP (b :: r) = [] := by simp [cleanP, hb]
      rw [this]; rfl
    · have e : cleanP (b :: r) = slashed (outC r) := by simp [cleanP, hb]
      rw [e]
      have hm := outC_mem r
      obtain ⟨x, L, hx⟩ := List.exists_cons_of_ne_nil (outC_ne r)
      rw [hx] at hm ⊢
      rw [slashed_cons]
      refine cleanP_plain _ ?_
      rw [cut_slashed x L (fun y hy => (hm y hy).2)]
      exact fun y hy => (hm y hy).1
theorem cleanP_head (l : List UInt8) : (l.head? = some 47 ∧ (cleanP l).head? = some 47) ∨ (l.head? ≠ some 47 ∧ cleanP l = []) := by
  cases l with
  | nil => exact .inr ⟨by simp, rfl⟩
  | cons b r =>
    cases hb : sl b
    · refine .inr ⟨?_, by simp [cleanP, hb]⟩
      intro h; simp at h; subst h; simp [sl] at hb
    · have e : b = 47 := by simpa [sl] using hb
      subst e
      refine .inl ⟨rfl, ?_⟩
      have e : cleanP (47 :: r) = slashed (outC r) := rfl
      obtain ⟨x, L, hx⟩ := List.exists_cons_of_ne_nil (outC_ne r)
      rw [e, hx, slashed_cons]; rfl
/-- A path is clean just if it is what it is cleaned. -/
theorem clean_iff (r : List UInt8) : cleanP (47 :: r) = 47 :: r ↔ ∀ x ∈ cut sl r, dots x = false := by
  constructor
  · intro h
    have e : slashed (outC r) = 47 :: r := h
    have hm := outC_mem r
    obtain ⟨x, L, hx⟩ := List.exists_cons_of_ne_nil (outC_ne r)
    rw [hx] at hm e
    rw [slashed_cons] at e
    have e2 : x ++ slashed L = r := by simpa using e
    rw [← e2, cut_slashed x L (fun y hy => (hm y hy).2)]
    exact fun y hy => (hm y hy).1
  · exact cleanP_plain r
def pathM (l : List UInt8) : Bool := !l.isEmpty && within 33 [63, 35] l && decide (cleanP l = l)

/-! Addresses. -/
structure U where
  o : Bool
  s : List UInt8
  h : List UInt8
  p : Int
  pa : List UInt8
  q : List UInt8
  deriving DecidableEq
def U.none : U := ⟨false, [], [], 0, [], []⟩
def queryM (l : List UInt8) : Bool := l.isEmpty || (l.head? == some 63 && within 33 [35] l)
def portT (p : Int) : List UInt8 := if p = 0 then [] else 58 :: Lib.decDigits p.toNat
def textM (u : U) : List UInt8 := if u.o then u.s ++ 58 :: u.pa else u.s ++ 58 :: 47 :: 47 :: (u.h ++ (portT u.p ++ (u.pa ++ u.q)))
def rankedM (u : U) : Bool := decide (dfl u.s ≠ 0) && hostM u.h && decide (0 ≤ u.p) && decide (u.p ≤ 65535) && decide (u.p ≠ (dfl u.s : Int)) && pathM u.pa && queryM u.q
def opaqueM (u : U) : Bool := schM u.s && decide (dfl u.s = 0) && u.h.isEmpty && decide (u.p = 0) && u.q.isEmpty && within 32 [35] u.pa && decide (trim u.pa = u.pa)
def rightM (u : U) : Bool := (if u.o then opaqueM u else rankedM u) && decide ((textM u).length ≤ 500)

/-! What is parsed. -/
def upto (p : UInt8 → Bool) (l : List UInt8) : List UInt8 := l.takeWhile (fun b => !p b)
def past (p : UInt8 → Bool) (l : List UInt8) : List UInt8 := l.dropWhile (fun b => !p b)
theorem upto_past (p : UInt8 → Bool) (l : List UInt8) : upto p l ++ past p l = l := List.takeWhile_append_dropWhile
def isC (c : UInt8) (b : UInt8) : Bool := b == c
def isE (b : UInt8) : Bool := b == 47 || b == 63
def numV (l : List UInt8) : Nat := l.foldl (fun n b => n * 10 + (b.toNat - 48)) 0
def numM (l : List UInt8) : Option Nat := if l = [] ∨ 5 < l.length ∨ l.all digit = false then none else some (numV l)
def portM (nu : List UInt8) : Option Nat := match nu with | [] => some 0 | _ :: ds => numM ds
def rankU (sc r2 : List UInt8) : Option U :=
  match portM (past (isC 58) (upto isE r2)) with
  | none => none
  | some n => some ⟨false, sc, low (upto (isC 58) (upto isE r2)), if n = dfl sc then 0 else n, cleanP (if upto (isC 63) (past isE r2) = [] then [47] else upto (isC 63) (past isE r2)), past (isC 63) (past isE r2)⟩
def parseT (t : List UInt8) : Option U :=
  match past (isC 58) t with
  | [] => none
  | _ :: r => if dfl (low (upto (isC 58) t)) = 0 then some ⟨true, low (upto (isC 58) t), [], 0, trim r, []⟩
    else if [47, 47].isPrefixOf r then rankU (low (upto (isC 58) t)) (r.drop 2) else none
def parseM (l : List UInt8) : Option U := (parseT (upto (isC 35) (trim l))).filter rightM

end Go.Proofs.YtmlanlagnhnppaaDoor
