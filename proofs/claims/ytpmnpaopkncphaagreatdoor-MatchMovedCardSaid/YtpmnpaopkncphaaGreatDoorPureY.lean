/- The plain mathematics of match: whether a source lets an address be, over lists of bytes, and what the seven statements want of it. -/
import Derived.Test.YtpmnpaopkncphaaGreatDoorPureZ
namespace Go.Proofs.YtpmnpaopkncphaaGreatDoor

def schL (t i : List UInt8) : Bool := decide (t = i) || (decide (t = HTTP) && decide (i = HTTPS)) || (decide (t = WS) && decide (i = WSS))
def endsL (l t : List UInt8) : Bool := decide (t.length < l.length) && decide (l.drop (l.length - t.length) = t)
def hostL (w : Bool) (sh h : List UInt8) : Bool := if w then (low sh).isEmpty || endsL (low h) (46 :: low sh) else decide (low sh = low h)
def portL (sp : Int) (u : U) : Bool := if sp = -1 then true else if sp = 0 then decide (portU u = (dfl u.s : Int)) else decide (portU u = sp) || (decide (sp = 80) && decide (portU u = 443))
def pathL (t i : List UInt8) (m : Bool) : Bool := t.isEmpty || m || decide (i = t) || (decide (t.getLast? = some 47) && t.isPrefixOf i)
def nearL (u v : U) : Bool := rightM v && !v.o && !u.o && decide (v.h = u.h) && decide (v.p = 0) && decide (u.p = 0) && schL v.s u.s
def selfL (u v : U) : Bool := sameM (originM v) (originM u) || nearL u v
def toldL (a : Src) (v : U) : List UInt8 := if a.s.isEmpty then v.s else a.s
def letsL (a : Src) (u v : U) (m : Bool) : Bool := !u.o && schL (toldL a v) u.s && hostL a.w a.h u.h && portL a.p u && pathL a.pa u.pa m
def urlL (a : Src) (u v : U) (m : Bool) : Bool := rightM u && (if a.k = 11 then schL a.s u.s else if a.k = 12 then letsL a u v m else if a.k = 2 then selfL u v else false)

theorem sch_self (t : List UInt8) : schL t t = true := by simp [schL]
theorem pathL_any (t i : List UInt8) : pathL t i true = true := by simp [pathL]
theorem pathL_nil (i : List UInt8) (m : Bool) : pathL [] i m = true := by simp [pathL]
/-- What is let be without being moved is let be moved. -/
theorem url_moved (a : Src) (u v : U) (h : urlL a u v false = true) : urlL a u v true = true := by
  unfold urlL at h ⊢
  split at h
  · next e => rw [if_pos e]; exact h
  · next e =>
    rw [if_neg e]
    split at h
    · next e2 =>
      rw [if_pos e2]
      unfold letsL at h ⊢
      rw [pathL_any]
      simp only [Bool.and_eq_true] at h ⊢
      exact ⟨h.1, h.2.1, trivial⟩
    · next e2 => rw [if_neg e2]; exact h
theorem url_nopath (a : Src) (u v : U) (h : a.pa = []) : urlL a u v false = urlL a u v true := by
  unfold urlL letsL
  rw [h, pathL_nil, pathL_nil]
/-- The widest source. -/
theorem url_wide (u v : U) (m : Bool) (h : rightM u = true) : urlL ⟨12, [], [], [], true, -1, []⟩ u v m = (!u.o && schL v.s u.s) := by
  unfold urlL letsL
  rw [h, pathL_nil]
  simp [hostL, low, portL, toldL]
theorem url_scheme (u v : U) (m : Bool) (h : rightM u = true) (sc : List UInt8) (hs : sc = u.s) : urlL ⟨11, [], sc, [], false, 0, []⟩ u v m = true := by
  subst hs
  unfold urlL
  rw [h]
  simp [sch_self]
theorem same_parts {u v : U} (h : sameM (originM v) (originM u) = true) : rightM u = true ∧ u.o = false ∧ rightM v = true ∧ v.o = false ∧ u.s = v.s ∧ u.h = v.h ∧ portU u = portU v := by
  unfold sameM at h
  rw [Bool.and_eq_true, decide_eq_true_eq] at h
  obtain ⟨ho, he⟩ := h
  have hv : rightM v = true ∧ v.o = false := by
    apply Classical.byContradiction
    intro hn
    unfold originM at ho
    rw [if_neg hn] at ho
    exact absurd ho (by decide)
  have hu : rightM u = true ∧ u.o = false := by
    apply Classical.byContradiction
    intro hn
    rw [he] at ho
    unfold originM at ho
    rw [if_neg hn] at ho
    exact absurd ho (by decide)
  unfold originM at he
  rw [if_pos hv, if_pos hu] at he
  injection he with e1 e2 e3 e4
  exact ⟨hu.1, hu.2, hv.1, hv.2, e2.symm, e3.symm, e4.symm⟩
theorem same_comm (u v : U) : sameM (originM u) (originM v) = sameM (originM v) (originM u) := by
  unfold sameM
  by_cases h : originM u = originM v
  · rw [h]
  · have h2 : ¬ originM v = originM u := fun e => h e.symm
    simp [h, h2]
/-- 'self': what is of the page's own origin; what is of another host. -/
theorem url_self (a : Src) (ha : a.k = 2) (u v : U) (m : Bool) : urlL a u v m = (rightM u && selfL u v) := by
  unfold urlL
  rw [ha]
  rfl
theorem self_same (a : Src) (ha : a.k = 2) (u v : U) (m : Bool) (h : sameM (originM u) (originM v) = true) : urlL a u v m = true := by
  rw [url_self a ha]
  rw [same_comm] at h
  rw [(same_parts h).1]
  unfold selfL
  rw [h]
  rfl
theorem self_host (a : Src) (ha : a.k = 2) (u v : U) (m : Bool) (h : urlL a u v m = true) : u.h = v.h ∧ u.o = false ∧ rightM u = true := by
  rw [url_self a ha, Bool.and_eq_true] at h
  obtain ⟨hr, hs⟩ := h
  unfold selfL at hs
  rw [Bool.or_eq_true] at hs
  rcases hs with hs | hs
  · have := same_parts hs
    exact ⟨this.2.2.2.2.2.1, this.2.1, hr⟩
  · unfold nearL at hs
    simp only [Bool.and_eq_true, decide_eq_true_eq, Bool.not_eq_true'] at hs
    exact ⟨hs.1.1.1.2.symm, hs.1.1.1.1.2, hr⟩
/-- A source without a scheme. -/
theorem url_told (a : Src) (u v : U) (m : Bool) (hk : a.k = 12) (hs : a.s = []) : urlL a u v m = urlL ⟨a.k, a.t, v.s, a.h, a.w, a.p, a.pa⟩ u v m := by
  unfold urlL letsL toldL
  rw [hs]
  rw [hk]
  by_cases h : v.s.isEmpty = true
  · simp [h]
  · simp [h]
/-- Wild sources of a host. -/
theorem low_len (l : List UInt8) : (low l).length = l.length := by unfold low; exact List.length_map ..
theorem low_app (l t : List UInt8) : low (l ++ t) = low l ++ low t := by unfold low; exact List.map_append ..
theorem low_dot (h : List UInt8) : low (46 :: h) = 46 :: low h := by unfold low; rw [List.map_cons]; rfl
theorem wild_ahead (h a : List UInt8) (hh : h ≠ []) : hostL true h (a ++ 46 :: h) = !a.isEmpty := by
  have e1 : (low h).isEmpty = false := by cases h with
    | nil => exact absurd rfl hh
    | cons x t => rfl
  unfold hostL
  rw [if_pos rfl, e1, Bool.false_or, low_app, low_dot]
  unfold endsL
  have hd : (low a ++ 46 :: low h).drop ((low a ++ 46 :: low h).length - (46 :: low h).length) = 46 :: low h := by
    rw [List.length_append, Nat.add_sub_cancel]
    exact List.drop_left ..
  rw [hd, List.length_append, low_len]
  cases a with
  | nil => simp
  | cons x t => simp
theorem wild_self (h : List UInt8) (hh : h ≠ []) : hostL true h h = false := by
  have e1 : (low h).isEmpty = false := by cases h with
    | nil => exact absurd rfl hh
    | cons x t => rfl
  unfold hostL
  rw [if_pos rfl, e1, Bool.false_or]
  unfold endsL
  rw [decide_eq_false (by rw [List.length_cons]; omega), Bool.false_and]
theorem tame_self (h : List UInt8) : hostL false h h = true := by simp [hostL]
theorem tame_ahead (h a : List UInt8) : hostL false h (a ++ 46 :: h) = false := by
  unfold hostL
  rw [if_neg (by decide)]
  apply decide_eq_false
  intro e
  have := congrArg List.length e
  rw [low_len, low_len, List.length_append, List.length_cons] at this
  omega
end Go.Proofs.YtpmnpaopkncphaaGreatDoor
