/- The plain mathematics of chain: what policies say of a request, over lists; what the statements of layer 12 want of it. -/
import Derived.Test.YthnogdodlhkldaaGreatDoorPureA
namespace Go.Proofs.YthnogdodlhkldaaGreatDoor

def nElem : List UInt8 := [115, 99, 114, 105, 112, 116, 45, 115, 114, 99, 45, 101, 108, 101, 109]
def nAttr : List UInt8 := [115, 99, 114, 105, 112, 116, 45, 115, 114, 99, 45, 97, 116, 116, 114]
def nScr : List UInt8 := [115, 99, 114, 105, 112, 116, 45, 115, 114, 99]
def nDef : List UInt8 := [100, 101, 102, 97, 117, 108, 116, 45, 115, 114, 99]
/-- The names of a kind. -/
def namesC (k : Int) : List (List UInt8) := if k = 1 ∨ k = 2 ∨ k = 4 then [nElem, nScr, nDef] else if k = 3 then [nAttr, nScr, nDef] else if k = 5 ∨ k = 6 then [nScr, nDef] else []
/-- The words and the name of the first that is there. -/
def effC (ds : List D) : List (List UInt8) → Option (List (List UInt8) × List UInt8)
  | [] => none
  | n :: ns => match findM ds n with
    | some ws => some (ws, n)
    | none => effC ds ns
/-- A request. -/
structure Rq where
  k : Int
  t : List UInt8
  u : U
  m : Bool
  n : List UInt8
  p : Bool
  v : U
def saysC (L : List Src) (r : Rq) : Bool := if r.k = 2 then fetchL L r.u r.v r.m r.n r.p else if r.k = 5 ∨ r.k = 6 then evalL L r.k else inlineL L r.k r.n r.t
def oneC (ds : List D) (r : Rq) : Bool × List UInt8 := match effC ds (namesC r.k) with
  | none => (true, [])
  | some x => (saysC (listS x.1) r, x.2)
/-- What is told of a policy that doesn't let a request be. -/
structure Brk where
  i : Nat
  n : List UInt8
  r : Bool
deriving DecidableEq
def brkC (i : Nat) (p : List D × Bool) (r : Rq) : List Brk := if (oneC p.1 r).1 then [] else [⟨i, (oneC p.1 r).2, p.2⟩]
def blocksF (i : Nat) : List (List D × Bool) → Rq → List Brk
  | [], _ => []
  | p :: ps, r => brkC i p r ++ blocksF (i + 1) ps r
def blocksC (ps : List (List D × Bool)) (r : Rq) : List Brk := blocksF 0 ps r
def okC (ps : List (List D × Bool)) (r : Rq) : Bool := (blocksC ps r).all Brk.r

theorem names_len (k : Int) : (namesC k).length ≤ 3 := by
  unfold namesC
  split
  · decide
  · split
    · decide
    · split <;> decide
theorem names_low (k : Int) : ∀ n ∈ namesC k, low n = n ∧ n.length ≤ 15 := by
  unfold namesC
  split
  · decide
  · split
    · decide
    · split <;> decide
/-- Names looked through: the first that is there. -/
theorem eff_at (ds : List D) : ∀ (ns : List (List UInt8)) (i : Nat) (hi : i < ns.length) (ws : List (List UInt8)), (∀ j, (h : j < ns.length) → j < i → findM ds ns[j] = none) → findM ds ns[i] = some ws → effC ds ns = some (ws, ns[i])
  | [], i, hi, _, _, _ => by cases hi
  | n :: ns, 0, _, ws, _, h => by
    unfold effC
    rw [List.getElem_cons_zero] at h ⊢
    rw [h]
  | n :: ns, i + 1, hi, ws, h0, h => by
    unfold effC
    have e := h0 0 (by simp) (by omega)
    rw [List.getElem_cons_zero] at e
    rw [e, List.getElem_cons_succ] at *
    exact eff_at ds ns i (by simpa using hi) ws (fun j hj hji => by have := h0 (j + 1) (by simpa using hj) (by omega); rwa [List.getElem_cons_succ] at this) h
theorem eff_none (ds : List D) : ∀ (ns : List (List UInt8)), (∀ j, (h : j < ns.length) → findM ds ns[j] = none) → effC ds ns = none
  | [], _ => rfl
  | n :: ns, h0 => by
    unfold effC
    have e := h0 0 (by simp)
    rw [List.getElem_cons_zero] at e
    rw [e]
    exact eff_none ds ns fun j hj => by have := h0 (j + 1) (by simpa using hj); rwa [List.getElem_cons_succ] at this
theorem blocksF_snoc (p : List D × Bool) (r : Rq) : ∀ (ps : List (List D × Bool)) (i : Nat), blocksF i (ps ++ [p]) r = blocksF i ps r ++ brkC (i + ps.length) p r
  | [], i => by simp [blocksF]
  | q :: ps, i => by
    rw [List.cons_append, blocksF, blocksF, blocksF_snoc p r ps (i + 1), List.append_assoc, List.length_cons]
    congr 3
    omega
theorem blocks_snoc (ps : List (List D × Bool)) (p : List D × Bool) (r : Rq) : blocksC (ps ++ [p]) r = blocksC ps r ++ brkC ps.length p r := by
  unfold blocksC
  rw [blocksF_snoc, Nat.zero_add]
theorem brk_len (i : Nat) (p : List D × Bool) (r : Rq) : (brkC i p r).length ≤ 1 := by unfold brkC; split <;> simp
theorem blocks_len (ps : List (List D × Bool)) (r : Rq) : (blocksC ps r).length ≤ ps.length := by
  unfold blocksC
  generalize 0 = i
  induction ps generalizing i with
  | nil => exact Nat.le_refl _
  | cons p ps ih =>
    rw [blocksF, List.length_append, List.length_cons]
    have := ih (i + 1)
    have := brk_len i p r
    omega
/-- One policy more. -/
theorem ok_more (ps : List (List D × Bool)) (p : List D × Bool) (r : Rq) : okC (ps ++ [p]) r = (okC ps r && ((oneC p.1 r).1 || p.2)) := by
  unfold okC
  rw [blocks_snoc, List.all_append]
  congr 1
  unfold brkC
  cases (oneC p.1 r).1 <;> simp
/-- Policies that are all reports, and none. -/
def allRep (b : Bool) (ps : List (List D × Bool)) : List (List D × Bool) := ps.map fun p => (p.1, b)
theorem blocks_rep (b : Bool) (ps : List (List D × Bool)) (r : Rq) : blocksC (allRep b ps) r = (blocksC ps r).map fun x => { x with r := b } := by
  unfold blocksC allRep
  generalize 0 = i
  induction ps generalizing i with
  | nil => rfl
  | cons p ps ih =>
    rw [List.map_cons, blocksF, blocksF, List.map_append, ih (i + 1)]
    congr 1
    unfold brkC
    cases (oneC p.1 r).1 <;> simp
theorem ok_soft (ps : List (List D × Bool)) (r : Rq) : okC (allRep true ps) r = true := by
  unfold okC
  rw [blocks_rep]
  simp
theorem ok_hard (ps : List (List D × Bool)) (r : Rq) : okC (allRep false ps) r = decide ((blocksC (allRep false ps) r).length = 0) := by
  unfold okC
  rw [blocks_rep]
  cases blocksC ps r <;> simp

end Go.Proofs.YthnogdodlhkldaaGreatDoor
