/- What Parse answers: the program's, for every text; the document's rows. -/
import Derived.Test.YtlkpdepdflcbcaaDoorWalkJ
namespace Go.Proofs.YtlkpdepdflcbcaaDoor
open Go.RowKit

theorem uM_inj {o o' : Bool} {s s' h h' pa pa' q q' : ByteArray} {p p' : Int} (e : uM o s h p pa q = uM o' s' h' p' pa' q') : o = o' ∧ s = s' ∧ h = h' ∧ p = p' ∧ pa = pa' ∧ q = q' := by
  unfold uM at e
  injection e with e1 e2 e3 e4 e5 e6
  exact ⟨e1, (text_is e2).trans (text_is rfl).symm, (text_is e3).trans (text_is rfl).symm, e4, (text_is e5).trans (text_is rfl).symm, (text_is e6).trans (text_is rfl).symm⟩
theorem chk_right {u : U} (h : rightM u = true) : chk u = 0 := by unfold chk; rw [h]; rfl
theorem chk_wrong {u : U} (h : rightM u = false) : chk u = 50 := by unfold chk; rw [h]; rfl
theorem numP_some {l : List UInt8} {n : Nat} (h : numM l = some n) : numP l = (n, true) := by unfold numP; rw [h]
theorem numP_none {l : List UInt8} (h : numM l = none) : numP l = (0, false) := by unfold numP; rw [h]

/-- What Parse answers. -/
def PA (s : ByteArray) (o : Bool) (sc h : ByteArray) (p : Int) (pa q : ByteArray) (n : Int) : Prop :=
  (parseM s.data.toList = some (uM o sc h p pa q) ∧ n = 0 ∧ rightM (uM o sc h p pa q) = true) ∨ (parseM s.data.toList = none ∧ n = 50 ∧ o = false ∧ sc = ⟨#[]⟩ ∧ h = ⟨#[]⟩ ∧ p = 0 ∧ pa = ⟨#[]⟩ ∧ q = ⟨#[]⟩)
def PC (s : ByteArray) (o : Bool) (sc h : ByteArray) (p : Int) (pa q : ByteArray) (n : Int) : Prop :=
  ∀ W, MaxIn W → TabIn W → Calls Tryd.prog 16 #[.string s] W fun e w' => e = .returned (.tuple #[uV o sc h p pa q, .int .i64 n]) ∧ Below W.heap.size W w'

theorem parse_to (s : ByteArray) (hs : s.size ≤ 10000) : ∃ (o : Bool) (sc h : ByteArray) (p : Int) (pa q : ByteArray) (n : Int), PA s o sc h p pa q n ∧ Hid (PC s o sc h p pa q n) := by
  obtain ⟨L, hL⟩ := text_of (upto (isC 35) (trim s.data.toList))
  have hM : parseM s.data.toList = (parseT L.data.toList).filter rightM := by unfold parseM; rw [hL]
  have wrong : parseM s.data.toList = none → (PC s false ⟨#[]⟩ ⟨#[]⟩ 0 ⟨#[]⟩ ⟨#[]⟩ 50) → ∃ (o : Bool) (sc h : ByteArray) (p : Int) (pa q : ByteArray) (n : Int), PA s o sc h p pa q n ∧ Hid (PC s o sc h p pa q n) := fun h1 h2 =>
    ⟨false, ⟨#[]⟩, ⟨#[]⟩, 0, ⟨#[]⟩, ⟨#[]⟩, 50, .inr ⟨h1, rfl, rfl, rfl, rfl, rfl, rfl, rfl⟩, Lib.hid h2⟩
  have right : ∀ (o : Bool) (sc h : ByteArray) (p : Int) (pa q : ByteArray), parseT L.data.toList = some (uM o sc h p pa q) →
      (chk (uM o sc h p pa q) = 0 → PC s o sc h p pa q 0) → (chk (uM o sc h p pa q) = 50 → PC s false ⟨#[]⟩ ⟨#[]⟩ 0 ⟨#[]⟩ ⟨#[]⟩ 50) → ∃ (o : Bool) (sc h : ByteArray) (p : Int) (pa q : ByteArray) (n : Int), PA s o sc h p pa q n ∧ Hid (PC s o sc h p pa q n) := fun o sc h p pa q h1 h2 h3 => by
    cases hr : rightM (uM o sc h p pa q)
    · exact wrong (by rw [hM, h1]; simp [hr]) (h3 (chk_wrong hr))
    · exact ⟨o, sc, h, p, pa, q, 0, .inl ⟨by rw [hM, h1]; simp [hr], rfl, hr⟩, Lib.hid (h2 (chk_right hr))⟩
  cases hp : past (isC 58) L.data.toList with
  | nil =>
    have e : parseT L.data.toList = none := by unfold parseT; rw [hp]
    exact wrong (by rw [hM, e]; rfl) (fun W hm ht => parse_a s hs L hL hp W hm ht)
  | cons c r =>
    have hc : c = 58 := by simpa [isC] using past_head (isC 58) _ _ _ hp
    subst hc
    obtain ⟨L3, hL3⟩ := text_of r
    obtain ⟨sc, hsc⟩ := text_of (low (upto (isC 58) L.data.toList))
    have hT : parseT L.data.toList = if dfl sc.data.toList = 0 then some ⟨true, sc.data.toList, [], 0, trim r, []⟩ else if [47, 47].isPrefixOf r then rankU sc.data.toList (r.drop 2) else none := by
      unfold parseT; rw [hp, hsc]
    subst hL3
    by_cases hd0 : dfl sc.data.toList = 0
    · obtain ⟨pa, hpa⟩ := text_of (trim L3.data.toList)
      rw [if_pos hd0, ← hpa] at hT
      exact right true sc ⟨#[]⟩ 0 pa ⟨#[]⟩ hT (fun hn W hm ht => parse_b s hs L hL L3 sc hp hsc _ rfl hd0 pa hpa hn W hm ht) (fun hn W hm ht => parse_b9 s hs L hL L3 sc hp hsc _ rfl hd0 pa hpa hn W hm ht)
    rw [if_neg hd0] at hT
    cases hsl : [47, 47].isPrefixOf L3.data.toList
    · rw [hsl] at hT
      exact wrong (by rw [hM, hT]; rfl) (fun W hm ht => parse_c s hs L hL L3 sc hp hsc _ rfl hd0 hsl W hm ht)
    rw [hsl, if_pos rfl] at hT
    obtain ⟨L4, hL4⟩ := text_of (L3.data.toList.drop 2)
    rw [← hL4] at hT
    obtain ⟨ho, hho⟩ := text_of (low (upto (isC 58) (upto isE L4.data.toList)))
    have hnum : (portM (past (isC 58) (upto isE L4.data.toList)) = none ∧ ∃ c ds, past (isC 58) (upto isE L4.data.toList) = c :: ds ∧ numP ds = (0, false)) ∨ ∃ n, portM (past (isC 58) (upto isE L4.data.toList)) = some n ∧ ((past (isC 58) (upto isE L4.data.toList) = [] ∧ n = 0 ∧ true = true) ∨ ∃ c ds, past (isC 58) (upto isE L4.data.toList) = c :: ds ∧ numP ds = (n, true)) := by
      cases hq : past (isC 58) (upto isE L4.data.toList) with
      | nil => exact .inr ⟨0, rfl, .inl ⟨rfl, rfl, rfl⟩⟩
      | cons c ds =>
        cases hn : numM ds with
        | none => exact .inl ⟨hn, c, ds, rfl, numP_none hn⟩
        | some n => exact .inr ⟨n, hn, .inr ⟨c, ds, rfl, numP_some hn⟩⟩
    rcases hnum with ⟨h1, h2⟩ | ⟨n, h1, h2⟩
    · have e : parseT L.data.toList = none := by rw [hT]; unfold rankU; rw [h1]
      exact wrong (by rw [hM, e]; rfl) (fun W hm ht => parse_d s hs L hL L3 sc hp hsc _ rfl hd0 hsl L4 ho hL4 hho 0 (.inr h2) W hm ht)
    · obtain ⟨pr, hpr⟩ : ∃ pr : Int, pr = if n = dfl sc.data.toList then 0 else (n : Int) := ⟨_, rfl⟩
      obtain ⟨pa1, hpa1⟩ := text_of (if upto (isC 63) (past isE L4.data.toList) = [] then [47] else upto (isC 63) (past isE L4.data.toList))
      obtain ⟨pa, hpa⟩ := text_of (cleanP pa1.data.toList)
      obtain ⟨q, hq⟩ := text_of (past (isC 63) (past isE L4.data.toList))
      have e : parseT L.data.toList = some (uM false sc ho pr pa q) := by
        rw [hT]; unfold rankU; rw [h1]
        unfold uM
        rw [hho, hpr, hpa, hpa1, hq]
      exact right false sc ho pr pa q e (fun hn W hm ht => parse_e s hs L hL L3 sc hp hsc _ rfl hd0 hsl L4 ho hL4 hho n h2 pr hpr pa1 pa q hpa1 hpa hq hn W hm ht) (fun hn W hm ht => parse_e9 s hs L hL L3 sc hp hsc _ rfl hd0 hsl L4 ho hL4 hho n h2 pr hpr pa1 pa q hpa1 hpa hq hn W hm ht)
theorem parse_is (s : ByteArray) (hs : s.size ≤ 10000) (o : Bool) (sc h : ByteArray) (p : Int) (pa q : ByteArray) (hm : parseM s.data.toList = some (uM o sc h p pa q)) : Hid (PC s o sc h p pa q 0) := by
  obtain ⟨o', sc', h', p', pa', q', n', hA, hC⟩ := parse_to s hs
  rcases hA with ⟨h1, rfl, _⟩ | ⟨h1, _⟩
  · rw [hm] at h1
    obtain ⟨rfl, rfl, rfl, rfl, rfl, rfl⟩ := uM_inj (Option.some.inj h1)
    exact hC
  · rw [hm] at h1; cases h1
theorem parse_not (s : ByteArray) (hs : s.size ≤ 10000) (hm : parseM s.data.toList = none) : Hid (PC s false ⟨#[]⟩ ⟨#[]⟩ 0 ⟨#[]⟩ ⟨#[]⟩ 50) := by
  obtain ⟨o', sc', h', p', pa', q', n', hA, hC⟩ := parse_to s hs
  rcases hA with ⟨h1, _⟩ | ⟨_, rfl, rfl, rfl, rfl, rfl, rfl, rfl⟩
  · rw [hm] at h1; cases h1
  · exact hC

end Go.Proofs.YtlkpdepdflcbcaaDoor
