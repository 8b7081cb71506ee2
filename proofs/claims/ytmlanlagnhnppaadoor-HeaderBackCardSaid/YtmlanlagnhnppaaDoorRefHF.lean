/- Policies that are too big to be looked at: the document's. -/
import Derived.Test.YtmlanlagnhnppaaDoorRefHE
namespace Go.Proofs.YtmlanlagnhnppaaDoor
open Go.RowKit

def SmallD (d : D) : Prop := d.n.length ≤ 200 ∧ d.w.length ≤ 210 ∧ ∀ x ∈ d.w, x.length ≤ 300
def SmallP (ds : List D) : Prop := ds.length ≤ 20 ∧ ∀ d ∈ ds, SmallD d
theorem all_upto {α : Type} {l : List α} {P : α → Prop} (h : ∀ j, (h : j < l.length) → j < l.length → P l[j]) : ∀ x ∈ l, P x := by
  intro x hx
  obtain ⟨j, hj, rfl⟩ := List.getElem_of_mem hx
  exact h j hj hj

def Big8Post (ps : List (List D × Bool)) (w : World) (e : Ending) (w' : World) : Prop := ∃ b, e = .returned (.bool b) ∧ w' = w ∧ (b = false → ps.length ≤ 15 ∧ ∀ p ∈ ps, SmallP p.1)
set_option maxRecDepth 100000 in
set_option maxHeartbeats 4000000 in
theorem refBig8_any (ps : List (List D × Bool)) (v : Value) (w : World) (hv : PolsIn w v ps) (hl : ps.length ≤ 9223372036854775807) (hl2 : ∀ p ∈ ps, p.1.length ≤ 9223372036854775807 ∧ ∀ d ∈ p.1, d.w.length ≤ 9223372036854775807) :
    Calls Tryd.prog 13 #[v] w (Big8Post ps w) := by
  obtain ⟨a, c, rfl⟩ := hv.form
  by_cases h15 : (15 : Int) < (ps.length : Int)
  · clear hv
    go_enter Tryd.func13, Tryd.ntmps13
    go_wp2
    go_ret
    exact ⟨true, rfl, rfl, fun h => by cases h⟩
  have HV := Lib.hid hv
  clear hv
  go_enter Tryd.func13, Tryd.ntmps13
  go_wp2
  go_loop [3, 4] (fun i _ => ∃ k : Nat, k ≤ ps.length ∧ i = .int .i64 k ∧ Hid (∀ j, (h : j < ps.length) → j < k → SmallP ps[j].1)) (fun i _ => ps.length - (intOf i).toNat)
  case atStart => exact ⟨0, Nat.zero_le _, rfl, fun j _ h => absurd h (Nat.not_lt_zero _)⟩
  case round =>
    obtain ⟨k, hk, rfl, HS⟩ := hrel
    by_cases hlt : k < ps.length
    case neg =>
      obtain rfl : k = ps.length := by omega
      have HE : Hid (ps.length ≤ 15 ∧ ∀ p ∈ ps, SmallP p.1) := Lib.hid ⟨by omega, all_upto (P := fun p : List D × Bool => SmallP p.1) HS.out⟩
      clear HS HV
      go_wp2
      go_ret
      exact ⟨false, rfl, rfl, fun _ => HE.out⟩
    obtain ⟨B, off, u, rfl, k1, k2, k3⟩ := HV.out.at hlt
    obtain ⟨q1, q2⟩ := hl2 _ (List.getElem_mem hlt)
    have HNX : Hid (SmallP ps[k].1 → ∀ j, (h : j < ps.length) → j < k + 1 → SmallP ps[j].1) := Lib.hid fun h1 j hj hjk => by
      by_cases e : j = k
      · subst e; exact h1
      · exact HS.out j hj (by omega)
    generalize ps[k] = p at *
    obtain ⟨ds, r⟩ := p
    obtain ⟨a2, c2, rfl⟩ := k3.form
    have HD : Hid (DirsIn w (.slice a2 ds.length c2) ds) := Lib.hid k3
    have q1' : ds.length ≤ 9223372036854775807 := q1
    have q2' : ∀ d ∈ ds, d.w.length ≤ 9223372036854775807 := q2
    have HNX' : Hid (SmallP ds → ∀ j, (h : j < ps.length) → j < k + 1 → SmallP ps[j].1) := HNX
    have k2' : w.cell? ⟨B, off + k * 2 + 1, none⟩ = some (.bool r) := k2
    have k1' : w.cell? ⟨B, off + k * 2, none⟩ = some (.slice a2 ds.length c2) := k1
    clear k3 HS q1 q2 HNX k1 k2
    by_cases h20 : (20 : Int) < (ds.length : Int)
    · go_wp2
      go_ret
      exact ⟨true, rfl, rfl, fun h => by cases h⟩
    go_wp2
    go_loop [4] (fun i => ∃ m : Nat, m ≤ ds.length ∧ i = .int .i64 m ∧ Hid (∀ j, (h : j < ds.length) → j < m → SmallD ds[j])) (fun i => ds.length - (intOf i).toNat)
    case atStart => exact ⟨0, Nat.zero_le _, rfl, fun j _ h => absurd h (Nat.not_lt_zero _)⟩
    case round =>
      obtain ⟨m, hm, rfl, HQ⟩ := hrel
      by_cases hmt : m < ds.length
      case neg =>
        obtain rfl : m = ds.length := by omega
        have HM := Lib.hid (HNX'.out ⟨by omega, all_upto (P := SmallD) HQ.out⟩)
        clear HQ HNX' HD
        go_wp2
        go_round
        case rel => exact ⟨k + 1, by omega, by go_num, HM⟩
        case measure => simp [intOf]; omega
      obtain ⟨B2, off2, y, rfl, j1, j2, j3⟩ := HD.out.at hmt
      have q3 := q2' _ (List.getElem_mem hmt)
      have HQN : Hid (SmallD ds[m] → ∀ j, (h : j < ds.length) → j < m + 1 → SmallD ds[j]) := Lib.hid fun h1 j hj hjm => by
        by_cases e : j = m
        · subst e; exact h1
        · exact HQ.out j hj (by omega)
      generalize ds[m] = d at *
      unfold strV at j1
      obtain ⟨X, hX⟩ : ∃ X : ByteArray, X = ⟨d.n.toArray⟩ := ⟨_, rfl⟩
      rw [← hX] at j1
      have HX : Hid (d.n.length = X.size) := Lib.hid (by rw [hX]; exact (bsize d.n).symm)
      clear hX HQ
      by_cases h200 : (200 : Int) < (X.size : Int)
      · clear j3
        go_wp2
        go_ret
        exact ⟨true, rfl, rfl, fun h => by cases h⟩
      have CB : Hid (Calls Tryd.prog 27 #[y, .int .i64 210, .int .i64 300] w (BigPost 210 300 d.w w)) := Lib.hid (refBig_any 210 300 (by decide) d.w y w j3 q3)
      clear j3
      go_wp2_with fail
      refine CB.out.mono ?_
      unfold BigPost
      rintro e w' ⟨b, rfl, rfl, hbb⟩
      cases b
      · have HM := Lib.hid (HQN.out ⟨by rw [HX.out]; omega, (hbb rfl).1, (hbb rfl).2⟩)
        clear hbb HQN CB
        go_wp2
        go_round
        case rel => exact ⟨m + 1, by omega, by go_num, HM⟩
        case measure => simp [intOf]; omega
      · clear hbb HQN CB
        go_wp2
        go_ret
        exact ⟨true, rfl, rfl, fun h => by cases h⟩

end Go.Proofs.YtmlanlagnhnppaaDoor
