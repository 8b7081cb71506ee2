/- Sources that are too big to be looked at; two rows that are the same: the document's. -/
import Derived.Test.YtmfejcmhbncchaaGreatDoorRefSE
import Derived.Test.YtmfejcmhbncchaaGreatDoorSrcN
namespace Go.Proofs.YtmfejcmhbncchaaGreatDoor
open Go.RowKit

def SmallS (a : Src) : Prop := a.t.length ≤ 500 ∧ a.s.length ≤ 500 ∧ a.h.length ≤ 500 ∧ a.pa.length ≤ 500
def Big9Post (L : List Src) (w : World) (e : Ending) (w' : World) : Prop := ∃ b, e = .returned (.bool b) ∧ w' = w ∧ (b = false → L.length ≤ 50 ∧ ∀ a ∈ L, SmallS a)
/-- The cells of a row's k-th source. -/
theorem SrcsIn.at {w : World} {a : Option Addr} {n c : Nat} {L : List Src} (h : SrcsIn w (.slice a n c) L) {k : Nat} (hk : k < L.length) : ∃ B off, a = some ⟨B, off, none⟩ ∧ ∀ j u, (srcC L[k])[j]? = some u → w.cell? ⟨B, off + k * 7 + j, none⟩ = some u := by
  rcases h with ⟨_, h2⟩ | ⟨B, off, cap, h1, h2⟩
  · rw [h2] at hk; cases hk
  · cases h1
    exact ⟨B, off, rfl, h2 k hk⟩

set_option maxRecDepth 100000 in
set_option maxHeartbeats 4000000 in
theorem refBig9_any (L : List Src) (v : Value) (w : World) (hv : SrcsIn w v L) (hl : L.length ≤ 9223372036854775807) : Calls Tryz.prog 8 #[v] w (Big9Post L w) := by
  obtain ⟨a, c, rfl⟩ := hv.form
  by_cases h50 : (50 : Int) < (L.length : Int)
  · clear hv
    go_enter Tryz.func8, Tryz.ntmps8
    go_wp2
    go_ret
    exact ⟨true, rfl, rfl, fun h => by cases h⟩
  have HV := Lib.hid hv
  clear hv
  go_enter Tryz.func8, Tryz.ntmps8
  go_wp2
  go_loop [3] (fun i => ∃ k : Nat, k ≤ L.length ∧ i = .int .i64 k ∧ Hid (∀ j, (h : j < L.length) → j < k → SmallS L[j])) (fun i => L.length - (intOf i).toNat)
  case atStart => exact ⟨0, Nat.zero_le _, rfl, fun j _ h => absurd h (Nat.not_lt_zero _)⟩
  case round =>
    obtain ⟨k, hk, rfl, HS⟩ := hrel
    by_cases hlt : k < L.length
    case neg =>
      obtain rfl : k = L.length := by omega
      have HE : Hid (L.length ≤ 50 ∧ ∀ a ∈ L, SmallS a) := Lib.hid ⟨by omega, fun x hx => by obtain ⟨j, hj, rfl⟩ := List.getElem_of_mem hx; exact HS.out j hj hj⟩
      clear HS HV
      go_wp2
      go_ret
      exact ⟨false, rfl, rfl, fun _ => HE.out⟩
    obtain ⟨B, off, rfl, hcell⟩ := HV.out.at hlt
    have HNX : Hid (SmallS L[k] → ∀ j, (h : j < L.length) → j < k + 1 → SmallS L[j]) := Lib.hid fun h1 j hj hjk => by
      by_cases e : j = k
      · subst e; exact h1
      · exact HS.out j hj (by omega)
    obtain ⟨T, S, H, PA, hM⟩ := src_of L[k]
    rw [hM] at hcell HNX
    rw [srcC_M] at hcell
    have c1 := hcell 1 _ rfl
    have c2 := hcell 2 _ rfl
    have c3 := hcell 3 _ rfl
    have c6 := hcell 6 _ rfl
    have HSM : Hid (T.size ≤ 500 → S.size ≤ 500 → H.size ≤ 500 → PA.size ≤ 500 → ∀ j, (h : j < L.length) → j < k + 1 → SmallS L[j]) := Lib.hid (fun h1 h2 h3 h4 => HNX.out ⟨by simp only [srcM, lsize]; exact h1, by simp only [srcM, lsize]; exact h2, by simp only [srcM, lsize]; exact h3, by simp only [srcM, lsize]; exact h4⟩)
    clear hcell hM HNX HS
    by_cases z1 : (500 : Int) < (T.size : Int)
    · go_wp2
      go_ret
      exact ⟨true, rfl, rfl, fun h => by cases h⟩
    by_cases z2 : (500 : Int) < (S.size : Int)
    · go_wp2
      go_ret
      exact ⟨true, rfl, rfl, fun h => by cases h⟩
    by_cases z3 : (500 : Int) < (H.size : Int)
    · go_wp2
      go_ret
      exact ⟨true, rfl, rfl, fun h => by cases h⟩
    by_cases z4 : (500 : Int) < (PA.size : Int)
    · go_wp2
      go_ret
      exact ⟨true, rfl, rfl, fun h => by cases h⟩
    have HM := Lib.hid (HSM.out (by omega) (by omega) (by omega) (by omega))
    clear HSM
    go_wp2
    go_round
    case rel => exact ⟨k + 1, by omega, by go_num, HM⟩
    case measure => simp [intOf]; omega

set_option maxRecDepth 100000 in
set_option maxHeartbeats 4000000 in
/-- Two rows of the same sources are the same. -/
theorem refSame9_any (L : List Src) (v v2 : Value) (w : World) (hv : SrcsIn w v L) (hv2 : SrcsIn w v2 L) (hl : L.length ≤ 1000000) : Calls Tryz.prog 18 #[v, v2] w fun e w' => e = .returned (.bool true) ∧ Below w.heap.size w w' := by
  obtain ⟨a, c, rfl⟩ := hv.form
  obtain ⟨a2, c2, rfl⟩ := hv2.form
  have HV := Lib.hid hv
  have HV2 := Lib.hid hv2
  have g0 : ((L.length : Int) != (L.length : Int)) = false := by simp
  clear hv hv2
  go_enter Tryz.func18, Tryz.ntmps18
  go_wp2
  go_loopw [5] (fun i wr => ∃ k : Nat, k ≤ L.length ∧ i = .int .i64 k ∧ Below w.heap.size w wr) (fun i _ => L.length - (intOf i).toNat)
  case atStart => exact ⟨0, Nat.zero_le _, rfl, Below.refl _ _⟩
  case round =>
    obtain ⟨k, hk, rfl, hb⟩ := hrel
    by_cases hlt : k < L.length
    case neg =>
      obtain rfl : k = L.length := by omega
      go_wp2
      go_ret
      exact ⟨rfl, hb⟩
    obtain ⟨B, off, rfl, hcell⟩ := (HV.out.below hb).at hlt
    obtain ⟨B2, off2, rfl, hcell2⟩ := (HV2.out.below hb).at hlt
    obtain ⟨T, S, H, PA, hM⟩ := src_of L[k]
    generalize L[k].k = K at hM
    generalize L[k].w = b at hM
    generalize L[k].p = p at hM
    rw [hM] at hcell hcell2
    rw [srcC_M] at hcell hcell2
    have c0 := hcell 0 _ rfl
    have c1 := hcell 1 _ rfl
    have c2 := hcell 2 _ rfl
    have c3 := hcell 3 _ rfl
    have c4 := hcell 4 _ rfl
    have c5 := hcell 5 _ rfl
    have c6 := hcell 6 _ rfl
    have d0 := hcell2 0 _ rfl
    have d1 := hcell2 1 _ rfl
    have d2 := hcell2 2 _ rfl
    have d3 := hcell2 3 _ rfl
    have d4 := hcell2 4 _ rfl
    have d5 := hcell2 5 _ rfl
    have d6 := hcell2 6 _ rfl
    rw [Nat.add_zero] at c0 d0
    clear hcell hcell2 hM
    go_wp2
    go_quiet (fail)
    have hb2 : Below w.heap.size w (wr.drewN nq) := belowN hb nq
    go_wp2
    go_roundw
    case rel => exact ⟨k + 1, by omega, by go_num, hb2⟩
    case measure => simp [intOf]; omega

end Go.Proofs.YtmfejcmhbncchaaGreatDoor
