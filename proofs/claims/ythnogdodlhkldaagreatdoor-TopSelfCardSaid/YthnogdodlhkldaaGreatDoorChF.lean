/- Two verdicts compared: the document's. -/
import Derived.Test.YthnogdodlhkldaaGreatDoorChE
namespace Go.Proofs.YthnogdodlhkldaaGreatDoor
open Go.RowKit

theorem brkCs_at (L : List Brk) (i j : Nat) (hi : i < L.length) (hj : j < 3) : (brkCs L)[i * 3 + j]? = (brkV L[i])[j]? := by
  induction L generalizing i with
  | nil => cases hi
  | cons a L ih =>
    have e : brkCs (a :: L) = brkV a ++ brkCs L := rfl
    have hl : (brkV a).length = 3 := rfl
    rw [e]
    cases i with
    | zero =>
      rw [List.getElem?_append_left (by rw [hl]; omega), Nat.zero_mul, Nat.zero_add]
      rfl
    | succ i =>
      rw [List.getElem?_append_right (by rw [hl]; omega), hl, show (i + 1) * 3 + j - 3 = i * 3 + j by omega, ih i (by simpa using hi)]
      rfl
def BrksIn (w : World) (v : Value) (L : List Brk) : Prop :=
  ((∃ a c, v = .slice a 0 c) ∧ L = []) ∨ ∃ B off cap, v = .slice (some ⟨B, off, none⟩) L.length cap ∧ ∀ i, (h : i < L.length) → ∀ j u, (brkV L[i])[j]? = some u → w.cell? ⟨B, off + i * 3 + j, none⟩ = some u
theorem BrksIn.below {w w' : World} {v : Value} {L : List Brk} (h : BrksIn w v L) (hb : Below w.heap.size w w') : BrksIn w' v L := by
  rcases h with h | ⟨B, off, cap, h1, h2⟩
  · exact .inl h
  · exact .inr ⟨B, off, cap, h1, fun i hi j u hu => by rw [hb.cell (lt_of_cell (h2 i hi j u hu))]; exact h2 i hi j u hu⟩
theorem BrksIn.made {w : World} {v : Value} {L : List Brk} (h : BrksIn w v L) (x : Obj) : BrksIn (w.alloc x) v L := h.below ((Below.refl _ _).alloc (Nat.le_refl _) _)
theorem BrksIn.form {w : World} {v : Value} {L : List Brk} (h : BrksIn w v L) : ∃ a c, v = .slice a L.length c := by
  rcases h with ⟨⟨a, c, rfl⟩, rfl⟩ | ⟨B, off, cap, rfl, _⟩
  · exact ⟨_, _, rfl⟩
  · exact ⟨_, _, rfl⟩
theorem BrksIn.of_row {w : World} {base : Nat} {v : Value} {L : List Brk} (h : w.ownsRow base 54 3 v L.length (brkCs L)) : BrksIn w v L := by
  rcases rowForms h with ⟨h1, h2⟩ | ⟨g, cap, rfl⟩
  · exact .inl ⟨⟨_, _, h1⟩, List.length_eq_zero_iff.1 h2⟩
  · refine .inr ⟨g, 0, cap, rfl, fun i hi j u hu => ?_⟩
    have hj : j < 3 := (List.getElem?_eq_some_iff.1 hu).1
    have hl := brkCs_len L
    rw [Nat.zero_add, h.cellAt (i * 3 + j) (by omega), brkCs_at L i j hi hj, hu]
theorem BrksIn.at {w : World} {a : Option Addr} {n c : Nat} {L : List Brk} (h : BrksIn w (.slice a n c) L) {k : Nat} (hk : k < L.length) : ∃ B off, a = some ⟨B, off, none⟩ ∧ w.cell? ⟨B, off + k * 3, none⟩ = some (.int .i64 (L[k].i : Int)) ∧ w.cell? ⟨B, off + k * 3 + 1, none⟩ = some (strV L[k].n) ∧ w.cell? ⟨B, off + k * 3 + 2, none⟩ = some (.bool L[k].r) := by
  rcases h with ⟨_, h2⟩ | ⟨B, off, cap, h1, h2⟩
  · subst h2; cases hk
  · cases h1
    exact ⟨B, off, rfl, h2 k hk 0 _ rfl, h2 k hk 1 _ rfl, h2 k hk 2 _ rfl⟩
theorem BrksIn.new (W : World) (L : List Brk) (C : Array Value) (hC : C = (brkCs L).toArray) (n : Nat) (hn : n = L.length) (c : Nat) : BrksIn (W.alloc (.cells C 54)) (.slice (some ⟨W.heap.size, 0, none⟩) n c) L := by
  subst hn hC
  refine .inr ⟨_, 0, c, rfl, fun i hi j u hu => ?_⟩
  have hj : j < 3 := (List.getElem?_eq_some_iff.1 hu).1
  rw [Nat.zero_add, World.cell?_alloc_mark, List.getElem?_toArray, brkCs_at L i j hi hj, hu]

set_option maxRecDepth 100000 in
set_option maxHeartbeats 4000000 in
theorem rfSame12_any (ok : Bool) (L : List Brk) (u v : Value) (hl : L.length ≤ 1000000) (w : World) (hu : BrksIn w u L) (hv : BrksIn w v L) : Calls Tryz.prog 24 #[.agg #[.bool ok, u], .agg #[.bool ok, v]] w fun e w' => e = .returned (.bool true) ∧ Below w.heap.size w w' := by
  obtain ⟨a, c, rfl⟩ := hu.form
  obtain ⟨a2, c2, rfl⟩ := hv.form
  have x1 := VX12.made w ok (.slice a L.length c)
  have x2 := VX12.made (w.alloc (.cells #[.bool ok, .slice a L.length c] 50)) ok (.slice a2 L.length c2)
  have x1' := x1.below ((Below.refl _ _).alloc (Nat.le_refl _) (.cells #[.bool ok, .slice a2 L.length c2] 50))
  rw [World.size_alloc] at x2
  have B2 : Below w.heap.size w ((w.alloc (.cells #[.bool ok, .slice a L.length c] 50)).alloc (.cells #[.bool ok, .slice a2 L.length c2] 50)) := ((Below.refl _ _).alloc (Nat.le_refl _) _).alloc (by simp) _
  have H2 := Lib.hid (And.intro x1' (And.intro x2 (And.intro B2 (And.intro (hu.below B2) (hv.below B2)))))
  have g0 : ((L.length : Int) != (L.length : Int)) = false := by simp
  have gk : (ok != ok) = false := by simp
  clear x1 x2 x1' B2 hu hv
  go_enter Tryz.func24, Tryz.ntmps24
  go_wp2
  generalize hR : w.heap.size = R at H2 ⊢
  have HR := Lib.hid hR
  clear hR
  generalize (w.alloc (.cells #[.bool ok, .slice a L.length c] 50)).alloc (.cells #[.bool ok, .slice a2 L.length c2] 50) = w2 at H2 ⊢
  have B0 : Below w2.heap.size w2 w2 := Below.refl _ _
  go_loopw [5] (fun i wr => ∃ k : Nat, k ≤ L.length ∧ i = .int .i64 k ∧ Below w2.heap.size w2 wr) (fun i _ => L.length - (intOf i).toNat)
  case atStart => exact ⟨0, Nat.zero_le _, rfl, B0⟩
  case round =>
    clear B0
    obtain ⟨k, hk, rfl, hb⟩ := hrel
    obtain ⟨x1, x2, B2, hu, hv⟩ := H2.out
    have e0 := (x1.below hb).c1
    have e1 := (x2.below hb).c1
    have hsz : R ≤ w2.heap.size := Nat.le_of_lt x1.lt
    have Br := Lib.hid (B2.trans (hb.mono hsz))
    by_cases hlt : k < L.length
    case neg =>
      obtain rfl : k = L.length := by omega
      clear x1 x2 B2 hu hv hb
      go_wp2
      go_ret
      exact ⟨rfl, by rw [HR.out]; exact Br.out⟩
    obtain ⟨B, off, rfl, c0, c1, c2'⟩ := (hu.below hb).at hlt
    obtain ⟨B2', off2, rfl, d0, d1, d2⟩ := (hv.below hb).at hlt
    generalize L[k].i = I at c0 d0
    generalize L[k].r = r at c2' d2
    unfold strV at c1 d1
    generalize (⟨L[k].n.toArray⟩ : ByteArray) = S at c1 d1
    have Hb := Lib.hid hb
    clear x1 x2 B2 hu hv hb Br hsz
    go_wp2
    go_quiet (fail)
    have hb2 := belowN Hb.out nq
    go_wp2
    go_roundw
    case rel => exact ⟨k + 1, by omega, by go_num, hb2⟩
    case measure => simp [intOf]; omega
theorem rfSame12_hid (ok : Bool) (L : List Brk) (u v : Value) (hl : L.length ≤ 1000000) : Hid (∀ W, BrksIn W u L → BrksIn W v L → Calls Tryz.prog 24 #[.agg #[.bool ok, u], .agg #[.bool ok, v]] W fun e w' => e = .returned (.bool true) ∧ Below W.heap.size W w') := Lib.hid fun W h1_ h2_ => rfSame12_any ok L u v hl W h1_ h2_

end Go.Proofs.YthnogdodlhkldaaGreatDoor
