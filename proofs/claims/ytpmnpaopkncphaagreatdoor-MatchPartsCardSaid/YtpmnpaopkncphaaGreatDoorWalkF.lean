/- What is cut off: the rest of a text behind a pointer; an address' parts. -/
import Derived.Test.YtpmnpaopkncphaaGreatDoorWalkE
namespace Go.Proofs.YtpmnpaopkncphaaGreatDoor
open Go.RowKit

theorem below_frozen {B : Nat} {a w : World} (h : Below B a w) {p : Addr} (hp : p.block < B) : w.frozen? p = a.frozen? p := by
  unfold World.frozen?
  rw [h.block _ hp]
theorem slice_to (L U : ByteArray) (k : Nat) (hk : k ≤ L.size) (h : U.data.toList = L.data.toList.take k) : ∀ W, (Instr.slice 9 (.string L) none (some (.int .i64 (k : Int))) none).run Tryz.prog W = .ok (.string U) W := fun W => by
  have e : L.extract 0 k = U := cut_run L U 0 k (by omega) hk (by simpa using h)
  have hz : ¬ L.size < k := by omega
  simp [Instr.slice, go_sem, e, hz]
theorem slice_from (L R : ByteArray) (k : Nat) (hk : k ≤ L.size) (h : R.data.toList = L.data.toList.drop k) : ∀ W, (Instr.slice 9 (.string L) (some (.int .i64 (k : Int))) none none).run Tryz.prog W = .ok (.string R) W := fun W => by
  have e : L.extract k L.size = R := cut_run L R k L.size hk (Nat.le_refl _) (by rw [h, List.take_of_length_le]; rw [List.length_drop, lsize]; exact Nat.le_refl _)
  have hz : ¬ L.size < k := by omega
  simp [Instr.slice, go_sem, e, hz]

set_option maxRecDepth 100000 in
set_option maxHeartbeats 1000000 in
theorem cut_any (C9 L U R : ByteArray) (n : Int) (k : Nat) (hI : ∀ W, Calls Tryz.prog 133 #[.string L, .string C9] W fun e w' => e = .returned (.int .i64 n) ∧ Below W.heap.size W w')
    (hn : (n = -1 ∧ k = L.size) ∨ n = (k : Int)) (hk : k ≤ L.size) (hU : U.data.toList = L.data.toList.take k) (hR : R.data.toList = L.data.toList.drop k) (_hL : L.size ≤ 1000000000) (B : Nat) (w : World) (hc : w.cell? ⟨B, 0, none⟩ = some (.string L)) (hf : w.frozen? ⟨B, 0, none⟩ = false) :
    Calls Tryz.prog 106 #[.pointer (some ⟨B, 0, none⟩), .string C9] w fun e w' => e = .returned (.string U) ∧ ∃ w1, Below w.heap.size w w1 ∧ w' = w1.setCell ⟨B, 0, none⟩ (.string R) := by
  have HI := Lib.hid hI
  have hBlt := lt_of_cell hc
  have s1 := slice_to L U k hk hU
  have s2 := slice_from L R k hk hR
  clear hI hU hR
  rcases hn with ⟨rfl, rfl⟩ | rfl
  all_goals
    go_enter Tryz.func106, Tryz.ntmps106
    go_wp2_with fail
    refine (HI.out _).mono ?_
    rintro e w1 ⟨rfl, hb⟩
    have hc1 : w1.cell? ⟨B, 0, none⟩ = some (.string L) := by rw [hb.cell hBlt]; exact hc
    have hf1 : w1.frozen? ⟨B, 0, none⟩ = false := by rw [below_frozen hb hBlt]; exact hf
    go_wp2
    go_ret
    exact ⟨rfl, w1, hb, rfl⟩

theorem cut_of (C9 L U R : ByteArray) (p : UInt8 → Bool) (hp : ∀ b, C9.data.toList.contains b = p b) (hI : ∀ W, Calls Tryz.prog 133 #[.string L, .string C9] W fun e w' => e = .returned (.int .i64 (Lib.indexAny L.data.toList C9.data.toList)) ∧ Below W.heap.size W w')
    (hU : U.data.toList = upto p L.data.toList) (hR : R.data.toList = past p L.data.toList) (hL : L.size ≤ 1000000000) (B : Nat) (w : World) (hc : w.cell? ⟨B, 0, none⟩ = some (.string L)) (hf : w.frozen? ⟨B, 0, none⟩ = false) :
    Calls Tryz.prog 106 #[.pointer (some ⟨B, 0, none⟩), .string C9] w fun e w' => e = .returned (.string U) ∧ ∃ w1, Below w.heap.size w w1 ∧ w' = w1.setCell ⟨B, 0, none⟩ (.string R) := by
  rcases index_cut C9.data.toList p hp L.data.toList with ⟨h1, h2, h3⟩ | ⟨k, h0, h1, h2, h3⟩
  · rw [h1] at hI
    refine cut_any C9 L U R (-1) L.size hI (.inl ⟨rfl, rfl⟩) (Nat.le_refl _) (by rw [hU, h2, take_all]) (by rw [hR, h3, ← lsize, List.drop_length]) hL B w hc hf
  · rw [h1] at hI
    rw [lsize] at h0
    exact cut_any C9 L U R (k : Int) k hI (.inr rfl) (by omega) (by rw [hU, h2]) (by rw [hR, h3]) hL B w hc hf
/-- What is cut off, and what is left, by one sign. -/
theorem cut_one (c : UInt8) (hc9 : c.toNat < 128) (L U R : ByteArray) (hU : U.data.toList = upto (isC c) L.data.toList) (hR : R.data.toList = past (isC c) L.data.toList) (hL : L.size ≤ 1000000000) (B : Nat) : Hid (∀ w : World, w.cell? ⟨B, 0, none⟩ = some (.string L) → w.frozen? ⟨B, 0, none⟩ = false →
    Calls Tryz.prog 106 #[.pointer (some ⟨B, 0, none⟩), .string ⟨#[c]⟩] w fun e w' => e = .returned (.string U) ∧ ∃ w1, Below w.heap.size w w1 ∧ w' = w1.setCell ⟨B, 0, none⟩ (.string R)) :=
  Lib.hid fun w hc hf => cut_of ⟨#[c]⟩ L U R (isC c) (fun b => by show [c].contains b = _; simp [isC]; rfl) (fun W => any_one L c hc9 W) hU hR hL B w hc hf
theorem cut_two (L U R : ByteArray) (hU : U.data.toList = upto isE L.data.toList) (hR : R.data.toList = past isE L.data.toList) (hL : L.size ≤ 1000000000) (B : Nat) : Hid (∀ w : World, w.cell? ⟨B, 0, none⟩ = some (.string L) → w.frozen? ⟨B, 0, none⟩ = false →
    Calls Tryz.prog 106 #[.pointer (some ⟨B, 0, none⟩), .string ⟨#[47, 63]⟩] w fun e w' => e = .returned (.string U) ∧ ∃ w1, Below w.heap.size w w1 ∧ w' = w1.setCell ⟨B, 0, none⟩ (.string R)) :=
  Lib.hid fun w hc hf => cut_of ⟨#[47, 63]⟩ L U R isE (fun b => by show [47, 63].contains b = _; simp [isE]; rfl) (fun W => any_two L hL W) hU hR hL B w hc hf

set_option maxRecDepth 100000 in
theorem skip_any (S9 L R : ByteArray) (b : Bool) (hb : S9.data.toList.isPrefixOf L.data.toList = b) (hR : R.data.toList = if b then L.data.toList.drop S9.size else L.data.toList) (B : Nat) : Hid (∀ w : World, w.cell? ⟨B, 0, none⟩ = some (.string L) → w.frozen? ⟨B, 0, none⟩ = false →
    Calls Tryz.prog 81 #[.pointer (some ⟨B, 0, none⟩), .string S9] w fun e w' => e = .returned (.bool b) ∧ w' = w.setCell ⟨B, 0, none⟩ (.string R)) := Lib.hid fun w hc hf => by
  have C : Hid (∀ W, Calls Tryz.prog 107 #[.string L, .string S9] W fun e w' => e = .returned (.tuple #[.string R, .bool b]) ∧ w' = W) := Lib.hid fun W => by
    have h := Tryz.strings_CutPrefix L S9 W
    have e1 : Lib.hasPrefix L.data.toList S9.data.toList = b := hb
    have e2 : Lib.trimPrefix L.data.toList S9.data.toList = R.data.toList := by
      unfold Lib.trimPrefix
      rw [e1, hR, lsize]
    rw [e1, e2] at h
    have e3 : (⟨R.data.toList.toArray⟩ : ByteArray) = R := (text_is rfl).symm
    rw [e3] at h
    exact h
  clear hb hR
  go_enter Tryz.func81, Tryz.ntmps81
  go_wp2_with (go_at_call 107; refine (C.out _).mono ?_; rintro e w ⟨rfl, rfl⟩)
  go_ret
  exact ⟨rfl, rfl⟩

/-! An address. -/
def AT (w : World) (B : Nat) (l : ByteArray) (o : Bool) (s h : ByteArray) (p : Int) (pa q : ByteArray) : Prop := w.heap[B]? = some (.cells #[.string l, .bool o, .string s, .string h, .int .i64 p, .string pa, .string q] 74 (0, 0))
theorem AT.lt {w : World} {B : Nat} {l s h pa q : ByteArray} {o : Bool} {p : Int} (a : AT w B l o s h p pa q) : B < w.heap.size := lt_of_block a
theorem AT.below {w w' : World} {B : Nat} {l s h pa q : ByteArray} {o : Bool} {p : Int} (a : AT w B l o s h p pa q) (hb : Below w.heap.size w w') : AT w' B l o s h p pa q := by
  unfold AT at *
  rw [hb.block B (lt_of_block a)]; exact a
theorem AT.c0 {w : World} {B : Nat} {l s h pa q : ByteArray} {o : Bool} {p : Int} (a : AT w B l o s h p pa q) : w.cell? ⟨B, 0, none⟩ = some (.string l) := by rw [cell_of a]; rfl
theorem AT.c1 {w : World} {B : Nat} {l s h pa q : ByteArray} {o : Bool} {p : Int} (a : AT w B l o s h p pa q) : w.cell? ⟨B, 1, none⟩ = some (.bool o) := by rw [cell_of a]; rfl
theorem AT.c2 {w : World} {B : Nat} {l s h pa q : ByteArray} {o : Bool} {p : Int} (a : AT w B l o s h p pa q) : w.cell? ⟨B, 2, none⟩ = some (.string s) := by rw [cell_of a]; rfl
theorem AT.c3 {w : World} {B : Nat} {l s h pa q : ByteArray} {o : Bool} {p : Int} (a : AT w B l o s h p pa q) : w.cell? ⟨B, 3, none⟩ = some (.string h) := by rw [cell_of a]; rfl
theorem AT.c4 {w : World} {B : Nat} {l s h pa q : ByteArray} {o : Bool} {p : Int} (a : AT w B l o s h p pa q) : w.cell? ⟨B, 4, none⟩ = some (.int .i64 p) := by rw [cell_of a]; rfl
theorem AT.c5 {w : World} {B : Nat} {l s h pa q : ByteArray} {o : Bool} {p : Int} (a : AT w B l o s h p pa q) : w.cell? ⟨B, 5, none⟩ = some (.string pa) := by rw [cell_of a]; rfl
theorem AT.c6 {w : World} {B : Nat} {l s h pa q : ByteArray} {o : Bool} {p : Int} (a : AT w B l o s h p pa q) : w.cell? ⟨B, 6, none⟩ = some (.string q) := by rw [cell_of a]; rfl
theorem AT.free {w : World} {B : Nat} {l s h pa q : ByteArray} {o : Bool} {p : Int} (a : AT w B l o s h p pa q) (j : Nat) : w.frozen? ⟨B, j, none⟩ = false := open_of a j
theorem AT.set0 {w : World} {B : Nat} {l s h pa q : ByteArray} {o : Bool} {p : Int} (a : AT w B l o s h p pa q) (u : ByteArray) : AT (w.setCell ⟨B, 0, none⟩ (.string u)) B u o s h p pa q := by unfold AT at *; rw [heap_setCell_same _ _ _ _ _ _ _ a]; rfl
theorem AT.set1 {w : World} {B : Nat} {l s h pa q : ByteArray} {o : Bool} {p : Int} (a : AT w B l o s h p pa q) (u : Bool) : AT (w.setCell ⟨B, 1, none⟩ (.bool u)) B l u s h p pa q := by unfold AT at *; rw [heap_setCell_same _ _ _ _ _ _ _ a]; rfl
theorem AT.set2 {w : World} {B : Nat} {l s h pa q : ByteArray} {o : Bool} {p : Int} (a : AT w B l o s h p pa q) (u : ByteArray) : AT (w.setCell ⟨B, 2, none⟩ (.string u)) B l o u h p pa q := by unfold AT at *; rw [heap_setCell_same _ _ _ _ _ _ _ a]; rfl
theorem AT.set3 {w : World} {B : Nat} {l s h pa q : ByteArray} {o : Bool} {p : Int} (a : AT w B l o s h p pa q) (u : ByteArray) : AT (w.setCell ⟨B, 3, none⟩ (.string u)) B l o s u p pa q := by unfold AT at *; rw [heap_setCell_same _ _ _ _ _ _ _ a]; rfl
theorem AT.set4 {w : World} {B : Nat} {l s h pa q : ByteArray} {o : Bool} {p : Int} (a : AT w B l o s h p pa q) (u : Int) : AT (w.setCell ⟨B, 4, none⟩ (.int .i64 u)) B l o s h u pa q := by unfold AT at *; rw [heap_setCell_same _ _ _ _ _ _ _ a]; rfl
theorem AT.set5 {w : World} {B : Nat} {l s h pa q : ByteArray} {o : Bool} {p : Int} (a : AT w B l o s h p pa q) (u : ByteArray) : AT (w.setCell ⟨B, 5, none⟩ (.string u)) B l o s h p u q := by unfold AT at *; rw [heap_setCell_same _ _ _ _ _ _ _ a]; rfl
theorem AT.set6 {w : World} {B : Nat} {l s h pa q : ByteArray} {o : Bool} {p : Int} (a : AT w B l o s h p pa q) (u : ByteArray) : AT (w.setCell ⟨B, 6, none⟩ (.string u)) B l o s h p pa u := by unfold AT at *; rw [heap_setCell_same _ _ _ _ _ _ _ a]; rfl
theorem size_setCell (w : World) (p : Addr) (u : Value) : (w.setCell p u).heap.size = w.heap.size := by
  simp only [World.setCell, Array.size_modify]

set_option maxRecDepth 100000 in
set_option maxHeartbeats 1000000 in
/-- The scheme is cut off; is a colon next? -/
theorem cutScheme_any (L sc L2 L3 : ByteArray) (b : Bool) (hsc : sc.data.toList = low (upto (isC 58) L.data.toList)) (hL2 : L2.data.toList = past (isC 58) L.data.toList) (hb : (![58].isPrefixOf L2.data.toList) = !b) (hL3 : L3.data.toList = if b then L2.data.toList.drop 1 else L2.data.toList) (hL : L.size ≤ 1000000000) (B : Nat) (w : World) (o : Bool) (s h : ByteArray) (p : Int) (pa q : ByteArray) (a : AT w B L o s h p pa q) :
    Calls Tryz.prog 79 #[.pointer (some ⟨B, 0, none⟩)] w fun e w' => e = .returned (.bool b) ∧ AT w' B L3 o sc h p pa q ∧ Below B w w' := by
  obtain ⟨U, hU⟩ := text_of (upto (isC 58) L.data.toList)
  have hUs : U.size ≤ L.size := by rw [← lsize U, ← lsize L, hU]; have := upto_length (isC 58) L.data.toList; omega
  have C1 := cut_one 58 (by decide) L U L2 hU hL2 hL B
  have C2 := lower_hid U sc (by rw [hsc, hU]) (by omega)
  have C3 := skip_any ⟨#[58]⟩ L2 L3 b (by simpa using hb) hL3 B
  have hlt := a.lt
  clear hsc hL2 hb hL3 hU
  go_enter Tryz.func79, Tryz.ntmps79
  go_wp2_with fail
  refine (C1.out _ a.c0 (a.free 0)).mono ?_
  rintro e w2 ⟨rfl, w1, b1, rfl⟩
  have a1 := (a.below b1).set0 L2
  have B1 : Below B w (w1.setCell ⟨B, 0, none⟩ (.string L2)) := (b1.mono (Nat.le_of_lt hlt)).setCell (Nat.le_refl _) _
  generalize w1.setCell ⟨B, 0, none⟩ (.string L2) = w2 at a1 B1 ⊢
  clear b1 a
  go_wp2_with fail
  refine (C2.out _).mono ?_
  rintro e w3 ⟨rfl, b3⟩
  have a3 := a1.below b3
  have B3 := B1.trans (b3.mono (Nat.le_of_lt a1.lt))
  clear a1 B1 b3
  have c2 := a3.c2
  have f2 := a3.free 2
  have a4 := a3.set2 sc
  have B4 := B3.setCell (p := ⟨B, 2, none⟩) (Nat.le_refl _) (.string sc)
  go_wp2_with fail
  generalize w3.setCell ⟨B, 2, none⟩ (.string sc) = w4 at a4 B4 ⊢
  clear c2 f2 a3 B3
  refine (C3.out _ a4.c0 (a4.free 0)).mono ?_
  rintro e w5 ⟨rfl, rfl⟩
  go_wp2
  go_ret
  exact ⟨rfl, a4.set0 L3, B4.setCell (Nat.le_refl _) _⟩

set_option maxRecDepth 100000 in
set_option maxHeartbeats 1000000 in
theorem cutOpaque_any (L pa2 : ByteArray) (hpa : pa2.data.toList = trim L.data.toList) (hL : L.size ≤ 1000000000) (B : Nat) (w : World) (o : Bool) (s h : ByteArray) (p : Int) (pa q : ByteArray) (a : AT w B L o s h p pa q) :
    Calls Tryz.prog 80 #[.pointer (some ⟨B, 0, none⟩)] w fun e w' => e = .returned (.tuple #[]) ∧ AT w' B L true s h p pa2 q ∧ Below B w w' := by
  have C := trim_hid L pa2 hpa (by omega)
  have hlt := a.lt
  have c1 := a.c1
  have f1 := a.free 1
  have a1 := a.set1 true
  have c0 := a1.c0
  have B1 : Below B w (w.setCell ⟨B, 1, none⟩ (.bool true)) := ((Below.refl w.heap.size w).mono (Nat.le_of_lt hlt)).setCell (Nat.le_refl _) _
  clear hpa
  go_enter Tryz.func80, Tryz.ntmps80
  go_wp2_with fail
  generalize w.setCell ⟨B, 1, none⟩ (.bool true) = w1 at a1 B1 ⊢
  refine (C.out _).mono ?_
  rintro e w3 ⟨rfl, b3⟩
  have a3 := a1.below b3
  have B3 := B1.trans (b3.mono (Nat.le_of_lt a1.lt))
  have c5 := a3.c5
  have f5 := a3.free 5
  go_wp2
  go_end0
  exact ⟨rfl, a3.set5 pa2, B3.setCell (Nat.le_refl _) _⟩

set_option maxRecDepth 100000 in
set_option maxHeartbeats 1000000 in
theorem cutPath_any (L pa1 pa2 q2 : ByteArray) (hpa1 : pa1.data.toList = if upto (isC 63) L.data.toList = [] then [47] else upto (isC 63) L.data.toList) (hpa : pa2.data.toList = cleanP pa1.data.toList) (hq : q2.data.toList = past (isC 63) L.data.toList) (hL : L.size ≤ 100000) (B : Nat) (w : World) (hmx : MaxIn w) (o : Bool) (s h : ByteArray) (p : Int) (pa q : ByteArray) (a : AT w B L o s h p pa q) (hB : 1 < B) :
    Calls Tryz.prog 83 #[.pointer (some ⟨B, 0, none⟩)] w fun e w' => e = .returned (.tuple #[]) ∧ AT w' B q2 o s h p pa2 q2 ∧ Below B w w' := by
  obtain ⟨U, hU⟩ := text_of (upto (isC 63) L.data.toList)
  have hUs : U.size ≤ L.size := by rw [← lsize U, ← lsize L, hU]; have := upto_length (isC 63) L.data.toList; omega
  have C1 := cut_one 63 (by decide) L U q2 hU hq (by omega) B
  have hps : pa1.size ≤ 100001 := by
    rw [← lsize, hpa1]
    split
    · exact (by decide : 1 ≤ 100001)
    · rw [← hU, lsize]; omega
  have C2 := clean_hid pa1 (by omega) pa2 hpa
  have hlt := a.lt
  rw [← hU] at hpa1
  have hbr : (U.toList.isEmpty = true ∧ pa1 = ⟨#[47]⟩) ∨ (U.toList.isEmpty = false ∧ pa1 = U) := by
    by_cases h0 : U.data.toList = []
    · rw [if_pos h0] at hpa1
      exact .inl ⟨by rw [text_empty, h0]; rfl, text_is hpa1⟩
    · rw [if_neg h0] at hpa1
      refine .inr ⟨?_, ?_⟩
      · rw [text_empty]
        cases hh : U.data.toList with
        | nil => exact absurd hh h0
        | cons => rfl
      · have := text_is hpa1
        rw [this]
  clear hpa1 hpa hq hU
  have go2 : ∀ w1 : World, Below w.heap.size w w1 → AT (w1.setCell ⟨B, 0, none⟩ (.string q2)) B q2 o s h p pa q ∧ Below B w (w1.setCell ⟨B, 0, none⟩ (.string q2)) ∧ MaxIn (w1.setCell ⟨B, 0, none⟩ (.string q2)) := fun w1 b1 => by
    refine ⟨(a.below b1).set0 q2, (b1.mono (Nat.le_of_lt hlt)).setCell (Nat.le_refl _) _, ?_⟩
    obtain ⟨m, hm⟩ := hmx.below b1
    exact ⟨m, by rw [World.cell?_setCell_other _ _ _ _ (by intro h; cases h; omega)]; exact hm⟩
  rcases hbr with ⟨g, rfl⟩ | ⟨g, rfl⟩
  all_goals
    go_enter Tryz.func83, Tryz.ntmps83
    go_wp2_with fail
    refine (C1.out _ a.c0 (a.free 0)).mono ?_
    rintro e w2 ⟨rfl, w1, b1, rfl⟩
    obtain ⟨a1, B1, m1⟩ := go2 w1 b1
    generalize w1.setCell ⟨B, 0, none⟩ (.string q2) = w2 at a1 B1 m1 ⊢
    clear b1
    go_wp2_with fail
    refine (C2.out _ m1).mono ?_
    rintro e w3 ⟨rfl, b3⟩
    have a3 := a1.below b3
    have B3 := B1.trans (b3.mono (Nat.le_of_lt a1.lt))
    have c5 := a3.c5
    have f5 := a3.free 5
    have a4 := a3.set5 pa2
    have B4 := B3.setCell (p := ⟨B, 5, none⟩) (Nat.le_refl _) (.string pa2)
    have c0 := a4.c0
    have c6 := a4.c6
    have f6 := a4.free 6
    go_wp2
    go_end0
    exact ⟨rfl, a4.set6 q2, B4.setCell (Nat.le_refl _) _⟩

theorem AT.other {w : World} {B P : Nat} {l s h pa q : ByteArray} {o : Bool} {p : Int} (a : AT w B l o s h p pa q) (hP : P ≠ B) (j : Nat) (u : Value) : AT (w.setCell ⟨P, j, none⟩ u) B l o s h p pa q := by
  unfold AT at *
  rw [← a]
  simp only [World.setCell, Array.getElem?_modify]
  rw [if_neg hP]
theorem AT.new {w : World} {B : Nat} {l s h pa q : ByteArray} {o : Bool} {p : Int} (a : AT w B l o s h p pa q) (x : Obj) : AT (w.alloc x) B l o s h p pa q :=
  a.below ((Below.refl _ _).alloc (Nat.le_refl _) _)
theorem low_size {U T : ByteArray} (h : T.data.toList = low U.data.toList) : T.size = U.size := by rw [← lsize, h, low_length, lsize]

/-- A text behind a pointer. -/
def CL (w : World) (P : Nat) (x : ByteArray) : Prop := w.cell? ⟨P, 0, none⟩ = some (.string x) ∧ w.frozen? ⟨P, 0, none⟩ = false
theorem CL.lt {w : World} {P : Nat} {x : ByteArray} (c : CL w P x) : P < w.heap.size := lt_of_cell c.1
theorem CL.below {w w' : World} {P : Nat} {x : ByteArray} (c : CL w P x) (hb : Below w.heap.size w w') : CL w' P x := ⟨by rw [hb.cell c.lt]; exact c.1, by rw [below_frozen hb c.lt]; exact c.2⟩
theorem CL.set {w : World} {P : Nat} {x : ByteArray} (c : CL w P x) (y : ByteArray) : CL (w.setCell ⟨P, 0, none⟩ (.string y)) P y := ⟨World.cell?_setCell_same _ _ _ c.1, by rw [World.frozen?_setCell]; exact c.2⟩
theorem CL.other {w : World} {P : Nat} {x : ByteArray} (c : CL w P x) {B : Nat} (h : P ≠ B) (j : Nat) (u : Value) : CL (w.setCell ⟨B, j, none⟩ u) P x := ⟨by rw [World.cell?_setCell_other _ _ _ _ (by intro e; cases e; exact h rfl)]; exact c.1, by rw [World.frozen?_setCell]; exact c.2⟩
theorem CL.made (w : World) (x : ByteArray) (t : TypeId) : CL (w.alloc (.cells #[.string x] t)) w.heap.size x := ⟨by rw [cell_of (new_block w _)]; rfl, open_of (new_block w _) 0⟩

set_option maxRecDepth 100000 in
set_option maxHeartbeats 2000000 in
/-- The host, and the port behind it. -/
theorem cutHost_any (L LF ho : ByteArray) (n : Nat) (ok : Bool) (hLF : LF.data.toList = past isE L.data.toList) (hho : ho.data.toList = low (upto (isC 58) (upto isE L.data.toList)))
    (d : Nat) (s : ByteArray) (hd : dfl s.data.toList = d)
    (hnum : (past (isC 58) (upto isE L.data.toList) = [] ∧ n = 0 ∧ ok = true) ∨ ∃ c ds, past (isC 58) (upto isE L.data.toList) = c :: ds ∧ numP ds = (n, ok))
    (hL : L.size ≤ 100000) (B : Nat) (w : World) (o : Bool) (h : ByteArray) (pa q : ByteArray) (a : AT w B L o s h 0 pa q) (_hd0 : d ≠ 0) (pr : Int) (hpr : pr = if n = d then 0 else (n : Int)) :
    Calls Tryz.prog 82 #[.pointer (some ⟨B, 0, none⟩)] w fun e w' => e = .returned (.bool ok) ∧ AT w' B LF o s ho pr pa q ∧ Below B w w' := by
  obtain ⟨PL, hPL⟩ := text_of (upto isE L.data.toList)
  have hPLs : PL.size ≤ L.size := by rw [← lsize PL, ← lsize L, hPL]; have := upto_length isE L.data.toList; omega
  rw [← hPL] at hho hnum
  obtain ⟨U, hU⟩ := text_of (upto (isC 58) PL.data.toList)
  have hUs : U.size ≤ PL.size := by rw [← lsize U, ← lsize PL, hU]; have := upto_length (isC 58) PL.data.toList; omega
  obtain ⟨NU, hNU⟩ := text_of (past (isC 58) PL.data.toList)
  have hNUs : NU.size ≤ PL.size := by rw [← lsize NU, ← lsize PL, hNU]; have := upto_length (isC 58) PL.data.toList; omega
  have hlt := a.lt
  have C1 := cut_two L PL LF hPL hLF (by omega) B
  have C2 := fun P => cut_one 58 (by decide) PL U NU hU hNU (by omega) P
  have C3 := lower_hid U ho (by rw [hho, hU]) (by omega)
  have C6 := default_hid s d hd
  have HH : Hid (past (isC 58) PL.data.toList = NU.data.toList) := Lib.hid hNU.symm
  rw [← hNU] at hnum
  have hnum2 : (∃ R : ByteArray, NU.data.toList = [] ∧ R.data.toList = [] ∧ n = 0 ∧ ok = true) ∨ ∃ R : ByteArray, NU.data.toList = 58 :: R.data.toList ∧ numP R.data.toList = (n, ok) := by
    rcases hnum with ⟨h1, h2, h3⟩ | ⟨c, ds, h1, h2⟩
    · exact .inl ⟨⟨#[]⟩, h1, rfl, h2, h3⟩
    · refine .inr ⟨⟨ds.toArray⟩, ?_, h2⟩
      have := past_head (isC 58) PL.data.toList c ds (by rw [← hNU]; exact h1)
      rw [h1]
      have e : c = 58 := by simpa [isC] using this
      rw [e]
  have go1 : ∀ w1 : World, Below w.heap.size w w1 → AT (w1.setCell ⟨B, 0, none⟩ (.string LF)) B LF o s h 0 pa q ∧ Below B w (w1.setCell ⟨B, 0, none⟩ (.string LF)) := fun w1 b1 => ⟨(a.below b1).set0 LF, (b1.mono (Nat.le_of_lt hlt)).setCell (Nat.le_refl _) _⟩
  clear hho hLF hPL hU hNU hnum HH
  rcases hnum2 with ⟨R, h1, h2, rfl, rfl⟩ | ⟨R, h1, h2⟩
  · have C4 := fun P => skip_any ⟨#[58]⟩ NU R false (by rw [h1]; rfl) (by rw [h1, h2]; rfl) P
    obtain rfl : pr = 0 := by rw [hpr]; split <;> rfl
    clear h1 h2 hpr
    go_enter Tryz.func82, Tryz.ntmps82
    go_wp2_with fail
    refine (C1.out _ a.c0 (a.free 0)).mono ?_
    rintro e w2 ⟨rfl, w1, b1, rfl⟩
    obtain ⟨a2, B2⟩ := go1 w1 b1
    generalize w1.setCell ⟨B, 0, none⟩ (.string LF) = w2 at a2 B2 ⊢
    clear b1
    go_wp2_with fail
    have hPB : w2.heap.size ≠ B := by have := a2.lt; omega
    have hBP : B ≤ w2.heap.size := Nat.le_of_lt a2.lt
    have k2 := CL.made w2 PL 72
    have a3 := a2.new (.cells #[.string PL] 72)
    have B3 : Below B w (w2.alloc (.cells #[.string PL] 72)) := B2.trans (((Below.refl w2.heap.size w2).alloc (Nat.le_refl _) _).mono hBP)
    generalize w2.heap.size = P at hPB hBP k2 ⊢
    generalize w2.alloc (.cells #[.string PL] 72) = w3 at a3 B3 k2 ⊢
    clear B2
    refine ((C2 P).out _ k2.1 k2.2).mono ?_
    rintro e w5 ⟨rfl, w4, b4, rfl⟩
    have k5 := (k2.below b4).set NU
    have a5 := (a3.below b4).other hPB 0 (.string NU)
    have B5 : Below B w (w4.setCell ⟨P, 0, none⟩ (.string NU)) := B3.trans ((b4.mono (Nat.le_of_lt a3.lt)).setCell hBP _)
    generalize w4.setCell ⟨P, 0, none⟩ (.string NU) = w5 at a5 B5 k5 ⊢
    clear b4 a3 B3 k2
    go_wp2_with fail
    refine (C3.out _).mono ?_
    rintro e w6 ⟨rfl, b6⟩
    have k6 := k5.below b6
    have a6 := a5.below b6
    have B6 := B5.trans (b6.mono (Nat.le_of_lt a5.lt))
    have c3 := a6.c3
    have f3 := a6.free 3
    have k7 := k6.other hPB 3 (.string ho)
    have a7 := a6.set3 ho
    have B7 := B6.setCell (p := ⟨B, 3, none⟩) (Nat.le_refl _) (.string ho)
    clear b6 a5 B5 k5
    go_wp2_with fail
    generalize w6.setCell ⟨B, 3, none⟩ (.string ho) = w7 at a7 B7 k7 ⊢
    clear a6 B6 k6 c3 f3
    refine ((C4 P).out _ k7.1 k7.2).mono ?_
    rintro e w8 ⟨rfl, rfl⟩
    have k8 := k7.set R
    have a8 := a7.other hPB 0 (.string R)
    have B8 := B7.setCell (p := ⟨P, 0, none⟩) hBP (.string R)
    generalize w7.setCell ⟨P, 0, none⟩ (.string R) = w8 at a8 B8 k8 ⊢
    clear a7 B7 k7
    go_wp2
    go_ret
    exact ⟨rfl, a8, B8⟩
  · have C4 := fun P => skip_any ⟨#[58]⟩ NU R true (by rw [h1]; rfl) (by rw [h1]; rfl) P
    have hRs : R.size ≤ NU.size := by rw [← lsize R, ← lsize NU, h1]; simp
    have C5 := number_hid R n ok h2 (by omega)
    have HN : Hid (numP R.data.toList = (n, ok)) := Lib.hid h2
    have HP : Hid ((n = d → pr = 0) ∧ (n ≠ d → pr = (n : Int))) := Lib.hid ⟨fun h => by rw [hpr, if_pos h], fun h => by rw [hpr, if_neg h]⟩
    clear h1 h2 hpr
    go_enter Tryz.func82, Tryz.ntmps82
    go_wp2_with fail
    refine (C1.out _ a.c0 (a.free 0)).mono ?_
    rintro e w2 ⟨rfl, w1, b1, rfl⟩
    obtain ⟨a2, B2⟩ := go1 w1 b1
    generalize w1.setCell ⟨B, 0, none⟩ (.string LF) = w2 at a2 B2 ⊢
    clear b1
    go_wp2_with fail
    have hPB : w2.heap.size ≠ B := by have := a2.lt; omega
    have hBP : B ≤ w2.heap.size := Nat.le_of_lt a2.lt
    have k2 := CL.made w2 PL 72
    have a3 := a2.new (.cells #[.string PL] 72)
    have B3 : Below B w (w2.alloc (.cells #[.string PL] 72)) := B2.trans (((Below.refl w2.heap.size w2).alloc (Nat.le_refl _) _).mono hBP)
    generalize w2.heap.size = P at hPB hBP k2 ⊢
    generalize w2.alloc (.cells #[.string PL] 72) = w3 at a3 B3 k2 ⊢
    clear B2
    refine ((C2 P).out _ k2.1 k2.2).mono ?_
    rintro e w5 ⟨rfl, w4, b4, rfl⟩
    have k5 := (k2.below b4).set NU
    have a5 := (a3.below b4).other hPB 0 (.string NU)
    have B5 : Below B w (w4.setCell ⟨P, 0, none⟩ (.string NU)) := B3.trans ((b4.mono (Nat.le_of_lt a3.lt)).setCell hBP _)
    generalize w4.setCell ⟨P, 0, none⟩ (.string NU) = w5 at a5 B5 k5 ⊢
    clear b4 a3 B3 k2
    go_wp2_with fail
    refine (C3.out _).mono ?_
    rintro e w6 ⟨rfl, b6⟩
    have k6 := k5.below b6
    have a6 := a5.below b6
    have B6 := B5.trans (b6.mono (Nat.le_of_lt a5.lt))
    have c3 := a6.c3
    have f3 := a6.free 3
    have k7 := k6.other hPB 3 (.string ho)
    have a7 := a6.set3 ho
    have B7 := B6.setCell (p := ⟨B, 3, none⟩) (Nat.le_refl _) (.string ho)
    clear b6 a5 B5 k5
    go_wp2_with fail
    generalize w6.setCell ⟨B, 3, none⟩ (.string ho) = w7 at a7 B7 k7 ⊢
    clear a6 B6 k6 c3 f3
    refine ((C4 P).out _ k7.1 k7.2).mono ?_
    rintro e w8 ⟨rfl, rfl⟩
    have k8 := k7.set R
    have a8 := a7.other hPB 0 (.string R)
    have B8 := B7.setCell (p := ⟨P, 0, none⟩) hBP (.string R)
    generalize w7.setCell ⟨P, 0, none⟩ (.string R) = w8 at a8 B8 k8 ⊢
    clear a7 B7 k7
    have k8c := k8.1
    go_wp2_with fail
    refine (C5.out _).mono ?_
    rintro e w8 ⟨rfl, rfl⟩
    have c2 := a8.c2
    go_wp2_with fail
    refine (C6.out _).mono ?_
    rintro e w8 ⟨rfl, rfl⟩
    have c4 := a8.c4
    have f4 := a8.free 4
    by_cases hnd : n = d
    · have g : ((n : Int) != (d : Int)) = false := by rw [bne_eq_false_iff_eq]; omega
      have e := Lib.hid (HP.out.1 hnd)
      clear hnd
      go_wp2
      go_ret
      exact ⟨rfl, by rw [e.out]; exact a8, B8⟩
    · have g : ((n : Int) != (d : Int)) = true := by rw [bne_iff_ne]; omega
      have e := Lib.hid (HP.out.2 hnd)
      clear hnd
      go_wp2
      go_ret
      exact ⟨rfl, by rw [e.out]; exact a8.set4 n, B8.setCell (Nat.le_refl _) _⟩

end Go.Proofs.YtpmnpaopkncphaaGreatDoor
