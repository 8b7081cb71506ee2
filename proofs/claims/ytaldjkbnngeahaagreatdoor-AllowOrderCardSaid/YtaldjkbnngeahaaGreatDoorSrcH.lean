/- The cutter in memory; what the program's cutter does: skip, takeHost, takePort; two texts held against one another, their letters' size aside. -/
import Derived.Test.YtaldjkbnngeahaaGreatDoorSrcG
namespace Go.Proofs.YtaldjkbnngeahaaGreatDoor
open Go.RowKit

/-- A cutter in a block of its own. -/
def CX (w : World) (B : Nat) (k : Int) (t s h : ByteArray) (b : Bool) (p : Int) (pa l : ByteArray) : Prop := w.heap[B]? = some (.cells #[.int .i64 k, .string t, .string s, .string h, .bool b, .int .i64 p, .string pa, .string l] 98 (0, 0))
theorem CX.lt {w : World} {B : Nat} {t s h pa l : ByteArray} {b : Bool} {k p : Int} (a : CX w B k t s h b p pa l) : B < w.heap.size := lt_of_block a
theorem CX.below {w' : World} {w : World} {B : Nat} {t s h pa l : ByteArray} {b : Bool} {k p : Int} (a : CX w B k t s h b p pa l) (hb : Below w.heap.size w w') : CX w' B k t s h b p pa l := by
  unfold CX at *
  rw [hb.block B (lt_of_block a)]; exact a
theorem CX.made (w : World) (k : Int) (t s h : ByteArray) (b : Bool) (p : Int) (pa l : ByteArray) : CX (w.alloc (.cells #[.int .i64 k, .string t, .string s, .string h, .bool b, .int .i64 p, .string pa, .string l] 98)) w.heap.size k t s h b p pa l := new_block w _
theorem CX.free {w : World} {B : Nat} {t s h pa l : ByteArray} {b : Bool} {k p : Int} (a : CX w B k t s h b p pa l) (j : Nat) : w.frozen? ⟨B, j, none⟩ = false := open_of a j
theorem CX.c0 {w : World} {B : Nat} {t s h pa l : ByteArray} {b : Bool} {k p : Int} (a : CX w B k t s h b p pa l) : w.cell? ⟨B, 0, none⟩ = some (.int .i64 k) := by rw [cell_of a]; rfl
theorem CX.c1 {w : World} {B : Nat} {t s h pa l : ByteArray} {b : Bool} {k p : Int} (a : CX w B k t s h b p pa l) : w.cell? ⟨B, 1, none⟩ = some (.string t) := by rw [cell_of a]; rfl
theorem CX.c2 {w : World} {B : Nat} {t s h pa l : ByteArray} {b : Bool} {k p : Int} (a : CX w B k t s h b p pa l) : w.cell? ⟨B, 2, none⟩ = some (.string s) := by rw [cell_of a]; rfl
theorem CX.c3 {w : World} {B : Nat} {t s h pa l : ByteArray} {b : Bool} {k p : Int} (a : CX w B k t s h b p pa l) : w.cell? ⟨B, 3, none⟩ = some (.string h) := by rw [cell_of a]; rfl
theorem CX.c4 {w : World} {B : Nat} {t s h pa l : ByteArray} {b : Bool} {k p : Int} (a : CX w B k t s h b p pa l) : w.cell? ⟨B, 4, none⟩ = some (.bool b) := by rw [cell_of a]; rfl
theorem CX.c5 {w : World} {B : Nat} {t s h pa l : ByteArray} {b : Bool} {k p : Int} (a : CX w B k t s h b p pa l) : w.cell? ⟨B, 5, none⟩ = some (.int .i64 p) := by rw [cell_of a]; rfl
theorem CX.c6 {w : World} {B : Nat} {t s h pa l : ByteArray} {b : Bool} {k p : Int} (a : CX w B k t s h b p pa l) : w.cell? ⟨B, 6, none⟩ = some (.string pa) := by rw [cell_of a]; rfl
theorem CX.c7 {w : World} {B : Nat} {t s h pa l : ByteArray} {b : Bool} {k p : Int} (a : CX w B k t s h b p pa l) : w.cell? ⟨B, 7, none⟩ = some (.string l) := by rw [cell_of a]; rfl
theorem CX.set0 {w : World} {B : Nat} {t s h pa l : ByteArray} {b : Bool} {k p : Int} (a : CX w B k t s h b p pa l) (u : Int) : CX (w.setCell ⟨B, 0, none⟩ (.int .i64 u)) B u t s h b p pa l := by unfold CX at *; rw [heap_setCell_same _ _ _ _ _ _ _ a]; rfl
theorem CX.set1 {w : World} {B : Nat} {t s h pa l : ByteArray} {b : Bool} {k p : Int} (a : CX w B k t s h b p pa l) (u : ByteArray) : CX (w.setCell ⟨B, 1, none⟩ (.string u)) B k u s h b p pa l := by unfold CX at *; rw [heap_setCell_same _ _ _ _ _ _ _ a]; rfl
theorem CX.set2 {w : World} {B : Nat} {t s h pa l : ByteArray} {b : Bool} {k p : Int} (a : CX w B k t s h b p pa l) (u : ByteArray) : CX (w.setCell ⟨B, 2, none⟩ (.string u)) B k t u h b p pa l := by unfold CX at *; rw [heap_setCell_same _ _ _ _ _ _ _ a]; rfl
theorem CX.set3 {w : World} {B : Nat} {t s h pa l : ByteArray} {b : Bool} {k p : Int} (a : CX w B k t s h b p pa l) (u : ByteArray) : CX (w.setCell ⟨B, 3, none⟩ (.string u)) B k t s u b p pa l := by unfold CX at *; rw [heap_setCell_same _ _ _ _ _ _ _ a]; rfl
theorem CX.set4 {w : World} {B : Nat} {t s h pa l : ByteArray} {b : Bool} {k p : Int} (a : CX w B k t s h b p pa l) (u : Bool) : CX (w.setCell ⟨B, 4, none⟩ (.bool u)) B k t s h u p pa l := by unfold CX at *; rw [heap_setCell_same _ _ _ _ _ _ _ a]; rfl
theorem CX.set5 {w : World} {B : Nat} {t s h pa l : ByteArray} {b : Bool} {k p : Int} (a : CX w B k t s h b p pa l) (u : Int) : CX (w.setCell ⟨B, 5, none⟩ (.int .i64 u)) B k t s h b u pa l := by unfold CX at *; rw [heap_setCell_same _ _ _ _ _ _ _ a]; rfl
theorem CX.set6 {w : World} {B : Nat} {t s h pa l : ByteArray} {b : Bool} {k p : Int} (a : CX w B k t s h b p pa l) (u : ByteArray) : CX (w.setCell ⟨B, 6, none⟩ (.string u)) B k t s h b p u l := by unfold CX at *; rw [heap_setCell_same _ _ _ _ _ _ _ a]; rfl
theorem CX.set7 {w : World} {B : Nat} {t s h pa l : ByteArray} {b : Bool} {k p : Int} (a : CX w B k t s h b p pa l) (u : ByteArray) : CX (w.setCell ⟨B, 7, none⟩ (.string u)) B k t s h b p pa u := by unfold CX at *; rw [heap_setCell_same _ _ _ _ _ _ _ a]; rfl

/-- What lies below, and is read: the library's and the project's own variables. -/
def IfaceV (v : Value) : Prop := v = .nilIface ∨ ∃ te pe, v = .iface te pe
def LowIn (B : Nat) (w : World) : Prop := (1 < B ∧ MaxIn w) ∧ (0 < B ∧ KeptIn w) ∧ (5 < B ∧ ∃ v, w.cell? ⟨5, 0, none⟩ = some v ∧ IfaceV v) ∧ (6 < B ∧ ∃ v, w.cell? ⟨6, 0, none⟩ = some v ∧ IfaceV v)
theorem LowIn.on {B : Nat} {w w' : World} (h : LowIn B w) (hb : Below B w w') : LowIn B w' := by
  obtain ⟨⟨a1, m, a2⟩, ⟨b1, b2⟩, ⟨c1, v, c2, c3⟩, ⟨d1, u, d2, d3⟩⟩ := h
  exact ⟨⟨a1, m, by rw [hb.cell (p := ⟨1, 0, none⟩) a1]; exact a2⟩, ⟨b1, fun j hj => by rw [hb.cell (p := ⟨0, j, none⟩) b1]; exact b2 j hj⟩,
    ⟨c1, v, by rw [hb.cell (p := ⟨5, 0, none⟩) c1]; exact c2, c3⟩, ⟨d1, u, by rw [hb.cell (p := ⟨6, 0, none⟩) d1]; exact d2, d3⟩⟩

set_option maxRecDepth 100000 in
theorem sameP_any (S T : ByteArray) (r : Bool) (hr : decide (low S.data.toList = low T.data.toList) = r) (hS : S.size ≤ 1099511627776) (hT : T.size ≤ 1099511627776) (w : World) : Calls Tryz.prog 136 #[.string S, .string T] w fun e w' => e = .returned (.bool r) ∧ Below w.heap.size w w' := by
  obtain ⟨S2, hS2⟩ := text_of (low S.data.toList)
  obtain ⟨T2, hT2⟩ := text_of (low T.data.toList)
  have C1 := lower_hid S S2 hS2 hS
  have C2 := lower_hid T T2 hT2 hT
  rw [← hS2, ← hT2] at hr
  have g := text_eq S2 T2
  rw [hr] at g
  clear hr hS2 hT2 hS hT
  go_enter Tryz.func136, Tryz.ntmps136
  go_wp2_with fail
  refine (C1.out _).mono ?_
  rintro e w1 ⟨rfl, b1⟩
  go_wp2_with fail
  refine (C2.out _).mono ?_
  rintro e w2 ⟨rfl, b2⟩
  go_wp2
  go_ret
  exact ⟨rfl, b1.trans (b2.mono b1.size)⟩
theorem sameP_hid (S T : ByteArray) (r : Bool) (hr : decide (low S.data.toList = low T.data.toList) = r) (hS : S.size ≤ 1099511627776) (hT : T.size ≤ 1099511627776) : Hid (∀ W, Calls Tryz.prog 136 #[.string S, .string T] W fun e w' => e = .returned (.bool r) ∧ Below W.heap.size W w') := Lib.hid fun W => sameP_any S T r hr hS hT W

set_option maxRecDepth 100000 in
set_option maxHeartbeats 1000000 in
/-- Is a word's begin next? It is taken off. -/
theorem skipC_any (T L L2 : ByteArray) (r : Bool) (hT : low T.data.toList = T.data.toList) (hr : beg L.data.toList T.data.toList = r) (hL2 : L2.data.toList = if r then L.data.toList.drop T.size else L.data.toList) (hL : L.size ≤ 1000000) (hTs : T.size ≤ 1000000) (B : Nat) (w : World) (k : Int) (t s h : ByteArray) (b : Bool) (p : Int) (pa : ByteArray) (a : CX w B k t s h b p pa L) :
    Calls Tryz.prog 137 #[.pointer (some ⟨B, 0, none⟩), .string T] w fun e w' => e = .returned (.bool r) ∧ CX w' B k t s h b p pa L2 ∧ Below B w w' := by
  have hlt := a.lt
  have c7 := a.c7
  by_cases hlen : L.size < T.size
  · have hz : (L.size : Int) < (T.size : Int) := by omega
    obtain rfl : r = false := by
      cases r
      · rfl
      · have := beg_len hr
        rw [lsize, lsize] at this
        omega
    obtain rfl : L2 = L := (text_is hL2).trans (text_is rfl).symm
    clear hr hL2 hlen
    go_enter Tryz.func137, Tryz.ntmps137
    go_wp2
    go_ret
    exact ⟨rfl, a, Below.refl _ _⟩
  have hz : ¬ (L.size : Int) < (T.size : Int) := by omega
  obtain ⟨U, hU⟩ := text_of (L.data.toList.take T.size)
  have hUs : U.size ≤ L.size := by rw [← lsize U, ← lsize L, hU, List.length_take]; omega
  have s1 := slice_to L U T.size (by omega) hU
  have CS := sameP_hid U T r (by rw [hU, hT, ← hr]; unfold beg; rw [lsize]) (by omega) (by omega)
  cases r
  · obtain rfl : L2 = L := (text_is hL2).trans (text_is rfl).symm
    clear hr hL2 hlen hU
    go_enter Tryz.func137, Tryz.ntmps137
    go_wp2_with fail
    refine (CS.out _).mono ?_
    rintro e w1 ⟨rfl, b1⟩
    have a1 := a.below b1
    go_wp2
    go_ret
    exact ⟨rfl, a1, b1.mono (Nat.le_of_lt hlt)⟩
  · have s2 := slice_from L L2 T.size (by omega) hL2
    clear hr hL2 hlen hU
    go_enter Tryz.func137, Tryz.ntmps137
    go_wp2_with fail
    refine (CS.out _).mono ?_
    rintro e w1 ⟨rfl, b1⟩
    have a1 := a.below b1
    have d7 := a1.c7
    have f7 := a1.free 7
    have a2 := a1.set7 L2
    have B2 := (b1.mono (Nat.le_of_lt hlt)).setCell (p := ⟨B, 7, none⟩) (Nat.le_refl _) (.string L2)
    clear c7
    go_wp2
    go_ret
    exact ⟨rfl, a2, B2⟩

theorem star_lit (s : ByteArray) : (s.toList == [42]) = decide (s.data.toList = [42]) := text_lit _ _
theorem nameO_wild {l : List UInt8} (h : ¬ l = [42]) : nameO l = if (Lib.trimPrefix l [42, 46]) = [] then none else some (Lib.trimPrefix l [42, 46], Lib.hasPrefix l [42, 46]) := by
  unfold nameO Lib.trimPrefix
  rw [if_neg h]
  unfold Lib.hasPrefix
  cases hp : [42, 46].isPrefixOf l
  · simp only [Bool.false_eq_true, if_false]
  · simp only [if_true]
    rfl

set_option maxRecDepth 100000 in
set_option maxHeartbeats 1000000 in
/-- A host is taken: of a name that is one. -/
theorem takeH_yes (N H : ByteArray) (wd : Bool) (hN : nameO N.data.toList = some (H.data.toList, wd)) (B : Nat) (w : World) (k : Int) (t s : ByteArray) (p : Int) (pa l : ByteArray) (a : CX w B k t s ⟨#[]⟩ false p pa l) :
    Calls Tryz.prog 143 #[.pointer (some ⟨B, 0, none⟩), .string N] w fun e w' => e = .returned (.bool true) ∧ CX w' B k t s H wd p pa l ∧ Below B w w' := by
  have hlt := a.lt
  have g := star_lit N
  by_cases h : N.data.toList = [42]
  · rw [decide_eq_true h] at g
    have e : H.data.toList = [] ∧ wd = true := by
      rw [h] at hN
      have : nameO [42] = some ([], true) := rfl
      rw [this] at hN
      injection hN with hN
      rw [Prod.mk.injEq] at hN
      exact ⟨hN.1.symm, hN.2.symm⟩
    obtain ⟨e1, rfl⟩ := e
    obtain rfl : H = ⟨#[]⟩ := text_is e1
    have c4 := a.c4
    have f4 := a.free 4
    have a2 := a.set4 true
    have B2 : Below B w (w.setCell ⟨B, 4, none⟩ (.bool true)) := ((Below.refl w.heap.size w).mono (Nat.le_of_lt hlt)).setCell (Nat.le_refl _) _
    clear h hN e1
    go_enter Tryz.func143, Tryz.ntmps143
    go_wp2
    go_ret
    exact ⟨rfl, a2, B2⟩
  · rw [decide_eq_false h] at g
    rw [nameO_wild h] at hN
    have e : Lib.trimPrefix N.data.toList [42, 46] = H.data.toList ∧ Lib.hasPrefix N.data.toList [42, 46] = wd ∧ H.data.toList ≠ [] := by
      split at hN
      · cases hN
      · rename_i hne
        injection hN with hN
        rw [Prod.mk.injEq] at hN
        exact ⟨hN.1, hN.2, by rw [← hN.1]; exact hne⟩
    obtain ⟨e1, e2, e3⟩ := e
    have C : Hid (∀ W, Calls Tryz.prog 164 #[.string N, .string ⟨#[42, 46]⟩] W fun e w' => e = .returned (.tuple #[.string H, .bool wd]) ∧ w' = W) := Lib.hid fun W => by
      have := Tryz.strings_CutPrefix N ⟨#[42, 46]⟩ W
      rw [show (⟨#[42, 46]⟩ : ByteArray).data.toList = [42, 46] from rfl, e1, e2, ← text_is (T := H) rfl] at this
      exact this
    have g2 : H.toList.isEmpty = false := by rw [text_empty]; simpa using e3
    have c3 := a.c3
    have f3 := a.free 3
    have a2 := a.set3 H
    have c4 := a2.c4
    have f4 := a2.free 4
    have a3 := a2.set4 wd
    have d3 := a3.c3
    have B3 : Below B w ((w.setCell ⟨B, 3, none⟩ (.string H)).setCell ⟨B, 4, none⟩ (.bool wd)) := (((Below.refl w.heap.size w).mono (Nat.le_of_lt hlt)).setCell (Nat.le_refl _) _).setCell (Nat.le_refl _) _
    clear h hN e1 e2 e3 a2
    go_enter Tryz.func143, Tryz.ntmps143
    go_wp2_with (go_at_call 164; (with_reducible refine (C.out _).mono ?_); rintro e w ⟨rfl, rfl⟩)
    go_ret
    exact ⟨rfl, a3, B3⟩
set_option maxRecDepth 100000 in
set_option maxHeartbeats 1000000 in
/-- .. and of one that is none. -/
theorem takeH_no (N : ByteArray) (hN : nameO N.data.toList = none) (B : Nat) (w : World) (k : Int) (t s : ByteArray) (p : Int) (pa l : ByteArray) (a : CX w B k t s ⟨#[]⟩ false p pa l) :
    Calls Tryz.prog 143 #[.pointer (some ⟨B, 0, none⟩), .string N] w fun e w' => e = .returned (.bool false) ∧ Below B w w' := by
  have hlt := a.lt
  have g := star_lit N
  have h : ¬ N.data.toList = [42] := by intro e; rw [e] at hN; cases hN
  rw [decide_eq_false h] at g
  rw [nameO_wild h] at hN
  have e1 : Lib.trimPrefix N.data.toList [42, 46] = [] := by
    split at hN
    · assumption
    · cases hN
  obtain ⟨wd, e2⟩ : ∃ wd, Lib.hasPrefix N.data.toList [42, 46] = wd := ⟨_, rfl⟩
  have C : Hid (∀ W, Calls Tryz.prog 164 #[.string N, .string ⟨#[42, 46]⟩] W fun e w' => e = .returned (.tuple #[.string ⟨#[]⟩, .bool wd]) ∧ w' = W) := Lib.hid fun W => by
    have := Tryz.strings_CutPrefix N ⟨#[42, 46]⟩ W
    rw [show (⟨#[42, 46]⟩ : ByteArray).data.toList = [42, 46] from rfl, e1, e2] at this
    exact this
  have c3 := a.c3
  have f3 := a.free 3
  have a2 := a.set3 ⟨#[]⟩
  have c4 := a2.c4
  have f4 := a2.free 4
  have a3 := a2.set4 wd
  have d3 := a3.c3
  have B3 : Below B w ((w.setCell ⟨B, 3, none⟩ (.string ⟨#[]⟩)).setCell ⟨B, 4, none⟩ (.bool wd)) := (((Below.refl w.heap.size w).mono (Nat.le_of_lt hlt)).setCell (Nat.le_refl _) _).setCell (Nat.le_refl _) _
  clear h hN e1 e2 a2
  go_enter Tryz.func143, Tryz.ntmps143
  go_wp2_with (go_at_call 164; (with_reducible refine (C.out _).mono ?_); rintro e w ⟨rfl, rfl⟩)
  go_ret
  exact ⟨rfl, B3⟩

theorem parseUint_cases : ∀ (l : List UInt8) (acc : Nat), acc ≤ 65535 → (Lib.parseUintM 65535 acc l = .ok (l.foldl (fun n b => n * 10 + (b.toNat - 48)) acc) ∧ l.all digit = true ∧ l.foldl (fun n b => n * 10 + (b.toNat - 48)) acc ≤ 65535) ∨ ((∀ u, Lib.parseUintM 65535 acc l ≠ .ok u) ∧ (l.all digit = true → 65535 < l.foldl (fun n b => n * 10 + (b.toNat - 48)) acc))
  | [], acc, h => .inl ⟨rfl, rfl, h⟩
  | c :: r, acc, h => by
    have hd : digit c = decide (48 ≤ c.toNat ∧ c.toNat ≤ 57) := rfl
    unfold Lib.parseUintM
    by_cases hc : 48 ≤ c.toNat ∧ c.toNat ≤ 57
    · rw [if_pos hc, if_neg (by omega)]
      rw [decide_eq_true hc] at hd
      by_cases hb : 65535 < acc * 10 + (c.toNat - 48)
      · rw [if_pos hb]
        refine .inr ⟨fun u e => (by cases e), fun _ => ?_⟩
        have hm : ∀ (r : List UInt8) (x : Nat), x ≤ r.foldl (fun n b => n * 10 + (b.toNat - 48)) x := by
          intro r
          induction r with
          | nil => intro x; exact Nat.le_refl _
          | cons d r ih => intro x; exact Nat.le_trans (by omega) (ih (x * 10 + (d.toNat - 48)))
        rw [List.foldl_cons]
        exact Nat.lt_of_lt_of_le hb (hm r _)
      · rw [if_neg hb, List.foldl_cons, List.all_cons, hd, Bool.true_and]
        exact parseUint_cases r _ (by omega)
    · rw [if_neg hc]
      rw [decide_eq_false hc] at hd
      refine .inr ⟨fun u e => (by cases e), fun e => ?_⟩
      rw [List.all_cons, hd] at e
      cases e
theorem portO_yes {l : List UInt8} {q : Int} (h : ¬ l = [42]) (hq : portO l = some q) : ∃ u : Nat, (u : Int) = q ∧ 0 < u ∧ u ≤ 65535 ∧ l.length ≤ 5 ∧ Lib.parseUintB 16 l = .ok u := by
  unfold portO at hq
  rw [if_neg h] at hq
  cases hn : numM l with
  | none => rw [hn] at hq; cases hq
  | some n =>
    rw [hn] at hq
    simp only [] at hq
    split at hq
    · rename_i hr
      injection hq with hq
      unfold numM at hn
      split at hn
      · cases hn
      · rename_i hc
        injection hn with hn
        have h0 : l ≠ [] := fun e => hc (.inl e)
        have h5 : l.length ≤ 5 := by rcases Nat.lt_or_ge 5 l.length with hx | hx; exact absurd (.inr (.inl hx)) hc; exact hx
        have ha : l.all digit = true := by cases hx : l.all digit; exact absurd (.inr (.inr hx)) hc; rfl
        refine ⟨n, hq, hr.1, hr.2, h5, ?_⟩
        unfold Lib.parseUintB
        rw [if_neg h0]
        unfold numV at hn
        rcases parseUint_cases l 0 (by decide) with ⟨e, _, _⟩ | ⟨_, e⟩
        · rw [hn] at e; exact e
        · have := e ha
          rw [hn] at this
          omega
    · cases hq
theorem portO_no {l : List UInt8} (h : portO l = none) (h5 : l.length ≤ 5) : (∀ u, Lib.parseUintB 16 l ≠ .ok u) ∨ Lib.parseUintB 16 l = .ok 0 := by
  unfold Lib.parseUintB
  by_cases h0 : l = []
  · rw [if_pos h0]; exact .inl fun u e => by cases e
  rw [if_neg h0]
  rcases parseUint_cases l 0 (by decide) with ⟨e, ha, hb⟩ | ⟨e, _⟩
  · right
    unfold portO at h
    split at h
    · cases h
    · have hn : numM l = some (numV l) := by
        unfold numM
        rw [if_neg]
        rintro (x | x | x)
        · exact h0 x
        · omega
        · rw [ha] at x; cases x
      rw [hn] at h
      simp only [] at h
      split at h
      · cases h
      · rename_i hr
        have hv : numV l = 0 := by
          have : numV l ≤ 65535 := hb
          omega
        show Lib.parseUintM 65535 0 l = _
        rw [e]
        exact congrArg _ hv
  · exact .inl e
/-- The library's ParseUint at a text that tells no number of 16 bits: an error. -/
theorem parseUint_no (s : ByteArray) (hs : s.size ≤ 1000000) (h : ∀ u, Lib.parseUintB 16 s.data.toList ≠ .ok u) (v3 v4 : Value) (w : World) (hv3 : w.cell? ⟨5, 0, none⟩ = some v3) (hi3 : IfaceV v3) (hv4 : w.cell? ⟨6, 0, none⟩ = some v4) (hi4 : IfaceV v4) :
    Calls Tryz.prog 165 #[.string s, .int .i64 10, .int .i64 16] w fun e w' => ∃ (n : Int) (N : Nat), e = .returned (.tuple #[.int .u64 n, .iface 164 (.pointer (some ⟨N, 0, none⟩))]) ∧ (n = 0 ∨ n = 65535) ∧ Below w.heap.size w w' := by
  rcases hx : Lib.parseUintB 16 s.data.toList with u | _ | _
  · exact absurd hx (h u)
  · exact (Any.strconv_ParseUint_10_at16_syntax Tryz.laysPu14 s (by omega) hx v3 w hv3 hi3).mono fun e w' ⟨N, h1, _, _, h2⟩ => ⟨0, N, h1, .inl rfl, h2⟩
  · exact (Any.strconv_ParseUint_10_at16_range Tryz.laysPu14 s (by omega) hx v4 w hv4 hi4).mono fun e w' ⟨N, h1, _, _, h2⟩ => ⟨65535, N, h1, .inr rfl, h2⟩

theorem below_bytes {w : World} (s : ByteArray) (t : TypeId) : Below w.heap.size w (Lib.bytesWorld w t s) := Lib.bytesWorld_below w t s

set_option maxRecDepth 100000 in
set_option maxHeartbeats 2000000 in
/-- A port is taken: of a text that is one. -/
theorem takeP_yes (T : ByteArray) (q : Int) (hq : portO T.data.toList = some q) (B : Nat) (w : World) (k : Int) (t s h : ByteArray) (b : Bool) (p : Int) (pa l : ByteArray) (a : CX w B k t s h b p pa l) :
    Calls Tryz.prog 144 #[.pointer (some ⟨B, 0, none⟩), .string T] w fun e w' => e = .returned (.bool true) ∧ CX w' B k t s h b q pa l ∧ Below B w w' := by
  have hlt := a.lt
  have g := star_lit T
  by_cases h42 : T.data.toList = [42]
  · rw [decide_eq_true h42] at g
    obtain rfl : q = -1 := by
      unfold portO at hq
      rw [if_pos h42] at hq
      injection hq with hq
      exact hq.symm
    have c5 := a.c5
    have f5 := a.free 5
    have a2 := a.set5 (-1)
    have B2 : Below B w (w.setCell ⟨B, 5, none⟩ (.int .i64 (-1))) := ((Below.refl w.heap.size w).mono (Nat.le_of_lt hlt)).setCell (Nat.le_refl _) _
    clear h42 hq
    go_enter Tryz.func144, Tryz.ntmps144
    go_wp2
    go_ret
    exact ⟨rfl, a2, B2⟩
  · rw [decide_eq_false h42] at g
    obtain ⟨u, rfl, u0, u1, h5, hu⟩ := portO_yes h42 hq
    rw [lsize] at h5
    have hz : ¬ (5 : Int) < (T.size : Int) := by omega
    have C : Hid (∀ W, Calls Tryz.prog 165 #[.string T, .int .i64 10, .int .i64 16] W fun e w' => e = .returned (.tuple #[.int .u64 (u : Int), .nilIface]) ∧ Below W.heap.size W w') := Lib.hid fun W =>
      (Tryz.strconv_ParseUint_10_at16_ok T (by omega) u hu W).mono fun e w' ⟨h1, h2⟩ => ⟨h1, by rcases h2 with h2 | h2 <;> rw [h2]; exact Below.refl _ _; exact below_bytes _ _⟩
    have u3 : (u : Int) ≤ 65535 := by omega
    have HU : Hid (decide (0 < u) = true) := Lib.hid (decide_eq_true u0)
    clear h42 hq hu h5 u0 u1
    go_enter Tryz.func144, Tryz.ntmps144
    go_wp2_with fail
    refine (C.out _).mono ?_
    rintro e w1 ⟨rfl, b1⟩
    have a1 := a.below b1
    have c5 := a1.c5
    have f5 := a1.free 5
    have a2 := a1.set5 (u : Int)
    have B2 := (b1.mono (Nat.le_of_lt hlt)).setCell (p := ⟨B, 5, none⟩) (Nat.le_refl _) (.int .i64 (u : Int))
    go_wp2
    go_ret
    exact ⟨ret_bool HU.out, a2, B2⟩

set_option maxRecDepth 100000 in
set_option maxHeartbeats 2000000 in
/-- .. and of one that is none. -/
theorem takeP_no (T : ByteArray) (hq : portO T.data.toList = none) (hT : T.size ≤ 1000000) (B : Nat) (w : World) (hlow : LowIn B w) (k : Int) (t s h : ByteArray) (b : Bool) (p : Int) (pa l : ByteArray) (a : CX w B k t s h b p pa l) :
    Calls Tryz.prog 144 #[.pointer (some ⟨B, 0, none⟩), .string T] w fun e w' => e = .returned (.bool false) ∧ Below B w w' := by
  have hlt := a.lt
  have g := star_lit T
  have h42 : ¬ T.data.toList = [42] := by intro e; rw [e] at hq; cases hq
  rw [decide_eq_false h42] at g
  by_cases h5 : 5 < T.size
  · have hz : (5 : Int) < (T.size : Int) := by omega
    clear h42 hq h5
    go_enter Tryz.func144, Tryz.ntmps144
    go_wp2
    go_ret
    exact ⟨rfl, Below.refl _ _⟩
  have hz : ¬ (5 : Int) < (T.size : Int) := by omega
  obtain ⟨_, _, ⟨_, v3, hv3, hi3⟩, ⟨_, v4, hv4, hi4⟩⟩ := hlow
  have hcase := portO_no hq (by rw [lsize]; omega)
  rcases hcase with hu | hu
  · have HC := Lib.hid (parseUint_no T hT hu v3 v4 w hv3 hi3 hv4 hi4)
    clear h42 hq h5 hu hv3 hi3 hv4 hi4
    go_enter Tryz.func144, Tryz.ntmps144
    go_wp2_with fail
    refine HC.out.mono ?_
    rintro e w1 ⟨n, N, rfl, hn, b1⟩
    have a1 := a.below b1
    have c5 := a1.c5
    have f5 := a1.free 5
    rcases hn with rfl | rfl
    · have B2 := (b1.mono (Nat.le_of_lt hlt)).setCell (p := ⟨B, 5, none⟩) (Nat.le_refl _) (.int .i64 0)
      go_wp2
      go_ret
      exact ⟨rfl, B2⟩
    · have B2 := (b1.mono (Nat.le_of_lt hlt)).setCell (p := ⟨B, 5, none⟩) (Nat.le_refl _) (.int .i64 65535)
      go_wp2
      go_ret
      exact ⟨rfl, B2⟩
  · have C : Hid (∀ W, Calls Tryz.prog 165 #[.string T, .int .i64 10, .int .i64 16] W fun e w' => e = .returned (.tuple #[.int .u64 (0 : Int), .nilIface]) ∧ Below W.heap.size W w') := Lib.hid fun W =>
      (Tryz.strconv_ParseUint_10_at16_ok T (by omega) 0 hu W).mono fun e w' ⟨h1, h2⟩ => ⟨h1, by rcases h2 with h2 | h2 <;> rw [h2]; exact Below.refl _ _; exact below_bytes _ _⟩
    clear h42 hq h5 hu hv3 hi3 hv4 hi4
    go_enter Tryz.func144, Tryz.ntmps144
    go_wp2_with fail
    refine (C.out _).mono ?_
    rintro e w1 ⟨rfl, b1⟩
    have a1 := a.below b1
    have c5 := a1.c5
    have f5 := a1.free 5
    have B2 := (b1.mono (Nat.le_of_lt hlt)).setCell (p := ⟨B, 5, none⟩) (Nat.le_refl _) (.int .i64 0)
    go_wp2
    go_ret
    exact ⟨rfl, B2⟩

end Go.Proofs.YtaldjkbnngeahaaGreatDoor
