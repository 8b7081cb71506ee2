/- What the program's cutter does: cutScheme, cutPlace. What the program's cutter does: cutPlace, whole; cutKept. What the program's cutter does: cutKept. What the program's cutter does: cutQuoted, cut. -/
import Derived.Test.YtaldjkbnngeahaaGreatDoorSrcH
import Derived.Test.YtaldjkbnngeahaaGreatDoorClass
namespace Go.Proofs.YtaldjkbnngeahaaGreatDoor
open Go.RowKit

theorem index_sp3 (l : List UInt8) : (sp3 l = none ∧ Lib.index l [58, 47, 47] = -1) ∨ ∃ a r, sp3 l = some (a, r) ∧ Lib.index l [58, 47, 47] = (a.length : Int) ∧ l = a ++ ([58, 47, 47] ++ r) := by
  induction l with
  | nil => exact .inl ⟨rfl, rfl⟩
  | cons b l ih =>
    unfold sp3 Lib.index
    by_cases hp : [58, 47, 47].isPrefixOf (b :: l) = true
    · rw [if_pos hp, if_pos hp]
      obtain ⟨r, hr⟩ := List.isPrefixOf_iff_prefix.1 hp
      refine .inr ⟨[], r, ?_, rfl, hr.symm⟩
      rw [← hr]; rfl
    · rw [if_neg hp, if_neg hp]
      rcases ih with ⟨h1, h2⟩ | ⟨a, r, h1, h2, h3⟩
      · rw [h1, h2]; exact .inl ⟨rfl, rfl⟩
      · rw [h1, h2]
        refine .inr ⟨b :: a, r, rfl, ?_, by rw [h3]; rfl⟩
        rw [if_neg (by simp)]
        simp
theorem cut_sp3 (l : List UInt8) : Lib.cut l [58, 47, 47] = match sp3 l with | some (a, r) => (a, r, true) | none => (l, [], false) := by
  unfold Lib.cut
  rcases index_sp3 l with ⟨h1, h2⟩ | ⟨a, r, h1, h2, h3⟩
  · rw [h1, h2]; rfl
  · rw [h1, h2, if_pos (by omega)]
    rw [h3]
    simp
theorem cut_58 (l : List UInt8) : Lib.cut l [58] = (upto (isC 58) l, (past (isC 58) l).drop 1, !(past (isC 58) l).isEmpty) := by
  unfold Lib.cut
  rcases index_one l 58 with ⟨h1, h2⟩ | ⟨a, r, h1, h2, h3⟩
  · obtain ⟨e1, e2⟩ := past_none (isC 58) l h2
    rw [h1, e1, e2]; rfl
  · obtain ⟨e1, e2⟩ := past_hit (isC 58) a 58 r h2 (by decide)
    rw [h3, if_pos (by omega), h1, e1, e2]
    simp
theorem byte_cut (c : UInt8) (l : List UInt8) : (Lib.indexByte l c = -1 ∧ upto (isC c) l = l ∧ past (isC c) l = []) ∨ ∃ k : Nat, k < l.length ∧ Lib.indexByte l c = k ∧ upto (isC c) l = l.take k ∧ past (isC c) l = l.drop k := by
  induction l with
  | nil => exact .inl ⟨rfl, rfl, rfl⟩
  | cons b l ih =>
    unfold Lib.indexByte
    cases hb : (b == c)
    · obtain ⟨e1, e2⟩ := upto_step (p := isC c) l (c := b) hb
      rw [e1, e2]
      simp only [Bool.false_eq_true, if_false]
      rcases ih with ⟨h1, h2, h3⟩ | ⟨k, h0, h1, h2, h3⟩
      · refine .inl ⟨?_, by rw [h2], h3⟩
        rw [h1]; rfl
      · refine .inr ⟨k + 1, by simp; omega, ?_, by rw [h2]; rfl, by rw [h3]; rfl⟩
        rw [h1, if_neg (by simp)]
        simp
    · obtain ⟨e1, e2⟩ := upto_stop (p := isC c) l (c := b) hb
      exact .inr ⟨0, by simp, by simp, by rw [e1]; rfl, by rw [e2]; rfl⟩
theorem below_drewN {B : Nat} {w : World} (n : Nat) : Below B w (w.drewN n) := belowN (Below.refl B w) n
theorem cutL_hid (L S A R : ByteArray) (r : Bool) (h : Lib.cut L.data.toList S.data.toList = (A.data.toList, R.data.toList, r)) (hL : L.size ≤ 1000000) : Hid (∀ W, MaxIn W → Calls Tryz.prog 142 #[.string L, .string S] W fun e w' => e = .returned (.tuple #[.string A, .string R, .bool r]) ∧ Below W.heap.size W w') := Lib.hid fun W hm => by
  obtain ⟨m, hm⟩ := hm
  have C := Tryz.strings_Cut L S m W (by omega) hm
  rw [h] at C
  simp only [] at C
  rw [← text_is (T := A) rfl, ← text_is (T := R) rfl] at C
  exact C.mono fun e w' ⟨h1, n, h2⟩ => ⟨h1, by rw [h2]; exact below_drewN n⟩

set_option maxRecDepth 100000 in
set_option maxHeartbeats 1000000 in
/-- No scheme is told: nothing is cut off. -/
theorem cutS_none (L : ByteArray) (hs : sp3 L.data.toList = none) (hL : L.size ≤ 1000000) (B : Nat) (w : World) (hlow : LowIn B w) (k : Int) (t s h : ByteArray) (b : Bool) (p : Int) (pa : ByteArray) (a : CX w B k t s h b p pa L) :
    Calls Tryz.prog 140 #[.pointer (some ⟨B, 0, none⟩)] w fun e w' => e = .returned (.bool true) ∧ CX w' B k t s h b p pa L ∧ Below B w w' := by
  have hlt := a.lt
  have hc := cut_sp3 L.data.toList
  rw [hs] at hc
  have C := cutL_hid L ⟨#[58, 47, 47]⟩ L ⟨#[]⟩ false hc hL
  have c7 := a.c7
  clear hs hc
  go_enter Tryz.func140, Tryz.ntmps140
  go_wp2_with fail
  refine (C.out _ hlow.1.2).mono ?_
  rintro e w1 ⟨rfl, b1⟩
  have a1 := a.below b1
  go_wp2
  go_ret
  exact ⟨rfl, a1, b1.mono (Nat.le_of_lt hlt)⟩

set_option maxRecDepth 100000 in
set_option maxHeartbeats 1000000 in
/-- A scheme is told: it is cut off, in small letters. -/
theorem cutS_some (L S R : ByteArray) (sc : List UInt8) (hs : sp3 L.data.toList = some (sc, R.data.toList)) (h0 : sc ≠ []) (hS : S.data.toList = low sc) (hL : L.size ≤ 1000000) (B : Nat) (w : World) (hlow : LowIn B w) (k : Int) (t s h : ByteArray) (b : Bool) (p : Int) (pa : ByteArray) (a : CX w B k t s h b p pa L) :
    Calls Tryz.prog 140 #[.pointer (some ⟨B, 0, none⟩)] w fun e w' => e = .returned (.bool true) ∧ CX w' B k t S h b p pa R ∧ Below B w w' := by
  have hlt := a.lt
  have hc := cut_sp3 L.data.toList
  rw [hs] at hc
  obtain ⟨A, hA⟩ := text_of sc
  have hAs : A.size ≤ L.size := by
    rcases index_sp3 L.data.toList with ⟨h1, _⟩ | ⟨x, r, h1, _, h3⟩
    · rw [hs] at h1; cases h1
    · rw [hs] at h1
      injection h1 with h1
      rw [Prod.mk.injEq] at h1
      rw [← lsize A, ← lsize L, hA, h3, h1.1, List.length_append]
      omega
  have C := cutL_hid L ⟨#[58, 47, 47]⟩ A R true (by rw [hA]; exact hc) hL
  have CL := lower_hid A S (by rw [hS, hA]) (by omega)
  have g : A.toList.isEmpty = false := by rw [text_empty, hA]; simpa using h0
  have c7 := a.c7
  clear hs hc hA h0 hS
  go_enter Tryz.func140, Tryz.ntmps140
  go_wp2_with fail
  refine (C.out _ hlow.1.2).mono ?_
  rintro e w1 ⟨rfl, b1⟩
  have a1 := a.below b1
  clear c7 a
  go_wp2_with fail
  refine (CL.out _).mono ?_
  rintro e w2 ⟨rfl, b2⟩
  have a2 := a1.below b2
  have c2 := a2.c2
  have f2 := a2.free 2
  have a3 := a2.set2 S
  have c7 := a3.c7
  have f7 := a3.free 7
  have a4 := a3.set7 R
  have B4 : Below B w ((w2.setCell ⟨B, 2, none⟩ (.string S)).setCell ⟨B, 7, none⟩ (.string R)) := (((b1.trans (b2.mono b1.size)).mono (Nat.le_of_lt hlt)).setCell (Nat.le_refl _) _).setCell (Nat.le_refl _) _
  clear a1 a2 a3 b1 b2
  go_wp2
  go_ret
  exact ⟨rfl, a4, B4⟩

set_option maxRecDepth 100000 in
set_option maxHeartbeats 1000000 in
/-- .. and an empty one is none. -/
theorem cutS_bad (L R : ByteArray) (hs : sp3 L.data.toList = some ([], R.data.toList)) (hL : L.size ≤ 1000000) (B : Nat) (w : World) (hlow : LowIn B w) (k : Int) (t s h : ByteArray) (b : Bool) (p : Int) (pa : ByteArray) (a : CX w B k t s h b p pa L) :
    Calls Tryz.prog 140 #[.pointer (some ⟨B, 0, none⟩)] w fun e w' => e = .returned (.bool false) ∧ Below B w w' := by
  have hlt := a.lt
  have hc := cut_sp3 L.data.toList
  rw [hs] at hc
  have C := cutL_hid L ⟨#[58, 47, 47]⟩ ⟨#[]⟩ R true hc hL
  have CL := lower_hid ⟨#[]⟩ ⟨#[]⟩ rfl (by decide)
  have c7 := a.c7
  clear hs hc
  go_enter Tryz.func140, Tryz.ntmps140
  go_wp2_with fail
  refine (C.out _ hlow.1.2).mono ?_
  rintro e w1 ⟨rfl, b1⟩
  have a1 := a.below b1
  clear c7 a
  go_wp2_with fail
  refine (CL.out _).mono ?_
  rintro e w2 ⟨rfl, b2⟩
  have a2 := a1.below b2
  have c2 := a2.c2
  have f2 := a2.free 2
  have a3 := a2.set2 ⟨#[]⟩
  have c7 := a3.c7
  have f7 := a3.free 7
  have B4 : Below B w ((w2.setCell ⟨B, 2, none⟩ (.string ⟨#[]⟩)).setCell ⟨B, 7, none⟩ (.string R)) := (((b1.trans (b2.mono b1.size)).mono (Nat.le_of_lt hlt)).setCell (Nat.le_refl _) _).setCell (Nat.le_refl _) _
  clear a1 a2 a3 b1 b2
  go_wp2
  go_ret
  exact ⟨rfl, B4⟩

/-- A place's word behind its scheme: what is cut off it. -/
def HeadC (B : Nat) (L S R : ByteArray) : Prop := ∀ W, LowIn B W → CX W B 12 ⟨#[]⟩ ⟨#[]⟩ ⟨#[]⟩ false 0 ⟨#[]⟩ L → Calls Tryz.prog 140 #[.pointer (some ⟨B, 0, none⟩)] W fun e w' => e = .returned (.bool true) ∧ CX w' B 12 ⟨#[]⟩ S ⟨#[]⟩ false 0 ⟨#[]⟩ R ∧ Below B W w'

set_option maxRecDepth 100000 in
set_option maxHeartbeats 2000000 in
theorem place_hno (L S R U PA NM N PT : ByteArray) (told : Bool) (B : Nat) (HC : Hid (HeadC B L S R)) (E : Nat) (n : Int) (CI : Hid (∀ W, Calls Tryz.prog 141 #[.string R, .string ⟨#[47]⟩] W fun e w' => e = .returned (.int .i64 n) ∧ w' = W)) (hn : (n = -1 ∧ E = R.size) ∨ (n = (E : Int))) (hE : E ≤ R.size)
    (s1 : ∀ W, (Instr.slice 9 (.string R) none (some (.int .i64 (E : Int))) none).run Tryz.prog W = .ok (.string U) W) (s2 : ∀ W, (Instr.slice 9 (.string R) (some (.int .i64 (E : Int))) none none).run Tryz.prog W = .ok (.string PA) W)
    (CC : Hid (∀ W, MaxIn W → Calls Tryz.prog 142 #[.string U, .string ⟨#[58]⟩] W fun e w' => e = .returned (.tuple #[.string NM, .string PT, .bool told]) ∧ Below W.heap.size W w')) (CL : Hid (∀ W, Calls Tryz.prog 107 #[.string NM] W fun e w' => e = .returned (.string N) ∧ Below W.heap.size W w')) (HH : Hid (∀ W, CX W B 12 ⟨#[]⟩ S ⟨#[]⟩ false 0 PA R → Calls Tryz.prog 143 #[.pointer (some ⟨B, 0, none⟩), .string N] W fun e w' => e = .returned (.bool false) ∧ Below B W w')) (w : World) (hlow : LowIn B w) (a : CX w B 12 ⟨#[]⟩ ⟨#[]⟩ ⟨#[]⟩ false 0 ⟨#[]⟩ L) :
    Calls Tryz.prog 119 #[.pointer (some ⟨B, 0, none⟩)] w fun e w' => e = .returned (.bool false) ∧ Below B w w' := by
  rcases hn with ⟨rfl, rfl⟩ | rfl
  · show _
    go_enter Tryz.func119, Tryz.ntmps119
    go_wp2_with fail
    refine (HC.out _ hlow a).mono ?_
    rintro e w1 ⟨rfl, a1, B1⟩
    have l1 := hlow.on B1
    have c7 := a1.c7
    clear a
    go_wp2_with fail
    refine (CI.out _).mono ?_
    rintro e w1 ⟨rfl, rfl⟩
    go_wp2_with fail
    refine (CC.out _ l1.1.2).mono ?_
    rintro e w2 ⟨rfl, b2⟩
    have a2 := a1.below b2
    have B2 := B1.trans (b2.mono (Nat.le_of_lt a1.lt))
    have hB1 := a1.lt
    clear c7 a1 B1
    have l2 := l1.on (b2.mono (Nat.le_of_lt hB1))
    clear b2 l1
    have c7 := a2.c7
    have c6 := a2.c6
    have f6 := a2.free 6
    have a3 := a2.set6 PA
    have B3 := B2.setCell (p := ⟨B, 6, none⟩) (Nat.le_refl _) (.string PA)
    have l3 := l2.on ((Below.refl B w2).setCell (p := ⟨B, 6, none⟩) (Nat.le_refl _) (.string PA))
    go_wp2_with fail
    clear c7 c6 f6 a2 B2 l2
    generalize w2.setCell ⟨B, 6, none⟩ (.string PA) = w3 at a3 B3 l3 ⊢
    refine (CL.out _).mono ?_
    rintro e w4 ⟨rfl, b4⟩
    have a4 := a3.below b4
    have B4 := B3.trans (b4.mono (Nat.le_of_lt a3.lt))
    have l4 := l3.on (b4.mono (Nat.le_of_lt a3.lt))
    clear a3 B3 l3 b4
    go_wp2_with fail
    refine (HH.out _ a4).mono ?_
    rintro e w5 ⟨rfl, B5⟩
    go_wp2
    go_ret
    exact ⟨rfl, B4.trans B5⟩
  · have hz : ¬ (E : Int) < 0 := by omega
    go_enter Tryz.func119, Tryz.ntmps119
    go_wp2_with fail
    refine (HC.out _ hlow a).mono ?_
    rintro e w1 ⟨rfl, a1, B1⟩
    have l1 := hlow.on B1
    have c7 := a1.c7
    clear a
    go_wp2_with fail
    refine (CI.out _).mono ?_
    rintro e w1 ⟨rfl, rfl⟩
    go_wp2_with fail
    refine (CC.out _ l1.1.2).mono ?_
    rintro e w2 ⟨rfl, b2⟩
    have a2 := a1.below b2
    have B2 := B1.trans (b2.mono (Nat.le_of_lt a1.lt))
    have hB1 := a1.lt
    clear c7 a1 B1
    have l2 := l1.on (b2.mono (Nat.le_of_lt hB1))
    clear b2 l1
    have c7 := a2.c7
    have c6 := a2.c6
    have f6 := a2.free 6
    have a3 := a2.set6 PA
    have B3 := B2.setCell (p := ⟨B, 6, none⟩) (Nat.le_refl _) (.string PA)
    have l3 := l2.on ((Below.refl B w2).setCell (p := ⟨B, 6, none⟩) (Nat.le_refl _) (.string PA))
    go_wp2_with fail
    clear c7 c6 f6 a2 B2 l2
    generalize w2.setCell ⟨B, 6, none⟩ (.string PA) = w3 at a3 B3 l3 ⊢
    refine (CL.out _).mono ?_
    rintro e w4 ⟨rfl, b4⟩
    have a4 := a3.below b4
    have B4 := B3.trans (b4.mono (Nat.le_of_lt a3.lt))
    have l4 := l3.on (b4.mono (Nat.le_of_lt a3.lt))
    clear a3 B3 l3 b4
    go_wp2_with fail
    refine (HH.out _ a4).mono ?_
    rintro e w5 ⟨rfl, B5⟩
    go_wp2
    go_ret
    exact ⟨rfl, B4.trans B5⟩

set_option maxRecDepth 100000 in
set_option maxHeartbeats 2000000 in
theorem place_untold (L S R U PA NM N PT : ByteArray) (B : Nat) (HC : Hid (HeadC B L S R)) (E : Nat) (n : Int) (CI : Hid (∀ W, Calls Tryz.prog 141 #[.string R, .string ⟨#[47]⟩] W fun e w' => e = .returned (.int .i64 n) ∧ w' = W)) (hn : (n = -1 ∧ E = R.size) ∨ (n = (E : Int))) (hE : E ≤ R.size)
    (s1 : ∀ W, (Instr.slice 9 (.string R) none (some (.int .i64 (E : Int))) none).run Tryz.prog W = .ok (.string U) W) (s2 : ∀ W, (Instr.slice 9 (.string R) (some (.int .i64 (E : Int))) none none).run Tryz.prog W = .ok (.string PA) W)
    (CC : Hid (∀ W, MaxIn W → Calls Tryz.prog 142 #[.string U, .string ⟨#[58]⟩] W fun e w' => e = .returned (.tuple #[.string NM, .string PT, .bool false]) ∧ Below W.heap.size W w')) (CL : Hid (∀ W, Calls Tryz.prog 107 #[.string NM] W fun e w' => e = .returned (.string N) ∧ Below W.heap.size W w')) (H : ByteArray) (wd : Bool) (HH : Hid (∀ W, CX W B 12 ⟨#[]⟩ S ⟨#[]⟩ false 0 PA R → Calls Tryz.prog 143 #[.pointer (some ⟨B, 0, none⟩), .string N] W fun e w' => e = .returned (.bool true) ∧ CX w' B 12 ⟨#[]⟩ S H wd 0 PA R ∧ Below B W w')) (w : World) (hlow : LowIn B w) (a : CX w B 12 ⟨#[]⟩ ⟨#[]⟩ ⟨#[]⟩ false 0 ⟨#[]⟩ L) :
    Calls Tryz.prog 119 #[.pointer (some ⟨B, 0, none⟩)] w fun e w' => e = .returned (.bool true) ∧ CX w' B 12 ⟨#[]⟩ S H wd 0 PA R ∧ Below B w w' := by
  rcases hn with ⟨rfl, rfl⟩ | rfl
  · show _
    go_enter Tryz.func119, Tryz.ntmps119
    go_wp2_with fail
    refine (HC.out _ hlow a).mono ?_
    rintro e w1 ⟨rfl, a1, B1⟩
    have l1 := hlow.on B1
    have c7 := a1.c7
    clear a
    go_wp2_with fail
    refine (CI.out _).mono ?_
    rintro e w1 ⟨rfl, rfl⟩
    go_wp2_with fail
    refine (CC.out _ l1.1.2).mono ?_
    rintro e w2 ⟨rfl, b2⟩
    have a2 := a1.below b2
    have B2 := B1.trans (b2.mono (Nat.le_of_lt a1.lt))
    have hB1 := a1.lt
    clear c7 a1 B1
    have l2 := l1.on (b2.mono (Nat.le_of_lt hB1))
    clear b2 l1
    have c7 := a2.c7
    have c6 := a2.c6
    have f6 := a2.free 6
    have a3 := a2.set6 PA
    have B3 := B2.setCell (p := ⟨B, 6, none⟩) (Nat.le_refl _) (.string PA)
    have l3 := l2.on ((Below.refl B w2).setCell (p := ⟨B, 6, none⟩) (Nat.le_refl _) (.string PA))
    go_wp2_with fail
    clear c7 c6 f6 a2 B2 l2
    generalize w2.setCell ⟨B, 6, none⟩ (.string PA) = w3 at a3 B3 l3 ⊢
    refine (CL.out _).mono ?_
    rintro e w4 ⟨rfl, b4⟩
    have a4 := a3.below b4
    have B4 := B3.trans (b4.mono (Nat.le_of_lt a3.lt))
    have l4 := l3.on (b4.mono (Nat.le_of_lt a3.lt))
    clear a3 B3 l3 b4
    go_wp2_with fail
    refine (HH.out _ a4).mono ?_
    rintro e w5 ⟨rfl, a5, B5⟩
    have l5 := l4.on B5
    have B6 := B4.trans B5
    clear a4 B4 l4 B5
    go_wp2
    go_ret
    exact ⟨rfl, a5, B6⟩
  · have hz : ¬ (E : Int) < 0 := by omega
    go_enter Tryz.func119, Tryz.ntmps119
    go_wp2_with fail
    refine (HC.out _ hlow a).mono ?_
    rintro e w1 ⟨rfl, a1, B1⟩
    have l1 := hlow.on B1
    have c7 := a1.c7
    clear a
    go_wp2_with fail
    refine (CI.out _).mono ?_
    rintro e w1 ⟨rfl, rfl⟩
    go_wp2_with fail
    refine (CC.out _ l1.1.2).mono ?_
    rintro e w2 ⟨rfl, b2⟩
    have a2 := a1.below b2
    have B2 := B1.trans (b2.mono (Nat.le_of_lt a1.lt))
    have hB1 := a1.lt
    clear c7 a1 B1
    have l2 := l1.on (b2.mono (Nat.le_of_lt hB1))
    clear b2 l1
    have c7 := a2.c7
    have c6 := a2.c6
    have f6 := a2.free 6
    have a3 := a2.set6 PA
    have B3 := B2.setCell (p := ⟨B, 6, none⟩) (Nat.le_refl _) (.string PA)
    have l3 := l2.on ((Below.refl B w2).setCell (p := ⟨B, 6, none⟩) (Nat.le_refl _) (.string PA))
    go_wp2_with fail
    clear c7 c6 f6 a2 B2 l2
    generalize w2.setCell ⟨B, 6, none⟩ (.string PA) = w3 at a3 B3 l3 ⊢
    refine (CL.out _).mono ?_
    rintro e w4 ⟨rfl, b4⟩
    have a4 := a3.below b4
    have B4 := B3.trans (b4.mono (Nat.le_of_lt a3.lt))
    have l4 := l3.on (b4.mono (Nat.le_of_lt a3.lt))
    clear a3 B3 l3 b4
    go_wp2_with fail
    refine (HH.out _ a4).mono ?_
    rintro e w5 ⟨rfl, a5, B5⟩
    have l5 := l4.on B5
    have B6 := B4.trans B5
    clear a4 B4 l4 B5
    go_wp2
    go_ret
    exact ⟨rfl, a5, B6⟩

set_option maxRecDepth 100000 in
set_option maxHeartbeats 2000000 in
theorem place_pyes (L S R U PA NM N PT : ByteArray) (B : Nat) (HC : Hid (HeadC B L S R)) (E : Nat) (n : Int) (CI : Hid (∀ W, Calls Tryz.prog 141 #[.string R, .string ⟨#[47]⟩] W fun e w' => e = .returned (.int .i64 n) ∧ w' = W)) (hn : (n = -1 ∧ E = R.size) ∨ (n = (E : Int))) (hE : E ≤ R.size)
    (s1 : ∀ W, (Instr.slice 9 (.string R) none (some (.int .i64 (E : Int))) none).run Tryz.prog W = .ok (.string U) W) (s2 : ∀ W, (Instr.slice 9 (.string R) (some (.int .i64 (E : Int))) none none).run Tryz.prog W = .ok (.string PA) W)
    (CC : Hid (∀ W, MaxIn W → Calls Tryz.prog 142 #[.string U, .string ⟨#[58]⟩] W fun e w' => e = .returned (.tuple #[.string NM, .string PT, .bool true]) ∧ Below W.heap.size W w')) (CL : Hid (∀ W, Calls Tryz.prog 107 #[.string NM] W fun e w' => e = .returned (.string N) ∧ Below W.heap.size W w')) (H : ByteArray) (wd : Bool) (HH : Hid (∀ W, CX W B 12 ⟨#[]⟩ S ⟨#[]⟩ false 0 PA R → Calls Tryz.prog 143 #[.pointer (some ⟨B, 0, none⟩), .string N] W fun e w' => e = .returned (.bool true) ∧ CX w' B 12 ⟨#[]⟩ S H wd 0 PA R ∧ Below B W w')) (q : Int) (HP : Hid (∀ W, CX W B 12 ⟨#[]⟩ S H wd 0 PA R → Calls Tryz.prog 144 #[.pointer (some ⟨B, 0, none⟩), .string PT] W fun e w' => e = .returned (.bool true) ∧ CX w' B 12 ⟨#[]⟩ S H wd q PA R ∧ Below B W w')) (w : World) (hlow : LowIn B w) (a : CX w B 12 ⟨#[]⟩ ⟨#[]⟩ ⟨#[]⟩ false 0 ⟨#[]⟩ L) :
    Calls Tryz.prog 119 #[.pointer (some ⟨B, 0, none⟩)] w fun e w' => e = .returned (.bool true) ∧ CX w' B 12 ⟨#[]⟩ S H wd q PA R ∧ Below B w w' := by
  rcases hn with ⟨rfl, rfl⟩ | rfl
  · show _
    go_enter Tryz.func119, Tryz.ntmps119
    go_wp2_with fail
    refine (HC.out _ hlow a).mono ?_
    rintro e w1 ⟨rfl, a1, B1⟩
    have l1 := hlow.on B1
    have c7 := a1.c7
    clear a
    go_wp2_with fail
    refine (CI.out _).mono ?_
    rintro e w1 ⟨rfl, rfl⟩
    go_wp2_with fail
    refine (CC.out _ l1.1.2).mono ?_
    rintro e w2 ⟨rfl, b2⟩
    have a2 := a1.below b2
    have B2 := B1.trans (b2.mono (Nat.le_of_lt a1.lt))
    have hB1 := a1.lt
    clear c7 a1 B1
    have l2 := l1.on (b2.mono (Nat.le_of_lt hB1))
    clear b2 l1
    have c7 := a2.c7
    have c6 := a2.c6
    have f6 := a2.free 6
    have a3 := a2.set6 PA
    have B3 := B2.setCell (p := ⟨B, 6, none⟩) (Nat.le_refl _) (.string PA)
    have l3 := l2.on ((Below.refl B w2).setCell (p := ⟨B, 6, none⟩) (Nat.le_refl _) (.string PA))
    go_wp2_with fail
    clear c7 c6 f6 a2 B2 l2
    generalize w2.setCell ⟨B, 6, none⟩ (.string PA) = w3 at a3 B3 l3 ⊢
    refine (CL.out _).mono ?_
    rintro e w4 ⟨rfl, b4⟩
    have a4 := a3.below b4
    have B4 := B3.trans (b4.mono (Nat.le_of_lt a3.lt))
    have l4 := l3.on (b4.mono (Nat.le_of_lt a3.lt))
    clear a3 B3 l3 b4
    go_wp2_with fail
    refine (HH.out _ a4).mono ?_
    rintro e w5 ⟨rfl, a5, B5⟩
    have l5 := l4.on B5
    have B6 := B4.trans B5
    clear a4 B4 l4 B5
    go_wp2_with fail
    refine (HP.out _ a5).mono ?_
    rintro e w6 ⟨rfl, a6, B7⟩
    go_wp2
    go_ret
    exact ⟨rfl, a6, B6.trans B7⟩
  · have hz : ¬ (E : Int) < 0 := by omega
    go_enter Tryz.func119, Tryz.ntmps119
    go_wp2_with fail
    refine (HC.out _ hlow a).mono ?_
    rintro e w1 ⟨rfl, a1, B1⟩
    have l1 := hlow.on B1
    have c7 := a1.c7
    clear a
    go_wp2_with fail
    refine (CI.out _).mono ?_
    rintro e w1 ⟨rfl, rfl⟩
    go_wp2_with fail
    refine (CC.out _ l1.1.2).mono ?_
    rintro e w2 ⟨rfl, b2⟩
    have a2 := a1.below b2
    have B2 := B1.trans (b2.mono (Nat.le_of_lt a1.lt))
    have hB1 := a1.lt
    clear c7 a1 B1
    have l2 := l1.on (b2.mono (Nat.le_of_lt hB1))
    clear b2 l1
    have c7 := a2.c7
    have c6 := a2.c6
    have f6 := a2.free 6
    have a3 := a2.set6 PA
    have B3 := B2.setCell (p := ⟨B, 6, none⟩) (Nat.le_refl _) (.string PA)
    have l3 := l2.on ((Below.refl B w2).setCell (p := ⟨B, 6, none⟩) (Nat.le_refl _) (.string PA))
    go_wp2_with fail
    clear c7 c6 f6 a2 B2 l2
    generalize w2.setCell ⟨B, 6, none⟩ (.string PA) = w3 at a3 B3 l3 ⊢
    refine (CL.out _).mono ?_
    rintro e w4 ⟨rfl, b4⟩
    have a4 := a3.below b4
    have B4 := B3.trans (b4.mono (Nat.le_of_lt a3.lt))
    have l4 := l3.on (b4.mono (Nat.le_of_lt a3.lt))
    clear a3 B3 l3 b4
    go_wp2_with fail
    refine (HH.out _ a4).mono ?_
    rintro e w5 ⟨rfl, a5, B5⟩
    have l5 := l4.on B5
    have B6 := B4.trans B5
    clear a4 B4 l4 B5
    go_wp2_with fail
    refine (HP.out _ a5).mono ?_
    rintro e w6 ⟨rfl, a6, B7⟩
    go_wp2
    go_ret
    exact ⟨rfl, a6, B6.trans B7⟩

set_option maxRecDepth 100000 in
set_option maxHeartbeats 2000000 in
theorem place_pno (L S R U PA NM N PT : ByteArray) (B : Nat) (HC : Hid (HeadC B L S R)) (E : Nat) (n : Int) (CI : Hid (∀ W, Calls Tryz.prog 141 #[.string R, .string ⟨#[47]⟩] W fun e w' => e = .returned (.int .i64 n) ∧ w' = W)) (hn : (n = -1 ∧ E = R.size) ∨ (n = (E : Int))) (hE : E ≤ R.size)
    (s1 : ∀ W, (Instr.slice 9 (.string R) none (some (.int .i64 (E : Int))) none).run Tryz.prog W = .ok (.string U) W) (s2 : ∀ W, (Instr.slice 9 (.string R) (some (.int .i64 (E : Int))) none none).run Tryz.prog W = .ok (.string PA) W)
    (CC : Hid (∀ W, MaxIn W → Calls Tryz.prog 142 #[.string U, .string ⟨#[58]⟩] W fun e w' => e = .returned (.tuple #[.string NM, .string PT, .bool true]) ∧ Below W.heap.size W w')) (CL : Hid (∀ W, Calls Tryz.prog 107 #[.string NM] W fun e w' => e = .returned (.string N) ∧ Below W.heap.size W w')) (H : ByteArray) (wd : Bool) (HH : Hid (∀ W, CX W B 12 ⟨#[]⟩ S ⟨#[]⟩ false 0 PA R → Calls Tryz.prog 143 #[.pointer (some ⟨B, 0, none⟩), .string N] W fun e w' => e = .returned (.bool true) ∧ CX w' B 12 ⟨#[]⟩ S H wd 0 PA R ∧ Below B W w')) (HP : Hid (∀ W, LowIn B W → CX W B 12 ⟨#[]⟩ S H wd 0 PA R → Calls Tryz.prog 144 #[.pointer (some ⟨B, 0, none⟩), .string PT] W fun e w' => e = .returned (.bool false) ∧ Below B W w')) (w : World) (hlow : LowIn B w) (a : CX w B 12 ⟨#[]⟩ ⟨#[]⟩ ⟨#[]⟩ false 0 ⟨#[]⟩ L) :
    Calls Tryz.prog 119 #[.pointer (some ⟨B, 0, none⟩)] w fun e w' => e = .returned (.bool false) ∧ Below B w w' := by
  rcases hn with ⟨rfl, rfl⟩ | rfl
  · show _
    go_enter Tryz.func119, Tryz.ntmps119
    go_wp2_with fail
    refine (HC.out _ hlow a).mono ?_
    rintro e w1 ⟨rfl, a1, B1⟩
    have l1 := hlow.on B1
    have c7 := a1.c7
    clear a
    go_wp2_with fail
    refine (CI.out _).mono ?_
    rintro e w1 ⟨rfl, rfl⟩
    go_wp2_with fail
    refine (CC.out _ l1.1.2).mono ?_
    rintro e w2 ⟨rfl, b2⟩
    have a2 := a1.below b2
    have B2 := B1.trans (b2.mono (Nat.le_of_lt a1.lt))
    have hB1 := a1.lt
    clear c7 a1 B1
    have l2 := l1.on (b2.mono (Nat.le_of_lt hB1))
    clear b2 l1
    have c7 := a2.c7
    have c6 := a2.c6
    have f6 := a2.free 6
    have a3 := a2.set6 PA
    have B3 := B2.setCell (p := ⟨B, 6, none⟩) (Nat.le_refl _) (.string PA)
    have l3 := l2.on ((Below.refl B w2).setCell (p := ⟨B, 6, none⟩) (Nat.le_refl _) (.string PA))
    go_wp2_with fail
    clear c7 c6 f6 a2 B2 l2
    generalize w2.setCell ⟨B, 6, none⟩ (.string PA) = w3 at a3 B3 l3 ⊢
    refine (CL.out _).mono ?_
    rintro e w4 ⟨rfl, b4⟩
    have a4 := a3.below b4
    have B4 := B3.trans (b4.mono (Nat.le_of_lt a3.lt))
    have l4 := l3.on (b4.mono (Nat.le_of_lt a3.lt))
    clear a3 B3 l3 b4
    go_wp2_with fail
    refine (HH.out _ a4).mono ?_
    rintro e w5 ⟨rfl, a5, B5⟩
    have l5 := l4.on B5
    have B6 := B4.trans B5
    clear a4 B4 l4 B5
    go_wp2_with fail
    refine (HP.out _ l5 a5).mono ?_
    rintro e w6 ⟨rfl, B7⟩
    go_wp2
    go_ret
    exact ⟨rfl, B6.trans B7⟩
  · have hz : ¬ (E : Int) < 0 := by omega
    go_enter Tryz.func119, Tryz.ntmps119
    go_wp2_with fail
    refine (HC.out _ hlow a).mono ?_
    rintro e w1 ⟨rfl, a1, B1⟩
    have l1 := hlow.on B1
    have c7 := a1.c7
    clear a
    go_wp2_with fail
    refine (CI.out _).mono ?_
    rintro e w1 ⟨rfl, rfl⟩
    go_wp2_with fail
    refine (CC.out _ l1.1.2).mono ?_
    rintro e w2 ⟨rfl, b2⟩
    have a2 := a1.below b2
    have B2 := B1.trans (b2.mono (Nat.le_of_lt a1.lt))
    have hB1 := a1.lt
    clear c7 a1 B1
    have l2 := l1.on (b2.mono (Nat.le_of_lt hB1))
    clear b2 l1
    have c7 := a2.c7
    have c6 := a2.c6
    have f6 := a2.free 6
    have a3 := a2.set6 PA
    have B3 := B2.setCell (p := ⟨B, 6, none⟩) (Nat.le_refl _) (.string PA)
    have l3 := l2.on ((Below.refl B w2).setCell (p := ⟨B, 6, none⟩) (Nat.le_refl _) (.string PA))
    go_wp2_with fail
    clear c7 c6 f6 a2 B2 l2
    generalize w2.setCell ⟨B, 6, none⟩ (.string PA) = w3 at a3 B3 l3 ⊢
    refine (CL.out _).mono ?_
    rintro e w4 ⟨rfl, b4⟩
    have a4 := a3.below b4
    have B4 := B3.trans (b4.mono (Nat.le_of_lt a3.lt))
    have l4 := l3.on (b4.mono (Nat.le_of_lt a3.lt))
    clear a3 B3 l3 b4
    go_wp2_with fail
    refine (HH.out _ a4).mono ?_
    rintro e w5 ⟨rfl, a5, B5⟩
    have l5 := l4.on B5
    have B6 := B4.trans B5
    clear a4 B4 l4 B5
    go_wp2_with fail
    refine (HP.out _ l5 a5).mono ?_
    rintro e w6 ⟨rfl, B7⟩
    go_wp2
    go_ret
    exact ⟨rfl, B6.trans B7⟩

end Go.Proofs.YtaldjkbnngeahaaGreatDoor

namespace Go.Proofs.YtaldjkbnngeahaaGreatDoor
open Go.RowKit

theorem place_tail (B : Nat) (L S R : ByteArray) (HC : Hid (HeadC B L S R)) (hR : R.size ≤ 1000000) :
    (∀ (H PA : ByteArray) (wd : Bool) (p : Int), placeO S.data.toList R.data.toList = some ⟨12, [], S.data.toList, H.data.toList, wd, p, PA.data.toList⟩ → ∀ w, LowIn B w → CX w B 12 ⟨#[]⟩ ⟨#[]⟩ ⟨#[]⟩ false 0 ⟨#[]⟩ L →
      Calls Tryz.prog 119 #[.pointer (some ⟨B, 0, none⟩)] w fun e w' => e = .returned (.bool true) ∧ CX w' B 12 ⟨#[]⟩ S H wd p PA R ∧ Below B w w') ∧
    (placeO S.data.toList R.data.toList = none → ∀ w, LowIn B w → CX w B 12 ⟨#[]⟩ ⟨#[]⟩ ⟨#[]⟩ false 0 ⟨#[]⟩ L →
      Calls Tryz.prog 119 #[.pointer (some ⟨B, 0, none⟩)] w fun e w' => e = .returned (.bool false) ∧ Below B w w') := by
  obtain ⟨U, hU⟩ := text_of (upto (isC 47) R.data.toList)
  obtain ⟨PA, hPA⟩ := text_of (past (isC 47) R.data.toList)
  have hlen := upto_length (isC 47) R.data.toList
  rw [← hU, ← hPA, lsize, lsize, lsize] at hlen
  obtain ⟨NM, hNM⟩ := text_of (upto (isC 58) U.data.toList)
  obtain ⟨PT, hPT⟩ := text_of ((past (isC 58) U.data.toList).drop 1)
  have hlen2 := upto_length (isC 58) U.data.toList
  rw [← hNM, lsize, lsize] at hlen2
  obtain ⟨N, hN⟩ := text_of (low NM.data.toList)
  obtain ⟨told, htold⟩ : ∃ x, (!(past (isC 58) U.data.toList).isEmpty) = x := ⟨_, rfl⟩
  have CC := cutL_hid U ⟨#[58]⟩ NM PT told (by rw [hNM, hPT, ← htold]; exact cut_58 _) (by omega)
  have CL := lower_hid NM N hN (by omega)
  obtain ⟨n, hI⟩ : ∃ n, Lib.indexByte R.data.toList 47 = n := ⟨_, rfl⟩
  have CI : Hid (∀ W, Calls Tryz.prog 141 #[.string R, .string ⟨#[47]⟩] W fun e w' => e = .returned (.int .i64 n) ∧ w' = W) := Lib.hid fun W => by
    rw [← hI]; exact Tryz.strings_Index_one R 47 W
  obtain ⟨E, hn, hE, s1, s2⟩ : ∃ E : Nat, ((n = -1 ∧ E = R.size) ∨ (n = (E : Int))) ∧ E ≤ R.size ∧ (∀ W, (Instr.slice 9 (.string R) none (some (.int .i64 (E : Int))) none).run Tryz.prog W = .ok (.string U) W) ∧ (∀ W, (Instr.slice 9 (.string R) (some (.int .i64 (E : Int))) none none).run Tryz.prog W = .ok (.string PA) W) := by
    rcases byte_cut 47 R.data.toList with ⟨h1, h2, h3⟩ | ⟨k, h0, h1, h2, h3⟩
    · refine ⟨R.size, .inl ⟨by rw [← hI, h1], rfl⟩, Nat.le_refl _, slice_to R U R.size (Nat.le_refl _) ?_, slice_from R PA R.size (Nat.le_refl _) ?_⟩
      · rw [hU, h2, take_all]
      · rw [hPA, h3, ← lsize, List.drop_length]
    · rw [lsize] at h0
      refine ⟨k, .inr (by rw [← hI, h1]), by omega, slice_to R U k (by omega) ?_, slice_from R PA k (by omega) ?_⟩
      · rw [hU, h2]
      · rw [hPA, h3]
  have hO : placeO S.data.toList R.data.toList = match nameO N.data.toList with
      | none => none
      | some (h, wd) => toldO S.data.toList h wd PA.data.toList (past (isC 58) U.data.toList) := by
    unfold placeO
    rw [← hU, ← hPA, ← hNM, ← hN]
    cases nameO N.data.toList <;> rfl
  have hUR : U.size ≤ R.size := by omega
  clear hU hPA hlen hNM hlen2 hN hI
  cases hname : nameO N.data.toList with
  | none =>
    rw [hname] at hO
    refine ⟨fun H PA2 wd p h => ?_, fun _ w hl a => ?_⟩
    · rw [hO] at h; cases h
    · exact place_hno L S R U PA NM N PT told B HC E n CI hn hE s1 s2 CC CL (Lib.hid fun W a => takeH_no N hname B W 12 ⟨#[]⟩ S 0 PA R a) w hl a
  | some x =>
    obtain ⟨hl, wd⟩ := x
    obtain ⟨H, hH⟩ := text_of hl
    rw [hname] at hO
    simp only [] at hO
    rw [← hH] at hO hname
    have HH := fun q : Int => Lib.hid fun W a => takeH_yes N H wd hname B W 12 ⟨#[]⟩ S q PA R a
    cases hpt : past (isC 58) U.data.toList with
    | nil =>
      obtain rfl : told = false := by rw [← htold, hpt]; rfl
      rw [hpt] at hO
      refine ⟨fun H2 PA2 wd2 p h w hl a => ?_, fun h => ?_⟩
      · rw [hO] at h
        have h2 := Option.some.inj h
        unfold toldO at h2
        rw [Src.mk.injEq] at h2
        obtain ⟨_, _, _, e1, e2, e3, e4⟩ := h2
        obtain rfl : H2 = H := (text_is e1.symm).trans (text_is rfl).symm
        obtain rfl : PA2 = PA := (text_is e4.symm).trans (text_is rfl).symm
        subst e2; subst e3
        exact place_untold L S R U PA2 NM N PT B HC E n CI hn hE s1 s2 CC CL H2 wd (HH 0) w hl a
      · rw [hO] at h; cases h
    | cons c ds =>
      obtain rfl : told = true := by rw [← htold, hpt]; rfl
      rw [hpt] at hO hPT
      have hPT2 : PT.data.toList = ds := hPT
      cases hq : portO ds with
      | none =>
        unfold toldO at hO
        simp only [hq, Option.map_none] at hO
        refine ⟨fun H2 PA2 wd2 p h => ?_, fun _ w hl a => ?_⟩
        · rw [hO] at h; cases h
        · have hPTs : PT.size ≤ 1000000 := by
            have e1 := upto_length (isC 58) U.data.toList
            rw [hpt, lsize] at e1
            rw [← lsize, hPT2]
            simp only [List.length_cons] at e1
            have e3 : U.size ≤ R.size := hUR
            omega
          exact place_pno L S R U PA NM N PT B HC E n CI hn hE s1 s2 CC CL H wd (HH 0) (Lib.hid fun W hw a => takeP_no PT (by rw [hPT2]; exact hq) hPTs B W hw 12 ⟨#[]⟩ S H wd 0 PA R a) w hl a
      | some q =>
        unfold toldO at hO
        simp only [hq, Option.map_some] at hO
        refine ⟨fun H2 PA2 wd2 p h w hl a => ?_, fun h => ?_⟩
        · rw [hO] at h
          have h2 := Option.some.inj h
          rw [Src.mk.injEq] at h2
          obtain ⟨_, _, _, e1, e2, e3, e4⟩ := h2
          obtain rfl : H2 = H := (text_is e1.symm).trans (text_is rfl).symm
          obtain rfl : PA2 = PA := (text_is e4.symm).trans (text_is rfl).symm
          subst e2; subst e3
          exact place_pyes L S R U PA2 NM N PT B HC E n CI hn hE s1 s2 CC CL H2 wd (HH 0) q (Lib.hid fun W a => takeP_yes PT q (by rw [hPT2]; exact hq) B W 12 ⟨#[]⟩ S H2 wd 0 PA2 R a) w hl a
        · rw [hO] at h; cases h

def placeAll (l : List UInt8) : Option Src := match sp3 l with
  | some (sc, r) => if sc = [] then none else placeO (low sc) r
  | none => placeO [] l
theorem placeO_form {sc l : List UInt8} {a : Src} (h : placeO sc l = some a) : a.k = 12 ∧ a.t = [] ∧ a.s = sc := by
  unfold placeO at h
  split at h
  · cases h
  · unfold toldO at h
    split at h
    · injection h with h
      subst h
      exact ⟨rfl, rfl, rfl⟩
    · rw [Option.map_eq_some_iff] at h
      obtain ⟨_, _, h⟩ := h
      subst h
      exact ⟨rfl, rfl, rfl⟩
theorem sp3_len {l sc r : List UInt8} (h : sp3 l = some (sc, r)) : sc.length + r.length ≤ l.length := by
  rcases index_sp3 l with ⟨h1, _⟩ | ⟨x, y, h1, _, h3⟩
  · rw [h] at h1; cases h1
  · rw [h] at h1
    injection h1 with h1
    rw [Prod.mk.injEq] at h1
    rw [h3, h1.1, h1.2]
    simp
    omega
set_option maxRecDepth 100000 in
theorem placeC_bad (L R : ByteArray) (hs : sp3 L.data.toList = some ([], R.data.toList)) (hL : L.size ≤ 1000000) (B : Nat) (w : World) (hlow : LowIn B w) (a : CX w B 12 ⟨#[]⟩ ⟨#[]⟩ ⟨#[]⟩ false 0 ⟨#[]⟩ L) :
    Calls Tryz.prog 119 #[.pointer (some ⟨B, 0, none⟩)] w fun e w' => e = .returned (.bool false) ∧ Below B w w' := by
  have HC := Lib.hid (cutS_bad L R hs hL B w hlow _ _ _ _ _ _ _ a)
  clear hs
  go_enter Tryz.func119, Tryz.ntmps119
  go_wp2_with fail
  refine HC.out.mono ?_
  rintro e w1 ⟨rfl, B1⟩
  go_wp2
  go_ret
  exact ⟨rfl, B1⟩
/-- A place's word is cut: where it is one. -/
theorem placeC_yes (L S H PA : ByteArray) (wd : Bool) (p : Int) (h : placeAll L.data.toList = some ⟨12, [], S.data.toList, H.data.toList, wd, p, PA.data.toList⟩) (hL : L.size ≤ 1000000) (B : Nat) : Hid (∀ w, LowIn B w → CX w B 12 ⟨#[]⟩ ⟨#[]⟩ ⟨#[]⟩ false 0 ⟨#[]⟩ L →
    Calls Tryz.prog 119 #[.pointer (some ⟨B, 0, none⟩)] w fun e w' => e = .returned (.bool true) ∧ (∃ l, CX w' B 12 ⟨#[]⟩ S H wd p PA l) ∧ Below B w w') := Lib.hid fun w hl a => by
  unfold placeAll at h
  cases hs : sp3 L.data.toList with
  | none =>
    rw [hs] at h
    simp only [] at h
    obtain rfl : S = ⟨#[]⟩ := text_is (placeO_form h).2.2
    exact ((place_tail B L ⟨#[]⟩ L (Lib.hid fun W hw a => cutS_none L hs hL B W hw _ _ _ _ _ _ _ a) hL).1 H PA wd p h w hl a).mono fun e w' ⟨h1, h2, h3⟩ => ⟨h1, ⟨L, h2⟩, h3⟩
  | some x =>
    obtain ⟨sc, r⟩ := x
    rw [hs] at h
    simp only [] at h
    by_cases h0 : sc = []
    · rw [if_pos h0] at h; cases h
    · rw [if_neg h0] at h
      have hS : S.data.toList = low sc := (placeO_form h).2.2
      obtain ⟨R, hR⟩ := text_of r
      have hRs : R.size ≤ 1000000 := by have := sp3_len hs; rw [← hR, lsize, lsize] at this; omega
      rw [← hR] at hs h
      rw [← hS] at h
      exact ((place_tail B L S R (Lib.hid fun W hw a => cutS_some L S R sc hs h0 hS hL B W hw _ _ _ _ _ _ _ a) hRs).1 H PA wd p h w hl a).mono fun e w' ⟨h1, h2, h3⟩ => ⟨h1, ⟨R, h2⟩, h3⟩
/-- .. and where it is none. -/
theorem placeC_no (L : ByteArray) (h : placeAll L.data.toList = none) (hL : L.size ≤ 1000000) (B : Nat) : Hid (∀ w, LowIn B w → CX w B 12 ⟨#[]⟩ ⟨#[]⟩ ⟨#[]⟩ false 0 ⟨#[]⟩ L →
    Calls Tryz.prog 119 #[.pointer (some ⟨B, 0, none⟩)] w fun e w' => e = .returned (.bool false) ∧ Below B w w') := Lib.hid fun w hl a => by
  unfold placeAll at h
  cases hs : sp3 L.data.toList with
  | none =>
    rw [hs] at h
    simp only [] at h
    exact (place_tail B L ⟨#[]⟩ L (Lib.hid fun W hw a => cutS_none L hs hL B W hw _ _ _ _ _ _ _ a) hL).2 h w hl a
  | some x =>
    obtain ⟨sc, r⟩ := x
    rw [hs] at h
    simp only [] at h
    obtain ⟨R, hR⟩ := text_of r
    have hRs : R.size ≤ 1000000 := by have := sp3_len hs; rw [← hR, lsize, lsize] at this; omega
    rw [← hR] at hs h
    by_cases h0 : sc = []
    · subst h0
      exact placeC_bad L R hs hL B w hl a
    · rw [if_neg h0] at h
      obtain ⟨S, hS⟩ := text_of (low sc)
      rw [← hS] at h
      exact (place_tail B L S R (Lib.hid fun W hw a => cutS_some L S R sc hs h0 hS hL B W hw _ _ _ _ _ _ _ a) hRs).2 h w hl a

end Go.Proofs.YtaldjkbnngeahaaGreatDoor

namespace Go.Proofs.YtaldjkbnngeahaaGreatDoor
open Go.RowKit

/-- A kept word in a block of its own. -/
def WX (w : World) (P : Nat) (x : ByteArray) (k : Int) : Prop := w.heap[P]? = some (.cells #[.string x, .int .i64 k] 111 (0, 0))
theorem WX.lt {w : World} {P : Nat} {x : ByteArray} {k : Int} (a : WX w P x k) : P < w.heap.size := lt_of_block a
theorem WX.below {w w' : World} {P : Nat} {x : ByteArray} {k : Int} (a : WX w P x k) (hb : Below w.heap.size w w') : WX w' P x k := by
  unfold WX at *
  rw [hb.block P (lt_of_block a)]; exact a
theorem WX.made (w : World) (x : ByteArray) (k : Int) : WX (w.alloc (.cells #[.string x, .int .i64 k] 111)) w.heap.size x k := new_block w _
theorem WX.c0 {w : World} {P : Nat} {x : ByteArray} {k : Int} (a : WX w P x k) : w.cell? ⟨P, 0, none⟩ = some (.string x) := by rw [cell_of a]; rfl
theorem WX.c1 {w : World} {P : Nat} {x : ByteArray} {k : Int} (a : WX w P x k) : w.cell? ⟨P, 1, none⟩ = some (.int .i64 k) := by rw [cell_of a]; rfl
theorem kept_none {l : List UInt8} (h : ∀ z : Int, 1 ≤ z → z ≤ 8 → low l ≠ keptM z) : keptO l = none := by
  unfold keptO
  rw [List.find?_eq_none]
  intro z hz
  have h2 := h z
  simp only [List.mem_cons, List.not_mem_nil, or_false] at hz
  rw [decide_eq_true_eq]
  exact h2 (by omega) (by omega)
theorem kept_at1 {l : List UInt8} (_h : ∀ z : Int, 1 ≤ z → z ≤ 0 → low l ≠ keptM z) (e : low l = keptM 1) : keptO l = some 1 := by
  unfold keptO
  simp only [List.find?_cons]
  rw [decide_eq_true e]
theorem kept_at2 {l : List UInt8} (h : ∀ z : Int, 1 ≤ z → z ≤ 1 → low l ≠ keptM z) (e : low l = keptM 2) : keptO l = some 2 := by
  unfold keptO
  simp only [List.find?_cons]
  rw [decide_eq_false (h 1 (by decide) (by decide))]
  simp only []
  rw [decide_eq_true e]
theorem kept_at3 {l : List UInt8} (h : ∀ z : Int, 1 ≤ z → z ≤ 2 → low l ≠ keptM z) (e : low l = keptM 3) : keptO l = some 3 := by
  unfold keptO
  simp only [List.find?_cons]
  rw [decide_eq_false (h 1 (by decide) (by decide))]
  simp only []
  rw [decide_eq_false (h 2 (by decide) (by decide))]
  simp only []
  rw [decide_eq_true e]
theorem kept_at4 {l : List UInt8} (h : ∀ z : Int, 1 ≤ z → z ≤ 3 → low l ≠ keptM z) (e : low l = keptM 4) : keptO l = some 4 := by
  unfold keptO
  simp only [List.find?_cons]
  rw [decide_eq_false (h 1 (by decide) (by decide))]
  simp only []
  rw [decide_eq_false (h 2 (by decide) (by decide))]
  simp only []
  rw [decide_eq_false (h 3 (by decide) (by decide))]
  simp only []
  rw [decide_eq_true e]
theorem kept_at5 {l : List UInt8} (h : ∀ z : Int, 1 ≤ z → z ≤ 4 → low l ≠ keptM z) (e : low l = keptM 5) : keptO l = some 5 := by
  unfold keptO
  simp only [List.find?_cons]
  rw [decide_eq_false (h 1 (by decide) (by decide))]
  simp only []
  rw [decide_eq_false (h 2 (by decide) (by decide))]
  simp only []
  rw [decide_eq_false (h 3 (by decide) (by decide))]
  simp only []
  rw [decide_eq_false (h 4 (by decide) (by decide))]
  simp only []
  rw [decide_eq_true e]
theorem kept_at6 {l : List UInt8} (h : ∀ z : Int, 1 ≤ z → z ≤ 5 → low l ≠ keptM z) (e : low l = keptM 6) : keptO l = some 6 := by
  unfold keptO
  simp only [List.find?_cons]
  rw [decide_eq_false (h 1 (by decide) (by decide))]
  simp only []
  rw [decide_eq_false (h 2 (by decide) (by decide))]
  simp only []
  rw [decide_eq_false (h 3 (by decide) (by decide))]
  simp only []
  rw [decide_eq_false (h 4 (by decide) (by decide))]
  simp only []
  rw [decide_eq_false (h 5 (by decide) (by decide))]
  simp only []
  rw [decide_eq_true e]
theorem kept_at7 {l : List UInt8} (h : ∀ z : Int, 1 ≤ z → z ≤ 6 → low l ≠ keptM z) (e : low l = keptM 7) : keptO l = some 7 := by
  unfold keptO
  simp only [List.find?_cons]
  rw [decide_eq_false (h 1 (by decide) (by decide))]
  simp only []
  rw [decide_eq_false (h 2 (by decide) (by decide))]
  simp only []
  rw [decide_eq_false (h 3 (by decide) (by decide))]
  simp only []
  rw [decide_eq_false (h 4 (by decide) (by decide))]
  simp only []
  rw [decide_eq_false (h 5 (by decide) (by decide))]
  simp only []
  rw [decide_eq_false (h 6 (by decide) (by decide))]
  simp only []
  rw [decide_eq_true e]
theorem kept_at8 {l : List UInt8} (h : ∀ z : Int, 1 ≤ z → z ≤ 7 → low l ≠ keptM z) (e : low l = keptM 8) : keptO l = some 8 := by
  unfold keptO
  simp only [List.find?_cons]
  rw [decide_eq_false (h 1 (by decide) (by decide))]
  simp only []
  rw [decide_eq_false (h 2 (by decide) (by decide))]
  simp only []
  rw [decide_eq_false (h 3 (by decide) (by decide))]
  simp only []
  rw [decide_eq_false (h 4 (by decide) (by decide))]
  simp only []
  rw [decide_eq_false (h 5 (by decide) (by decide))]
  simp only []
  rw [decide_eq_false (h 6 (by decide) (by decide))]
  simp only []
  rw [decide_eq_false (h 7 (by decide) (by decide))]
  simp only []
  rw [decide_eq_true e]

set_option maxRecDepth 100000 in
set_option maxHeartbeats 8000000 in
/-- Is a word a kept one? -/
theorem cutK_any (L : ByteArray) (hL : L.size ≤ 1000000) (B : Nat) (w : World) (hlow : LowIn B w) (k : Int) (t s h : ByteArray) (b : Bool) (p : Int) (pa : ByteArray) (a : CX w B k t s h b p pa L) :
    Calls Tryz.prog 116 #[.pointer (some ⟨B, 0, none⟩)] w fun e w' => ∃ r, e = .returned (.bool r) ∧ ((∃ k', keptO L.data.toList = some k' ∧ r = true ∧ CX w' B k' t s h b p pa L) ∨ (keptO L.data.toList = none ∧ r = false ∧ CX w' B k t s h b p pa L)) ∧ Below B w w' := by
  have hlt := a.lt
  have hk := hlow.2.1.2
  have HG : Hid (LowIn B w) := Lib.hid hlow
  have c0 : w.cell? ⟨0, 0, none⟩ = some (.string ⟨#[39, 110, 111, 110, 101, 39]⟩) := hk 0 (by decide)
  have c1 : w.cell? ⟨0, 1, none⟩ = some (.int .i64 1) := hk 1 (by decide)
  have c2 : w.cell? ⟨0, 2, none⟩ = some (.string ⟨#[39, 115, 101, 108, 102, 39]⟩) := hk 2 (by decide)
  have c3 : w.cell? ⟨0, 3, none⟩ = some (.int .i64 2) := hk 3 (by decide)
  have c4 : w.cell? ⟨0, 4, none⟩ = some (.string ⟨#[39, 117, 110, 115, 97, 102, 101, 45, 105, 110, 108, 105, 110, 101, 39]⟩) := hk 4 (by decide)
  have c5 : w.cell? ⟨0, 5, none⟩ = some (.int .i64 3) := hk 5 (by decide)
  have c6 : w.cell? ⟨0, 6, none⟩ = some (.string ⟨#[39, 117, 110, 115, 97, 102, 101, 45, 101, 118, 97, 108, 39]⟩) := hk 6 (by decide)
  have c7 : w.cell? ⟨0, 7, none⟩ = some (.int .i64 4) := hk 7 (by decide)
  have c8 : w.cell? ⟨0, 8, none⟩ = some (.string ⟨#[39, 119, 97, 115, 109, 45, 117, 110, 115, 97, 102, 101, 45, 101, 118, 97, 108, 39]⟩) := hk 8 (by decide)
  have c9 : w.cell? ⟨0, 9, none⟩ = some (.int .i64 5) := hk 9 (by decide)
  have c10 : w.cell? ⟨0, 10, none⟩ = some (.string ⟨#[39, 115, 116, 114, 105, 99, 116, 45, 100, 121, 110, 97, 109, 105, 99, 39]⟩) := hk 10 (by decide)
  have c11 : w.cell? ⟨0, 11, none⟩ = some (.int .i64 6) := hk 11 (by decide)
  have c12 : w.cell? ⟨0, 12, none⟩ = some (.string ⟨#[39, 117, 110, 115, 97, 102, 101, 45, 104, 97, 115, 104, 101, 115, 39]⟩) := hk 12 (by decide)
  have c13 : w.cell? ⟨0, 13, none⟩ = some (.int .i64 7) := hk 13 (by decide)
  have c14 : w.cell? ⟨0, 14, none⟩ = some (.string ⟨#[39, 114, 101, 112, 111, 114, 116, 45, 115, 97, 109, 112, 108, 101, 39]⟩) := hk 14 (by decide)
  have c15 : w.cell? ⟨0, 15, none⟩ = some (.int .i64 8) := hk 15 (by decide)
  have CS0 := fun r hr => sameP_hid L ⟨#[39, 110, 111, 110, 101, 39]⟩ r hr (by omega) (by decide)
  have CS1 := fun r hr => sameP_hid L ⟨#[39, 115, 101, 108, 102, 39]⟩ r hr (by omega) (by decide)
  have CS2 := fun r hr => sameP_hid L ⟨#[39, 117, 110, 115, 97, 102, 101, 45, 105, 110, 108, 105, 110, 101, 39]⟩ r hr (by omega) (by decide)
  have CS3 := fun r hr => sameP_hid L ⟨#[39, 117, 110, 115, 97, 102, 101, 45, 101, 118, 97, 108, 39]⟩ r hr (by omega) (by decide)
  have CS4 := fun r hr => sameP_hid L ⟨#[39, 119, 97, 115, 109, 45, 117, 110, 115, 97, 102, 101, 45, 101, 118, 97, 108, 39]⟩ r hr (by omega) (by decide)
  have CS5 := fun r hr => sameP_hid L ⟨#[39, 115, 116, 114, 105, 99, 116, 45, 100, 121, 110, 97, 109, 105, 99, 39]⟩ r hr (by omega) (by decide)
  have CS6 := fun r hr => sameP_hid L ⟨#[39, 117, 110, 115, 97, 102, 101, 45, 104, 97, 115, 104, 101, 115, 39]⟩ r hr (by omega) (by decide)
  have CS7 := fun r hr => sameP_hid L ⟨#[39, 114, 101, 112, 111, 114, 116, 45, 115, 97, 109, 112, 108, 101, 39]⟩ r hr (by omega) (by decide)
  clear hk hlow
  go_enter Tryz.func116, Tryz.ntmps116
  go_wp2
  clear c0 c1 c2 c3 c4 c5 c6 c7 c8 c9 c10 c11 c12 c13 c14 c15
  go_loopw [6] (fun i wr => ∃ j : Nat, j ≤ 8 ∧ i = .int .i64 j ∧ Hid (∀ z : Int, 1 ≤ z → z ≤ (j : Int) → low L.data.toList ≠ keptM z) ∧ CX wr B k t s h b p pa L ∧ Below B w wr) (fun i _ => 8 - (intOf i).toNat)
  case atStart => exact ⟨0, by decide, rfl, Lib.hid (by intro z h1 h2; omega), a, Below.refl _ _⟩
  case round =>
    obtain ⟨j, hj, rfl, HN, ar, hb⟩ := hrel
    clear a hlt
    obtain rfl | rfl | rfl | rfl | rfl | rfl | rfl | rfl | rfl : j = 0 ∨ j = 1 ∨ j = 2 ∨ j = 3 ∨ j = 4 ∨ j = 5 ∨ j = 6 ∨ j = 7 ∨ j = 8 := by omega
    · have ix := kidx0
      obtain ⟨r, hr⟩ : ∃ r, decide (low L.data.toList = low (⟨#[39, 110, 111, 110, 101, 39]⟩ : ByteArray).data.toList) = r := ⟨_, rfl⟩
      have CS := CS0 r hr
      have HR : Hid (decide (low L.data.toList = keptM 1) = r) := Lib.hid hr
      clear CS0 CS1 CS2 CS3 CS4 CS5 CS6 CS7 hr
      go_wp2
      have xw := WX.made wr ⟨#[39, 110, 111, 110, 101, 39]⟩ 1
      have al : Below wr.heap.size wr (wr.alloc (.cells #[.string ⟨#[39, 110, 111, 110, 101, 39]⟩, .int .i64 1] 111)) := (Below.refl _ _).alloc (Nat.le_refl _) _
      have x2 := ar.below al
      have B2 := hb.trans (al.mono (Nat.le_of_lt ar.lt))
      have hne : wr.heap.size ≠ B := by have := ar.lt; omega
      generalize wr.heap.size = P at xw hne ⊢
      generalize wr.alloc (.cells #[.string ⟨#[39, 110, 111, 110, 101, 39]⟩, .int .i64 1] 111) = w2 at xw x2 B2 ⊢
      clear ar hb al
      obtain ⟨C, hC⟩ : ∃ C : World → Prop, ∀ w', C w' ↔ (CX w' B k t s h b p pa L ∧ WX w' P ⟨#[39, 110, 111, 110, 101, 39]⟩ 1 ∧ Below B w w') := ⟨_, fun _ => Iff.rfl⟩
      have HC := Lib.hid hC
      clear hC
      have hC0 : C w2.drew := (HC.out _).2 (⟨x2, xw, B2.drew⟩)
      have HK : Hid (∀ w', C w' → ∀ w7, Below w'.heap.size w' w7 → C w7) := Lib.hid fun w' hc w7 b => by
        obtain ⟨x7, y7, K7⟩ := (HC.out w').1 hc
        exact (HC.out _).2 ⟨x7.below b, y7.below b, K7.trans (b.mono (Nat.le_of_lt x7.lt))⟩
      refine region_class C (by kernel_rfl) (by kernel_rfl) hC0 ?_
      clear hC0
      repeat
        first
          | go_big_quiet_skip
          | (go_big_quiet_want; go_big_quiet_op; go_big_quiet_on)
          | (refine BigFrame.wpQuiet_want rfl (fun K hK => ?_)
             apply Exists.intro
             refine ⟨fun w' hc => ?_, hK _ ?_⟩
             · obtain ⟨x7, y7, K7⟩ := (HC.out w').1 hc
               have d7 := x7.c7
               have e0 := y7.c0
               unfold Oper.quietAt
               go_simp
               first
                 | done
                 | rfl
                 | ((with_reducible refine (CS.out _).mono ?_); rintro e w7 ⟨rfl, b7⟩; exact ⟨rfl, HK.out w' hc w7 b7⟩)
             clear hK K
             simp only [Act.put, List.setIfInBounds_toArray, List.set_cons_zero, List.set_cons_succ])
      refine wpQuiet_nil ?_
      intro w3 hc
      obtain ⟨xw3, yw3, Kw3⟩ := (HC.out w3).1 hc
      clear hc HC HK

      clear xw x2 B2
      have d7 := xw3.c7
      have e1 := yw3.c1
      have f0 := xw3.free 0
      have a3 := xw3.set0 1
      have B3 := Kw3.setCell (p := ⟨B, 0, none⟩) (Nat.le_refl _) (.int .i64 1)
      have d0 := xw3.c0
      cases r
      · have HN2 : Hid (∀ z : Int, 1 ≤ z → z ≤ (1 : Nat) → low L.data.toList ≠ keptM z) := Lib.hid (by
          intro z h1 h2 e
          by_cases h3 : z ≤ 0
          · exact HN.out z h1 (by simpa using h3) e
          · have : z = 1 := by omega
            subst this
            exact absurd e (of_decide_eq_false HR.out))
        clear HN HR a3 B3
        go_wp2
        go_roundw
        case rel => exact ⟨1, by decide, rfl, HN2, xw3, Kw3⟩
        case measure => decide
      · have HE : Hid (keptO L.data.toList = some 1) := Lib.hid (kept_at1 (fun z h1 h2 => HN.out z h1 (by simpa using h2)) (of_decide_eq_true HR.out))
        clear HN HR
        go_wp2
        go_ret
        exact ⟨_, rfl, .inl ⟨_, HE.out, rfl, a3⟩, B3⟩
    · have ix := kidx1
      obtain ⟨r, hr⟩ : ∃ r, decide (low L.data.toList = low (⟨#[39, 115, 101, 108, 102, 39]⟩ : ByteArray).data.toList) = r := ⟨_, rfl⟩
      have CS := CS1 r hr
      have HR : Hid (decide (low L.data.toList = keptM 2) = r) := Lib.hid hr
      clear CS0 CS1 CS2 CS3 CS4 CS5 CS6 CS7 hr
      go_wp2
      have xw := WX.made wr ⟨#[39, 115, 101, 108, 102, 39]⟩ 2
      have al : Below wr.heap.size wr (wr.alloc (.cells #[.string ⟨#[39, 115, 101, 108, 102, 39]⟩, .int .i64 2] 111)) := (Below.refl _ _).alloc (Nat.le_refl _) _
      have x2 := ar.below al
      have B2 := hb.trans (al.mono (Nat.le_of_lt ar.lt))
      have hne : wr.heap.size ≠ B := by have := ar.lt; omega
      generalize wr.heap.size = P at xw hne ⊢
      generalize wr.alloc (.cells #[.string ⟨#[39, 115, 101, 108, 102, 39]⟩, .int .i64 2] 111) = w2 at xw x2 B2 ⊢
      clear ar hb al
      obtain ⟨C, hC⟩ : ∃ C : World → Prop, ∀ w', C w' ↔ (CX w' B k t s h b p pa L ∧ WX w' P ⟨#[39, 115, 101, 108, 102, 39]⟩ 2 ∧ Below B w w') := ⟨_, fun _ => Iff.rfl⟩
      have HC := Lib.hid hC
      clear hC
      have hC0 : C w2.drew := (HC.out _).2 (⟨x2, xw, B2.drew⟩)
      have HK : Hid (∀ w', C w' → ∀ w7, Below w'.heap.size w' w7 → C w7) := Lib.hid fun w' hc w7 b => by
        obtain ⟨x7, y7, K7⟩ := (HC.out w').1 hc
        exact (HC.out _).2 ⟨x7.below b, y7.below b, K7.trans (b.mono (Nat.le_of_lt x7.lt))⟩
      refine region_class C (by kernel_rfl) (by kernel_rfl) hC0 ?_
      clear hC0
      repeat
        first
          | go_big_quiet_skip
          | (go_big_quiet_want; go_big_quiet_op; go_big_quiet_on)
          | (refine BigFrame.wpQuiet_want rfl (fun K hK => ?_)
             apply Exists.intro
             refine ⟨fun w' hc => ?_, hK _ ?_⟩
             · obtain ⟨x7, y7, K7⟩ := (HC.out w').1 hc
               have d7 := x7.c7
               have e0 := y7.c0
               unfold Oper.quietAt
               go_simp
               first
                 | done
                 | rfl
                 | ((with_reducible refine (CS.out _).mono ?_); rintro e w7 ⟨rfl, b7⟩; exact ⟨rfl, HK.out w' hc w7 b7⟩)
             clear hK K
             simp only [Act.put, List.setIfInBounds_toArray, List.set_cons_zero, List.set_cons_succ])
      refine wpQuiet_nil ?_
      intro w3 hc
      obtain ⟨xw3, yw3, Kw3⟩ := (HC.out w3).1 hc
      clear hc HC HK

      clear xw x2 B2
      have d7 := xw3.c7
      have e1 := yw3.c1
      have f0 := xw3.free 0
      have a3 := xw3.set0 2
      have B3 := Kw3.setCell (p := ⟨B, 0, none⟩) (Nat.le_refl _) (.int .i64 2)
      have d0 := xw3.c0
      cases r
      · have HN2 : Hid (∀ z : Int, 1 ≤ z → z ≤ (2 : Nat) → low L.data.toList ≠ keptM z) := Lib.hid (by
          intro z h1 h2 e
          by_cases h3 : z ≤ 1
          · exact HN.out z h1 (by simpa using h3) e
          · have : z = 2 := by omega
            subst this
            exact absurd e (of_decide_eq_false HR.out))
        clear HN HR a3 B3
        go_wp2
        go_roundw
        case rel => exact ⟨2, by decide, rfl, HN2, xw3, Kw3⟩
        case measure => decide
      · have HE : Hid (keptO L.data.toList = some 2) := Lib.hid (kept_at2 (fun z h1 h2 => HN.out z h1 (by simpa using h2)) (of_decide_eq_true HR.out))
        clear HN HR
        go_wp2
        go_ret
        exact ⟨_, rfl, .inl ⟨_, HE.out, rfl, a3⟩, B3⟩
    · have ix := kidx2
      obtain ⟨r, hr⟩ : ∃ r, decide (low L.data.toList = low (⟨#[39, 117, 110, 115, 97, 102, 101, 45, 105, 110, 108, 105, 110, 101, 39]⟩ : ByteArray).data.toList) = r := ⟨_, rfl⟩
      have CS := CS2 r hr
      have HR : Hid (decide (low L.data.toList = keptM 3) = r) := Lib.hid hr
      clear CS0 CS1 CS2 CS3 CS4 CS5 CS6 CS7 hr
      go_wp2
      have xw := WX.made wr ⟨#[39, 117, 110, 115, 97, 102, 101, 45, 105, 110, 108, 105, 110, 101, 39]⟩ 3
      have al : Below wr.heap.size wr (wr.alloc (.cells #[.string ⟨#[39, 117, 110, 115, 97, 102, 101, 45, 105, 110, 108, 105, 110, 101, 39]⟩, .int .i64 3] 111)) := (Below.refl _ _).alloc (Nat.le_refl _) _
      have x2 := ar.below al
      have B2 := hb.trans (al.mono (Nat.le_of_lt ar.lt))
      have hne : wr.heap.size ≠ B := by have := ar.lt; omega
      generalize wr.heap.size = P at xw hne ⊢
      generalize wr.alloc (.cells #[.string ⟨#[39, 117, 110, 115, 97, 102, 101, 45, 105, 110, 108, 105, 110, 101, 39]⟩, .int .i64 3] 111) = w2 at xw x2 B2 ⊢
      clear ar hb al
      obtain ⟨C, hC⟩ : ∃ C : World → Prop, ∀ w', C w' ↔ (CX w' B k t s h b p pa L ∧ WX w' P ⟨#[39, 117, 110, 115, 97, 102, 101, 45, 105, 110, 108, 105, 110, 101, 39]⟩ 3 ∧ Below B w w') := ⟨_, fun _ => Iff.rfl⟩
      have HC := Lib.hid hC
      clear hC
      have hC0 : C w2.drew := (HC.out _).2 (⟨x2, xw, B2.drew⟩)
      have HK : Hid (∀ w', C w' → ∀ w7, Below w'.heap.size w' w7 → C w7) := Lib.hid fun w' hc w7 b => by
        obtain ⟨x7, y7, K7⟩ := (HC.out w').1 hc
        exact (HC.out _).2 ⟨x7.below b, y7.below b, K7.trans (b.mono (Nat.le_of_lt x7.lt))⟩
      refine region_class C (by kernel_rfl) (by kernel_rfl) hC0 ?_
      clear hC0
      repeat
        first
          | go_big_quiet_skip
          | (go_big_quiet_want; go_big_quiet_op; go_big_quiet_on)
          | (refine BigFrame.wpQuiet_want rfl (fun K hK => ?_)
             apply Exists.intro
             refine ⟨fun w' hc => ?_, hK _ ?_⟩
             · obtain ⟨x7, y7, K7⟩ := (HC.out w').1 hc
               have d7 := x7.c7
               have e0 := y7.c0
               unfold Oper.quietAt
               go_simp
               first
                 | done
                 | rfl
                 | ((with_reducible refine (CS.out _).mono ?_); rintro e w7 ⟨rfl, b7⟩; exact ⟨rfl, HK.out w' hc w7 b7⟩)
             clear hK K
             simp only [Act.put, List.setIfInBounds_toArray, List.set_cons_zero, List.set_cons_succ])
      refine wpQuiet_nil ?_
      intro w3 hc
      obtain ⟨xw3, yw3, Kw3⟩ := (HC.out w3).1 hc
      clear hc HC HK

      clear xw x2 B2
      have d7 := xw3.c7
      have e1 := yw3.c1
      have f0 := xw3.free 0
      have a3 := xw3.set0 3
      have B3 := Kw3.setCell (p := ⟨B, 0, none⟩) (Nat.le_refl _) (.int .i64 3)
      have d0 := xw3.c0
      cases r
      · have HN2 : Hid (∀ z : Int, 1 ≤ z → z ≤ (3 : Nat) → low L.data.toList ≠ keptM z) := Lib.hid (by
          intro z h1 h2 e
          by_cases h3 : z ≤ 2
          · exact HN.out z h1 (by simpa using h3) e
          · have : z = 3 := by omega
            subst this
            exact absurd e (of_decide_eq_false HR.out))
        clear HN HR a3 B3
        go_wp2
        go_roundw
        case rel => exact ⟨3, by decide, rfl, HN2, xw3, Kw3⟩
        case measure => decide
      · have HE : Hid (keptO L.data.toList = some 3) := Lib.hid (kept_at3 (fun z h1 h2 => HN.out z h1 (by simpa using h2)) (of_decide_eq_true HR.out))
        clear HN HR
        go_wp2
        go_ret
        exact ⟨_, rfl, .inl ⟨_, HE.out, rfl, a3⟩, B3⟩
    · have ix := kidx3
      obtain ⟨r, hr⟩ : ∃ r, decide (low L.data.toList = low (⟨#[39, 117, 110, 115, 97, 102, 101, 45, 101, 118, 97, 108, 39]⟩ : ByteArray).data.toList) = r := ⟨_, rfl⟩
      have CS := CS3 r hr
      have HR : Hid (decide (low L.data.toList = keptM 4) = r) := Lib.hid hr
      clear CS0 CS1 CS2 CS3 CS4 CS5 CS6 CS7 hr
      go_wp2
      have xw := WX.made wr ⟨#[39, 117, 110, 115, 97, 102, 101, 45, 101, 118, 97, 108, 39]⟩ 4
      have al : Below wr.heap.size wr (wr.alloc (.cells #[.string ⟨#[39, 117, 110, 115, 97, 102, 101, 45, 101, 118, 97, 108, 39]⟩, .int .i64 4] 111)) := (Below.refl _ _).alloc (Nat.le_refl _) _
      have x2 := ar.below al
      have B2 := hb.trans (al.mono (Nat.le_of_lt ar.lt))
      have hne : wr.heap.size ≠ B := by have := ar.lt; omega
      generalize wr.heap.size = P at xw hne ⊢
      generalize wr.alloc (.cells #[.string ⟨#[39, 117, 110, 115, 97, 102, 101, 45, 101, 118, 97, 108, 39]⟩, .int .i64 4] 111) = w2 at xw x2 B2 ⊢
      clear ar hb al
      obtain ⟨C, hC⟩ : ∃ C : World → Prop, ∀ w', C w' ↔ (CX w' B k t s h b p pa L ∧ WX w' P ⟨#[39, 117, 110, 115, 97, 102, 101, 45, 101, 118, 97, 108, 39]⟩ 4 ∧ Below B w w') := ⟨_, fun _ => Iff.rfl⟩
      have HC := Lib.hid hC
      clear hC
      have hC0 : C w2.drew := (HC.out _).2 (⟨x2, xw, B2.drew⟩)
      have HK : Hid (∀ w', C w' → ∀ w7, Below w'.heap.size w' w7 → C w7) := Lib.hid fun w' hc w7 b => by
        obtain ⟨x7, y7, K7⟩ := (HC.out w').1 hc
        exact (HC.out _).2 ⟨x7.below b, y7.below b, K7.trans (b.mono (Nat.le_of_lt x7.lt))⟩
      refine region_class C (by kernel_rfl) (by kernel_rfl) hC0 ?_
      clear hC0
      repeat
        first
          | go_big_quiet_skip
          | (go_big_quiet_want; go_big_quiet_op; go_big_quiet_on)
          | (refine BigFrame.wpQuiet_want rfl (fun K hK => ?_)
             apply Exists.intro
             refine ⟨fun w' hc => ?_, hK _ ?_⟩
             · obtain ⟨x7, y7, K7⟩ := (HC.out w').1 hc
               have d7 := x7.c7
               have e0 := y7.c0
               unfold Oper.quietAt
               go_simp
               first
                 | done
                 | rfl
                 | ((with_reducible refine (CS.out _).mono ?_); rintro e w7 ⟨rfl, b7⟩; exact ⟨rfl, HK.out w' hc w7 b7⟩)
             clear hK K
             simp only [Act.put, List.setIfInBounds_toArray, List.set_cons_zero, List.set_cons_succ])
      refine wpQuiet_nil ?_
      intro w3 hc
      obtain ⟨xw3, yw3, Kw3⟩ := (HC.out w3).1 hc
      clear hc HC HK

      clear xw x2 B2
      have d7 := xw3.c7
      have e1 := yw3.c1
      have f0 := xw3.free 0
      have a3 := xw3.set0 4
      have B3 := Kw3.setCell (p := ⟨B, 0, none⟩) (Nat.le_refl _) (.int .i64 4)
      have d0 := xw3.c0
      cases r
      · have HN2 : Hid (∀ z : Int, 1 ≤ z → z ≤ (4 : Nat) → low L.data.toList ≠ keptM z) := Lib.hid (by
          intro z h1 h2 e
          by_cases h3 : z ≤ 3
          · exact HN.out z h1 (by simpa using h3) e
          · have : z = 4 := by omega
            subst this
            exact absurd e (of_decide_eq_false HR.out))
        clear HN HR a3 B3
        go_wp2
        go_roundw
        case rel => exact ⟨4, by decide, rfl, HN2, xw3, Kw3⟩
        case measure => decide
      · have HE : Hid (keptO L.data.toList = some 4) := Lib.hid (kept_at4 (fun z h1 h2 => HN.out z h1 (by simpa using h2)) (of_decide_eq_true HR.out))
        clear HN HR
        go_wp2
        go_ret
        exact ⟨_, rfl, .inl ⟨_, HE.out, rfl, a3⟩, B3⟩
    · have ix := kidx4
      obtain ⟨r, hr⟩ : ∃ r, decide (low L.data.toList = low (⟨#[39, 119, 97, 115, 109, 45, 117, 110, 115, 97, 102, 101, 45, 101, 118, 97, 108, 39]⟩ : ByteArray).data.toList) = r := ⟨_, rfl⟩
      have CS := CS4 r hr
      have HR : Hid (decide (low L.data.toList = keptM 5) = r) := Lib.hid hr
      clear CS0 CS1 CS2 CS3 CS4 CS5 CS6 CS7 hr
      go_wp2
      have xw := WX.made wr ⟨#[39, 119, 97, 115, 109, 45, 117, 110, 115, 97, 102, 101, 45, 101, 118, 97, 108, 39]⟩ 5
      have al : Below wr.heap.size wr (wr.alloc (.cells #[.string ⟨#[39, 119, 97, 115, 109, 45, 117, 110, 115, 97, 102, 101, 45, 101, 118, 97, 108, 39]⟩, .int .i64 5] 111)) := (Below.refl _ _).alloc (Nat.le_refl _) _
      have x2 := ar.below al
      have B2 := hb.trans (al.mono (Nat.le_of_lt ar.lt))
      have hne : wr.heap.size ≠ B := by have := ar.lt; omega
      generalize wr.heap.size = P at xw hne ⊢
      generalize wr.alloc (.cells #[.string ⟨#[39, 119, 97, 115, 109, 45, 117, 110, 115, 97, 102, 101, 45, 101, 118, 97, 108, 39]⟩, .int .i64 5] 111) = w2 at xw x2 B2 ⊢
      clear ar hb al
      obtain ⟨C, hC⟩ : ∃ C : World → Prop, ∀ w', C w' ↔ (CX w' B k t s h b p pa L ∧ WX w' P ⟨#[39, 119, 97, 115, 109, 45, 117, 110, 115, 97, 102, 101, 45, 101, 118, 97, 108, 39]⟩ 5 ∧ Below B w w') := ⟨_, fun _ => Iff.rfl⟩
      have HC := Lib.hid hC
      clear hC
      have hC0 : C w2.drew := (HC.out _).2 (⟨x2, xw, B2.drew⟩)
      have HK : Hid (∀ w', C w' → ∀ w7, Below w'.heap.size w' w7 → C w7) := Lib.hid fun w' hc w7 b => by
        obtain ⟨x7, y7, K7⟩ := (HC.out w').1 hc
        exact (HC.out _).2 ⟨x7.below b, y7.below b, K7.trans (b.mono (Nat.le_of_lt x7.lt))⟩
      refine region_class C (by kernel_rfl) (by kernel_rfl) hC0 ?_
      clear hC0
      repeat
        first
          | go_big_quiet_skip
          | (go_big_quiet_want; go_big_quiet_op; go_big_quiet_on)
          | (refine BigFrame.wpQuiet_want rfl (fun K hK => ?_)
             apply Exists.intro
             refine ⟨fun w' hc => ?_, hK _ ?_⟩
             · obtain ⟨x7, y7, K7⟩ := (HC.out w').1 hc
               have d7 := x7.c7
               have e0 := y7.c0
               unfold Oper.quietAt
               go_simp
               first
                 | done
                 | rfl
                 | ((with_reducible refine (CS.out _).mono ?_); rintro e w7 ⟨rfl, b7⟩; exact ⟨rfl, HK.out w' hc w7 b7⟩)
             clear hK K
             simp only [Act.put, List.setIfInBounds_toArray, List.set_cons_zero, List.set_cons_succ])
      refine wpQuiet_nil ?_
      intro w3 hc
      obtain ⟨xw3, yw3, Kw3⟩ := (HC.out w3).1 hc
      clear hc HC HK

      clear xw x2 B2
      have d7 := xw3.c7
      have e1 := yw3.c1
      have f0 := xw3.free 0
      have a3 := xw3.set0 5
      have B3 := Kw3.setCell (p := ⟨B, 0, none⟩) (Nat.le_refl _) (.int .i64 5)
      have d0 := xw3.c0
      cases r
      · have HN2 : Hid (∀ z : Int, 1 ≤ z → z ≤ (5 : Nat) → low L.data.toList ≠ keptM z) := Lib.hid (by
          intro z h1 h2 e
          by_cases h3 : z ≤ 4
          · exact HN.out z h1 (by simpa using h3) e
          · have : z = 5 := by omega
            subst this
            exact absurd e (of_decide_eq_false HR.out))
        clear HN HR a3 B3
        go_wp2
        go_roundw
        case rel => exact ⟨5, by decide, rfl, HN2, xw3, Kw3⟩
        case measure => decide
      · have HE : Hid (keptO L.data.toList = some 5) := Lib.hid (kept_at5 (fun z h1 h2 => HN.out z h1 (by simpa using h2)) (of_decide_eq_true HR.out))
        clear HN HR
        go_wp2
        go_ret
        exact ⟨_, rfl, .inl ⟨_, HE.out, rfl, a3⟩, B3⟩
    · have ix := kidx5
      obtain ⟨r, hr⟩ : ∃ r, decide (low L.data.toList = low (⟨#[39, 115, 116, 114, 105, 99, 116, 45, 100, 121, 110, 97, 109, 105, 99, 39]⟩ : ByteArray).data.toList) = r := ⟨_, rfl⟩
      have CS := CS5 r hr
      have HR : Hid (decide (low L.data.toList = keptM 6) = r) := Lib.hid hr
      clear CS0 CS1 CS2 CS3 CS4 CS5 CS6 CS7 hr
      go_wp2
      have xw := WX.made wr ⟨#[39, 115, 116, 114, 105, 99, 116, 45, 100, 121, 110, 97, 109, 105, 99, 39]⟩ 6
      have al : Below wr.heap.size wr (wr.alloc (.cells #[.string ⟨#[39, 115, 116, 114, 105, 99, 116, 45, 100, 121, 110, 97, 109, 105, 99, 39]⟩, .int .i64 6] 111)) := (Below.refl _ _).alloc (Nat.le_refl _) _
      have x2 := ar.below al
      have B2 := hb.trans (al.mono (Nat.le_of_lt ar.lt))
      have hne : wr.heap.size ≠ B := by have := ar.lt; omega
      generalize wr.heap.size = P at xw hne ⊢
      generalize wr.alloc (.cells #[.string ⟨#[39, 115, 116, 114, 105, 99, 116, 45, 100, 121, 110, 97, 109, 105, 99, 39]⟩, .int .i64 6] 111) = w2 at xw x2 B2 ⊢
      clear ar hb al
      obtain ⟨C, hC⟩ : ∃ C : World → Prop, ∀ w', C w' ↔ (CX w' B k t s h b p pa L ∧ WX w' P ⟨#[39, 115, 116, 114, 105, 99, 116, 45, 100, 121, 110, 97, 109, 105, 99, 39]⟩ 6 ∧ Below B w w') := ⟨_, fun _ => Iff.rfl⟩
      have HC := Lib.hid hC
      clear hC
      have hC0 : C w2.drew := (HC.out _).2 (⟨x2, xw, B2.drew⟩)
      have HK : Hid (∀ w', C w' → ∀ w7, Below w'.heap.size w' w7 → C w7) := Lib.hid fun w' hc w7 b => by
        obtain ⟨x7, y7, K7⟩ := (HC.out w').1 hc
        exact (HC.out _).2 ⟨x7.below b, y7.below b, K7.trans (b.mono (Nat.le_of_lt x7.lt))⟩
      refine region_class C (by kernel_rfl) (by kernel_rfl) hC0 ?_
      clear hC0
      repeat
        first
          | go_big_quiet_skip
          | (go_big_quiet_want; go_big_quiet_op; go_big_quiet_on)
          | (refine BigFrame.wpQuiet_want rfl (fun K hK => ?_)
             apply Exists.intro
             refine ⟨fun w' hc => ?_, hK _ ?_⟩
             · obtain ⟨x7, y7, K7⟩ := (HC.out w').1 hc
               have d7 := x7.c7
               have e0 := y7.c0
               unfold Oper.quietAt
               go_simp
               first
                 | done
                 | rfl
                 | ((with_reducible refine (CS.out _).mono ?_); rintro e w7 ⟨rfl, b7⟩; exact ⟨rfl, HK.out w' hc w7 b7⟩)
             clear hK K
             simp only [Act.put, List.setIfInBounds_toArray, List.set_cons_zero, List.set_cons_succ])
      refine wpQuiet_nil ?_
      intro w3 hc
      obtain ⟨xw3, yw3, Kw3⟩ := (HC.out w3).1 hc
      clear hc HC HK

      clear xw x2 B2
      have d7 := xw3.c7
      have e1 := yw3.c1
      have f0 := xw3.free 0
      have a3 := xw3.set0 6
      have B3 := Kw3.setCell (p := ⟨B, 0, none⟩) (Nat.le_refl _) (.int .i64 6)
      have d0 := xw3.c0
      cases r
      · have HN2 : Hid (∀ z : Int, 1 ≤ z → z ≤ (6 : Nat) → low L.data.toList ≠ keptM z) := Lib.hid (by
          intro z h1 h2 e
          by_cases h3 : z ≤ 5
          · exact HN.out z h1 (by simpa using h3) e
          · have : z = 6 := by omega
            subst this
            exact absurd e (of_decide_eq_false HR.out))
        clear HN HR a3 B3
        go_wp2
        go_roundw
        case rel => exact ⟨6, by decide, rfl, HN2, xw3, Kw3⟩
        case measure => decide
      · have HE : Hid (keptO L.data.toList = some 6) := Lib.hid (kept_at6 (fun z h1 h2 => HN.out z h1 (by simpa using h2)) (of_decide_eq_true HR.out))
        clear HN HR
        go_wp2
        go_ret
        exact ⟨_, rfl, .inl ⟨_, HE.out, rfl, a3⟩, B3⟩
    · have ix := kidx6
      obtain ⟨r, hr⟩ : ∃ r, decide (low L.data.toList = low (⟨#[39, 117, 110, 115, 97, 102, 101, 45, 104, 97, 115, 104, 101, 115, 39]⟩ : ByteArray).data.toList) = r := ⟨_, rfl⟩
      have CS := CS6 r hr
      have HR : Hid (decide (low L.data.toList = keptM 7) = r) := Lib.hid hr
      clear CS0 CS1 CS2 CS3 CS4 CS5 CS6 CS7 hr
      go_wp2
      have xw := WX.made wr ⟨#[39, 117, 110, 115, 97, 102, 101, 45, 104, 97, 115, 104, 101, 115, 39]⟩ 7
      have al : Below wr.heap.size wr (wr.alloc (.cells #[.string ⟨#[39, 117, 110, 115, 97, 102, 101, 45, 104, 97, 115, 104, 101, 115, 39]⟩, .int .i64 7] 111)) := (Below.refl _ _).alloc (Nat.le_refl _) _
      have x2 := ar.below al
      have B2 := hb.trans (al.mono (Nat.le_of_lt ar.lt))
      have hne : wr.heap.size ≠ B := by have := ar.lt; omega
      generalize wr.heap.size = P at xw hne ⊢
      generalize wr.alloc (.cells #[.string ⟨#[39, 117, 110, 115, 97, 102, 101, 45, 104, 97, 115, 104, 101, 115, 39]⟩, .int .i64 7] 111) = w2 at xw x2 B2 ⊢
      clear ar hb al
      obtain ⟨C, hC⟩ : ∃ C : World → Prop, ∀ w', C w' ↔ (CX w' B k t s h b p pa L ∧ WX w' P ⟨#[39, 117, 110, 115, 97, 102, 101, 45, 104, 97, 115, 104, 101, 115, 39]⟩ 7 ∧ Below B w w') := ⟨_, fun _ => Iff.rfl⟩
      have HC := Lib.hid hC
      clear hC
      have hC0 : C w2.drew := (HC.out _).2 (⟨x2, xw, B2.drew⟩)
      have HK : Hid (∀ w', C w' → ∀ w7, Below w'.heap.size w' w7 → C w7) := Lib.hid fun w' hc w7 b => by
        obtain ⟨x7, y7, K7⟩ := (HC.out w').1 hc
        exact (HC.out _).2 ⟨x7.below b, y7.below b, K7.trans (b.mono (Nat.le_of_lt x7.lt))⟩
      refine region_class C (by kernel_rfl) (by kernel_rfl) hC0 ?_
      clear hC0
      repeat
        first
          | go_big_quiet_skip
          | (go_big_quiet_want; go_big_quiet_op; go_big_quiet_on)
          | (refine BigFrame.wpQuiet_want rfl (fun K hK => ?_)
             apply Exists.intro
             refine ⟨fun w' hc => ?_, hK _ ?_⟩
             · obtain ⟨x7, y7, K7⟩ := (HC.out w').1 hc
               have d7 := x7.c7
               have e0 := y7.c0
               unfold Oper.quietAt
               go_simp
               first
                 | done
                 | rfl
                 | ((with_reducible refine (CS.out _).mono ?_); rintro e w7 ⟨rfl, b7⟩; exact ⟨rfl, HK.out w' hc w7 b7⟩)
             clear hK K
             simp only [Act.put, List.setIfInBounds_toArray, List.set_cons_zero, List.set_cons_succ])
      refine wpQuiet_nil ?_
      intro w3 hc
      obtain ⟨xw3, yw3, Kw3⟩ := (HC.out w3).1 hc
      clear hc HC HK

      clear xw x2 B2
      have d7 := xw3.c7
      have e1 := yw3.c1
      have f0 := xw3.free 0
      have a3 := xw3.set0 7
      have B3 := Kw3.setCell (p := ⟨B, 0, none⟩) (Nat.le_refl _) (.int .i64 7)
      have d0 := xw3.c0
      cases r
      · have HN2 : Hid (∀ z : Int, 1 ≤ z → z ≤ (7 : Nat) → low L.data.toList ≠ keptM z) := Lib.hid (by
          intro z h1 h2 e
          by_cases h3 : z ≤ 6
          · exact HN.out z h1 (by simpa using h3) e
          · have : z = 7 := by omega
            subst this
            exact absurd e (of_decide_eq_false HR.out))
        clear HN HR a3 B3
        go_wp2
        go_roundw
        case rel => exact ⟨7, by decide, rfl, HN2, xw3, Kw3⟩
        case measure => decide
      · have HE : Hid (keptO L.data.toList = some 7) := Lib.hid (kept_at7 (fun z h1 h2 => HN.out z h1 (by simpa using h2)) (of_decide_eq_true HR.out))
        clear HN HR
        go_wp2
        go_ret
        exact ⟨_, rfl, .inl ⟨_, HE.out, rfl, a3⟩, B3⟩
    · have ix := kidx7
      obtain ⟨r, hr⟩ : ∃ r, decide (low L.data.toList = low (⟨#[39, 114, 101, 112, 111, 114, 116, 45, 115, 97, 109, 112, 108, 101, 39]⟩ : ByteArray).data.toList) = r := ⟨_, rfl⟩
      have CS := CS7 r hr
      have HR : Hid (decide (low L.data.toList = keptM 8) = r) := Lib.hid hr
      clear CS0 CS1 CS2 CS3 CS4 CS5 CS6 CS7 hr
      go_wp2
      have xw := WX.made wr ⟨#[39, 114, 101, 112, 111, 114, 116, 45, 115, 97, 109, 112, 108, 101, 39]⟩ 8
      have al : Below wr.heap.size wr (wr.alloc (.cells #[.string ⟨#[39, 114, 101, 112, 111, 114, 116, 45, 115, 97, 109, 112, 108, 101, 39]⟩, .int .i64 8] 111)) := (Below.refl _ _).alloc (Nat.le_refl _) _
      have x2 := ar.below al
      have B2 := hb.trans (al.mono (Nat.le_of_lt ar.lt))
      have hne : wr.heap.size ≠ B := by have := ar.lt; omega
      generalize wr.heap.size = P at xw hne ⊢
      generalize wr.alloc (.cells #[.string ⟨#[39, 114, 101, 112, 111, 114, 116, 45, 115, 97, 109, 112, 108, 101, 39]⟩, .int .i64 8] 111) = w2 at xw x2 B2 ⊢
      clear ar hb al
      obtain ⟨C, hC⟩ : ∃ C : World → Prop, ∀ w', C w' ↔ (CX w' B k t s h b p pa L ∧ WX w' P ⟨#[39, 114, 101, 112, 111, 114, 116, 45, 115, 97, 109, 112, 108, 101, 39]⟩ 8 ∧ Below B w w') := ⟨_, fun _ => Iff.rfl⟩
      have HC := Lib.hid hC
      clear hC
      have hC0 : C w2.drew := (HC.out _).2 (⟨x2, xw, B2.drew⟩)
      have HK : Hid (∀ w', C w' → ∀ w7, Below w'.heap.size w' w7 → C w7) := Lib.hid fun w' hc w7 b => by
        obtain ⟨x7, y7, K7⟩ := (HC.out w').1 hc
        exact (HC.out _).2 ⟨x7.below b, y7.below b, K7.trans (b.mono (Nat.le_of_lt x7.lt))⟩
      refine region_class C (by kernel_rfl) (by kernel_rfl) hC0 ?_
      clear hC0
      repeat
        first
          | go_big_quiet_skip
          | (go_big_quiet_want; go_big_quiet_op; go_big_quiet_on)
          | (refine BigFrame.wpQuiet_want rfl (fun K hK => ?_)
             apply Exists.intro
             refine ⟨fun w' hc => ?_, hK _ ?_⟩
             · obtain ⟨x7, y7, K7⟩ := (HC.out w').1 hc
               have d7 := x7.c7
               have e0 := y7.c0
               unfold Oper.quietAt
               go_simp
               first
                 | done
                 | rfl
                 | ((with_reducible refine (CS.out _).mono ?_); rintro e w7 ⟨rfl, b7⟩; exact ⟨rfl, HK.out w' hc w7 b7⟩)
             clear hK K
             simp only [Act.put, List.setIfInBounds_toArray, List.set_cons_zero, List.set_cons_succ])
      refine wpQuiet_nil ?_
      intro w3 hc
      obtain ⟨xw3, yw3, Kw3⟩ := (HC.out w3).1 hc
      clear hc HC HK

      clear xw x2 B2
      have d7 := xw3.c7
      have e1 := yw3.c1
      have f0 := xw3.free 0
      have a3 := xw3.set0 8
      have B3 := Kw3.setCell (p := ⟨B, 0, none⟩) (Nat.le_refl _) (.int .i64 8)
      have d0 := xw3.c0
      cases r
      · have HN2 : Hid (∀ z : Int, 1 ≤ z → z ≤ (8 : Nat) → low L.data.toList ≠ keptM z) := Lib.hid (by
          intro z h1 h2 e
          by_cases h3 : z ≤ 7
          · exact HN.out z h1 (by simpa using h3) e
          · have : z = 8 := by omega
            subst this
            exact absurd e (of_decide_eq_false HR.out))
        clear HN HR a3 B3
        go_wp2
        go_roundw
        case rel => exact ⟨8, by decide, rfl, HN2, xw3, Kw3⟩
        case measure => decide
      · have HE : Hid (keptO L.data.toList = some 8) := Lib.hid (kept_at8 (fun z h1 h2 => HN.out z h1 (by simpa using h2)) (of_decide_eq_true HR.out))
        clear HN HR
        go_wp2
        go_ret
        exact ⟨_, rfl, .inl ⟨_, HE.out, rfl, a3⟩, B3⟩
    · have HE : Hid (keptO L.data.toList = none) := Lib.hid (kept_none fun z h1 h2 => HN.out z h1 (by simpa using h2))
      clear HN CS0 CS1 CS2 CS3 CS4 CS5 CS6 CS7
      go_wp2
      go_ret
      exact ⟨_, rfl, .inr ⟨HE.out, rfl, ar⟩, hb⟩

end Go.Proofs.YtaldjkbnngeahaaGreatDoor

namespace Go.Proofs.YtaldjkbnngeahaaGreatDoor
open Go.RowKit

theorem suffix_one (l : List UInt8) (c : UInt8) : Lib.hasSuffix l [c] = decide (l.getLast? = some c) := by
  unfold Lib.hasSuffix
  rw [Bool.eq_iff_iff, List.isSuffixOf_iff_suffix, decide_eq_true_eq]
  constructor
  · rintro ⟨a, rfl⟩
    simp
  · intro h
    have hne : l ≠ [] := by intro e; rw [e] at h; cases h
    rw [List.getLast?_eq_some_getLast hne] at h
    exact ⟨l.dropLast, by rw [← Option.some.inj h]; exact List.dropLast_concat_getLast hne⟩
theorem trim_one (l : List UInt8) (c : UInt8) : Lib.trimSuffix l [c] = if l.getLast? = some c then l.dropLast else l := by
  unfold Lib.trimSuffix
  rw [suffix_one]
  by_cases h : l.getLast? = some c
  · rw [if_pos (decide_eq_true h), if_pos h, List.dropLast_eq_take]
    rfl
  · rw [if_neg (by simpa using h), if_neg h]
theorem prefix_one (l : List UInt8) (c : UInt8) : Lib.hasPrefix l [c] = decide (l.head? = some c) := by
  unfold Lib.hasPrefix
  cases l with
  | nil => rfl
  | cons b l =>
    rw [isPrefixOf_one, Bool.eq_iff_iff, decide_eq_true_eq, beq_iff_eq, List.head?_cons, Option.some.injEq]
    exact eq_comm
/-- Every source is one of texts. -/
theorem src_of (a : Src) : ∃ t s h pa : ByteArray, a = srcM a.k t s h a.w a.p pa :=
  ⟨⟨a.t.toArray⟩, ⟨a.s.toArray⟩, ⟨a.h.toArray⟩, ⟨a.pa.toArray⟩, rfl⟩

set_option maxRecDepth 100000 in
set_option maxHeartbeats 4000000 in
/-- What a text that begins with a quote is, but for the kept words. -/
theorem cutQ_any (L M : ByteArray) (r : Bool) (hr : decide (L.data.toList.getLast? = some 39) = r) (hM : M.data.toList = if L.data.toList.getLast? = some 39 then L.data.toList.dropLast else L.data.toList) (k2 : Int) (t2 : ByteArray) (hQ : quotedO M.data.toList = bareK k2 t2.data.toList) (hL : L.size ≤ 10000) (B : Nat) (w : World) (a : CX w B 0 ⟨#[]⟩ ⟨#[]⟩ ⟨#[]⟩ false 0 ⟨#[]⟩ L) :
    Calls Tryz.prog 117 #[.pointer (some ⟨B, 0, none⟩)] w fun e w' => e = .returned (.bool r) ∧ (∃ l, CX w' B k2 t2 ⟨#[]⟩ ⟨#[]⟩ false 0 ⟨#[]⟩ l) ∧ Below B w w' := by
  have hlt := a.lt
  have hMs : M.size ≤ L.size := by
    rw [← lsize, hM, ← lsize L]
    split
    · rw [List.length_dropLast]; omega
    · exact Nat.le_refl _
  have C : Hid (∀ W, Calls Tryz.prog 108 #[.string L, .string ⟨#[39]⟩] W fun e w' => e = .returned (.tuple #[.string M, .bool r]) ∧ w' = W) := Lib.hid fun W => by
    have := Tryz.strings_CutSuffix L ⟨#[39]⟩ W (by omega)
    rw [show (⟨#[39]⟩ : ByteArray).data.toList = [39] from rfl, suffix_one, trim_one, ← hM, hr, ← text_is (T := M) rfl] at this
    exact this
  have c7 := a.c7
  have f7 := a.free 7
  have a1 := a.set7 M
  have B1 : Below B w (w.setCell ⟨B, 7, none⟩ (.string M)) := ((Below.refl w.heap.size w).mono (Nat.le_of_lt hlt)).setCell (Nat.le_refl _) _
  clear a hM
  unfold quotedO at hQ
  cases h1 : beg M.data.toList NON
  · rw [h1] at hQ
    simp only [Bool.false_eq_true, if_false] at hQ
    have S1 := Lib.hid fun W a => skipC_any ⟨#[39, 110, 111, 110, 99, 101, 45]⟩ M M false (by decide) h1 rfl (by omega) (by decide) B W 0 ⟨#[]⟩ ⟨#[]⟩ ⟨#[]⟩ false 0 ⟨#[]⟩ a
    cases h2 : beg M.data.toList MRK
    · rw [h2] at hQ
      simp only [Bool.false_eq_true, if_false] at hQ
      have e : k2 = 0 ∧ t2 = ⟨#[]⟩ := by
        have e1 := congrArg Src.k hQ
        have e2 := congrArg Src.t hQ
        exact ⟨e1.symm, text_is e2.symm⟩
      obtain ⟨rfl, rfl⟩ := e
      have S2 := Lib.hid fun W a => skipC_any ⟨#[39, 109, 97, 114, 107, 45]⟩ M M false (by decide) h2 rfl (by omega) (by decide) B W 0 ⟨#[]⟩ ⟨#[]⟩ ⟨#[]⟩ false 0 ⟨#[]⟩ a
      clear h1 h2 hQ hr hMs hL
      go_enter Tryz.func117, Tryz.ntmps117
      go_wp2_with fail
      refine (C.out _).mono ?_
      rintro e w ⟨rfl, rfl⟩
      go_wp2_with fail
      clear c7 f7
      generalize w.setCell ⟨B, 7, none⟩ (.string M) = w1 at a1 B1 ⊢
      refine (S1.out _ a1).mono ?_
      rintro e w2 ⟨rfl, a2, B2⟩
      have B3 := B1.trans B2
      clear a1 B1 B2
      go_wp2_with fail
      refine (S2.out _ a2).mono ?_
      rintro e w4 ⟨rfl, a4, B4⟩
      go_wp2
      go_ret
      exact ⟨rfl, ⟨M, a4⟩, B3.trans B4⟩
    · rw [h2] at hQ
      simp only [if_true] at hQ
      obtain ⟨M3, hM3⟩ := text_of (M.data.toList.drop 6)
      have hM3s : M3.size ≤ M.size := by rw [← lsize, hM3, ← lsize M, List.length_drop]; omega
      have e : k2 = 10 ∧ t2.data.toList = (decM M3.data.toList).1 := by
        rw [hM3]
        exact ⟨(congrArg Src.k hQ).symm, (congrArg Src.t hQ).symm⟩
      obtain ⟨rfl, e2⟩ := e
      obtain ⟨ok, hok⟩ : ∃ x, (decM M3.data.toList).2 = x := ⟨_, rfl⟩
      have CD := decode_hid M3 (by omega) t2 ok (by rw [e2, ← hok])
      have S2 := Lib.hid fun W a => skipC_any ⟨#[39, 109, 97, 114, 107, 45]⟩ M M3 true (by decide) h2 hM3 (by omega) (by decide) B W 0 ⟨#[]⟩ ⟨#[]⟩ ⟨#[]⟩ false 0 ⟨#[]⟩ a
      clear h1 h2 hQ hr hMs hL hM3 hM3s e2 hok
      go_enter Tryz.func117, Tryz.ntmps117
      go_wp2_with fail
      refine (C.out _).mono ?_
      rintro e w ⟨rfl, rfl⟩
      go_wp2_with fail
      clear c7 f7
      generalize w.setCell ⟨B, 7, none⟩ (.string M) = w1 at a1 B1 ⊢
      refine (S1.out _ a1).mono ?_
      rintro e w2 ⟨rfl, a2, B2⟩
      have B3 := B1.trans B2
      clear a1 B1 B2
      go_wp2_with fail
      refine (S2.out _ a2).mono ?_
      rintro e w4 ⟨rfl, a4, B4⟩
      have B5 := B3.trans B4
      clear a2 B3 B4
      have c0 := a4.c0
      have f0 := a4.free 0
      have a5 := a4.set0 10
      have c7 := a5.c7
      have B6 := B5.setCell (p := ⟨B, 0, none⟩) (Nat.le_refl _) (.int .i64 10)
      go_wp2_with fail
      clear c7 c0 f0 a4 B5
      generalize w4.setCell ⟨B, 0, none⟩ (.int .i64 10) = w5 at a5 B6 ⊢
      refine (CD.out _).mono ?_
      rintro e w6 ⟨rfl, b6⟩
      have a6 := a5.below b6
      have B7 := B6.trans (b6.mono (Nat.le_of_lt a5.lt))
      have c1 := a6.c1
      have f1 := a6.free 1
      have a7 := a6.set1 t2
      have B8 := B7.setCell (p := ⟨B, 1, none⟩) (Nat.le_refl _) (.string t2)
      clear a5 B6 b6
      go_wp2
      go_ret
      exact ⟨rfl, ⟨M3, a7⟩, B8⟩
  · rw [h1] at hQ
    simp only [if_true] at hQ
    have e : k2 = 9 ∧ t2.data.toList = M.data.toList.drop 7 := ⟨(congrArg Src.k hQ).symm, (congrArg Src.t hQ).symm⟩
    obtain ⟨rfl, e2⟩ := e
    have S1 := Lib.hid fun W a => skipC_any ⟨#[39, 110, 111, 110, 99, 101, 45]⟩ M t2 true (by decide) h1 e2 (by omega) (by decide) B W 0 ⟨#[]⟩ ⟨#[]⟩ ⟨#[]⟩ false 0 ⟨#[]⟩ a
    clear h1 hQ hr hMs hL e2
    go_enter Tryz.func117, Tryz.ntmps117
    go_wp2_with fail
    refine (C.out _).mono ?_
    rintro e w ⟨rfl, rfl⟩
    go_wp2_with fail
    clear c7 f7
    generalize w.setCell ⟨B, 7, none⟩ (.string M) = w1 at a1 B1 ⊢
    refine (S1.out _ a1).mono ?_
    rintro e w2 ⟨rfl, a2, B2⟩
    have B3 := B1.trans B2
    clear a1 B1 B2
    have c7 := a2.c7
    have c0 := a2.c0
    have f0 := a2.free 0
    have a3 := a2.set0 9
    have c1 := a3.c1
    have f1 := a3.free 1
    have a4 := a3.set1 t2
    have B4 := (B3.setCell (p := ⟨B, 0, none⟩) (Nat.le_refl _) (.int .i64 9)).setCell (p := ⟨B, 1, none⟩) (Nat.le_refl _) (.string t2)
    clear a3 B3
    go_wp2
    go_ret
    exact ⟨rfl, ⟨t2, a4⟩, B4⟩

theorem cutO_place {l : List UInt8} (h1 : ¬ l.head? = some 39) (h2 : ¬ l.getLast? = some 58) : cutO l = placeAll l := by
  unfold cutO placeAll
  rw [if_neg h1, if_neg h2]
  cases sp3 l with
  | none => rfl
  | some x => obtain ⟨sc, r⟩ := x; rfl

set_option maxRecDepth 100000 in
set_option maxHeartbeats 4000000 in
/-- What is cut off a word. -/
theorem cut_all (L : ByteArray) (hL : L.size ≤ 10000) (B : Nat) (w : World) (hlow : LowIn B w) (a : CX w B 0 ⟨#[]⟩ ⟨#[]⟩ ⟨#[]⟩ false 0 ⟨#[]⟩ L) :
    Calls Tryz.prog 97 #[.pointer (some ⟨B, 0, none⟩)] w fun e w' => ((cutO L.data.toList = none ∧ e = .returned (.bool false)) ∨ ∃ k t s h b p pa l, cutO L.data.toList = some (srcM k t s h b p pa) ∧ e = .returned (.bool true) ∧ CX w' B k t s h b p pa l) ∧ Below B w w' := by
  have hlt := a.lt
  have c7 := a.c7
  have hpre := prefix_one L.data.toList 39
  have CP : Hid (∀ W, Calls Tryz.prog 110 #[.string L, .string ⟨#[39]⟩] W fun e w' => e = .returned (.bool (decide (L.data.toList.head? = some 39))) ∧ w' = W) := Lib.hid fun W => by
    rw [← hpre]; exact Tryz.strings_HasPrefix L ⟨#[39]⟩ W
  clear hpre
  by_cases h1 : L.data.toList.head? = some 39
  · rw [decide_eq_true h1] at CP
    have CK := Lib.hid (cutK_any L (by omega) B w hlow 0 ⟨#[]⟩ ⟨#[]⟩ ⟨#[]⟩ false 0 ⟨#[]⟩ a)
    obtain ⟨M, hM⟩ := text_of (if L.data.toList.getLast? = some 39 then L.data.toList.dropLast else L.data.toList)
    obtain ⟨k2, tl, hq⟩ : ∃ k2 tl, quotedO M.data.toList = bareK k2 tl := by
      unfold quotedO
      split
      · exact ⟨_, _, rfl⟩
      · split
        · exact ⟨_, _, rfl⟩
        · exact ⟨0, [], rfl⟩
    obtain ⟨t2, ht2⟩ := text_of tl
    rw [← ht2] at hq
    obtain ⟨r, hr⟩ : ∃ x, decide (L.data.toList.getLast? = some 39) = x := ⟨_, rfl⟩
    have CQ := Lib.hid fun W a => cutQ_any L M r hr hM k2 t2 hq hL B W a
    have HQ : Hid (keptO L.data.toList = none → cutO L.data.toList = if r then some (srcM k2 t2 ⟨#[]⟩ ⟨#[]⟩ false 0 ⟨#[]⟩) else none) := Lib.hid (fun hk => by
      unfold cutO
      rw [if_pos h1, hk]
      simp only []
      cases r
      · rw [if_neg (of_decide_eq_false hr)]; rfl
      · have hz := of_decide_eq_true hr
        rw [if_pos hz] at hM ⊢
        rw [← hM, hq]; rfl)
    have HK : Hid (∀ k, keptO L.data.toList = some k → cutO L.data.toList = some (srcM k ⟨#[]⟩ ⟨#[]⟩ ⟨#[]⟩ false 0 ⟨#[]⟩)) := Lib.hid (fun k hk => by
      unfold cutO
      rw [if_pos h1, hk]; rfl)
    clear h1 hM hq ht2 hr hL hlow a
    go_enter Tryz.func97, Tryz.ntmps97
    go_wp2_with fail
    refine (CP.out _).mono ?_
    rintro e w ⟨rfl, rfl⟩
    go_wp2_with fail
    refine CK.out.mono ?_
    rintro e w1 ⟨r1, rfl, hx, B1⟩
    rcases hx with ⟨k', hk', rfl, a1⟩ | ⟨hk', rfl, a1⟩
    · have HF := Lib.hid (HK.out k' hk')
      clear hk' HK HQ
      go_wp2
      go_ret
      exact ⟨.inr ⟨_, _, _, _, _, _, _, _, HF.out, rfl, a1⟩, B1⟩
    · have HF := Lib.hid (HQ.out hk')
      clear hk' HK HQ
      go_wp2_with fail
      refine (CQ.out _ a1).mono ?_
      rintro e w2 ⟨rfl, ⟨l, a2⟩, B2⟩
      go_wp2
      go_ret
      refine ⟨?_, B1.trans B2⟩
      cases r
      · exact .inl ⟨HF.out, rfl⟩
      · exact .inr ⟨_, _, _, _, _, _, _, _, HF.out, rfl, a2⟩
  rw [decide_eq_false h1] at CP
  have hsuf := suffix_one L.data.toList 58
  have CU : Hid (∀ W, Calls Tryz.prog 109 #[.string L, .string ⟨#[58]⟩] W fun e w' => e = .returned (.bool (decide (L.data.toList.getLast? = some 58))) ∧ w' = W) := Lib.hid fun W => by
    rw [← hsuf]; exact Tryz.strings_HasSuffix L ⟨#[58]⟩ W (by omega)
  clear hsuf
  by_cases h2 : L.data.toList.getLast? = some 58
  · rw [decide_eq_true h2] at CU
    obtain ⟨M, hM⟩ := text_of L.data.toList.dropLast
    have hMs : M.size ≤ L.size := by rw [← lsize, hM, ← lsize L, List.length_dropLast]; omega
    have CT : Hid (∀ W, Calls Tryz.prog 118 #[.string L, .string ⟨#[58]⟩] W fun e w' => e = .returned (.string M) ∧ w' = W) := Lib.hid fun W => by
      have := Tryz.strings_TrimSuffix L ⟨#[58]⟩ W (by omega)
      rw [show (⟨#[58]⟩ : ByteArray).data.toList = [58] from rfl, trim_one, if_pos h2, ← hM, ← text_is (T := M) rfl] at this
      exact this
    obtain ⟨S, hS⟩ := text_of (low M.data.toList)
    have CL := lower_hid M S hS (by omega)
    have HF : Hid (cutO L.data.toList = some (srcM 11 ⟨#[]⟩ S ⟨#[]⟩ false 0 ⟨#[]⟩)) := Lib.hid (by
      unfold cutO srcM
      rw [if_neg h1, if_pos h2, hS, hM])
    clear h1 h2 hM hMs hS hL hlow
    go_enter Tryz.func97, Tryz.ntmps97
    go_wp2_with fail
    refine (CP.out _).mono ?_
    rintro e w ⟨rfl, rfl⟩
    go_wp2_with fail
    refine (CU.out _).mono ?_
    rintro e w ⟨rfl, rfl⟩
    go_wp2_with fail
    refine (CT.out _).mono ?_
    rintro e w ⟨rfl, rfl⟩
    go_wp2_with fail
    refine (CL.out _).mono ?_
    rintro e w1 ⟨rfl, b1⟩
    have a1 := a.below b1
    have c0 := a1.c0
    have f0 := a1.free 0
    have a2 := a1.set0 11
    have c2 := a2.c2
    have f2 := a2.free 2
    have a3 := a2.set2 S
    have B3 := ((b1.mono (Nat.le_of_lt hlt)).setCell (p := ⟨B, 0, none⟩) (Nat.le_refl _) (.int .i64 11)).setCell (p := ⟨B, 2, none⟩) (Nat.le_refl _) (.string S)
    clear a2 b1 a c7
    go_wp2
    go_ret
    exact ⟨.inr ⟨_, _, _, _, _, _, _, _, HF.out, rfl, a3⟩, B3⟩
  rw [decide_eq_false h2] at CU
  have hP := cutO_place h1 h2
  have c0 := a.c0
  have f0 := a.free 0
  have a1 := a.set0 12
  have l1 := hlow.on ((Below.refl B w).setCell (p := ⟨B, 0, none⟩) (Nat.le_refl _) (.int .i64 12))
  have B1 := (Below.refl B w).setCell (p := ⟨B, 0, none⟩) (Nat.le_refl _) (.int .i64 12)
  clear a hlow h1 h2
  cases hpl : placeAll L.data.toList with
  | none =>
    rw [hpl] at hP
    have HF := Lib.hid hP
    have CC := placeC_no L hpl (by omega) B
    clear hP hpl hL
    go_enter Tryz.func97, Tryz.ntmps97
    go_wp2_with fail
    refine (CP.out _).mono ?_
    rintro e w ⟨rfl, rfl⟩
    go_wp2_with fail
    refine (CU.out _).mono ?_
    rintro e w ⟨rfl, rfl⟩
    go_wp2_with fail
    clear c0 f0 c7
    generalize w.setCell ⟨B, 0, none⟩ (.int .i64 12) = w1 at a1 B1 l1 ⊢
    refine (CC.out _ l1 a1).mono ?_
    rintro e w2 ⟨rfl, B2⟩
    go_wp2
    go_ret
    exact ⟨.inl ⟨HF.out, rfl⟩, B1.trans B2⟩
  | some x =>
    rw [hpl] at hP
    have hform : x.k = 12 ∧ x.t = [] := by
      unfold placeAll at hpl
      split at hpl
      · split at hpl
        · cases hpl
        · exact ⟨(placeO_form hpl).1, (placeO_form hpl).2.1⟩
      · exact ⟨(placeO_form hpl).1, (placeO_form hpl).2.1⟩
    obtain ⟨t, S, H, PA, hx⟩ := src_of x
    obtain ⟨xk, xt, xs, xh, xw, xp, xpa⟩ := x
    simp only [srcM] at hform hx
    rw [Src.mk.injEq] at hx
    obtain ⟨_, e1, e2, e3, _, _, e4⟩ := hx
    obtain ⟨rfl, rfl⟩ := hform
    obtain rfl : t = ⟨#[]⟩ := text_is e1.symm
    subst e2; subst e3; subst e4
    have HF : Hid (cutO L.data.toList = some (srcM 12 ⟨#[]⟩ S H xw xp PA)) := Lib.hid hP
    have CC := placeC_yes L S H PA xw xp hpl (by omega) B
    clear hP hpl hL e1
    go_enter Tryz.func97, Tryz.ntmps97
    go_wp2_with fail
    refine (CP.out _).mono ?_
    rintro e w ⟨rfl, rfl⟩
    go_wp2_with fail
    refine (CU.out _).mono ?_
    rintro e w ⟨rfl, rfl⟩
    go_wp2_with fail
    clear c0 f0 c7
    generalize w.setCell ⟨B, 0, none⟩ (.int .i64 12) = w1 at a1 B1 l1 ⊢
    refine (CC.out _ l1 a1).mono ?_
    rintro e w2 ⟨rfl, ⟨l, a2⟩, B2⟩
    go_wp2
    go_ret
    exact ⟨.inr ⟨_, _, _, _, _, _, _, _, HF.out, rfl, a2⟩, B1.trans B2⟩

end Go.Proofs.YtaldjkbnngeahaaGreatDoor
