/- What the program's cutter does: cutScheme, cutPlace. -/
import Derived.Test.YtmfejcmhbncchaaGreatDoorSrcH
namespace Go.Proofs.YtmfejcmhbncchaaGreatDoor
open Go.RowKit

theorem index_sp3 (l : List UInt8) : (sp3 l = none ∧ Lib.index l [58, 47, 47] = -1) ∨ ∃ a r, sp3 l = some (a, r) ∧ Lib.index l [58, 47, 47] = (a.length : Int) ∧ l = a ++ ([58, 47, 47] ++ r) := by
  induction l with
  | nil => exact .inl ⟨rfl, rfl⟩
  | cons b l ih =>
    unfold sp3 Lib.index
    by_cases hp : [58, 47, 47].isPrefixOf (b :: l) = true
    · rw [if_pos hp, if_pos hp]
      obtain ⟨r, hr⟩ := List.isPrefixOf_iff_prefix.1 hp
      refine .inr ⟨[], r, ?_, rfl, hr.symm⟩
      rw [← hr]; rfl
    · rw [if_neg hp, if_neg hp]
      rcases ih with ⟨h1, h2⟩ | ⟨a, r, h1, h2, h3⟩
      · rw [h1, h2]; exact .inl ⟨rfl, rfl⟩
      · rw [h1, h2]
        refine .inr ⟨b :: a, r, rfl, ?_, by rw [h3]; rfl⟩
        rw [if_neg (by simp)]
        simp
theorem cut_sp3 (l : List UInt8) : Lib.cut l [58, 47, 47] = match sp3 l with | some (a, r) => (a, r, true) | none => (l, [], false) := by
  unfold Lib.cut
  rcases index_sp3 l with ⟨h1, h2⟩ | ⟨a, r, h1, h2, h3⟩
  · rw [h1, h2]; rfl
  · rw [h1, h2, if_pos (by omega)]
    rw [h3]
    simp
theorem cut_58 (l : List UInt8) : Lib.cut l [58] = (upto (isC 58) l, (past (isC 58) l).drop 1, !(past (isC 58) l).isEmpty) := by
  unfold Lib.cut
  rcases index_one l 58 with ⟨h1, h2⟩ | ⟨a, r, h1, h2, h3⟩
  · obtain ⟨e1, e2⟩ := past_none (isC 58) l h2
    rw [h1, e1, e2]; rfl
  · obtain ⟨e1, e2⟩ := past_hit (isC 58) a 58 r h2 (by decide)
    rw [h3, if_pos (by omega), h1, e1, e2]
    simp
theorem byte_cut (c : UInt8) (l : List UInt8) : (Lib.indexByte l c = -1 ∧ upto (isC c) l = l ∧ past (isC c) l = []) ∨ ∃ k : Nat, k < l.length ∧ Lib.indexByte l c = k ∧ upto (isC c) l = l.take k ∧ past (isC c) l = l.drop k := by
  induction l with
  | nil => exact .inl ⟨rfl, rfl, rfl⟩
  | cons b l ih =>
    unfold Lib.indexByte
    cases hb : (b == c)
    · obtain ⟨e1, e2⟩ := upto_step (p := isC c) l (c := b) hb
      rw [e1, e2]
      simp only [Bool.false_eq_true, if_false]
      rcases ih with ⟨h1, h2, h3⟩ | ⟨k, h0, h1, h2, h3⟩
      · refine .inl ⟨?_, by rw [h2], h3⟩
        rw [h1]; rfl
      · refine .inr ⟨k + 1, by simp; omega, ?_, by rw [h2]; rfl, by rw [h3]; rfl⟩
        rw [h1, if_neg (by simp)]
        simp
    · obtain ⟨e1, e2⟩ := upto_stop (p := isC c) l (c := b) hb
      exact .inr ⟨0, by simp, by simp, by rw [e1]; rfl, by rw [e2]; rfl⟩
theorem below_drewN {B : Nat} {w : World} (n : Nat) : Below B w (w.drewN n) := belowN (Below.refl B w) n
theorem cutL_hid (L S A R : ByteArray) (r : Bool) (h : Lib.cut L.data.toList S.data.toList = (A.data.toList, R.data.toList, r)) (hL : L.size ≤ 1000000) : Hid (∀ W, MaxIn W → Calls Tryz.prog 77 #[.string L, .string S] W fun e w' => e = .returned (.tuple #[.string A, .string R, .bool r]) ∧ Below W.heap.size W w') := Lib.hid fun W hm => by
  obtain ⟨m, hm⟩ := hm
  have C := Tryz.strings_Cut L S m W (by omega) hm
  rw [h] at C
  simp only [] at C
  rw [← text_is (T := A) rfl, ← text_is (T := R) rfl] at C
  exact C.mono fun e w' ⟨h1, n, h2⟩ => ⟨h1, by rw [h2]; exact below_drewN n⟩

set_option maxRecDepth 100000 in
set_option maxHeartbeats 1000000 in
/-- No scheme is told: nothing is cut off. -/
theorem cutS_none (L : ByteArray) (hs : sp3 L.data.toList = none) (hL : L.size ≤ 1000000) (B : Nat) (w : World) (hlow : LowIn B w) (k : Int) (t s h : ByteArray) (b : Bool) (p : Int) (pa : ByteArray) (a : CX w B k t s h b p pa L) :
    Calls Tryz.prog 75 #[.pointer (some ⟨B, 0, none⟩)] w fun e w' => e = .returned (.bool true) ∧ CX w' B k t s h b p pa L ∧ Below B w w' := by
  have hlt := a.lt
  have hc := cut_sp3 L.data.toList
  rw [hs] at hc
  have C := cutL_hid L ⟨#[58, 47, 47]⟩ L ⟨#[]⟩ false hc hL
  have c7 := a.c7
  clear hs hc
  go_enter Tryz.func75, Tryz.ntmps75
  go_wp2_with fail
  refine (C.out _ hlow.1.2).mono ?_
  rintro e w1 ⟨rfl, b1⟩
  have a1 := a.below b1
  go_wp2
  go_ret
  exact ⟨rfl, a1, b1.mono (Nat.le_of_lt hlt)⟩

set_option maxRecDepth 100000 in
set_option maxHeartbeats 1000000 in
/-- A scheme is told: it is cut off, in small letters. -/
theorem cutS_some (L S R : ByteArray) (sc : List UInt8) (hs : sp3 L.data.toList = some (sc, R.data.toList)) (h0 : sc ≠ []) (hS : S.data.toList = low sc) (hL : L.size ≤ 1000000) (B : Nat) (w : World) (hlow : LowIn B w) (k : Int) (t s h : ByteArray) (b : Bool) (p : Int) (pa : ByteArray) (a : CX w B k t s h b p pa L) :
    Calls Tryz.prog 75 #[.pointer (some ⟨B, 0, none⟩)] w fun e w' => e = .returned (.bool true) ∧ CX w' B k t S h b p pa R ∧ Below B w w' := by
  have hlt := a.lt
  have hc := cut_sp3 L.data.toList
  rw [hs] at hc
  obtain ⟨A, hA⟩ := text_of sc
  have hAs : A.size ≤ L.size := by
    rcases index_sp3 L.data.toList with ⟨h1, _⟩ | ⟨x, r, h1, _, h3⟩
    · rw [hs] at h1; cases h1
    · rw [hs] at h1
      injection h1 with h1
      rw [Prod.mk.injEq] at h1
      rw [← lsize A, ← lsize L, hA, h3, h1.1, List.length_append]
      omega
  have C := cutL_hid L ⟨#[58, 47, 47]⟩ A R true (by rw [hA]; exact hc) hL
  have CL := lower_hid A S (by rw [hS, hA]) (by omega)
  have g : A.toList.isEmpty = false := by rw [text_empty, hA]; simpa using h0
  have c7 := a.c7
  clear hs hc hA h0 hS
  go_enter Tryz.func75, Tryz.ntmps75
  go_wp2_with fail
  refine (C.out _ hlow.1.2).mono ?_
  rintro e w1 ⟨rfl, b1⟩
  have a1 := a.below b1
  clear c7 a
  go_wp2_with fail
  refine (CL.out _).mono ?_
  rintro e w2 ⟨rfl, b2⟩
  have a2 := a1.below b2
  have c2 := a2.c2
  have f2 := a2.free 2
  have a3 := a2.set2 S
  have c7 := a3.c7
  have f7 := a3.free 7
  have a4 := a3.set7 R
  have B4 : Below B w ((w2.setCell ⟨B, 2, none⟩ (.string S)).setCell ⟨B, 7, none⟩ (.string R)) := (((b1.trans (b2.mono b1.size)).mono (Nat.le_of_lt hlt)).setCell (Nat.le_refl _) _).setCell (Nat.le_refl _) _
  clear a1 a2 a3 b1 b2
  go_wp2
  go_ret
  exact ⟨rfl, a4, B4⟩

set_option maxRecDepth 100000 in
set_option maxHeartbeats 1000000 in
/-- .. and an empty one is none. -/
theorem cutS_bad (L R : ByteArray) (hs : sp3 L.data.toList = some ([], R.data.toList)) (hL : L.size ≤ 1000000) (B : Nat) (w : World) (hlow : LowIn B w) (k : Int) (t s h : ByteArray) (b : Bool) (p : Int) (pa : ByteArray) (a : CX w B k t s h b p pa L) :
    Calls Tryz.prog 75 #[.pointer (some ⟨B, 0, none⟩)] w fun e w' => e = .returned (.bool false) ∧ Below B w w' := by
  have hlt := a.lt
  have hc := cut_sp3 L.data.toList
  rw [hs] at hc
  have C := cutL_hid L ⟨#[58, 47, 47]⟩ ⟨#[]⟩ R true hc hL
  have CL := lower_hid ⟨#[]⟩ ⟨#[]⟩ rfl (by decide)
  have c7 := a.c7
  clear hs hc
  go_enter Tryz.func75, Tryz.ntmps75
  go_wp2_with fail
  refine (C.out _ hlow.1.2).mono ?_
  rintro e w1 ⟨rfl, b1⟩
  have a1 := a.below b1
  clear c7 a
  go_wp2_with fail
  refine (CL.out _).mono ?_
  rintro e w2 ⟨rfl, b2⟩
  have a2 := a1.below b2
  have c2 := a2.c2
  have f2 := a2.free 2
  have a3 := a2.set2 ⟨#[]⟩
  have c7 := a3.c7
  have f7 := a3.free 7
  have B4 : Below B w ((w2.setCell ⟨B, 2, none⟩ (.string ⟨#[]⟩)).setCell ⟨B, 7, none⟩ (.string R)) := (((b1.trans (b2.mono b1.size)).mono (Nat.le_of_lt hlt)).setCell (Nat.le_refl _) _).setCell (Nat.le_refl _) _
  clear a1 a2 a3 b1 b2
  go_wp2
  go_ret
  exact ⟨rfl, B4⟩

/-- A place's word behind its scheme: what is cut off it. -/
def HeadC (B : Nat) (L S R : ByteArray) : Prop := ∀ W, LowIn B W → CX W B 12 ⟨#[]⟩ ⟨#[]⟩ ⟨#[]⟩ false 0 ⟨#[]⟩ L → Calls Tryz.prog 75 #[.pointer (some ⟨B, 0, none⟩)] W fun e w' => e = .returned (.bool true) ∧ CX w' B 12 ⟨#[]⟩ S ⟨#[]⟩ false 0 ⟨#[]⟩ R ∧ Below B W w'

set_option maxRecDepth 100000 in
set_option maxHeartbeats 2000000 in
theorem place_hno (L S R U PA NM N PT : ByteArray) (told : Bool) (B : Nat) (HC : Hid (HeadC B L S R)) (E : Nat) (n : Int) (CI : Hid (∀ W, Calls Tryz.prog 76 #[.string R, .string ⟨#[47]⟩] W fun e w' => e = .returned (.int .i64 n) ∧ w' = W)) (hn : (n = -1 ∧ E = R.size) ∨ (n = (E : Int))) (hE : E ≤ R.size)
    (s1 : ∀ W, (Instr.slice 9 (.string R) none (some (.int .i64 (E : Int))) none).run Tryz.prog W = .ok (.string U) W) (s2 : ∀ W, (Instr.slice 9 (.string R) (some (.int .i64 (E : Int))) none none).run Tryz.prog W = .ok (.string PA) W)
    (CC : Hid (∀ W, MaxIn W → Calls Tryz.prog 77 #[.string U, .string ⟨#[58]⟩] W fun e w' => e = .returned (.tuple #[.string NM, .string PT, .bool told]) ∧ Below W.heap.size W w')) (CL : Hid (∀ W, Calls Tryz.prog 13 #[.string NM] W fun e w' => e = .returned (.string N) ∧ Below W.heap.size W w')) (HH : Hid (∀ W, CX W B 12 ⟨#[]⟩ S ⟨#[]⟩ false 0 PA R → Calls Tryz.prog 78 #[.pointer (some ⟨B, 0, none⟩), .string N] W fun e w' => e = .returned (.bool false) ∧ Below B W w')) (w : World) (hlow : LowIn B w) (a : CX w B 12 ⟨#[]⟩ ⟨#[]⟩ ⟨#[]⟩ false 0 ⟨#[]⟩ L) :
    Calls Tryz.prog 46 #[.pointer (some ⟨B, 0, none⟩)] w fun e w' => e = .returned (.bool false) ∧ Below B w w' := by
  rcases hn with ⟨rfl, rfl⟩ | rfl
  · show _
    go_enter Tryz.func46, Tryz.ntmps46
    go_wp2_with fail
    refine (HC.out _ hlow a).mono ?_
    rintro e w1 ⟨rfl, a1, B1⟩
    have l1 := hlow.on B1
    have c7 := a1.c7
    clear a
    go_wp2_with fail
    refine (CI.out _).mono ?_
    rintro e w1 ⟨rfl, rfl⟩
    go_wp2_with fail
    refine (CC.out _ l1.1.2).mono ?_
    rintro e w2 ⟨rfl, b2⟩
    have a2 := a1.below b2
    have B2 := B1.trans (b2.mono (Nat.le_of_lt a1.lt))
    have hB1 := a1.lt
    clear c7 a1 B1
    have l2 := l1.on (b2.mono (Nat.le_of_lt hB1))
    clear b2 l1
    have c7 := a2.c7
    have c6 := a2.c6
    have f6 := a2.free 6
    have a3 := a2.set6 PA
    have B3 := B2.setCell (p := ⟨B, 6, none⟩) (Nat.le_refl _) (.string PA)
    have l3 := l2.on ((Below.refl B w2).setCell (p := ⟨B, 6, none⟩) (Nat.le_refl _) (.string PA))
    go_wp2_with fail
    clear c7 c6 f6 a2 B2 l2
    generalize w2.setCell ⟨B, 6, none⟩ (.string PA) = w3 at a3 B3 l3 ⊢
    refine (CL.out _).mono ?_
    rintro e w4 ⟨rfl, b4⟩
    have a4 := a3.below b4
    have B4 := B3.trans (b4.mono (Nat.le_of_lt a3.lt))
    have l4 := l3.on (b4.mono (Nat.le_of_lt a3.lt))
    clear a3 B3 l3 b4
    go_wp2_with fail
    refine (HH.out _ a4).mono ?_
    rintro e w5 ⟨rfl, B5⟩
    go_wp2
    go_ret
    exact ⟨rfl, B4.trans B5⟩
  · have hz : ¬ (E : Int) < 0 := by omega
    go_enter Tryz.func46, Tryz.ntmps46
    go_wp2_with fail
    refine (HC.out _ hlow a).mono ?_
    rintro e w1 ⟨rfl, a1, B1⟩
    have l1 := hlow.on B1
    have c7 := a1.c7
    clear a
    go_wp2_with fail
    refine (CI.out _).mono ?_
    rintro e w1 ⟨rfl, rfl⟩
    go_wp2_with fail
    refine (CC.out _ l1.1.2).mono ?_
    rintro e w2 ⟨rfl, b2⟩
    have a2 := a1.below b2
    have B2 := B1.trans (b2.mono (Nat.le_of_lt a1.lt))
    have hB1 := a1.lt
    clear c7 a1 B1
    have l2 := l1.on (b2.mono (Nat.le_of_lt hB1))
    clear b2 l1
    have c7 := a2.c7
    have c6 := a2.c6
    have f6 := a2.free 6
    have a3 := a2.set6 PA
    have B3 := B2.setCell (p := ⟨B, 6, none⟩) (Nat.le_refl _) (.string PA)
    have l3 := l2.on ((Below.refl B w2).setCell (p := ⟨B, 6, none⟩) (Nat.le_refl _) (.string PA))
    go_wp2_with fail
    clear c7 c6 f6 a2 B2 l2
    generalize w2.setCell ⟨B, 6, none⟩ (.string PA) = w3 at a3 B3 l3 ⊢
    refine (CL.out _).mono ?_
    rintro e w4 ⟨rfl, b4⟩
    have a4 := a3.below b4
    have B4 := B3.trans (b4.mono (Nat.le_of_lt a3.lt))
    have l4 := l3.on (b4.mono (Nat.le_of_lt a3.lt))
    clear a3 B3 l3 b4
    go_wp2_with fail
    refine (HH.out _ a4).mono ?_
    rintro e w5 ⟨rfl, B5⟩
    go_wp2
    go_ret
    exact ⟨rfl, B4.trans B5⟩

set_option maxRecDepth 100000 in
set_option maxHeartbeats 2000000 in
theorem place_untold (L S R U PA NM N PT : ByteArray) (B : Nat) (HC : Hid (HeadC B L S R)) (E : Nat) (n : Int) (CI : Hid (∀ W, Calls Tryz.prog 76 #[.string R, .string ⟨#[47]⟩] W fun e w' => e = .returned (.int .i64 n) ∧ w' = W)) (hn : (n = -1 ∧ E = R.size) ∨ (n = (E : Int))) (hE : E ≤ R.size)
    (s1 : ∀ W, (Instr.slice 9 (.string R) none (some (.int .i64 (E : Int))) none).run Tryz.prog W = .ok (.string U) W) (s2 : ∀ W, (Instr.slice 9 (.string R) (some (.int .i64 (E : Int))) none none).run Tryz.prog W = .ok (.string PA) W)
    (CC : Hid (∀ W, MaxIn W → Calls Tryz.prog 77 #[.string U, .string ⟨#[58]⟩] W fun e w' => e = .returned (.tuple #[.string NM, .string PT, .bool false]) ∧ Below W.heap.size W w')) (CL : Hid (∀ W, Calls Tryz.prog 13 #[.string NM] W fun e w' => e = .returned (.string N) ∧ Below W.heap.size W w')) (H : ByteArray) (wd : Bool) (HH : Hid (∀ W, CX W B 12 ⟨#[]⟩ S ⟨#[]⟩ false 0 PA R → Calls Tryz.prog 78 #[.pointer (some ⟨B, 0, none⟩), .string N] W fun e w' => e = .returned (.bool true) ∧ CX w' B 12 ⟨#[]⟩ S H wd 0 PA R ∧ Below B W w')) (w : World) (hlow : LowIn B w) (a : CX w B 12 ⟨#[]⟩ ⟨#[]⟩ ⟨#[]⟩ false 0 ⟨#[]⟩ L) :
    Calls Tryz.prog 46 #[.pointer (some ⟨B, 0, none⟩)] w fun e w' => e = .returned (.bool true) ∧ CX w' B 12 ⟨#[]⟩ S H wd 0 PA R ∧ Below B w w' := by
  rcases hn with ⟨rfl, rfl⟩ | rfl
  · show _
    go_enter Tryz.func46, Tryz.ntmps46
    go_wp2_with fail
    refine (HC.out _ hlow a).mono ?_
    rintro e w1 ⟨rfl, a1, B1⟩
    have l1 := hlow.on B1
    have c7 := a1.c7
    clear a
    go_wp2_with fail
    refine (CI.out _).mono ?_
    rintro e w1 ⟨rfl, rfl⟩
    go_wp2_with fail
    refine (CC.out _ l1.1.2).mono ?_
    rintro e w2 ⟨rfl, b2⟩
    have a2 := a1.below b2
    have B2 := B1.trans (b2.mono (Nat.le_of_lt a1.lt))
    have hB1 := a1.lt
    clear c7 a1 B1
    have l2 := l1.on (b2.mono (Nat.le_of_lt hB1))
    clear b2 l1
    have c7 := a2.c7
    have c6 := a2.c6
    have f6 := a2.free 6
    have a3 := a2.set6 PA
    have B3 := B2.setCell (p := ⟨B, 6, none⟩) (Nat.le_refl _) (.string PA)
    have l3 := l2.on ((Below.refl B w2).setCell (p := ⟨B, 6, none⟩) (Nat.le_refl _) (.string PA))
    go_wp2_with fail
    clear c7 c6 f6 a2 B2 l2
    generalize w2.setCell ⟨B, 6, none⟩ (.string PA) = w3 at a3 B3 l3 ⊢
    refine (CL.out _).mono ?_
    rintro e w4 ⟨rfl, b4⟩
    have a4 := a3.below b4
    have B4 := B3.trans (b4.mono (Nat.le_of_lt a3.lt))
    have l4 := l3.on (b4.mono (Nat.le_of_lt a3.lt))
    clear a3 B3 l3 b4
    go_wp2_with fail
    refine (HH.out _ a4).mono ?_
    rintro e w5 ⟨rfl, a5, B5⟩
    have l5 := l4.on B5
    have B6 := B4.trans B5
    clear a4 B4 l4 B5
    go_wp2
    go_ret
    exact ⟨rfl, a5, B6⟩
  · have hz : ¬ (E : Int) < 0 := by omega
    go_enter Tryz.func46, Tryz.ntmps46
    go_wp2_with fail
    refine (HC.out _ hlow a).mono ?_
    rintro e w1 ⟨rfl, a1, B1⟩
    have l1 := hlow.on B1
    have c7 := a1.c7
    clear a
    go_wp2_with fail
    refine (CI.out _).mono ?_
    rintro e w1 ⟨rfl, rfl⟩
    go_wp2_with fail
    refine (CC.out _ l1.1.2).mono ?_
    rintro e w2 ⟨rfl, b2⟩
    have a2 := a1.below b2
    have B2 := B1.trans (b2.mono (Nat.le_of_lt a1.lt))
    have hB1 := a1.lt
    clear c7 a1 B1
    have l2 := l1.on (b2.mono (Nat.le_of_lt hB1))
    clear b2 l1
    have c7 := a2.c7
    have c6 := a2.c6
    have f6 := a2.free 6
    have a3 := a2.set6 PA
    have B3 := B2.setCell (p := ⟨B, 6, none⟩) (Nat.le_refl _) (.string PA)
    have l3 := l2.on ((Below.refl B w2).setCell (p := ⟨B, 6, none⟩) (Nat.le_refl _) (.string PA))
    go_wp2_with fail
    clear c7 c6 f6 a2 B2 l2
    generalize w2.setCell ⟨B, 6, none⟩ (.string PA) = w3 at a3 B3 l3 ⊢
    refine (CL.out _).mono ?_
    rintro e w4 ⟨rfl, b4⟩
    have a4 := a3.below b4
    have B4 := B3.trans (b4.mono (Nat.le_of_lt a3.lt))
    have l4 := l3.on (b4.mono (Nat.le_of_lt a3.lt))
    clear a3 B3 l3 b4
    go_wp2_with fail
    refine (HH.out _ a4).mono ?_
    rintro e w5 ⟨rfl, a5, B5⟩
    have l5 := l4.on B5
    have B6 := B4.trans B5
    clear a4 B4 l4 B5
    go_wp2
    go_ret
    exact ⟨rfl, a5, B6⟩

set_option maxRecDepth 100000 in
set_option maxHeartbeats 2000000 in
theorem place_pyes (L S R U PA NM N PT : ByteArray) (B : Nat) (HC : Hid (HeadC B L S R)) (E : Nat) (n : Int) (CI : Hid (∀ W, Calls Tryz.prog 76 #[.string R, .string ⟨#[47]⟩] W fun e w' => e = .returned (.int .i64 n) ∧ w' = W)) (hn : (n = -1 ∧ E = R.size) ∨ (n = (E : Int))) (hE : E ≤ R.size)
    (s1 : ∀ W, (Instr.slice 9 (.string R) none (some (.int .i64 (E : Int))) none).run Tryz.prog W = .ok (.string U) W) (s2 : ∀ W, (Instr.slice 9 (.string R) (some (.int .i64 (E : Int))) none none).run Tryz.prog W = .ok (.string PA) W)
    (CC : Hid (∀ W, MaxIn W → Calls Tryz.prog 77 #[.string U, .string ⟨#[58]⟩] W fun e w' => e = .returned (.tuple #[.string NM, .string PT, .bool true]) ∧ Below W.heap.size W w')) (CL : Hid (∀ W, Calls Tryz.prog 13 #[.string NM] W fun e w' => e = .returned (.string N) ∧ Below W.heap.size W w')) (H : ByteArray) (wd : Bool) (HH : Hid (∀ W, CX W B 12 ⟨#[]⟩ S ⟨#[]⟩ false 0 PA R → Calls Tryz.prog 78 #[.pointer (some ⟨B, 0, none⟩), .string N] W fun e w' => e = .returned (.bool true) ∧ CX w' B 12 ⟨#[]⟩ S H wd 0 PA R ∧ Below B W w')) (q : Int) (HP : Hid (∀ W, CX W B 12 ⟨#[]⟩ S H wd 0 PA R → Calls Tryz.prog 79 #[.pointer (some ⟨B, 0, none⟩), .string PT] W fun e w' => e = .returned (.bool true) ∧ CX w' B 12 ⟨#[]⟩ S H wd q PA R ∧ Below B W w')) (w : World) (hlow : LowIn B w) (a : CX w B 12 ⟨#[]⟩ ⟨#[]⟩ ⟨#[]⟩ false 0 ⟨#[]⟩ L) :
    Calls Tryz.prog 46 #[.pointer (some ⟨B, 0, none⟩)] w fun e w' => e = .returned (.bool true) ∧ CX w' B 12 ⟨#[]⟩ S H wd q PA R ∧ Below B w w' := by
  rcases hn with ⟨rfl, rfl⟩ | rfl
  · show _
    go_enter Tryz.func46, Tryz.ntmps46
    go_wp2_with fail
    refine (HC.out _ hlow a).mono ?_
    rintro e w1 ⟨rfl, a1, B1⟩
    have l1 := hlow.on B1
    have c7 := a1.c7
    clear a
    go_wp2_with fail
    refine (CI.out _).mono ?_
    rintro e w1 ⟨rfl, rfl⟩
    go_wp2_with fail
    refine (CC.out _ l1.1.2).mono ?_
    rintro e w2 ⟨rfl, b2⟩
    have a2 := a1.below b2
    have B2 := B1.trans (b2.mono (Nat.le_of_lt a1.lt))
    have hB1 := a1.lt
    clear c7 a1 B1
    have l2 := l1.on (b2.mono (Nat.le_of_lt hB1))
    clear b2 l1
    have c7 := a2.c7
    have c6 := a2.c6
    have f6 := a2.free 6
    have a3 := a2.set6 PA
    have B3 := B2.setCell (p := ⟨B, 6, none⟩) (Nat.le_refl _) (.string PA)
    have l3 := l2.on ((Below.refl B w2).setCell (p := ⟨B, 6, none⟩) (Nat.le_refl _) (.string PA))
    go_wp2_with fail
    clear c7 c6 f6 a2 B2 l2
    generalize w2.setCell ⟨B, 6, none⟩ (.string PA) = w3 at a3 B3 l3 ⊢
    refine (CL.out _).mono ?_
    rintro e w4 ⟨rfl, b4⟩
    have a4 := a3.below b4
    have B4 := B3.trans (b4.mono (Nat.le_of_lt a3.lt))
    have l4 := l3.on (b4.mono (Nat.le_of_lt a3.lt))
    clear a3 B3 l3 b4
    go_wp2_with fail
    refine (HH.out _ a4).mono ?_
    rintro e w5 ⟨rfl, a5, B5⟩
    have l5 := l4.on B5
    have B6 := B4.trans B5
    clear a4 B4 l4 B5
    go_wp2_with fail
    refine (HP.out _ a5).mono ?_
    rintro e w6 ⟨rfl, a6, B7⟩
    go_wp2
    go_ret
    exact ⟨rfl, a6, B6.trans B7⟩
  · have hz : ¬ (E : Int) < 0 := by omega
    go_enter Tryz.func46, Tryz.ntmps46
    go_wp2_with fail
    refine (HC.out _ hlow a).mono ?_
    rintro e w1 ⟨rfl, a1, B1⟩
    have l1 := hlow.on B1
    have c7 := a1.c7
    clear a
    go_wp2_with fail
    refine (CI.out _).mono ?_
    rintro e w1 ⟨rfl, rfl⟩
    go_wp2_with fail
    refine (CC.out _ l1.1.2).mono ?_
    rintro e w2 ⟨rfl, b2⟩
    have a2 := a1.below b2
    have B2 := B1.trans (b2.mono (Nat.le_of_lt a1.lt))
    have hB1 := a1.lt
    clear c7 a1 B1
    have l2 := l1.on (b2.mono (Nat.le_of_lt hB1))
    clear b2 l1
    have c7 := a2.c7
    have c6 := a2.c6
    have f6 := a2.free 6
    have a3 := a2.set6 PA
    have B3 := B2.setCell (p := ⟨B, 6, none⟩) (Nat.le_refl _) (.string PA)
    have l3 := l2.on ((Below.refl B w2).setCell (p := ⟨B, 6, none⟩) (Nat.le_refl _) (.string PA))
    go_wp2_with fail
    clear c7 c6 f6 a2 B2 l2
    generalize w2.setCell ⟨B, 6, none⟩ (.string PA) = w3 at a3 B3 l3 ⊢
    refine (CL.out _).mono ?_
    rintro e w4 ⟨rfl, b4⟩
    have a4 := a3.below b4
    have B4 := B3.trans (b4.mono (Nat.le_of_lt a3.lt))
    have l4 := l3.on (b4.mono (Nat.le_of_lt a3.lt))
    clear a3 B3 l3 b4
    go_wp2_with fail
    refine (HH.out _ a4).mono ?_
    rintro e w5 ⟨rfl, a5, B5⟩
    have l5 := l4.on B5
    have B6 := B4.trans B5
    clear a4 B4 l4 B5
    go_wp2_with fail
    refine (HP.out _ a5).mono ?_
    rintro e w6 ⟨rfl, a6, B7⟩
    go_wp2
    go_ret
    exact ⟨rfl, a6, B6.trans B7⟩

set_option maxRecDepth 100000 in
set_option maxHeartbeats 2000000 in
theorem place_pno (L S R U PA NM N PT : ByteArray) (B : Nat) (HC : Hid (HeadC B L S R)) (E : Nat) (n : Int) (CI : Hid (∀ W, Calls Tryz.prog 76 #[.string R, .string ⟨#[47]⟩] W fun e w' => e = .returned (.int .i64 n) ∧ w' = W)) (hn : (n = -1 ∧ E = R.size) ∨ (n = (E : Int))) (hE : E ≤ R.size)
    (s1 : ∀ W, (Instr.slice 9 (.string R) none (some (.int .i64 (E : Int))) none).run Tryz.prog W = .ok (.string U) W) (s2 : ∀ W, (Instr.slice 9 (.string R) (some (.int .i64 (E : Int))) none none).run Tryz.prog W = .ok (.string PA) W)
    (CC : Hid (∀ W, MaxIn W → Calls Tryz.prog 77 #[.string U, .string ⟨#[58]⟩] W fun e w' => e = .returned (.tuple #[.string NM, .string PT, .bool true]) ∧ Below W.heap.size W w')) (CL : Hid (∀ W, Calls Tryz.prog 13 #[.string NM] W fun e w' => e = .returned (.string N) ∧ Below W.heap.size W w')) (H : ByteArray) (wd : Bool) (HH : Hid (∀ W, CX W B 12 ⟨#[]⟩ S ⟨#[]⟩ false 0 PA R → Calls Tryz.prog 78 #[.pointer (some ⟨B, 0, none⟩), .string N] W fun e w' => e = .returned (.bool true) ∧ CX w' B 12 ⟨#[]⟩ S H wd 0 PA R ∧ Below B W w')) (HP : Hid (∀ W, LowIn B W → CX W B 12 ⟨#[]⟩ S H wd 0 PA R → Calls Tryz.prog 79 #[.pointer (some ⟨B, 0, none⟩), .string PT] W fun e w' => e = .returned (.bool false) ∧ Below B W w')) (w : World) (hlow : LowIn B w) (a : CX w B 12 ⟨#[]⟩ ⟨#[]⟩ ⟨#[]⟩ false 0 ⟨#[]⟩ L) :
    Calls Tryz.prog 46 #[.pointer (some ⟨B, 0, none⟩)] w fun e w' => e = .returned (.bool false) ∧ Below B w w' := by
  rcases hn with ⟨rfl, rfl⟩ | rfl
  · show _
    go_enter Tryz.func46, Tryz.ntmps46
    go_wp2_with fail
    refine (HC.out _ hlow a).mono ?_
    rintro e w1 ⟨rfl, a1, B1⟩
    have l1 := hlow.on B1
    have c7 := a1.c7
    clear a
    go_wp2_with fail
    refine (CI.out _).mono ?_
    rintro e w1 ⟨rfl, rfl⟩
    go_wp2_with fail
    refine (CC.out _ l1.1.2).mono ?_
    rintro e w2 ⟨rfl, b2⟩
    have a2 := a1.below b2
    have B2 := B1.trans (b2.mono (Nat.le_of_lt a1.lt))
    have hB1 := a1.lt
    clear c7 a1 B1
    have l2 := l1.on (b2.mono (Nat.le_of_lt hB1))
    clear b2 l1
    have c7 := a2.c7
    have c6 := a2.c6
    have f6 := a2.free 6
    have a3 := a2.set6 PA
    have B3 := B2.setCell (p := ⟨B, 6, none⟩) (Nat.le_refl _) (.string PA)
    have l3 := l2.on ((Below.refl B w2).setCell (p := ⟨B, 6, none⟩) (Nat.le_refl _) (.string PA))
    go_wp2_with fail
    clear c7 c6 f6 a2 B2 l2
    generalize w2.setCell ⟨B, 6, none⟩ (.string PA) = w3 at a3 B3 l3 ⊢
    refine (CL.out _).mono ?_
    rintro e w4 ⟨rfl, b4⟩
    have a4 := a3.below b4
    have B4 := B3.trans (b4.mono (Nat.le_of_lt a3.lt))
    have l4 := l3.on (b4.mono (Nat.le_of_lt a3.lt))
    clear a3 B3 l3 b4
    go_wp2_with fail
    refine (HH.out _ a4).mono ?_
    rintro e w5 ⟨rfl, a5, B5⟩
    have l5 := l4.on B5
    have B6 := B4.trans B5
    clear a4 B4 l4 B5
    go_wp2_with fail
    refine (HP.out _ l5 a5).mono ?_
    rintro e w6 ⟨rfl, B7⟩
    go_wp2
    go_ret
    exact ⟨rfl, B6.trans B7⟩
  · have hz : ¬ (E : Int) < 0 := by omega
    go_enter Tryz.func46, Tryz.ntmps46
    go_wp2_with fail
    refine (HC.out _ hlow a).mono ?_
    rintro e w1 ⟨rfl, a1, B1⟩
    have l1 := hlow.on B1
    have c7 := a1.c7
    clear a
    go_wp2_with fail
    refine (CI.out _).mono ?_
    rintro e w1 ⟨rfl, rfl⟩
    go_wp2_with fail
    refine (CC.out _ l1.1.2).mono ?_
    rintro e w2 ⟨rfl, b2⟩
    have a2 := a1.below b2
    have B2 := B1.trans (b2.mono (Nat.le_of_lt a1.lt))
    have hB1 := a1.lt
    clear c7 a1 B1
    have l2 := l1.on (b2.mono (Nat.le_of_lt hB1))
    clear b2 l1
    have c7 := a2.c7
    have c6 := a2.c6
    have f6 := a2.free 6
    have a3 := a2.set6 PA
    have B3 := B2.setCell (p := ⟨B, 6, none⟩) (Nat.le_refl _) (.string PA)
    have l3 := l2.on ((Below.refl B w2).setCell (p := ⟨B, 6, none⟩) (Nat.le_refl _) (.string PA))
    go_wp2_with fail
    clear c7 c6 f6 a2 B2 l2
    generalize w2.setCell ⟨B, 6, none⟩ (.string PA) = w3 at a3 B3 l3 ⊢
    refine (CL.out _).mono ?_
    rintro e w4 ⟨rfl, b4⟩
    have a4 := a3.below b4
    have B4 := B3.trans (b4.mono (Nat.le_of_lt a3.lt))
    have l4 := l3.on (b4.mono (Nat.le_of_lt a3.lt))
    clear a3 B3 l3 b4
    go_wp2_with fail
    refine (HH.out _ a4).mono ?_
    rintro e w5 ⟨rfl, a5, B5⟩
    have l5 := l4.on B5
    have B6 := B4.trans B5
    clear a4 B4 l4 B5
    go_wp2_with fail
    refine (HP.out _ l5 a5).mono ?_
    rintro e w6 ⟨rfl, B7⟩
    go_wp2
    go_ret
    exact ⟨rfl, B6.trans B7⟩

end Go.Proofs.YtmfejcmhbncchaaGreatDoor
