/- Rows of Fails held against one another; the document's rows. -/
import Derived.Test.YtccmmeehiafbiaaDoorEntH
import Derived.Test.YtccmmeehiafbiaaDoorEntF
namespace Go.Proofs.YtccmmeehiafbiaaDoor
open Go.RowKit

/-- A slice of Fails at these places. -/
def FailsIn (w : World) (v : Value) (p : List Nat) : Prop :=
  ((∃ a c, v = .slice a 0 c) ∧ p = []) ∨ ∃ B off cap, v = .slice (some ⟨B, off, none⟩) p.length cap ∧ ∀ i, (h : i < p.length) → w.cell? ⟨B, off + i * 2, none⟩ = some (.int .i64 130) ∧ w.cell? ⟨B, off + i * 2 + 1, none⟩ = some (.int .i64 (p[i] : Int))
theorem FailsIn.below {w w' : World} {v : Value} {p : List Nat} (h : FailsIn w v p) (hb : Below w.heap.size w w') : FailsIn w' v p := by
  rcases h with h | ⟨B, off, cap, h1, h2⟩
  · exact .inl h
  · exact .inr ⟨B, off, cap, h1, fun i hi => ⟨by rw [hb.cell (lt_of_cell (h2 i hi).1)]; exact (h2 i hi).1, by rw [hb.cell (lt_of_cell (h2 i hi).2)]; exact (h2 i hi).2⟩⟩
theorem FailsIn.form {w : World} {v : Value} {p : List Nat} (h : FailsIn w v p) : ∃ a c, v = .slice a p.length c := by
  rcases h with ⟨⟨a, c, rfl⟩, rfl⟩ | ⟨B, off, cap, rfl, _⟩
  · exact ⟨_, _, rfl⟩
  · exact ⟨_, _, rfl⟩
theorem failCs_at : ∀ (p : List Nat) (i : Nat) (h : i < p.length), (failCs p)[i * 2]? = some (.int .i64 130) ∧ (failCs p)[i * 2 + 1]? = some (.int .i64 (p[i] : Int))
  | a :: r, 0, _ => ⟨rfl, rfl⟩
  | a :: r, i + 1, h => by
    have := failCs_at r i (by simpa using h)
    rw [show failCs (a :: r) = [.int .i64 130, .int .i64 (a : Int)] ++ failCs r from rfl]
    rw [List.getElem?_append_right (by simp; omega), List.getElem?_append_right (by simp; omega)]
    simp only [List.length_cons, List.length_nil, List.getElem_cons_succ]
    rw [show (i + 1) * 2 - (0 + 1 + 1) = i * 2 by omega, show (i + 1) * 2 + 1 - (0 + 1 + 1) = i * 2 + 1 by omega]
    exact this
theorem FailsIn.of_row {w : World} {base : Nat} {v : Value} {p : List Nat} (h : w.ownsRow base 34 2 v p.length (failCs p)) : FailsIn w v p := by
  rcases rowForms h with ⟨h1, h2⟩ | ⟨g, cap, rfl⟩
  · exact .inl ⟨⟨_, _, h1⟩, List.length_eq_zero_iff.1 h2⟩
  · refine .inr ⟨g, 0, cap, rfl, fun i hi => ?_⟩
    obtain ⟨e1, e2⟩ := failCs_at p i hi
    rw [Nat.zero_add, h.cellAt (i * 2) (by omega), h.cellAt (i * 2 + 1) (by omega)]
    exact ⟨e1, e2⟩
theorem FailsIn.made (w : World) (p : List Nat) (C : Array Value) (hC : C = (failCs p).toArray) (n : Nat) (hn : n = p.length) : FailsIn (w.alloc (.cells C 34)) (.slice (some ⟨w.heap.size, 0, none⟩) n n) p := by
  subst hn hC
  refine .inr ⟨_, _, _, rfl, fun i hi => ?_⟩
  obtain ⟨e1, e2⟩ := failCs_at p i hi
  rw [World.cell?_alloc_mark, World.cell?_alloc_mark, Nat.zero_add]
  simpa using ⟨e1, e2⟩

theorem decode_hid (s T : ByteArray) (p : List Nat) (h : decT 0 s.data.toList = (T.data.toList, p)) (hs : s.size ≤ 1000000) : Hid (∀ W, Low W → Calls Tryd.prog 9 #[.string s] W fun e w' => ∃ a c, e = .returned (.tuple #[.string T, .slice a p.length c]) ∧ FailsIn w' (.slice a p.length c) p ∧ Below W.heap.size W w') := Lib.hid fun W hw => (decode_any s hs W hw).mono fun e w' ⟨v, h1, h2, h3⟩ => by
  rw [h] at h1 h2
  have hf := FailsIn.of_row h2
  obtain ⟨a, c, rfl⟩ := hf.form
  exact ⟨a, c, by rw [h1, text_is (T := T) rfl], hf, h3⟩
theorem refDecode_hid (s T : ByteArray) (p : List Nat) (h : decT 0 s.data.toList = (T.data.toList, p)) (hs : s.size ≤ 100000) : Hid (∀ W, Calls Tryd.prog 10 #[.string s] W fun e w' => ∃ a c, e = .returned (.tuple #[.string T, .slice a p.length c]) ∧ FailsIn w' (.slice a p.length c) p ∧ Below W.heap.size W w') := Lib.hid fun W => (refDecode_any s hs W).mono fun e w' ⟨v, h1, h2, h3⟩ => by
  rw [h] at h1 h2
  have hf := FailsIn.of_row h2
  obtain ⟨a, c, rfl⟩ := hf.form
  exact ⟨a, c, by rw [h1, text_is (T := T) rfl], hf, h3⟩

set_option maxRecDepth 100000 in
set_option maxHeartbeats 4000000 in
/-- Two rows that are the same. -/
theorem fails_same (p : List Nat) (u v : Value) (w : World) (hp : FailsIn w u p) (hq : FailsIn w v p) (hl : p.length ≤ 1000000) :
    Calls Tryd.prog 14 #[u, v] w fun e w' => e = .returned (.bool true) ∧ Below w.heap.size w w' := by
  have hl0 : (0 : Int) ≤ (p.length : Int) := by omega
  rcases hp with ⟨⟨a0, c0, rfl⟩, rfl⟩ | ⟨B, off, cap, rfl, hc⟩
  · obtain ⟨a1, c1, rfl⟩ := hq.form
    clear hq hl hl0
    go_enter Tryd.func14, Tryd.ntmps14
    go_wp2
    refine wp_loop_rounds 1 ?_
    rw [rounds_succ]
    go_wp2
    go_ret
    exact ⟨rfl, Below.refl _ _⟩
  rcases hq with ⟨⟨a1, c1, rfl⟩, rfl⟩ | ⟨B2, off2, cap2, rfl, hc2⟩
  · clear hc hl hl0
    go_enter Tryd.func14, Tryd.ntmps14
    go_wp2
    refine wp_loop_rounds 1 ?_
    rw [rounds_succ]
    go_wp2
    go_ret
    exact ⟨rfl, Below.refl _ _⟩
  have HC := Lib.hid hc
  have HC2 := Lib.hid hc2
  have g0 : ((p.length : Int) != (p.length : Int)) = false := by simp
  clear hc hc2
  go_enter Tryd.func14, Tryd.ntmps14
  go_wp2
  go_loopw [5] (fun i wr => ∃ k n : Nat, i = .int .i64 k ∧ k ≤ p.length ∧ wr = w.drewN n) (fun i _ => p.length - (intOf i).toNat)
  case atStart => exact ⟨0, 0, rfl, Nat.zero_le _, rfl⟩
  case round =>
    obtain ⟨k, n, rfl, hk, rfl⟩ := hrel
    by_cases hlt : k < p.length
    · obtain ⟨c1, c2⟩ := HC.out k hlt
      obtain ⟨d1, d2⟩ := HC2.out k hlt
      have hix : (k : Int) < (p.length : Int) := by omega
      generalize (p[k] : Int) = x at *
      have g : (x != x) = false := by simp
      go_wp2_with fail
      go_quiet (fail)
      go_wp2
      go_roundw
      case rel => exact ⟨k + 1, n + nq, by go_num, by omega, rfl⟩
      case measure => simp [intOf]; omega
    · obtain rfl : k = p.length := by omega
      go_wp2
      go_ret
      exact ⟨rfl, belowN (Below.refl _ _) _⟩

set_option maxRecDepth 100000 in
set_option maxHeartbeats 8000000 in
theorem signs_any (w : World) (hw : Low w) : Calls Tryd.prog 13 #[] w fun e w' => e = .returned (.bool true) ∧ Below w.heap.size w w' := by
  obtain ⟨T0, hT0⟩ := text_of [97, 60, 98, 38, 108, 116, 59]
  have C0 := decode_hid ⟨#[97, 38, 108, 116, 59, 98, 38, 97, 109, 112, 59, 108, 116, 59]⟩ T0 [] (by rw [hT0]; decide +kernel) (by decide)
  have g0 : (T0.toList == [97, 60, 98, 38, 108, 116, 59]) = true := by rw [text_lit]; exact decide_eq_true hT0
  clear hT0
  obtain ⟨T1, hT1⟩ := text_of [97, 98, 226, 128, 168]
  have C1 := decode_hid ⟨#[38, 35, 57, 55, 59, 38, 35, 120, 54, 50, 59, 38, 35, 120, 50, 48, 50, 56, 59]⟩ T1 [] (by rw [hT1]; decide +kernel) (by decide)
  have g1 : (T1.toList == [97, 98, 226, 128, 168]) = true := by rw [text_lit]; exact decide_eq_true hT1
  clear hT1
  obtain ⟨T2, hT2⟩ := text_of [239, 191, 189, 239, 191, 189]
  have C2 := decode_hid ⟨#[38, 35, 48, 59, 38, 35, 53, 53, 50, 57, 54, 59]⟩ T2 [0, 4] (by rw [hT2]; decide +kernel) (by decide)
  have g2 : (T2.toList == [239, 191, 189, 239, 191, 189]) = true := by rw [text_lit]; exact decide_eq_true hT2
  clear hT2
  obtain ⟨T3, hT3⟩ := text_of [38, 102, 111, 111, 59, 38, 108, 116, 32, 38, 35, 59, 38, 35, 120, 59]
  have C3 := decode_hid ⟨#[38, 102, 111, 111, 59, 38, 108, 116, 32, 38, 35, 59, 38, 35, 120, 59]⟩ T3 [] (by rw [hT3]; decide +kernel) (by decide)
  have g3 : (T3.toList == [38, 102, 111, 111, 59, 38, 108, 116, 32, 38, 35, 59, 38, 35, 120, 59]) = true := by rw [text_lit]; exact decide_eq_true hT3
  clear hT3
  obtain ⟨T4, hT4⟩ := text_of [58]
  have C4 := nameP_hid ⟨#[99, 111, 108, 111, 110]⟩ T4 (by rw [hT4]; decide +kernel) true (by decide +kernel)
  have g4 : (T4.toList == [58]) = true := by rw [text_lit]; exact decide_eq_true hT4
  obtain ⟨T5, hT5⟩ := text_of [38, 108, 116, 59, 97, 32, 104, 114, 101, 102, 61, 38, 97, 112, 111, 115, 59, 38, 97, 109, 112, 59, 38, 97, 112, 111, 115, 59, 38, 103, 116, 59]
  have C5 := encode_hid ⟨#[60, 97, 32, 104, 114, 101, 102, 61, 39, 38, 39, 62]⟩ T5 (by rw [hT5]; decide +kernel) (by decide)
  have g5 : (T5.toList == [38, 108, 116, 59, 97, 32, 104, 114, 101, 102, 61, 38, 97, 112, 111, 115, 59, 38, 97, 109, 112, 59, 38, 97, 112, 111, 115, 59, 38, 103, 116, 59]) = true := by rw [text_lit]; exact decide_eq_true hT5
  have HW := Lib.hid hw
  clear hw hT4 hT5
  go_enter Tryd.func13, Tryd.ntmps13
  go_wp2_with fail
  (with_reducible refine (C0.out _ HW.out).mono ?_)
  rintro e w1 ⟨a1, k1, rfl, -, b1⟩
  have HW1 := Lib.hid (HW.out.below b1)
  go_wp2_with fail
  (with_reducible refine (C1.out _ HW1.out).mono ?_)
  rintro e w2 ⟨a2, k2, rfl, -, b⟩
  have b2 := b1.trans (b.mono b1.size)
  clear b
  have HW2 := Lib.hid (HW.out.below b2)
  go_wp2_with fail
  (with_reducible refine (C2.out _ HW2.out).mono ?_)
  rintro e w3 ⟨a3, k3, rfl, f3, b⟩
  have b3 := b2.trans (b.mono b2.size)
  clear b
  have HW3 := Lib.hid (HW.out.below b3)
  go_wp2_with fail
  (with_reducible refine (C3.out _ HW3.out).mono ?_)
  rintro e w4 ⟨a4, k4, rfl, -, b⟩
  have f4 := f3.below b
  have b4 := b3.trans (b.mono b3.size)
  clear b f3
  have HW4 := Lib.hid (HW.out.below b4)
  go_wp2_with fail
  (with_reducible refine (C4.out _ HW4.out.s).mono ?_)
  rintro e w5 ⟨rfl, b⟩
  have f5 := f4.below b
  have b5 := b4.trans (b.mono b4.size)
  clear b f4
  have n5 := FailsIn.made w5 [0, 4] _ rfl 2 rfl
  have f6 := f5.below ((Below.refl _ _).alloc (Nat.le_refl _) (.cells (failCs [0, 4]).toArray 34))
  have CF := Lib.hid (fails_same [0, 4] _ _ _ f6 n5 (by decide))
  clear f5 f6 n5
  go_wp2_with fail
  refine CF.out.mono ?_
  rintro e w6 ⟨rfl, b⟩
  have b6 := b5.trans (((Below.refl _ _).alloc (Nat.le_refl _) _).trans (b.mono (by simp)) |>.mono b5.size)
  clear b
  have HW6 := Lib.hid (HW.out.below b6)
  go_wp2_with fail
  (with_reducible refine (C5.out _ HW6.out.s).mono ?_)
  rintro e w7 ⟨rfl, b⟩
  have b7 := b6.trans (b.mono b6.size)
  clear b
  go_wp2
  go_ret
  exact ⟨rfl, b7⟩
theorem signs_hid : Hid (∀ W, Low W → Calls Tryd.prog 13 #[] W fun e w' => e = .returned (.bool true) ∧ Below W.heap.size W w') := Lib.hid fun W hw => signs_any W hw

end Go.Proofs.YtccmmeehiafbiaaDoor
