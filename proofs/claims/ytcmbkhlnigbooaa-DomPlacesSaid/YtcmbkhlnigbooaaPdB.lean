/- The program's nodes: may a node be. -/
import Derived.Test.YtcmbkhlnigbooaaPdA
namespace Go.Proofs.Ytcmbkhlnigbooaa.Dm
open Go.RowKit

set_option maxRecDepth 100000 in
set_option maxHeartbeats 4000000 in
theorem maybe_three (x : Nd) (N D : ByteArray) (hN : N.data.toList = x.n) (hD : D.data.toList = x.d) (a ka : Option Addr) (c kc : Nat) (w : World) (ha : AtIn w (.slice a x.a.length c) x.a) : Calls Try.prog 58 #[.agg #[.int .i64 3, .string N, .string D, .slice a x.a.length c, .int .i64 x.p, .slice ka x.c.length kc, .bool x.b, .bool x.s]] w fun e w' => e = .returned (.bool (bareM x && decide (x.c.length = 0))) ∧ Below w.heap.size w w' := by
  have al := (Below.refl w.heap.size w).alloc (Nat.le_refl _) (.cells #[.int .i64 3, .string N, .string D, .slice a x.a.length c, .int .i64 x.p, .slice ka x.c.length kc, .bool x.b, .bool x.s] 42)
  have hbx := new_block w (.cells #[.int .i64 3, .string N, .string D, .slice a x.a.length c, .int .i64 x.p, .slice ka x.c.length kc, .bool x.b, .bool x.s] 42)
  have hat := ha.below al
  generalize hw1 : w.alloc (.cells #[.int .i64 3, .string N, .string D, .slice a x.a.length c, .int .i64 x.p, .slice ka x.c.length kc, .bool x.b, .bool x.s] 42) = w1 at al hbx hat
  have e0 := cell_of hbx 0
  have e1 := cell_of hbx 1
  have e2 := cell_of hbx 2
  have e3 := cell_of hbx 3
  have e4 := cell_of hbx 4
  have e5 := cell_of hbx 5
  have e6 := cell_of hbx 6
  have e7 := cell_of hbx 7
  have CB := (bare_hid { x with k := 3 })
  have HB := Lib.hid al
  have HA := Lib.hid hat
  unfold nodeV at CB
  simp only [strV_of hN, strV_of hD] at CB
  have hbe : bareM { x with k := 3 } = bareM x := rfl
  rw [hbe] at CB
  clear ha al hbx hat hbe hN hD
  generalize bareM x = bm at CB ⊢
  go_enter Try.func58, Try.ntmps58
  go_wp2_with fail
  (refine (CB.out _ _ _ HA.out).mono ?_)
  rintro e w2 ⟨rfl, b2⟩
  have HB2 := Lib.hid (HB.out.trans (b2.mono HB.out.size))
  have g5 : w2.cell? ⟨w.heap.size, 5, none⟩ = _ := (b2.cell (lt_of_cell e5)).trans e5
  clear CB b2 HB hw1 e0 e1 e2 e3 e4 e6 e7 e5
  cases bm with
  | false =>
    go_wp2
    go_ret
    exact ⟨rfl, HB2.out⟩
  | true =>
    have HP : Hid ((((x.c.length : Int)) == 0) = (true && decide (x.c.length = 0))) := Lib.hid (natCast_eq x.c.length 0)
    go_wp2
    go_ret
    exact ⟨congrArg (fun b => Ending.returned (Value.bool b)) HP.out, HB2.out⟩

set_option maxRecDepth 100000 in
set_option maxHeartbeats 4000000 in
theorem maybe_four (x : Nd) (N D : ByteArray) (hN : N.data.toList = x.n) (hD : D.data.toList = x.d) (a ka : Option Addr) (c kc : Nat) (w : World) (ha : AtIn w (.slice a x.a.length c) x.a) : Calls Try.prog 58 #[.agg #[.int .i64 4, .string N, .string D, .slice a x.a.length c, .int .i64 x.p, .slice ka x.c.length kc, .bool x.b, .bool x.s]] w fun e w' => e = .returned (.bool (bareM x && decide (x.c.length = 0))) ∧ Below w.heap.size w w' := by
  have al := (Below.refl w.heap.size w).alloc (Nat.le_refl _) (.cells #[.int .i64 4, .string N, .string D, .slice a x.a.length c, .int .i64 x.p, .slice ka x.c.length kc, .bool x.b, .bool x.s] 42)
  have hbx := new_block w (.cells #[.int .i64 4, .string N, .string D, .slice a x.a.length c, .int .i64 x.p, .slice ka x.c.length kc, .bool x.b, .bool x.s] 42)
  have hat := ha.below al
  generalize hw1 : w.alloc (.cells #[.int .i64 4, .string N, .string D, .slice a x.a.length c, .int .i64 x.p, .slice ka x.c.length kc, .bool x.b, .bool x.s] 42) = w1 at al hbx hat
  have e0 := cell_of hbx 0
  have e1 := cell_of hbx 1
  have e2 := cell_of hbx 2
  have e3 := cell_of hbx 3
  have e4 := cell_of hbx 4
  have e5 := cell_of hbx 5
  have e6 := cell_of hbx 6
  have e7 := cell_of hbx 7
  have CB := (bare_hid { x with k := 4 })
  have HB := Lib.hid al
  have HA := Lib.hid hat
  unfold nodeV at CB
  simp only [strV_of hN, strV_of hD] at CB
  have hbe : bareM { x with k := 4 } = bareM x := rfl
  rw [hbe] at CB
  clear ha al hbx hat hbe hN hD
  generalize bareM x = bm at CB ⊢
  go_enter Try.func58, Try.ntmps58
  go_wp2_with fail
  (refine (CB.out _ _ _ HA.out).mono ?_)
  rintro e w2 ⟨rfl, b2⟩
  have HB2 := Lib.hid (HB.out.trans (b2.mono HB.out.size))
  have g5 : w2.cell? ⟨w.heap.size, 5, none⟩ = _ := (b2.cell (lt_of_cell e5)).trans e5
  clear CB b2 HB hw1 e0 e1 e2 e3 e4 e6 e7 e5
  cases bm with
  | false =>
    go_wp2
    go_ret
    exact ⟨rfl, HB2.out⟩
  | true =>
    have HP : Hid ((((x.c.length : Int)) == 0) = (true && decide (x.c.length = 0))) := Lib.hid (natCast_eq x.c.length 0)
    go_wp2
    go_ret
    exact ⟨congrArg (fun b => Ending.returned (Value.bool b)) HP.out, HB2.out⟩

set_option maxRecDepth 100000 in
set_option maxHeartbeats 4000000 in
theorem maybe_one (x : Nd) (N D : ByteArray) (hN : N.data.toList = x.n) (hD : D.data.toList = x.d) (a ka : Option Addr) (c kc : Nat) (w : World) (ha : AtIn w (.slice a x.a.length c) x.a) : Calls Try.prog 58 #[.agg #[.int .i64 1, .string N, .string D, .slice a x.a.length c, .int .i64 x.p, .slice ka x.c.length kc, .bool x.b, .bool x.s]] w fun e w' => e = .returned (.bool (bareM x && decide (D.data.toList = []))) ∧ Below w.heap.size w w' := by
  have al := (Below.refl w.heap.size w).alloc (Nat.le_refl _) (.cells #[.int .i64 1, .string N, .string D, .slice a x.a.length c, .int .i64 x.p, .slice ka x.c.length kc, .bool x.b, .bool x.s] 42)
  have hbx := new_block w (.cells #[.int .i64 1, .string N, .string D, .slice a x.a.length c, .int .i64 x.p, .slice ka x.c.length kc, .bool x.b, .bool x.s] 42)
  have hat := ha.below al
  generalize hw1 : w.alloc (.cells #[.int .i64 1, .string N, .string D, .slice a x.a.length c, .int .i64 x.p, .slice ka x.c.length kc, .bool x.b, .bool x.s] 42) = w1 at al hbx hat
  have e0 := cell_of hbx 0
  have e1 := cell_of hbx 1
  have e2 := cell_of hbx 2
  have e3 := cell_of hbx 3
  have e4 := cell_of hbx 4
  have e5 := cell_of hbx 5
  have e6 := cell_of hbx 6
  have e7 := cell_of hbx 7
  have CB := (bare_hid { x with k := 1 })
  have HB := Lib.hid al
  have HA := Lib.hid hat
  unfold nodeV at CB
  simp only [strV_of hN, strV_of hD] at CB
  have hbe : bareM { x with k := 1 } = bareM x := rfl
  rw [hbe] at CB
  clear ha al hbx hat hbe hN hD
  generalize bareM x = bm at CB ⊢
  go_enter Try.func58, Try.ntmps58
  go_wp2_with fail
  (refine (CB.out _ _ _ HA.out).mono ?_)
  rintro e w2 ⟨rfl, b2⟩
  have HB2 := Lib.hid (HB.out.trans (b2.mono HB.out.size))
  have g2 : w2.cell? ⟨w.heap.size, 2, none⟩ = _ := (b2.cell (lt_of_cell e2)).trans e2
  clear CB b2 HB hw1 e0 e1 e2 e3 e4 e6 e7 e5
  cases bm with
  | false =>
    go_wp2
    go_ret
    exact ⟨rfl, HB2.out⟩
  | true =>
    go_wp2
    all_goals go_ret
    all_goals refine ⟨?_, HB2.out⟩
    all_goals simp_all [ByteArray.toList_eq]
    all_goals first | done | exact arr_empty _

set_option maxRecDepth 100000 in
set_option maxHeartbeats 4000000 in
theorem maybe_two (x : Nd) (N D : ByteArray) (a ka : Option Addr) (c kc : Nat) (w : World) (ha : AtIn w (.slice a x.a.length c) x.a) (hl : x.a.length ≤ 1000) (hcap : x.a.length ≤ c) : Calls Try.prog 58 #[.agg #[.int .i64 2, .string N, .string D, .slice a x.a.length c, .int .i64 x.p, .slice ka x.c.length kc, .bool x.b, .bool x.s]] w fun e w' => e = .returned (.bool (decide (N.data.toList ≠ []) && decide (D.data.toList = []) && decide (x.a.length ≤ 30) && decide (x.a.map Prod.fst).Nodup)) ∧ Below w.heap.size w w' := by
  have al := (Below.refl w.heap.size w).alloc (Nat.le_refl _) (.cells #[.int .i64 2, .string N, .string D, .slice a x.a.length c, .int .i64 x.p, .slice ka x.c.length kc, .bool x.b, .bool x.s] 42)
  have hbx := new_block w (.cells #[.int .i64 2, .string N, .string D, .slice a x.a.length c, .int .i64 x.p, .slice ka x.c.length kc, .bool x.b, .bool x.s] 42)
  have hat := ha.below al
  generalize hw1 : w.alloc (.cells #[.int .i64 2, .string N, .string D, .slice a x.a.length c, .int .i64 x.p, .slice ka x.c.length kc, .bool x.b, .bool x.s] 42) = w1 at al hbx hat
  have e0 := cell_of hbx 0
  have e1 := cell_of hbx 1
  have e2 := cell_of hbx 2
  have e3 := cell_of hbx 3
  have e4 := cell_of hbx 4
  have e5 := cell_of hbx 5
  have e6 := cell_of hbx 6
  have e7 := cell_of hbx 7
  have CD := differ_hid x.a (by omega)
  have HB := Lib.hid al
  have HA := Lib.hid hat
  clear ha al hbx hat
  generalize decide (x.a.map Prod.fst).Nodup = df at CD ⊢
  by_cases h1 : N = ⟨#[]⟩
  · subst h1
    go_enter Try.func58, Try.ntmps58
    go_wp2
    go_ret
    exact ⟨rfl, HB.out⟩
  have h1n : decide (N.data.toList ≠ []) = true := decide_eq_true fun h => h1 (text_ext h)
  have z1 : (N.toList == []) = false := by rw [text_lit]; exact decide_eq_false fun h => h1 (text_ext h)
  by_cases h2 : D = ⟨#[]⟩
  case neg =>
    have h2n : decide (D.data.toList = []) = false := decide_eq_false fun h => h2 (text_ext h)
    rw [h1n, h2n]
    clear h1n h2n CD HA
    have z2 : (D.toList == []) = false := by rw [text_lit]; exact decide_eq_false fun h => h2 (text_ext h)
    go_enter Try.func58, Try.ntmps58
    go_wp2
    go_ret
    exact ⟨rfl, HB.out⟩
  subst h2
  by_cases h3 : x.a.length ≤ 30
  · have z3 : (x.a.length : Int) ≤ 30 := by omega
    rw [h1n, decide_eq_true h3]
    clear h1n
    go_enter Try.func58, Try.ntmps58
    go_wp2_with fail
    (refine (CD.out _ _ _ HA.out hcap).mono ?_)
    rintro e w2 ⟨rfl, b2⟩
    have HB2 := Lib.hid (HB.out.trans (b2.mono HB.out.size))
    clear CD b2 HB hw1 e0 e1 e2 e3 e4 e6 e7 e5
    go_wp2
    go_ret
    exact ⟨rfl, HB2.out⟩
  · have z3 : ¬ ((x.a.length : Int) ≤ 30) := by omega
    rw [h1n, decide_eq_false h3]
    clear h1n CD
    go_enter Try.func58, Try.ntmps58
    go_wp2
    go_ret
    exact ⟨rfl, HB.out⟩

set_option maxRecDepth 100000 in
set_option maxHeartbeats 4000000 in
theorem maybe_none (x : Nd) (k : Int) (h1 : k ≠ 1) (h2 : k ≠ 2) (h3 : k ≠ 3) (h4 : k ≠ 4) (N D : ByteArray) (av kv : Value) (w : World) : Calls Try.prog 58 #[.agg #[.int .i64 k, .string N, .string D, av, .int .i64 x.p, kv, .bool x.b, .bool x.s]] w fun e w' => e = .returned (.bool false) ∧ Below w.heap.size w w' := by
  have al := (Below.refl w.heap.size w).alloc (Nat.le_refl _) (.cells #[.int .i64 k, .string N, .string D, av, .int .i64 x.p, kv, .bool x.b, .bool x.s] 42)
  have hbx := new_block w (.cells #[.int .i64 k, .string N, .string D, av, .int .i64 x.p, kv, .bool x.b, .bool x.s] 42)
  generalize hw1 : w.alloc (.cells #[.int .i64 k, .string N, .string D, av, .int .i64 x.p, kv, .bool x.b, .bool x.s] 42) = w1 at al hbx
  have e0 := cell_of hbx 0
  have HB := Lib.hid al
  clear al hbx
  go_enter Try.func58, Try.ntmps58
  go_wp2
  go_ret
  exact ⟨rfl, HB.out⟩
/-- Has a slice room for what it holds? -/
def CapV : Value → Prop
  | .slice _ n c => n ≤ c
  | _ => False
theorem mayBe_hid (x : Nd) (hl : x.a.length ≤ 1000) : Hid (∀ W av kv, AtIn W av x.a → IntIn W kv x.c → CapV av → Calls Try.prog 58 #[nodeV x av kv] W fun e w' => e = .returned (.bool (mayN x)) ∧ Below W.heap.size W w') := Lib.hid fun w av kv ha hk hcap => by
  obtain ⟨a, c, rfl⟩ := ha.form
  obtain ⟨ka, kc, rfl⟩ := hk.form
  obtain ⟨N, hN⟩ := text_of x.n
  obtain ⟨D, hD⟩ := text_of x.d
  unfold nodeV
  rw [strV_of hN, strV_of hD]
  have hcap : x.a.length ≤ c := hcap
  unfold mayN mayM holdM
  by_cases h1 : x.k = 1
  · rw [if_pos h1, h1]
    refine (maybe_one x N D hN hD a ka c kc w ha).mono fun e w' h => ⟨?_, h.2⟩
    rw [h.1, hD]
    simp
  rw [if_neg h1]
  by_cases h3 : x.k = 3
  · rw [if_pos (.inl h3), h3]
    refine (maybe_three x N D hN hD a ka c kc w ha).mono fun e w' h => ⟨?_, h.2⟩
    rw [h.1]
    simp
  by_cases h4 : x.k = 4
  · rw [if_pos (.inr h4), h4]
    refine (maybe_four x N D hN hD a ka c kc w ha).mono fun e w' h => ⟨?_, h.2⟩
    rw [h.1]
    simp
  rw [if_neg (by omega)]
  by_cases h2 : x.k = 2
  · rw [if_pos h2, h2]
    refine (maybe_two x N D a ka c kc w ha hl hcap).mono fun e w' h => ⟨?_, h.2⟩
    rw [h.1, hN, hD]
    congr 2
    simp only [decide_true, Bool.or_true, Bool.and_true]
    generalize decide (x.a.map Prod.fst).Nodup = b1
    generalize decide (x.n ≠ []) = b2
    generalize decide (x.d = []) = b3
    generalize decide (x.a.length ≤ 30) = b4
    cases b1 <;> cases b2 <;> cases b3 <;> cases b4 <;> rfl
  · rw [if_neg h2]
    exact maybe_none x x.k h1 h2 h3 h4 N D _ _ w

end Go.Proofs.Ytcmbkhlnigbooaa.Dm
