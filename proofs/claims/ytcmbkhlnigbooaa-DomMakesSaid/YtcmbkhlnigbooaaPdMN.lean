/- The library's Clone at attributes, numbers, nodes. The program's copyNode: a node whose rows are in blocks of their own. -/
import Derived.Lib.SliceRun
import Derived.Test.YtcmbkhlnigbooaaDoMN
namespace Go.Proofs.Ytcmbkhlnigbooaa.Dm
open Go.RowKit

set_option maxRecDepth 100000 in
set_option maxHeartbeats 2000000 in
theorem cloneA_hid (m : Nat) (cs : List Value) (hm : m ≤ 1000000) : Hid (∀ W u, RowIn W u m 2 cs → Calls Try.prog 83 #[u] W fun e w' => ∃ v, e = .returned v ∧ w'.ownsRow W.heap.size 61 2 v m cs ∧ Below W.heap.size W w') := Lib.hid fun w u hu => by
  obtain ⟨a, c, rfl⟩ := hu.form
  have qn : ∀ (w : World) (a : Option Addr) (n c n' c' : Nat), (binOp .eql 40 (.slice a n c) (.slice none n' c')).run Try.prog w = .ok (.bool a.isNone) w := fun w a n c n' c' => Lib.run_eql_slice_nil w _ _ a n c n' c' Try.underlying40
  cases a with
  | none =>
    have hm0 : m = 0 ∧ cs = [] := by
      obtain ⟨h1, _, h3⟩ := hu
      rcases h3 with ⟨_, e⟩ | ⟨B, off, cap, e, _⟩
      · subst e
        exact ⟨rfl, List.eq_nil_of_length_eq_zero h1⟩
      · cases e
    obtain ⟨rfl, rfl⟩ := hm0
    clear hu
    go_enter Try.func83, Try.ntmps83
    go_wp2
    go_ret
    exact ⟨_, rfl, World.ownsRow_nil _ _ _ _, Below.refl _ _⟩
  | some ad =>
    obtain ⟨i0, hi0, hz0, hz1, hz2⟩ := info_parts TinfoA
    have al := (Below.refl w.heap.size w).alloc (Nat.le_refl _) (.cells #[] 61)
    have HU := Lib.hid (hu.below al)
    have HM := Lib.hid (World.ownsRow_made w #[] 0 (e := 61) (size := 2) (base := w.heap.size) (Nat.le_refl _) (Nat.zero_le _) (by simp))
    have HB := Lib.hid al
    have hws : w.heap.size ≤ (w.alloc (.cells #[] 61)).heap.size := by simp
    clear hu al
    go_enter Try.func83, Try.ntmps83
    go_wp2_with (at_builtin
                 refine wpList_append_rowG rfl _ _ 40 61 i0 (.agg #[.string ⟨#[]⟩, .string ⟨#[]⟩]) 2 32 Try.underlying40 hi0 hz0 hz1 hz2 rfl (by decide) rfl w.heap.size _ 0 _ rfl HM.out _ m cs rfl HU.out (by unfold maxLen; omega) (by omega) hws ?_
                 intro v6 w6 hown6 hgrow6 hat6
                 have H6 : Hid (w6.ownsRow w.heap.size 61 2 v6 m cs ∧ Below w.heap.size w w6) := Lib.hid ⟨by simpa using hown6, Below.grown HB.out hgrow6 hws (fun j hj => by cases hj; exact Nat.le_refl _)⟩
                 obtain ⟨va, vc, rfl⟩ := row_form H6.out.1
                 clear hown6 hgrow6 hat6)
    go_ret
    exact ⟨_, rfl, H6.out⟩

set_option maxRecDepth 100000 in
set_option maxHeartbeats 2000000 in
theorem cloneI_hid (m : Nat) (cs : List Value) (hm : m ≤ 1000000) : Hid (∀ W u, RowIn W u m 1 cs → Calls Try.prog 84 #[u] W fun e w' => ∃ v, e = .returned v ∧ w'.ownsRow W.heap.size 3 1 v m cs ∧ Below W.heap.size W w') := Lib.hid fun w u hu => by
  obtain ⟨a, c, rfl⟩ := hu.form
  have qn : ∀ (w : World) (a : Option Addr) (n c n' c' : Nat), (binOp .eql 33 (.slice a n c) (.slice none n' c')).run Try.prog w = .ok (.bool a.isNone) w := fun w a n c n' c' => Lib.run_eql_slice_nil w _ _ a n c n' c' Try.underlying33
  cases a with
  | none =>
    have hm0 : m = 0 ∧ cs = [] := by
      obtain ⟨h1, _, h3⟩ := hu
      rcases h3 with ⟨_, e⟩ | ⟨B, off, cap, e, _⟩
      · subst e
        exact ⟨rfl, List.eq_nil_of_length_eq_zero h1⟩
      · cases e
    obtain ⟨rfl, rfl⟩ := hm0
    clear hu
    go_enter Try.func84, Try.ntmps84
    go_wp2
    go_ret
    exact ⟨_, rfl, World.ownsRow_nil _ _ _ _, Below.refl _ _⟩
  | some ad =>
    obtain ⟨i0, hi0, hz0, hz1, hz2⟩ := info_parts Tinfo3
    have al := (Below.refl w.heap.size w).alloc (Nat.le_refl _) (.cells #[] 3)
    have HU := Lib.hid (hu.below al)
    have HM := Lib.hid (World.ownsRow_made w #[] 0 (e := 3) (size := 1) (base := w.heap.size) (Nat.le_refl _) (Nat.zero_le _) (by simp))
    have HB := Lib.hid al
    have hws : w.heap.size ≤ (w.alloc (.cells #[] 3)).heap.size := by simp
    clear hu al
    go_enter Try.func84, Try.ntmps84
    go_wp2_with (at_builtin
                 refine wpList_append_rowG rfl _ _ 33 3 i0 (.int .i64 0) 1 8 Try.underlying33 hi0 hz0 hz1 hz2 rfl (by decide) rfl w.heap.size _ 0 _ rfl HM.out _ m cs rfl HU.out (by unfold maxLen; omega) (by omega) hws ?_
                 intro v6 w6 hown6 hgrow6 hat6
                 have H6 : Hid (w6.ownsRow w.heap.size 3 1 v6 m cs ∧ Below w.heap.size w w6) := Lib.hid ⟨by simpa using hown6, Below.grown HB.out hgrow6 hws (fun j hj => by cases hj; exact Nat.le_refl _)⟩
                 obtain ⟨va, vc, rfl⟩ := row_form H6.out.1
                 clear hown6 hgrow6 hat6)
    go_ret
    exact ⟨_, rfl, H6.out⟩

set_option maxRecDepth 100000 in
set_option maxHeartbeats 2000000 in
theorem cloneN_hid (m : Nat) (cs : List Value) (hm : m ≤ 1000000) : Hid (∀ W u, RowIn W u m 8 cs → Calls Try.prog 87 #[u] W fun e w' => ∃ v, e = .returned v ∧ w'.ownsRow W.heap.size 42 8 v m cs ∧ Below W.heap.size W w') := Lib.hid fun w u hu => by
  obtain ⟨a, c, rfl⟩ := hu.form
  have qn : ∀ (w : World) (a : Option Addr) (n c n' c' : Nat), (binOp .eql 22 (.slice a n c) (.slice none n' c')).run Try.prog w = .ok (.bool a.isNone) w := fun w a n c n' c' => Lib.run_eql_slice_nil w _ _ a n c n' c' Try.underlying22
  cases a with
  | none =>
    have hm0 : m = 0 ∧ cs = [] := by
      obtain ⟨h1, _, h3⟩ := hu
      rcases h3 with ⟨_, e⟩ | ⟨B, off, cap, e, _⟩
      · subst e
        exact ⟨rfl, List.eq_nil_of_length_eq_zero h1⟩
      · cases e
    obtain ⟨rfl, rfl⟩ := hm0
    clear hu
    go_enter Try.func87, Try.ntmps87
    go_wp2
    go_ret
    exact ⟨_, rfl, World.ownsRow_nil _ _ _ _, Below.refl _ _⟩
  | some ad =>
    obtain ⟨i0, hi0, hz0, hz1, hz2⟩ := info_parts TinfoN
    have al := (Below.refl w.heap.size w).alloc (Nat.le_refl _) (.cells #[] 42)
    have HU := Lib.hid (hu.below al)
    have HM := Lib.hid (World.ownsRow_made w #[] 0 (e := 42) (size := 8) (base := w.heap.size) (Nat.le_refl _) (Nat.zero_le _) (by simp))
    have HB := Lib.hid al
    have hws : w.heap.size ≤ (w.alloc (.cells #[] 42)).heap.size := by simp
    clear hu al
    go_enter Try.func87, Try.ntmps87
    go_wp2_with (at_builtin
                 refine wpList_append_rowG rfl _ _ 22 42 i0 (.agg #[.int .i64 0, .string ⟨#[]⟩, .string ⟨#[]⟩, .slice none 0 0, .int .i64 0, .slice none 0 0, .bool false, .bool false]) 8 104 Try.underlying22 hi0 hz0 hz1 hz2 rfl (by decide) rfl w.heap.size _ 0 _ rfl HM.out _ m cs rfl HU.out (by unfold maxLen; omega) (by omega) hws ?_
                 intro v6 w6 hown6 hgrow6 hat6
                 have H6 : Hid (w6.ownsRow w.heap.size 42 8 v6 m cs ∧ Below w.heap.size w w6) := Lib.hid ⟨by simpa using hown6, Below.grown HB.out hgrow6 hws (fun j hj => by cases hj; exact Nat.le_refl _)⟩
                 obtain ⟨va, vc, rfl⟩ := row_form H6.out.1
                 clear hown6 hgrow6 hat6)
    go_ret
    exact ⟨_, rfl, H6.out⟩

end Go.Proofs.Ytcmbkhlnigbooaa.Dm

namespace Go.Proofs.Ytcmbkhlnigbooaa.Dm
open Go.RowKit

set_option maxRecDepth 100000 in
set_option maxHeartbeats 4000000 in
theorem copyNode_hid (x : Nd) (hx : FitN x) : Hid (∀ W av kv, AtIn W av x.a → IntIn W kv x.c → Calls Try.prog 56 #[nodeV x av kv] W fun e w' => ∃ av' kv', e = .returned (nodeV x av' kv') ∧ w'.ownsRow W.heap.size 61 2 av' x.a.length (atC x.a) ∧ w'.ownsRow W.heap.size 3 1 kv' x.c.length (inC x.c) ∧ Below W.heap.size W w') := Lib.hid fun w av kv ha hk => by
  obtain ⟨aa, ac, rfl⟩ := ha.form
  obtain ⟨ka, kc, rfl⟩ := hk.form
  obtain ⟨N, hN⟩ := text_of x.n
  obtain ⟨T, hT⟩ := text_of x.d
  unfold nodeV
  rw [strV_of hN, strV_of hT]
  have CA := cloneA_hid x.a.length (atC x.a) (by have := hx.2.2.1; omega)
  have CK := cloneI_hid x.c.length (inC x.c) (by have := hx.2.2.2.1; omega)
  have ha2 : RowIn w (.slice aa x.a.length ac) x.a.length 2 (atC x.a) := ha
  clear ha
  have ha := ha2
  clear ha2
  generalize atC x.a = cA at CA ha ⊢
  generalize x.k = xk
  generalize x.p = xp
  generalize x.b = xb
  generalize x.s = xs
  have al1 := (Below.refl w.heap.size w).alloc (Nat.le_refl _) (.cells #[.int .i64 xk, .string N, .string T, .slice aa x.a.length ac, .int .i64 xp, .slice ka x.c.length kc, .bool xb, .bool xs] 42)
  have hb1 := new_block w (.cells #[.int .i64 xk, .string N, .string T, .slice aa x.a.length ac, .int .i64 xp, .slice ka x.c.length kc, .bool xb, .bool xs] 42)
  have hs1 : (w.alloc (.cells #[.int .i64 xk, .string N, .string T, .slice aa x.a.length ac, .int .i64 xp, .slice ka x.c.length kc, .bool xb, .bool xs] 42)).heap.size = w.heap.size + 1 := by simp
  generalize hw1 : w.alloc (.cells #[.int .i64 xk, .string N, .string T, .slice aa x.a.length ac, .int .i64 xp, .slice ka x.c.length kc, .bool xb, .bool xs] 42) = w1 at al1 hb1 hs1
  have al2 := (Below.refl w1.heap.size w1).alloc (Nat.le_refl _) (.cells zeroN 42)
  have hb2 := new_block w1 (.cells zeroN 42)
  rw [hs1] at hb2
  unfold zeroN at al2 hb2
  generalize hw2 : w1.alloc (.cells #[.int .i64 0, .string ⟨#[]⟩, .string ⟨#[]⟩, .slice none 0 0, .int .i64 0, .slice none 0 0, .bool false, .bool false] 42) = w2 at al2 hb2
  have hb1' := (al2.block _ (lt_of_block hb1)).trans hb1
  have hbel := al1.trans (al2.mono (by omega))
  have HCA : Hid (∀ W, Below w2.heap.size w2 W → Calls Try.prog 83 #[.slice aa x.a.length ac] W fun e w' => ∃ v, e = .returned v ∧ w'.ownsRow w.heap.size 61 2 v x.a.length cA ∧ Below w2.heap.size w2 w') := Lib.hid fun W b => (CA.out W _ ((ha.below hbel).below b)).mono fun e w' ⟨v, h1, h2, h3⟩ => ⟨v, h1, row_low h2 (Nat.le_trans hbel.size b.size), b.trans (h3.mono b.size)⟩
  have HCK : Hid (∀ w3, Below w2.heap.size w2 w3 → ∀ W, Below w3.heap.size w3 W → Calls Try.prog 84 #[.slice ka x.c.length kc] W fun e w' => ∃ v, e = .returned v ∧ w'.ownsRow w.heap.size 3 1 v x.c.length (inC x.c) ∧ Below w3.heap.size w3 w') := Lib.hid fun w3 b3 W b => (CK.out W _ (((hk.below hbel).below b3).below b)).mono fun e w' ⟨v, h1, h2, h3⟩ => ⟨v, h1, row_low h2 (Nat.le_trans (Nat.le_trans hbel.size b3.size) b.size), b.trans (h3.mono b.size)⟩
  have hsz := hbel.size
  have e3 := cell_of hb1' 3
  have e5 := cell_of hb1' 5
  have HB := Lib.hid (And.intro hb1' (And.intro hb2 hbel))
  have hlt := lt_of_block hb1'
  clear ha hk al1 al2 hb1 hb2 hb1' hbel hN hT hx CA CK
  go_enter Try.func56, Try.ntmps56
  go_wp2_with fail
  clear hw2 hw1
  go_region_with (first
    | (go_at_call 83
       refine (HCA.out _ (by first | exact Below.refl _ _ | exact belowN (Below.refl _ _) _ | exact (Below.refl _ _).drew)).mono ?_
       rintro e w3 ⟨av', rfl, o3, b3⟩
       obtain ⟨va, vc, rfl⟩ := row_form o3
       have e5' := (b3.cell (p := ⟨w.heap.size, 5, none⟩) hlt).trans e5
       have x3 := (b3.block _ (lt_of_block HB.out.1)).trans HB.out.1
       have f3 := open_of x3 3
       have f5 := open_of x3 5)
    | (go_at_call 84
       refine (HCK.out _ b3 _ (by first | exact Below.refl _ _ | exact belowN (Below.refl _ _) _ | exact (Below.refl _ _).drew)).mono ?_
       rintro e w4 ⟨kv', rfl, o4, b4⟩
       obtain ⟨vk, vkc, rfl⟩ := row_form o4
       have y3 := (b4.block _ (lt_of_block x3)).trans x3
       have g3 := open_of y3 3
       have g5 := open_of y3 5
       have z3 := cell_of y3 3
       have z5 := cell_of y3 5))
  all_goals
    have z1 := (b4.block _ (by have := b3.size; have := lt_of_block HB.out.2.1; omega)).trans ((b3.block _ (lt_of_block HB.out.2.1)).trans HB.out.2.1)
    have p1 : (w4.setCell ⟨w.heap.size, 3, none⟩ (.slice va x.a.length vc)).heap[w.heap.size]? = some (.cells #[.int .i64 xk, .string N, .string T, .slice va x.a.length vc, .int .i64 xp, .slice ka x.c.length kc, .bool xb, .bool xs] 42 (0, 0)) := heap_setCell_same w4 w.heap.size 3 _ _ _ (.slice va x.a.length vc) y3
    have p2 : ((w4.setCell ⟨w.heap.size, 3, none⟩ (.slice va x.a.length vc)).setCell ⟨w.heap.size, 5, none⟩ (.slice vk x.c.length vkc)).heap[w.heap.size]? = some (.cells #[.int .i64 xk, .string N, .string T, .slice va x.a.length vc, .int .i64 xp, .slice vk x.c.length vkc, .bool xb, .bool xs] 42 (0, 0)) := heap_setCell_same _ w.heap.size 5 _ _ _ (.slice vk x.c.length vkc) p1
    have q2 : ((w4.setCell ⟨w.heap.size, 3, none⟩ (.slice va x.a.length vc)).setCell ⟨w.heap.size, 5, none⟩ (.slice vk x.c.length vkc)).heap[w.heap.size + 1]? = some (.cells #[.int .i64 0, .string ⟨#[]⟩, .string ⟨#[]⟩, .slice none 0 0, .int .i64 0, .slice none 0 0, .bool false, .bool false] 42 (0, 0)) := by
      rw [heap_setCell_ne _ _ _ (by simp), heap_setCell_ne _ _ _ (by simp)]
      exact z1
    have K2 : Kp (fun j t => t = 42 ∧ w.heap.size ≤ j) w4 ((w4.setCell ⟨w.heap.size, 3, none⟩ (.slice va x.a.length vc)).setCell ⟨w.heap.size, 5, none⟩ (.slice vk x.c.length vkc)) := (Kp.of_set y3 (.slice va x.a.length vc) ⟨rfl, Nat.le_refl _⟩).trans (Kp.of_set p1 (.slice vk x.c.length vkc) ⟨rfl, Nat.le_refl _⟩)
    have B4 := HB.out.2.2.trans ((b3.trans (b4.mono b3.size)).mono HB.out.2.2.size)
    have H4 := Lib.hid (And.intro p2 (And.intro q2 (And.intro K2 (And.intro B4 (And.intro (row_below o3 b4) o4)))))
    generalize hw5 : ((w4.setCell ⟨w.heap.size, 3, none⟩ (.slice va x.a.length vc)).setCell ⟨w.heap.size, 5, none⟩ (.slice vk x.c.length vkc)) = w5 at p2 q2 H4 ⊢
    clear b3 b4 o3 o4 z1 p1 K2 B4 y3 g3 g5 z3 z5 x3 f3 f5 e3 e5 e5' hw5
    have l0 := cell_of p2 0
    have l1 := cell_of p2 1
    have l2 := cell_of p2 2
    have l3 := cell_of p2 3
    have l4 := cell_of p2 4
    have l5 := cell_of p2 5
    have l6 := cell_of p2 6
    have l7 := cell_of p2 7
    have r0 := cell_of q2 0
    have o0 := open_of q2 0
    have r1 := cell_of q2 1
    have o1 := open_of q2 1
    have r2 := cell_of q2 2
    have o2 := open_of q2 2
    have r3 := cell_of q2 3
    have o3 := open_of q2 3
    have r4 := cell_of q2 4
    have o4 := open_of q2 4
    have r5 := cell_of q2 5
    have o5 := open_of q2 5
    have r6 := cell_of q2 6
    have o6 := open_of q2 6
    have r7 := cell_of q2 7
    have o7 := open_of q2 7
    clear p2 q2
    go_wp2
    obtain ⟨q8, K8⟩ := set8 w5 (w.heap.size + 1) _ _ _ _ _ _ _ _ _ (.int .i64 xk) (.string N) (.string T) (.slice va x.a.length vc) (.int .i64 xp) (.slice vk x.c.length vkc) (.bool xb) (.bool xs) H4.out.2.1
    have c0 := cell_of q8 0
    have c1 := cell_of q8 1
    have c2 := cell_of q8 2
    have c3 := cell_of q8 3
    have c4 := cell_of q8 4
    have c5 := cell_of q8 5
    have c6 := cell_of q8 6
    have c7 := cell_of q8 7
    have hA := (K8.row (H4.out.2.2.1.row H4.out.2.2.2.2.1 fun j _ _ e => absurd e.1 (by decide)) (fun j hj _ e => row_ne (H4.out.2.2.1.row H4.out.2.2.2.2.1 fun j _ _ e => absurd e.1 (by decide)) H4.out.2.1 (by decide) (by rw [hj, e])))
    have hK := (K8.row (H4.out.2.2.1.row H4.out.2.2.2.2.2 fun j _ _ e => absurd e.1 (by decide)) (fun j hj _ e => row_ne (H4.out.2.2.1.row H4.out.2.2.2.2.2 fun j _ _ e => absurd e.1 (by decide)) H4.out.2.1 (by decide) (by rw [hj, e])))
    have hB5 := H4.out.2.2.2.1.trans (H4.out.2.2.1.below (fun j t e => e.2) H4.out.2.2.2.1.size)
    have hB := hB5.trans (K8.below (fun j t e => by omega) hB5.size)
    exact bodyPost_ret (v := .agg #[.int .i64 xk, .string N, .string T, .slice va x.a.length vc, .int .i64 xp, .slice vk x.c.length vkc, .bool xb, .bool xs]) (by simp [results, Try.results56, go_sem, c0, c1, c2, c3, c4, c5, c6, c7]) rfl ⟨_, _, rfl, hA, hK, hB⟩

end Go.Proofs.Ytcmbkhlnigbooaa.Dm
