/- Policies of two texts with a comma between them. -/
import Derived.Test.YtmlanlagnhnppaaDoorLawHA
import Derived.Test.YtmlanlagnhnppaaDoorClass
import Derived.IntWalk
namespace Go.Proofs.YtmlanlagnhnppaaDoor
open Go.RowKit

theorem OwnP.cap {w : World} {base : Nat} {a : Option Addr} {n c : Nat} {ps : List (List D × Bool)} (h : OwnP w base (.slice a n c) ps) : n = ps.length ∧ n ≤ c ∧ ((a = none ∧ n = 0) ∨ ∃ g, a = some ⟨g, 0, none⟩) := by
  obtain ⟨cs, h1, _⟩ := h
  rcases h1.2 with ⟨h2, h3⟩ | ⟨g, cap, cur, h2, _, _, h3, _⟩
  · cases h2
    exact ⟨h3.symm, Nat.zero_le _, .inl ⟨rfl, rfl⟩⟩
  · cases h2
    exact ⟨rfl, h3, .inr ⟨g, rfl⟩⟩
theorem PolsIn.take {w : World} {a : Option Addr} {n c : Nat} {ps : List (List D × Bool)} (h : PolsIn w (.slice a n c) ps) (k : Nat) (hk : k ≤ ps.length) : PolsIn w (.slice a k c) (ps.take k) := by
  rcases h with ⟨⟨a', c', h1⟩, rfl⟩ | ⟨B, off, cap, h1, h2⟩
  · cases h1
    have : k = 0 := by simpa using hk
    subst this
    exact .inl ⟨⟨_, _, rfl⟩, rfl⟩
  · cases h1
    refine .inr ⟨B, off, c, by rw [List.length_take, Nat.min_eq_left hk], fun j hj => ?_⟩
    have hj2 : j < ps.length := by rw [List.length_take] at hj; omega
    rw [List.getElem_take]
    exact h2 j hj2
theorem PolsIn.drop {w : World} {B off n c c' : Nat} {ps : List (List D × Bool)} (h : PolsIn w (.slice (some ⟨B, off, none⟩) n c) ps) (k : Nat) (hk : k ≤ ps.length) : PolsIn w (.slice (some ⟨B, off + k * 2, none⟩) (ps.length - k) c') (ps.drop k) := by
  rcases h with ⟨⟨a', c2, h1⟩, rfl⟩ | ⟨B2, off2, cap, h1, h2⟩
  · have : k = 0 := by simpa using hk
    subst this
    exact .inl ⟨⟨_, _, rfl⟩, rfl⟩
  · cases h1
    refine .inr ⟨B, off + k * 2, c', by rw [List.length_drop], fun j hj => ?_⟩
    have hj2 : k + j < ps.length := by rw [List.length_drop] at hj; omega
    rw [List.getElem_drop]
    have e : off + k * 2 + j * 2 = off + (k + j) * 2 := by omega
    rw [e]
    exact h2 (k + j) hj2
theorem add_zero_none (b j : Nat) : (⟨b, 0, none⟩ : Addr).add j = ⟨b, j, none⟩ := by unfold Addr.add; split <;> simp_all
/-- What stands behind the first. -/
theorem slice_rest {w : World} {a : Option Addr} {n c : Nat} {ps : List (List D × Bool)} (h : PolsIn w (.slice a n c) ps) (hn : n = ps.length) (hc : n ≤ c) (hg : (a = none ∧ n = 0) ∨ ∃ g, a = some ⟨g, 0, none⟩) (k : Nat) (hk : k ≤ n) :
    ∃ a' c', (∀ W, (Instr.slice 24 (.slice a n c) (some (.int .i64 (k : Int))) none none).run Tryd.prog W = .ok (.slice a' (n - k) c') W) ∧ PolsIn w (.slice a' (n - k) c') (ps.drop k) := by
  subst hn
  have hb : ∀ W, (Instr.sliceBound (.int .i64 (k : Int)) ps.length .sliceB).run Tryd.prog W = .ok k W := fun W => by
    have := Go.run_sliceBound (P := Tryd.prog) (w := W) .i64 (k : Int) ps.length .sliceB (by omega) (by omega)
    simpa using this
  obtain ⟨i0, hi, hz0, hz1, hz2⟩ := info_parts TinfoPol
  rcases hg with ⟨rfl, h0⟩ | ⟨g, rfl⟩
  · have hk0 : k = 0 := by omega
    refine ⟨none, c - k, fun W => ?_, .inl ⟨⟨none, c - k, by rw [h0, hk0]⟩, by rw [List.length_eq_zero_iff.1 h0]; simp⟩⟩
    simp [Instr.slice, run_underlying Tryd.underlying24, Instr.sliceBounds, hb]
  · by_cases e : c = k
    · refine ⟨some ⟨g, 0, none⟩, 0, fun W => ?_, .inl ⟨⟨_, _, by rw [show ps.length - k = 0 by omega]⟩, by rw [List.drop_of_length_le (by omega)]⟩⟩
      simp [Instr.slice, run_underlying Tryd.underlying24, Instr.sliceBounds, hb]
      exact ⟨fun h => absurd e h, by omega⟩
    · refine ⟨some ⟨g, k * 2, none⟩, c - k, fun W => ?_, by have := h.drop (c' := c - k) k hk; rw [Nat.zero_add] at this; exact this⟩
      simp [Instr.slice, run_underlying Tryd.underlying24, Instr.sliceBounds, hb]
      rw [if_neg e, add_zero_none]

/-- The first ones. -/
theorem slice_first (a : Option Addr) (n c k : Nat) (hk : k ≤ c) (z : Int) (hz : z = (k : Int)) : ∀ W, (Instr.slice 24 (.slice a n c) none (some (.int .i64 z)) none).run Tryd.prog W = .ok (.slice a k c) W := fun W => by
  subst hz
  have hb : ∀ W, (Instr.sliceBound (.int .i64 (k : Int)) c .sliceAcap).run Tryd.prog W = .ok k W := fun W => by
    have := Go.run_sliceBound (P := Tryd.prog) (w := W) .i64 (k : Int) c .sliceAcap (by omega) (by omega)
    simpa using this
  cases a with
  | none => simp [Instr.slice, run_underlying Tryd.underlying24, Instr.sliceBounds, hb]
  | some ad => simp [Instr.slice, run_underlying Tryd.underlying24, Instr.sliceBounds, hb, Addr.add]
theorem joins_lists (r : Bool) (a b : List UInt8) : (polsM r (a ++ 44 :: b)).length = min 10 ((polsM r a).length + (polsM r b).length) ∧ (polsM r (a ++ 44 :: b)).take (polsM r a).length = polsM r a ∧ (polsM r (a ++ 44 :: b)).drop (polsM r a).length = (polsM r b).take ((polsM r (a ++ 44 :: b)).length - (polsM r a).length) := by
  obtain ⟨h1, h2, h3⟩ := join_lengths a b
  unfold polsM
  simp only [List.length_map, ← List.map_take, ← List.map_drop]
  exact ⟨h1, by rw [h2], by rw [h3]⟩

set_option maxRecDepth 100000 in
set_option maxHeartbeats 8000000 in
theorem joins_law (a b : ByteArray) (r : Bool) (w : World) (hm : MaxIn w) : Calls Tryd.prog 6 #[.string a, .string b, .bool r] w fun e w' => e = .returned (.bool true) ∧ Below w.heap.size w w' := by
  by_cases hbig : (2000 : Int) < (a.size : Int)
  · clear hm
    go_enter Tryd.func6, Tryd.ntmps6
    go_wp2
    go_ret
    exact ⟨rfl, Below.refl _ _⟩
  by_cases hbig2 : (2000 : Int) < (b.size : Int)
  · clear hm
    go_enter Tryd.func6, Tryd.ntmps6
    go_wp2
    go_ret
    exact ⟨rfl, Below.refl _ _⟩
  have ha : a.size ≤ 2000 := by omega
  have hb : b.size ≤ 2000 := by omega
  obtain ⟨R1, hR1⟩ := text_of (a.data.toList ++ [44])
  obtain ⟨R2, hR2⟩ := text_of (a.data.toList ++ 44 :: b.data.toList)
  have hl1 : R1.size ≤ 2001 := by rw [← lsize, hR1, List.length_append, lsize]; simp; omega
  have hl2 : R2.size ≤ 5000 := by rw [← lsize, hR2, List.length_append, List.length_cons, lsize, lsize]; omega
  have ad1 := add_to a ⟨#[44]⟩ R1 (by rw [hR1]) (by show a.size + 1 ≤ _; omega)
  have ad2 := add_to R1 b R2 (by rw [hR2, hR1]; simp) (by omega)
  obtain ⟨j1, j2, j3⟩ := joins_lists r a.data.toList b.data.toList
  rw [← hR2] at j1 j2 j3
  have HSA := Lib.hid (pols_words (r := r) (s := a.data.toList) (by rw [lsize]; omega))
  have HSB := Lib.hid (pols_words (r := r) (s := b.data.toList) (by rw [lsize]; omega))
  have HSN := Lib.hid (pols_words (r := r) (s := R2.data.toList) (by rw [lsize]; omega))
  have cA := pols_count r a.data.toList
  have cB := pols_count r b.data.toList
  have cN := pols_count r R2.data.toList
  have CA : Hid (∀ W, MaxIn W → Calls Tryd.prog 11 #[.string a, .bool r] W fun e w' => ∃ v, e = .returned v ∧ OwnP w' W.heap.size v (polsM r a.data.toList) ∧ Below W.heap.size W w') := Lib.hid (fun W h => parse_any a (by omega) r W h)
  have CB : Hid (∀ W, MaxIn W → Calls Tryd.prog 11 #[.string b, .bool r] W fun e w' => ∃ v, e = .returned v ∧ OwnP w' W.heap.size v (polsM r b.data.toList) ∧ Below W.heap.size W w') := Lib.hid (fun W h => parse_any b (by omega) r W h)
  have CN : Hid (∀ W, MaxIn W → Calls Tryd.prog 11 #[.string R2, .bool r] W fun e w' => ∃ v, e = .returned v ∧ OwnP w' W.heap.size v (polsM r R2.data.toList) ∧ Below W.heap.size W w') := Lib.hid (fun W h => parse_any R2 (by omega) r W h)
  generalize polsM r a.data.toList = pa at *
  generalize polsM r b.data.toList = pb at *
  generalize polsM r R2.data.toList = pn at *
  obtain ⟨na, hna⟩ : ∃ n, pa.length = n := ⟨_, rfl⟩
  obtain ⟨nb, hnb⟩ : ∃ n, pb.length = n := ⟨_, rfl⟩
  obtain ⟨nn, hnn⟩ : ∃ n, pn.length = n := ⟨_, rfl⟩
  rw [hna] at j1 j2 j3 cA
  rw [hnb] at j1 cB
  rw [hnn] at j1 j3 cN
  have HJ := Lib.hid (And.intro j2 j3)
  have HN := Lib.hid (And.intro hna (And.intro hnb hnn))
  have hle : na ≤ nn := by omega
  have hle2 : nn - na ≤ nb := by omega
  have hmin : min (10 : Int) ((na : Int) + (nb : Int)) = (nn : Int) := by omega
  have gA : ¬ (10 : Int) < (na : Int) := by omega
  have gB : ¬ (10 : Int) < (nb : Int) := by omega
  have gN : ((nn : Int) != (nn : Int)) = false := by simp
  have gL : ¬ (nn : Int) < (na : Int) := by omega
  have HM := Lib.hid hm
  clear j1 j2 j3 hna hnb hnn hR1 hR2 hm
  go_enter Tryd.func6, Tryd.ntmps6
  go_wp2_with fail
  refine (CA.out _ HM.out).mono ?_
  rintro e w1 ⟨v1, rfl, o1, b1⟩
  obtain ⟨a1, c1, rfl⟩ : ∃ a1 c1, v1 = .slice a1 na c1 := by
    obtain ⟨x, y, h⟩ := o1.in.form
    exact ⟨x, y, by rw [h, HN.out.1]⟩
  have H1 := Lib.hid (And.intro o1 (And.intro (HM.out.below b1) b1))
  clear o1 b1 HM CA
  go_wp2_with fail
  refine (CB.out _ H1.out.2.1).mono ?_
  rintro e w2 ⟨v2, rfl, o2, b2⟩
  obtain ⟨a2, c2, rfl⟩ : ∃ a2 c2, v2 = .slice a2 nb c2 := by
    obtain ⟨x, y, h⟩ := o2.in.form
    exact ⟨x, y, by rw [h, HN.out.2.1]⟩
  have H2 := Lib.hid (And.intro (H1.out.1.in.below b2) (And.intro o2 (And.intro (H1.out.2.1.below b2) (H1.out.2.2.trans (b2.mono H1.out.2.2.size)))))
  clear o2 b2 H1 CB
  go_wp2_with fail
  refine (CN.out _ H2.out.2.2.1).mono ?_
  rintro e w3 ⟨v3, rfl, o3, b3⟩
  obtain ⟨a3, c3, rfl⟩ : ∃ a3 c3, v3 = .slice a3 nn c3 := by
    obtain ⟨x, y, h⟩ := o3.in.form
    exact ⟨x, y, by rw [h, HN.out.2.2]⟩
  obtain ⟨e3, hc3, hg3⟩ := o3.cap
  have hc2 := H2.out.2.1.cap.2.1
  obtain ⟨a4, c4, sl4, p4⟩ := slice_rest o3.in e3 hc3 hg3 na hle
  have q3 : PolsIn w3 (.slice a3 na c3) pa := by
    have := o3.in.take na (by rw [← e3]; exact hle)
    rw [HJ.out.1] at this; exact this
  rw [HJ.out.2] at p4
  have q2 : PolsIn w3 (.slice a2 (nn - na) c2) (pb.take (nn - na)) := (H2.out.2.1.in.take (nn - na) (by rw [HN.out.2.1]; exact hle2)).below b3
  have q1 := H2.out.1.below b3
  have m3 := H2.out.2.2.1.below b3
  have B3 := H2.out.2.2.2.trans (b3.mono H2.out.2.2.2.size)
  have hcc : nn - na ≤ c2 := by omega
  have sl3 := slice_first a3 nn c3 na (by omega) (na : Int) rfl
  have sl2 := slice_first a2 nb c2 (nn - na) hcc ((nn : Int) - (na : Int)) (by omega)
  have HALL1 : Hid (∀ W, PolsIn W (.slice a3 na c3) pa → PolsIn W (.slice a1 na c1) pa → Calls Tryd.prog 10 #[.slice a3 na c3, .slice a1 na c1] W fun e w' => e = .returned (.bool true) ∧ Below W.heap.size W w') := Lib.hid (fun W h1 h2 => by
    have := refAll_any pa pa _ _ W h1 h2 (by rw [HN.out.1]; omega) HSA.out (fun p hp => (HSA.out p hp).2)
    rw [decide_eq_true rfl] at this
    exact this)
  have HALL2 : Hid (∀ W, PolsIn W (.slice a4 (nn - na) c4) (pb.take (nn - na)) → PolsIn W (.slice a2 (nn - na) c2) (pb.take (nn - na)) → Calls Tryd.prog 10 #[.slice a4 (nn - na) c4, .slice a2 (nn - na) c2] W fun e w' => e = .returned (.bool true) ∧ Below W.heap.size W w') := Lib.hid (fun W h1 h2 => by
    have := refAll_any (pb.take (nn - na)) (pb.take (nn - na)) _ _ W h1 h2 (by rw [List.length_take]; omega) (fun p hp => HSB.out p (List.mem_of_mem_take hp)) (fun p hp => (HSB.out p (List.mem_of_mem_take hp)).2)
    rw [decide_eq_true rfl] at this
    exact this)
  have HK0 := Lib.hid (And.intro q1 (And.intro q2 (And.intro q3 (And.intro p4 (And.intro m3 B3)))))
  clear q1 q2 q3 p4 m3 B3 o3 b3 e3 hg3 H2 CN HN HJ HSA HSB HSN
  go_wp2_with fail
  have hw1 : IntKind.i64.wrap ((nn : Int) - (na : Int)) = (nn : Int) - (na : Int) := IntWalk.i64_in _ (by omega)
  have hw2 : wrap64 ((nn : Int) - (na : Int)) = (nn : Int) - (na : Int) := by unfold wrap64; omega
  have hw3 : (0 : Int) ≤ (nn : Int) - (na : Int) := by omega
  obtain ⟨C, hC⟩ : ∃ C : World → Prop, ∀ w', C w' ↔ (PolsIn w' (.slice a1 na c1) pa ∧ PolsIn w' (.slice a2 (nn - na) c2) (pb.take (nn - na)) ∧ PolsIn w' (.slice a3 na c3) pa ∧ PolsIn w' (.slice a4 (nn - na) c4) (pb.take (nn - na)) ∧ MaxIn w' ∧ Below w.heap.size w w') := ⟨_, fun _ => Iff.rfl⟩
  have HC := Lib.hid hC
  clear hC
  have hC0 : C w3.drew := (HC.out _).2 (⟨HK0.out.1, HK0.out.2.1, HK0.out.2.2.1, HK0.out.2.2.2.1, HK0.out.2.2.2.2.1, HK0.out.2.2.2.2.2.drew⟩)
  have HK : Hid (∀ w', C w' → ∀ w7, Below w'.heap.size w' w7 → C w7) := Lib.hid fun w' hc w7 b => by
    obtain ⟨qa7, qb7, qc7, qd7, qm7, qk7⟩ := (HC.out w').1 hc
    exact (HC.out _).2 ⟨qa7.below b, qb7.below b, qc7.below b, qd7.below b, qm7.below b, qk7.trans (b.mono qk7.size)⟩
  refine region_class C (by kernel_rfl) (by kernel_rfl) hC0 ?_
  clear hC0
  repeat
    first
      | go_big_quiet_skip
      | (go_big_quiet_want; go_big_quiet_op; go_big_quiet_on)
      | (refine BigFrame.wpQuiet_want rfl (fun K hK => ?_)
         apply Exists.intro
         refine ⟨fun w' hc => ?_, hK _ ?_⟩
         · obtain ⟨qa7, qb7, qc7, qd7, qm7, qk7⟩ := (HC.out w').1 hc
           unfold Oper.quietAt
           go_simp
           first
             | done
             | rfl
             | ((with_reducible refine (reads_hid.out _ qm7).mono ?_); rintro e w7 ⟨rfl, b7⟩; exact ⟨rfl, HK.out w' hc w7 b7⟩)
             | ((with_reducible refine (HALL1.out _ qc7 qa7).mono ?_); rintro e w7 ⟨rfl, b7⟩; exact ⟨rfl, HK.out w' hc w7 b7⟩)
             | ((with_reducible refine (HALL2.out _ qd7 qb7).mono ?_); rintro e w7 ⟨rfl, b7⟩; exact ⟨rfl, HK.out w' hc w7 b7⟩)
         clear hK K
         simp only [Act.put, List.setIfInBounds_toArray, List.set_cons_zero, List.set_cons_succ])
  refine wpQuiet_nil ?_
  intro w9 hc
  obtain ⟨qaw9, qbw9, qcw9, qdw9, qmw9, qkw9⟩ := (HC.out w9).1 hc
  clear hc HC HK
  go_wp2
  go_ret
  exact ⟨rfl, qkw9⟩

end Go.Proofs.YtmlanlagnhnppaaDoor
