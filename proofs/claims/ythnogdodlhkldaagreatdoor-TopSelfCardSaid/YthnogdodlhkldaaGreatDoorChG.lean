/- Rows of policies appended; what is too big to be looked at. -/
import Derived.Test.YthnogdodlhkldaaGreatDoorChF
namespace Go.Proofs.YthnogdodlhkldaaGreatDoor
open Go.RowKit

/-- A row of policies as cells, and what they tell. -/
def PolRow (w : World) (u : Value) (m : Nat) (cs : List Value) : Prop := cs.length = m * 2 ∧ (∀ v ∈ cs, v.oneCell' = true) ∧ (((∃ a c, u = .slice a 0 c) ∧ m = 0) ∨ ∃ B off cap, u = .slice (some ⟨B, off, none⟩) m cap ∧ ∀ j v, cs[j]? = some v → w.cell? ⟨B, off + j, none⟩ = some v)
def PolCs (w : World) (ps : List (List D × Bool)) (cs : List Value) : Prop := cs.length = ps.length * 2 ∧ ∀ j, (h : j < ps.length) → ∃ u, cs[j * 2]? = some u ∧ cs[j * 2 + 1]? = some (.bool ps[j].2) ∧ DirsIn w u ps[j].1
theorem PolCs.nil (w : World) : PolCs w [] [] := ⟨rfl, fun j h => by cases h⟩
theorem PolCs.below {w w' : World} {ps : List (List D × Bool)} {cs : List Value} (h : PolCs w ps cs) (hb : Below w.heap.size w w') : PolCs w' ps cs :=
  ⟨h.1, fun j hj => by obtain ⟨u, k1, k2, k3⟩ := h.2 j hj; exact ⟨u, k1, k2, k3.below hb⟩⟩
theorem PolCs.one {w : World} {u : Value} {ds : List D} (r : Bool) (h : DirsIn w u ds) : PolCs w [(ds, r)] [u, .bool r] := ⟨rfl, fun j hj => by
  obtain rfl : j = 0 := by simpa using hj
  exact ⟨u, rfl, rfl, h⟩⟩
theorem PolCs.app {w : World} {ps qs : List (List D × Bool)} {cs es : List Value} (h : PolCs w ps cs) (k : PolCs w qs es) : PolCs w (ps ++ qs) (cs ++ es) := by
  have h1 := h.1
  have k1 := k.1
  refine ⟨by rw [List.length_append, List.length_append]; omega, fun j hj => ?_⟩
  by_cases hlt : j < ps.length
  · obtain ⟨u, a1, a2, a3⟩ := h.2 j hlt
    refine ⟨u, ?_, ?_, ?_⟩
    · rw [List.getElem?_append_left (by omega)]; exact a1
    · rw [List.getElem?_append_left (by omega), List.getElem_append_left hlt]; exact a2
    · rw [List.getElem_append_left hlt]; exact a3
  · have hj2 : j - ps.length < qs.length := by rw [List.length_append] at hj; omega
    obtain ⟨u, a1, a2, a3⟩ := k.2 (j - ps.length) hj2
    refine ⟨u, ?_, ?_, ?_⟩
    · rw [List.getElem?_append_right (by omega), h1, show j * 2 - ps.length * 2 = (j - ps.length) * 2 by omega]; exact a1
    · rw [List.getElem?_append_right (by omega), h1, show j * 2 + 1 - ps.length * 2 = (j - ps.length) * 2 + 1 by omega, List.getElem_append_right (by omega)]; exact a2
    · rw [List.getElem_append_right (by omega)]; exact a3
theorem PolsIn.of_cells {w : World} {base : Nat} {v : Value} {ps : List (List D × Bool)} {cs : List Value} (h1 : w.ownsRow base 24 2 v ps.length cs) (h : PolCs w ps cs) : PolsIn w v ps := by
  rcases h1.2 with ⟨e1, e2⟩ | ⟨g, cap, cur, hv, hg, hh, _⟩
  · exact .inl ⟨⟨_, _, e1⟩, List.length_eq_zero_iff.1 e2⟩
  · subst hv
    have hl := h.1
    refine .inr ⟨g, 0, cap, rfl, fun j hj => ?_⟩
    obtain ⟨u, k1, k2, k3⟩ := h.2 j hj
    rw [Nat.zero_add, h1.cellAt (j * 2) (by omega), h1.cellAt (j * 2 + 1) (by omega)]
    exact ⟨⟨u, k1, k3⟩, k2⟩
theorem PolsIn.row {w : World} {v : Value} {ps : List (List D × Bool)} (h : PolsIn w v ps) : ∃ cs, PolRow w v ps.length cs ∧ PolCs w ps cs := by
  rcases h with ⟨h1, rfl⟩ | ⟨B, off, cap, rfl, h2⟩
  · exact ⟨[], ⟨rfl, (fun v h => by cases h), .inl ⟨h1, rfl⟩⟩, PolCs.nil w⟩
  · have hcs : ∀ i, i < ps.length * 2 → ((List.range (ps.length * 2)).map fun i => (w.cell? ⟨B, off + i, none⟩).getD undef)[i]? = some ((w.cell? ⟨B, off + i, none⟩).getD undef) := fun i hi => by
      rw [List.getElem?_map, List.getElem?_range hi]
      rfl
    have hc2 : PolCs w ps ((List.range (ps.length * 2)).map fun i => (w.cell? ⟨B, off + i, none⟩).getD undef) := ⟨by simp, fun j hj => by
      obtain ⟨⟨u, k1, k3⟩, k2⟩ := h2 j hj
      refine ⟨u, ?_, ?_, k3⟩
      · rw [hcs _ (by omega), k1]; rfl
      · rw [hcs _ (by omega), ← Nat.add_assoc, k2]; rfl⟩
    refine ⟨_, ⟨by simp, fun v hv => ?_, .inr ⟨B, off, cap, rfl, fun j v hj => ?_⟩⟩, hc2⟩
    · obtain ⟨i, hi, rfl⟩ := List.mem_map.1 hv
      rw [List.mem_range] at hi
      obtain ⟨⟨u, k1, k3⟩, k2⟩ := h2 (i / 2) (by omega)
      rcases Nat.mod_two_eq_zero_or_one i with e | e
      · rw [show off + i = off + i / 2 * 2 by omega, k1]
        obtain ⟨a, c, rfl⟩ := k3.form
        rfl
      · rw [show off + i = off + i / 2 * 2 + 1 by omega, k2]
        rfl
    · have hj2 : j < ps.length * 2 := by
        have := (List.getElem?_eq_some_iff.1 hj).1
        simpa using this
      rw [hcs j hj2] at hj
      rw [← Option.some.inj hj]
      obtain ⟨⟨u, k1, k3⟩, k2⟩ := h2 (j / 2) (by omega)
      rcases Nat.mod_two_eq_zero_or_one j with e | e
      · rw [show off + j = off + j / 2 * 2 by omega, k1]; rfl
      · rw [show off + j = off + j / 2 * 2 + 1 by omega, k2]; rfl
theorem PolRow.new (w : World) (u : Value) (r : Bool) (hu : u.oneCell' = true) : PolRow (w.alloc (.cells #[u, .bool r] 24)) (.slice (some ⟨w.heap.size, 0, none⟩) 1 1) 1 [u, .bool r] := by
  refine ⟨rfl, fun v hv => ?_, .inr ⟨_, 0, 1, rfl, fun j v hj => ?_⟩⟩
  · simp at hv
    rcases hv with rfl | rfl
    · exact hu
    · rfl
  · rw [Nat.zero_add, World.cell?_alloc_mark, ← hj]
    simp
theorem PolRow.below {w w' : World} {u : Value} {m : Nat} {cs : List Value} (h : PolRow w u m cs) (hb : Below w.heap.size w w') : PolRow w' u m cs := by
  refine ⟨h.1, h.2.1, ?_⟩
  rcases h.2.2 with h | ⟨B, off, cap, h1, h2⟩
  · exact .inl h
  · exact .inr ⟨B, off, cap, h1, fun j v hj => by rw [hb.cell (lt_of_cell (h2 j v hj))]; exact h2 j v hj⟩
theorem nil_appP {w : World} {base : Nat} {v : Value} {n : Nat} {xs : List Value} (hown : w.ownsRow base 24 2 v n xs) (ty : TypeId) (c : Nat) : (Builtin.append_ #[27, 27] ty #[v, .slice none 0 c]).run Tryz.prog w = .ok v w := by
  obtain ⟨i0, hi, hz0, hz1, hz2⟩ := info_parts TinfoPol
  rcases hown.2 with ⟨rfl, rfl⟩ | ⟨g, cap, cur, rfl, _, _, hnc, _⟩
  · simp [Builtin.append_, run_underlying Tryz.underlying27, sizeOf, typeInfo, hi, Builtin.lenOf, Builtin.firstCells]
  · simp [Builtin.append_, run_underlying Tryz.underlying27, sizeOf, typeInfo, hi, Builtin.lenOf, Builtin.firstCells, hnc, storeCells]
theorem wpList_append_pol {w : World} {ops : Array Oper} {rest : List Oper} {o : Oper} {a : Act} {Q : Exit → Act → World → Prop} (hgd : o.guard = none) (s x : Operand)
    (ho : o.op = .call { callee := .builtin .append, args := #[s, x], argTypes := #[27, 27] }) (base : Nat) (v0 : Value) (n : Nat) (xs : List Value)
    (hs : a.eval s = v0) (hown : w.ownsRow base 24 2 v0 n xs) (u : Value) (m : Nat) (cs : List Value) (hx : a.eval x = u) (hin : PolRow w u m cs)
    (h63 : n + m ≤ 1000000) (hbase : base ≤ w.heap.size)
    (h : ∀ v' w', w'.ownsRow base 24 2 v' (n + m) (xs ++ cs) → w.grownBy w' v0.ownBlock → (v'.ownBlock = v0.ownBlock ∨ v'.ownBlock = some w.heap.size) → wpList Tryz.prog ops Q rest (a.put o.dst v') w') : wpList Tryz.prog ops Q (o :: rest) a w := by
  obtain ⟨i0, hi, hz0, hz1, hz2⟩ := info_parts TinfoPol
  obtain ⟨hcl, hone, hin⟩ := hin
  have via : ∀ (ad : Addr) (c : Nat), u = .slice (some ad) m c → (∀ j v, cs[j]? = some v → w.cell? (ad.add j) = some v) → wpList Tryz.prog ops Q (o :: rest) a w := fun ad c hu hc => by
    refine wpList_append_own_at w hgd s x 27 ho base 24 i0 (.agg #[.slice none 0 0, .bool false]) 2 32 Tryz.underlying27 hi hz0 hz1 hz2 rfl (by decide) _ n xs hs hown ad m c cs (by rw [hx, hu]) hcl hc hone (by unfold maxLen; omega) (by omega) hbase ?_
    intro v' w' h1 h2 _ h3
    exact h v' w' h1 h2 h3
  rcases hin with ⟨⟨a0, c0, rfl⟩, rfl⟩ | ⟨B, off, cap, rfl, hc⟩
  · have e : cs = [] := List.length_eq_zero_iff.1 (by rw [hcl])
    subst e
    cases a0 with
    | none =>
      refine wpList_plain hgd fun K hK => ?_
      have hrun := nil_appP hown o.type c0
      unfold Oper.wp execOp
      simp only [ho, resolve, invoke, builtin, Sem.run_bind, Sem.run_pure, Result.andThen_ok, List.map_toArray, List.map_cons, List.map_nil, hs, hx, hrun]
      exact hK _ _ (h _ _ (by simpa using hown) (World.grownBy.refl w _) (.inl rfl))
    | some ad => exact via ad c0 rfl (fun j v hj => by simp at hj)
  · refine via ⟨B, off, none⟩ cap rfl (fun j v hj => ?_)
    have e : (⟨B, off, none⟩ : Addr).add j = ⟨B, off + j, none⟩ := by unfold Addr.add; split <;> simp_all
    rw [e]
    exact hc j v hj

/-- What is not too big. -/
def FitsP (ps : List (List D × Bool)) : Prop := ps.length ≤ 15 ∧ ∀ p ∈ ps, SmallP p.1
theorem SmallP.fit {ds : List D} (h : SmallP ds) : FitD ds := ⟨by have := h.1; omega, fun d hd => by
  obtain ⟨_, h2, h3⟩ := h.2 d hd
  exact ⟨by omega, fun x hx => by have := h3 x hx; omega⟩⟩
def FitsR (rt s2 h2 pa2 q2 rn s3 h3 pa3 q3 : ByteArray) : Prop := rt.size ≤ 3000 ∧ rn.size ≤ 500 ∧ (s2.size ≤ 2000 ∧ h2.size ≤ 2000 ∧ pa2.size ≤ 2000 ∧ q2.size ≤ 2000) ∧ (s3.size ≤ 2000 ∧ h3.size ≤ 2000 ∧ pa3.size ≤ 2000 ∧ q3.size ≤ 2000)
/-- What a row of policies as an argument bears. -/
def Arg8 (ps : List (List D × Bool)) : Prop := ps.length ≤ 9223372036854775807 ∧ ∀ p ∈ ps, p.1.length ≤ 9223372036854775807 ∧ ∀ d ∈ p.1, d.w.length ≤ 9223372036854775807
def Big11Post (F : Prop) (w : World) (e : Ending) (w' : World) : Prop := ∃ b, e = .returned (.bool b) ∧ Below w.heap.size w w' ∧ (b = false → F)

set_option maxRecDepth 100000 in
set_option maxHeartbeats 4000000 in
theorem refBig11_any (rk : Int) (rt : ByteArray) (o : Bool) (s2 h2 : ByteArray) (p : Int) (pa2 q2 : ByteArray) (mv : Bool) (rn : ByteArray) (pr : Bool) (o3 : Bool) (s3 h3 : ByteArray) (p3 : Int) (pa3 q3 : ByteArray) (w : World) : Calls Tryz.prog 42 #[reqV rk rt o s2 h2 p pa2 q2 mv rn pr o3 s3 h3 p3 pa3 q3] w (Big11Post (FitsR rt s2 h2 pa2 q2 rn s3 h3 pa3 q3) w) := by
  obtain ⟨g1, h1⟩ : ∃ b, (decide (2000 < s2.size) || decide (2000 < h2.size) || decide (2000 < pa2.size) || decide (2000 < q2.size)) = b := ⟨_, rfl⟩
  obtain ⟨g2, h2'⟩ : ∃ b, (decide (2000 < s3.size) || decide (2000 < h3.size) || decide (2000 < pa3.size) || decide (2000 < q3.size)) = b := ⟨_, rfl⟩
  have C1 := big_hid o s2 h2 p pa2 q2 g1 h1
  have C2 := big_hid o3 s3 h3 p3 pa3 q3 g2 h2'
  have HF : Hid (g1 = false → g2 = false → ¬ (3000 : Int) < (rt.size : Int) → ¬ (500 : Int) < (rn.size : Int) → FitsR rt s2 h2 pa2 q2 rn s3 h3 pa3 q3) := Lib.hid (by
    intro e1 e2 z1 z2
    rw [e1] at h1
    rw [e2] at h2'
    simp only [Bool.or_eq_false_iff, decide_eq_false_iff_not] at h1 h2'
    exact ⟨by omega, by omega, ⟨by omega, by omega, by omega, by omega⟩, ⟨by omega, by omega, by omega, by omega⟩⟩)
  clear h1 h2'
  unfold uV reqV at *
  by_cases z1 : (3000 : Int) < (rt.size : Int)
  · go_enter Tryz.func42, Tryz.ntmps42
    go_wp2
    go_ret
    exact ⟨true, rfl, (Below.refl _ _).alloc (Nat.le_refl _) _, fun h => by cases h⟩
  by_cases z2 : (500 : Int) < (rn.size : Int)
  · go_enter Tryz.func42, Tryz.ntmps42
    go_wp2
    go_ret
    exact ⟨true, rfl, (Below.refl _ _).alloc (Nat.le_refl _) _, fun h => by cases h⟩
  go_enter Tryz.func42, Tryz.ntmps42
  go_wp2_with fail
  have xn := RX.made w rk rt o s2 h2 p pa2 q2 mv rn pr o3 s3 h3 p3 pa3 q3
  have Bw1 : Below w.heap.size w (w.alloc (.cells #[.int .i64 rk, .string rt, .bool o, .string s2, .string h2, .int .i64 p, .string pa2, .string q2, .bool mv, .string rn, .bool pr, .bool o3, .string s3, .string h3, .int .i64 p3, .string pa3, .string q3] 42)) := ((Below.refl w.heap.size w).alloc (Nat.le_refl _) (.cells #[.int .i64 rk, .string rt, .bool o, .string s2, .string h2, .int .i64 p, .string pa2, .string q2, .bool mv, .string rn, .bool pr, .bool o3, .string s3, .string h3, .int .i64 p3, .string pa3, .string q3] 42))
  generalize hR : w.heap.size = Ra at xn Bw1 ⊢
  have HR := Lib.hid hR
  clear hR
  generalize w.alloc (.cells #[.int .i64 rk, .string rt, .bool o, .string s2, .string h2, .int .i64 p, .string pa2, .string q2, .bool mv, .string rn, .bool pr, .bool o3, .string s3, .string h3, .int .i64 p3, .string pa3, .string q3] 42) = w1 at xn  Bw1  ⊢
  have xRa_w1 := xn
  clear xn 
  refine (C1.out _ ).mono ?_
  rintro e w2 ⟨rfl, b_⟩
  have Bw2 := Bw1.trans (b_.mono (Nat.le_of_lt xRa_w1.lt))
  have xRa_w2 := xRa_w1.below b_
  clear b_ Bw1 xRa_w1
  cases g1
  case true =>
    go_wp2
    go_ret
    exact ⟨true, rfl, by rw [HR.out]; exact Bw2, fun h => by cases h⟩
  have dRa0 := xRa_w2.c0
  have dRa1 := xRa_w2.c1
  have dRa2 := xRa_w2.c2
  have dRa3 := xRa_w2.c3
  have dRa4 := xRa_w2.c4
  have dRa5 := xRa_w2.c5
  have dRa6 := xRa_w2.c6
  have dRa7 := xRa_w2.c7
  have dRa8 := xRa_w2.c8
  have dRa9 := xRa_w2.c9
  have dRa10 := xRa_w2.c10
  have dRa11 := xRa_w2.c11
  have dRa12 := xRa_w2.c12
  have dRa13 := xRa_w2.c13
  have dRa14 := xRa_w2.c14
  have dRa15 := xRa_w2.c15
  have dRa16 := xRa_w2.c16
  go_wp2_with fail
  clear dRa0 dRa1 dRa2 dRa3 dRa4 dRa5 dRa6 dRa7 dRa8 dRa9 dRa10 dRa11 dRa12 dRa13 dRa14 dRa15 dRa16
  refine (C2.out _ ).mono ?_
  rintro e w3 ⟨rfl, b_⟩
  have Bw3 := Bw2.trans (b_.mono (Nat.le_of_lt xRa_w2.lt))
  have xRa_w3 := xRa_w2.below b_
  clear b_ Bw2 xRa_w2
  go_wp2
  go_ret
  exact ⟨g2, rfl, by rw [HR.out]; exact Bw3, fun h => HF.out (by trivial) h z1 z2⟩
theorem refBig11_hid (rk : Int) (rt : ByteArray) (o : Bool) (s2 h2 : ByteArray) (p : Int) (pa2 q2 : ByteArray) (mv : Bool) (rn : ByteArray) (pr : Bool) (o3 : Bool) (s3 h3 : ByteArray) (p3 : Int) (pa3 q3 : ByteArray) : Hid (∀ W, Calls Tryz.prog 42 #[reqV rk rt o s2 h2 p pa2 q2 mv rn pr o3 s3 h3 p3 pa3 q3] W fun e w' => ∃ b, e = .returned (.bool b) ∧ Below W.heap.size W w' ∧ (b = false → FitsR rt s2 h2 pa2 q2 rn s3 h3 pa3 q3)) := Lib.hid fun W => refBig11_any rk rt o s2 h2 p pa2 q2 mv rn pr o3 s3 h3 p3 pa3 q3 W

set_option maxRecDepth 100000 in
set_option maxHeartbeats 4000000 in
theorem large12_any (ps : List (List D × Bool)) (pv : Value) (ha : Arg8 ps) (rk : Int) (rt : ByteArray) (o : Bool) (s2 h2 : ByteArray) (p : Int) (pa2 q2 : ByteArray) (mv : Bool) (rn : ByteArray) (pr : Bool) (o3 : Bool) (s3 h3 : ByteArray) (p3 : Int) (pa3 q3 : ByteArray) (w : World) (hp : PolsIn w pv ps) : Calls Tryz.prog 21 #[pv, reqV rk rt o s2 h2 p pa2 q2 mv rn pr o3 s3 h3 p3 pa3 q3] w fun e w' => ∃ b, e = .returned (.bool b) ∧ Below w.heap.size w w' ∧ (b = false → FitsP ps ∧ FitsR rt s2 h2 pa2 q2 rn s3 h3 pa3 q3) := by
  have CB := refBig11_hid rk rt o s2 h2 p pa2 q2 mv rn pr o3 s3 h3 p3 pa3 q3
  have CL : Hid (∀ W, PolsIn W pv ps → Calls Tryz.prog 11 #[pv] W (Big8Post ps W)) := Lib.hid fun W h => refBig8_any ps pv W h ha.1 ha.2
  unfold reqV at *
  go_enter Tryz.func21, Tryz.ntmps21
  go_wp2_with fail
  have xn := RX.made w rk rt o s2 h2 p pa2 q2 mv rn pr o3 s3 h3 p3 pa3 q3
  have pw1 := hp.made (.cells #[.int .i64 rk, .string rt, .bool o, .string s2, .string h2, .int .i64 p, .string pa2, .string q2, .bool mv, .string rn, .bool pr, .bool o3, .string s3, .string h3, .int .i64 p3, .string pa3, .string q3] 42)
  have Bw1 : Below w.heap.size w (w.alloc (.cells #[.int .i64 rk, .string rt, .bool o, .string s2, .string h2, .int .i64 p, .string pa2, .string q2, .bool mv, .string rn, .bool pr, .bool o3, .string s3, .string h3, .int .i64 p3, .string pa3, .string q3] 42)) := ((Below.refl w.heap.size w).alloc (Nat.le_refl _) (.cells #[.int .i64 rk, .string rt, .bool o, .string s2, .string h2, .int .i64 p, .string pa2, .string q2, .bool mv, .string rn, .bool pr, .bool o3, .string s3, .string h3, .int .i64 p3, .string pa3, .string q3] 42))
  generalize hR : w.heap.size = Ra at xn Bw1 ⊢
  have HR := Lib.hid hR
  clear hR
  generalize w.alloc (.cells #[.int .i64 rk, .string rt, .bool o, .string s2, .string h2, .int .i64 p, .string pa2, .string q2, .bool mv, .string rn, .bool pr, .bool o3, .string s3, .string h3, .int .i64 p3, .string pa3, .string q3] 42) = w1 at xn pw1 Bw1  ⊢
  have xRa_w1 := xn
  clear xn hp
  refine (CL.out _ pw1).mono ?_
  rintro e w1 ⟨b0, rfl, rfl, hz⟩
  have HZ := Lib.hid hz
  clear hz
  cases b0
  case true =>
    go_wp2
    go_ret
    exact ⟨true, rfl, by rw [HR.out]; exact Bw1, fun h => by cases h⟩
  have dRa0 := xRa_w1.c0
  have dRa1 := xRa_w1.c1
  have dRa2 := xRa_w1.c2
  have dRa3 := xRa_w1.c3
  have dRa4 := xRa_w1.c4
  have dRa5 := xRa_w1.c5
  have dRa6 := xRa_w1.c6
  have dRa7 := xRa_w1.c7
  have dRa8 := xRa_w1.c8
  have dRa9 := xRa_w1.c9
  have dRa10 := xRa_w1.c10
  have dRa11 := xRa_w1.c11
  have dRa12 := xRa_w1.c12
  have dRa13 := xRa_w1.c13
  have dRa14 := xRa_w1.c14
  have dRa15 := xRa_w1.c15
  have dRa16 := xRa_w1.c16
  go_wp2_with fail
  clear dRa0 dRa1 dRa2 dRa3 dRa4 dRa5 dRa6 dRa7 dRa8 dRa9 dRa10 dRa11 dRa12 dRa13 dRa14 dRa15 dRa16
  refine (CB.out _ ).mono ?_
  rintro e w2 ⟨b1, rfl, b_, hz⟩
  have pw2 := pw1.below b_
  have Bw2 := Bw1.trans (b_.mono (Nat.le_of_lt xRa_w1.lt))
  have xRa_w2 := xRa_w1.below b_
  clear b_ pw1 Bw1 xRa_w1
  have HZ2 := Lib.hid hz
  clear hz
  go_wp2
  go_ret
  exact ⟨b1, rfl, by rw [HR.out]; exact Bw2, fun h => ⟨HZ.out (by trivial), HZ2.out h⟩⟩
theorem large12_hid (ps : List (List D × Bool)) (pv : Value) (ha : Arg8 ps) (rk : Int) (rt : ByteArray) (o : Bool) (s2 h2 : ByteArray) (p : Int) (pa2 q2 : ByteArray) (mv : Bool) (rn : ByteArray) (pr : Bool) (o3 : Bool) (s3 h3 : ByteArray) (p3 : Int) (pa3 q3 : ByteArray) : Hid (∀ W, PolsIn W pv ps → Calls Tryz.prog 21 #[pv, reqV rk rt o s2 h2 p pa2 q2 mv rn pr o3 s3 h3 p3 pa3 q3] W fun e w' => ∃ b, e = .returned (.bool b) ∧ Below W.heap.size W w' ∧ (b = false → FitsP ps ∧ FitsR rt s2 h2 pa2 q2 rn s3 h3 pa3 q3)) := Lib.hid fun W hp => large12_any ps pv ha rk rt o s2 h2 p pa2 q2 mv rn pr o3 s3 h3 p3 pa3 q3 W hp

end Go.Proofs.YthnogdodlhkldaaGreatDoor
