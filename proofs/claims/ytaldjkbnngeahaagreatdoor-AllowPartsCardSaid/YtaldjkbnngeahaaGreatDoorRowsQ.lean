/- What every law of allow asks first: the document's rows, and whether something is too big to be looked at; a row of one's own. -/
import Derived.Test.YtaldjkbnngeahaaGreatDoorRefQ
namespace Go.Proofs.YtaldjkbnngeahaaGreatDoor
open Go.RowKit

/-- A row that came in put behind one's own. -/
theorem nil_appS {w : World} {base : Nat} {v : Value} {n : Nat} {xs : List Value} (hown : w.ownsRow base 40 7 v n xs) (ty : TypeId) (c : Nat) : (Builtin.append_ #[22, 22] ty #[v, .slice none 0 c]).run Tryz.prog w = .ok v w := by
  obtain ⟨i0, hi, hz0, hz1, hz2⟩ := info_parts TinfoSrc
  rcases hown.2 with ⟨rfl, rfl⟩ | ⟨g, cap, cur, rfl, _, _, hnc, _⟩
  · simp [Builtin.append_, run_underlying Tryz.underlying22, sizeOf, typeInfo, hi, Builtin.lenOf, Builtin.firstCells]
  · simp [Builtin.append_, run_underlying Tryz.underlying22, sizeOf, typeInfo, hi, Builtin.lenOf, Builtin.firstCells, hnc, storeCells]
theorem srcCs_one (L : List Src) : ∀ u ∈ srcCs L, u.oneCell' = true := fun u hu => by
  obtain ⟨a, _, hm⟩ := List.mem_flatMap.1 hu
  simp only [srcC, List.mem_cons, List.not_mem_nil, or_false] at hm
  rcases hm with rfl | rfl | rfl | rfl | rfl | rfl | rfl <;> rfl
theorem wpList_append_src {w : World} {ops : Array Oper} {rest : List Oper} {o : Oper} {a : Act} {Q : Exit → Act → World → Prop} (hgd : o.guard = none) (s x : Operand)
    (ho : o.op = .call { callee := .builtin .append, args := #[s, x], argTypes := #[22, 22] }) (base : Nat) (v0 : Value) (n : Nat) (xs : List Value)
    (hs : a.eval s = v0) (hown : w.ownsRow base 40 7 v0 n xs) (u : Value) (l : List Src) (hx : a.eval x = u) (hin : SrcsIn w u l)
    (h63 : n + l.length ≤ 1000000) (hbase : base ≤ w.heap.size)
    (h : ∀ v' w', w'.ownsRow base 40 7 v' (n + l.length) (xs ++ srcCs l) → w.grownBy w' v0.ownBlock → wpList Tryz.prog ops Q rest (a.put o.dst v') w') : wpList Tryz.prog ops Q (o :: rest) a w := by
  obtain ⟨i0, hi, hz0, hz1, hz2⟩ := info_parts TinfoSrc
  have via : ∀ (ad : Addr) (c : Nat), u = .slice (some ad) l.length c → (∀ j v, (srcCs l)[j]? = some v → w.cell? (ad.add j) = some v) → wpList Tryz.prog ops Q (o :: rest) a w := fun ad c hu hc => by
    refine wpList_append_own _ hgd s x 22 ho base 40 i0 (.agg #[.int .i64 0, .string ⟨#[]⟩, .string ⟨#[]⟩, .string ⟨#[]⟩, .bool false, .int .i64 0, .string ⟨#[]⟩]) 7 88 Tryz.underlying22 hi hz0 hz1 hz2 rfl (by decide) _ n xs hs hown ad l.length c (srcCs l) (by rw [hx, hu]) (srcCs_len l) hc (srcCs_one l) (by unfold maxLen; omega) (by omega) hbase ?_
    intro v' w' h1 h2 _
    exact h v' w' h1 h2
  rcases hin with ⟨⟨a0, c0, rfl⟩, rfl⟩ | ⟨B, off, cap, rfl, hc⟩
  · cases a0 with
    | none =>
      refine wpList_plain hgd fun K hK => ?_
      have hrun := nil_appS hown o.type c0
      unfold Oper.wp execOp
      simp only [ho, resolve, invoke, builtin, Sem.run_bind, Sem.run_pure, Result.andThen_ok, List.map_toArray, List.map_cons, List.map_nil, hs, hx, hrun]
      exact hK _ _ (h _ _ (by simpa [srcCs] using hown) (World.grownBy.refl w _))
    | some ad => exact via ad c0 rfl (fun j v hj => by simp [srcCs] at hj)
  · refine via ⟨B, off, none⟩ cap rfl (fun j v hj => ?_)
    have hj' : j < l.length * 7 := by
      have := (List.getElem?_eq_some_iff.1 hj).1
      rwa [srcCs_len] at this
    have e : (⟨B, off, none⟩ : Addr).add j = ⟨B, off + j, none⟩ := by unfold Addr.add; split <;> simp_all
    have hd : j / 7 * 7 + j % 7 = j := by omega
    have hj2 := srcCs_at l (j / 7) (j % 7) (by omega) (by omega)
    rw [hd, hj] at hj2
    have := hc (j / 7) (by omega) (j % 7) v hj2.symm
    rw [Nat.add_assoc, hd] at this
    rw [e, this]

set_option maxRecDepth 100000 in
set_option maxHeartbeats 4000000 in
theorem own_any (L : List Src) (v : Value) (w : World) (hv : SrcsIn w v L) (hl : L.length ≤ 1000000) : Calls Tryz.prog 11 #[v] w fun e w' => ∃ u, e = .returned u ∧ w'.ownsRow w.heap.size 40 7 u L.length (srcCs L) ∧ Below w.heap.size w w' := by
  have HO := Lib.hid (World.ownsRow_nil w w.heap.size 40 7)
  have HV := Lib.hid hv
  clear hv
  go_enter Tryz.func11, Tryz.ntmps11
  go_wp2_with (at_builtin; refine wpList_append_src rfl _ _ rfl w.heap.size _ 0 [] rfl HO.out _ L rfl HV.out (by omega) (Nat.le_refl _) ?_; intro v1 w1 hown1 hgr1
               have X : AsideM (w1.ownsRow w.heap.size 40 7 v1 L.length (srcCs L) ∧ Below w.heap.size w w1) := ⟨by rw [Nat.zero_add] at hown1; exact hown1, Below.grown (Below.refl _ _) hgr1 (Nat.le_refl _) (fun k hk => by cases hk)⟩
               clear hown1 hgr1)
  go_ret
  exact ⟨_, rfl, X.out.1, X.out.2⟩
theorem own_hid (L : List Src) (v : Value) (hl : L.length ≤ 1000000) : Hid (∀ W, SrcsIn W v L → Calls Tryz.prog 11 #[v] W fun e w' => ∃ u, e = .returned u ∧ SrcsIn w' u L ∧ w'.ownsRow W.heap.size 40 7 u L.length (srcCs L) ∧ Below W.heap.size W w') :=
  Lib.hid fun W hv => (own_any L v W hv hl).mono fun _ _ ⟨u, h1, h2, h3⟩ => ⟨u, h1, SrcsIn.of_row h2, h2, h3⟩
theorem same11_hid (L : List Src) (v v2 : Value) (hl : L.length ≤ 1000000) : Hid (∀ W, SrcsIn W v L → SrcsIn W v2 L → Calls Tryz.prog 21 #[v, v2] W fun e w' => e = .returned (.bool true) ∧ Below W.heap.size W w') :=
  Lib.hid fun W h1 h2 => refSame9_any L v v2 W h1 h2 hl

/-- What is not too big. -/
def FitsR (rt s2 h2 pa2 q2 rn s3 h3 pa3 q3 : ByteArray) : Prop := rt.size ≤ 3000 ∧ rn.size ≤ 500 ∧ (s2.size ≤ 2000 ∧ h2.size ≤ 2000 ∧ pa2.size ≤ 2000 ∧ q2.size ≤ 2000) ∧ (s3.size ≤ 2000 ∧ h3.size ≤ 2000 ∧ pa3.size ≤ 2000 ∧ q3.size ≤ 2000)
def FitsL (L : List Src) : Prop := L.length ≤ 50 ∧ ∀ a ∈ L, SmallS a
theorem FitsL.far {L : List Src} (h : FitsL L) : ∀ a ∈ L, a.h.length ≤ 100000 ∧ a.pa.length ≤ 100000 := fun a ha => by
  obtain ⟨_, _, h3, h4⟩ := h.2 a ha
  exact ⟨by omega, by omega⟩
def Big11Post (F : Prop) (w : World) (e : Ending) (w' : World) : Prop := ∃ b, e = .returned (.bool b) ∧ Below w.heap.size w w' ∧ (b = false → F)

set_option maxRecDepth 100000 in
set_option maxHeartbeats 4000000 in
theorem refBig11_any (rk : Int) (rt : ByteArray) (o : Bool) (s2 h2 : ByteArray) (p : Int) (pa2 q2 : ByteArray) (mv : Bool) (rn : ByteArray) (pr : Bool) (o3 : Bool) (s3 h3 : ByteArray) (p3 : Int) (pa3 q3 : ByteArray) (w : World) : Calls Tryz.prog 28 #[reqV rk rt o s2 h2 p pa2 q2 mv rn pr o3 s3 h3 p3 pa3 q3] w (Big11Post (FitsR rt s2 h2 pa2 q2 rn s3 h3 pa3 q3) w) := by
  obtain ⟨g1, h1⟩ : ∃ b, (decide (2000 < s2.size) || decide (2000 < h2.size) || decide (2000 < pa2.size) || decide (2000 < q2.size)) = b := ⟨_, rfl⟩
  obtain ⟨g2, h2'⟩ : ∃ b, (decide (2000 < s3.size) || decide (2000 < h3.size) || decide (2000 < pa3.size) || decide (2000 < q3.size)) = b := ⟨_, rfl⟩
  have C1 := big_hid o s2 h2 p pa2 q2 g1 h1
  have C2 := big_hid o3 s3 h3 p3 pa3 q3 g2 h2'
  have HF : Hid (g1 = false → g2 = false → ¬ (3000 : Int) < (rt.size : Int) → ¬ (500 : Int) < (rn.size : Int) → FitsR rt s2 h2 pa2 q2 rn s3 h3 pa3 q3) := Lib.hid (by
    intro e1 e2 z1 z2
    rw [e1] at h1
    rw [e2] at h2'
    simp only [Bool.or_eq_false_iff, decide_eq_false_iff_not] at h1 h2'
    exact ⟨by omega, by omega, ⟨by omega, by omega, by omega, by omega⟩, ⟨by omega, by omega, by omega, by omega⟩⟩)
  clear h1 h2'
  unfold uV reqV at *
  by_cases z1 : (3000 : Int) < (rt.size : Int)
  · go_enter Tryz.func28, Tryz.ntmps28
    go_wp2
    go_ret
    exact ⟨true, rfl, (Below.refl _ _).alloc (Nat.le_refl _) _, fun h => by cases h⟩
  by_cases z2 : (500 : Int) < (rn.size : Int)
  · go_enter Tryz.func28, Tryz.ntmps28
    go_wp2
    go_ret
    exact ⟨true, rfl, (Below.refl _ _).alloc (Nat.le_refl _) _, fun h => by cases h⟩
  go_enter Tryz.func28, Tryz.ntmps28
  go_wp2_with fail
  have xn := RX.made w rk rt o s2 h2 p pa2 q2 mv rn pr o3 s3 h3 p3 pa3 q3
  have Bw1 : Below w.heap.size w (w.alloc (.cells #[.int .i64 rk, .string rt, .bool o, .string s2, .string h2, .int .i64 p, .string pa2, .string q2, .bool mv, .string rn, .bool pr, .bool o3, .string s3, .string h3, .int .i64 p3, .string pa3, .string q3] 27)) := ((Below.refl w.heap.size w).alloc (Nat.le_refl _) (.cells #[.int .i64 rk, .string rt, .bool o, .string s2, .string h2, .int .i64 p, .string pa2, .string q2, .bool mv, .string rn, .bool pr, .bool o3, .string s3, .string h3, .int .i64 p3, .string pa3, .string q3] 27))
  generalize hR : w.heap.size = Ra at xn Bw1 ⊢
  have HR := Lib.hid hR
  clear hR
  generalize w.alloc (.cells #[.int .i64 rk, .string rt, .bool o, .string s2, .string h2, .int .i64 p, .string pa2, .string q2, .bool mv, .string rn, .bool pr, .bool o3, .string s3, .string h3, .int .i64 p3, .string pa3, .string q3] 27) = w1 at xn  Bw1  ⊢
  have xRa_w1 := xn
  clear xn 
  refine (C1.out _ ).mono ?_
  rintro e w2 ⟨rfl, b_⟩
  have Bw2 := Bw1.trans (b_.mono (Nat.le_of_lt xRa_w1.lt))
  have xRa_w2 := xRa_w1.below b_
  clear b_ Bw1 xRa_w1
  cases g1
  case true =>
    go_wp2
    go_ret
    exact ⟨true, rfl, by rw [HR.out]; exact Bw2, fun h => by cases h⟩
  have dRa0 := xRa_w2.c0
  have dRa1 := xRa_w2.c1
  have dRa2 := xRa_w2.c2
  have dRa3 := xRa_w2.c3
  have dRa4 := xRa_w2.c4
  have dRa5 := xRa_w2.c5
  have dRa6 := xRa_w2.c6
  have dRa7 := xRa_w2.c7
  have dRa8 := xRa_w2.c8
  have dRa9 := xRa_w2.c9
  have dRa10 := xRa_w2.c10
  have dRa11 := xRa_w2.c11
  have dRa12 := xRa_w2.c12
  have dRa13 := xRa_w2.c13
  have dRa14 := xRa_w2.c14
  have dRa15 := xRa_w2.c15
  have dRa16 := xRa_w2.c16
  go_wp2_with fail
  clear dRa0 dRa1 dRa2 dRa3 dRa4 dRa5 dRa6 dRa7 dRa8 dRa9 dRa10 dRa11 dRa12 dRa13 dRa14 dRa15 dRa16
  refine (C2.out _ ).mono ?_
  rintro e w3 ⟨rfl, b_⟩
  have Bw3 := Bw2.trans (b_.mono (Nat.le_of_lt xRa_w2.lt))
  have xRa_w3 := xRa_w2.below b_
  clear b_ Bw2 xRa_w2
  go_wp2
  go_ret
  exact ⟨g2, rfl, by rw [HR.out]; exact Bw3, fun h => HF.out (by trivial) h z1 z2⟩
theorem refBig11_hid (rk : Int) (rt : ByteArray) (o : Bool) (s2 h2 : ByteArray) (p : Int) (pa2 q2 : ByteArray) (mv : Bool) (rn : ByteArray) (pr : Bool) (o3 : Bool) (s3 h3 : ByteArray) (p3 : Int) (pa3 q3 : ByteArray) : Hid (∀ W, Calls Tryz.prog 28 #[reqV rk rt o s2 h2 p pa2 q2 mv rn pr o3 s3 h3 p3 pa3 q3] W fun e w' => ∃ b, e = .returned (.bool b) ∧ Below W.heap.size W w' ∧ (b = false → FitsR rt s2 h2 pa2 q2 rn s3 h3 pa3 q3)) := Lib.hid fun W => refBig11_any rk rt o s2 h2 p pa2 q2 mv rn pr o3 s3 h3 p3 pa3 q3 W

set_option maxRecDepth 100000 in
set_option maxHeartbeats 4000000 in
theorem large11_any (L : List Src) (v : Value) (hl : L.length ≤ 9223372036854775807) (rk : Int) (rt : ByteArray) (o : Bool) (s2 h2 : ByteArray) (p : Int) (pa2 q2 : ByteArray) (mv : Bool) (rn : ByteArray) (pr : Bool) (o3 : Bool) (s3 h3 : ByteArray) (p3 : Int) (pa3 q3 : ByteArray) (w : World) (hv : SrcsIn w v L) : Calls Tryz.prog 10 #[v, reqV rk rt o s2 h2 p pa2 q2 mv rn pr o3 s3 h3 p3 pa3 q3] w fun e w' => ∃ b, e = .returned (.bool b) ∧ Below w.heap.size w w' ∧ (b = false → FitsL L ∧ FitsR rt s2 h2 pa2 q2 rn s3 h3 pa3 q3) := by
  have CB := refBig11_hid rk rt o s2 h2 p pa2 q2 mv rn pr o3 s3 h3 p3 pa3 q3
  have CL : Hid (∀ W, SrcsIn W v L → Calls Tryz.prog 29 #[v] W (Big9Post L W)) := Lib.hid fun W h => refBig9_any L v W h hl
  unfold reqV at *
  go_enter Tryz.func10, Tryz.ntmps10
  go_wp2_with fail
  have xn := RX.made w rk rt o s2 h2 p pa2 q2 mv rn pr o3 s3 h3 p3 pa3 q3
  have lw1 := hv.made (.cells #[.int .i64 rk, .string rt, .bool o, .string s2, .string h2, .int .i64 p, .string pa2, .string q2, .bool mv, .string rn, .bool pr, .bool o3, .string s3, .string h3, .int .i64 p3, .string pa3, .string q3] 27)
  have Bw1 : Below w.heap.size w (w.alloc (.cells #[.int .i64 rk, .string rt, .bool o, .string s2, .string h2, .int .i64 p, .string pa2, .string q2, .bool mv, .string rn, .bool pr, .bool o3, .string s3, .string h3, .int .i64 p3, .string pa3, .string q3] 27)) := ((Below.refl w.heap.size w).alloc (Nat.le_refl _) (.cells #[.int .i64 rk, .string rt, .bool o, .string s2, .string h2, .int .i64 p, .string pa2, .string q2, .bool mv, .string rn, .bool pr, .bool o3, .string s3, .string h3, .int .i64 p3, .string pa3, .string q3] 27))
  generalize hR : w.heap.size = Ra at xn Bw1 ⊢
  have HR := Lib.hid hR
  clear hR
  generalize w.alloc (.cells #[.int .i64 rk, .string rt, .bool o, .string s2, .string h2, .int .i64 p, .string pa2, .string q2, .bool mv, .string rn, .bool pr, .bool o3, .string s3, .string h3, .int .i64 p3, .string pa3, .string q3] 27) = w1 at xn lw1 Bw1  ⊢
  have xRa_w1 := xn
  clear xn hv
  refine (CL.out _ lw1).mono ?_
  rintro e w1 ⟨b0, rfl, rfl, hz⟩
  have HZ := Lib.hid hz
  clear hz
  cases b0
  case true =>
    go_wp2
    go_ret
    exact ⟨true, rfl, by rw [HR.out]; exact Bw1, fun h => by cases h⟩
  have dRa0 := xRa_w1.c0
  have dRa1 := xRa_w1.c1
  have dRa2 := xRa_w1.c2
  have dRa3 := xRa_w1.c3
  have dRa4 := xRa_w1.c4
  have dRa5 := xRa_w1.c5
  have dRa6 := xRa_w1.c6
  have dRa7 := xRa_w1.c7
  have dRa8 := xRa_w1.c8
  have dRa9 := xRa_w1.c9
  have dRa10 := xRa_w1.c10
  have dRa11 := xRa_w1.c11
  have dRa12 := xRa_w1.c12
  have dRa13 := xRa_w1.c13
  have dRa14 := xRa_w1.c14
  have dRa15 := xRa_w1.c15
  have dRa16 := xRa_w1.c16
  go_wp2_with fail
  clear dRa0 dRa1 dRa2 dRa3 dRa4 dRa5 dRa6 dRa7 dRa8 dRa9 dRa10 dRa11 dRa12 dRa13 dRa14 dRa15 dRa16
  refine (CB.out _ ).mono ?_
  rintro e w2 ⟨b1, rfl, b_, hz⟩
  have lw2 := lw1.below b_
  have Bw2 := Bw1.trans (b_.mono (Nat.le_of_lt xRa_w1.lt))
  have xRa_w2 := xRa_w1.below b_
  clear b_ lw1 Bw1 xRa_w1
  have HZ2 := Lib.hid hz
  clear hz
  go_wp2
  go_ret
  exact ⟨b1, rfl, by rw [HR.out]; exact Bw2, fun h => ⟨HZ.out (by trivial), HZ2.out h⟩⟩
theorem large11_hid (L : List Src) (v : Value) (hl : L.length ≤ 9223372036854775807) (rk : Int) (rt : ByteArray) (o : Bool) (s2 h2 : ByteArray) (p : Int) (pa2 q2 : ByteArray) (mv : Bool) (rn : ByteArray) (pr : Bool) (o3 : Bool) (s3 h3 : ByteArray) (p3 : Int) (pa3 q3 : ByteArray) : Hid (∀ W, SrcsIn W v L → Calls Tryz.prog 10 #[v, reqV rk rt o s2 h2 p pa2 q2 mv rn pr o3 s3 h3 p3 pa3 q3] W fun e w' => ∃ b, e = .returned (.bool b) ∧ Below W.heap.size W w' ∧ (b = false → FitsL L ∧ FitsR rt s2 h2 pa2 q2 rn s3 h3 pa3 q3)) := Lib.hid fun W hv => large11_any L v hl rk rt o s2 h2 p pa2 q2 mv rn pr o3 s3 h3 p3 pa3 q3 W hv

set_option maxRecDepth 100000 in
set_option maxHeartbeats 4000000 in
theorem inline_any (ws : List (List UInt8)) (u : Value) (hw' : ∀ l ∈ ws, l.length ≤ 10000) (hn : ws.length ≤ 1000) (b : Bool) (hb : inlineL (listS ws) 1 (⟨#[110]⟩ : ByteArray).data.toList (⟨#[102, 40, 41]⟩ : ByteArray).data.toList = b) (w : World) (hw : Low w) (hv : TextsIn w u ws) : Calls Tryz.prog 38 #[u] w fun e w' => e = .returned (.bool b) ∧ Below w.heap.size w w' := by
  have hl := listS_length ws
  have HB := Lib.hid hb
  clear hb
  have CL : Hid (Calls Tryz.prog 39 #[u] w fun e w' => ∃ u, e = .returned u ∧ SrcsIn w' u (listS ws) ∧ Below w.heap.size w w') := Lib.hid ((listP_any ws u hw' (by omega) w hw hv).mono fun _ _ ⟨u, h1, h2, h3⟩ => ⟨u, h1, SrcsIn.of_row h2, h3⟩)
  clear hv hw hw'
  go_enter Tryz.func38, Tryz.ntmps38
  go_wp2_with fail
  refine CL.out.mono ?_
  rintro e w1 ⟨u1, rfl, hu, b1⟩
  clear CL
  have CI := alwInline_hid (listS ws) u1 (by omega) 1 (⟨#[110]⟩ : ByteArray) (⟨#[102, 40, 41]⟩ : ByteArray) (by decide) b HB.out
  go_wp2_with fail
  refine (CI.out _ hu).mono ?_
  rintro e w2 ⟨rfl, b2⟩
  have b3 := b1.trans (b2.mono b1.size)
  clear hu b1 b2
  go_wp2
  go_ret
  exact ⟨rfl, b3⟩
theorem below_lit {W w' : World} {x : Obj} (h : Below (W.alloc x).heap.size (W.alloc x) w') : Below W.heap.size W w' := ((Below.refl W.heap.size W).alloc (Nat.le_refl _) _).trans (h.mono (by rw [size_allocS]; omega))
theorem inline_lit (ws : List (List UInt8)) (C : Array Value) (hC : C = (txtCells ws).toArray) (n : Nat) (hn0 : n = ws.length) (hw' : ∀ l ∈ ws, l.length ≤ 10000) (hn : ws.length ≤ 1000) (b : Bool) (hb : inlineL (listS ws) 1 (⟨#[110]⟩ : ByteArray).data.toList (⟨#[102, 40, 41]⟩ : ByteArray).data.toList = b) : Hid (∀ W, Low W → Calls Tryz.prog 38 #[.slice (some ⟨W.heap.size, 0, none⟩) n n] (W.alloc (.cells C 9)) fun e w' => e = .returned (.bool b) ∧ Below W.heap.size W w') :=
  Lib.hid fun W hw => (inline_any ws _ hw' hn b hb _ (hw.made _) (textsIn_new W ws C hC n hn0 n)).mono fun _ _ ⟨h1, h2⟩ => ⟨h1, below_lit h2⟩
theorem inline_nil (b : Bool) (hb : inlineL [] 1 (⟨#[110]⟩ : ByteArray).data.toList (⟨#[102, 40, 41]⟩ : ByteArray).data.toList = b) : Hid (∀ W, Low W → Calls Tryz.prog 38 #[.slice none 0 0] W fun e w' => e = .returned (.bool b) ∧ Below W.heap.size W w') :=
  Lib.hid fun W hw => inline_any [] _ (by simp) (by decide) b hb W hw (.inl ⟨⟨_, _, rfl⟩, rfl⟩)
theorem list_lit (ws : List (List UInt8)) (C : Array Value) (hC : C = (txtCells ws).toArray) (n : Nat) (hn0 : n = ws.length) (hw' : ∀ l ∈ ws, l.length ≤ 10000) (hn : ws.length ≤ 1000) : Hid (∀ W, Low W → Calls Tryz.prog 39 #[.slice (some ⟨W.heap.size, 0, none⟩) n n] (W.alloc (.cells C 9)) fun e w' => ∃ u, e = .returned u ∧ SrcsIn w' u (listS ws) ∧ Below W.heap.size W w') :=
  Lib.hid fun W hw => (listP_any ws _ hw' (by omega) _ (hw.made _) (textsIn_new W ws C hC n hn0 n)).mono fun _ _ ⟨u, h1, h2, h3⟩ => ⟨u, h1, SrcsIn.of_row h2, below_lit h3⟩
theorem SX.row {w : World} {R : Nat} {k : Int} {t s h : ByteArray} {wd : Bool} {sp : Int} {pa : ByteArray} (x : SX w R k t s h wd sp pa) : SrcsIn w (.slice (some ⟨R, 0, none⟩) 1 1) [srcM k t s h wd sp pa] := by
  refine .inr ⟨R, 0, 1, rfl, fun i hi j u hu => ?_⟩
  obtain rfl : i = 0 := by simpa using hi
  rw [List.getElem_cons_zero, srcC_M] at hu
  rw [cell_of x, ← hu]
  simp
theorem pI0 : inlineL (listS [(⟨#[39, 117, 110, 115, 97, 102, 101, 45, 105, 110, 108, 105, 110, 101, 39]⟩ : ByteArray).data.toList]) 1 (⟨#[110]⟩ : ByteArray).data.toList (⟨#[102, 40, 41]⟩ : ByteArray).data.toList = true := by decide +kernel
theorem pI1 : inlineL (listS [(⟨#[39, 117, 110, 115, 97, 102, 101, 45, 105, 110, 108, 105, 110, 101, 39]⟩ : ByteArray).data.toList, (⟨#[39, 110, 111, 110, 99, 101, 45, 109, 39]⟩ : ByteArray).data.toList]) 1 (⟨#[110]⟩ : ByteArray).data.toList (⟨#[102, 40, 41]⟩ : ByteArray).data.toList = false := by decide +kernel
theorem pI2 : inlineL (listS [(⟨#[39, 110, 111, 110, 99, 101, 45, 110, 39]⟩ : ByteArray).data.toList]) 1 (⟨#[110]⟩ : ByteArray).data.toList (⟨#[102, 40, 41]⟩ : ByteArray).data.toList = true := by decide +kernel
theorem pI3 : inlineL (listS [(⟨#[39, 110, 111, 110, 101, 39]⟩ : ByteArray).data.toList]) 1 (⟨#[110]⟩ : ByteArray).data.toList (⟨#[102, 40, 41]⟩ : ByteArray).data.toList = false := by decide +kernel
theorem pIW : evalL (listS [(⟨#[39, 119, 97, 115, 109, 45, 117, 110, 115, 97, 102, 101, 45, 101, 118, 97, 108, 39]⟩ : ByteArray).data.toList]) 6 = true := by decide +kernel
theorem pG : markL (⟨#[102, 40, 41]⟩ : ByteArray).data.toList ≠ markL (⟨#[103, 40, 41]⟩ : ByteArray).data.toList := by decide +kernel

set_option maxRecDepth 100000 in
set_option maxHeartbeats 8000000 in
theorem allows_any (w : World) (hw : Low w) : Calls Tryz.prog 16 #[] w fun e w' => e = .returned (.bool true) ∧ Below w.heap.size w w' := by
  have I0 := inline_lit [(⟨#[39, 117, 110, 115, 97, 102, 101, 45, 105, 110, 108, 105, 110, 101, 39]⟩ : ByteArray).data.toList] #[.string ⟨#[39, 117, 110, 115, 97, 102, 101, 45, 105, 110, 108, 105, 110, 101, 39]⟩] rfl 1 rfl (by decide) (by decide) true pI0
  have I1 := inline_lit [(⟨#[39, 117, 110, 115, 97, 102, 101, 45, 105, 110, 108, 105, 110, 101, 39]⟩ : ByteArray).data.toList, (⟨#[39, 110, 111, 110, 99, 101, 45, 109, 39]⟩ : ByteArray).data.toList] #[.string ⟨#[39, 117, 110, 115, 97, 102, 101, 45, 105, 110, 108, 105, 110, 101, 39]⟩, .string ⟨#[39, 110, 111, 110, 99, 101, 45, 109, 39]⟩] rfl 2 rfl (by decide) (by decide) false pI1
  have I2 := inline_lit [(⟨#[39, 110, 111, 110, 99, 101, 45, 110, 39]⟩ : ByteArray).data.toList] #[.string ⟨#[39, 110, 111, 110, 99, 101, 45, 110, 39]⟩] rfl 1 rfl (by decide) (by decide) true pI2
  have I3 := inline_lit [(⟨#[39, 110, 111, 110, 101, 39]⟩ : ByteArray).data.toList] #[.string ⟨#[39, 110, 111, 110, 101, 39]⟩] rfl 1 rfl (by decide) (by decide) false pI3
  have I4 := inline_nil false rfl
  have IW := list_lit [(⟨#[39, 119, 97, 115, 109, 45, 117, 110, 115, 97, 102, 101, 45, 101, 118, 97, 108, 39]⟩ : ByteArray).data.toList] #[.string ⟨#[39, 119, 97, 115, 109, 45, 117, 110, 115, 97, 102, 101, 45, 101, 118, 97, 108, 39]⟩] rfl 1 rfl (by decide) (by decide)
  have IN := alwEval_hid [] (.slice none 0 0) (by decide) 5 false rfl
  obtain ⟨M, hM⟩ : ∃ M : ByteArray, M.data.toList = markL (⟨#[102, 40, 41]⟩ : ByteArray).data.toList := ⟨⟨(markL (⟨#[102, 40, 41]⟩ : ByteArray).data.toList).toArray⟩, rfl⟩
  have CO := of1_hid (⟨#[102, 40, 41]⟩ : ByteArray) M (by decide) hM
  have HM := Lib.hid hM
  clear hM
  go_enter Tryz.func16, Tryz.ntmps16
  go_wp2_with fail
  refine (CO.out _ ).mono ?_
  rintro e w1 ⟨rfl, b_⟩
  have gw1 := hw.below b_
  have Bw1 := b_
  clear b_ hw
  go_wp2_with fail
  rw [← size_allocS w1 (.cells #[.int .i64 10, .string M, .string ⟨#[]⟩, .string ⟨#[]⟩, .bool false, .int .i64 0, .string ⟨#[]⟩] 40)]
  have xn := SX.made w1 10 M ⟨#[]⟩ ⟨#[]⟩ false 0 ⟨#[]⟩
  have gw2 := gw1.made (.cells #[.int .i64 10, .string M, .string ⟨#[]⟩, .string ⟨#[]⟩, .bool false, .int .i64 0, .string ⟨#[]⟩] 40)
  have Bw2 := Bw1.trans (((Below.refl w1.heap.size w1).alloc (Nat.le_refl _) (.cells #[.int .i64 10, .string M, .string ⟨#[]⟩, .string ⟨#[]⟩, .bool false, .int .i64 0, .string ⟨#[]⟩] 40)).mono Bw1.size)
  generalize w1.heap.size = Ra at xn ⊢
  generalize w1.alloc (.cells #[.int .i64 10, .string M, .string ⟨#[]⟩, .string ⟨#[]⟩, .bool false, .int .i64 0, .string ⟨#[]⟩] 40) = w2 at xn gw2 Bw2  ⊢
  have xRa_w2 := xn
  clear xn gw1 Bw1
  have H1 := alwHash_hid [srcM 10 M ⟨#[]⟩ ⟨#[]⟩ false 0 ⟨#[]⟩] (.slice (some ⟨Ra, 0, none⟩) 1 1) (by simp) (⟨#[102, 40, 41]⟩ : ByteArray) (by decide) true (own_hash _ rfl _ HM.out)
  have H2 := alwHash_hid [srcM 10 M ⟨#[]⟩ ⟨#[]⟩ false 0 ⟨#[]⟩] (.slice (some ⟨Ra, 0, none⟩) 1 1) (by simp) (⟨#[103, 40, 41]⟩ : ByteArray) (by decide) false (by unfold hashL textQ; rw [List.any_cons, List.any_nil, Bool.or_false]; unfold srcM; rw [HM.out, decide_eq_false pG, Bool.and_false])
  have H3 := alwInline_hid [srcM 10 M ⟨#[]⟩ ⟨#[]⟩ false 0 ⟨#[]⟩] (.slice (some ⟨Ra, 0, none⟩) 1 1) (by simp) 3 ⟨#[]⟩ (⟨#[102, 40, 41]⟩ : ByteArray) (by decide) false (by unfold inlineL looseL hasL srcM; rfl)
  refine (I0.out _ gw2).mono ?_
  rintro e w3 ⟨rfl, b_⟩
  have gw3 := gw2.below b_
  have Bw3 := Bw2.trans (b_.mono Bw2.size)
  have xRa_w3 := xRa_w2.below b_
  clear b_ gw2 Bw2 xRa_w2
  go_wp2_with fail
  refine (I1.out _ gw3).mono ?_
  rintro e w4 ⟨rfl, b_⟩
  have gw4 := gw3.below b_
  have Bw4 := Bw3.trans (b_.mono Bw3.size)
  have xRa_w4 := xRa_w3.below b_
  clear b_ gw3 Bw3 xRa_w3
  go_wp2_with fail
  refine (I2.out _ gw4).mono ?_
  rintro e w5 ⟨rfl, b_⟩
  have gw5 := gw4.below b_
  have Bw5 := Bw4.trans (b_.mono Bw4.size)
  have xRa_w5 := xRa_w4.below b_
  clear b_ gw4 Bw4 xRa_w4
  go_wp2_with fail
  refine (I3.out _ gw5).mono ?_
  rintro e w6 ⟨rfl, b_⟩
  have gw6 := gw5.below b_
  have Bw6 := Bw5.trans (b_.mono Bw5.size)
  have xRa_w6 := xRa_w5.below b_
  clear b_ gw5 Bw5 xRa_w5
  go_wp2_with fail
  refine (I4.out _ gw6).mono ?_
  rintro e w7 ⟨rfl, b_⟩
  have gw7 := gw6.below b_
  have Bw7 := Bw6.trans (b_.mono Bw6.size)
  have xRa_w7 := xRa_w6.below b_
  clear b_ gw6 Bw6 xRa_w6
  go_wp2_with fail
  refine (H1.out _ xRa_w7.row).mono ?_
  rintro e w8 ⟨rfl, b_⟩
  have gw8 := gw7.below b_
  have Bw8 := Bw7.trans (b_.mono Bw7.size)
  have xRa_w8 := xRa_w7.below b_
  clear b_ gw7 Bw7 xRa_w7
  go_wp2_with fail
  refine (H2.out _ xRa_w8.row).mono ?_
  rintro e w9 ⟨rfl, b_⟩
  have gw9 := gw8.below b_
  have Bw9 := Bw8.trans (b_.mono Bw8.size)
  have xRa_w9 := xRa_w8.below b_
  clear b_ gw8 Bw8 xRa_w8
  go_wp2_with fail
  refine (H3.out _ xRa_w9.row).mono ?_
  rintro e w10 ⟨rfl, b_⟩
  have gw10 := gw9.below b_
  have Bw10 := Bw9.trans (b_.mono Bw9.size)
  have xRa_w10 := xRa_w9.below b_
  clear b_ gw9 Bw9 xRa_w9
  go_wp2_with fail
  refine (IW.out _ gw10).mono ?_
  rintro e w11 ⟨u9, rfl, hu, b_⟩
  have gw11 := gw10.below b_
  have Bw11 := Bw10.trans (b_.mono Bw10.size)
  have xRa_w11 := xRa_w10.below b_
  clear b_ gw10 Bw10 xRa_w10
  have CE := alwEval_hid _ u9 (by rw [show ∀ n : Nat, n ≤ 1000000 ↔ ¬ 1000000 < n from fun n => by omega]; decide +kernel) 6 true pIW
  go_wp2_with fail
  refine (CE.out _ hu).mono ?_
  rintro e w12 ⟨rfl, b_⟩
  have gw12 := gw11.below b_
  have Bw12 := Bw11.trans (b_.mono Bw11.size)
  have xRa_w12 := xRa_w11.below b_
  clear b_ gw11 Bw11 xRa_w11
  clear hu
  go_wp2_with fail
  refine (IN.out _ (.inl ⟨⟨_, _, rfl⟩, rfl⟩)).mono ?_
  rintro e w13 ⟨rfl, b_⟩
  have gw13 := gw12.below b_
  have Bw13 := Bw12.trans (b_.mono Bw12.size)
  have xRa_w13 := xRa_w12.below b_
  clear b_ gw12 Bw12 xRa_w12
  go_wp2
  go_ret
  exact ⟨rfl, Bw13⟩
theorem allows_hid : Hid (∀ W, Low W → Calls Tryz.prog 16 #[] W fun e w' => e = .returned (.bool true) ∧ Below W.heap.size W w') := Lib.hid fun W hw => allows_any W hw

end Go.Proofs.YtaldjkbnngeahaaGreatDoor
