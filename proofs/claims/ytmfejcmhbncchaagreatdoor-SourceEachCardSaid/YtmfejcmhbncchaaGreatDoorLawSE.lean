/- SourceEach: each source of a list has a word that is parsed as it; the words' lists, one behind the other, are the list of all. -/
import Derived.Test.YtmfejcmhbncchaaGreatDoorSrcW
import Derived.Test.YtmfejcmhbncchaaGreatDoorRefSF
import Derived.Test.YtmfejcmhbncchaaGreatDoorPureZ
namespace Go.Proofs.YtmfejcmhbncchaaGreatDoor
open Go.RowKit

theorem src_neq_same (k : Int) (t s h : ByteArray) (b : Bool) (p : Int) (pa : ByteArray) (W : World) :
    (Go.binOp .neq 24 (.agg #[.int .i64 k, .string t, .string s, .string h, .bool b, .int .i64 p, .string pa]) (.agg #[.int .i64 k, .string t, .string s, .string h, .bool b, .int .i64 p, .string pa])).run Tryz.prog W = .ok (.bool false) W := by
  simp [go_sem]
/-- A row of one's own, when a row in another block has grown. -/
theorem ownsRow_grown {w w' : World} {base : Nat} {e : TypeId} {size : Nat} {v : Value} {n : Nat} {xs : List Value} {ob : Option Nat} (h : w.ownsRow base e size v n xs) (hg : w.grownBy w' ob) (hob : ∀ k, ob = some k → k < base) : w'.ownsRow base e size v n xs := by
  refine ⟨h.1, ?_⟩
  rcases h.2 with h2 | ⟨g, cap, cur, h1, h2, h3, h4⟩
  · exact .inl h2
  · refine .inr ⟨g, cap, cur, h1, h2, ?_, h4⟩
    rw [hg.block g (lt_of_block h3) (fun e => by have := hob g e.symm; omega)]
    exact h3
theorem srcCs_append (a b : List Src) : srcCs (a ++ b) = srcCs a ++ srcCs b := by unfold srcCs; exact List.flatMap_append
theorem oneCell_src (L : List Src) : ∀ u ∈ srcCs L, u.oneCell' = true := by
  intro u hu
  unfold srcCs at hu
  obtain ⟨a, _, hu⟩ := List.mem_flatMap.1 hu
  simp [srcC, strV] at hu
  rcases hu with rfl | rfl | rfl | rfl | rfl | rfl | rfl <;> rfl
theorem nil_appS {w : World} {base : Nat} {v : Value} {n : Nat} {xs : List Value} (hown : w.ownsRow base 24 7 v n xs) (ty : TypeId) (c : Nat) : (Builtin.append_ #[26, 26] ty #[v, .slice none 0 c]).run Tryz.prog w = .ok v w := by
  obtain ⟨i0, hi, hz0, hz1, hz2⟩ := info_parts TinfoSrc
  rcases hown.2 with ⟨rfl, rfl⟩ | ⟨g, cap, cur, rfl, _, _, hnc, _⟩
  · simp [Builtin.append_, run_underlying Tryz.underlying26, sizeOf, typeInfo, hi, Builtin.lenOf, Builtin.firstCells]
  · simp [Builtin.append_, run_underlying Tryz.underlying26, sizeOf, typeInfo, hi, Builtin.lenOf, Builtin.firstCells, hnc, storeCells]
set_option maxRecDepth 100000 in
/-- append(own, x...) of sources. -/
theorem wpList_append_src {w : World} {ops : Array Oper} {rest : List Oper} {o : Oper} {a : Act} {Q : Exit → Act → World → Prop} (hgd : o.guard = none) (s x : Operand)
    (ho : o.op = .call { callee := .builtin .append, args := #[s, x], argTypes := #[26, 26] }) (base : Nat) (v0 : Value) (n : Nat) (xs : List Value)
    (hs : a.eval s = v0) (hown : w.ownsRow base 24 7 v0 n xs) (u : Value) (l : List Src) (hx : a.eval x = u) (hin : SrcsIn w u l)
    (h63 : n + l.length ≤ 1000000) (hbase : base ≤ w.heap.size)
    (h : ∀ v' w', w'.ownsRow base 24 7 v' (n + l.length) (xs ++ srcCs l) → w.grownBy w' v0.ownBlock → wpList Tryz.prog ops Q rest (a.put o.dst v') w') : wpList Tryz.prog ops Q (o :: rest) a w := by
  obtain ⟨i0, hi, hz0, hz1, hz2⟩ := info_parts TinfoSrc
  have via : ∀ (ad : Addr) (c : Nat), u = .slice (some ad) l.length c → (∀ j v, (srcCs l)[j]? = some v → w.cell? (ad.add j) = some v) → wpList Tryz.prog ops Q (o :: rest) a w := fun ad c hu hc => by
    refine wpList_append_own w hgd s x 26 ho base 24 i0 (.agg #[.int .i64 0, .string ⟨#[]⟩, .string ⟨#[]⟩, .string ⟨#[]⟩, .bool false, .int .i64 0, .string ⟨#[]⟩]) 7 88 Tryz.underlying26 hi hz0 hz1 hz2 rfl (by decide) _ n xs hs hown ad l.length c (srcCs l) (by rw [hx, hu]) (srcCs_len l) hc (oneCell_src l) (by unfold maxLen; omega) (by omega) hbase ?_
    intro v' w' h1 h2 _
    exact h v' w' h1 h2
  rcases hin with ⟨⟨a0, c0, rfl⟩, rfl⟩ | ⟨B, off, cap, rfl, hc⟩
  · cases a0 with
    | none =>
      refine wpList_plain hgd fun K hK => ?_
      have hrun := nil_appS hown o.type c0
      unfold Oper.wp execOp
      simp only [ho, resolve, invoke, builtin, Sem.run_bind, Sem.run_pure, Result.andThen_ok, List.map_toArray, List.map_cons, List.map_nil, hs, hx, hrun]
      exact hK _ _ (h _ _ (by simpa [srcCs] using hown) (World.grownBy.refl w _))
    | some ad => exact via ad c0 rfl (fun j v hj => by simp [srcCs] at hj)
  · refine via ⟨B, off, none⟩ cap rfl (fun j v hj => ?_)
    have hl := srcCs_len l
    have hj' : j < l.length * 7 := by rw [← hl]; exact (List.getElem?_eq_some_iff.1 hj).1
    have e : (⟨B, off, none⟩ : Addr).add j = ⟨B, off + j, none⟩ := by unfold Addr.add; split <;> simp_all
    have hd : j / 7 * 7 + j % 7 = j := by omega
    have hi2 : j / 7 < l.length := by omega
    have hat := srcCs_at l (j / 7) (j % 7) hi2 (by omega)
    rw [hd, hj] at hat
    have hcc := hc (j / 7) hi2 (j % 7) v hat.symm
    rw [Nat.add_assoc, hd] at hcc
    rw [e]
    exact hcc

set_option maxRecDepth 100000 in
set_option maxHeartbeats 16000000 in
theorem each_law (A B : List (List UInt8)) (va vb : Value) (w : World) (hw : Low w) (ha : TextsIn w va A) (hb : TextsIn w vb B) (la : A.length ≤ 9223372036854775807) (lb : B.length ≤ 9223372036854775807) : Calls Tryz.prog 6 #[va, vb] w fun e w' => e = .returned (.bool true) ∧ Below w.heap.size w w' := by
  have CA : Hid (Calls Tryz.prog 16 #[va, .int .i64 20, .int .i64 800] w (BigPost 20 800 A w)) := Lib.hid (refBig_any 20 800 (by decide) A va w ha la)
  have CB : Hid (Calls Tryz.prog 16 #[vb, .int .i64 20, .int .i64 800] w (BigPost 20 800 B w)) := Lib.hid (refBig_any 20 800 (by decide) B vb w hb lb)
  have CW := words_hid
  obtain ⟨aa, ca, rfl⟩ := ha.form
  obtain ⟨ab, cb, rfl⟩ := hb.form
  have HA := Lib.hid ha
  have HB := Lib.hid hb
  have HW := Lib.hid hw
  clear ha hb hw la lb
  go_enter Tryz.func6, Tryz.ntmps6
  go_wp2_with fail
  refine CA.out.mono ?_
  unfold BigPost
  rintro e w ⟨ba, rfl, rfl, hsa⟩
  cases ba
  case true =>
    clear hsa CB
    go_wp2
    go_ret
    exact ⟨rfl, Below.refl _ _⟩
  obtain ⟨na, ta⟩ := hsa rfl
  clear hsa CA
  go_wp2_with fail
  refine CB.out.mono ?_
  unfold BigPost
  rintro e w ⟨bb, rfl, rfl, hsb⟩
  cases bb
  case true =>
    clear hsb
    go_wp2
    go_ret
    exact ⟨rfl, Below.refl _ _⟩
  obtain ⟨nb, tb⟩ := hsb rfl
  clear hsb CB
  have CL : Hid (∀ (W : World) (v : Value), Low W → TextsIn W v A → Calls Tryz.prog 17 #[v] W fun e w' => ∃ u, e = .returned u ∧ w'.ownsRow W.heap.size 24 7 u (listS A).length (srcCs (listS A)) ∧ Below W.heap.size W w') := Lib.hid fun W v h1 h2 => listP_any A v (fun l hl => by have := ta l hl; omega) (by omega) W h1 h2
  have CM : Hid (∀ (W : World) (v : Value), Low W → TextsIn W v B → Calls Tryz.prog 17 #[v] W fun e w' => ∃ u, e = .returned u ∧ w'.ownsRow W.heap.size 24 7 u (listS B).length (srcCs (listS B)) ∧ Below W.heap.size W w') := Lib.hid fun W v h1 h2 => listP_any B v (fun l hl => by have := tb l hl; omega) (by omega) W h1 h2
  have CN : Hid (∀ (W : World) (v : Value), Low W → TextsIn W v (A ++ B) → Calls Tryz.prog 17 #[v] W fun e w' => ∃ u, e = .returned u ∧ w'.ownsRow W.heap.size 24 7 u (listS (A ++ B)).length (srcCs (listS (A ++ B))) ∧ Below W.heap.size W w') := Lib.hid fun W v h1 h2 => listP_any (A ++ B) v (fun l hl => by
    rcases List.mem_append.1 hl with hl | hl
    · have := ta l hl; omega
    · have := tb l hl; omega) (by rw [List.length_append]; omega) W h1 h2
  have HEA : Hid (∀ a ∈ listS A, rightS a = true ∧ parseS (wordS a) = some a) := Lib.hid fun a h => listS_each h
  have HLA := listS_length A
  have HLB := listS_length B
  have HAP := Lib.hid (listS_append A B)
  generalize hSA : listS A = SA at CL HEA HLA HAP
  generalize hSB : listS B = SB at CM HLB HAP
  have HT : Hid (∀ a ∈ SA, a.t.length ≤ 100000 ∧ a.s.length ≤ 100000 ∧ a.h.length ≤ 100000 ∧ a.pa.length ≤ 100000) := Lib.hid (fun a h => by
    rw [← hSA] at h
    obtain ⟨l, hl, hp⟩ := List.mem_filterMap.1 h
    have h8 := ta l hl
    rw [parse_O] at hp
    have hc := (Option.filter_eq_some_iff.1 hp).1
    obtain ⟨h1, h2, h3, h4⟩ := cutO_len hc
    exact ⟨by omega, by omega, by omega, by omega⟩)
  clear hSA hSB ta tb
  go_wp2_with fail
  refine (CL.out _ _ HW.out HA.out).mono ?_
  rintro e w1 ⟨u, rfl, hrow, hb1⟩
  obtain ⟨au, cu, rfl⟩ := (SrcsIn.of_row hrow).form
  go_wp2
  go_loopw [6] (fun i wr => ∃ k : Nat, k ≤ SA.length ∧ i = .int .i64 k ∧ wr.ownsRow w.heap.size 24 7 (.slice au SA.length cu) SA.length (srcCs SA) ∧ Below w.heap.size w wr) (fun i _ => SA.length - (intOf i).toNat)
  case atStart => exact ⟨0, Nat.zero_le _, rfl, hrow, hb1⟩
  case round =>
    obtain ⟨k, hk, rfl, hown, hb⟩ := hrel
    clear hrow hb1
    by_cases hlt : k < SA.length
    · obtain ⟨Bu, off, hu, hcell⟩ := (SrcsIn.of_row hown).at hlt
      subst hu
      have hmem := List.getElem_mem hlt
      obtain ⟨hR, hP⟩ := HEA.out _ hmem
      obtain ⟨z1, z2, z3, z4⟩ := HT.out _ hmem
      obtain ⟨t, s, h, pa, hM⟩ := src_of SA[k]
      generalize SA[k] = a at hM hcell hR hP z1 z2 z3 z4
      generalize a.k = K at hM
      generalize a.w = b at hM
      generalize a.p = p at hM
      subst hM
      rw [srcC_M] at hcell
      simp only [srcM, lsize] at z1 z2 z3 z4
      have hsz : (wordS (srcM K t s h b p pa)).length ≤ 10000 := Nat.le_trans (word_len hR) (by decide)
      obtain ⟨T, hT⟩ := text_of (wordS (srcM K t s h b p pa))
      have CP := printL_hid K t s h b p pa z1 z2 z3 z4 true hR T (by rw [if_pos rfl]; exact hT)
      rw [← hT] at hP hsz
      rw [lsize] at hsz
      have CQ := parseS_is T hsz K t s h b p pa hP
      have HQ := src_neq_same K t s h b p pa
      unfold srcV at CP CQ
      have c0 := hcell 0 _ rfl
      have c1 := hcell 1 _ rfl
      have c2 := hcell 2 _ rfl
      have c3 := hcell 3 _ rfl
      have c4 := hcell 4 _ rfl
      have c5 := hcell 5 _ rfl
      have c6 := hcell 6 _ rfl
      rw [Nat.add_zero] at c0
      have hLw : Low wr := HW.out.below hb
      clear hR hT hP hsz z1 z2 z3 z4 hmem
      go_wp2_with fail
      refine (CP.out _ hLw).mono ?_
      rintro e w2 ⟨rfl, b2⟩
      have g2 := hLw.below b2
      go_wp2_with fail
      refine (CQ.out _ g2).mono ?_
      rintro e w3 ⟨rfl, b3⟩
      have x4 := SX.made w3 K t s h b p pa
      have al : Below w3.heap.size w3 (w3.alloc (.cells #[.int .i64 K, .string t, .string s, .string h, .bool b, .int .i64 p, .string pa] 24)) := (Below.refl _ _).alloc (Nat.le_refl _) _
      have B4 : Below wr.heap.size wr (w3.alloc (.cells #[.int .i64 K, .string t, .string s, .string h, .bool b, .int .i64 p, .string pa] 24)) := (b2.trans (b3.mono b2.size)).trans (al.mono (Nat.le_trans b2.size b3.size))
      have e0 := (B4.cell (lt_of_cell c0)).trans c0
      have e1 := (B4.cell (lt_of_cell c1)).trans c1
      have e2 := (B4.cell (lt_of_cell c2)).trans c2
      have e3 := (B4.cell (lt_of_cell c3)).trans c3
      have e4 := (B4.cell (lt_of_cell c4)).trans c4
      have e5 := (B4.cell (lt_of_cell c5)).trans c5
      have e6 := (B4.cell (lt_of_cell c6)).trans c6
      have hown2 := ownsRow_below hown B4
      have hb2 := hb.trans (B4.mono hb.size)
      have d0 := x4.c0
      have d1 := x4.c1
      have d2 := x4.c2
      have d3 := x4.c3
      have d4 := x4.c4
      have d5 := x4.c5
      have d6 := x4.c6
      clear c0 c1 c2 c3 c4 c5 c6 b2 b3 g2 al hown hb hLw hcell B4
      go_wp2
      go_quiet (fail)
      have hown3 := ownsRow_below hown2 (belowN (Below.refl _ (w3.alloc (.cells #[.int .i64 K, .string t, .string s, .string h, .bool b, .int .i64 p, .string pa] 24))) nq)
      have hb3 := belowN hb2 nq
      clear hown2 hb2 e0 e1 e2 e3 e4 e5 e6 d0 d1 d2 d3 d4 d5 d6 x4
      go_wp2
      go_roundw
      case rel => exact ⟨k + 1, by omega, by go_num, hown3, hb3⟩
      case measure => simp [intOf]; omega
    · obtain rfl : k = SA.length := by omega
      have HO := Lib.hid (World.ownsRow_nil wr wr.heap.size 9 1)
      have HAr := Lib.hid (HA.out.below hb)
      have HRow := Lib.hid hown
      have HBel := Lib.hid hb
      have gle : (SA.length : Int) ≤ (A.length : Int) := by omega
      clear hown hb hlt
      go_wp2_with (first
        | (at_builtin; refine wpList_append_in rfl _ _ rfl wr.heap.size _ 0 [] rfl HO.out _ A rfl HAr.out (by omega) (Nat.le_refl _) ?_; intro v1 w5 hown5 hgr5
           have X1 : AsideM (w5.ownsRow wr.heap.size 9 1 v1 (0 + A.length) ([] ++ txtCells A) ∧ Below wr.heap.size wr w5) := ⟨hown5, Below.grown (Below.refl _ _) hgr5 (Nat.le_refl _) (fun k hk => by cases hk)⟩
           clear hown5 hgr5)
        | (at_builtin; refine wpList_append_in rfl _ _ rfl wr.heap.size _ (0 + A.length) ([] ++ txtCells A) rfl X1.out.1 _ B rfl (HB.out.below (HBel.out.trans (X1.out.2.mono HBel.out.size))) (by omega) X1.out.2.size ?_; intro v2 w6 hown6 hgr6
           have X2 : AsideM (w6.ownsRow wr.heap.size 9 1 v2 (0 + A.length + B.length) ([] ++ txtCells A ++ txtCells B) ∧ Below wr.heap.size wr w6) := ⟨hown6, Below.grown X1.out.2 hgr6 X1.out.2.size (fun k hk => (X1.out.1.lt k hk).1)⟩
           clear hown6 hgr6 X1)
        | fail)
      have XR := X2.out
      have hrow6 : w6.ownsRow wr.heap.size 9 1 v2 (A ++ B).length (txtCells (A ++ B)) := by
        have h1 := XR.1
        rw [Nat.zero_add, List.nil_append, ← List.length_append] at h1
        unfold txtCells at h1 ⊢
        rw [List.map_append]; exact h1
      have hb6 := XR.2
      have hw6 := HBel.out.trans (hb6.mono HBel.out.size)
      refine (CM.out _ _ (HW.out.below hw6) (HB.out.below hw6)).mono ?_
      rintro e w7 ⟨u2, rfl, hrow7, hb7⟩
      have hin7 := SrcsIn.of_row hrow7
      have hbr7 := hb6.trans (hb7.mono hb6.size)
      have H7 : AsideM (w7.ownsRow w.heap.size 24 7 (.slice au SA.length cu) SA.length (srcCs SA) ∧ SrcsIn w7 u2 SB ∧ w7.ownsRow wr.heap.size 9 1 v2 (A ++ B).length (txtCells (A ++ B)) ∧ Below wr.heap.size wr w7) := ⟨ownsRow_below HRow.out hbr7, hin7, ownsRow_below hrow6 hb7, hbr7⟩
      clear hrow6 hb6 hw6 hrow7 hb7 hin7 hbr7 XR
      go_wp2_with (first
        | (at_builtin; refine wpList_append_src rfl _ _ rfl w.heap.size _ SA.length (srcCs SA) rfl H7.out.1 _ SB rfl H7.out.2.1 (by omega) (Nat.le_trans HBel.out.size H7.out.2.2.2.size) ?_; intro v3 w8 hown8 hgr8
           have X8 : AsideM (w8.ownsRow w.heap.size 24 7 v3 (SA.length + SB.length) (srcCs SA ++ srcCs SB) ∧ w8.ownsRow wr.heap.size 9 1 v2 (A ++ B).length (txtCells (A ++ B)) ∧ Below w.heap.size w w8) := ⟨hown8, ownsRow_grown H7.out.2.2.1 hgr8 (fun k hk => (HRow.out.lt k hk).2), Below.grown (HBel.out.trans (H7.out.2.2.2.mono HBel.out.size)) hgr8 (Nat.le_trans HBel.out.size H7.out.2.2.2.size) (fun k hk => (H7.out.1.lt k hk).1)⟩
           clear hown8 hgr8)
        | fail)
      obtain ⟨SC, hSC⟩ : ∃ SC, SA ++ SB = SC := ⟨_, rfl⟩
      have HAC : Hid (listS (A ++ B) = SC) := Lib.hid (by rw [← hSC]; exact HAP.out)
      have HSC : Hid (SC.length ≤ 1000000) := Lib.hid (by rw [← hSC, List.length_append]; omega)
      have row8 : w8.ownsRow w.heap.size 24 7 v3 SC.length (srcCs SC) := by
        rw [← hSC, List.length_append, srcCs_append]; exact X8.out.1
      obtain ⟨a8, c8, rfl⟩ := (SrcsIn.of_row row8).form
      clear hSC HAP
      refine (CW.out _ (HW.out.below X8.out.2.2)).mono ?_
      rintro e w9 ⟨rfl, b9⟩
      have hb9 := X8.out.2.2.trans (b9.mono X8.out.2.2.size)
      have G9 : AsideM (w9.ownsRow w.heap.size 24 7 (.slice a8 SC.length c8) SC.length (srcCs SC) ∧ w9.ownsRow wr.heap.size 9 1 v2 (A ++ B).length (txtCells (A ++ B)) ∧ Below w.heap.size w w9) := ⟨ownsRow_below row8 b9, ownsRow_below X8.out.2.1 b9, hb9⟩
      clear row8 b9 hb9 X8 H7
      go_wp2_with fail
      refine (CL.out _ _ (HW.out.below G9.out.2.2) (HA.out.below G9.out.2.2)).mono ?_
      rintro e w10 ⟨u3, rfl, row10, b10⟩
      obtain ⟨a3, c3, rfl⟩ := (SrcsIn.of_row row10).form
      have hb10 := G9.out.2.2.trans (b10.mono G9.out.2.2.size)
      have G10 : AsideM (w10.ownsRow w.heap.size 24 7 (.slice a8 SC.length c8) SC.length (srcCs SC) ∧ w10.ownsRow wr.heap.size 9 1 v2 (A ++ B).length (txtCells (A ++ B)) ∧ Below w.heap.size w w10) := ⟨ownsRow_below G9.out.1 b10, ownsRow_below G9.out.2.1 b10, hb10⟩
      clear row10 b10 hb10 G9
      go_wp2_with fail
      refine (CN.out _ _ (HW.out.below G10.out.2.2) (TextsIn.of_row G10.out.2.1)).mono ?_
      rintro e w11 ⟨u5, rfl, row11, b11⟩
      rw [HAC.out] at row11
      have hb11 := G10.out.2.2.trans (b11.mono G10.out.2.2.size)
      have CS := Lib.hid (refSame9_any SC u5 (.slice a8 SC.length c8) w11 (SrcsIn.of_row row11) (SrcsIn.of_row (ownsRow_below G10.out.1 b11)) HSC.out)
      have G11 := Lib.hid hb11
      clear row11 b11 hb11 G10
      go_wp2_with fail
      refine CS.out.mono ?_
      rintro e w12 ⟨rfl, b12⟩
      have HZ := Lib.hid (G11.out.trans (b12.mono G11.out.size))
      clear b12 G11 CS
      go_wp2
      go_ret
      exact ⟨rfl, HZ.out⟩

end Go.Proofs.YtmfejcmhbncchaaGreatDoor
