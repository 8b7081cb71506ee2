/- Policies that are all reports let each request be. -/
import Derived.Test.YthnogdodlhkldaaGreatDoorLawCX
namespace Go.Proofs.YthnogdodlhkldaaGreatDoor
open Go.RowKit

def asRep (b : Bool) (A : List Brk) : List Brk := A.map fun x => { x with r := b }
theorem asRep_len (b : Bool) (A : List Brk) : (asRep b A).length = A.length := List.length_map _
theorem asRep_at (b : Bool) (A : List Brk) (k : Nat) (h : k < A.length) : ∃ h2 : k < (asRep b A).length, (asRep b A)[k] = ⟨A[k].i, A[k].n, b⟩ := ⟨by rw [asRep_len]; exact h, List.getElem_map _⟩
theorem allRep_take (b : Bool) (ps : List (List D × Bool)) (k : Nat) (h : k < ps.length) : allRep b (ps.take (k + 1)) = allRep b (ps.take k) ++ [(ps[k].1, b)] := by
  rw [List.take_succ_eq_append_getElem h]
  unfold allRep
  rw [List.map_append]
  rfl
theorem allRep_len (b : Bool) (ps : List (List D × Bool)) : (allRep b ps).length = ps.length := List.length_map _
theorem allRep_fit {ps : List (List D × Bool)} (b : Bool) (h : ∀ p ∈ ps, FitD p.1) : ∀ p ∈ allRep b ps, FitD p.1 := fun p hp => by
  obtain ⟨q, hq, rfl⟩ := List.mem_map.1 hp
  exact h q hq
theorem row_grownP {w w' : World} {base n : Nat} {v : Value} {xs : List Value} {ob : Option Nat} (h : w.ownsRow base 24 2 v n xs) (hg : w.grownBy w' ob) (hne : ∀ k, v.ownBlock = some k → ob ≠ some k) : w'.ownsRow base 24 2 v n xs := by
  refine ⟨h.1, ?_⟩
  rcases h.2 with h2 | ⟨g, cap, cur, h1, h2, h3, h4⟩
  · exact .inl h2
  · subst h1
    refine .inr ⟨g, cap, cur, rfl, h2, ?_, h4⟩
    rw [hg.block g (lt_of_block h3) (fun e => hne g rfl e.symm)]
    exact h3
theorem row_setP {w : World} {base n : Nat} {v : Value} {xs : List Value} (h : w.ownsRow base 24 2 v n xs) {R j : Nat} (hne : ∀ k, v.ownBlock = some k → k ≠ R) (u : Value) : (w.setCell ⟨R, j, none⟩ u).ownsRow base 24 2 v n xs := by
  refine ⟨h.1, ?_⟩
  rcases h.2 with h2 | ⟨g, cap, cur, h1, h2, h3, h4⟩
  · exact .inl h2
  · subst h1
    exact .inr ⟨g, cap, cur, rfl, h2, block_set h3 (hne g rfl) u, h4⟩
theorem PX.set1 {w : World} {R : Nat} {v : Value} {r : Bool} (a : PX w R v r) (c : Bool) : PX (w.setCell ⟨R, 1, none⟩ (.bool c)) R v c := heap_setCell_same w R 1 _ _ _ _ a

set_option maxRecDepth 100000 in
set_option maxHeartbeats 8000000 in
theorem reports_law (ps : List (List D × Bool)) (la : Option Addr) (lc : Nat) (ha : Arg8 ps) (rk : Int) (rt : ByteArray) (o : Bool) (s2 h2 : ByteArray) (p : Int) (pa2 q2 : ByteArray) (mv : Bool) (rn : ByteArray) (pr : Bool) (o3 : Bool) (s3 h3 : ByteArray) (p3 : Int) (pa3 q3 : ByteArray) (w : World) (hw : Low w) (hp : PolsIn w (.slice la ps.length lc) ps) : Calls Tryz.prog 8 #[.slice la ps.length lc, reqV rk rt o s2 h2 p pa2 q2 mv rn pr o3 s3 h3 p3 pa3 q3] w fun e w' => e = .returned (.bool true) ∧ Below w.heap.size w w' := by
  have AR := chains_hid
  have LG := large12_hid ps (.slice la ps.length lc) ha rk rt o s2 h2 p pa2 q2 mv rn pr o3 s3 h3 p3 pa3 q3
  have HC : Hid (FitsP ps → FitsR rt s2 h2 pa2 q2 rn s3 h3 pa3 q3 → ∃ (A : List Brk) (okb : Bool), A.length ≤ 1000 ∧ okb = decide (A.length = 0) ∧ ps.length ≤ 15 ∧ (∀ W pv, Low W → PolsIn W pv (allRep true ps) → Calls Tryz.prog 25 #[pv, reqV rk rt o s2 h2 p pa2 q2 mv rn pr o3 s3 h3 p3 pa3 q3] W fun e w' => ∃ ua uc, e = .returned (.agg #[.bool true, .slice ua A.length uc]) ∧ BrksIn w' (.slice ua A.length uc) (asRep true A) ∧ Below W.heap.size W w') ∧ (∀ W pv, Low W → PolsIn W pv (allRep false ps) → Calls Tryz.prog 25 #[pv, reqV rk rt o s2 h2 p pa2 q2 mv rn pr o3 s3 h3 p3 pa3 q3] W fun e w' => ∃ ua uc, e = .returned (.agg #[.bool okb, .slice ua A.length uc]) ∧ BrksIn w' (.slice ua A.length uc) (asRep false A) ∧ Below W.heap.size W w')) := Lib.hid fun hp_ hr_ => by
    obtain ⟨z1, _, ⟨c1, c2, c3, c4⟩, ⟨e1, e2, e3, e4⟩⟩ := hr_
    have hf : ∀ p ∈ ps, FitD p.1 := fun p hp => (hp_.2 p hp).fit
    have h15 := hp_.1
    have k1_ : ∀ b, blocksC (allRep b ps) (rqM rk rt o s2 h2 p pa2 q2 mv rn pr o3 s3 h3 p3 pa3 q3) = asRep b (blocksC ps (rqM rk rt o s2 h2 p pa2 q2 mv rn pr o3 s3 h3 p3 pa3 q3)) := fun b => blocks_rep b ps _
    have k2_ := ok_hard ps (rqM rk rt o s2 h2 p pa2 q2 mv rn pr o3 s3 h3 p3 pa3 q3)
    rw [k1_, asRep_len] at k2_
    refine ⟨blocksC ps (rqM rk rt o s2 h2 p pa2 q2 mv rn pr o3 s3 h3 p3 pa3 q3), decide ((blocksC ps (rqM rk rt o s2 h2 p pa2 q2 mv rn pr o3 s3 h3 p3 pa3 q3)).length = 0), Nat.le_trans (blocks_len _ _) (by omega), rfl, h15, ?_, ?_⟩
    · have h_ := chAll_hid (allRep true ps) (by rw [allRep_len]; omega) (allRep_fit true hf) rk rt o s2 h2 p pa2 q2 mv rn pr o3 s3 h3 p3 pa3 q3 (by omega) (by omega) (by omega) (by omega) (by omega) (by omega) (by omega) (by omega) (by omega) true (ok_soft ps _) _ (k1_ true)
      rw [asRep_len] at h_
      exact h_.out
    · have h_ := chAll_hid (allRep false ps) (by rw [allRep_len]; omega) (allRep_fit false hf) rk rt o s2 h2 p pa2 q2 mv rn pr o3 s3 h3 p3 pa3 q3 (by omega) (by omega) (by omega) (by omega) (by omega) (by omega) (by omega) (by omega) (by omega) _ k2_ _ (k1_ false)
      rw [asRep_len] at h_
      exact h_.out
  unfold reqV at *
  go_enter Tryz.func8, Tryz.ntmps8
  go_wp2_with fail
  have xn := RX.made w rk rt o s2 h2 p pa2 q2 mv rn pr o3 s3 h3 p3 pa3 q3
  have gw1 := hw.made (.cells #[.int .i64 rk, .string rt, .bool o, .string s2, .string h2, .int .i64 p, .string pa2, .string q2, .bool mv, .string rn, .bool pr, .bool o3, .string s3, .string h3, .int .i64 p3, .string pa3, .string q3] 42)
  have pw1 := hp.made (.cells #[.int .i64 rk, .string rt, .bool o, .string s2, .string h2, .int .i64 p, .string pa2, .string q2, .bool mv, .string rn, .bool pr, .bool o3, .string s3, .string h3, .int .i64 p3, .string pa3, .string q3] 42)
  have Bw1 : Below w.heap.size w (w.alloc (.cells #[.int .i64 rk, .string rt, .bool o, .string s2, .string h2, .int .i64 p, .string pa2, .string q2, .bool mv, .string rn, .bool pr, .bool o3, .string s3, .string h3, .int .i64 p3, .string pa3, .string q3] 42)) := ((Below.refl w.heap.size w).alloc (Nat.le_refl _) (.cells #[.int .i64 rk, .string rt, .bool o, .string s2, .string h2, .int .i64 p, .string pa2, .string q2, .bool mv, .string rn, .bool pr, .bool o3, .string s3, .string h3, .int .i64 p3, .string pa3, .string q3] 42))
  generalize hR : w.heap.size = Ra at xn Bw1 ⊢
  have HR := Lib.hid hR
  clear hR
  generalize w.alloc (.cells #[.int .i64 rk, .string rt, .bool o, .string s2, .string h2, .int .i64 p, .string pa2, .string q2, .bool mv, .string rn, .bool pr, .bool o3, .string s3, .string h3, .int .i64 p3, .string pa3, .string q3] 42) = w1 at xn gw1 pw1 Bw1  ⊢
  have xRa_w1 := xn
  clear xn hw hp
  refine (LG.out _ pw1).mono ?_
  rintro e w2 ⟨b0, rfl, b_, hz⟩
  have gw2 := gw1.below b_
  have pw2 := pw1.below b_
  have Bw2 := Bw1.trans (b_.mono (Nat.le_of_lt xRa_w1.lt))
  have xRa_w2 := xRa_w1.below b_
  clear b_ gw1 pw1 Bw1 xRa_w1
  generalize Value.agg #[.int .i64 rk, .string rt, .bool o, .string s2, .string h2, .int .i64 p, .string pa2, .string q2, .bool mv, .string rn, .bool pr, .bool o3, .string s3, .string h3, .int .i64 p3, .string pa3, .string q3] = rq
  have HZ := Lib.hid hz
  clear hz LG
  cases b0
  case true =>
    go_wp2
    go_ret
    exact ⟨rfl, by rw [HR.out]; exact Bw2⟩
  as_aux_lemma =>
    obtain ⟨FP, FR⟩ := HZ.out (by trivial)
    obtain ⟨A, okb, hA, hokb, h15, CA0, CB0⟩ := HC.out FP FR
    have CA := Lib.hid CA0
    have CB := Lib.hid CB0
    have HOKB := Lib.hid hokb
    clear HZ HC CA0 CB0 FP FR hokb
    have HG := Lib.hid gw2
    have HP := Lib.hid pw2
    have HX := Lib.hid xRa_w2
    have HBB := Lib.hid (And.intro Bw2 (Nat.le_of_lt xRa_w2.lt))
    have HON := Lib.hid (World.ownsRow_nil w2 w2.heap.size 24 2)
    clear gw2 pw2 xRa_w2 Bw2
    go_wp2
    go_loopw [5, 6, 7] (fun u v i wr => ∃ (k : Nat) (cS cH : List Value), k ≤ ps.length ∧ i = .int .i64 k ∧ (wr.ownsRow w2.heap.size 24 2 u k cS ∧ wr.ownsRow w2.heap.size 24 2 v k cH ∧ (∀ q, v.ownBlock = some q → u.ownBlock ≠ some q)) ∧ (PolCs w2 (allRep true (ps.take k)) cS ∧ PolCs w2 (allRep false (ps.take k)) cH) ∧ Below w2.heap.size w2 wr) (fun _ _ i _ => ps.length - (intOf i).toNat)
    case atStart => exact ⟨0, [], [], Nat.zero_le _, rfl, ⟨HON.out, HON.out, fun q h_ => by cases h_⟩, ⟨PolCs.nil _, PolCs.nil _⟩, Below.refl _ _⟩
    case round =>
      obtain ⟨k, cS, cH, hk, rfl, ⟨oS, oH, hne⟩, ⟨pS, pH⟩, hb⟩ := hrel
      by_cases hlt : k < ps.length
      · obtain ⟨B, off, du, e_, k1, k2, k3⟩ := HP.out.at hlt
        subst e_
        obtain ⟨ua, uc, rfl⟩ := k3.form
        have kb1 := (hb.cell (lt_of_cell k1)).trans k1
        have kb2 := (hb.cell (lt_of_cell k2)).trans k2
        have HS2 : Hid (PolCs w2 (allRep true (ps.take (k + 1))) (cS ++ [.slice ua ps[k].1.length uc, .bool true])) := Lib.hid (by rw [allRep_take true ps k hlt]; exact pS.app (PolCs.one true k3))
        have HH2 : Hid (PolCs w2 (allRep false (ps.take (k + 1))) (cH ++ [.slice ua ps[k].1.length uc, .bool false])) := Lib.hid (by rw [allRep_take false ps k hlt]; exact pH.app (PolCs.one false k3))
        generalize ps[k].1 = q at kb1 HS2 HH2
        generalize ps[k].2 = rr at kb2
        have hs1 : w2.heap.size ≤ wr.heap.size := hb.size
        have x0 := PX.made wr (.slice ua q.length uc) true
        have x1 := x0
        have oS1 := Lib.hid ((oS.alloc (.cells #[.slice ua q.length uc, .bool true] 24)).alloc (.cells #[.slice ua q.length uc, .bool true] 24))
        have oH1 := Lib.hid ((oH.alloc (.cells #[.slice ua q.length uc, .bool true] 24)).alloc (.cells #[.slice ua q.length uc, .bool true] 24))
        have hb1 := (hb.alloc hs1 (.cells #[.slice ua q.length uc, .bool true] 24)).alloc (by rw [World.size_alloc]; omega) (.cells #[.slice ua q.length uc, .bool true] 24)
        have HB1 := Lib.hid hb1
        have qS : PolRow ((wr.alloc (.cells #[.slice ua q.length uc, .bool true] 24)).alloc (.cells #[.slice ua q.length uc, .bool true] 24)) (.slice (some ⟨wr.heap.size + 1, 0, none⟩) 1 1) 1 [.slice ua q.length uc, .bool true] := by
          have := PolRow.new (wr.alloc (.cells #[.slice ua q.length uc, .bool true] 24)) (.slice ua q.length uc) true rfl
          rwa [World.size_alloc] at this
        have QS := Lib.hid qS
        have x2 := x0.below ((Below.refl _ _).alloc (Nat.le_refl _) (.cells #[.slice ua q.length uc, .bool true] 24))
        have HX2 := Lib.hid x2
        have HSlt := Lib.hid oS.lt
        have HHlt := Lib.hid oH.lt
        have HNE := Lib.hid hne
        clear x0 x1 x2 qS hb1 oS oH pS pH hb k1 k2 k3 hne
        go_wp2_with (at_builtin; first
          | (refine wpList_append_pol rfl _ _ rfl w2.heap.size _ k _ rfl oS1.out _ 1 _ rfl QS.out (by omega) HB1.out.size ?_; intro v5 w5 hown5 hgr5 hat5
             have x5 : PX w5 wr.heap.size (.slice ua q.length uc) true := by
               unfold PX
               rw [hgr5.block _ (lt_of_block HX2.out) (fun e => by have := (HSlt.out _ e.symm).2; omega)]
               exact HX2.out
             have o5 := row_grownP oH1.out hgr5 HNE.out
             have b5 : Below w2.heap.size w2 w5 := Below.grown HB1.out hgr5 HB1.out.size (fun q_ hq => (HSlt.out q_ hq).1)
             have n5 : ∀ q_, v5.ownBlock = some q_ → q_ ≠ wr.heap.size ∧ ∀ z, u6.ownBlock = some z → q_ ≠ z := fun q_ hq => by
               rcases hat5 with h_ | h_
               · rw [h_] at hq
                 exact ⟨by have := (HSlt.out q_ hq).2; omega, fun z hz he => by subst he; exact HNE.out _ hz hq⟩
               · rw [hq, World.size_alloc, World.size_alloc] at h_
                 have := Option.some.inj h_
                 exact ⟨by omega, fun z hz he => by have := (HHlt.out z hz).2; omega⟩
             obtain ⟨a5, c5, rfl⟩ : ∃ a c, v5 = .slice a (k + 1) c := by
               rcases rowForms hown5 with ⟨_, h_⟩ | ⟨g, cap, h_⟩
               · omega
               · exact ⟨_, _, h_⟩
             have d50 := x5.c0
             have d51 := x5.c1
             have f51 := open_of x5 1
             have x6 := x5.set1 false
             have d60 := x6.c0
             have d61 := x6.c1
             have s5 : wr.heap.size < w5.heap.size := x5.lt
             have Y5 : AsideM (w5.ownsRow w2.heap.size 24 2 (.slice a5 (k + 1) c5) (k + 1) _ ∧ w5.ownsRow w2.heap.size 24 2 u6 k cH ∧ Below w2.heap.size w2 w5 ∧ (∀ q_, (Value.slice a5 (k + 1) c5).ownBlock = some q_ → q_ ≠ wr.heap.size ∧ ∀ z, u6.ownBlock = some z → q_ ≠ z)) := ⟨hown5, o5, b5, n5⟩
             clear hown5 hgr5 hat5 x5 x6 o5 b5 n5)
          | (have oH6 := (row_setP (R := wr.heap.size) (j := 1) Y5.out.2.1 (fun q_ hq => by have := (HHlt.out q_ hq).2; omega) (.bool false)).alloc (.cells #[.slice ua q.length uc, .bool false] 24)
             have b6 : Below w2.heap.size w2 ((w5.setCell ⟨wr.heap.size, 1, none⟩ (.bool false)).alloc (.cells #[.slice ua q.length uc, .bool false] 24)) := (Y5.out.2.2.1.setCell (p := ⟨wr.heap.size, 1, none⟩) hs1 _).alloc (by rw [World.size_setCell]; omega) _
             have qH : PolRow ((w5.setCell ⟨wr.heap.size, 1, none⟩ (.bool false)).alloc (.cells #[.slice ua q.length uc, .bool false] 24)) (.slice (some ⟨w5.heap.size, 0, none⟩) 1 1) 1 [.slice ua q.length uc, .bool false] := by
               have := PolRow.new (w5.setCell ⟨wr.heap.size, 1, none⟩ (.bool false)) (.slice ua q.length uc) false rfl
               rwa [World.size_setCell] at this
             refine wpList_append_pol rfl _ _ rfl w2.heap.size _ k _ rfl oH6 _ 1 _ rfl qH (by omega) b6.size ?_; intro v7 w7 hown7 hgr7 hat7
             have hs7 : ((w5.setCell ⟨wr.heap.size, 1, none⟩ (.bool false)).alloc (.cells #[.slice ua q.length uc, .bool false] 24)).heap.size = w5.heap.size + 1 := by rw [World.size_alloc, World.size_setCell]
             have o7 : w7.ownsRow w2.heap.size 24 2 (.slice a5 (k + 1) c5) (k + 1) _ := row_grownP ((row_setP (R := wr.heap.size) (j := 1) Y5.out.1 (fun q_ hq => (Y5.out.2.2.2 q_ hq).1) (.bool false)).alloc (.cells #[.slice ua q.length uc, .bool false] 24)) hgr7 (fun q_ hq he => (Y5.out.2.2.2 q_ hq).2 q_ he rfl)
             have b7 : Below w2.heap.size w2 w7 := Below.grown b6 hgr7 b6.size (fun q_ hq => (HHlt.out q_ hq).1)
             have n7 : ∀ q_, v7.ownBlock = some q_ → (Value.slice a5 (k + 1) c5).ownBlock ≠ some q_ := fun q_ hq he => by
               rcases hat7 with h_ | h_
               · rw [h_] at hq
                 exact (Y5.out.2.2.2 q_ he).2 q_ hq rfl
               · rw [hq, hs7] at h_
                 have h1_ := Option.some.inj h_
                 have := (Y5.out.1.lt q_ he).2
                 omega
             have Y7 : AsideM (w7.ownsRow w2.heap.size 24 2 (.slice a5 (k + 1) c5) (k + 1) _ ∧ w7.ownsRow w2.heap.size 24 2 v7 (k + 1) _ ∧ (∀ q_, v7.ownBlock = some q_ → (Value.slice a5 (k + 1) c5).ownBlock ≠ some q_) ∧ Below w2.heap.size w2 w7) := ⟨o7, hown7, n7, b7⟩
             clear oH6 qH b6 hown7 hgr7 hat7 hs7 o7 b7 n7))
        obtain ⟨y1, y2, y3, y4⟩ := Y7.out
        go_roundw
        case rel => exact ⟨k + 1, _, _, by omega, by go_num, ⟨y1, y2, y3⟩, ⟨HS2.out, HH2.out⟩, y4⟩
        case measure => simp [intOf]; omega
      obtain rfl : k = ps.length := by omega
      rw [List.take_length] at pS pH
      have s_ : PolsIn wr u5 (allRep true ps) := PolsIn.of_cells (by rw [allRep_len]; exact oS) (pS.below hb)
      have h_ : PolsIn wr u6 (allRep false ps) := PolsIn.of_cells (by rw [allRep_len]; exact oH) (pH.below hb)
      obtain ⟨sa, sc, rfl⟩ : ∃ a c, u5 = .slice a ps.length c := by
        obtain ⟨a, c, e_⟩ := s_.form
        exact ⟨a, c, by rw [e_, allRep_len]⟩
      obtain ⟨ta, tc, rfl⟩ : ∃ a c, u6 = .slice a ps.length c := by
        obtain ⟨a, c, e_⟩ := h_.form
        exact ⟨a, c, by rw [e_, allRep_len]⟩
      have g_ := HG.out.below hb
      have xRa_wr := HX.out.below hb
      have B_ := HBB.out.1.trans (hb.mono HBB.out.2)
      clear oS oH pS pH hne hb HG HP HX HBB HON
      have dRa0 := xRa_wr.c0
      have dRa1 := xRa_wr.c1
      have dRa2 := xRa_wr.c2
      have dRa3 := xRa_wr.c3
      have dRa4 := xRa_wr.c4
      have dRa5 := xRa_wr.c5
      have dRa6 := xRa_wr.c6
      have dRa7 := xRa_wr.c7
      have dRa8 := xRa_wr.c8
      have dRa9 := xRa_wr.c9
      have dRa10 := xRa_wr.c10
      have dRa11 := xRa_wr.c11
      have dRa12 := xRa_wr.c12
      have dRa13 := xRa_wr.c13
      have dRa14 := xRa_wr.c14
      have dRa15 := xRa_wr.c15
      have dRa16 := xRa_wr.c16
      go_wp2_with fail
      clear dRa0 dRa1 dRa2 dRa3 dRa4 dRa5 dRa6 dRa7 dRa8 dRa9 dRa10 dRa11 dRa12 dRa13 dRa14 dRa15 dRa16
      refine (CA.out _ _ g_ s_).mono ?_
      rintro e w41 ⟨ua, uc, rfl, y_, b_⟩
      have gw41 := g_.below b_
      have sw41 := s_.below b_
      have hw41 := h_.below b_
      have Bw41 := B_.trans (b_.mono (Nat.le_of_lt xRa_wr.lt))
      have xRa_w41 := xRa_wr.below b_
      clear b_ g_ s_ h_ B_ xRa_wr
      generalize Value.agg #[.int .i64 rk, .string rt, .bool o, .string s2, .string h2, .int .i64 p, .string pa2, .string q2, .bool mv, .string rn, .bool pr, .bool o3, .string s3, .string h3, .int .i64 p3, .string pa3, .string q3] = rq2
      clear CA sw41
      as_aux_lemma =>
        have XARa := xRa_w41.below ((Below.refl w41.heap.size w41).alloc (Nat.le_refl _) (.cells #[.bool true,  (.slice ua A.length uc)] 50))
        have dRa0 := XARa.c0
        have dRa1 := XARa.c1
        have dRa2 := XARa.c2
        have dRa3 := XARa.c3
        have dRa4 := XARa.c4
        have dRa5 := XARa.c5
        have dRa6 := XARa.c6
        have dRa7 := XARa.c7
        have dRa8 := XARa.c8
        have dRa9 := XARa.c9
        have dRa10 := XARa.c10
        have dRa11 := XARa.c11
        have dRa12 := XARa.c12
        have dRa13 := XARa.c13
        have dRa14 := XARa.c14
        have dRa15 := XARa.c15
        have dRa16 := XARa.c16
        go_wp2_with fail
        clear dRa0 dRa1 dRa2 dRa3 dRa4 dRa5 dRa6 dRa7 dRa8 dRa9 dRa10 dRa11 dRa12 dRa13 dRa14 dRa15 dRa16 XARa
        have xn := VX12.made w41 true (.slice ua A.length uc)
        have gw42 := gw41.made (.cells #[.bool true,  (.slice ua A.length uc)] 50)
        have hw42 := hw41.made (.cells #[.bool true,  (.slice ua A.length uc)] 50)
        have yw42 := y_.made (.cells #[.bool true,  (.slice ua A.length uc)] 50)
        have Bw42 := Bw41.trans (((Below.refl w41.heap.size w41).alloc (Nat.le_refl _) (.cells #[.bool true,  (.slice ua A.length uc)] 50)).mono (Nat.le_of_lt xRa_w41.lt))
        have xRa_w42 := xRa_w41.below ((Below.refl w41.heap.size w41).alloc (Nat.le_refl _) (.cells #[.bool true,  (.slice ua A.length uc)] 50))
        generalize w41.heap.size = Rc at xn ⊢
        generalize w41.alloc (.cells #[.bool true,  (.slice ua A.length uc)] 50) = w42 at xn gw42 hw42 yw42 Bw42 xRa_w42 ⊢
        have xRc_w42 := xn
        clear xn gw41 hw41 y_ Bw41 xRa_w41
        refine (CB.out _ _ gw42 hw42).mono ?_
        rintro e w43 ⟨ub, ud, rfl, k_, b_⟩
        have gw43 := gw42.below b_
        have hw43 := hw42.below b_
        have yw43 := yw42.below b_
        have Bw43 := Bw42.trans (b_.mono (Nat.le_of_lt xRa_w42.lt))
        have xRa_w43 := xRa_w42.below b_
        have xRc_w43 := xRc_w42.below b_
        clear b_ gw42 hw42 yw42 Bw42 xRa_w42 xRc_w42
        generalize Value.agg #[.int .i64 rk, .string rt, .bool o, .string s2, .string h2, .int .i64 p, .string pa2, .string q2, .bool mv, .string rn, .bool pr, .bool o3, .string s3, .string h3, .int .i64 p3, .string pa3, .string q3] = rq3
        clear CB hw43
        as_aux_lemma =>
          have gz : (((A.length : Nat) : Int) == 0) = okb := by
            rw [HOKB.out, Bool.eq_iff_iff, beq_iff_eq, decide_eq_true_eq]
            omega
          have gn : (((A.length : Nat) : Int) != ((A.length : Nat) : Int)) = false := by simp
          have go : (okb != okb) = false := by simp
          have AH : ∀ x : Obj, Below w43.heap.size w43 (w43.alloc x) := fun x => (Below.refl _ _).alloc (Nat.le_refl _) x
          have dRc0 := fun x => (xRc_w43.below (AH x)).c0
          have dRc1 := fun x => (xRc_w43.below (AH x)).c1
          go_wp2
          clear dRc0 dRc1 AH gz gn go
          have xn := VX12.made w43 okb (.slice ub A.length ud)
          have gw44 := gw43.made (.cells #[.bool okb,  (.slice ub A.length ud)] 50)
          have yw44 := yw43.made (.cells #[.bool okb,  (.slice ub A.length ud)] 50)
          have kw44 := k_.made (.cells #[.bool okb,  (.slice ub A.length ud)] 50)
          have Bw44 := Bw43.trans (((Below.refl w43.heap.size w43).alloc (Nat.le_refl _) (.cells #[.bool okb,  (.slice ub A.length ud)] 50)).mono (Nat.le_of_lt xRa_w43.lt))
          have xRa_w44 := xRa_w43.below ((Below.refl w43.heap.size w43).alloc (Nat.le_refl _) (.cells #[.bool okb,  (.slice ub A.length ud)] 50))
          have xRc_w44 := xRc_w43.below ((Below.refl w43.heap.size w43).alloc (Nat.le_refl _) (.cells #[.bool okb,  (.slice ub A.length ud)] 50))
          generalize w43.heap.size = Rd at xn ⊢
          generalize w43.alloc (.cells #[.bool okb,  (.slice ub A.length ud)] 50) = w44 at xn gw44 yw44 kw44 Bw44 xRa_w44 xRc_w44 ⊢
          have xRd_w44 := xn
          clear xn gw43 yw43 k_ Bw43 xRa_w43 xRc_w43
          have HL := Lib.hid (And.intro gw44 (And.intro yw44 (And.intro kw44 (And.intro xRc_w44 (And.intro xRd_w44 (And.intro Bw44 (Nat.le_of_lt xRa_w44.lt)))))))
          clear gw44 yw44 kw44 xRa_w44 xRc_w44 xRd_w44 Bw44
          go_loopw [11] (fun i wr => ∃ k : Nat, k ≤ A.length ∧ i = .int .i64 k ∧ Below w44.heap.size w44 wr) (fun i _ => A.length - (intOf i).toNat)
          case atStart => exact ⟨0, Nat.zero_le _, rfl, Below.refl _ _⟩
          case round =>
            obtain ⟨k, hk, rfl, hb⟩ := hrel
            obtain ⟨g_, y_, k_, xc_, xd_, B_, hl_⟩ := HL.out
            have dc1 := (xc_.below hb).c1
            have dd1 := (xd_.below hb).c1
            by_cases hlt : k < A.length
            · obtain ⟨h2_, he_⟩ := asRep_at true A k hlt
              obtain ⟨h3_, hf_⟩ := asRep_at false A k hlt
              obtain ⟨B1, off, rfl, c0, c1, c2'⟩ := (y_.below hb).at h2_
              obtain ⟨B2', off2, rfl, d0, d1, d2⟩ := (k_.below hb).at h3_
              rw [he_] at c0 c1 c2'
              rw [hf_] at d0 d1 d2
              dsimp only at c0 c1 c2' d0 d1 d2
              generalize A[k].i = I at c0 d0
              unfold strV at c1 d1
              generalize (⟨A[k].n.toArray⟩ : ByteArray) = S at c1 d1
              have Hb := Lib.hid hb
              have gI : (((I : Nat) : Int) != ((I : Nat) : Int)) = false := by simp
              clear hb he_ hf_ g_ y_ k_ xc_ xd_ B_ hl_
              go_wp2
              go_quiet (fail)
              have hb2 := belowN Hb.out nq
              go_wp2
              go_roundw
              case rel => exact ⟨k + 1, by omega, by go_num, hb2⟩
              case measure => simp [intOf]; omega
            obtain rfl : k = A.length := by omega
            have g2 := g_.below hb
            have B2 := B_.trans (hb.mono hl_)
            have hsz_ := Nat.le_trans hl_ hb.size
            clear HL hb g_ y_ k_ xc_ xd_ B_ hl_
            go_wp2_with fail
            clear dc1 dd1
            refine (AR.out _ g2).mono ?_
            rintro e w99 ⟨rfl, b_⟩
            have B99 := B2.trans (b_.mono hsz_)
            clear b_ B2 g2
            go_wp2
            go_ret
            exact ⟨rfl, by rw [HR.out]; exact B99⟩

end Go.Proofs.YthnogdodlhkldaaGreatDoor
