/- One policy more lets nothing be that was not let be. -/
import Derived.Test.YthnogdodlhkldaaGreatDoorLawCX
namespace Go.Proofs.YthnogdodlhkldaaGreatDoor
open Go.RowKit

theorem verd_more (ps : List (List D × Bool)) (p : List D × Bool) (r : Rq) : okC (ps ++ [p]) r = (okC ps r && ((oneC p.1 r).1 || p.2)) ∧ (blocksC (ps ++ [p]) r).length = (blocksC ps r).length + (if (oneC p.1 r).1 = true then 0 else 1) ∧ ∀ i, (h : i < (blocksC ps r).length) → ∃ h2 : i < (blocksC (ps ++ [p]) r).length, (blocksC (ps ++ [p]) r)[i] = (blocksC ps r)[i] := by
  refine ⟨ok_more ps p r, ?_, fun i h => ?_⟩
  · rw [blocks_snoc, List.length_append]
    unfold brkC
    split <;> simp
  · have e := blocks_snoc ps p r
    refine ⟨by rw [e, List.length_append]; omega, ?_⟩
    simp only [e]
    exact List.getElem_append_left h

set_option maxRecDepth 100000 in
set_option maxHeartbeats 8000000 in
theorem more_law (ps : List (List D × Bool)) (la : Option Addr) (lc : Nat) (ha : Arg8 ps) (ds : List D) (da : Option Addr) (dc : Nat) (rp : Bool) (ha2 : Arg8 [(ds, rp)]) (rk : Int) (rt : ByteArray) (o : Bool) (s2 h2 : ByteArray) (p : Int) (pa2 q2 : ByteArray) (mv : Bool) (rn : ByteArray) (pr : Bool) (o3 : Bool) (s3 h3 : ByteArray) (p3 : Int) (pa3 q3 : ByteArray) (HV : Hid (FitsP ps → FitsR rt s2 h2 pa2 q2 rn s3 h3 pa3 q3 → (∀ p ∈ [(ds, rp)], SmallP p.1) → ∃ (oka o1 : Bool) (A B : List Brk), (A.length ≤ 1000 ∧ B.length = A.length + (if o1 = true then 0 else 1)) ∧ (∀ i, (h : i < A.length) → ∃ h2 : i < B.length, B[i] = A[i]) ∧ ps.length ≤ 15 ∧ Hid (∀ W pv, Low W → PolsIn W pv ps → Calls Tryz.prog 25 #[pv, reqV rk rt o s2 h2 p pa2 q2 mv rn pr o3 s3 h3 p3 pa3 q3] W fun e w' => ∃ ua uc, e = .returned (.agg #[.bool oka, .slice ua A.length uc]) ∧ BrksIn w' (.slice ua A.length uc) A ∧ Below W.heap.size W w') ∧ Hid (∀ W pv, Low W → PolsIn W pv (ps ++ [(ds, rp)]) → Calls Tryz.prog 25 #[pv, reqV rk rt o s2 h2 p pa2 q2 mv rn pr o3 s3 h3 p3 pa3 q3] W fun e w' => ∃ ua uc, e = .returned (.agg #[.bool (oka && (o1 || rp)), .slice ua B.length uc]) ∧ BrksIn w' (.slice ua B.length uc) B ∧ Below W.heap.size W w') ∧ Hid (∀ W, Low W → DirsIn W (.slice da ds.length dc) ds → Calls Tryz.prog 22 #[polV (.slice da ds.length dc) rp, reqV rk rt o s2 h2 p pa2 q2 mv rn pr o3 s3 h3 p3 pa3 q3] W fun e w' => ∃ N, e = .returned (.tuple #[.bool o1, .string N]) ∧ Below W.heap.size W w'))) (w : World) (hw : Low w) (hp : PolsIn w (.slice la ps.length lc) ps) (hd : DirsIn w (.slice da ds.length dc) ds) : Calls Tryz.prog 6 #[.slice la ps.length lc, polV (.slice da ds.length dc) rp, reqV rk rt o s2 h2 p pa2 q2 mv rn pr o3 s3 h3 p3 pa3 q3] w fun e w' => e = .returned (.bool true) ∧ Below w.heap.size w w' := by
  have AR := chains_hid
  have LG := large12_hid ps (.slice la ps.length lc) ha rk rt o s2 h2 p pa2 q2 mv rn pr o3 s3 h3 p3 pa3 q3
  unfold polV reqV at *
  go_enter Tryz.func6, Tryz.ntmps6
  go_wp2_with fail
  have xn := PX.made w (.slice da ds.length dc) rp
  have xz := RX.made (w.alloc (.cells #[ (.slice da ds.length dc), .bool rp] 24)) rk rt o s2 h2 p pa2 q2 mv rn pr o3 s3 h3 p3 pa3 q3
  have xy := xn.below ((Below.refl _ _).alloc (Nat.le_refl _) (.cells #[.int .i64 rk, .string rt, .bool o, .string s2, .string h2, .int .i64 p, .string pa2, .string q2, .bool mv, .string rn, .bool pr, .bool o3, .string s3, .string h3, .int .i64 p3, .string pa3, .string q3] 42))
  have gB := (hw.made (.cells #[ (.slice da ds.length dc), .bool rp] 24)).made (.cells #[.int .i64 rk, .string rt, .bool o, .string s2, .string h2, .int .i64 p, .string pa2, .string q2, .bool mv, .string rn, .bool pr, .bool o3, .string s3, .string h3, .int .i64 p3, .string pa3, .string q3] 42)
  have pB := (hp.made (.cells #[ (.slice da ds.length dc), .bool rp] 24)).made (.cells #[.int .i64 rk, .string rt, .bool o, .string s2, .string h2, .int .i64 p, .string pa2, .string q2, .bool mv, .string rn, .bool pr, .bool o3, .string s3, .string h3, .int .i64 p3, .string pa3, .string q3] 42)
  have dB := (hd.made (.cells #[ (.slice da ds.length dc), .bool rp] 24)).made (.cells #[.int .i64 rk, .string rt, .bool o, .string s2, .string h2, .int .i64 p, .string pa2, .string q2, .bool mv, .string rn, .bool pr, .bool o3, .string s3, .string h3, .int .i64 p3, .string pa3, .string q3] 42)
  have BB := ((Below.refl w.heap.size w).alloc (Nat.le_refl _) (.cells #[ (.slice da ds.length dc), .bool rp] 24)).alloc (Below.size ((Below.refl w.heap.size w).alloc (Nat.le_refl _) (.cells #[ (.slice da ds.length dc), .bool rp] 24))) (.cells #[.int .i64 rk, .string rt, .bool o, .string s2, .string h2, .int .i64 p, .string pa2, .string q2, .bool mv, .string rn, .bool pr, .bool o3, .string s3, .string h3, .int .i64 p3, .string pa3, .string q3] 42)
  rw [size_alloc] at xz
  clear xn hw hp hd
  generalize hR : w.heap.size = Ra at xy xz BB ⊢
  have HR := Lib.hid hR
  clear hR
  obtain ⟨Rb, hRb⟩ : ∃ Rb, Ra + 1 = Rb := ⟨_, rfl⟩
  rw [hRb] at xz
  try rw [hRb]
  clear hRb
  generalize (w.alloc (.cells #[ (.slice da ds.length dc), .bool rp] 24)).alloc (.cells #[.int .i64 rk, .string rt, .bool o, .string s2, .string h2, .int .i64 p, .string pa2, .string q2, .bool mv, .string rn, .bool pr, .bool o3, .string s3, .string h3, .int .i64 p3, .string pa3, .string q3] 42) = w1 at xy xz gB pB dB BB ⊢
  have xRa_w1 := xy
  have xRb_w1 := xz
  clear xy xz
  refine (LG.out _ pB).mono ?_
  rintro e w2 ⟨b0, rfl, b_, hz⟩
  have gw2 := gB.below b_
  have pw2 := pB.below b_
  have dw2 := dB.below b_
  have Bw2 := BB.trans (b_.mono (Nat.le_of_lt xRa_w1.lt))
  have xRa_w2 := xRa_w1.below b_
  have xRb_w2 := xRb_w1.below b_
  clear b_ gB pB dB BB xRa_w1 xRb_w1
  generalize Value.agg #[.int .i64 rk, .string rt, .bool o, .string s2, .string h2, .int .i64 p, .string pa2, .string q2, .bool mv, .string rn, .bool pr, .bool o3, .string s3, .string h3, .int .i64 p3, .string pa3, .string q3] = rq
  have HZ := Lib.hid hz
  clear hz LG
  cases b0
  case true =>
    have dRa0 := xRa_w2.c0
    have dRa1 := xRa_w2.c1
    go_wp2
    go_ret
    exact ⟨rfl, by rw [HR.out]; exact Bw2⟩
  have dRa0 := xRa_w2.c0
  have dRa1 := xRa_w2.c1
  go_wp2_with fail
  clear dRa0 dRa1
  have al : Below w2.heap.size w2 (w2.alloc (.cells #[.slice da ds.length dc, .bool rp] 24)) := (Below.refl _ _).alloc (Nat.le_refl _) _
  have hin : PolsIn (w2.alloc (.cells #[.slice da ds.length dc, .bool rp] 24)) (.slice (some ⟨w2.heap.size, 0, none⟩) 1 1) [(ds, rp)] := (PX.made w2 (.slice da ds.length dc) rp).row (dw2.below al)
  refine (refBig8_any [(ds, rp)] _ _ hin ha2.1 ha2.2).mono ?_
  rintro e w9 ⟨b1, rfl, rfl, hz⟩
  have HZ2 := Lib.hid hz
  clear hz hin
  have xRa_w9 := xRa_w2.below al
  have xRb_w9 := xRb_w2.below al
  have gw9 := gw2.below al
  have pw9 := pw2.below al
  have dw9 := dw2.below al
  have Bw9 := Bw2.trans (al.mono (Nat.le_of_lt xRa_w2.lt))
  generalize w2.alloc (.cells #[.slice da ds.length dc, .bool rp] 24) = w9 at xRa_w9 xRb_w9 gw9 pw9 dw9 Bw9 ⊢
  clear al xRa_w2 xRb_w2 gw2 pw2 dw2 Bw2
  cases b1
  case true =>
    go_wp2
    go_ret
    exact ⟨rfl, by rw [HR.out]; exact Bw9⟩
  as_aux_lemma =>
    obtain ⟨FP, FR⟩ := HZ.out (by trivial)
    have FQ := HZ2.out (by trivial)
    clear HZ HZ2
    obtain ⟨oka, o1, A, B, hlen, hpre, h17, CA, CB, CO⟩ := HV.out FP FR FQ.2
    clear HV FP FR FQ
    obtain ⟨cs, q1, q2⟩ := pw9.row
    have HQ1 := Lib.hid q1
    have HQ2 := Lib.hid q2
    have HON := Lib.hid (World.ownsRow_nil w9 w9.heap.size 24 2)
    have HG9 := Lib.hid gw9
    have HP9 := Lib.hid pw9
    have HD9 := Lib.hid dw9
    have HXa := Lib.hid xRa_w9
    have HXb := Lib.hid xRb_w9
    have HB9 := Lib.hid (And.intro Bw9 (Nat.le_of_lt xRa_w9.lt))
    have H15 := Lib.hid (And.intro h17 hlen)
    clear q1 q2 gw9 pw9 dw9 xRa_w9 xRb_w9 Bw9
    go_wp2_with (at_builtin; first
      | (refine wpList_append_pol rfl _ _ rfl w9.heap.size _ 0 [] rfl HON.out _ ps.length cs rfl HQ1.out (by have := H15.out.1; omega) (Nat.le_refl _) ?_; intro v10 w10 hown10 hgr10 _
         have b10 : Below w9.heap.size w9 w10 := Below.grown (Below.refl _ _) hgr10 (Nat.le_refl _) (fun k hk => by cases hk)
         rw [Nat.zero_add, List.nil_append] at hown10
         have Y10 : AsideM (w10.ownsRow w9.heap.size 24 2 v10 ps.length cs ∧ Below w9.heap.size w9 w10) := ⟨hown10, b10⟩
         have dRa0 := (HXa.out.below b10).c0
         have dRa1 := (HXa.out.below b10).c1
         have hs10 := b10.size
         clear hown10 hgr10 b10)
      | (refine wpList_append_pol rfl _ _ rfl w9.heap.size _ ps.length _ rfl (Y10.out.1.alloc _) _ 1 [(.slice da ds.length dc), .bool rp] rfl (PolRow.new w10 (.slice da ds.length dc) rp rfl) (by have := H15.out.1; omega) (by rw [World.size_alloc]; omega) ?_; intro v11 w11 hown11 hgr11 _
         have b11 : Below w9.heap.size w9 w11 := Below.grown (Y10.out.2.alloc hs10 (.cells #[.slice da ds.length dc, .bool rp] 24)) hgr11 (by rw [World.size_alloc]; omega) (fun k hk => (Y10.out.1.lt k hk).1)
         have p11 : PolsIn w11 v11 (ps ++ [(ds, rp)]) := PolsIn.of_cells (by rw [List.length_append]; exact hown11) ((HQ2.out.below b11).app (PolCs.one rp (HD9.out.below b11)))
         obtain ⟨va, vc, rfl⟩ : ∃ va vc, v11 = .slice va (ps.length + 1) vc := by
           obtain ⟨va, vc, e_⟩ := p11.form
           exact ⟨va, vc, by rw [e_, List.length_append]; rfl⟩
         have Y11 : AsideM (PolsIn w11 (.slice va (ps.length + 1) vc) (ps ++ [(ds, rp)]) ∧ Below w9.heap.size w9 w11) := ⟨p11, b11⟩
         have XB := HXb.out.below b11
         have dRb0 := XB.c0
         have dRb1 := XB.c1
         have dRb2 := XB.c2
         have dRb3 := XB.c3
         have dRb4 := XB.c4
         have dRb5 := XB.c5
         have dRb6 := XB.c6
         have dRb7 := XB.c7
         have dRb8 := XB.c8
         have dRb9 := XB.c9
         have dRb10 := XB.c10
         have dRb11 := XB.c11
         have dRb12 := XB.c12
         have dRb13 := XB.c13
         have dRb14 := XB.c14
         have dRb15 := XB.c15
         have dRb16 := XB.c16
         clear hown11 hgr11 b11 p11 XB))
    clear dRa0 dRa1 dRb0 dRb1 dRb2 dRb3 dRb4 dRb5 dRb6 dRb7 dRb8 dRb9 dRb10 dRb11 dRb12 dRb13 dRb14 dRb15 dRb16
    obtain ⟨z11, b11⟩ := Y11.out
    have gw11 := HG9.out.below b11
    have pw11 := HP9.out.below b11
    have dw11 := HD9.out.below b11
    have xRa_w11 := HXa.out.below b11
    have xRb_w11 := HXb.out.below b11
    have Bw11 := HB9.out.1.trans (b11.mono HB9.out.2)
    clear Y10 Y11 HG9 HP9 HD9 HXa HXb HB9 HQ1 HQ2 HON b11 hs10
    generalize hqs : ps ++ [(ds, rp)] = qs at z11 CB ⊢
    clear hqs
    refine (CA.out _ _ gw11 pw11).mono ?_
    rintro e w12 ⟨ua, uc, rfl, y_, b_⟩
    have gw12 := gw11.below b_
    have pw12 := pw11.below b_
    have dw12 := dw11.below b_
    have zw12 := z11.below b_
    have Bw12 := Bw11.trans (b_.mono (Nat.le_of_lt xRa_w11.lt))
    have xRa_w12 := xRa_w11.below b_
    have xRb_w12 := xRb_w11.below b_
    clear b_ gw11 pw11 dw11 z11 Bw11 xRa_w11 xRb_w11
    generalize Value.agg #[.int .i64 rk, .string rt, .bool o, .string s2, .string h2, .int .i64 p, .string pa2, .string q2, .bool mv, .string rn, .bool pr, .bool o3, .string s3, .string h3, .int .i64 p3, .string pa3, .string q3] = rq2
    as_aux_lemma =>
      have XARb := xRb_w12.below ((Below.refl w12.heap.size w12).alloc (Nat.le_refl _) (.cells #[.bool oka,  (.slice ua A.length uc)] 50))
      have dRb0 := XARb.c0
      have dRb1 := XARb.c1
      have dRb2 := XARb.c2
      have dRb3 := XARb.c3
      have dRb4 := XARb.c4
      have dRb5 := XARb.c5
      have dRb6 := XARb.c6
      have dRb7 := XARb.c7
      have dRb8 := XARb.c8
      have dRb9 := XARb.c9
      have dRb10 := XARb.c10
      have dRb11 := XARb.c11
      have dRb12 := XARb.c12
      have dRb13 := XARb.c13
      have dRb14 := XARb.c14
      have dRb15 := XARb.c15
      have dRb16 := XARb.c16
      go_wp2_with fail
      clear dRb0 dRb1 dRb2 dRb3 dRb4 dRb5 dRb6 dRb7 dRb8 dRb9 dRb10 dRb11 dRb12 dRb13 dRb14 dRb15 dRb16 XARb
      have xn := VX12.made w12 oka (.slice ua A.length uc)
      have gw13 := gw12.made (.cells #[.bool oka,  (.slice ua A.length uc)] 50)
      have pw13 := pw12.made (.cells #[.bool oka,  (.slice ua A.length uc)] 50)
      have dw13 := dw12.made (.cells #[.bool oka,  (.slice ua A.length uc)] 50)
      have zw13 := zw12.made (.cells #[.bool oka,  (.slice ua A.length uc)] 50)
      have yw13 := y_.made (.cells #[.bool oka,  (.slice ua A.length uc)] 50)
      have Bw13 := Bw12.trans (((Below.refl w12.heap.size w12).alloc (Nat.le_refl _) (.cells #[.bool oka,  (.slice ua A.length uc)] 50)).mono (Nat.le_of_lt xRa_w12.lt))
      have xRa_w13 := xRa_w12.below ((Below.refl w12.heap.size w12).alloc (Nat.le_refl _) (.cells #[.bool oka,  (.slice ua A.length uc)] 50))
      have xRb_w13 := xRb_w12.below ((Below.refl w12.heap.size w12).alloc (Nat.le_refl _) (.cells #[.bool oka,  (.slice ua A.length uc)] 50))
      generalize w12.heap.size = Rc at xn ⊢
      generalize w12.alloc (.cells #[.bool oka,  (.slice ua A.length uc)] 50) = w13 at xn gw13 pw13 dw13 zw13 yw13 Bw13 xRa_w13 xRb_w13 ⊢
      have xRc_w13 := xn
      clear xn gw12 pw12 dw12 zw12 y_ Bw12 xRa_w12 xRb_w12
      refine (CB.out _ _ gw13 zw13).mono ?_
      rintro e w14 ⟨ub, ud, rfl, k_, b_⟩
      have gw14 := gw13.below b_
      have pw14 := pw13.below b_
      have dw14 := dw13.below b_
      have zw14 := zw13.below b_
      have yw14 := yw13.below b_
      have Bw14 := Bw13.trans (b_.mono (Nat.le_of_lt xRa_w13.lt))
      have xRa_w14 := xRa_w13.below b_
      have xRb_w14 := xRb_w13.below b_
      have xRc_w14 := xRc_w13.below b_
      clear b_ gw13 pw13 dw13 zw13 yw13 Bw13 xRa_w13 xRb_w13 xRc_w13
      generalize Value.agg #[.int .i64 rk, .string rt, .bool o, .string s2, .string h2, .int .i64 p, .string pa2, .string q2, .bool mv, .string rn, .bool pr, .bool o3, .string s3, .string h3, .int .i64 p3, .string pa3, .string q3] = rq3
      clear pw14 zw14 CA CB
      obtain ⟨okb, hokb⟩ : ∃ okb, okb = (oka && (o1 || rp)) := ⟨_, rfl⟩
      have HOKB := Lib.hid hokb
      clear hokb
      have HPRE := Lib.hid hpre
      have hl1 : A.length ≤ 1000 := H15.out.2.1
      have hl2 : B.length ≤ 1001 := by have := H15.out.2.2; cases o1 <;> simp at this <;> omega
      have HLB := H15.out.2.2
      clear hpre h17 hlen H15
      have hAB : A.length ≤ B.length := by cases o1 <;> simp at HLB <;> omega
      have hAB2 : B.length ≤ A.length + 1 := by cases o1 <;> simp at HLB <;> omega
      clear HLB
      cases oka
      case' false => cases rp
      case' true =>
        cases rp
        case' false => cases o1
      all_goals
        as_aux_lemma =>
          simp only [Bool.or_true, Bool.or_false, Bool.and_true, Bool.and_false, Bool.false_and] at ⊢
          have g1 : ¬ ((B.length : Int) < (A.length : Int)) := by omega
          have g2 : ¬ ((1 : Int) < (B.length : Int) - (A.length : Int)) := by omega
          have g3 : decide ((B.length : Int) < (A.length : Int)) = false := decide_eq_false g1
          have g4 : decide ((1 : Int) < (B.length : Int) - (A.length : Int)) = false := decide_eq_false g2
          clear hAB2
          obtain ⟨KV, hKV⟩ : ∃ K : Obj → Prop, ∀ x, K x := ⟨fun _ => True, fun _ => trivial⟩
          clear hKV KV
          have AH : ∀ x : Obj, Below w14.heap.size w14 (w14.alloc x) := fun x => (Below.refl _ _).alloc (Nat.le_refl _) x
          have dRc0 := fun x => (xRc_w14.below (AH x)).c0
          have dRc1 := fun x => (xRc_w14.below (AH x)).c1
          have dRa0 := fun x => (xRa_w14.below (AH x)).c0
          have dRa1 := fun x => (xRa_w14.below (AH x)).c1
          go_wp2
          clear dRc0 dRc1 dRa0 dRa1 AH
          first
          | (have hq_ : okb = true := by rw [HOKB.out]; simp
             clear hq_
             have xn := VX12.made w14 true (.slice ub B.length ud)
             have gw15 := gw14.made (.cells #[.bool true,  (.slice ub B.length ud)] 50)
             have dw15 := dw14.made (.cells #[.bool true,  (.slice ub B.length ud)] 50)
             have yw15 := yw14.made (.cells #[.bool true,  (.slice ub B.length ud)] 50)
             have kw15 := k_.made (.cells #[.bool true,  (.slice ub B.length ud)] 50)
             have Bw15 := Bw14.trans (((Below.refl w14.heap.size w14).alloc (Nat.le_refl _) (.cells #[.bool true,  (.slice ub B.length ud)] 50)).mono (Nat.le_of_lt xRa_w14.lt))
             have xRa_w15 := xRa_w14.below ((Below.refl w14.heap.size w14).alloc (Nat.le_refl _) (.cells #[.bool true,  (.slice ub B.length ud)] 50))
             have xRb_w15 := xRb_w14.below ((Below.refl w14.heap.size w14).alloc (Nat.le_refl _) (.cells #[.bool true,  (.slice ub B.length ud)] 50))
             have xRc_w15 := xRc_w14.below ((Below.refl w14.heap.size w14).alloc (Nat.le_refl _) (.cells #[.bool true,  (.slice ub B.length ud)] 50))
             generalize w14.heap.size = Rd at xn ⊢
             generalize w14.alloc (.cells #[.bool true,  (.slice ub B.length ud)] 50) = w15 at xn gw15 dw15 yw15 kw15 Bw15 xRa_w15 xRb_w15 xRc_w15 ⊢
             have xRd_w15 := xn
             clear xn gw14 dw14 yw14 k_ Bw14 xRa_w14 xRb_w14 xRc_w14)
          | (have xn := VX12.made w14 false (.slice ub B.length ud)
             have gw15 := gw14.made (.cells #[.bool false,  (.slice ub B.length ud)] 50)
             have dw15 := dw14.made (.cells #[.bool false,  (.slice ub B.length ud)] 50)
             have yw15 := yw14.made (.cells #[.bool false,  (.slice ub B.length ud)] 50)
             have kw15 := k_.made (.cells #[.bool false,  (.slice ub B.length ud)] 50)
             have Bw15 := Bw14.trans (((Below.refl w14.heap.size w14).alloc (Nat.le_refl _) (.cells #[.bool false,  (.slice ub B.length ud)] 50)).mono (Nat.le_of_lt xRa_w14.lt))
             have xRa_w15 := xRa_w14.below ((Below.refl w14.heap.size w14).alloc (Nat.le_refl _) (.cells #[.bool false,  (.slice ub B.length ud)] 50))
             have xRb_w15 := xRb_w14.below ((Below.refl w14.heap.size w14).alloc (Nat.le_refl _) (.cells #[.bool false,  (.slice ub B.length ud)] 50))
             have xRc_w15 := xRc_w14.below ((Below.refl w14.heap.size w14).alloc (Nat.le_refl _) (.cells #[.bool false,  (.slice ub B.length ud)] 50))
             generalize w14.heap.size = Rd at xn ⊢
             generalize w14.alloc (.cells #[.bool false,  (.slice ub B.length ud)] 50) = w15 at xn gw15 dw15 yw15 kw15 Bw15 xRa_w15 xRb_w15 xRc_w15 ⊢
             have xRd_w15 := xn
             clear xn gw14 dw14 yw14 k_ Bw14 xRa_w14 xRb_w14 xRc_w14)
          have HG := Lib.hid gw15
          have HD := Lib.hid dw15
          have HY := Lib.hid yw15
          have HK := Lib.hid kw15
          have HA := Lib.hid xRa_w15
          have HRB := Lib.hid xRb_w15
          have HC := Lib.hid xRc_w15
          have HDd := Lib.hid xRd_w15
          have HBB := Lib.hid (And.intro Bw15 (Nat.le_of_lt xRa_w15.lt))
          clear gw15 dw15 yw15 kw15 xRa_w15 xRb_w15 xRc_w15 xRd_w15 Bw15 g1 g2 g3 g4
          go_loopw [10] (fun i wr => ∃ k : Nat, k ≤ A.length ∧ i = .int .i64 k ∧ Below w15.heap.size w15 wr) (fun i _ => A.length - (intOf i).toNat)
          case atStart => exact ⟨0, Nat.zero_le _, rfl, Below.refl _ _⟩
          case round =>
            obtain ⟨k, hk, rfl, hb⟩ := hrel
            have dc1 := (HC.out.below hb).c1
            have dd1 := (HDd.out.below hb).c1
            by_cases hlt : k < A.length
            · obtain ⟨h2_, he_⟩ := HPRE.out k hlt
              obtain ⟨B1, off, rfl, c0, c1, c2'⟩ := (HY.out.below hb).at hlt
              obtain ⟨B2', off2, rfl, d0, d1, d2⟩ := (HK.out.below hb).at h2_
              rw [he_] at d0 d1 d2
              generalize A[k].i = I at c0 d0
              generalize A[k].r = r at c2' d2
              unfold strV at c1 d1
              generalize (⟨A[k].n.toArray⟩ : ByteArray) = S at c1 d1
              have Hb := Lib.hid hb
              clear hb he_
              go_wp2
              go_quiet (fail)
              have hb2 := belowN Hb.out nq
              go_wp2
              go_roundw
              case rel => exact ⟨k + 1, by omega, by go_num, hb2⟩
              case measure => simp [intOf]; omega
            obtain rfl : k = A.length := by omega
            have g_ := HG.out.below hb
            have d_ := HD.out.below hb
            have xRa_wr := HA.out.below hb
            have xRb_wr := HRB.out.below hb
            have xRc_wr := HC.out.below hb
            have xRd_wr := HDd.out.below hb
            have B_ := HBB.out.1.trans (hb.mono HBB.out.2)
            clear dc1 dd1 hb HG HD HY HK HA HRB HC HDd HBB
            have dRa0 := xRa_wr.c0
            have dRa1 := xRa_wr.c1
            have dRb0 := xRb_wr.c0
            have dRb1 := xRb_wr.c1
            have dRb2 := xRb_wr.c2
            have dRb3 := xRb_wr.c3
            have dRb4 := xRb_wr.c4
            have dRb5 := xRb_wr.c5
            have dRb6 := xRb_wr.c6
            have dRb7 := xRb_wr.c7
            have dRb8 := xRb_wr.c8
            have dRb9 := xRb_wr.c9
            have dRb10 := xRb_wr.c10
            have dRb11 := xRb_wr.c11
            have dRb12 := xRb_wr.c12
            have dRb13 := xRb_wr.c13
            have dRb14 := xRb_wr.c14
            have dRb15 := xRb_wr.c15
            have dRb16 := xRb_wr.c16
            have dRc0 := xRc_wr.c0
            have dRc1 := xRc_wr.c1
            go_wp2_with fail
            clear dRa0 dRa1 dRb0 dRb1 dRb2 dRb3 dRb4 dRb5 dRb6 dRb7 dRb8 dRb9 dRb10 dRb11 dRb12 dRb13 dRb14 dRb15 dRb16 dRc0 dRc1
            refine (CO.out _ g_ d_).mono ?_
            rintro e w21 ⟨nN, rfl, b_⟩
            have gw21 := g_.below b_
            have dw21 := d_.below b_
            have Bw21 := B_.trans (b_.mono (Nat.le_of_lt xRa_wr.lt))
            have xRa_w21 := xRa_wr.below b_
            have xRb_w21 := xRb_wr.below b_
            have xRc_w21 := xRc_wr.below b_
            have xRd_w21 := xRd_wr.below b_
            clear b_ g_ d_ B_ xRa_wr xRb_wr xRc_wr xRd_wr
            generalize Value.agg #[.int .i64 rk, .string rt, .bool o, .string s2, .string h2, .int .i64 p, .string pa2, .string q2, .bool mv, .string rn, .bool pr, .bool o3, .string s3, .string h3, .int .i64 p3, .string pa3, .string q3] = rq4
            go_wp2_with fail
            refine (AR.out _ gw21).mono ?_
            rintro e w22 ⟨rfl, b_⟩
            have gw22 := gw21.below b_
            have dw22 := dw21.below b_
            have Bw22 := Bw21.trans (b_.mono (Nat.le_of_lt xRa_w21.lt))
            have xRa_w22 := xRa_w21.below b_
            have xRb_w22 := xRb_w21.below b_
            have xRc_w22 := xRc_w21.below b_
            have xRd_w22 := xRd_w21.below b_
            clear b_ gw21 dw21 Bw21 xRa_w21 xRb_w21 xRc_w21 xRd_w21
            have dRa0 := xRa_w22.c0
            have dRa1 := xRa_w22.c1
            have dRc0 := xRc_w22.c0
            have dRc1 := xRc_w22.c1
            have dRd0 := xRd_w22.c0
            have dRd1 := xRd_w22.c1
            go_wp2
            all_goals
              go_ret
              exact ⟨rfl, by rw [HR.out]; exact Bw22⟩
theorem chainMore_law (ps : List (List D × Bool)) (la : Option Addr) (lc : Nat) (ha : Arg8 ps) (ds : List D) (da : Option Addr) (dc : Nat) (rp : Bool) (ha2 : Arg8 [(ds, rp)]) (rk : Int) (rt : ByteArray) (o : Bool) (s2 h2 : ByteArray) (p : Int) (pa2 q2 : ByteArray) (mv : Bool) (rn : ByteArray) (pr : Bool) (o3 : Bool) (s3 h3 : ByteArray) (p3 : Int) (pa3 q3 : ByteArray) (w : World) (hw : Low w) (hp : PolsIn w (.slice la ps.length lc) ps) (hd : DirsIn w (.slice da ds.length dc) ds) : Calls Tryz.prog 6 #[.slice la ps.length lc, polV (.slice da ds.length dc) rp, reqV rk rt o s2 h2 p pa2 q2 mv rn pr o3 s3 h3 p3 pa3 q3] w fun e w' => e = .returned (.bool true) ∧ Below w.heap.size w w' := by
  refine more_law ps la lc ha ds da dc rp ha2 rk rt o s2 h2 p pa2 q2 mv rn pr o3 s3 h3 p3 pa3 q3 (Lib.hid fun hp_ hr_ hq_ => ?_) w hw hp hd
  obtain ⟨z1, _, ⟨c1, c2, c3, c4⟩, ⟨e1, e2, e3, e4⟩⟩ := hr_
  have h15 := hp_.1
  have hf : ∀ p ∈ ps, FitD p.1 := fun p hp => (hp_.2 p hp).fit
  have hfd : FitD ds := (hq_ _ (List.mem_singleton.2 rfl)).fit
  have hf2 : ∀ p ∈ ps ++ [(ds, rp)], FitD p.1 := fun p hp => by
    rcases List.mem_append.1 hp with hp | hp
    · exact hf p hp
    · rw [List.mem_singleton.1 hp]; exact hfd
  obtain ⟨v1, v2, v3⟩ := verd_more ps (ds, rp) (rqM rk rt o s2 h2 p pa2 q2 mv rn pr o3 s3 h3 p3 pa3 q3)
  refine ⟨okC ps (rqM rk rt o s2 h2 p pa2 q2 mv rn pr o3 s3 h3 p3 pa3 q3), (oneC ds (rqM rk rt o s2 h2 p pa2 q2 mv rn pr o3 s3 h3 p3 pa3 q3)).1, blocksC ps (rqM rk rt o s2 h2 p pa2 q2 mv rn pr o3 s3 h3 p3 pa3 q3), blocksC (ps ++ [(ds, rp)]) (rqM rk rt o s2 h2 p pa2 q2 mv rn pr o3 s3 h3 p3 pa3 q3), ⟨Nat.le_trans (blocks_len _ _) (by omega), v2⟩, v3, h15, ?_, ?_, ?_⟩
  · exact chAll_hid ps (by omega) hf rk rt o s2 h2 p pa2 q2 mv rn pr o3 s3 h3 p3 pa3 q3 (by omega) (by omega) (by omega) (by omega) (by omega) (by omega) (by omega) (by omega) (by omega) _ rfl _ rfl
  · exact chAll_hid (ps ++ [(ds, rp)]) (by rw [List.length_append, List.length_singleton]; omega) hf2 rk rt o s2 h2 p pa2 q2 mv rn pr o3 s3 h3 p3 pa3 q3 (by omega) (by omega) (by omega) (by omega) (by omega) (by omega) (by omega) (by omega) (by omega) _ v1 _ rfl
  · refine Lib.hid fun W k1_ k2_ => (chOne_any ds (.slice da ds.length dc) rp rk rt o s2 h2 p pa2 q2 mv rn pr o3 s3 h3 p3 pa3 q3 (by omega) (by omega) (by omega) (by omega) (by omega) (by omega) (by omega) (by omega) (by omega) hfd W k1_ k2_).mono ?_
    rintro e w' ⟨b, N, he, k_, hb_⟩
    rw [k_]
    exact ⟨N, he, hb_⟩

end Go.Proofs.YthnogdodlhkldaaGreatDoor
