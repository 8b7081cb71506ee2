/- The law of prints: a node has just this text. -/
import Derived.Test.YtlnfbjbagmfpiaaGreatDoorBlZA
set_option maxRecDepth 100000
set_option maxHeartbeats 8000000
namespace Go.Proofs.YtlnfbjbagmfpiaaGreatDoor.Dm
open Go.RowKit
theorem print_same (D:List Nd)(n:Int):printM2 D n=printR D n:=by
 unfold printM2 printR thereM
 by_cases h:checkM D=0/\0<=n/\n<(D.length:Int)
 · rw[if_pos h,if_pos (by simp[h.1,h.2.1,h.2.2])]
 · rw[if_neg h,if_neg (fun h2=>h (by simp only[Bool.and_eq_true,decide_eq_true_eq]at h2;exact⟨h2.2,h2.1.1,h2.1.2⟩))]
theorem wAd_le:∀(A:List (List UInt8 × List UInt8)),(∀ y∈A,y.1.length<=300/\y.2.length<=2000)->wAd A<=2305 * A.length
 | [],_=>Nat.le_refl _
 | y :: A,h=>by
   have h1:=wAd_le A fun z hz=>h z (List.mem_cons_of_mem _ hz);have h2:=h y (List.mem_cons_self ..);unfold wAd at h1 ⊢;rw[List.map_cons,List.sum_cons,List.length_cons];omega
theorem FitT.pr {D:List Nd}(h:FitT D):PrD D:=fun x hx=>by
 have h1:=h.2 x hx;have h2:=wAd_le x.a h1.2.2.2.2;have h3:=h1.2.2.1;omega
theorem prints_hid (D:List Nd)(hl:D.length<=9223372036854775807)(hk:∀ x∈D,x.a.length<=9223372036854775807/\x.c.length<=9223372036854775807)(n:Int):Hid (∀ W sl,Low W->DocG W sl D->Calls Tryz.prog 5 #[.agg #[sl],.int .i64 n] W fun e w'=>e=.returned (.bool true)/\Below W.heap.size W w'):=Lib.hid fun w sl hlow hd=>by
 have CB:=gBig hl hk;obtain⟨a,c,rfl⟩:=hd.form;have al:=(Below.refl w.heap.size w).alloc (Nat.le_refl _) (.cells #[.slice a D.length c] 24);have nb:=new_block w (.cells #[.slice a D.length c] 24);have K0:=Lib.hid (And.intro (hlow.below al) (And.intro (show VX _ _ a c D from⟨nb,hd.below al⟩) (show Bel w _ from al)));clear hlow hd al nb hl hk
 go_enter Tryz.func5,Tryz.ntmps5
 have c_V1:=(K0.out.2.1).c0
 go_wp2_with fail
 (refine(CB.out _ _ (K0.out.2.1).g).mono ?_)
 clear c_V1;rintro e wK1 ⟨b,rfl,hb,bK1⟩;have K1:=Lib.hid (And.intro ((K0.out.1).below bK1) (And.intro ((K0.out.2.1).below bK1) ((K0.out.2.2).below bK1)));clear K0 bK1;clear CB
 cases b with
 | true =>
   go_wp2
   go_ret
   exact⟨rfl,(K1.out.2.2).b⟩
 | false =>
   have hT:=hb rfl;clear hb;have hf:=hT.fit;have CO:=gOwn hf;have CBu:=builds_hid;have CP:=printB_hid D hf hT.pr n;have CQ:=refPrint2_hid encC prC D hf hT.pr n;rw[print_same]at CQ;have CS:=gSame hf;obtain⟨T,hTt⟩:=text_of (printR D n);rw[strV_of hTt]at CP CQ;have zT:(T.toList==T.toList)=true:=by simp
   clear hT hf hTt;have c_V1:=(K1.out.2.1).c0
   go_wp2_with fail
   (refine(CO.out _ _ (K1.out.2.1).g).mono ?_)
   clear c_V1;rintro e wK2 ⟨a2,c2,rfl,o2,bK2⟩;have alK2:=(Below.refl wK2.heap.size wK2).alloc (Nat.le_refl _) (.cells #[.slice a2 D.length c2] 24);have nbK2:=new_block wK2 (.cells #[.slice a2 D.length c2] 24);have K2:=Lib.hid (And.intro (((K1.out.1).below bK2).below alK2) (And.intro (((K1.out.2.1).below bK2).below alK2) (And.intro (((K1.out.2.2).below bK2).below alK2) ((show VX _ _ a2 c2 D from⟨nbK2,o2.g.below alK2⟩)))));clear K1 bK2 alK2 nbK2;clear o2 CO;obtain⟨R1,hR1⟩:∃ R1,w.heap.size=R1:=⟨_,rfl⟩;obtain⟨R2,hR2⟩:∃ R2,wK2.heap.size=R2:=⟨_,rfl⟩;rw[hR1,hR2]at K2;obtain⟨w5,hw5⟩:∃ w5,wK2.alloc (.cells #[.slice a2 D.length c2] 24)=w5:=⟨_,rfl⟩;rw[hw5]at K2
   go_wp2_with fail
   replace hR1:=Lib.hid hR1;replace hR2:=Lib.hid hR2;replace hw5:=Lib.hid hw5;obtain⟨C,hC⟩:∃ C:World->Prop,∀ w',C w'↔(Low w'/\VX w' R1 a c D/\Bel w w'/\VX w' R2 a2 c2 D):=⟨_,fun _=>Iff.rfl⟩;have HC:=Lib.hid hC;clear hC;have hC0:C w5.drew:=(HC.out _).2 ⟨K2.out.1.below (Below.refl _ _).drew,K2.out.2.1.below (Below.refl _ _).drew,K2.out.2.2.1.below (Below.refl _ _).drew,K2.out.2.2.2.below (Below.refl _ _).drew⟩
   have HK:Hid (∀ w',C w'->∀ w7,Below w'.heap.size w' w7->C w7):=Lib.hid fun w' hc w7 b=>by
    obtain⟨q1,q2,q3,q4⟩:=(HC.out w').1 hc;exact(HC.out _).2 ⟨q1.below b,q2.below b,q3.below b,q4.below b⟩
   clear K2;refine region_class C (by kernel_rfl) (by kernel_rfl) hC0 ?_;clear hC0
   repeat
    first
     | go_big_quiet_skip
     | (go_big_quiet_want;go_big_quiet_op;go_big_quiet_on)
     | (refine BigFrame.wpQuiet_want rfl (fun K hK => ?_)
        apply Exists.intro
        refine⟨fun w' hc => ?_,hK _ ?_⟩
        · obtain⟨q1,q2,q3,q4⟩:=(HC.out w').1 hc
          have dd:=q2.c0;have du:=q4.c0;unfold Oper.quietAt
          go_simp
          first
           | done
           | rfl
           | ((with_reducible refine(CBu.out w' q1).mono ?_);rintro e w7 ⟨rfl,b7⟩;exact⟨rfl,HK.out w' hc w7 b7⟩)
           | ((with_reducible refine(CP.out w' _ q1 q2.g).mono ?_);rintro e w7 ⟨rfl,b7⟩;exact⟨rfl,HK.out w' hc w7 b7⟩)
           | (obtain⟨A4,K4,g4,-⟩:=q4.g;(with_reducible refine(CQ.out w' _ A4 K4 g4).mono ?_);rintro e w7 ⟨rfl,b7⟩;exact⟨rfl,HK.out w' hc w7 b7⟩)
           | ((with_reducible refine(CS.out w' _ _ q2.g q4.g).mono ?_);rintro e w7 ⟨rfl,b7⟩;exact⟨rfl,HK.out w' hc w7 b7⟩)
        clear hK K
        simp only[Act.put,List.setIfInBounds_toArray,List.set_cons_zero,List.set_cons_succ])
   refine wpQuiet_nil ?_;intro w6 hc;obtain⟨q1,q2,q3,q4⟩:=(HC.out w6).1 hc;clear hc HC HK
   go_wp2
   go_ret
   exact⟨rfl,q3.b⟩
end Go.Proofs.YtlnfbjbagmfpiaaGreatDoor.Dm
