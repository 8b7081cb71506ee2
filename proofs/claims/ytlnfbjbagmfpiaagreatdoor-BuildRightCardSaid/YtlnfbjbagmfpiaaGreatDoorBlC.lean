/- The law of pages: tokens are just this page. -/
import Derived.Test.YtlnfbjbagmfpiaaGreatDoorBlZA
set_option maxRecDepth 100000
set_option maxHeartbeats 8000000
namespace Go.Proofs.YtlnfbjbagmfpiaaGreatDoor.Dm
open Go.RowKit
theorem fitK_of {t:Tk}(h:Go.Proofs.YtlnfbjbagmfpiaaGreatDoor.FitK t):FitK t:=⟨by have:=h.1;omega,by have:=h.2.1;omega,by have:=h.2.2.1;omega,fun y hy=>by have:=h.2.2.2 y hy;omega⟩
theorem fitL_of {L:List Tk}(h:FitL L):L.length<=100/\∀ t∈L,FitK t:=⟨h.1,fun t ht=>fitK_of (h.2 t ht)⟩
theorem tok_fails_len (p:Bool):∀(l:List Tk) (k:Wk) (i:Nat),(runW p k l i).f.length<=k.f.length+l.length
 | [],k,i=>Nat.le_refl _
 | t :: l,k,i=>by
   rw[runW];split
   · omega
   · have h1:=tok_fails_len p l (tokW p k t i) (i+1)
     have h2:=tok_fails p k t i;rw[List.length_cons];omega
theorem into_fails (d:List Nd)(n:Int)(l:List Tk)(p:Bool):(intoM d n l p).2.1.length<=l.length+1:=by
 rcases into_cases d n l p with h | ⟨m,-,-,-,-,-,he⟩
 · rw[h.2.2];simp
 · rw[he]
   have:=tok_fails_len p l ⟨d,[m],[],0⟩ 0;simp only[List.length_append,List.length_nil]at this ⊢;split<;>simp<;>omega
theorem page_fails (l:List Tk):(pageM l).2.1.length<=l.length+1:=into_fails newM 0 l true
theorem pages_hid (L:List Tk)(hl:L.length<=9223372036854775807)(ha:∀ t∈L,t.a.length<=9223372036854775807)(s:ByteArray):Hid (∀ W v,Low W->TokIn W v L->Calls Tryz.prog 4 #[v,.string s] W fun e w'=>e=.returned (.bool true)/\Below W.heap.size W w'):=Lib.hid fun w v hlow hv=>by
 have CB:=Lib.hid (bigT_any L v w hv hl ha);obtain⟨a,c,rfl⟩:=hv.form
 go_enter Tryz.func4,Tryz.ntmps4
 have HV:=Lib.hid (And.intro hlow hv);clear hlow hv
 go_wp2_with fail
 refine CB.out.mono ?_;rintro e w1 ⟨b,rfl,hw1,hb⟩;subst hw1;have HW:=Lib.hid (Below.refl w1.heap.size w1);clear CB
 cases b with
 | true =>
   go_wp2
   go_ret
   exact⟨rfl,HW.out⟩
 | false =>
   have hfit:=fitL_of (hb rfl);clear hb
   by_cases h3:300<s.size
   · have z3:(300:Int)<(s.size:Int):=by omega
     clear h3
     go_wp2
     go_ret
     exact⟨rfl,HW.out⟩
   have z3:¬ (300:Int)<(s.size:Int):=by omega
   have CP:=pageB_hid L (by omega) hfit.2;have CQ:=page_hid L (by omega) hfit.2;have hfd:=page_fit hfit.2;have hfl:=page_fails L;obtain⟨⟨E,F,er⟩,hP⟩:∃ P,pageM L=P:=⟨_,rfl⟩;rw[hP]at CP CQ hfd hfl;have CS:=gSame hfd;have CF:=failsG_hid F (by simp only at hfl;omega);have CBu:=builds_hid;obtain⟨b0,hb0⟩:∃ b,voidM s.data.toList=b:=⟨_,rfl⟩;have CV:=void_hid s b0 hb0;have CW:=refVoid_hid s b0 hb0;have zer:(er==er)=true:=by simp
   have zb0:(b0==b0)=true:=by simp
   clear hP hb0 h3 hfl hfd hl ha;have K0:=Lib.hid (And.intro (HV.out.1) (And.intro (HV.out.2) ((show Bel w1 w1 from HW.out))))
   go_wp2_with fail
   (refine(CP.out _ _ (TokIn.tks K0.out.2.1)).mono ?_)
   rintro e wK1 ⟨a1,c1,v1,rfl,o1,f1,bK1⟩;obtain⟨fa,fc,rfl⟩:=row_form f1;have alK1:=(Below.refl wK1.heap.size wK1).alloc (Nat.le_refl _) (.cells #[.slice a1 E.length c1] 24);have nbK1:=new_block wK1 (.cells #[.slice a1 E.length c1] 24);have K1:=Lib.hid (And.intro (((K0.out.1).below bK1).below alK1) (And.intro (((K0.out.2.1).below bK1).below alK1) (And.intro (((K0.out.2.2).below bK1).below alK1) (And.intro ((o1.g).below alK1) (And.intro ((FailIn.of f1).below alK1) ((show VX _ _ a1 c1 E from⟨nbK1,o1.g.below alK1⟩)))))));clear K0 bK1 alK1 nbK1;clear o1 f1 CP;have c_V1:=(K1.out.2.2.2.2.2).c0
   go_wp2_with fail
   (refine(CQ.out _ _ (TokIn.tks K1.out.2.1)).mono ?_)
   clear c_V1;rintro e wK2 ⟨sl2,v2,rfl,o2,f2,bK2⟩
   obtain⟨a2,c2,rfl⟩:∃ a2 c2,sl2=.slice a2 E.length c2:=by
    obtain⟨A',K',h⟩:=o2;exact h.form
   obtain⟨ga,gc,rfl⟩:=row_form f2;have alK2:=(Below.refl wK2.heap.size wK2).alloc (Nat.le_refl _) (.cells #[.slice a2 E.length c2] 24);have nbK2:=new_block wK2 (.cells #[.slice a2 E.length c2] 24);have K2:=Lib.hid (And.intro (((K1.out.1).below bK2).below alK2) (And.intro (((K1.out.2.1).below bK2).below alK2) (And.intro (((K1.out.2.2.1).below bK2).below alK2) (And.intro (((K1.out.2.2.2.1).below bK2).below alK2) (And.intro (((K1.out.2.2.2.2.1).below bK2).below alK2) (And.intro (((K1.out.2.2.2.2.2).below bK2).below alK2) (And.intro ((FailIn.of f2).below alK2) ((show VX _ _ a2 c2 E from⟨nbK2,o2.g.below alK2⟩)))))))));clear K1 bK2 alK2 nbK2;clear o2 f2 CQ;have c_V1:=(K2.out.2.2.2.2.2.1).c0;have c_V2:=(K2.out.2.2.2.2.2.2.2).c0
   go_wp2_with fail
   (refine(CBu.out _ K2.out.1).mono ?_)
   clear c_V1 c_V2;rintro e wK3 ⟨rfl,bK3⟩;have K3:=Lib.hid (And.intro ((K2.out.1).below bK3) (And.intro ((K2.out.2.1).below bK3) (And.intro ((K2.out.2.2.1).below bK3) (And.intro ((K2.out.2.2.2.1).below bK3) (And.intro ((K2.out.2.2.2.2.1).below bK3) (And.intro ((K2.out.2.2.2.2.2.1).below bK3) (And.intro ((K2.out.2.2.2.2.2.2.1).below bK3) ((K2.out.2.2.2.2.2.2.2).below bK3))))))));clear K2 bK3;clear CBu;have c_V1:=(K3.out.2.2.2.2.2.1).c0;have c_V2:=(K3.out.2.2.2.2.2.2.2).c0
   go_wp2_with fail
   (refine(CS.out _ _ _ (K3.out.2.2.2.2.2.1).g (K3.out.2.2.2.2.2.2.2).g).mono ?_)
   clear c_V1 c_V2;rintro e wK4 ⟨rfl,bK4⟩;have K4:=Lib.hid (And.intro ((K3.out.1).below bK4) (And.intro ((K3.out.2.1).below bK4) (And.intro ((K3.out.2.2.1).below bK4) (And.intro ((K3.out.2.2.2.1).below bK4) (And.intro ((K3.out.2.2.2.2.1).below bK4) (And.intro ((K3.out.2.2.2.2.2.1).below bK4) (And.intro ((K3.out.2.2.2.2.2.2.1).below bK4) ((K3.out.2.2.2.2.2.2.2).below bK4))))))));clear K3 bK4;clear CS;have c_V1:=(K4.out.2.2.2.2.2.1).c0;have c_V2:=(K4.out.2.2.2.2.2.2.2).c0
   go_wp2_with fail
   (refine(CF.out _ _ _ K4.out.2.2.2.2.1 K4.out.2.2.2.2.2.2.1).mono ?_)
   clear c_V1 c_V2;rintro e wK5 ⟨rfl,bK5⟩;have K5:=Lib.hid (And.intro ((K4.out.1).below bK5) (And.intro ((K4.out.2.1).below bK5) (And.intro ((K4.out.2.2.1).below bK5) (And.intro ((K4.out.2.2.2.1).below bK5) (And.intro ((K4.out.2.2.2.2.1).below bK5) (And.intro ((K4.out.2.2.2.2.2.1).below bK5) (And.intro ((K4.out.2.2.2.2.2.2.1).below bK5) ((K4.out.2.2.2.2.2.2.2).below bK5))))))));clear K4 bK5;clear CF;have c_V1:=(K5.out.2.2.2.2.2.1).c0;have c_V2:=(K5.out.2.2.2.2.2.2.2).c0
   go_wp2_with fail
   (refine(CV.out _).mono ?_)
   clear c_V1 c_V2;rintro e wK6 ⟨rfl,hbK6⟩;rw[hbK6];clear hbK6;clear CV;have c_V1:=(K5.out.2.2.2.2.2.1).c0;have c_V2:=(K5.out.2.2.2.2.2.2.2).c0
   go_wp2_with fail
   (refine(CW.out _).mono ?_)
   clear c_V1 c_V2;rintro e wK7 ⟨rfl,hbK7⟩;rw[hbK7];clear hbK7;clear CW
   go_wp2
   go_ret
   exact⟨rfl,(K5.out.2.2.1).b⟩
end Go.Proofs.YtlnfbjbagmfpiaaGreatDoor.Dm
