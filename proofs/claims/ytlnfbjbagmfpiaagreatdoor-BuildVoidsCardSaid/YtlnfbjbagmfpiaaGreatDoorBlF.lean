/- The law of void elements: nothing is below them, nor below texts; no element is more than thirty deep. -/
import Derived.Test.YtlnfbjbagmfpiaaGreatDoorBlC
set_option maxRecDepth 100000
set_option maxHeartbeats 16000000
namespace Go.Proofs.YtlnfbjbagmfpiaaGreatDoor.Dm
open Go.RowKit
def UpI (D:List Nd)(p:Int)(deep:Nat):Prop:=(p = -1/\deep<=30)\/∃ q m:Nat,p=(q:Int)/\DepP D m q/\deep+m+1<=30
theorem up_start {D:List Nd}{k i:Nat}(h:DepP D k i)(hk:k<=30):UpI D (par D i) 0:=by
 cases k with
 | zero=>exact .inl ⟨h.2,by omega⟩
 | succ m =>
   obtain⟨_,q,hq,hd⟩:=h;exact .inr ⟨q,m,hq,hd,by omega⟩
theorem up_next {D:List Nd}{q m deep:Nat}(h:DepP D m q)(hd:deep+m+1<=30):UpI D (par D q) (deep+1):=by
 cases m with
 | zero=>exact .inl ⟨h.2,by omega⟩
 | succ m =>
   obtain⟨_,q',hq,hd'⟩:=h;exact .inr ⟨q',m,hq,hd',by omega⟩
theorem UpI.le {D:List Nd}{p:Int}{deep:Nat}(h:UpI D p deep):deep<=30:=by
 rcases h with ⟨_,h⟩ | ⟨q,m,_,_,h⟩<;>omega
theorem voids_hid (L:List Tk)(hl:L.length<=9223372036854775807)(ha:∀ t∈L,t.a.length<=9223372036854775807):Hid (∀ W v,Low W->TokIn W v L->Calls Tryz.prog 9 #[v] W fun e w'=>e=.returned (.bool true)/\Below W.heap.size W w'):=Lib.hid fun w v hlow hv=>by
 have CB:=Lib.hid (bigT_any L v w hv hl ha);obtain⟨a,c,rfl⟩:=hv.form
 go_enter Tryz.func9,Tryz.ntmps9
 have HV:=Lib.hid (And.intro hlow hv);clear hlow hv
 go_wp2_with fail
 refine CB.out.mono ?_;rintro e w1 ⟨b,rfl,hw1,hb⟩;subst hw1;have HW:=Lib.hid (Below.refl w1.heap.size w1);clear CB
 cases b with
 | true =>
   go_wp2
   go_ret
   exact⟨rfl,HW.out⟩
 | false =>
   have hfit:=fitL_of (hb rfl);clear hb;have CP:=pageB_hid L (by omega) hfit.2;have hfd:=page_fit hfit.2;have htx:=page_vds (l:=L);obtain⟨⟨E,F,er⟩,hP⟩:∃ P,pageM L=P:=⟨_,rfl⟩;rw[hP]at CP hfd htx;have CBu:=builds_hid;have hEl:=hfd.1;have HFd:=Lib.hid hfd;clear hP hl ha hfit hfd;have K0:=Lib.hid (And.intro (HV.out.1) (And.intro (HV.out.2) ((show Bel w1 w1 from HW.out))))
   go_wp2_with fail
   (refine(CP.out _ _ (TokIn.tks K0.out.2.1)).mono ?_)
   rintro e wK1 ⟨a1,c1,v1,rfl,o1,f1,bK1⟩;obtain⟨fa,fc,rfl⟩:=row_form f1;have alK1:=(Below.refl wK1.heap.size wK1).alloc (Nat.le_refl _) (.cells #[.slice a1 E.length c1] 24);have nbK1:=new_block wK1 (.cells #[.slice a1 E.length c1] 24);have K1:=Lib.hid (And.intro (((K0.out.1).below bK1).below alK1) (And.intro (((K0.out.2.1).below bK1).below alK1) (And.intro (((K0.out.2.2).below bK1).below alK1) ((show VX _ _ a1 c1 E from⟨nbK1,o1.g.below alK1⟩)))));clear K0 bK1 alK1 nbK1;clear o1 f1 CP
   by_cases her:er=0
   case neg =>
    have g1:(er != 0)=true:=by rw[bne_iff_ne];exact her
    go_wp2_with fail
    (refine(CBu.out _ K1.out.1).mono ?_)
    rintro e w3 ⟨rfl,b3⟩;have HF:=Lib.hid ((K1.out.2.2.1).below b3);clear b3
    go_wp2
    go_ret
    exact⟨rfl,HF.out.b⟩
   have HTx:=Lib.hid (htx her);subst her;clear htx;obtain⟨R1,hR1⟩:∃ R1,wK1.heap.size=R1:=⟨_,rfl⟩;obtain⟨w5,hw5⟩:∃ w5,wK1.alloc (.cells #[.slice a1 E.length c1] 24)=w5:=⟨_,rfl⟩;rw[hR1,hw5]at K1
   go_wp2
   replace hR1:=Lib.hid hR1;replace hw5:=Lib.hid hw5
   go_loopw [6] (fun j wr=>∃(i:Nat),j=.int .i64 (i:Int)/\1<=i/\Hid (Low wr/\Bel w1 wr/\VX wr R1 a1 c1 E)) (fun j _=>E.length - (intOf j).toNat)
   case atStart=>exact⟨1,rfl,Nat.le_refl _,Lib.hid ⟨K1.out.1,K1.out.2.2.1,K1.out.2.2.2⟩⟩
   case round =>
    obtain⟨i,rfl,hi1,HJ⟩:=hrel;clear K1;have e0:=HJ.out.2.2.c0
    by_cases hlt:i<E.length
    · have zi:(i:Int)<(E.length:Int):=by omega
      have zi0:(0:Int)<=(i:Int):=by omega
      obtain⟨A0,K0,hd0,-⟩:=HJ.out.2.2.g;obtain⟨Bn,off,rfl,q0,q1,q2,q3,q4,q5,q6,q7⟩:=hd0.node hlt;obtain⟨aa,ac,hA⟩:=(hd0.at' i hlt).form;obtain⟨ka,kc,hK⟩:=(hd0.kd i hlt).form;rw[hA]at q3;rw[hK]at q5;obtain⟨N,hN⟩:=text_of E[i].n;obtain⟨T,hT⟩:=text_of E[i].d;rw[strV_of hN]at q1;rw[strV_of hT]at q2;have al:=(Below.refl wr.heap.size wr).alloc (Nat.le_refl _) (.cells #[.int .i64 E[i].k,.string N,.string T,.slice aa E[i].a.length ac,.int .i64 E[i].p,.slice ka E[i].c.length kc,.bool E[i].b,.bool E[i].s] 39);have nb:=new_block wr (.cells #[.int .i64 E[i].k,.string N,.string T,.slice aa E[i].a.length ac,.int .i64 E[i].p,.slice ka E[i].c.length kc,.bool E[i].b,.bool E[i].s] 39);have hv1:=HTx.out.2.1 i E[i] (by omega) (List.getElem?_eq_getElem hlt);obtain⟨kd,hkd,hdp⟩:=HTx.out.2.2 i hlt;have hup:=up_start hdp hkd;rw[par_some (List.getElem?_eq_getElem hlt)]at hup;obtain⟨b0,hb0⟩:∃ b,voidM E[i].n=b:=⟨_,rfl⟩;have CV:=void_hid N b0 (by rw[hN];exact hb0);have HA:=Lib.hid (And.intro (HJ.out.1.below al) (And.intro (HJ.out.2.1.below al) (And.intro (HJ.out.2.2.below al) nb)));have HU:=Lib.hid hup;generalize hWa:wr.alloc (.cells #[.int .i64 E[i].k,.string N,.string T,.slice aa E[i].a.length ac,.int .i64 E[i].p,.slice ka E[i].c.length kc,.bool E[i].b,.bool E[i].s] 39)=wa at HA;have n0:=cell_of HA.out.2.2.2 0;have n1:=cell_of HA.out.2.2.2 1;have n4:=cell_of HA.out.2.2.2 4;have n5:=cell_of HA.out.2.2.2 5;have e1:=HA.out.2.2.1.c0;have hkl:E[i].c.length<=1000:=(HFd.out.2 _ (List.getElem_mem hlt)).2.2.2.1;clear al nb hd0 hA hK hN hT hdp hup hkd HJ
      have zvoid:¬ (0<E[i].c.length)\/(0<E[i].c.length/\E[i].k=2/\b0=false):=by
       by_cases h:0<E[i].c.length
       · obtain⟨h1,h2⟩:=hv1 (List.length_pos_iff.1 h)
         exact .inr ⟨h,h1,by rw[<- hb0];exact h2⟩
       · exact .inl h
      clear hv1 hb0;generalize E[i].k=xk at *;generalize E[i].p=xp at *;generalize E[i].b=xb at *;generalize E[i].s=xs at *;generalize E[i].a.length=nat at *;generalize E[i].c.length=nkd at *;rcases zvoid with hz | ⟨hz,hk2,hb0⟩
      · have zk:¬ (0:Int)<(nkd:Int):=by omega
        clear hz
        go_wp2
        clear e0 n0 n1 n5 q0 q1 q2 q3 q4 q5 q6 q7;clear hWa
        go_loopw [8,9] (fun dv pv ws=>∃(deep:Nat) (p:Int),dv=.int .i64 (deep:Int)/\pv=.int .i64 p/\Hid (UpI E p deep)/\ws=wa) (fun dv _ _=>31 - (intOf dv).toNat)
        case atStart=>exact⟨0,xp,rfl,rfl,HU,rfl⟩
        case round =>
         obtain⟨deep,p,rfl,rfl,HI,rfl⟩:=hrel;have hdl:=HI.out.le;have zd:(deep:Int)<=300:=by omega
         rcases HI.out with ⟨hp,hle⟩ | ⟨q,m,hp,hdp,hle⟩
         · have z1:¬ ((0:Int)<p):=by omega
           have z2:¬ ((30:Int)<(deep:Int)):=by omega
           clear hp
           go_wp2
           go_roundw
           case rel=>exact⟨i+1,by go_num,by omega,Lib.hid ⟨HA.out.1,HA.out.2.1,HA.out.2.2.1⟩⟩
           case measure=>simp[intOf];omega
         · have hql:=hdp.lt
           by_cases hq0:q=0
           · have z1:¬ ((0:Int)<p):=by omega
             have z2:¬ ((30:Int)<(deep:Int)):=by omega
             clear hp
             go_wp2
             go_roundw
             case rel=>exact⟨i+1,by go_num,by omega,Lib.hid ⟨HA.out.1,HA.out.2.1,HA.out.2.2.1⟩⟩
             case measure=>simp[intOf];omega
           · subst hp
             have z1:(0:Int)<(q:Int):=by omega
             have zq0:(0:Int)<=(q:Int):=by omega
             have zq:(q:Int)<(E.length:Int):=by omega
             obtain⟨A2,K2,hd2,-⟩:=HA.out.2.2.1.g;obtain⟨Bn2,off2,hB,-,-,-,-,y4,-⟩:=hd2.node hql
             cases hB
             have hnx:=up_next hdp hle;rw[par_some (List.getElem?_eq_getElem hql)]at hnx;have HNx:=Lib.hid hnx;generalize E[q].p=yp at *;clear hd2 hnx hdp HI
             go_wp2
             go_roundw
             case rel=>exact⟨deep+1,yp,by go_num,rfl,HNx,by trivial⟩
             case measure=>simp[intOf];omega
      · have zk:(0:Int)<(nkd:Int):=by omega
        subst hk2 hb0;clear hz
        go_wp2_with fail
        (refine(CV.out _).mono ?_)
        rintro e w7 ⟨rfl,hw7⟩;rw[hw7];clear hw7
        go_wp2
        clear e0 n0 n1 n5 q0 q1 q2 q3 q4 q5 q6 q7;clear hWa
        go_loopw [8,9] (fun dv pv ws=>∃(deep:Nat) (p:Int),dv=.int .i64 (deep:Int)/\pv=.int .i64 p/\Hid (UpI E p deep)/\ws=wa) (fun dv _ _=>31 - (intOf dv).toNat)
        case atStart=>exact⟨0,xp,rfl,rfl,HU,rfl⟩
        case round =>
         obtain⟨deep,p,rfl,rfl,HI,rfl⟩:=hrel;have hdl:=HI.out.le;have zd:(deep:Int)<=300:=by omega
         rcases HI.out with ⟨hp,hle⟩ | ⟨q,m,hp,hdp,hle⟩
         · have z1:¬ ((0:Int)<p):=by omega
           have z2:¬ ((30:Int)<(deep:Int)):=by omega
           clear hp
           go_wp2
           go_roundw
           case rel=>exact⟨i+1,by go_num,by omega,Lib.hid ⟨HA.out.1,HA.out.2.1,HA.out.2.2.1⟩⟩
           case measure=>simp[intOf];omega
         · have hql:=hdp.lt
           by_cases hq0:q=0
           · have z1:¬ ((0:Int)<p):=by omega
             have z2:¬ ((30:Int)<(deep:Int)):=by omega
             clear hp
             go_wp2
             go_roundw
             case rel=>exact⟨i+1,by go_num,by omega,Lib.hid ⟨HA.out.1,HA.out.2.1,HA.out.2.2.1⟩⟩
             case measure=>simp[intOf];omega
           · subst hp
             have z1:(0:Int)<(q:Int):=by omega
             have zq0:(0:Int)<=(q:Int):=by omega
             have zq:(q:Int)<(E.length:Int):=by omega
             obtain⟨A2,K2,hd2,-⟩:=HA.out.2.2.1.g;obtain⟨Bn2,off2,hB,-,-,-,-,y4,-⟩:=hd2.node hql
             cases hB
             have hnx:=up_next hdp hle;rw[par_some (List.getElem?_eq_getElem hql)]at hnx;have HNx:=Lib.hid hnx;generalize E[q].p=yp at *;clear hd2 hnx hdp HI
             go_wp2
             go_roundw
             case rel=>exact⟨deep+1,yp,by go_num,rfl,HNx,by trivial⟩
             case measure=>simp[intOf];omega
    · have zi:¬ (i:Int)<(E.length:Int):=by omega
      go_wp2_with fail
      (refine(CBu.out _ HJ.out.1).mono ?_)
      rintro e w6 ⟨rfl,b6⟩;have H6:=Lib.hid (HJ.out.2.1.below b6);clear b6 e0
      go_wp2
      go_ret
      exact⟨rfl,H6.out.b⟩
end Go.Proofs.YtlnfbjbagmfpiaaGreatDoor.Dm
