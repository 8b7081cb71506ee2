/- The law of Into: tokens are laid into a node just so; what comes in stays, what comes out is new. -/
import Derived.Test.YtlnfbjbagmfpiaaGreatDoorBlC
set_option maxRecDepth 100000
set_option maxHeartbeats 16000000
namespace Go.Proofs.YtlnfbjbagmfpiaaGreatDoor.Dm
open Go.RowKit
theorem into_fit {d:List Nd}(hd:FitD d)(n:Int){l:List Tk}(ht:∀ t∈l,FitK t)(p:Bool):FitD (intoM d n l p).1:=by
 by_cases h:(intoM d n l p).2.2=0
 · obtain⟨m,-,-,hR,-⟩:=into_right h
   refine hR.fit ?_
   exact into_all (P:=TxtN) (fun x q ks h=>h) (fun y hy=>by
    have:=hd.2 y hy;exact⟨this.1,this.2.1,this.2.2.1,this.2.2.2.2⟩) (fun t hm=>by
    have h1:=ht t hm;unfold nodeK;split
    · have:=h1.text;exact⟨this.1,this.2.1,this.2.2.1,this.2.2.2.2⟩
    · split
      · have:=h1.note;exact⟨this.1,this.2.1,this.2.2.1,this.2.2.2.2⟩
      · have:=h1.elem p;exact⟨this.1,this.2.1,this.2.2.1,this.2.2.2.2⟩)
 · rcases into_cases d n l p with h1 | ⟨m,-,-,-,-,-,he⟩
   · rw[h1.2.1]
     exact fit_nil
   · exact absurd (by rw[he]) h
theorem large_hid (D:List Nd)(hl:D.length<=9223372036854775807)(hk:∀ x∈D,x.a.length<=9223372036854775807/\x.c.length<=9223372036854775807)(L:List Tk)(hL:L.length<=9223372036854775807)(ha:∀ t∈L,t.a.length<=9223372036854775807):Hid (∀ W sl v,DocG W sl D->TokIn W v L->Calls Tryz.prog 12 #[.agg #[sl],v] W (BigR (FitT D/\FitL L) W)):=Lib.hid fun w sl v hd hv=>by
 have CB:=gBig hl hk;obtain⟨a,c,rfl⟩:=hd.form;obtain⟨ta,tc,rfl⟩:=hv.form;have al:=(Below.refl w.heap.size w).alloc (Nat.le_refl _) (.cells #[.slice a D.length c] 24);have nb:=new_block w (.cells #[.slice a D.length c] 24);have e0:=cell_of nb 0;have H1:=Lib.hid (And.intro (hd.below al) (And.intro (hv.below al) al));clear hd hv al nb
 go_enter Tryz.func12,Tryz.ntmps12
 go_wp2_with fail
 (refine(CB.out _ _ H1.out.1).mono ?_)
 rintro e w2 ⟨b,rfl,hb,b2⟩;have hB2:Below w.heap.size w w2:=H1.out.2.2.trans (b2.mono H1.out.2.2.size);have CT:=Lib.hid (bigT_any L _ w2 (H1.out.2.1.below b2) hL ha);have H2:=Lib.hid hB2;clear b2 hB2 e0 CB
 cases b with
 | true =>
   go_wp2
   go_ret
   exact⟨true,rfl,(fun h=>by cases h),H2.out⟩
 | false =>
   have hf:=hb rfl
   go_wp2_with fail
   refine CT.out.mono ?_;rintro e w3 ⟨b',rfl,hw3,hb'⟩;rw[hw3];clear hw3 CT
   go_wp2
   go_ret
   exact⟨b',by cases b'<;>rfl,fun h=>⟨hf,hb' h⟩,H2.out⟩
theorem into_lawH (D:List Nd)(hl:D.length<=9223372036854775807)(hk:∀ x∈D,x.a.length<=9223372036854775807/\x.c.length<=9223372036854775807)(n:Int)(L:List Tk)(hL:L.length<=9223372036854775807)(ha:∀ t∈L,t.a.length<=9223372036854775807)(p:Bool):Hid (∀ W sl v,Low W->DocG W sl D->TokIn W v L->Calls Tryz.prog 3 #[.agg #[sl],.int .i64 n,v,.bool p] W fun e w'=>e=.returned (.bool true)/\Below W.heap.size W w'):=Lib.hid fun w sl v hlow hd hv=>by
 have CB:=large_hid D hl hk L hL ha;obtain⟨a,c,rfl⟩:=hd.form;obtain⟨ta,tc,rfl⟩:=hv.form;have al:=(Below.refl w.heap.size w).alloc (Nat.le_refl _) (.cells #[.slice a D.length c] 24);have nb:=new_block w (.cells #[.slice a D.length c] 24);have K0:=Lib.hid (And.intro (hlow.below al) (And.intro (hv.below al) (And.intro (show VX _ _ a c D from⟨nb,hd.below al⟩) (show Bel w _ from al))));clear hlow hd hv al nb hl hk hL ha
 go_enter Tryz.func3,Tryz.ntmps3
 have c_V1:=(K0.out.2.2.1).c0
 go_wp2_with fail
 (refine(CB.out _ _ _ (K0.out.2.2.1).g K0.out.2.1).mono ?_)
 clear c_V1;rintro e wK1 ⟨b,rfl,hb,bK1⟩;have K1:=Lib.hid (And.intro ((K0.out.1).below bK1) (And.intro ((K0.out.2.1).below bK1) (And.intro ((K0.out.2.2.1).below bK1) ((K0.out.2.2.2).below bK1))));clear K0 bK1;clear CB
 cases b with
 | true =>
   go_wp2
   go_ret
   exact⟨rfl,(K1.out.2.2.2).b⟩
 | false =>
   obtain⟨hT,hLf⟩:=hb rfl;clear hb;have hf:=hT.fit;have hfit:=fitL_of hLf;have CO:=gOwn hf;have COt:=Go.Proofs.YtlnfbjbagmfpiaaGreatDoor.own_hid L hLf;have CP:=intoB_hid D hf n L (by omega) hfit.2 p;have CQ:=into_hid D hf n L (by omega) hfit.2 p;have hfe:=into_fit hf n hfit.2 p;have hfl:=into_fails D n L p;have hLl:=hfit.1;have CSt:=sameG_hid L (by omega) (fun t ht=>by have:=(hLf.2 t ht).2.2.1;omega);obtain⟨⟨E,F,er⟩,hP⟩:∃ P,intoM D n L p=P:=⟨_,rfl⟩;rw[hP]at CP CQ hfe hfl;have CS:=gSame hfe;have CSd:=gSame hf;have CF:=failsG_hid F (by simp only at hfl;omega);have CBu:=builds_hid;have zer:(er==er)=true:=by simp
   have hsh:=hfe.short;clear hP hfe hfl hf hT hLf hfit;have c_V1:=(K1.out.2.2.1).c0
   go_wp2_with fail
   (refine(CO.out _ _ (K1.out.2.2.1).g).mono ?_)
   clear c_V1;rintro e wK2 ⟨a2,c2,rfl,o2,bK2⟩;have alK2:=(Below.refl wK2.heap.size wK2).alloc (Nat.le_refl _) (.cells #[.slice a2 D.length c2] 24);have nbK2:=new_block wK2 (.cells #[.slice a2 D.length c2] 24);have K2:=Lib.hid (And.intro (((K1.out.1).below bK2).below alK2) (And.intro (((K1.out.2.1).below bK2).below alK2) (And.intro (((K1.out.2.2.1).below bK2).below alK2) (And.intro (((K1.out.2.2.2).below bK2).below alK2) ((show VX _ _ a2 c2 D from⟨nbK2,o2.g.below alK2⟩))))));clear K1 bK2 alK2 nbK2;clear o2 CO;have c_V1:=(K2.out.2.2.1).c0;have c_V2:=(K2.out.2.2.2.2).c0
   go_wp2_with fail
   (refine(COt.out _ _ K2.out.2.1).mono ?_)
   clear c_V1 c_V2;rintro e wK3 ⟨kv,rfl,o3,bK3⟩;obtain⟨ka,kc,rfl⟩:=o3.form;have K3:=Lib.hid (And.intro ((K2.out.1).below bK3) (And.intro ((K2.out.2.1).below bK3) (And.intro ((K2.out.2.2.1).below bK3) (And.intro ((K2.out.2.2.2.1).below bK3) (And.intro ((K2.out.2.2.2.2).below bK3) (TokIn.of o3))))));clear K2 bK3;clear o3 COt;have KA:=K3;have c_V1:=(K3.out.2.2.1).c0;have c_V2:=(K3.out.2.2.2.2.1).c0
   go_wp2_with fail
   (refine(CP.out _ _ _ (K3.out.2.2.1).g (TokIn.tks K3.out.2.1)).mono ?_)
   clear c_V1 c_V2;rintro e wK4 ⟨a4,c4,v4,rfl,o4,f4,bK4⟩;obtain⟨fa,fc,rfl⟩:=row_form f4;obtain⟨A4,K4d,h4⟩:=o4;have hsz4:=bK4.size;have alK4:=(Below.refl wK4.heap.size wK4).alloc (Nat.le_refl _) (.cells #[.slice a4 E.length c4] 24);have nbK4:=new_block wK4 (.cells #[.slice a4 E.length c4] 24);have K4:=Lib.hid (And.intro (((K3.out.1).below bK4).below alK4) (And.intro (((K3.out.2.1).below bK4).below alK4) (And.intro (((K3.out.2.2.1).below bK4).below alK4) (And.intro (((K3.out.2.2.2.1).below bK4).below alK4) (And.intro (((K3.out.2.2.2.2.1).below bK4).below alK4) (And.intro (((K3.out.2.2.2.2.2).below bK4).below alK4) (And.intro ((FailIn.of f4).below alK4) (And.intro ((show VOX _ _ wK3.heap.size a4 c4 E from⟨nbK4,A4,K4d,h4.below alK4,h4.blk⟩)) ((show Bel wK3 _ from(show Bel wK3 wK4 from bK4).below alK4))))))))));clear K3 bK4 alK4 nbK4;clear f4 h4 CP;have c_V1:=(K4.out.2.2.1).c0;have c_V2:=(K4.out.2.2.2.2.1).c0;have c_V4:=(K4.out.2.2.2.2.2.2.2.1).c0
   go_wp2_with fail
   (refine((show ∀ W sl v,DocG W sl D->TksD W v L->_ from fun W sl v ⟨A,K,h,_⟩ ht=>CQ.out W sl A K v h ht) _ _ _ (K4.out.2.2.2.2.1).g (TokIn.tks K4.out.2.2.2.2.2.1)).mono ?_)
   clear c_V1 c_V2 c_V4;rintro e wK5 ⟨sl5,v5,rfl,o5,f5,bK5⟩
   obtain⟨a5,c5,rfl⟩:∃ a5 c5,sl5=.slice a5 E.length c5:=by
    obtain⟨A',K',h⟩:=o5;exact h.form
   obtain⟨ga,gc,rfl⟩:=row_form f5;have alK5:=(Below.refl wK5.heap.size wK5).alloc (Nat.le_refl _) (.cells #[.slice a5 E.length c5] 24);have nbK5:=new_block wK5 (.cells #[.slice a5 E.length c5] 24);have K5:=Lib.hid (And.intro (((K4.out.1).below bK5).below alK5) (And.intro (((K4.out.2.1).below bK5).below alK5) (And.intro (((K4.out.2.2.1).below bK5).below alK5) (And.intro (((K4.out.2.2.2.1).below bK5).below alK5) (And.intro (((K4.out.2.2.2.2.1).below bK5).below alK5) (And.intro (((K4.out.2.2.2.2.2.1).below bK5).below alK5) (And.intro (((K4.out.2.2.2.2.2.2.1).below bK5).below alK5) (And.intro (((K4.out.2.2.2.2.2.2.2.1).below bK5).below alK5) (And.intro (((K4.out.2.2.2.2.2.2.2.2).below bK5).below alK5) (And.intro ((FailIn.of f5).below alK5) ((show VX _ _ a5 c5 E from⟨nbK5,o5.g.below alK5⟩))))))))))));clear K4 bK5 alK5 nbK5;clear o5 f5 CQ;have c_V1:=(K5.out.2.2.1).c0;have c_V2:=(K5.out.2.2.2.2.1).c0;have c_V4:=(K5.out.2.2.2.2.2.2.2.1).c0;have c_V5:=(K5.out.2.2.2.2.2.2.2.2.2.2).c0
   go_wp2_with fail
   (refine(CS.out _ _ _ (K5.out.2.2.2.2.2.2.2.1).g (K5.out.2.2.2.2.2.2.2.2.2.2).g).mono ?_)
   clear c_V1 c_V2 c_V4 c_V5;rintro e wK6 ⟨rfl,bK6⟩;have K6:=Lib.hid (And.intro ((K5.out.1).below bK6) (And.intro ((K5.out.2.1).below bK6) (And.intro ((K5.out.2.2.1).below bK6) (And.intro ((K5.out.2.2.2.1).below bK6) (And.intro ((K5.out.2.2.2.2.1).below bK6) (And.intro ((K5.out.2.2.2.2.2.1).below bK6) (And.intro ((K5.out.2.2.2.2.2.2.1).below bK6) (And.intro ((K5.out.2.2.2.2.2.2.2.1).below bK6) (And.intro ((K5.out.2.2.2.2.2.2.2.2.1).below bK6) (And.intro ((K5.out.2.2.2.2.2.2.2.2.2.1).below bK6) ((K5.out.2.2.2.2.2.2.2.2.2.2).below bK6)))))))))));clear K5 bK6;clear CS;have c_V1:=(K6.out.2.2.1).c0;have c_V2:=(K6.out.2.2.2.2.1).c0;have c_V4:=(K6.out.2.2.2.2.2.2.2.1).c0;have c_V5:=(K6.out.2.2.2.2.2.2.2.2.2.2).c0
   go_wp2_with fail
   (refine(CF.out _ _ _ K6.out.2.2.2.2.2.2.1 K6.out.2.2.2.2.2.2.2.2.2.1).mono ?_)
   clear c_V1 c_V2 c_V4 c_V5;rintro e wK7 ⟨rfl,bK7⟩;have K7:=Lib.hid (And.intro ((K6.out.1).below bK7) (And.intro ((K6.out.2.1).below bK7) (And.intro ((K6.out.2.2.1).below bK7) (And.intro ((K6.out.2.2.2.1).below bK7) (And.intro ((K6.out.2.2.2.2.1).below bK7) (And.intro ((K6.out.2.2.2.2.2.1).below bK7) (And.intro ((K6.out.2.2.2.2.2.2.1).below bK7) (And.intro ((K6.out.2.2.2.2.2.2.2.1).below bK7) (And.intro ((K6.out.2.2.2.2.2.2.2.2.1).below bK7) (And.intro ((K6.out.2.2.2.2.2.2.2.2.2.1).below bK7) ((K6.out.2.2.2.2.2.2.2.2.2.2).below bK7)))))))))));clear K6 bK7;clear CF;obtain⟨R4,hR4⟩:∃ R4,wK4.heap.size=R4:=⟨_,rfl⟩;obtain⟨B,hB⟩:∃ B,wK3.heap.size=B:=⟨_,rfl⟩;have hV:=K7.out.2.2.2.2.2.2.2.1;have hAn:=K7.out.2.2.2.2.2.2.2.2.1;rw[hR4,hB]at hV;obtain⟨hV1,AE,KE,hV2,hV3⟩:=hV
   have hBR:B<=R4:=by
    rw[<- hB,<- hR4];exact hsz4
   have H1:Hid (SmW wK7 B R4 R4 E.length (.slice a4 E.length c4) AE KE wK7):=Lib.hid ⟨⟨E,rfl,hsh,hV2⟩,hV1,Kp.refl _ _⟩
   have hE:∀ u,u<E.length->∃ g,a4=some ⟨g,0,none⟩:=fun u hu=>by
    rcases rowForms hV2.row with ⟨_,e⟩ | ⟨g,c,e⟩
    · omega
    · cases e;exact⟨g,rfl⟩
   have hTb:=Lib.hid hV3;have hn:=hsh.1;have HAn:=Lib.hid hAn;clear hV1 hV2 hV3 hAn hsh;generalize E.length=m at *
   go_wp2
   replace hR4:=Lib.hid hR4;replace hB:=Lib.hid hB;obtain⟨ws,hws⟩:∃ ws,ws=wK7:=⟨_,rfl⟩;rw[<- hws]at H1 HAn
   go_loopw [18] (fun i wr=>∃ u:Nat,i=.int .i64 u/\u<=m/\Hid (SmW ws B R4 R4 m (.slice a4 m c4) AE KE wr)) (fun i _=>m - (intOf i).toNat)
   case atStart=>exact⟨0,rfl,Nat.zero_le _,by rw[<- hws];exact H1⟩
   case round =>
    clear hws;obtain⟨u,rfl,hu,H2⟩:=hrel;clear H1;have e0:=cell_of H2.out.2.1 0
    by_cases hlt:u<m
    · obtain⟨g,rfl⟩:=hE u hlt
      obtain⟨na,nk,hna,hnk,H3⟩:=H2.out.node hlt;replace H3:=Lib.hid H3;clear e0;replace hE:=Lib.hid hE;have zu:(u:Int)<(m:Int):=by omega
      have zu0:(0:Int)<=(u:Int):=by omega
      have e0:=cell_of H2.out.2.1 0;clear H2
      go_wp2
      clear e0
      go_loopw [19] (fun j wr=>∃ v:Nat,j=.int .i64 v/\v<=na/\Hid (SmN ws B R4 R4 m u na nk (.slice (some ⟨g,0,none⟩) m c4) AE KE wr)) (fun j _=>na - (intOf j).toNat)
      case atStart=>exact⟨0,rfl,Nat.zero_le _,H3⟩
      case round =>
       obtain⟨v,rfl,hv,H4⟩:=hrel;clear H3;obtain⟨e0,e3,-,⟨aa,ac,hA⟩,-⟩:=H4.out.cells;rw[hA]at e3
       by_cases hlv:v<na
       · obtain⟨ga,ca,hA2,⟨x,cx⟩,fx,H5⟩:=H4.out.attr hTb.out hlv [115,109,117,100,103,101]
         rw[hA]at hA2
         cases hA2
         rw[show strV [115,109,117,100,103,101]=.string ⟨#[115,109,117,100,103,101]⟩from rfl]at H5;replace H5:=Lib.hid H5;replace hA:=Lib.hid hA;have zv:(v:Int)<(na:Int):=by omega
         have zv0:(0:Int)<=(v:Int):=by omega
         clear H4
         go_wp2
         go_roundw
         case rel=>exact⟨v+1,by go_num,by omega,H5⟩
         case measure=>simp[intOf];omega
       · replace hA:=Lib.hid hA
         obtain rfl:v=na:=by omega
         go_wp2
         clear e0 e3
         go_loopw [20] (fun j wr=>∃ v':Nat,j=.int .i64 v'/\v'<=nk/\Hid (SmN ws B R4 R4 m u v nk (.slice (some ⟨g,0,none⟩) m c4) AE KE wr)) (fun j _=>nk - (intOf j).toNat)
         case atStart=>exact⟨0,rfl,Nat.zero_le _,H4⟩
         case round =>
          obtain⟨v',rfl,hv',H6⟩:=hrel;clear H4;obtain⟨e0,-,e5,-,⟨ka2,kc2,hK⟩⟩:=H6.out.cells;rw[hK]at e5
          by_cases hlw:v'<nk
          · obtain⟨gk,ck,hK2,⟨x,cx⟩,fx,H7⟩:=H6.out.kid hTb.out hlw 77
            rw[hK]at hK2
            cases hK2
            replace H7:=Lib.hid H7;replace hK:=Lib.hid hK;have zv:(v':Int)<(nk:Int):=by omega
            have zv0:(0:Int)<=(v':Int):=by omega
            clear H6
            go_wp2
            go_roundw
            case rel=>exact⟨v'+1,by go_num,by omega,H7⟩
            case measure=>simp[intOf];omega
          · obtain rfl:v'=nk:=by omega
            have H7:=Lib.hid H6.out.w;replace hK:=Lib.hid hK;clear H6
            go_wp2
            go_roundw
            case rel=>exact⟨u+1,by go_num,by omega,H7⟩
            case measure=>simp[intOf];omega
    · have BR:Below wK3.heap.size wK3 wr:=HAn.out.b.trans (H2.out.2.2.below (fun j _ e=>by rw[hB.out];exact e.1) (by have:=HAn.out.b.size;omega))
      have KB:=Lib.hid (And.intro (KA.out.1.below BR) (And.intro (KA.out.2.1.below BR) (And.intro (KA.out.2.2.1.below BR) (And.intro (KA.out.2.2.2.1.below BR) (And.intro (KA.out.2.2.2.2.1.below BR) (KA.out.2.2.2.2.2.below BR))))));clear H2 BR KA HAn
      go_wp2_with fail
      (refine(CBu.out _ KB.out.1).mono ?_)
      rintro e x1 ⟨rfl,q1⟩;have KC:=Lib.hid (And.intro (KB.out.2.1.below q1) (And.intro (KB.out.2.2.1.below q1) (And.intro (KB.out.2.2.2.1.below q1) (And.intro (KB.out.2.2.2.2.1.below q1) (KB.out.2.2.2.2.2.below q1)))));clear q1 KB e0;have d1:=KC.out.2.1.c0;have d2:=KC.out.2.2.2.1.c0
      go_wp2_with fail
      (refine(CSd.out _ _ _ KC.out.2.1.g KC.out.2.2.2.1.g).mono ?_)
      rintro e x2 ⟨rfl,q2⟩;have KD:=Lib.hid (And.intro (KC.out.1.below q2) (And.intro (KC.out.2.2.1.below q2) (KC.out.2.2.2.2.below q2)));clear q2 KC d1 d2
      go_wp2_with fail
      (refine(CSt.out _ _ _ KD.out.1 KD.out.2.2).mono ?_)
      rintro e x3 ⟨rfl,q3⟩;have HF:=Lib.hid (KD.out.2.1.below q3);clear q3 KD
      go_wp2
      go_ret
      exact⟨rfl,HF.out.b⟩
end Go.Proofs.YtlnfbjbagmfpiaaGreatDoor.Dm
