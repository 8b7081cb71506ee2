/- The law of what is laid: it is right; nodes that were there stay, but for one node's kids, which stay ahead. -/
import Derived.Test.YtlnfbjbagmfpiaaGreatDoorBlH
import Derived.Test.YtlnfbjbagmfpiaaGreatDoorBlI
set_option maxRecDepth 100000
set_option maxHeartbeats 16000000
namespace Go.Proofs.YtlnfbjbagmfpiaaGreatDoor.Dm
open Go.RowKit
theorem belowL_len {D:List Nd}(R:Right D)(n:Int):(belowM D n).length<=1000:=by
 unfold belowM;split
 · next h =>
   obtain⟨_,i,rfl,hi⟩:=there_right h;have h1:=down_len R (i:=i) hi;have h2:=R.len;rw[Int.toNat_natCast];omega
 · simp
theorem right_lawH (D:List Nd)(hl:D.length<=9223372036854775807)(hk:∀ x∈D,x.a.length<=9223372036854775807/\x.c.length<=9223372036854775807)(n:Int)(L:List Tk)(hL:L.length<=9223372036854775807)(ha:∀ t∈L,t.a.length<=9223372036854775807)(p:Bool):Hid (∀ W sl v,Low W->DocG W sl D->TokIn W v L->Calls Tryz.prog 6 #[.agg #[sl],.int .i64 n,v,.bool p] W fun e w'=>e=.returned (.bool true)/\Below W.heap.size W w'):=Lib.hid fun w sl v hlow hd hv=>by
 have CB:=large_hid D hl hk L hL ha;obtain⟨a,c,rfl⟩:=hd.form;obtain⟨ta,tc,rfl⟩:=hv.form;have al:=(Below.refl w.heap.size w).alloc (Nat.le_refl _) (.cells #[.slice a D.length c] 24);have nb:=new_block w (.cells #[.slice a D.length c] 24);have K0:=Lib.hid (And.intro (hlow.below al) (And.intro (hv.below al) (And.intro (show VX _ _ a c D from⟨nb,hd.below al⟩) (show Bel w _ from al))));clear hlow hd hv al nb hl hk hL ha
 go_enter Tryz.func6,Tryz.ntmps6
 have c_V1:=(K0.out.2.2.1).c0
 go_wp2_with fail
 (refine(CB.out _ _ _ (K0.out.2.2.1).g K0.out.2.1).mono ?_)
 clear c_V1;rintro e wK1 ⟨b,rfl,hb,bK1⟩;have K1:=Lib.hid (And.intro ((K0.out.1).below bK1) (And.intro ((K0.out.2.1).below bK1) (And.intro ((K0.out.2.2.1).below bK1) ((K0.out.2.2.2).below bK1))));clear K0 bK1;clear CB
 cases b with
 | true =>
   go_wp2
   go_ret
   exact⟨rfl,(K1.out.2.2.2).b⟩
 | false =>
   obtain⟨hT,hLf⟩:=hb rfl;clear hb;have hf:=hT.fit;have hfit:=fitL_of hLf;have CP:=intoB_hid D hf n L (by omega) hfit.2 p;have hfe:=into_fit hf n hfit.2 p;have hir:=into_right (d:=D) (n:=n) (l:=L) (p:=p);have hic:=into_cases D n L p;obtain⟨⟨E,F,er⟩,hP⟩:∃ P,intoM D n L p=P:=⟨_,rfl⟩;rw[hP]at CP hfe hir hic;have CBu:=builds_hid;have HFd:=Lib.hid (And.intro hf hfe);have hEl:=hfe.1;have hDl:=hf.1;clear hP hfe hf hT hLf hfit;have c_V1:=(K1.out.2.2.1).c0
   go_wp2_with fail
   (refine(CP.out _ _ _ (K1.out.2.2.1).g (TokIn.tks K1.out.2.1)).mono ?_)
   clear c_V1;rintro e wK2 ⟨a4,c4,v4,rfl,o4,f4,bK2⟩;obtain⟨fa,fc,rfl⟩:=row_form f4;obtain⟨AE,KE,h4⟩:=o4;have alK2:=(Below.refl wK2.heap.size wK2).alloc (Nat.le_refl _) (.cells #[.slice a4 E.length c4] 24);have nbK2:=new_block wK2 (.cells #[.slice a4 E.length c4] 24);have K2:=Lib.hid (And.intro (((K1.out.1).below bK2).below alK2) (And.intro (((K1.out.2.1).below bK2).below alK2) (And.intro (((K1.out.2.2.1).below bK2).below alK2) (And.intro (((K1.out.2.2.2).below bK2).below alK2) (And.intro ((show VOX _ _ _ a4 c4 E from⟨nbK2,AE,KE,h4.below alK2,h4.blk⟩)) ((show OwnD _ _ _ E AE KE from h4.below alK2)))))));clear K1 bK2 alK2 nbK2;clear f4 h4 CP;obtain⟨R1,hR1⟩:∃ R1,w.heap.size=R1:=⟨_,rfl⟩;obtain⟨R4,hR4⟩:∃ R4,wK2.heap.size=R4:=⟨_,rfl⟩;obtain⟨B,hB⟩:∃ B,wK1.heap.size=B:=⟨_,rfl⟩;obtain⟨w5,hw5⟩:∃ w5,wK2.alloc (.cells #[.slice a4 E.length c4] 24)=w5:=⟨_,rfl⟩;rw[hR1,hR4,hB,hw5]at K2;have e4:=(K2.out.2.2.2.2.1).c0
   by_cases her:er=0
   case neg =>
    have g1:(er != 0)=true:=by rw[bne_iff_ne];exact her
    have hE0:E=[]:=by
     rcases hic with h | ⟨m,-,-,-,-,-,h⟩
     · exact h.2.1
     · injection h with _ h
       injection h with _ h
       exact absurd h her
    have hEn:E.length=0:=by rw[hE0];rfl
    have zE:((E.length:Int)==0)=true:=by rw[hEn];rfl
    clear hE0 hEn hic hir
    go_wp2_with fail
    (refine(CBu.out _ K2.out.1).mono ?_)
    rintro e w6 ⟨rfl,b6⟩;have H6:=Lib.hid (And.intro ((K2.out.2.2.2.2.1).below b6) ((K2.out.2.2.2.1).below b6));clear b6 e4;have e5:=H6.out.1.c0
    go_wp2
    go_ret
    exact⟨rfl,H6.out.2.b⟩
   obtain⟨m,rfl,hm,hRE,hle,hst,hnw⟩:=hir her;subst her;have CCk:=gCheck HFd.out.2;rw[check_right.2 hRE]at CCk;have hbl:=belowL_len hRE
   have hbe:belowM E (m:Int)=downM E m:=by
    unfold belowM;rw[if_pos (by unfold thereM;simp only[Bool.and_eq_true,decide_eq_true_eq];exact⟨⟨by omega,by omega⟩,check_right.2 hRE⟩),Int.toNat_natCast]
   have HSt:=Lib.hid (And.intro hst hnw);clear hic hir hRE hst hnw;have zle:¬ ((E.length:Int)<(D.length:Int)):=by omega
   have zm:(m:Int)<(D.length:Int):=by omega
   have zm0:(0:Int)<=(m:Int):=by omega
   have zm1:¬ ((D.length:Int)<=(m:Int)):=by omega
   have zm2:¬ ((m:Int)<0):=by omega
   go_wp2_with fail
   (refine(CCk.out _ _ (K2.out.2.2.2.2.1).g).mono ?_)
   rintro e w6 ⟨rfl,b6⟩;have KA:=Lib.hid (And.intro ((K2.out.1).below b6) (And.intro ((K2.out.2.2.1).below b6) (And.intro ((K2.out.2.2.2.1).below b6) (And.intro ((K2.out.2.2.2.2.1).below b6) ((K2.out.2.2.2.2.2).below b6)))));clear b6 e4 K2 CCk;have e1:=KA.out.2.1.c0;have e4:=KA.out.2.2.2.1.c0
   go_wp2
   replace hR1:=Lib.hid hR1;replace hR4:=Lib.hid hR4;replace hB:=Lib.hid hB;replace hw5:=Lib.hid hw5;clear e1 e4;have zd1:decide (E.length<D.length)=false:=by rw[decide_eq_false_iff_not];omega
   have zd2:decide (D.length<=m)=false:=by rw[decide_eq_false_iff_not];omega
   have zd3:decide ((m:Int)<0)=false:=by rw[decide_eq_false_iff_not];omega
   try simp only[zd1,zd2,zd3,Bool.or_false]
   clear zd1 zd2 zd3
   go_loopw [12] (fun j wr=>∃ i:Nat,j=.int .i64 (i:Int)/\i<=D.length/\Hid (Below w6.heap.size w6 wr)) (fun j _=>D.length - (intOf j).toNat)
   case atStart=>exact⟨0,rfl,Nat.zero_le _,Lib.hid (Below.refl _ _)⟩
   case round =>
    obtain⟨i,rfl,hi,HJ⟩:=hrel;have e1:=(KA.out.2.1.below HJ.out).c0;have e4:=(KA.out.2.2.2.1.below HJ.out).c0
    by_cases hlt:i<D.length
    · have hiE:i<E.length:=by omega
      have zi:(i:Int)<(D.length:Int):=by omega
      have ziE:(i:Int)<(E.length:Int):=by omega
      have zi0:(0:Int)<=(i:Int):=by omega
      obtain⟨ks,hks,hne⟩:=HSt.out.1 i D[i] (List.getElem?_eq_getElem hlt);rw[List.getElem?_eq_getElem hiE]at hks;have hEi:=Option.some.inj hks;have hfx:=HFd.out.1.2 _ (List.getElem_mem hlt);obtain⟨A0,K0d,hd0,-⟩:=(KA.out.2.1.below HJ.out).g;obtain⟨Bn,off,hBn,q0,q1,q2,q3,q4,q5,q6,q7⟩:=hd0.node hlt;subst hBn;have hat0:=hd0.at' i hlt;have hkd0:=hd0.kd i hlt;obtain⟨aa0,ac0,hA0⟩:=hat0.form;obtain⟨ka0,kc0,hK0⟩:=hkd0.form;rw[hA0]at q3 hat0;rw[hK0]at q5 hkd0;have hoE:=KA.out.2.2.2.2.below HJ.out;obtain⟨Be,ofe,hBe,y0,y1,y2,y3,y4,y5,y6,y7⟩:=hoE.doc.node hiE;subst hBe;have hatE:=hoE.doc.at' i hiE;have hkdE:=hoE.kd i hiE;rw[hEi]at y0 y1 y2 y4 y6 y7 hatE hkdE;obtain⟨aa1,ac1,hA1⟩:=hatE.form;rw[hA1]at y3 hatE;obtain⟨ka1,kc1,hK1,hsl,hbg⟩:=row_begin hkdE;rw[hK1]at y5;dsimp only at y0 y1 y2 y3 y4 y5 y6 y7 hatE hsl hbg;obtain⟨N,hN⟩:=text_of D[i].n;obtain⟨T,hTx⟩:=text_of D[i].d;rw[strV_of hN]at q1 y1;rw[strV_of hTx]at q2 y2;have C1:=one_hid D[i] hfx;unfold nodeV at C1;rw[strV_of hN,strV_of hTx]at C1;have hlk:(D[i].c++ks).length=D[i].c.length+ks.length:=List.length_append;have hkl:D[i].c.length<=1000:=hfx.2.2.2.1;have al:=(Below.refl wr.heap.size wr).alloc (Nat.le_refl _) (.cells #[.int .i64 D[i].k,.string N,.string T,.slice aa1 D[i].a.length ac1,.int .i64 D[i].p,.slice ka1 (D[i].c++ks).length kc1,.bool D[i].b,.bool D[i].s] 39);have nb:=new_block wr (.cells #[.int .i64 D[i].k,.string N,.string T,.slice aa1 D[i].a.length ac1,.int .i64 D[i].p,.slice ka1 (D[i].c++ks).length kc1,.bool D[i].b,.bool D[i].s] 39);have HP:=Lib.hid (And.intro hat0 (And.intro hkd0 (And.intro hatE hbg)));have HY:=Lib.hid (And.intro q0 (And.intro q1 (And.intro q2 (And.intro q3 (And.intro q4 (And.intro q5 (And.intro q6 q7)))))));clear hd0 hoE hat0 hkd0 hatE hkdE hbg hA0 hK0 hA1 hK1 hEi hks hN hTx hfx
      by_cases him:i=m
      · subst him
        have zim:((i:Int)==(i:Int))=true:=by simp
        have zlk:¬ (((D[i].c++ks).length:Int)<(D[i].c.length:Int)):=by omega
        have SL:=hsl;have q5b:=q5;have f5:=open_of nb 5;have alz:=(Below.refl wr.heap.size wr).alloc (Nat.le_refl _) (.cells #[.int .i64 D[i].k,.string N,.string T,.slice aa1 D[i].a.length ac1,.int .i64 D[i].p,.slice ka1 D[i].c.length kc1,.bool D[i].b,.bool D[i].s] 39);have nbz:=new_block wr (.cells #[.int .i64 D[i].k,.string N,.string T,.slice aa1 D[i].a.length ac1,.int .i64 D[i].p,.slice ka1 D[i].c.length kc1,.bool D[i].b,.bool D[i].s] 39);generalize(D[i].c++ks).length=lk at *;have n5:=cell_of nb 5;have e1':=(al.cell (lt_of_cell e1)).trans e1;have q5':=(al.cell (lt_of_cell q5)).trans q5;have HN5:=Lib.hid (And.intro nbz alz);clear nbz alz hlk hsl
        go_wp2_with fail
        clear n5 f5 e1' q5' nb al zlk SL;obtain⟨bx,hbx⟩:∃ bx,wr.heap.size=bx:=⟨_,rfl⟩;obtain⟨wz,hwz⟩:∃ wz,wr.alloc (.cells #[.int .i64 D[i].k,.string N,.string T,.slice aa1 D[i].a.length ac1,.int .i64 D[i].p,.slice ka1 D[i].c.length kc1,.bool D[i].b,.bool D[i].s] 39)=wz:=⟨_,rfl⟩;obtain⟨n1,n2⟩:=HN5.out;clear HN5;rw[hwz]at n1 n2;rw[hbx]at n1;have HN5:=Lib.hid (And.intro n1 n2);clear n1 n2;rw[hwz,hbx];replace hbx:=Lib.hid hbx;replace hwz:=Lib.hid hwz;obtain⟨C,hC⟩:∃ C:World->Prop,∀ w',C w'↔Below wz.heap.size wz w':=⟨_,fun _=>Iff.rfl⟩;have HC:=Lib.hid hC;clear hC;have hC0:C wz.drew:=(HC.out _).2 (Below.refl _ _).drew;have HE1:=Lib.hid e1;clear e1 e4 q0 q1 q2 q3 q4 q5 q6 q7 y0 y1 y2 y3 y4 y5 y6 y7;have zz:(!true)=false:=rfl;refine region_class C (by kernel_rfl) (by kernel_rfl) hC0 ?_;clear hC0
        repeat
         first
          | go_big_quiet_skip
          | (go_big_quiet_want;go_big_quiet_op;go_big_quiet_on)
          | (refine BigFrame.wpQuiet_want rfl (fun K hK => ?_)
             apply Exists.intro
             refine⟨fun w' hc => ?_,hK _ ?_⟩
             · have b2:=(HC.out w').1 hc
               have b3:Below wr.heap.size wr w':=HN5.out.2.trans (b2.mono HN5.out.2.size);have hbxw:=(b2.block _ (lt_of_block HN5.out.1)).trans HN5.out.1;have f0:=cell_of hbxw 0;have f1:=cell_of hbxw 1;have f2:=cell_of hbxw 2;have f3:=cell_of hbxw 3;have f4:=cell_of hbxw 4;have f5:=cell_of hbxw 5;have f6:=cell_of hbxw 6;have f7:=cell_of hbxw 7;have d1:=(b3.cell (lt_of_cell HE1.out)).trans HE1.out;have d10:=(b3.cell (lt_of_cell HY.out.1)).trans HY.out.1;have d11:=(b3.cell (lt_of_cell HY.out.2.1)).trans HY.out.2.1;have d12:=(b3.cell (lt_of_cell HY.out.2.2.1)).trans HY.out.2.2.1;have d13:=(b3.cell (lt_of_cell HY.out.2.2.2.1)).trans HY.out.2.2.2.1;have d14:=(b3.cell (lt_of_cell HY.out.2.2.2.2.1)).trans HY.out.2.2.2.2.1;have d15:=(b3.cell (lt_of_cell HY.out.2.2.2.2.2.1)).trans HY.out.2.2.2.2.2.1;have d16:=(b3.cell (lt_of_cell HY.out.2.2.2.2.2.2.1)).trans HY.out.2.2.2.2.2.2.1;have d17:=(b3.cell (lt_of_cell HY.out.2.2.2.2.2.2.2)).trans HY.out.2.2.2.2.2.2.2;have HCl:=Lib.hid (C1.out w' _ _ _ _ (AtIn.below HP.out.2.2.1 b3) (HP.out.2.2.2.below b3) (AtIn.below HP.out.1 b3) (HP.out.2.1.below b3));clear b2 b3 hbxw;unfold Oper.quietAt
               go_simp
               first
                | done
                | rfl
                | (refine HCl.out.mono ?_;rintro e w7 ⟨rfl,b7⟩;exact⟨rfl,(HC.out w7).2 (((HC.out w').1 hc).trans (b7.mono ((HC.out w').1 hc).size))⟩)
             clear hK K
             simp only[Act.put,List.setIfInBounds_toArray,List.set_cons_zero,List.set_cons_succ])
        refine wpQuiet_nil ?_;intro w7 hc;have HK7:=Lib.hid ((HJ.out.trans (HN5.out.2.mono HJ.out.size)).trans (((HC.out w7).1 hc).mono (Nat.le_trans HJ.out.size HN5.out.2.size)));clear hc HC HN5 HJ HY HP
        go_wp2
        go_roundw
        case rel=>exact⟨i+1,by go_num,by omega,HK7⟩
        case measure=>simp[intOf];omega
      · have hks0:=hne him
        subst hks0;have zim:((i:Int)==(m:Int))=false:=beq_eq_false_iff_ne.2 (by omega);rw[List.append_nil]at *;have HN5:=Lib.hid (And.intro nb al);clear nb al hsl hlk
        go_wp2_with fail
        obtain⟨bx,hbx⟩:∃ bx,wr.heap.size=bx:=⟨_,rfl⟩;obtain⟨wz,hwz⟩:∃ wz,wr.alloc (.cells #[.int .i64 D[i].k,.string N,.string T,.slice aa1 D[i].a.length ac1,.int .i64 D[i].p,.slice ka1 D[i].c.length kc1,.bool D[i].b,.bool D[i].s] 39)=wz:=⟨_,rfl⟩;obtain⟨n1,n2⟩:=HN5.out;clear HN5;rw[hwz]at n1 n2;rw[hbx]at n1;have HN5:=Lib.hid (And.intro n1 n2);clear n1 n2;rw[hwz,hbx];replace hbx:=Lib.hid hbx;replace hwz:=Lib.hid hwz;obtain⟨C,hC⟩:∃ C:World->Prop,∀ w',C w'↔Below wz.heap.size wz w':=⟨_,fun _=>Iff.rfl⟩;have HC:=Lib.hid hC;clear hC;have hC0:C wz.drew:=(HC.out _).2 (Below.refl _ _).drew;have HE1:=Lib.hid e1;clear e1 e4 q0 q1 q2 q3 q4 q5 q6 q7 y0 y1 y2 y3 y4 y5 y6 y7;have zz:(!true)=false:=rfl;refine region_class C (by kernel_rfl) (by kernel_rfl) hC0 ?_;clear hC0
        repeat
         first
          | go_big_quiet_skip
          | (go_big_quiet_want;go_big_quiet_op;go_big_quiet_on)
          | (refine BigFrame.wpQuiet_want rfl (fun K hK => ?_)
             apply Exists.intro
             refine⟨fun w' hc => ?_,hK _ ?_⟩
             · have b2:=(HC.out w').1 hc
               have b3:Below wr.heap.size wr w':=HN5.out.2.trans (b2.mono HN5.out.2.size);have hbxw:=(b2.block _ (lt_of_block HN5.out.1)).trans HN5.out.1;have f0:=cell_of hbxw 0;have f1:=cell_of hbxw 1;have f2:=cell_of hbxw 2;have f3:=cell_of hbxw 3;have f4:=cell_of hbxw 4;have f5:=cell_of hbxw 5;have f6:=cell_of hbxw 6;have f7:=cell_of hbxw 7;have d1:=(b3.cell (lt_of_cell HE1.out)).trans HE1.out;have d10:=(b3.cell (lt_of_cell HY.out.1)).trans HY.out.1;have d11:=(b3.cell (lt_of_cell HY.out.2.1)).trans HY.out.2.1;have d12:=(b3.cell (lt_of_cell HY.out.2.2.1)).trans HY.out.2.2.1;have d13:=(b3.cell (lt_of_cell HY.out.2.2.2.1)).trans HY.out.2.2.2.1;have d14:=(b3.cell (lt_of_cell HY.out.2.2.2.2.1)).trans HY.out.2.2.2.2.1;have d15:=(b3.cell (lt_of_cell HY.out.2.2.2.2.2.1)).trans HY.out.2.2.2.2.2.1;have d16:=(b3.cell (lt_of_cell HY.out.2.2.2.2.2.2.1)).trans HY.out.2.2.2.2.2.2.1;have d17:=(b3.cell (lt_of_cell HY.out.2.2.2.2.2.2.2)).trans HY.out.2.2.2.2.2.2.2;have HCl:=Lib.hid (C1.out w' _ _ _ _ (AtIn.below HP.out.2.2.1 b3) (HP.out.2.2.2.below b3) (AtIn.below HP.out.1 b3) (HP.out.2.1.below b3));clear b2 b3 hbxw;unfold Oper.quietAt
               go_simp
               first
                | done
                | rfl
                | (refine HCl.out.mono ?_;rintro e w7 ⟨rfl,b7⟩;exact⟨rfl,(HC.out w7).2 (((HC.out w').1 hc).trans (b7.mono ((HC.out w').1 hc).size))⟩)
             clear hK K
             simp only[Act.put,List.setIfInBounds_toArray,List.set_cons_zero,List.set_cons_succ])
        refine wpQuiet_nil ?_;intro w7 hc;have HK7:=Lib.hid ((HJ.out.trans (HN5.out.2.mono HJ.out.size)).trans (((HC.out w7).1 hc).mono (Nat.le_trans HJ.out.size HN5.out.2.size)));clear hc HC HN5 HJ HY HP
        go_wp2
        go_roundw
        case rel=>exact⟨i+1,by go_num,by omega,HK7⟩
        case measure=>simp[intOf];omega
    · obtain rfl:i=D.length:=by omega
      have KB:=Lib.hid (And.intro (KA.out.1.below HJ.out) (And.intro (KA.out.2.2.1.below HJ.out) (And.intro (KA.out.2.2.2.1.below HJ.out) (KA.out.2.1.below HJ.out))));clear KA HJ
      go_wp2
      clear e1 e4;obtain⟨wq,hwq⟩:∃ wq,wq=wr:=⟨_,rfl⟩;subst hwq
      go_loopw [15] (fun j ws=>∃ i:Nat,j=.int .i64 (i:Int)/\D.length<=i/\Hid (Below wq.heap.size wq ws)) (fun j _=>E.length - (intOf j).toNat)
      case atStart=>exact⟨D.length,rfl,Nat.le_refl _,Lib.hid (Below.refl _ _)⟩
      case round =>
       obtain⟨i,rfl,hi,HJ⟩:=hrel;have e4:=(KB.out.2.2.1.below HJ.out).c0
       by_cases hlt:i<E.length
       · have zi:(i:Int)<(E.length:Int):=by omega
         have zi0:(0:Int)<=(i:Int):=by omega
         obtain⟨hpx,hdn⟩:=HSt.out.2 i E[i] hi (List.getElem?_eq_getElem hlt);rw[<- hbe]at hdn;have CU:=underL_hid E HFd.out.2 hbl i (m:Int) hdn;obtain⟨A0,K0d,hd0,-⟩:=(KB.out.2.2.1.below HJ.out).g;obtain⟨Be,ofe,hBe,y0,-,-,-,-,-,y6,-⟩:=hd0.node hlt;subst hBe;have HV:=Lib.hid (KB.out.2.2.1.below HJ.out).g;clear hd0 hdn
         by_cases hk2:E[i].k=2
         · have hpb:=hpx hk2
           rw[hk2]at y0;rw[hpb]at y6;have zpp:(p != p)=false:=by simp
           have zpp2:(p==p)=true:=by simp
           clear hk2 hpb hpx
           go_wp2_with fail
           (refine(CU.out _ _ HV.out).mono ?_)
           rintro e w8 ⟨rfl,b8⟩;have HK8:=Lib.hid (HJ.out.trans (b8.mono HJ.out.size));clear b8 HJ
           go_wp2
           go_roundw
           case rel=>exact⟨i+1,by go_num,by omega,HK8⟩
           case measure=>simp[intOf];omega
         · have g2:(E[i].k==2)=false:=by simpa using hk2
           generalize E[i].k=ek at *;clear hk2 hpx
           go_wp2_with fail
           (refine(CU.out _ _ HV.out).mono ?_)
           rintro e w8 ⟨rfl,b8⟩;have HK8:=Lib.hid (HJ.out.trans (b8.mono HJ.out.size));clear b8 HJ
           go_wp2
           go_roundw
           case rel=>exact⟨i+1,by go_num,by omega,HK8⟩
           case measure=>simp[intOf];omega
       · have zi:¬ (i:Int)<(E.length:Int):=by omega
         go_wp2_with fail
         (refine(CBu.out _ (KB.out.1.below HJ.out)).mono ?_)
         rintro e w8 ⟨rfl,b8⟩;have HF:=Lib.hid ((KB.out.2.1.below HJ.out).below b8);clear b8 e4
         go_wp2
         go_ret
         exact⟨rfl,HF.out.b⟩
end Go.Proofs.YtlnfbjbagmfpiaaGreatDoor.Dm
