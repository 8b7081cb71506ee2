/- The law of order: a page's nodes are numbered in document order; each element has its tag's name. -/
import Derived.Test.YtlnfbjbagmfpiaaGreatDoorBlC
set_option maxRecDepth 100000
set_option maxHeartbeats 16000000
namespace Go.Proofs.YtlnfbjbagmfpiaaGreatDoor.Dm
open Go.RowKit
theorem range_inC (i:Nat):inC (natsI (List.range (i+1)))=inC (natsI (List.range i))++[.int .i64 (i:Int)]:=by
 rw[List.range_succ];simp[natsI,inC]
theorem order_hid (L:List Tk)(hl:L.length<=9223372036854775807)(ha:∀ t∈L,t.a.length<=9223372036854775807):Hid (∀ W v,Low W->TokIn W v L->Calls Tryz.prog 8 #[v] W fun e w'=>e=.returned (.bool true)/\Below W.heap.size W w'):=Lib.hid fun w v hlow hv=>by
 have CB:=Lib.hid (bigT_any L v w hv hl ha);obtain⟨i0,hi3,hz0,hz1,hz2⟩:=info_parts Tinfo3;obtain⟨a,c,rfl⟩:=hv.form
 go_enter Tryz.func8,Tryz.ntmps8
 have HV:=Lib.hid (And.intro hlow hv);clear hlow hv
 go_wp2_with fail
 refine CB.out.mono ?_;rintro e w1 ⟨b,rfl,hw1,hb⟩;subst hw1;have HW:=Lib.hid (Below.refl w1.heap.size w1);clear CB
 cases b with
 | true =>
   go_wp2
   go_ret
   exact⟨rfl,HW.out⟩
 | false =>
   have hfit:=fitL_of (hb rfl);clear hb;have CP:=pageB_hid L (by omega) hfit.2;have hfd:=page_fit hfit.2;have htx:=page_ord (l:=L);obtain⟨⟨E,F,er⟩,hP⟩:∃ P,pageM L=P:=⟨_,rfl⟩;rw[hP]at CP hfd htx;have CBu:=builds_hid;have hEl:=hfd.1;have hLl:=hfit.1;have CBe:=gBelow hfd 0;clear hP hl ha hfit hfd;have K0:=Lib.hid (And.intro (HV.out.1) (And.intro (HV.out.2) ((show Bel w1 w1 from HW.out))))
   go_wp2_with fail
   (refine(CP.out _ _ (TokIn.tks K0.out.2.1)).mono ?_)
   rintro e wK1 ⟨a1,c1,v1,rfl,o1,f1,bK1⟩;obtain⟨fa,fc,rfl⟩:=row_form f1;have alK1:=(Below.refl wK1.heap.size wK1).alloc (Nat.le_refl _) (.cells #[.slice a1 E.length c1] 24);have nbK1:=new_block wK1 (.cells #[.slice a1 E.length c1] 24);have K1:=Lib.hid (And.intro (((K0.out.1).below bK1).below alK1) (And.intro (((K0.out.2.1).below bK1).below alK1) (And.intro (((K0.out.2.2).below bK1).below alK1) ((show VX _ _ a1 c1 E from⟨nbK1,o1.g.below alK1⟩)))));clear K0 bK1 alK1 nbK1;clear o1 f1 CP
   by_cases her:er=0
   case neg =>
    have g1:(er != 0)=true:=by rw[bne_iff_ne];exact her
    go_wp2_with fail
    (refine(CBu.out _ K1.out.1).mono ?_)
    rintro e w3 ⟨rfl,b3⟩;have HF:=Lib.hid ((K1.out.2.2.1).below b3);clear b3
    go_wp2
    go_ret
    exact⟨rfl,HF.out.b⟩
   have HTx:=Lib.hid (htx her);subst her;clear htx;obtain⟨R1,hR1⟩:∃ R1,wK1.heap.size=R1:=⟨_,rfl⟩;obtain⟨w5,hw5⟩:∃ w5,wK1.alloc (.cells #[.slice a1 E.length c1] 24)=w5:=⟨_,rfl⟩;rw[hR1,hw5]at K1
   go_wp2
   replace hR1:=Lib.hid hR1;replace hw5:=Lib.hid hw5
   go_loopw [6,7] (fun av j wr=>∃(i:Nat),j=.int .i64 (i:Int)/\i<=E.length/\Hid (Below w5.heap.size w5 wr/\OwnI wr w5.heap.size av (List.range i))) (fun _ j _=>E.length - (intOf j).toNat)
   case atStart=>exact⟨0,rfl,Nat.zero_le _,Lib.hid ⟨Below.refl _ _,World.ownsRow_nil _ _ _ _⟩⟩
   case round =>
    obtain⟨i,rfl,hi,HJ⟩:=hrel;have e0:=(K1.out.2.2.2.below HJ.out.1).c0;obtain⟨la,lc,rfl⟩:=HJ.out.2.form;rw[List.length_range]at *
    by_cases hlt:i<E.length
    · have zi:(i:Int)<(E.length:Int):=by omega
      have al:=(Below.refl wr.heap.size wr).alloc (Nat.le_refl _) (.cells #[.int .i64 (i:Int)] 3);have hro:=RowIn.made wr #[.int .i64 (i:Int)] 3 1 1 rfl (fun x hx=>by simp at hx;rw[hx];rfl);have hsz:=HJ.out.1.size;have hal:=al.size;have h2:=HJ.out.2.below al;unfold OwnI at h2;rw[List.length_range]at h2;have H2:=Lib.hid (And.intro hro (And.intro h2 (HJ.out.1.alloc hsz (.cells #[.int .i64 (i:Int)] 3))));clear al hro h2
      go_wp2_with (at_builtin
                   refine wpList_append_rowG rfl _ _ 37 3 i0 (.int .i64 0) 1 8 Tryz.underlying37 hi3 hz0 hz1 hz2 rfl (by decide) rfl w5.heap.size _ _ _ rfl H2.out.2.1 _ 1 _ rfl H2.out.1 (by unfold maxLen;omega) (by omega) (by omega) ?_;intro v3 w3 hown hgr hblk
                   have H3:Hid (Below w5.heap.size w5 w3/\OwnI w3 w5.heap.size v3 (List.range (i+1))):=Lib.hid ⟨Below.grown H2.out.2.2 hgr (by omega) (fun q hq=>(H2.out.2.1.lt q hq).1),by
                    unfold OwnI;rw[List.length_range,range_inC]
                    exact hown⟩
                   clear hown hgr hblk H2)
      go_roundw
      case rel=>exact⟨i+1,by go_num,by omega,H3⟩
      case measure=>simp[intOf];omega
    · obtain rfl:i=E.length:=by omega
      have HA:=Lib.hid (And.intro HJ.out (And.intro (K1.out.1.below HJ.out.1) (And.intro (K1.out.2.1.below HJ.out.1) (And.intro (K1.out.2.2.1.below HJ.out.1) (K1.out.2.2.2.below HJ.out.1)))));clear HJ K1
      go_wp2
      clear e0;obtain⟨wq,hwq⟩:∃ wq,wq=wr:=⟨_,rfl⟩;subst hwq
      go_loopw [8,9] (fun tv j ws=>∃(u:Nat),tv=.int .i64 (cntK L u:Int)/\j=.int .i64 (u:Int)/\u<=L.length/\Hid (Below wq.heap.size wq ws)) (fun _ j _=>L.length - (intOf j).toNat)
      case atStart=>exact⟨0,by simp[cntK],rfl,Nat.zero_le _,Lib.hid (Below.refl _ _)⟩
      case round =>
       obtain⟨u,rfl,rfl,hu,HB⟩:=hrel;have bm:=HB.out;have e0:=(HA.out.2.2.2.2.below bm).c0
       by_cases hlt:u<L.length
       · have zu:(u:Int)<(L.length:Int):=by omega
         have zu0:(0:Int)<=(u:Int):=by omega
         obtain⟨g,off,av,rfl,c0,c1',c2,c3,c4,c5⟩:=(HA.out.2.2.1.below bm).at hlt;obtain⟨X,hX⟩:=text_of L[u].n;rw[strV_of hX]at c1';have hmo:=cnt_more (List.getElem?_eq_getElem hlt);have hle:=cnt_mono L (show u+1<=L.length by omega);have hlen:=HTx.out.2.2.1;obtain⟨A0,K0,hd0,-⟩:=(HA.out.2.2.2.2.below bm).g
         by_cases hk:laysK L[u]=true
         · rw[if_pos hk]at hmo
           have hnl:cntK L u+1<E.length:=by omega
           obtain⟨Bn,off2,hB,-,y1,-⟩:=hd0.node hnl
           cases hB
           obtain⟨Y,hY⟩:=text_of (E[cntK L u+1]'hnl).n;rw[strV_of hY]at y1
           have hnm:L[u].k=2->Y=X:=fun h2=>by
            have h3:=HTx.out.2.2.2 u L[u] (List.getElem?_eq_getElem hlt) h2;unfold nameN at h3;rw[Nat.add_comm,List.getElem?_eq_getElem hnl]at h3;exact text_ext (hY.trans (h3.trans hX.symm))
           have hkk:L[u].k=1\/L[u].k=4\/L[u].k=2:=by
            unfold laysK at hk;simp only[Bool.or_eq_true,decide_eq_true_eq]at hk;rcases hk with (h | h) | h
            · exact .inl h
            · exact .inr (.inl h)
            · exact .inr (.inr h)
           have hcl:cntK L u<=1000:=by omega
           obtain⟨cu,hcu⟩:∃ cu,cntK L u=cu:=⟨_,rfl⟩;rw[hcu]at hnl y1 hmo hcl ⊢;have zc:¬ ((E.length:Int)<=(cu:Int)+1):=by omega
           have zcd:decide ((E.length:Int)<=(cu:Int)+1)=false:=decide_eq_false zc;have zN:∀ Z:ByteArray,(Z.toList != Z.toList)=false:=fun Z=>by simp
           have zM:∀ Z:ByteArray,(Z.toList==Z.toList)=true:=fun Z=>by simp
           have zc2:(cu:Int)+1<(E.length:Int):=by omega
           have zc3:(0:Int)<=(cu:Int)+1:=by omega
           have HM:=Lib.hid hmo;clear hmo hle hlen hd0 hX hY hk bm hcu c2 c3 c4 c5 hu;rcases hkk with h1 | h1 | h1
           · rw[h1]at c0
             clear h1 hnm
             go_wp2_with fail
             obtain⟨C,hC⟩:∃ C:World->Prop,∀ w',C w'↔(Below wq.heap.size wq w'/\Below wr.heap.size wr w'):=⟨_,fun _=>Iff.rfl⟩;have HC:=Lib.hid hC;clear hC;have hC0:C wr.drew:=(HC.out _).2 ⟨HB.out.drew,(Below.refl _ _).drew⟩;have HQ:=Lib.hid (And.intro e0 (And.intro c0 (And.intro c1' y1)));refine region_class C (by kernel_rfl) (by kernel_rfl) hC0 ?_;clear hC0
             repeat
              first
               | go_big_quiet_skip
               | (go_big_quiet_want;go_big_quiet_op;go_big_quiet_on;try simp only[zcd,zN,zM,Bool.not_true])
               | (refine BigFrame.wpQuiet_want rfl (fun K hK => ?_)
                  apply Exists.intro
                  refine⟨fun w' hc => ?_,hK _ ?_⟩
                  · obtain⟨-,b2⟩:=(HC.out w').1 hc
                    have f0:=(b2.cell (lt_of_cell HQ.out.1)).trans HQ.out.1;have f1:=(b2.cell (lt_of_cell HQ.out.2.1)).trans HQ.out.2.1;have f2:=(b2.cell (lt_of_cell HQ.out.2.2.1)).trans HQ.out.2.2.1;have f3:=(b2.cell (lt_of_cell HQ.out.2.2.2)).trans HQ.out.2.2.2;clear b2;unfold Oper.quietAt
                    go_simp
                    first
                     | done
                     | rfl
                     | exact⟨rfl,hc⟩
                  clear hK K;simp only[Act.put,List.setIfInBounds_toArray,List.set_cons_zero,List.set_cons_succ]
                  try simp only[zcd,zN,zM,Bool.not_true])
             refine wpQuiet_nil ?_;intro w6 hc;have HB6:=Lib.hid ((HC.out w6).1 hc).1;clear hc HC HQ
             go_wp2
             go_roundw
             case rel=>exact⟨u+1,by rw[HM.out];go_num,by go_num,by omega,HB6⟩
             case measure=>simp[intOf];omega
           · rw[h1]at c0
             clear h1 hnm
             go_wp2_with fail
             obtain⟨C,hC⟩:∃ C:World->Prop,∀ w',C w'↔(Below wq.heap.size wq w'/\Below wr.heap.size wr w'):=⟨_,fun _=>Iff.rfl⟩;have HC:=Lib.hid hC;clear hC;have hC0:C wr.drew:=(HC.out _).2 ⟨HB.out.drew,(Below.refl _ _).drew⟩;have HQ:=Lib.hid (And.intro e0 (And.intro c0 (And.intro c1' y1)));refine region_class C (by kernel_rfl) (by kernel_rfl) hC0 ?_;clear hC0
             repeat
              first
               | go_big_quiet_skip
               | (go_big_quiet_want;go_big_quiet_op;go_big_quiet_on;try simp only[zcd,zN,zM,Bool.not_true])
               | (refine BigFrame.wpQuiet_want rfl (fun K hK => ?_)
                  apply Exists.intro
                  refine⟨fun w' hc => ?_,hK _ ?_⟩
                  · obtain⟨-,b2⟩:=(HC.out w').1 hc
                    have f0:=(b2.cell (lt_of_cell HQ.out.1)).trans HQ.out.1;have f1:=(b2.cell (lt_of_cell HQ.out.2.1)).trans HQ.out.2.1;have f2:=(b2.cell (lt_of_cell HQ.out.2.2.1)).trans HQ.out.2.2.1;have f3:=(b2.cell (lt_of_cell HQ.out.2.2.2)).trans HQ.out.2.2.2;clear b2;unfold Oper.quietAt
                    go_simp
                    first
                     | done
                     | rfl
                     | exact⟨rfl,hc⟩
                  clear hK K;simp only[Act.put,List.setIfInBounds_toArray,List.set_cons_zero,List.set_cons_succ]
                  try simp only[zcd,zN,zM,Bool.not_true])
             refine wpQuiet_nil ?_;intro w6 hc;have HB6:=Lib.hid ((HC.out w6).1 hc).1;clear hc HC HQ
             go_wp2
             go_roundw
             case rel=>exact⟨u+1,by rw[HM.out];go_num,by go_num,by omega,HB6⟩
             case measure=>simp[intOf];omega
           · obtain rfl:=hnm h1
             have zY:(Y.toList==Y.toList)=true:=by simp
             rw[h1]at c0;clear h1 hnm
             go_wp2_with fail
             obtain⟨C,hC⟩:∃ C:World->Prop,∀ w',C w'↔(Below wq.heap.size wq w'/\Below wr.heap.size wr w'):=⟨_,fun _=>Iff.rfl⟩;have HC:=Lib.hid hC;clear hC;have hC0:C wr.drew:=(HC.out _).2 ⟨HB.out.drew,(Below.refl _ _).drew⟩;have HQ:=Lib.hid (And.intro e0 (And.intro c0 (And.intro c1' y1)));refine region_class C (by kernel_rfl) (by kernel_rfl) hC0 ?_;clear hC0
             repeat
              first
               | go_big_quiet_skip
               | (go_big_quiet_want;go_big_quiet_op;go_big_quiet_on;try simp only[zcd,zN,zM,Bool.not_true])
               | (refine BigFrame.wpQuiet_want rfl (fun K hK => ?_)
                  apply Exists.intro
                  refine⟨fun w' hc => ?_,hK _ ?_⟩
                  · obtain⟨-,b2⟩:=(HC.out w').1 hc
                    have f0:=(b2.cell (lt_of_cell HQ.out.1)).trans HQ.out.1;have f1:=(b2.cell (lt_of_cell HQ.out.2.1)).trans HQ.out.2.1;have f2:=(b2.cell (lt_of_cell HQ.out.2.2.1)).trans HQ.out.2.2.1;have f3:=(b2.cell (lt_of_cell HQ.out.2.2.2)).trans HQ.out.2.2.2;clear b2;unfold Oper.quietAt
                    go_simp
                    first
                     | done
                     | rfl
                     | exact⟨rfl,hc⟩
                  clear hK K;simp only[Act.put,List.setIfInBounds_toArray,List.set_cons_zero,List.set_cons_succ]
                  try simp only[zcd,zN,zM,Bool.not_true])
             refine wpQuiet_nil ?_;intro w6 hc;have HB6:=Lib.hid ((HC.out w6).1 hc).1;clear hc HC HQ
             go_wp2
             go_roundw
             case rel=>exact⟨u+1,by rw[HM.out];go_num,by go_num,by omega,HB6⟩
             case measure=>simp[intOf];omega
         · rw[if_neg hk,Nat.add_zero]at hmo
           have hk2:L[u].k≠1/\L[u].k≠4/\L[u].k≠2:=by
            unfold laysK at hk;simp only[Bool.or_eq_true,decide_eq_true_eq,not_or]at hk;exact⟨hk.1.1,hk.1.2,hk.2⟩
           have g1:(L[u].k != 1)=true:=by rw[bne_iff_ne];exact hk2.1
           have g2:(L[u].k != 4)=true:=by rw[bne_iff_ne];exact hk2.2.1
           have g3:(L[u].k != 2)=true:=by rw[bne_iff_ne];exact hk2.2.2
           have HM:=Lib.hid hmo;generalize L[u].k=tk at *;clear hmo hle hlen hd0 hX hk bm hk2 c1' c2 c3 c4 c5 hu
           go_wp2
           go_roundw
           case rel=>exact⟨u+1,by rw[HM.out];rfl,by go_num,by omega,HB⟩
           case measure=>simp[intOf];omega
       · obtain rfl:u=L.length:=by omega
         have hat:cntK L L.length=E.length - 1:=by have:=HTx.out.2.2.1;omega
         have hbm:belowM E 0=List.range E.length:=by
          unfold belowM;rw[if_pos (by unfold thereM;simp only[Bool.and_eq_true,decide_eq_true_eq];exact⟨⟨by decide,by have:=HTx.out.2.2.1;omega⟩,check_right.2 HTx.out.1⟩)];exact HTx.out.2.1
         rw[hbm]at CBe;have CI:=gInts (C:=natsI (List.range E.length)) (by rw[natsI_length,List.length_range];omega);have HG:=Lib.hid (And.intro (HA.out.2.1.below bm) (And.intro (HA.out.2.2.2.1.below bm) (And.intro (HA.out.2.2.2.2.below bm) ((HA.out.1.2.below bm).in'))));have hpos:0<E.length:=by have:=HTx.out.2.2.1;omega
         have zl:IntKind.i64.wrap ((E.length:Int) - 1)=((E.length - 1:Nat):Int):=by rw[IntWalk.i64_in _ (by omega)];omega
         rw[hat];obtain⟨me,hme⟩:∃ me,E.length - 1=me:=⟨_,rfl⟩;rw[hme]at zl ⊢;have zmm:((me:Int)==(me:Int))=true:=by simp
         clear HA hat hbm bm HTx hme
         go_wp2_with fail
         (refine(CBu.out _ HG.out.1).mono ?_)
         rintro e w6 ⟨rfl,b6⟩;have H6:=Lib.hid (And.intro (HG.out.2.1.below b6) (And.intro (HG.out.2.2.1.below b6) (HG.out.2.2.2.below b6)));clear b6 e0 HG;have e1:=H6.out.2.1.c0
         go_wp2_with fail
         (refine(CBe.out _ _ H6.out.2.1.g).mono ?_)
         rintro e w7 ⟨v7,rfl,o7,b7⟩;obtain⟨ba,bc,rfl⟩:=o7.form;rw[List.length_range]at o7 ⊢;have H7:=Lib.hid (And.intro (H6.out.1.below b7) (And.intro (H6.out.2.2.below b7) o7.in'));clear b7 e1 H6 o7
         go_wp2_with fail
         (refine(CI.out _ _ _ H7.out.2.2 H7.out.2.1).mono ?_)
         rintro e w8 ⟨rfl,b8⟩;have HF:=Lib.hid (H7.out.1.below b8);clear b8
         go_wp2
         go_ret
         exact⟨rfl,HF.out.b⟩
end Go.Proofs.YtlnfbjbagmfpiaaGreatDoor.Dm
