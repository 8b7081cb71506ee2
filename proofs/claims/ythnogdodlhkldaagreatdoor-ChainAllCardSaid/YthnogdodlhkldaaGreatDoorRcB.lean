/- Words are parsed as a row of sources, the document's way. The sources that count for a kind, in a policy: the document's. -/
import Derived.Test.YthnogdodlhkldaaGreatDoorParE
import Derived.Test.YthnogdodlhkldaaGreatDoorRcA
set_option maxRecDepth 100000
set_option maxHeartbeats 8000000
namespace Go.Proofs.YthnogdodlhkldaaGreatDoor
open Go.RowKit
theorem aA2 (Q:List (List UInt8))(v:Value)(hl:∀ l∈Q,l.length<=10000)(hn:Q.length<=1000000)(w:World)(hv:aR w v Q) :
 Calls Tryz.prog 39 #[v] w fun e w'=>∃ u,e=.returned u/\w'.ownsRow w.heap.size 75 7 u (bF Q).length (eJ (bF Q))/\Below w.heap.size w w':=by
 obtain⟨a0,c0,rfl⟩:=hv.form;have HV:=zH hv;have HL:=zH hl;clear hv hl
 go_enter Tryz.func39,Tryz.ntmps39
 go_wp2
 have hown0:=World.ownsRow_nil w w.heap.size 75 7;obtain⟨i0,hi,hz0,hz1,hz2⟩:=info_parts oG
 go_loopw [3,4] (fun u i wr=>∃ k:Nat,k<=Q.length/\i=.int .i64 k/\wr.ownsRow w.heap.size 75 7 u (bF (Q.take k)).length (eJ (bF (Q.take k)))/\Below w.heap.size w wr) (fun _ i _=>Q.length - (intOf i).toNat)
 case atStart=>exact⟨0,Nat.zero_le _,rfl,hown0,zB _ _⟩
 case round =>
  obtain⟨k,hk,rfl,hown,hb⟩:=hrel
  by_cases hlt:k<Q.length
  · have hvr:=HV.out.below hb
    obtain⟨Wt,hWt⟩:∃ T:ByteArray,T.data.toList=Q[k]:=⟨⟨Q[k].toArray⟩,rfl⟩;have hWs:Wt.size<=10000:=by rw[<- aE,hWt];exact HL.out _ (List.getElem_mem hlt)
    obtain⟨A,off,cap,hsl,hcell⟩:∃ B off cap,Value.slice a0 Q.length c0=.slice (some ⟨B,off,none⟩) Q.length cap/\wr.cell? ⟨B,off+k,none⟩=some (.string Wt):=by
     rcases hvr with ⟨_,h2⟩ | ⟨B,off,cap,h1,h2⟩
     · rw[h2]at hlt;cases hlt
     · refine⟨B,off,cap,h1,?_⟩
       rw[h2 k hlt,<- hWt,lP]
    injection hsl with e1 _ e3
    subst e1;subst e3;have hadd:(⟨A,off,none⟩:Addr).add k=⟨A,off+k,none⟩:=by simp[Addr.add]
    obtain⟨K,t,s,h,b,p,pa,r,hM,hsome,CP⟩:=bC8 Wt hWs;rw[hWt]at hM hsome
    have HN:Hid (bF (Q.take (k+1))=if r then bF (Q.take k)++[aJ K t s h b p pa] else bF (Q.take k)):=zH (by
     rw[List.take_succ_eq_append_getElem hlt,sB]
     cases hp:cP Q[k]with
     | none=>rw[hp]at hsome;subst hsome;rfl
     | some a=>rw[hp]at hsome hM;subst hsome;rw[hM];rfl)
    have hlen:=fS (Q.take k);rw[List.length_take]at hlen;clear hM hsome hWt hWs hvr
    cases r
    · go_wp2_with fail
      refine(CP.out _).mono ?_;rintro e w1 ⟨rfl,b1⟩;have hown1:=aX hown b1;have hb1:=hb.trans (b1.mono hb.size);clear hown hb b1;have HN2:Hid (bF (Q.take (k+1))=bF (Q.take k)):=zH HN.out;have hown2:=aX hown1 ((zB _ _).alloc (zL _) (.cells #[.int .i64 K,.string t,.string s,.string h,.bool b,.int .i64 p,.string pa] 75));have hb2:=hb1.alloc hb1.size (.cells #[.int .i64 K,.string t,.string s,.string h,.bool b,.int .i64 p,.string pa] 75);unfold aP
      go_wp2
      go_roundw
      case rel=>exact⟨k+1,by omega,by go_num,by rw[HN2.out];exact hown2,hb2⟩
      case measure=>simp[intOf];omega
    · go_wp2_with fail
      refine(CP.out _).mono ?_;rintro e w1 ⟨rfl,b1⟩;have hown1:=aX hown b1;have hb1:=hb.trans (b1.mono hb.size);clear hown hb b1;have HN2:Hid (bF (Q.take (k+1))=bF (Q.take k)++[aJ K t s h b p pa]):=zH HN.out;have x2:=SX.made w1 K t s h b p pa;have hown2:=aX hown1 ((zB _ _).alloc (zL _) (.cells #[.int .i64 K,.string t,.string s,.string h,.bool b,.int .i64 p,.string pa] 75));have hb2:=hb1.alloc hb1.size (.cells #[.int .i64 K,.string t,.string s,.string h,.bool b,.int .i64 p,.string pa] 75);unfold aP;have HNEW:=sO (w1.alloc (.cells #[.int .i64 K,.string t,.string s,.string h,.bool b,.int .i64 p,.string pa] 75)) [.int .i64 K,.string t,.string s,.string h,.bool b,.int .i64 p,.string pa] 75;rw[aV]at HNEW;have hsz:=aV w1 (.cells #[.int .i64 K,.string t,.string s,.string h,.bool b,.int .i64 p,.string pa] 75)
      go_wp2_with (at_builtin;refine wpList_append_own _ rfl _ _ 29 rfl w.heap.size 75 i0 (.agg #[.int .i64 0,.string ⟨#[]⟩,.string ⟨#[]⟩,.string ⟨#[]⟩,.bool false,.int .i64 0,.string ⟨#[]⟩]) 7 88 Tryz.underlying29 hi hz0 hz1 hz2 rfl (by decide) _ _ _ rfl (hown2.alloc _) ⟨w1.heap.size+1,0,none⟩ 1 1 [.int .i64 K,.string t,.string s,.string h,.bool b,.int .i64 p,.string pa] rfl rfl HNEW (fun u hu=>by simp at hu;rcases hu with rfl | rfl | rfl | rfl | rfl | rfl | rfl<;>rfl) (by unfold maxLen;omega) (by omega) (by have:=hb2.size;simp only[aV];simp only[aV]at this;omega) ?_;intro v' w5 hown' hgrow5 hnil5
                   have hb5:Below w.heap.size w w5:=Below.grown (hb2.alloc hb2.size _) hgrow5 (by have:=hb2.size;simp only[aV];simp only[aV]at this;omega) (fun j hj=>by have:=(hown2.lt _ hj).1;omega);have X:AsideM (w5.ownsRow w.heap.size 75 7 v' ((bF (Q.take k)).length+1) (eJ (bF (Q.take k))++[.int .i64 K,.string t,.string s,.string h,.bool b,.int .i64 p,.string pa])/\Below w.heap.size w w5):=⟨hown',hb5⟩
                   clear hown' hgrow5 hnil5)
      go_roundw
      case rel=>exact⟨k+1,by omega,by go_num,by rw[HN2.out,List.length_append,rH,jR];exact X.out.1,X.out.2⟩
      case measure=>simp[intOf];omega
  · obtain rfl:k=Q.length:=by omega
    have hown2:wr.ownsRow w.heap.size 75 7 u3 (bF Q).length (eJ (bF Q)):=by
     rw[List.take_length]at hown;exact hown
    clear hown
    go_wp2
    go_ret
    exact⟨_,rfl,hown2,hb⟩
end Go.Proofs.YthnogdodlhkldaaGreatDoor
namespace Go.Proofs.YthnogdodlhkldaaGreatDoor
open Go.RowKit
theorem uK (ds:List D)(dv:Value)(r:Bool)(k:Int)(hf:eX ds)(w:World)(hd:aU w dv ds):Calls Tryz.prog 14 #[dX dv r,.int .i64 k] w (mC ds (bL k) w):=by
 obtain⟨a,c,rfl⟩:=hd.form;unfold dX;have CN:=pR k;have hnl:=lS k;have hn15:∀ n∈bL k,n.length<=15:=fun n h=>(oR k n h).2;generalize bL k=ns at CN hnl hn15 ⊢;have HNW:=zH hn15;clear hn15;have HF:=zH hf;have x1:=PX.made w (.slice a ds.length c) r;have B1:Below w.heap.size w (w.alloc (.cells #[.slice a ds.length c,.bool r] 24)):=(zB _ _).alloc (zL _) _;have H1:=zH (And.intro x1 (And.intro B1 (hd.below B1)));clear hf hd x1 B1
 go_enter Tryz.func14,Tryz.ntmps14
 go_wp2_with fail
 generalize hR:w.heap.size=R at H1 ⊢;have HR:=zH hR;clear hR;generalize w.alloc (.cells #[.slice a ds.length c,.bool r] 24)=w1 at H1 ⊢;refine(CN.out _).mono ?_;rintro e w2 ⟨u,rfl,own2,b2⟩;obtain⟨a2,c2,rfl⟩:=(aR.of_row own2).form;have H2:=zH (And.intro (H1.out.1.below b2) (And.intro (H1.out.2.1.trans (b2.mono (zT H1.out.1.lt))) (And.intro (H1.out.2.2.below b2) (aR.of_row own2))));have B0:Below w2.heap.size w2 w2:=zB _ _;have hsz:R<=w2.heap.size:=zT H2.out.1.lt;clear H1 CN own2 b2
 go_wp2_with fail
 go_loopw [8] (fun i wr=>∃ j:Nat,j<=ns.length/\i=.int .i64 j/\Hid (∀ q,(h:q<ns.length)->q<j->cN ds ns[q]=none)/\Below w2.heap.size w2 wr) (fun i _=>ns.length - (intOf i).toNat)
 case atStart=>exact⟨0,Nat.zero_le _,rfl,fun q _ h=>absurd h (Nat.not_lt_zero _),B0⟩
 case round =>
  clear B0;obtain⟨j,hj,rfl,HS,hb⟩:=hrel;obtain⟨x2,B2,hd2,ht2⟩:=H2.out;have x3:=x2.below hb;have c0:=x3.c0;have c1:=x3.c1;have Br:Below R w wr:=B2.trans (hb.mono hsz);have hdr:=hd2.below hb;have htr:=ht2.below hb;have hRr:R<=wr.heap.size:=Nat.le_trans hsz hb.size;clear x2 B2 hd2 ht2
  by_cases hlt:j<ns.length
  · obtain⟨B,off,rfl,kc⟩:=htr.at hlt
    have HN:Hid (cN ds ns[j]=none->∀ q,(h:q<ns.length)->q<j+1->cN ds ns[q]=none):=zH fun h q hq hqj=>by
     by_cases e:q=j
     · subst e;exact h
     · exact HS.out q hq (by omega)
    have HY:Hid (∀ ws,cN ds ns[j]=some ws->gW ds ns=some (ws,ns[j])):=zH fun ws h=>xN ds ns j hlt ws HS.out h;have hx15:=HNW.out _ (List.getElem_mem hlt);have hix:(j:Int)<(ns.length:Int):=by omega
    generalize ns[j]=nm at kc HN HY hx15;unfold dA at kc;obtain⟨X,hX⟩:∃ X:ByteArray,X=⟨nm.toArray⟩:=⟨_,rfl⟩;rw[<- hX]at kc;have hXd:X.data.toList=nm:=by rw[hX]
    rw[<- hXd]at HN HY;have CF:=aA7 ds (.slice a ds.length c) r X wr.drew hdr HF.out.1 (fun d hd=>(HF.out.2 d hd).1) (by rw[<- aE,hXd];omega);unfold dX at CF;have H3:=zH (And.intro x3 (And.intro Br (And.intro hdr (And.intro htr hb))));have kc_:=kc;have c0_:=c0;have c1_:=c1;clear hX hXd hx15 HS
    cases hfd:cN ds X.data.toList with
    | none =>
      rw[hfd]at CF
      have CF2:Hid (Calls Tryz.prog 38 #[.agg #[.slice a ds.length c,.bool r],.string X] wr.drew fun e w'=>e=.returned (.tuple #[.slice none 0 0,.bool false])/\Below wr.drew.heap.size wr.drew w'):=zH (CF.mono fun e w' h=>by
       obtain⟨h1,h2⟩:=h;rcases h2 with ⟨_,h2⟩ | ⟨ws,v,h2,_⟩
       · exact⟨h2,h1⟩
       · cases h2)
      have HM:=zH (HN.out hfd);clear CF HN HY hfd Br hdr htr hb x3
      go_wp2_with fail
      go_region_law (first
       | (go_simp
          go_at_call 38
          (with_reducible refine CF2.out.mono ?_)
          rintro e w4 ⟨rfl,b4⟩;have b5:Below wr.heap.size wr w4:=((zB wr.heap.size wr).drew).trans b4;have kc4:w4.cell? ⟨B,off+j,none⟩=some (.string X):=(b5.cell (aH kc_)).trans kc_;have c04:=(H3.out.1.below b5).c0;have c14:=(H3.out.1.below b5).c1;have H4:Aside (Below wr.heap.size wr w4):=b5
          clear b4 b5))
      all_goals
       have hb4:=H3.out.2.2.2.2.trans (H4.out.mono H3.out.2.2.2.2.size);have HB4:=zH hb4;clear hb4 kc kc_ c0 c0_ c1 c1_ kc4 c04 c14 H3 H4 CF2
       go_wp2
       go_roundw
       case rel=>exact⟨j+1,by omega,by go_num,HM,HB4.out⟩
       case measure=>simp[intOf];omega
    | some ws =>
      rw[hfd]at CF
      have CF2:Hid (Calls Tryz.prog 38 #[.agg #[.slice a ds.length c,.bool r],.string X] wr.drew fun e w'=>∃ fa fc,e=.returned (.tuple #[.slice fa ws.length fc,.bool true])/\aR w' (.slice fa ws.length fc) ws/\Below wr.drew.heap.size wr.drew w'):=zH (CF.mono fun e w' h=>by
       obtain⟨h1,h2⟩:=h;rcases h2 with ⟨h2,_⟩ | ⟨us,v,h2,h3,h4⟩
       · cases h2
       · obtain rfl:=Option.some.inj h2
         obtain⟨fa,fc,rfl⟩:=h4.form
         exact⟨fa,fc,h3,h4,h1⟩)
      have HM:=zH (HY.out ws hfd);obtain⟨l1,l2⟩:=nU HF.out hfd;have HL:=zH (And.intro l1 l2);clear CF HN HY hfd Br hdr htr hb x3 l1 l2
      go_wp2_with fail
      go_region_law (first
       | (go_simp
          go_at_call 38
          (with_reducible refine CF2.out.mono ?_)
          rintro e w4 ⟨fa,fc,rfl,t4,b4⟩;have b5:Below wr.heap.size wr w4:=((zB wr.heap.size wr).drew).trans b4;have kc4:w4.cell? ⟨B,off+j,none⟩=some (.string X):=(b5.cell (aH kc_)).trans kc_;have c04:=(H3.out.1.below b5).c0;have c14:=(H3.out.1.below b5).c1;have H4:Aside (Below wr.heap.size wr w4/\aR w4 (.slice fa ws.length fc) ws):=⟨b5,t4⟩
          clear b4 b5 t4))
      all_goals
       have CL:=zH (aA2 ws (.slice fa ws.length fc) HL.out.2 HL.out.1 w4.drew H4.out.2);have B4:=zH (H3.out.2.1.trans (H4.out.1.mono hRr));have hR4:=Nat.le_trans hRr H4.out.1.size;clear kc kc_ c0 c0_ c1 c1_ c04 c14 H3 H4 CF2;have kc5:=kc4
       go_wp2_with fail
       go_region_law (first
        | (go_simp
           go_at_call 39
           (with_reducible refine CL.out.mono ?_)
           rintro e w6 ⟨u6,rfl,own6,b6⟩;have b7:Below w4.heap.size w4 w6:=((zB w4.heap.size w4).drew).trans b6;have kc6:w6.cell? ⟨B,off+j,none⟩=some (.string X):=(b7.cell (aH kc5)).trans kc5;have H6:Aside (Below w4.heap.size w4 w6/\aK w6 u6 (bF ws)):=⟨b7,aK.of_row own6⟩
           clear b6 b7 own6))
       all_goals
        clear kc4 kc5 kc6 CL
        go_wp2
        go_ret3
        exact⟨by rw[HR.out];exact B4.out.trans (H6.out.1.mono hR4),.inr ⟨ws,X,u6,HM.out,rfl,H6.out.2⟩⟩
  · obtain rfl:j=ns.length:=by omega
    have HM:Hid (gW ds ns=none):=zH (nW ds ns fun q hq=>HS.out q hq hq);have HBr:=zH Br;clear HS Br hdr htr hb x3
    go_wp2
    go_ret3
    exact⟨by rw[HR.out];exact HBr.out,.inl ⟨HM.out,rfl⟩⟩
end Go.Proofs.YthnogdodlhkldaaGreatDoor
