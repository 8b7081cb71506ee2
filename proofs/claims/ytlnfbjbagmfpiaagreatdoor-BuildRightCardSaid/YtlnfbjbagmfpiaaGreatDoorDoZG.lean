/- The document's own: does a node stand where it says; does one come from it to one that stands nowhere. The document's own Check; is a node there. The document's own: is a node there; is it another one, or below it; is it in; the place of an attribute; its value. The document's own: the place of an attribute; its value. The document's own: a node and all below it. The document's own: the text of a node and all below it. The document's own: a node in memory of its own. The document's own: a document in memory of its own. -/
import Derived.Deep.RegionWith
import Derived.Test.YtlnfbjbagmfpiaaGreatDoorDoZA
set_option maxRecDepth 100000
set_option maxHeartbeats 16000000
namespace Go.Proofs.YtlnfbjbagmfpiaaGreatDoor.Dm
open Go.RowKit
theorem DocIn.boxed {w w':World}{R:Nat}{sl:Value}{D:List Nd}{A K:Nat->Value}(h:DocIn w sl D A K)(b:w.heap[R]? = some (.cells #[sl] 24 (0,0)))(hb:Below w.heap.size w w'):DocIn w' sl D A K/\w'.heap[R]? = some (.cells #[sl] 24 (0,0)):=⟨h.below hb,(hb.block _ (lt_of_block b)).trans b⟩
theorem par_at {D:List Nd}{i:Nat}(h:i<D.length):par D i=D[i].p:=par_some (List.getElem?_eq_getElem h)
theorem kid_at {D:List Nd}{i:Nat}(h:i<D.length):kid D i=D[i].c:=kid_some (List.getElem?_eq_getElem h)
theorem holds_at {D:List Nd}{i:Nat}(h:i<D.length):holds D i=holdM D[i]:=holds_some (List.getElem?_eq_getElem h)
theorem natCast_eq (n k:Nat):((n:Int)==(k:Int))=decide (n=k):=by
 by_cases h:n=k
 · rw[h];simp
 · rw[decide_eq_false h];simp;omega
theorem placed_hid (D:List Nd)(hf:FitD D)(i:Nat)(hi:i<D.length):Hid (∀ W sl A K,DocIn W sl D A K->Calls Tryz.prog 84 #[.agg #[sl],.int .i64 (i:Int)] W fun e w'=>e=.returned (.bool (placedB D i))/\Below W.heap.size W w'):=Lib.hid fun w sl A K hd=>by
 obtain⟨a,c,rfl⟩:=hd.form;obtain⟨d1,b1,l1⟩:=docBox w hd;have hfl:=hf.1;have CT:=times_hid D hf i;generalize hw1:w.alloc (.cells #[.slice a D.length c] 24)=w1 at d1 b1 l1;obtain⟨R,hR⟩:∃ R,w.heap.size=R:=⟨_,rfl⟩;have b1':=b1;rw[hR]at b1';have e0:=cell_of b1' 0;have zi:(i:Int)<(D.length:Int):=by omega
 obtain⟨B,off,rfl,c0,c1,c2,c3,c4,c5,c6,c7⟩:=d1.node hi;have H1:=Lib.hid (And.intro d1 (And.intro b1' l1));unfold placedB;rw[par_at hi];obtain⟨y,hy⟩:∃ y,D[i].p=y:=⟨_,rfl⟩;rw[hy]at c4 ⊢;clear hd d1 b1 b1' l1 c0 c1 c2 c3 c5 c6 c7 hy
 by_cases h1:y = -1
 · subst h1
   rw[if_pos rfl]
   go_enter Tryz.func84,Tryz.ntmps84
   go_wp2_with fail
   (refine(CT.out _ _ _ _ H1.out.1).mono ?_)
   rintro e w2 ⟨rfl,b2⟩;have H2:=Lib.hid (H1.out.2.2.trans (b2.mono H1.out.2.2.size));clear b2 hw1
   by_cases ht:timesM D i=0
   · have e1:((timesM D i:Nat):Int)=0:=by omega
     rw[e1]
     go_wp2
     go_ret
     exact⟨by rw[decide_eq_true ht];rfl,by first | exact H2.out | (rw[<- hR];exact H2.out)⟩
   · have zt2:(((timesM D i:Nat):Int)==0)=false:=by simp;omega
     go_wp2
     go_ret
     exact⟨by rw[decide_eq_false ht];rfl,by first | exact H2.out | (rw[<- hR];exact H2.out)⟩
 · rw[if_neg h1]
   have g1:(y == -1)=false:=by simp[h1]
   by_cases hi0:i=0
   · subst hi0
     rw[decide_eq_false (Nat.lt_irrefl 0)];simp only[Bool.false_and]
     go_enter Tryz.func84,Tryz.ntmps84
     go_wp2
     go_ret
     exact⟨rfl,by first | exact H1.out.2.2 | (rw[<- hR];exact H1.out.2.2)⟩
   have zi0:(0:Int)<(i:Int):=by omega
   rw[decide_eq_true (show 0<i by omega)]
   by_cases hy0:y<0
   · rw[decide_eq_false (show ¬ (0<=y) by omega)]
     simp only[Bool.and_false,Bool.false_and];have zy:¬ (0<=y):=by omega
     go_enter Tryz.func84,Tryz.ntmps84
     go_wp2
     go_ret
     exact⟨rfl,by first | exact H1.out.2.2 | (rw[<- hR];exact H1.out.2.2)⟩
   obtain⟨q,rfl⟩:∃ q:Nat,y=(q:Int):=⟨y.toNat,by omega⟩
   by_cases hq:q<D.length
   · have zq:(q:Int)<(D.length:Int):=by omega
     have zq0:(0:Int)<=(q:Int):=by omega
     rw[decide_eq_true zq0,decide_eq_true zq,Int.toNat_natCast,holds_at hq,kid_at hq];simp only[Bool.true_and];have CH:=holdsV_hid D[q];have CS:=has_hid D hf q (i:Int) hq;obtain⟨B',off',hB,q0,q1,q2,q3,q4,q5,q6,q7⟩:=H1.out.1.node hq
     cases hB
     obtain⟨N,hN⟩:=text_of D[q].n;obtain⟨T,hT⟩:=text_of D[q].d;unfold nodeV at CH;rw[strV_of hN,strV_of hT]at CH;rw[strV_of hN]at q1;rw[strV_of hT]at q2;generalize hxk:D[q].k=xk at q0;generalize hxp:D[q].p=xp at q4;generalize hxb:D[q].b=xb at q6;generalize hxs:D[q].s=xs at q7;rw[hxk,hxp,hxb,hxs]at CH;generalize holdM D[q]=hm at CH ⊢;generalize hhs:decide ((i:Int)∈D[q].c)=hs at CS ⊢;clear hxk hxp hxb hxs hN hT hhs
     go_enter Tryz.func84,Tryz.ntmps84
     go_wp2_with fail
     clear hw1
     (refine(CH.out _ _ _).mono ?_)
     rintro e w2 ⟨rfl,b2⟩;obtain⟨d2,bx2⟩:=H1.out.1.boxed H1.out.2.1 b2;have e0:=cell_of bx2 0;have H2:=Lib.hid (And.intro d2 (And.intro bx2 (H1.out.2.2.trans (b2.mono H1.out.2.2.size))));clear b2 d2 bx2 H1 c4 q0 q1 q2 q3 q4 q5 q6 q7 CH
     cases hm with
     | false =>
       go_wp2
       go_ret
       exact⟨rfl,by first | exact H2.out.2.2 | (rw[<- hR];exact H2.out.2.2)⟩
     | true =>
       go_wp2_with fail
       (refine(CS.out _ _ _ _ H2.out.1).mono ?_)
       rintro e w3 ⟨rfl,b3⟩;obtain⟨d3,bx3⟩:=H2.out.1.boxed H2.out.2.1 b3;have e0:=cell_of bx3 0;have H3:=Lib.hid (And.intro d3 (And.intro bx3 (H2.out.2.2.trans (b3.mono H2.out.2.2.size))));clear b3 d3 bx3 H2 CS
       cases hs with
       | false =>
         go_wp2
         go_ret
         exact⟨rfl,by first | exact H3.out.2.2 | (rw[<- hR];exact H3.out.2.2)⟩
       | true =>
         go_wp2_with fail
         (refine(CT.out _ _ _ _ H3.out.1).mono ?_)
         rintro e w4 ⟨rfl,b4⟩;have H4:=Lib.hid (H3.out.2.2.trans (b4.mono H3.out.2.2.size));clear b4 H3 CT
         by_cases ht:timesM D i=1
         · have e1:((timesM D i:Nat):Int)=1:=by omega
           rw[e1]
           go_wp2
           go_ret
           exact⟨by rw[decide_eq_true ht];rfl,by first | exact H4.out | (rw[<- hR];exact H4.out)⟩
         · have zt2:(((timesM D i:Nat):Int)==1)=false:=by simp;omega
           go_wp2
           go_ret
           exact⟨by rw[decide_eq_false ht];rfl,by first | exact H4.out | (rw[<- hR];exact H4.out)⟩
   · have zq:¬ (q:Int)<(D.length:Int):=by omega
     rw[decide_eq_false zq];simp only[Bool.and_false,Bool.false_and];have zq0:(0:Int)<=(q:Int):=by omega
     go_enter Tryz.func84,Tryz.ntmps84
     go_wp2
     go_ret
     exact⟨rfl,by first | exact H1.out.2.2 | (rw[<- hR];exact H1.out.2.2)⟩
end Go.Proofs.YtlnfbjbagmfpiaaGreatDoor.Dm
namespace Go.Proofs.YtlnfbjbagmfpiaaGreatDoor.Dm
open Go.RowKit
theorem ends_hid (D:List Nd)(hf:FitD D)(hp:∀ j,j<D.length->par D j = -1\/∃ q:Nat,par D j=q/\q<D.length)(i:Nat)(hi:i<D.length):Hid (∀ W sl A K,DocIn W sl D A K->Calls Tryz.prog 85 #[.agg #[sl],.int .i64 (i:Int)] W fun e w'=>e=.returned (.bool (endF D (D.length+1) i))/\Below W.heap.size W w'):=Lib.hid fun w sl A K hd=>by
 obtain⟨a,c,rfl⟩:=hd.form;obtain⟨d1,b1,l1⟩:=docBox w hd;have hfl:=hf.1;generalize hw1:w.alloc (.cells #[.slice a D.length c] 24)=w1 at d1 b1 l1;have e0:=cell_of b1 0;have H1:=Lib.hid (And.intro d1 l1);have HP:=Lib.hid hp;clear hd d1 b1 l1 hf hp
 go_enter Tryz.func85,Tryz.ntmps85
 go_wp2
 clear hw1;generalize w.heap.size=R at e0 ⊢
 go_loopw [1,5] (fun i' k wr=>∃(t u:Nat),k=.int .i64 u/\u<=D.length+1/\i'=.int .i64 t/\Hid (t<D.length/\endF D (D.length+1) i=endF D (D.length+1 - u) t)/\wr=w1) (fun _ k _=>D.length+1 - (intOf k).toNat)
 case atStart=>exact⟨i,0,rfl,Nat.zero_le _,rfl,Lib.hid ⟨hi,rfl⟩,rfl⟩
 case round =>
  obtain⟨t,u,rfl,hu,rfl,HT,rfl⟩:=hrel
  by_cases hlt:u<=D.length
  · have ht:=HT.out.1
    obtain⟨B,off,rfl,c0,c1,c2,c3,c4,c5,c6,c7⟩:=H1.out.1.node ht;have zu:(u:Int)<=(D.length:Int):=by omega
    have zt:(t:Int)<(D.length:Int):=by omega
    have hpt:=HP.out t ht
    have hE:endF D (D.length+1 - u) t=(decide (par D t = -1) || endF D (D.length - u) (par D t).toNat):=by
     rw[show D.length+1 - u=(D.length - u)+1 by omega];rfl
    rw[par_at ht]at hpt hE;obtain⟨y,hy⟩:∃ y,D[t].p=y:=⟨_,rfl⟩;rw[hy]at c4 hpt hE;have HE:=Lib.hid hE;clear c0 c1 c2 c3 c5 c6 c7 hy hE
    by_cases h1:y = -1
    · subst h1
      have HR:Hid (endF D (D.length+1) i=true):=Lib.hid (by rw[HT.out.2,HE.out];rfl);clear hpt
      go_wp2
      go_ret
      exact⟨by rw[HR.out];rfl,H1.out.2⟩
    · have g1:(y == -1)=false:=by simp[h1]
      obtain⟨q,rfl,hq⟩:∃ q:Nat,y=q/\q<D.length:=by
       rcases hpt with h | h
       · exact absurd h h1
       · exact h
      have HR:Hid (q<D.length/\endF D (D.length+1) i=endF D (D.length+1 - (u+1)) q):=Lib.hid ⟨hq,by rw[HT.out.2,HE.out,decide_eq_false h1,Bool.false_or,Int.toNat_natCast,show D.length+1 - (u+1)=D.length - u by omega]⟩;clear hpt h1
      go_wp2
      go_roundw
      case rel=>exact⟨q,u+1,by go_num,by omega,rfl,HR,trivial⟩
      case measure=>simp[intOf];omega
  · obtain rfl:u=D.length+1:=by omega
    have zu:¬ ((D.length+1:Nat):Int)<=(D.length:Int):=by omega
    have HR:Hid (endF D (D.length+1) i=false):=Lib.hid (by rw[HT.out.2,Nat.sub_self];rfl)
    go_wp2
    go_ret
    exact⟨by rw[HR.out];rfl,H1.out.2⟩
theorem form_ends {D:List Nd}(hl:D.length<=300)(h1:1<=D.length)(h0:par D 0 = -1)(hn:∀ j (h:j<D.length),nodeB D j D[j]=true)(hp:∀ j,j<D.length->placedB D j=true)(he:∀ j,j<D.length->endF D (D.length+1) j=true):checkM D=0:=by
 have e:formB D=true:=by
  unfold formB;simp only[Bool.and_eq_true,decide_eq_true_eq,List.all_eq_true,List.mem_range];refine⟨⟨⟨⟨h1,h0⟩,fun j hj => ?_⟩,hp⟩,he⟩;rw[List.getElem?_eq_getElem hj];exact hn j hj
 unfold checkM;rw[if_neg (by omega),e];rfl
theorem form_not {D:List Nd}(hl:D.length<=300)(h:formB D=false):checkM D=171:=by
 unfold checkM;rw[if_neg (by omega),h];rfl
theorem form_one {D:List Nd}(h:D.length=0\/par D 0 ≠ -1):formB D=false:=by
 unfold formB;rcases h with h | h
 · rw[decide_eq_false (by omega)];simp only[Bool.false_and]
 · rw[decide_eq_false h];simp only[Bool.and_false,Bool.false_and]
theorem form_two {D:List Nd}{j:Nat}(hj:j<D.length)(h:nodeB D j D[j]=false):formB D=false:=by
 cases e:formB D with
 | false=>rfl
 | true =>
   exfalso
   unfold formB at e;simp only[Bool.and_eq_true,List.all_eq_true,List.mem_range]at e;have h1:=e.1.1.2 j hj;rw[List.getElem?_eq_getElem hj]at h1;simp only at h1;rw[h]at h1
   cases h1
theorem form_three {D:List Nd}{j:Nat}(hj:j<D.length)(h:placedB D j=false):formB D=false:=by
 unfold formB
 have e:((List.range D.length).all (placedB D))=false:=by
  rw[List.all_eq_false];exact⟨j,List.mem_range.2 hj,by rw[h];simp⟩
 rw[e];simp only[Bool.and_false,Bool.false_and]
theorem form_four {D:List Nd}{j:Nat}(hj:j<D.length)(h:endF D (D.length+1) j=false):formB D=false:=by
 unfold formB
 have e:((List.range D.length).all (endF D (D.length+1)))=false:=by
  rw[List.all_eq_false];exact⟨j,List.mem_range.2 hj,by rw[h];simp⟩
 rw[e];simp only[Bool.and_false]
theorem placed_par {D:List Nd}(h:∀ j,j<D.length->placedB D j=true):∀ j,j<D.length->par D j = -1\/∃ q:Nat,par D j=q/\q<D.length:=fun j hj=>by
 have h1:=h j hj;unfold placedB at h1
 by_cases e:par D j = -1
 · exact .inl e
 · rw[if_neg e]at h1
   simp only[Bool.and_eq_true,decide_eq_true_eq]at h1;exact .inr ⟨(par D j).toNat,by omega,by omega⟩
theorem check_hid (D:List Nd)(hf:FitD D):Hid (∀ W sl A K,DocIn W sl D A K->Calls Tryz.prog 50 #[.agg #[sl]] W fun e w'=>e=.returned (.int .i64 (checkM D))/\Below W.heap.size W w'):=Lib.hid fun w sl A K hd=>by
 obtain⟨a,c,rfl⟩:=hd.form;obtain⟨d1,b1,l1⟩:=docBox w hd;have hfl:=hf.1;generalize hw1:w.alloc (.cells #[.slice a D.length c] 24)=w1 at d1 b1 l1;have e0:=cell_of b1 0;have H1:=Lib.hid (And.intro d1 (And.intro b1 l1));have HF:=Lib.hid hf;clear hd d1 b1 l1 hf
 by_cases hbig:300<D.length
 · have z1:(300:Int)<(D.length:Int):=by omega
   have HE:Hid (checkM D=2):=Lib.hid (by unfold checkM;rw[if_pos hbig])
   go_enter Tryz.func50,Tryz.ntmps50
   go_wp2
   go_ret
   exact⟨by rw[HE.out];rfl,H1.out.2.2⟩
 have z1:¬ (300:Int)<(D.length:Int):=by omega
 have hl:D.length<=300:=by omega
 by_cases h0:D.length=0
 · have HE:Hid (checkM D=171):=Lib.hid (form_not hl (form_one (.inl h0)))
   have z2:((D.length:Int)==0)=true:=by rw[h0];rfl
   clear h0
   go_enter Tryz.func50,Tryz.ntmps50
   go_wp2
   go_ret
   exact⟨by rw[HE.out];rfl,H1.out.2.2⟩
 have z2:((D.length:Int)==0)=false:=by rw[beq_eq_false_iff_ne];omega
 have z20:(0:Int)<(D.length:Int):=by omega
 have h00:0<D.length:=by omega
 obtain⟨B,off,rfl,-,-,-,-,c4,-,-,-⟩:=H1.out.1.node h00;obtain⟨y,hy⟩:∃ y,D[0].p=y:=⟨_,rfl⟩;rw[hy,Nat.zero_mul,Nat.add_zero]at c4
 by_cases hy1:y = -1
 case neg =>
  have HE:Hid (checkM D=171):=Lib.hid (form_not hl (form_one (.inr (by rw[par_at h00,hy];exact hy1))));have g1:(y != -1)=true:=by simp[hy1]
  clear hy
  go_enter Tryz.func50,Tryz.ntmps50
  go_wp2
  go_ret
  exact⟨by rw[HE.out];rfl,H1.out.2.2⟩
 subst hy1;have HY:Hid (par D 0 = -1):=Lib.hid (by rw[par_at h00,hy]);clear hy h0
 go_enter Tryz.func50,Tryz.ntmps50
 go_wp2
 clear hw1 c4;generalize hR:w.heap.size=R at e0 H1 ⊢;rw[<- hR]at H1;have HR:=Lib.hid hR;clear hR
 go_loopw [3] (fun i wr=>∃ u:Nat,i=.int .i64 u/\u<=D.length/\Hid (∀ j (h:j<D.length),j<u->nodeB D j D[j]=true)/\Hid (DocIn wr (.slice (some ⟨B,off,none⟩) D.length c) D A K/\wr.heap[R]? = some (.cells #[.slice (some ⟨B,off,none⟩) D.length c] 24 (0,0))/\Below w.heap.size w wr)) (fun i _=>D.length - (intOf i).toNat)
 case atStart=>exact⟨0,rfl,Nat.zero_le _,Lib.hid (fun j _ h=>absurd h (Nat.not_lt_zero _)),Lib.hid ⟨H1.out.1,by rw[<- HR.out];exact H1.out.2.1,H1.out.2.2⟩⟩
 case round =>
  clear H1 e0;obtain⟨u,rfl,hu,HV,HX⟩:=hrel;have e0:=cell_of HX.out.2.1 0
  by_cases hlt:u<D.length
  · obtain⟨B',off',hB,c0,c1,c2,c3,c4,c5,c6,c7⟩:=HX.out.1.node hlt
    cases hB
    have zu:(u:Int)<(D.length:Int):=by omega
    have CM:=may_hid D[u] (HF.out.2 _ (List.getElem_mem hlt)).2.2.1;have CK:=kids_hid D HF.out u hlt;have hat:=HX.out.1.at' u hlt;obtain⟨N,hN⟩:=text_of D[u].n;obtain⟨T,hT⟩:=text_of D[u].d;unfold nodeV at CM;rw[strV_of hN,strV_of hT]at CM;rw[strV_of hN]at c1;rw[strV_of hT]at c2;generalize hxk:D[u].k=xk at c0;generalize hxp:D[u].p=xp at c4;generalize hxb:D[u].b=xb at c6;generalize hxs:D[u].s=xs at c7;rw[hxk,hxp,hxb,hxs]at CM;generalize hmb:mayM D[u]=mb at CM;have HA:=Lib.hid hat;clear hN hT hxp hxb hxs hat
    go_wp2_with fail
    (refine(CM.out _ _ _ HA.out).mono ?_)
    rintro e w3 ⟨rfl,b3⟩;obtain⟨d3,bx3⟩:=HX.out.1.boxed HX.out.2.1 b3;have e0:=cell_of bx3 0;have c0:=(b3.cell (lt_of_cell c0)).trans c0;have H3:=Lib.hid (And.intro d3 (And.intro bx3 (HX.out.2.2.trans (b3.mono HX.out.2.2.size))));clear b3 d3 bx3 HX CM c1 c2 c3 c4 c5 c6 c7 HA
    cases mb with
    | false =>
      have HE:Hid (checkM D=171):=Lib.hid (form_not hl (form_two hlt (by unfold nodeB;rw[hmb];simp only[Bool.false_and])));clear hmb hxk
      go_wp2
      go_ret
      exact⟨by rw[HE.out];rfl,H3.out.2.2⟩
    | true =>
      have HM:=Lib.hid hmb;clear hmb
      by_cases hk1:xk=1
      · by_cases hu0:u=0
        · have g1:(xk==1)=true:=by rw[hk1];rfl
          have g2:((u:Int)==0)=true:=by rw[hu0];rfl
          have HKU:Hid ((decide (D[u].k=1)==decide (u=0))=true):=Lib.hid (by rw[hxk,decide_eq_true hk1,decide_eq_true hu0];rfl);clear hk1 hu0 hxk
          go_wp2_with fail
          (refine(CK.out _ _ _ _ H3.out.1).mono ?_)
          rintro e w4 ⟨rfl,b4⟩;obtain⟨d4,bx4⟩:=H3.out.1.boxed H3.out.2.1 b4;have e0:=cell_of bx4 0;have H4:=Lib.hid (And.intro d4 (And.intro bx4 (H3.out.2.2.trans (b4.mono H3.out.2.2.size))));clear b4 d4 bx4 CK;generalize hkb:kidsB D D[u]=kb at *
          cases kb with
          | false =>
            have HE:Hid (checkM D=171):=Lib.hid (form_not hl (form_two hlt (by unfold nodeB;rw[hkb,Bool.and_false])));clear hkb H3
            go_wp2
            go_ret
            exact⟨by rw[HE.out];rfl,H4.out.2.2⟩
          | true =>
            have HV2:Hid (∀ j (h:j<D.length),j<u+1->nodeB D j D[j]=true):=Lib.hid fun j h hj=>by
             by_cases e:j=u
             · subst e
               unfold nodeB;rw[HM.out,hkb,HKU.out];rfl
             · exact HV.out j h (by omega)
            clear hkb H3
            go_wp2
            go_roundw
            case rel=>exact⟨u+1,by go_num,by omega,HV2,H4⟩
            case measure=>simp[intOf];omega
        · have g1:(xk==1)=true:=by rw[hk1];rfl
          have g2:((u:Int)==0)=false:=by rw[beq_eq_false_iff_ne];omega
          have HE:Hid (checkM D=171):=Lib.hid (form_not hl (form_two hlt (by unfold nodeB;rw[hxk,decide_eq_true hk1,decide_eq_false hu0];simp)));clear hk1 hu0 hxk
          go_wp2
          go_ret
          exact⟨by rw[HE.out];rfl,H3.out.2.2⟩
      · by_cases hu0:u=0
        · have g1:(xk==1)=false:=by rw[beq_eq_false_iff_ne];exact hk1
          have g2:((u:Int)==0)=true:=by rw[hu0];rfl
          have HE:Hid (checkM D=171):=Lib.hid (form_not hl (form_two hlt (by unfold nodeB;rw[hxk,decide_eq_false hk1,decide_eq_true hu0];simp)));clear hk1 hu0 hxk
          go_wp2
          go_ret
          exact⟨by rw[HE.out];rfl,H3.out.2.2⟩
        · have g1:(xk==1)=false:=by rw[beq_eq_false_iff_ne];exact hk1
          have g2:((u:Int)==0)=false:=by rw[beq_eq_false_iff_ne];omega
          have HKU:Hid ((decide (D[u].k=1)==decide (u=0))=true):=Lib.hid (by rw[hxk,decide_eq_false hk1,decide_eq_false hu0];rfl);clear hk1 hu0 hxk
          go_wp2_with fail
          (refine(CK.out _ _ _ _ H3.out.1).mono ?_)
          rintro e w4 ⟨rfl,b4⟩;obtain⟨d4,bx4⟩:=H3.out.1.boxed H3.out.2.1 b4;have e0:=cell_of bx4 0;have H4:=Lib.hid (And.intro d4 (And.intro bx4 (H3.out.2.2.trans (b4.mono H3.out.2.2.size))));clear b4 d4 bx4 CK;generalize hkb:kidsB D D[u]=kb at *
          cases kb with
          | false =>
            have HE:Hid (checkM D=171):=Lib.hid (form_not hl (form_two hlt (by unfold nodeB;rw[hkb,Bool.and_false])));clear hkb H3
            go_wp2
            go_ret
            exact⟨by rw[HE.out];rfl,H4.out.2.2⟩
          | true =>
            have HV2:Hid (∀ j (h:j<D.length),j<u+1->nodeB D j D[j]=true):=Lib.hid fun j h hj=>by
             by_cases e:j=u
             · subst e
               unfold nodeB;rw[HM.out,hkb,HKU.out];rfl
             · exact HV.out j h (by omega)
            clear hkb H3
            go_wp2
            go_roundw
            case rel=>exact⟨u+1,by go_num,by omega,HV2,H4⟩
            case measure=>simp[intOf];omega
  · obtain rfl:u=D.length:=by omega
    have HN:Hid (∀ j (h:j<D.length),nodeB D j D[j]=true):=Lib.hid fun j h=>HV.out j h h;clear HV
    go_wp2
    go_loopw [4] (fun i wr=>∃ u:Nat,i=.int .i64 u/\u<=D.length/\Hid (∀ j,j<u->placedB D j=true)/\Hid (DocIn wr (.slice (some ⟨B,off,none⟩) D.length c) D A K/\wr.heap[R]? = some (.cells #[.slice (some ⟨B,off,none⟩) D.length c] 24 (0,0))/\Below w.heap.size w wr)) (fun i _=>D.length - (intOf i).toNat)
    case atStart=>exact⟨0,rfl,Nat.zero_le _,Lib.hid (fun j h=>absurd h (Nat.not_lt_zero _)),HX⟩
    case round =>
     clear HX e0;obtain⟨u,rfl,hu,HV,HX⟩:=hrel;have e0:=cell_of HX.out.2.1 0
     by_cases hlt:u<D.length
     · have zu:(u:Int)<(D.length:Int):=by omega
       have CK:=placed_hid D HF.out u hlt;generalize hpb:placedB D u=pb at CK
       go_wp2_with fail
       (refine(CK.out _ _ _ _ HX.out.1).mono ?_)
       rintro e w3 ⟨rfl,b3⟩;obtain⟨d3,bx3⟩:=HX.out.1.boxed HX.out.2.1 b3;have e0:=cell_of bx3 0;have H3:=Lib.hid (And.intro d3 (And.intro bx3 (HX.out.2.2.trans (b3.mono HX.out.2.2.size))));clear b3 d3 bx3 HX CK
       cases pb with
       | false =>
         have HE:Hid (checkM D=171):=Lib.hid (form_not hl (form_three hlt hpb));clear hpb
         go_wp2
         go_ret
         exact⟨by rw[HE.out];rfl,H3.out.2.2⟩
       | true =>
         have HV2:Hid (∀ j,j<u+1->placedB D j=true):=Lib.hid fun j hj=>by
          by_cases e:j=u
          · subst e;exact hpb
          · exact HV.out j (by omega)
         clear hpb
         go_wp2
         go_roundw
         case rel=>exact⟨u+1,by go_num,by omega,HV2,H3⟩
         case measure=>simp[intOf];omega
     · obtain rfl:u=D.length:=by omega
       have HPl:=HV;clear HV
       go_wp2
       go_loopw [5] (fun i wr=>∃ u:Nat,i=.int .i64 u/\u<=D.length/\Hid (∀ j,j<u->endF D (D.length+1) j=true)/\Hid (DocIn wr (.slice (some ⟨B,off,none⟩) D.length c) D A K/\wr.heap[R]? = some (.cells #[.slice (some ⟨B,off,none⟩) D.length c] 24 (0,0))/\Below w.heap.size w wr)) (fun i _=>D.length - (intOf i).toNat)
       case atStart=>exact⟨0,rfl,Nat.zero_le _,Lib.hid (fun j h=>absurd h (Nat.not_lt_zero _)),HX⟩
       case round =>
        clear HX e0;obtain⟨u,rfl,hu,HV,HX⟩:=hrel;have e0:=cell_of HX.out.2.1 0
        by_cases hlt:u<D.length
        · have zu:(u:Int)<(D.length:Int):=by omega
          have CK:=ends_hid D HF.out (placed_par HPl.out) u hlt;generalize hpb:endF D (D.length+1) u=pb at CK
          go_wp2_with fail
          (refine(CK.out _ _ _ _ HX.out.1).mono ?_)
          rintro e w3 ⟨rfl,b3⟩;obtain⟨d3,bx3⟩:=HX.out.1.boxed HX.out.2.1 b3;have e0:=cell_of bx3 0;have H3:=Lib.hid (And.intro d3 (And.intro bx3 (HX.out.2.2.trans (b3.mono HX.out.2.2.size))));clear b3 d3 bx3 HX CK
          cases pb with
          | false =>
            have HE:Hid (checkM D=171):=Lib.hid (form_not hl (form_four hlt hpb));clear hpb
            go_wp2
            go_ret
            exact⟨by rw[HE.out];rfl,H3.out.2.2⟩
          | true =>
            have HV2:Hid (∀ j,j<u+1->endF D (D.length+1) j=true):=Lib.hid fun j hj=>by
             by_cases e:j=u
             · subst e;exact hpb
             · exact HV.out j (by omega)
            clear hpb
            go_wp2
            go_roundw
            case rel=>exact⟨u+1,by go_num,by omega,HV2,H3⟩
            case measure=>simp[intOf];omega
        · obtain rfl:u=D.length:=by omega
          have HE:Hid (checkM D=0):=Lib.hid (form_ends hl (by omega) HY.out HN.out HPl.out HV.out)
          go_wp2
          go_ret
          exact⟨by rw[HE.out];rfl,HX.out.2.2⟩
end Go.Proofs.YtlnfbjbagmfpiaaGreatDoor.Dm
namespace Go.Proofs.YtlnfbjbagmfpiaaGreatDoor.Dm
open Go.RowKit
def thereM (D:List Nd)(n:Int):Bool:=decide (0<=n)&&decide (n<(D.length:Int))&&decide (checkM D=0)
theorem there_right {D:List Nd}{n:Int}(h:thereM D n=true):Right D/\∃ i:Nat,n=i/\i<D.length:=by
 unfold thereM at h;simp only[Bool.and_eq_true,decide_eq_true_eq]at h;exact⟨check_right.1 h.2,n.toNat,by omega,by omega⟩
theorem there_hid (D:List Nd)(hf:FitD D)(n:Int):Hid (∀ W sl A K,DocIn W sl D A K->Calls Tryz.prog 60 #[.agg #[sl],.int .i64 n] W fun e w'=>e=.returned (.bool (thereM D n))/\Below W.heap.size W w'):=Lib.hid fun w sl A K hd=>by
 obtain⟨a,c,rfl⟩:=hd.form;obtain⟨d1,b1,l1⟩:=docBox w hd;have hfl:=hf.1;have CK:=check_hid D hf;generalize hw1:w.alloc (.cells #[.slice a D.length c] 24)=w1 at d1 b1 l1;have e0:=cell_of b1 0;have H1:=Lib.hid (And.intro d1 l1);clear hd d1 b1 l1 hf;unfold thereM
 by_cases h1:n<0
 · rw[decide_eq_false (show ¬ 0<=n by omega)]
   simp only[Bool.false_and];have z1:¬ 0<=n:=by omega
   go_enter Tryz.func60,Tryz.ntmps60
   go_wp2
   go_ret
   exact⟨rfl,H1.out.2⟩
 have z1:0<=n:=by omega
 rw[decide_eq_true z1]
 by_cases h2:n<(D.length:Int)
 · rw[decide_eq_true h2]
   simp only[Bool.true_and]
   go_enter Tryz.func60,Tryz.ntmps60
   go_wp2_with fail
   (refine(CK.out _ _ _ _ H1.out.1).mono ?_)
   rintro e w2 ⟨rfl,b2⟩;have H2:=Lib.hid (H1.out.2.trans (b2.mono H1.out.2.size));clear b2 hw1 CK
   by_cases hc:checkM D=0
   · rw[hc]
     go_wp2
     go_ret
     exact⟨by rw[decide_eq_true hc];rfl,H2.out⟩
   · have z3:(checkM D==0)=false:=by rw[beq_eq_false_iff_ne];exact hc
     go_wp2
     go_ret
     exact⟨by rw[decide_eq_false hc];rfl,H2.out⟩
 · rw[decide_eq_false h2]
   simp only[Bool.false_and,Bool.and_false]
   go_enter Tryz.func60,Tryz.ntmps60
   go_wp2
   go_ret
   exact⟨rfl,H1.out.2⟩
open Classical in
noncomputable def depN (D:List Nd) (n:Int):Nat:=if h:∃ k,0<=n/\DepP D k n.toNat then Classical.choose h+1 else 0
theorem depN_eq {D:List Nd}{k i:Nat}(h:DepP D k i):depN D (i:Int)=k+1:=by
 have hx:∃ k,0<=(i:Int)/\DepP D k (i:Int).toNat:=⟨k,by omega,by rw[Int.toNat_natCast];exact h⟩;unfold depN;rw[dif_pos hx];have h':DepP D k (i:Int).toNat:=by rw[Int.toNat_natCast];exact h
 rw[DepP.eq (Classical.choose_spec hx).2 h']
theorem depN_neg (D:List Nd):depN D (-1)=0:=by
 unfold depN;rw[dif_neg];rintro⟨k,h,_⟩;omega
theorem depN_up {D:List Nd}(R:Right D){i:Nat}(hi:i<D.length):depN D (par D i)<depN D (i:Int):=by
 obtain⟨k,hk⟩:=R.dep i hi;rw[depN_eq hk]
 cases k with
 | zero=>rw[hk.2,depN_neg];omega
 | succ k =>
   obtain⟨_,q,hq,hd⟩:=hk;rw[hq,depN_eq hd];omega
theorem under_hid (D:List Nd)(R:Right D)(t top:Nat)(ht:t<D.length):Hid (∀ W sl A K,DocIn W sl D A K->Calls Tryz.prog 147 #[.agg #[sl],.int .i64 (t:Int),.int .i64 (top:Int)] W fun e w'=>e=.returned (.bool (upM D top t))/\Below W.heap.size W w'):=Lib.hid fun w sl A K hd=>by
 obtain⟨a,c,rfl⟩:=hd.form;obtain⟨d1,b1,l1⟩:=docBox w hd;have hfl:=R.len;generalize hw1:w.alloc (.cells #[.slice a D.length c] 24)=w1 at d1 b1 l1;have e0:=cell_of b1 0;have H1:=Lib.hid (And.intro d1 l1);have HR:=Lib.hid R;clear hd d1 b1 l1 R
 go_enter Tryz.func147,Tryz.ntmps147
 go_wp2
 clear hw1;generalize w.heap.size=Rb at e0 ⊢
 go_loopw [1] (fun i wr=>∃ y:Int,i=.int .i64 y/\Hid ((y = -1/\upM D top t=false)\/∃ s:Nat,y=s/\s<D.length/\upM D top t=upM D top s)/\wr=w1) (fun i _=>depN D (intOf i))
 case atStart=>exact⟨(t:Int),rfl,Lib.hid (.inr ⟨t,rfl,ht,rfl⟩),rfl⟩
 case round =>
  obtain⟨y,rfl,HY,rfl⟩:=hrel;rcases HY.out with ⟨h1,h2⟩ | ⟨s,h1,h2,h3⟩
  · subst h1
    have HE:=Lib.hid h2;have z2:((-1:Int)==(top:Int))=false:=by rw[beq_eq_false_iff_ne];omega
    clear h2 HY
    go_wp2
    go_ret
    exact⟨by rw[HE.out];rfl,H1.out.2⟩
  · subst h1
    have zs0:(0:Int)<=(s:Int):=by omega
    have zs:(s:Int)<(D.length:Int):=by omega
    have HS:=Lib.hid (And.intro h2 h3);clear h3 HY
    by_cases he:s=top
    · subst he
      have HE:Hid (upM D s t=true):=Lib.hid (by rw[HS.out.2];exact upM_self D s);have z1:((s:Int) != (s:Int))=false:=by simp
      clear h2
      go_wp2
      go_ret
      exact⟨by rw[HE.out];rfl,H1.out.2⟩
    · have z1:((s:Int) != (top:Int))=true:=by rw[bne_iff_ne];omega
      obtain⟨B,off,rfl,c0,c1,c2,c3,c4,c5,c6,c7⟩:=H1.out.1.node h2;have hu:=upM_eq HR.out (t:=top) h2;rw[decide_eq_false he,Bool.false_or]at hu;have hdep:=depN_up HR.out h2;have hpn:=HR.out.neg h2;rw[par_at h2]at hu hdep hpn;obtain⟨z,hz⟩:∃ z,D[s].p=z:=⟨_,rfl⟩;rw[hz]at c4 hu hdep hpn
      have HNX:Hid ((z = -1/\upM D top t=false)\/∃ q:Nat,z=q/\q<D.length/\upM D top t=upM D top q):=Lib.hid (by
       rcases hpn with h | ⟨q,h,hq⟩
       · subst h
         exact .inl ⟨rfl,by rw[HS.out.2,hu];rfl⟩
       · subst h
         exact .inr ⟨q,rfl,hq,by rw[HS.out.2,hu,decide_eq_true (by omega),Bool.true_and,Int.toNat_natCast]⟩)
      have HD:=Lib.hid hdep;clear c0 c1 c2 c3 c5 c6 c7 hu hdep hpn hz he h2
      go_wp2
      go_roundw
      case rel=>exact⟨z,rfl,HNX,trivial⟩
      case measure=>exact HD.out
end Go.Proofs.YtlnfbjbagmfpiaaGreatDoor.Dm
namespace Go.Proofs.YtlnfbjbagmfpiaaGreatDoor.Dm
open Go.RowKit
def atM (name:List UInt8)(A:List (List UInt8 × List UInt8)):Nat:=A.findIdx fun y=>decide (y.1=name)
def findI (name:List UInt8)(A:List (List UInt8 × List UInt8)):Int:=if atM name A<A.length then (atM name A:Int) else -1
theorem atM_here {name:List UInt8}{A:List (List UInt8 × List UInt8)}{u:Nat}(h:u<A.length)(hn:∀ j (hj:j<A.length),j<u->A[j].1≠name)(he:A[u].1=name):atM name A=u:=by
 unfold atM;rw[List.findIdx_eq h];refine⟨decide_eq_true he,fun j hj => ?_⟩;exact decide_eq_false (hn j (by omega) hj)
theorem atM_none {name:List UInt8}{A:List (List UInt8 × List UInt8)}(hn:∀ j (hj:j<A.length),A[j].1≠name):atM name A=A.length:=by
 unfold atM;rw[List.findIdx_eq_length];intro y hy;obtain⟨j,hj,rfl⟩:=List.getElem_of_mem hy;exact decide_eq_false (hn j hj)
theorem atM_cons (name:List UInt8)(y:List UInt8 × List UInt8)(A:List (List UInt8 × List UInt8)):atM name (y :: A)=if y.1=name then 0 else atM name A+1:=by
 unfold atM;rw[List.findIdx_cons]
 by_cases h:y.1=name
 · rw[if_pos h,decide_eq_true h];rfl
 · rw[if_neg h,decide_eq_false h];rfl
theorem findA_at (name:List UInt8):∀(A:List (List UInt8 × List UInt8)),findA name A=(A[atM name A]?).map (·.2)
 | []=>rfl
 | (k,v) :: r=>by
   rw[atM_cons];unfold findA
   by_cases h:k=name
   · rw[if_pos h,if_pos h];rfl
   · rw[if_neg h,if_neg h,findA_at name r];rfl
def attrM (D:List Nd)(n:Int)(name:List UInt8):Option (List UInt8):=if thereM D n=true then (D[n.toNat]?).bind fun x=>findA name x.a else none
end Go.Proofs.YtlnfbjbagmfpiaaGreatDoor.Dm
namespace Go.Proofs.YtlnfbjbagmfpiaaGreatDoor.Dm
open Go.RowKit
theorem row_made (w:World)(C:Array Value)(e:TypeId)(m size:Nat)(hs:C.size=m * size)(hm:m<=maxLen):(w.alloc (.cells C e)).ownsRow w.heap.size e size (.slice (some ⟨w.heap.size,0,none⟩) m m) m C.toList :=
 ⟨by simpa using hs,.inr ⟨_,m,C,rfl,Nat.le_refl _,new_block w _,Nat.le_refl _,hm,hs,List.take_of_length_le (by simp[hs])⟩⟩
theorem Tinfo3:(Tryz.prog.info? 3).map (fun i=>(i.zero,i.size,i.bytes))=some (some (.int .i64 0),1,8):=by kernel_rfl
def natsI (l:List Nat):List Int:=l.map fun(n:Nat)=>(n:Int)
theorem natsI_length (l:List Nat):(natsI l).length=l.length:=by simp[natsI]
theorem natsI_app (a b:List Nat):natsI (a++b)=natsI a++natsI b:=by simp[natsI]
theorem inC_app (a b:List Int):inC (a++b)=inC a++inC b:=by simp[inC]
def OwnI (w:World)(B:Nat)(v:Value)(l:List Nat):Prop:=w.ownsRow B 3 1 v l.length (inC (natsI l))
theorem OwnI.in' {w:World}{B:Nat}{v:Value}{l:List Nat}(h:OwnI w B v l):IntIn w v (natsI l):=IntIn.of (base:=B) (by rw[natsI_length];exact h)
theorem OwnI.form {w:World}{B:Nat}{v:Value}{l:List Nat}(h:OwnI w B v l):∃ a c,v=.slice a l.length c:=by
 obtain⟨a,c,e⟩:=h.in'.form;exact⟨a,c,by rw[e,natsI_length]⟩
theorem OwnI.below {w w':World}{B:Nat}{v:Value}{l:List Nat}(h:OwnI w B v l)(b:Below w.heap.size w w'):OwnI w' B v l:=(Kp.of_below (P:=fun _ _=>False) b).row h fun _ _ _=>id
def accM (D:List Nd)(i:Nat)(C:List Int)(v:Nat):List Nat:=i :: (C.take v).flatMap fun y=>downM D y.toNat
theorem accM_step {D:List Nd}{i:Nat}{C:List Int}{v:Nat}(h:v<C.length):accM D i C (v+1)=accM D i C v++downM D C[v].toNat:=by
 unfold accM;rw[List.take_add_one,List.getElem?_eq_getElem h,List.flatMap_append];simp
theorem accM_end {D:List Nd}(R:Right D){i:Nat}(hi:i<D.length):accM D i D[i].c D[i].c.length=downM D i:=by
 unfold accM;rw[List.take_length,downM_eq R hi,kid_at hi]
theorem OwnI.low {w:World}{B B':Nat}{v:Value}{l:List Nat}(h:OwnI w B v l)(hB:B'<=B):OwnI w B' v l:=by
 obtain⟨h1,h2⟩:=h;refine⟨h1,?_⟩;rcases h2 with h2 | ⟨g,cap,cur,a,b,c⟩
 · exact .inl h2
 · exact .inr ⟨g,cap,cur,a,Nat.le_trans hB b,c⟩
def belowM (D:List Nd)(n:Int):List Nat:=if thereM D n=true then downM D n.toNat else []
end Go.Proofs.YtlnfbjbagmfpiaaGreatDoor.Dm
namespace Go.Proofs.YtlnfbjbagmfpiaaGreatDoor.Dm
open Go.RowKit
def textsM (D:List Nd)(n:Int):List UInt8:=(belowM D n).flatMap (dataM D)
theorem dataM_at {D:List Nd}{i:Nat}(h:i<D.length):dataM D i=if D[i].k=3 then D[i].d else []:=by
 unfold dataM;rw[List.getElem?_eq_getElem h]
theorem flat_bound {L:List Nat}{f:Nat->List UInt8}{b:Nat}(h:∀ x∈L,(f x).length<=b):(L.flatMap f).length<=L.length * b:=by
 induction L with
 | nil=>simp
 | cons x L ih =>
   have h1:=ih fun y hy=>h y (List.mem_cons_of_mem _ hy);have h2:=h x (List.mem_cons_self ..);rw[List.flatMap_cons,List.length_append,List.length_cons,Nat.add_mul];omega
theorem take_bound {D:List Nd}(hf:FitD D){L:List Nat}(hL:L.length<=400)(hl:∀ x∈L,x<D.length)(u:Nat):((L.take u).flatMap (dataM D)).length<=4000000:=by
 have h1:=flat_bound (L:=L.take u) (f:=dataM D) (b:=10000) fun x hx=>by
  have h2:=hl x (List.mem_of_mem_take hx);rw[dataM_at h2];split
  · exact(hf.2 _ (List.getElem_mem h2)).2.1
  · exact Nat.zero_le _
 have h2:(L.take u).length<=L.length:=List.length_take_le' _ _;have h3:(L.take u).length * 10000<=400 * 10000:=Nat.mul_le_mul_right _ (by omega);omega
end Go.Proofs.YtlnfbjbagmfpiaaGreatDoor.Dm
namespace Go.Proofs.YtlnfbjbagmfpiaaGreatDoor.Dm
open Go.RowKit
theorem TinfoA:(Tryz.prog.info? 41).map (fun i=>(i.zero,i.size,i.bytes))=some (some (.agg #[.string ⟨#[]⟩,.string ⟨#[]⟩]),2,32):=by kernel_rfl
theorem set8 (w:World)(R:Nat)(t:TypeId)(z0 z1 z2 z3 z4 z5 z6 z7 v0 v1 v2 v3 v4 v5 v6 v7:Value)(h:w.heap[R]? = some (.cells #[z0,z1,z2,z3,z4,z5,z6,z7] t (0,0))):((((((((w.setCell ⟨R,0,none⟩ v0).setCell ⟨R,1,none⟩ v1).setCell ⟨R,2,none⟩ v2).setCell ⟨R,3,none⟩ v3).setCell ⟨R,4,none⟩ v4).setCell ⟨R,5,none⟩ v5).setCell ⟨R,6,none⟩ v6).setCell ⟨R,7,none⟩ v7).heap[R]? = some (.cells #[v0,v1,v2,v3,v4,v5,v6,v7] t (0,0))/\Kp (fun j _=>j=R) w ((((((((w.setCell ⟨R,0,none⟩ v0).setCell ⟨R,1,none⟩ v1).setCell ⟨R,2,none⟩ v2).setCell ⟨R,3,none⟩ v3).setCell ⟨R,4,none⟩ v4).setCell ⟨R,5,none⟩ v5).setCell ⟨R,6,none⟩ v6).setCell ⟨R,7,none⟩ v7):=by
 obtain⟨w0,e0⟩:∃ W,W=w.setCell ⟨R,0,none⟩ v0:=⟨_,rfl⟩;have h0:w0.heap[R]? = some (.cells #[v0,z1,z2,z3,z4,z5,z6,z7] t (0,0)):=by rw[e0];exact heap_setCell_same w R 0 _ _ _ v0 h
 have k0:Kp (fun j _=>j=R) w w0:=by rw[e0];exact Kp.of_set h v0 rfl
 rw[<- e0];obtain⟨w1,e1⟩:∃ W,W=w0.setCell ⟨R,1,none⟩ v1:=⟨_,rfl⟩;have h1:w1.heap[R]? = some (.cells #[v0,v1,z2,z3,z4,z5,z6,z7] t (0,0)):=by rw[e1];exact heap_setCell_same w0 R 1 _ _ _ v1 h0
 have k1:Kp (fun j _=>j=R) w w1:=by rw[e1];exact k0.trans (Kp.of_set h0 v1 rfl)
 rw[<- e1];obtain⟨w2,e2⟩:∃ W,W=w1.setCell ⟨R,2,none⟩ v2:=⟨_,rfl⟩;have h2:w2.heap[R]? = some (.cells #[v0,v1,v2,z3,z4,z5,z6,z7] t (0,0)):=by rw[e2];exact heap_setCell_same w1 R 2 _ _ _ v2 h1
 have k2:Kp (fun j _=>j=R) w w2:=by rw[e2];exact k1.trans (Kp.of_set h1 v2 rfl)
 rw[<- e2];obtain⟨w3,e3⟩:∃ W,W=w2.setCell ⟨R,3,none⟩ v3:=⟨_,rfl⟩;have h3:w3.heap[R]? = some (.cells #[v0,v1,v2,v3,z4,z5,z6,z7] t (0,0)):=by rw[e3];exact heap_setCell_same w2 R 3 _ _ _ v3 h2
 have k3:Kp (fun j _=>j=R) w w3:=by rw[e3];exact k2.trans (Kp.of_set h2 v3 rfl)
 rw[<- e3];obtain⟨w4,e4⟩:∃ W,W=w3.setCell ⟨R,4,none⟩ v4:=⟨_,rfl⟩;have h4:w4.heap[R]? = some (.cells #[v0,v1,v2,v3,v4,z5,z6,z7] t (0,0)):=by rw[e4];exact heap_setCell_same w3 R 4 _ _ _ v4 h3
 have k4:Kp (fun j _=>j=R) w w4:=by rw[e4];exact k3.trans (Kp.of_set h3 v4 rfl)
 rw[<- e4];obtain⟨w5,e5⟩:∃ W,W=w4.setCell ⟨R,5,none⟩ v5:=⟨_,rfl⟩;have h5:w5.heap[R]? = some (.cells #[v0,v1,v2,v3,v4,v5,z6,z7] t (0,0)):=by rw[e5];exact heap_setCell_same w4 R 5 _ _ _ v5 h4
 have k5:Kp (fun j _=>j=R) w w5:=by rw[e5];exact k4.trans (Kp.of_set h4 v5 rfl)
 rw[<- e5];obtain⟨w6,e6⟩:∃ W,W=w5.setCell ⟨R,6,none⟩ v6:=⟨_,rfl⟩;have h6:w6.heap[R]? = some (.cells #[v0,v1,v2,v3,v4,v5,v6,z7] t (0,0)):=by rw[e6];exact heap_setCell_same w5 R 6 _ _ _ v6 h5
 have k6:Kp (fun j _=>j=R) w w6:=by rw[e6];exact k5.trans (Kp.of_set h5 v6 rfl)
 rw[<- e6];obtain⟨w7,e7⟩:∃ W,W=w6.setCell ⟨R,7,none⟩ v7:=⟨_,rfl⟩;have h7:w7.heap[R]? = some (.cells #[v0,v1,v2,v3,v4,v5,v6,v7] t (0,0)):=by rw[e7];exact heap_setCell_same w6 R 7 _ _ _ v7 h6
 have k7:Kp (fun j _=>j=R) w w7:=by rw[e7];exact k6.trans (Kp.of_set h6 v7 rfl)
 rw[<- e7];exact⟨h7,k7⟩
def zeroN:Array Value:=#[.int .i64 0,.string ⟨#[]⟩,.string ⟨#[]⟩,.slice none 0 0,.int .i64 0,.slice none 0 0,.bool false,.bool false]
theorem ownNode_hid (x:Nd)(hx:FitN x):Hid (∀ W av kv,AtIn W av x.a->IntIn W kv x.c->Calls Tryz.prog 44 #[nodeV x av kv] W fun e w'=>∃ av' kv',e=.returned (nodeV x av' kv')/\w'.ownsRow W.heap.size 41 2 av' x.a.length (atC x.a)/\w'.ownsRow W.heap.size 3 1 kv' x.c.length (inC x.c)/\Below W.heap.size W w'):=Lib.hid fun w av kv ha hk=>by
 obtain⟨N,hN⟩:=text_of x.n;obtain⟨T,hT⟩:=text_of x.d;unfold nodeV;rw[strV_of hN,strV_of hT];obtain⟨-,-,hal,hcl,-⟩:=hx;generalize x.k=k;generalize x.p=p;generalize x.b=b;generalize x.s=s;generalize x.a=A at ha hal ⊢;generalize x.c=C at hk hcl ⊢;clear hN hT;obtain⟨aa,ac,rfl⟩:=ha.form;obtain⟨ka,kc,rfl⟩:=hk.form;obtain⟨i1,hi1,hy0,hy1,hy2⟩:=info_parts TinfoA;obtain⟨i3,hi3,hz0,hz1,hz2⟩:=info_parts Tinfo3;have al1:=(Below.refl w.heap.size w).alloc (Nat.le_refl _) (.cells #[.int .i64 k,.string N,.string T,.slice aa A.length ac,.int .i64 p,.slice ka C.length kc,.bool b,.bool s] 39);have hb1:=new_block w (.cells #[.int .i64 k,.string N,.string T,.slice aa A.length ac,.int .i64 p,.slice ka C.length kc,.bool b,.bool s] 39);have hs1:(w.alloc (.cells #[.int .i64 k,.string N,.string T,.slice aa A.length ac,.int .i64 p,.slice ka C.length kc,.bool b,.bool s] 39)).heap.size=w.heap.size+1:=by simp
 generalize hw1:w.alloc (.cells #[.int .i64 k,.string N,.string T,.slice aa A.length ac,.int .i64 p,.slice ka C.length kc,.bool b,.bool s] 39)=w1 at al1 hb1 hs1;have al2:=(Below.refl w1.heap.size w1).alloc (Nat.le_refl _) (.cells zeroN 39);have hb2:=new_block w1 (.cells zeroN 39);rw[hs1]at hb2;unfold zeroN at al2 hb2;have hb1':=(al2.block _ (lt_of_block hb1)).trans hb1;have hbel:=al1.trans (al2.mono (by omega));generalize hw2:w1.alloc (.cells #[.int .i64 0,.string ⟨#[]⟩,.string ⟨#[]⟩,.slice none 0 0,.int .i64 0,.slice none 0 0,.bool false,.bool false] 39)=w2 at al2 hb2 hb1' hbel;have e3:=cell_of hb1' 3;have e5:=cell_of hb1' 5;have H2:=Lib.hid (And.intro hb1' (And.intro hb2 (And.intro hbel (And.intro (ha.below hbel) (hk.below hbel)))));have hw1s:=hs1;clear ha hk al1 al2 hb1 hb2 hb1' hbel
 go_enter Tryz.func44,Tryz.ntmps44
 go_wp2_with (at_builtin;first
  | (refine wpList_append_rowG rfl _ _ 36 41 i1 (.agg #[.string ⟨#[]⟩,.string ⟨#[]⟩]) 2 32 Tryz.underlying36 hi1 hy0 hy1 hy2 rfl (by decide) rfl w.heap.size (.slice none 0 0) 0 [] rfl (World.ownsRow_nil _ _ _ _) _ A.length (atC A) rfl H2.out.2.2.2.1 (by unfold maxLen;omega) (by omega) H2.out.2.2.1.size ?_
     intro v3 w3 hown3 hgrow3 hat3;rw[Nat.zero_add,List.nil_append]at hown3;obtain⟨va,vk,rfl⟩:=row_form hown3;have k3:Kp (fun _ _=>False) w2 w3:=Kp.of_grown hgrow3 (fun q c t fr hq _=>by cases hq) fun q hq=>by cases hq
     have b3:Below w2.heap.size w2 w3:=k3.below (fun _ _ e=>e.elim) (Nat.le_refl _);have H3:=Lib.hid (And.intro (k3.cells H2.out.1 id) (And.intro (k3.cells H2.out.2.1 id) (And.intro (H2.out.2.2.1.trans (b3.mono H2.out.2.2.1.size)) (And.intro hown3 (H2.out.2.2.2.2.below b3)))));have e5:=cell_of H3.out.1 5
     clear hown3 hgrow3 hat3 k3 b3 e3)
  | (refine wpList_append_rowG rfl _ _ 37 3 i3 (.int .i64 0) 1 8 Tryz.underlying37 hi3 hz0 hz1 hz2 rfl (by decide) rfl w.heap.size (.slice none 0 0) 0 [] rfl (World.ownsRow_nil _ _ _ _) _ C.length (inC C) rfl H3.out.2.2.2.2 (by unfold maxLen;omega) (by omega) H3.out.2.2.1.size ?_
     intro v4 w4 hown4 hgrow4 hat4;rw[Nat.zero_add,List.nil_append]at hown4;obtain⟨ua,uk,rfl⟩:=row_form hown4;have k4:Kp (fun _ _=>False) w3 w4:=Kp.of_grown hgrow4 (fun q c t fr hq _=>by cases hq) fun q hq=>by cases hq
     have b4:Below w3.heap.size w3 w4:=k4.below (fun _ _ e=>e.elim) (Nat.le_refl _);have g0:=k4.cells H3.out.1 id;have g1:=k4.cells H3.out.2.1 id;have B4:=H3.out.2.2.1.trans (b4.mono H3.out.2.2.1.size);have A4:=k4.row H3.out.2.2.2.1 fun _ _ _=>id;have f3:=open_of g0 3;have p1:(w4.setCell ⟨w.heap.size,3,none⟩ (.slice va A.length vk)).heap[w.heap.size]? = some (.cells #[.int .i64 k,.string N,.string T,.slice va A.length vk,.int .i64 p,.slice ka C.length kc,.bool b,.bool s] 39 (0,0)):=heap_setCell_same w4 w.heap.size 3 _ _ _ (.slice va A.length vk) g0;have f5:=open_of p1 5;have p2:((w4.setCell ⟨w.heap.size,3,none⟩ (.slice va A.length vk)).setCell ⟨w.heap.size,5,none⟩ (.slice ua C.length uk)).heap[w.heap.size]? = some (.cells #[.int .i64 k,.string N,.string T,.slice va A.length vk,.int .i64 p,.slice ua C.length uk,.bool b,.bool s] 39 (0,0)):=heap_setCell_same _ w.heap.size 5 _ _ _ (.slice ua C.length uk) p1
     have q2:((w4.setCell ⟨w.heap.size,3,none⟩ (.slice va A.length vk)).setCell ⟨w.heap.size,5,none⟩ (.slice ua C.length uk)).heap[w.heap.size+1]? = some (.cells #[.int .i64 0,.string ⟨#[]⟩,.string ⟨#[]⟩,.slice none 0 0,.int .i64 0,.slice none 0 0,.bool false,.bool false] 39 (0,0)):=by
      rw[heap_setCell_ne _ _ _ (by simp),heap_setCell_ne _ _ _ (by simp)];exact g1
     have K2:Kp (fun j t=>t=39/\w.heap.size<=j) w4 ((w4.setCell ⟨w.heap.size,3,none⟩ (.slice va A.length vk)).setCell ⟨w.heap.size,5,none⟩ (.slice ua C.length uk)):=(Kp.of_set g0 (.slice va A.length vk) ⟨rfl,Nat.le_refl _⟩).trans (Kp.of_set p1 (.slice ua C.length uk) ⟨rfl,Nat.le_refl _⟩);have d3:=cell_of g0 3;have d5:=cell_of p1 5;have l0:=cell_of p2 0;have l1:=cell_of p2 1;have l2:=cell_of p2 2;have l3:=cell_of p2 3;have l4:=cell_of p2 4;have l5:=cell_of p2 5;have l6:=cell_of p2 6;have l7:=cell_of p2 7;have r0:=cell_of q2 0;have o0:=open_of q2 0;have r1:=cell_of q2 1;have o1:=open_of q2 1;have r2:=cell_of q2 2;have o2:=open_of q2 2;have r3:=cell_of q2 3;have o3:=open_of q2 3;have r4:=cell_of q2 4;have o4:=open_of q2 4;have r5:=cell_of q2 5;have o5:=open_of q2 5;have r6:=cell_of q2 6;have o6:=open_of q2 6;have r7:=cell_of q2 7;have o7:=open_of q2 7;have H4:=Lib.hid (And.intro p2 (And.intro q2 (And.intro K2 (And.intro B4 (And.intro A4 hown4)))))
     clear hown4 hgrow4 hat4 k4 b4 g0 g1 B4 A4 p1 p2 q2 K2 e5 H3))
 generalize hw5:(w4.setCell ⟨w.heap.size,3,none⟩ (.slice va A.length vk)).setCell ⟨w.heap.size,5,none⟩ (.slice ua C.length uk)=w5 at *;obtain⟨q8,K8⟩:=set8 w5 (w.heap.size+1) _ _ _ _ _ _ _ _ _ (.int .i64 k) (.string N) (.string T) (.slice va A.length vk) (.int .i64 p) (.slice ua C.length uk) (.bool b) (.bool s) H4.out.2.1;have c0:=cell_of q8 0;have c1:=cell_of q8 1;have c2:=cell_of q8 2;have c3:=cell_of q8 3;have c4:=cell_of q8 4;have c5:=cell_of q8 5;have c6:=cell_of q8 6;have c7:=cell_of q8 7;have k5:Kp (fun j t=>t=39/\w.heap.size<=j\/j=w.heap.size+1) w4 w5:=H4.out.2.2.1.mono fun k c t fr _ e => .inl e;have hA:=(K8.row (H4.out.2.2.1.row H4.out.2.2.2.2.1 fun j _ _ e=>absurd e.1 (by decide)) (fun j hj _ e=>row_ne (H4.out.2.2.1.row H4.out.2.2.2.2.1 fun j _ _ e=>absurd e.1 (by decide)) H4.out.2.1 (by decide) (by rw[hj,e])));have hK:=(K8.row (H4.out.2.2.1.row H4.out.2.2.2.2.2 fun j _ _ e=>absurd e.1 (by decide)) (fun j hj _ e=>row_ne (H4.out.2.2.1.row H4.out.2.2.2.2.2 fun j _ _ e=>absurd e.1 (by decide)) H4.out.2.1 (by decide) (by rw[hj,e])));have hB5:=H4.out.2.2.2.1.trans (H4.out.2.2.1.below (fun j t e=>e.2) H4.out.2.2.2.1.size);have hB:=hB5.trans (K8.below (fun j t e=>by omega) hB5.size);exact bodyPost_ret (v := .agg #[.int .i64 k,.string N,.string T,.slice va A.length vk,.int .i64 p,.slice ua C.length uk,.bool b,.bool s]) (by simp[results,Tryz.results44,go_sem,c0,c1,c2,c3,c4,c5,c6,c7]) rfl ⟨_,_,rfl,hA,hK,hB⟩
end Go.Proofs.YtlnfbjbagmfpiaaGreatDoor.Dm
namespace Go.Proofs.YtlnfbjbagmfpiaaGreatDoor.Dm
open Go.RowKit
theorem TinfoN:(Tryz.prog.info? 39).map (fun i=>(i.zero,i.size,i.bytes))=some (some (.agg #[.int .i64 0,.string ⟨#[]⟩,.string ⟨#[]⟩,.slice none 0 0,.int .i64 0,.slice none 0 0,.bool false,.bool false]),8,104):=by kernel_rfl
theorem own_hid (D:List Nd)(hf:FitD D):Hid (∀ W sl A K,DocIn W sl D A K->Calls Tryz.prog 13 #[.agg #[sl]] W fun e w'=>∃ sl',e=.returned (.agg #[sl'])/\OwnX w' W.heap.size sl' D/\Below W.heap.size W w'):=Lib.hid fun w sl A K hd=>by
 obtain⟨a,c,rfl⟩:=hd.form;obtain⟨d1,b1,l1⟩:=docBox w hd;have hfl:=hf.1;have HF:=Lib.hid hf;have HD0:=Lib.hid hd;obtain⟨i0,hi0,hz0,hz1,hz2⟩:=info_parts TinfoN;have hs1:(w.alloc (.cells #[.slice a D.length c] 24)).heap.size=w.heap.size+1:=by simp
 generalize hw1:w.alloc (.cells #[.slice a D.length c] 24)=w1 at d1 b1 l1 hs1;have al2:=(Below.refl w1.heap.size w1).alloc (Nat.le_refl _) (.cells #[.slice none 0 0] 24);have hb2:=new_block w1 (.cells #[.slice none 0 0] 24);rw[hs1]at hb2;have hb1:=(al2.block _ (lt_of_block b1)).trans b1;have hbel:=l1.trans (al2.mono (by omega));generalize hw2:w1.alloc (.cells #[.slice none 0 0] 24)=w2 at al2 hb2 hb1 hbel;have H2:=Lib.hid (And.intro hb1 (And.intro hb2 hbel));have e0:=cell_of hb1 0;clear hd d1 b1 l1 hf al2 hb1 hb2 hbel
 go_enter Tryz.func13,Tryz.ntmps13
 go_wp2
 clear hw1 hw2 hs1;generalize hR:w.heap.size=R at e0 H2 ⊢;rw[<- hR]at H2;have HR:=Lib.hid hR;clear hR
 go_loopw [3,4] (fun ov i wr=>∃(u:Nat) (A' K':Nat->Value),i=.int .i64 u/\u<=D.length/\Hid (OwnD wr w.heap.size ov (D.take u) A' K'/\wr.heap[R]? = some (.cells #[.slice a D.length c] 24 (0,0))/\wr.heap[R+1]? = some (.cells #[.slice none 0 0] 24 (0,0))/\Below w.heap.size w wr)) (fun _ i _=>D.length - (intOf i).toNat)
 case atStart=>exact⟨0,A,K,rfl,Nat.zero_le _,Lib.hid ⟨OwnD.nil _ _ _ _,by rw[<- HR.out];exact H2.out.1,by rw[<- HR.out];exact H2.out.2.1,H2.out.2.2⟩⟩
 case round =>
  clear H2 e0;obtain⟨u,A',K',rfl,hu,HX⟩:=hrel;have e0:=cell_of HX.out.2.1 0
  by_cases hlt:u<D.length
  · obtain⟨B,off,rfl,c0,c1,c2,c3,c4,c5,c6,c7⟩:=(HD0.out.below HX.out.2.2.2).node hlt
    have zu:(u:Int)<(D.length:Int):=by omega
    have hfit:=HF.out.2 _ (List.getElem_mem hlt);have CO:=ownNode_hid D[u] hfit;have HA:=Lib.hid (And.intro ((HD0.out.below HX.out.2.2.2).at' u hlt) ((HD0.out.below HX.out.2.2.2).kd u hlt));have htk:D.take (u+1)=D.take u++[D[u]]:=by rw[List.take_add_one,List.getElem?_eq_getElem hlt];rfl
    have HTK:=Lib.hid htk;have hlk:(D.take u).length=u:=by rw[List.length_take];omega
    obtain⟨aa,ac,hA⟩:=((HD0.out.below HX.out.2.2.2).at' u hlt).form;obtain⟨ka,kc,hK⟩:=((HD0.out.below HX.out.2.2.2).kd u hlt).form;rw[hA,hK]at HA;rw[hA]at c3;rw[hK]at c5;obtain⟨N,hN⟩:=text_of D[u].n;obtain⟨T,hT⟩:=text_of D[u].d;unfold nodeV at CO;rw[strV_of hN,strV_of hT]at CO;rw[strV_of hN]at c1;rw[strV_of hT]at c2
    have hND:∀ av kv,ndC D[u] av kv=[.int .i64 D[u].k,.string N,.string T,av,.int .i64 D[u].p,kv,.bool D[u].b,.bool D[u].s]:=fun av kv=>by
     unfold ndC;rw[strV_of hN,strV_of hT]
    have HND:=Lib.hid hND;clear hN hT hA hK htk hfit hND
    go_wp2_with fail
    (refine(CO.out _ _ _ HA.out.1 HA.out.2).mono ?_)
    rintro e w3 ⟨av,kv,rfl,ra,rk,b3⟩;obtain⟨va,vk,rfl⟩:=row_form ra;obtain⟨ua,uk,rfl⟩:=row_form rk;clear c0 c1 c2 c3 c4 c5 c6 c7;have b4:=(Below.refl w3.heap.size w3).alloc (Nat.le_refl _) (.cells #[.int .i64 D[u].k,.string N,.string T,.slice va D[u].a.length vk,.int .i64 D[u].p,.slice ua D[u].c.length uk,.bool D[u].b,.bool D[u].s] 39);have b5:=b4.trans (((Below.refl _ _).alloc (Nat.le_refl _) (.cells #[.int .i64 D[u].k,.string N,.string T,.slice va D[u].a.length vk,.int .i64 D[u].p,.slice ua D[u].c.length uk,.bool D[u].b,.bool D[u].s] 39)).mono b4.size);have hsz:(w3.alloc (.cells #[.int .i64 D[u].k,.string N,.string T,.slice va D[u].a.length vk,.int .i64 D[u].p,.slice ua D[u].c.length uk,.bool D[u].b,.bool D[u].s] 39)).heap.size=w3.heap.size+1:=by simp
    have hro:=RowIn.made (w3.alloc (.cells #[.int .i64 D[u].k,.string N,.string T,.slice va D[u].a.length vk,.int .i64 D[u].p,.slice ua D[u].c.length uk,.bool D[u].b,.bool D[u].s] 39)) #[.int .i64 D[u].k,.string N,.string T,.slice va D[u].a.length vk,.int .i64 D[u].p,.slice ua D[u].c.length uk,.bool D[u].b,.bool D[u].s] 39 1 8 rfl (fun x hx=>by simp at hx;rcases hx with rfl | rfl | rfl | rfl | rfl | rfl | rfl | rfl<;>rfl);rw[hsz]at hro;obtain⟨oa,oc,ho⟩:=HX.out.1.form;rw[hlk]at ho;subst ho;have hrow:=row_below (row_below HX.out.1.row b3) b5;rw[hlk]at hrow;have H5:=Lib.hid (And.intro hro (And.intro hrow (And.intro ra (And.intro rk (And.intro b3 b5)))));have hws:w.heap.size<=wr.heap.size:=HX.out.2.2.2.size;have hws5:=Nat.le_trans hws (Nat.le_trans b3.size b5.size);clear hro hrow ra rk b3 b4 b5 hsz
    go_wp2_with (at_builtin
                 refine wpList_append_rowG rfl _ _ 22 39 i0 (.agg #[.int .i64 0,.string ⟨#[]⟩,.string ⟨#[]⟩,.slice none 0 0,.int .i64 0,.slice none 0 0,.bool false,.bool false]) 8 104 Tryz.underlying22 hi0 hz0 hz1 hz2 rfl (by decide) rfl w.heap.size _ u (ndsC (D.take u) A' K') rfl H5.out.2.1 _ 1 _ rfl H5.out.1 (by unfold maxLen;omega) (by omega) hws5 ?_;intro v6 w6 hown6 hgrow6 hat6;obtain⟨xa,xc,rfl⟩:=row_form hown6;have HO:=Lib.hid (And.intro hown6 hgrow6)
                 clear hown6 hgrow6 hat6)
    have H6:Hid (OwnD w6 w.heap.size (.slice xa (u+1) xc) (D.take (u+1)) (upd A' u (.slice va D[u].a.length vk)) (upd K' u (.slice ua D[u].c.length uk))/\w6.heap[R]? = some (.cells #[.slice (some ⟨B,off,none⟩) D.length c] 24 (0,0))/\w6.heap[R+1]? = some (.cells #[.slice none 0 0] 24 (0,0))/\Below w.heap.size w w6):=Lib.hid (by
     have b35:=H5.out.2.2.2.2.1.trans (H5.out.2.2.2.2.2.mono H5.out.2.2.2.2.1.size);have hm:=HX.out.1.more H5.out.2.2.1 H5.out.2.2.2.1 H5.out.2.2.2.2.1 H5.out.2.2.2.2.2 hws (by rw[hlk,HND.out];exact HO.out.1) HO.out.2;rw[hlk,<- HTK.out]at hm;have kk:=(HX.out.1.below b35).grown HO.out.2
     exact⟨hm,kk.cells ((b35.block _ (lt_of_block HX.out.2.1)).trans HX.out.2.1) fun e=>absurd e.1 (by decide),kk.cells ((b35.block _ (lt_of_block HX.out.2.2.1)).trans HX.out.2.2.1) fun e=>absurd e.1 (by decide),(HX.out.2.2.2.trans (b35.mono hws)).trans (kk.below (fun j t e=>e.2) hws5)⟩)
    clear HO H5
    go_roundw
    case rel=>exact⟨u+1,_,_,by go_num,by omega,H6⟩
    case measure=>simp[intOf];omega
  · obtain rfl:u=D.length:=by omega
    have hX:=HX.out;rw[List.take_length]at hX;obtain⟨oa,oc,rfl⟩:=hX.1.form;have o1:=open_of hX.2.2.1 0;have r1:=cell_of hX.2.2.1 0;have q1:=heap_setCell_same wr (R+1) 0 _ _ _ (.slice oa D.length oc) hX.2.2.1;have c0:(wr.setCell ⟨R+1,0,none⟩ (.slice oa D.length oc)).cell? ⟨R+1,0,none⟩=some (.slice oa D.length oc):=by rw[cell_of q1];rfl
    have kS:Kp (fun j t=>j=R+1) wr (wr.setCell ⟨R+1,0,none⟩ (.slice oa D.length oc)):=Kp.of_set hX.2.2.1 _ rfl;have H7:Hid (OwnD (wr.setCell ⟨R+1,0,none⟩ (.slice oa D.length oc)) w.heap.size (.slice oa D.length oc) D A' K'/\Below w.heap.size w (wr.setCell ⟨R+1,0,none⟩ (.slice oa D.length oc))):=Lib.hid ⟨⟨kS.row hX.1.row fun j hj _ e=>row_ne hX.1.row hX.2.2.1 (by decide) (by rw[hj,e]),fun i hi=>kS.row (hX.1.at' i hi) fun j hj _ e=>row_ne (hX.1.at' i hi) hX.2.2.1 (by decide) (by rw[hj,e]),fun i hi=>kS.row (hX.1.kd i hi) fun j hj _ e=>row_ne (hX.1.kd i hi) hX.2.2.1 (by decide) (by rw[hj,e]),hX.1.na,hX.1.nk⟩,hX.2.2.2.trans (kS.below (fun j t e=>by have:=HR.out;omega) hX.2.2.2.size)⟩;clear HX hX q1 kS
    go_wp2
    exact bodyPost_ret (v := .agg #[.slice oa D.length oc]) (by simp[results,Tryz.results13,go_sem,c0]) rfl ⟨_,rfl,⟨_,_,H7.out.1⟩,H7.out.2⟩
end Go.Proofs.YtlnfbjbagmfpiaaGreatDoor.Dm
