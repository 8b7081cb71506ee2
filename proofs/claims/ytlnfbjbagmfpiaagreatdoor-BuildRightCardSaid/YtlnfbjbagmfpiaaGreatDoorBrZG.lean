/- The document's own: Page. The document's own: is a node a script or a style? The document's own: a node's text (what it asks of Encode and of a start tag's Print is a premise). The document's own: Print (what it asks of Encode and of a start tag's Print is a premise). -/
import Derived.Test.YtlnfbjbagmfpiaaGreatDoorBrZD
set_option maxRecDepth 100000
set_option maxHeartbeats 8000000
namespace Go.Proofs.YtlnfbjbagmfpiaaGreatDoor.Dm
open Go.RowKit
theorem fit_newM:FitD newM:=⟨by simp[newM],fun x h=>by
 simp[newM]at h;subst h
 exact⟨by simp,by simp,by simp,by simp,fun y h=>by simp at h⟩⟩
theorem page_hid (l:List Tk)(hl:l.length<=100000)(ht:∀ t∈l,FitK t):Hid (∀ W lv,TksD W lv l->Calls Tryz.prog 23 #[lv] W fun e w'=>∃ sl' fv,e=.returned (.tuple #[.agg #[sl'],fv,.int .i64 (pageM l).2.2])/\OwnX w' W.heap.size sl' (pageM l).1/\w'.ownsRow W.heap.size 93 2 fv (pageM l).2.1.length (flD (pageM l).2.1)/\Below W.heap.size W w'):=Lib.hid fun w lv htk=>by
 have CI:=into_hid newM fit_newM 0 l hl ht true;have HT:=Lib.hid htk;obtain⟨la,lc,rfl,-⟩:=(show ∃ a c,lv=.slice a l.length c/\True from by obtain⟨a,c,h,_⟩:=htk;exact⟨a,c,h,trivial⟩);have HP:Hid (pageM l=intoM newM 0 l true):=Lib.hid rfl;generalize pageM l=P at HP ⊢;clear htk;have al1:=(Below.refl w.heap.size w).alloc (Nat.le_refl _) (.cells #[.slice none 0 0] 24);have hb1:=new_block w (.cells #[.slice none 0 0] 24)
 go_enter Tryz.func23,Tryz.ntmps23
 go_wp2_with fail
 (refine(newQ_hid.out _).mono ?_)
 rintro e w2 ⟨sl',rfl,⟨A2,K2,o2⟩,b2⟩;obtain⟨na,nc,rfl⟩:=o2.form;have b1:=al1.trans (b2.mono al1.size);have hb2:=(b2.block _ (lt_of_block hb1)).trans hb1;have H2:=Lib.hid (And.intro o2.doc (And.intro b1 hb2));clear al1 hb1 o2 b2 b1 hb2
 go_wp2_with fail
 (refine(CI.out _ _ A2 K2 _ H2.out.1 (HT.out.below H2.out.2.1)).mono ?_)
 rintro e w3 ⟨sl3,fv,rfl,⟨A3,K3,o3⟩,f3,b3⟩;rw[<- HP.out]at o3 f3;rw[<- HP.out];obtain⟨da,dc,rfl⟩:=o3.form;obtain⟨fa,fc,rfl⟩:=row_form f3;have hres:=(b3.block _ (lt_of_block H2.out.2.2)).trans H2.out.2.2;have u2:=open_of hres 0;have v2:=cell_of hres 0;have q2:=heap_setCell_same w3 w.heap.size 0 _ _ _ (.slice da P.1.length dc) hres;have c9:(w3.setCell ⟨w.heap.size,0,none⟩ (.slice da P.1.length dc)).cell? ⟨w.heap.size,0,none⟩=some (.slice da P.1.length dc):=by rw[cell_of q2];rfl
 have HO:Hid (OwnX (w3.setCell ⟨w.heap.size,0,none⟩ (.slice da P.1.length dc)) w.heap.size (.slice da P.1.length dc) P.1/\(w3.setCell ⟨w.heap.size,0,none⟩ (.slice da P.1.length dc)).ownsRow w.heap.size 93 2 (.slice fa P.2.1.length fc) P.2.1.length (flD P.2.1)/\Below w.heap.size w (w3.setCell ⟨w.heap.size,0,none⟩ (.slice da P.1.length dc))):=Lib.hid (by
  have kS:Kp (fun j _=>j=w.heap.size) w3 (w3.setCell ⟨w.heap.size,0,none⟩ (.slice da P.1.length dc)):=Kp.of_set hres _ rfl;have hs:=H2.out.2.1.size
  exact⟨⟨_,_,(o3.setDoc hres).low hs⟩,row_low (kS.row f3 fun j hj _ e=>row_ne f3 hres (by decide) (by rw[hj];exact congrArg _ e)) hs,(H2.out.2.1.trans (b3.mono hs)).trans (kS.below (fun j t e=>by have e1:j=w.heap.size:=e;omega) (by have:=b3.size;omega))⟩)
 clear q2 o3 f3 b3 hres
 go_wp2
 exact bodyPost_ret (v := .tuple #[.agg #[.slice da P.1.length dc],.slice fa P.2.1.length fc,.int .i64 P.2.2]) (by simp[results,Tryz.results23,go_sem,c9]) rfl ⟨_,_,rfl,HO.out.1,HO.out.2.1,HO.out.2.2⟩
end Go.Proofs.YtlnfbjbagmfpiaaGreatDoor.Dm
namespace Go.Proofs.YtlnfbjbagmfpiaaGreatDoor.Dm
open Go.RowKit
theorem code_hid (D:List Nd)(n:Int)(hn:n<(D.length:Int)):Hid (∀ W sl A K,DocIn W sl D A K->Calls Tryz.prog 92 #[.agg #[sl],.int .i64 n] W fun e w'=>e=.returned (.bool (codeM D n))/\Below W.heap.size W w'):=Lib.hid fun w sl A K hd=>by
 obtain⟨a,c,rfl⟩:=hd.form;have al:=(Below.refl w.heap.size w).alloc (Nat.le_refl _) (.cells #[.slice a D.length c] 24);have nb:=new_block w (.cells #[.slice a D.length c] 24);generalize hw1:w.alloc (.cells #[.slice a D.length c] 24)=w1 at al nb;have e0:=cell_of nb 0;have HB:=Lib.hid al
 by_cases h0:n<0
 · have HE:Hid (codeM D n=false):=Lib.hid (by unfold codeM;rw[decide_eq_false (by omega),Bool.false_and])
   rw[HE.out];clear al nb
   go_enter Tryz.func92,Tryz.ntmps92
   go_wp2
   go_ret
   exact⟨rfl,HB.out⟩
 obtain⟨m,rfl⟩:∃ m:Nat,n=(m:Int):=⟨n.toNat,by omega⟩;have hm:m<D.length:=by omega
 have zm:(m:Int)<(D.length:Int):=by omega
 have zm0:(0:Int)<=(m:Int):=by omega
 obtain⟨B,off,rfl,-,c1,-⟩:=(hd.below al).node hm;obtain⟨X,hX⟩:=text_of D[m].n;rw[strV_of hX]at c1;have hnm:nameN D m=X.data.toList:=by unfold nameN;rw[List.getElem?_eq_getElem hm,hX]
 obtain⟨b1,hb1⟩:∃ b,decide (X.data.toList=scriptN)=b:=⟨_,rfl⟩;obtain⟨b2,hb2⟩:∃ b,decide (X.data.toList=styleN)=b:=⟨_,rfl⟩;have g1:(X.toList==[115,99,114,105,112,116])=b1:=by rw[text_lit];exact hb1
 have g2:(X.toList==[115,116,121,108,101])=b2:=by rw[text_lit];exact hb2
 have HE:Hid (codeM D (m:Int)=(b1 || b2)):=Lib.hid (by unfold codeM;rw[decide_eq_true zm0,Bool.true_and,Int.toNat_natCast,hnm,hb1,hb2]);rw[HE.out];clear al nb hX hnm hb1 hb2
 cases b1<;>cases b2
 all_goals
  go_enter Tryz.func92,Tryz.ntmps92
  go_wp2
  go_ret
  exact⟨rfl,HB.out⟩
end Go.Proofs.YtlnfbjbagmfpiaaGreatDoor.Dm
namespace Go.Proofs.YtlnfbjbagmfpiaaGreatDoor.Dm
open Go.RowKit
def PrintP (D:List Nd)(i:Nat):Prop:=∀ W sl A K,DocIn W sl D A K->Calls Tryz.prog 61 #[.agg #[sl],.int .i64 (i:Int)] W fun e w'=>e=.returned (strV (printD D i))/\Below W.heap.size W w'
theorem printed_step (CEnc:∀(s T:ByteArray),T.data.toList=encT s.data.toList->s.size<=100000->Hid (∀ W,Calls Tryz.prog 93 #[.string s] W fun e w'=>e=.returned (.string T)/\w'=W))
 (CPr:∀(X P:ByteArray) (A:List (List UInt8 × List UInt8)),P.data.toList=startT ⟨2,X.data.toList,[],A,false⟩->X.size<=1000->wAd A<=95000->Hid (∀ W R av,W.heap[R]? = some (.cells #[.int .i64 2,.string X,.string ⟨#[]⟩,av,.bool false] 57 (0,0))->AtIn W av A->Calls Tryz.prog 94 #[.slice (some ⟨R,0,none⟩) 1 1] W fun e w'=>e=.returned (.string P)/\Below W.heap.size W w'))
 (D:List Nd) (R:Right D) (hf:FitD D) (hpr:PrD D) (i:Nat) (hi:i<D.length) (ih:∀ y∈kid D i,PrintP D y.toNat):PrintP D i:=fun w sl A K hd=>by
 obtain⟨a,c,rfl⟩:=hd.form;obtain⟨d1,b1,l1⟩:=docBox w hd;have hfl:=hf.1;generalize hw1:w.alloc (.cells #[.slice a D.length c] 24)=w1 at d1 b1 l1;obtain⟨Rb,hR⟩:∃ R,w.heap.size=R:=⟨_,rfl⟩;have b1':=b1;rw[hR]at b1';have e0:=cell_of b1' 0;have zi:(i:Int)<(D.length:Int):=by omega
 have zi0:(0:Int)<=(i:Int):=by omega
 obtain⟨B,off,rfl,c0,c1,c2,c3,c4,c5,c6,c7⟩:=d1.node hi;obtain⟨X,hX⟩:=text_of D[i].n;obtain⟨Y,hY⟩:=text_of D[i].d;rw[strV_of hX]at c1;rw[strV_of hY]at c2;obtain⟨aa,ac,ha⟩:=(d1.at' i hi).form;obtain⟨ka,kc,hk⟩:=(d1.kd i hi).form;rw[ha]at c3;rw[hk]at c5
 have HI:Hid (∀ v (h:v<D[i].c.length),PrintP D D[i].c[v].toNat/\∃ t:Nat,D[i].c[v]=t/\t<D.length):=Lib.hid fun v h=>by
  have hm:D[i].c[v]∈kid D i:=by rw[kid_at hi];exact List.getElem_mem h
  obtain⟨t,e,ht,_⟩:=kid_pos R hm;exact⟨ih _ hm,t,e,ht⟩
 have HE:Hid (printD D i=wrapM D i (innM D D[i].c D[i].c.length)):=Lib.hid (by rw[printD_eq R hi,kid_at hi];unfold innM;rw[List.take_length]);have hlen:D[i].c.length<=1000:=(hf.2 _ (List.getElem_mem hi)).2.2.2.1;have HFt:=Lib.hid (And.intro R (And.intro hf hi));have HKa:=Lib.hid (And.intro ha hk);have HXY:=Lib.hid (And.intro hX hY);have H1:=Lib.hid (And.intro d1 (And.intro b1' l1));clear hd d1 b1 b1' l1 ih R hf ha hk hX hY;have alx:=(Below.refl w1.heap.size w1).alloc (Nat.le_refl _) (.cells #[.int .i64 D[i].k,.string X,.string Y,.slice aa D[i].a.length ac,.int .i64 D[i].p,.slice ka D[i].c.length kc,.bool D[i].b,.bool D[i].s] 39);have nbx:=new_block w1 (.cells #[.int .i64 D[i].k,.string X,.string Y,.slice aa D[i].a.length ac,.int .i64 D[i].p,.slice ka D[i].c.length kc,.bool D[i].b,.bool D[i].s] 39);obtain⟨Rx,hRx⟩:∃ R,w1.heap.size=R:=⟨_,rfl⟩;rw[hRx]at nbx;have hRbx:Rb<Rx:=by have:=lt_of_block H1.out.2.1;omega
 have H2:=Lib.hid (And.intro (H1.out.1.below alx) (And.intro ((alx.block _ (lt_of_block H1.out.2.1)).trans H1.out.2.1) (And.intro nbx (H1.out.2.2.trans (alx.mono H1.out.2.2.size)))));clear alx nbx
 go_enter Tryz.func61,Tryz.ntmps61
 go_wp2
 clear hw1 e0 c0 c1 c2 c3 c4 c5 c6 c7 H1
 go_loopw [6,7] (fun s j wr=>∃(v:Nat) (T:ByteArray),s=.string T/\j=.int .i64 (v:Int)/\v<=D[i].c.length/\Hid (T.data.toList=innM D D[i].c v)/\Hid (DocIn wr (.slice (some ⟨B,off,none⟩) D.length c) D A K/\wr.heap[Rb]? = some (.cells #[.slice (some ⟨B,off,none⟩) D.length c] 24 (0,0))/\wr.heap[Rx]? = some (.cells #[.int .i64 D[i].k,.string X,.string Y,.slice aa D[i].a.length ac,.int .i64 D[i].p,.slice ka D[i].c.length kc,.bool D[i].b,.bool D[i].s] 39 (0,0))/\Below w.heap.size w wr)) (fun _ j _=>D[i].c.length - (intOf j).toNat)
 case atStart=>exact⟨0,⟨#[]⟩,rfl,rfl,Nat.zero_le _,Lib.hid rfl,H2⟩
 case round =>
  obtain⟨v,T,rfl,rfl,hv,HT,HJ⟩:=hrel;clear H2;have d0:=cell_of HJ.out.2.1 0;have m5:=cell_of HJ.out.2.2.1 5
  by_cases hlv:v<D[i].c.length
  · obtain⟨hdn,tt,htt,htl⟩:=HI.out v hlv
    have hkd:=HJ.out.1.kd i hi;rw[HKa.out.2]at hkd;obtain⟨B2,off2,rfl,k0⟩:=hkd.at hlv;have hst:=inn_step (d:=D) (C:=D[i].c) (v:=v) hlv;rw[htt]at k0 hdn hst;rw[Int.toNat_natCast]at hdn hst;have zv:(v:Int)<(D[i].c.length:Int):=by omega
    have zv0:(0:Int)<=(v:Int):=by omega
    obtain⟨P,hP⟩:=text_of (printD D tt);obtain⟨T2,hT2⟩:=text_of (T.data.toList++P.data.toList);have HT3:Hid (T2.data.toList=innM D D[i].c (v+1)):=Lib.hid (by rw[hT2,hst,hP,HT.out])
    have hadd:=add_to T P T2 hT2 (by
     have h1:=inn_len HFt.out.2.1 HFt.out.1 hi v;have h2:=printD_len HFt.out.2.1 HFt.out.1 htl;rw[<- HT.out,lsize]at h1;rw[<- hP,lsize]at h2
     omega)
    have HC:Hid (∀ w',Below wr.heap.size wr w'->Calls Tryz.prog 61 #[.agg #[.slice (some ⟨B,off,none⟩) D.length c],.int .i64 (tt:Int)] w' fun e w2=>e=.returned (.string P)/\Below wr.heap.size wr w2):=Lib.hid fun w' b=>(hdn w' _ A K (HJ.out.1.below b)).mono fun e w2 ⟨h1,h2⟩=>⟨by rw[h1,strV_of hP],b.trans (h2.mono b.size)⟩;have HS:Hid (∀ w',Below wr.heap.size wr w'->(w'.cell? ⟨Rb,0,none⟩=some (.slice (some ⟨B,off,none⟩) D.length c)/\w'.cell? ⟨Rx,5,none⟩=some (.slice (some ⟨B2,off2,none⟩) D[i].c.length kc)/\w'.cell? ⟨B2,off2+v,none⟩=some (.int .i64 (tt:Int))/\Below wr.heap.size wr w')):=Lib.hid fun w' b=>⟨(b.cell (lt_of_cell d0)).trans d0,(b.cell (lt_of_cell m5)).trans m5,(b.cell (lt_of_cell k0)).trans k0,b⟩;have S0:=HS.out _ (Below.refl wr.heap.size wr).drew;clear hkd hst hP hT2 HT hdn htt
    go_wp2_with fail
    go_region_held3 (fun w'=>w'.cell? ⟨Rb,0,none⟩=some (.slice (some ⟨B,off,none⟩) D.length c)/\w'.cell? ⟨Rx,5,none⟩=some (.slice (some ⟨B2,off2,none⟩) D[i].c.length kc)/\w'.cell? ⟨B2,off2+v,none⟩=some (.int .i64 (tt:Int))/\Below wr.heap.size wr w') (first | assumption | (refine HS.out _ ?_;assumption)) (first
     | (go_at_call 61
        (with_reducible refine(HC.out _ ?_).mono ?_)
        · (go_split_ands;assumption)
        rintro e w2 ⟨rfl,b2⟩))
    all_goals
     have HK2:=Lib.hid (And.intro (HJ.out.1.below b2) (And.intro ((b2.block _ (lt_of_block HJ.out.2.1)).trans HJ.out.2.1) (And.intro ((b2.block _ (lt_of_block HJ.out.2.2.1)).trans HJ.out.2.2.1) (HJ.out.2.2.2.trans (b2.mono HJ.out.2.2.2.size)))));clear b2 S0 HS HC HJ
     go_wp2
     go_roundw
     case rel=>exact⟨v+1,T2,rfl,by go_num,by omega,HT3,HK2⟩
     case measure=>simp[intOf];omega
  · obtain rfl:v=D[i].c.length:=by omega
    have m0:=cell_of HJ.out.2.2.1 0;have m1:=cell_of HJ.out.2.2.1 1;have m2:=cell_of HJ.out.2.2.1 2;have m3:=cell_of HJ.out.2.2.1 3;have m4:=cell_of HJ.out.2.2.1 4;have hfit:=HFt.out.2.1.2 _ (List.getElem_mem hi);have hYl:Y.size<=10000:=by rw[<- lsize,HXY.out.2];exact hfit.2.1
    have HW:Hid (wrapM D i (innM D D[i].c D[i].c.length)=printD D i):=Lib.hid HE.out.symm;have HQ:Hid (wrapM D i T.data.toList=printD D i):=Lib.hid (by rw[HT.out];exact HW.out);have hg:=List.getElem?_eq_getElem hi
    by_cases k3:D[i].k=3
    · have CC:=code_hid D D[i].p (par_lt HFt.out.1 hi)
      have HZ:Hid ((if codeM D D[i].p then Y.data.toList else encT Y.data.toList)=printD D i):=Lib.hid (by rw[<- HQ.out];unfold wrapM;rw[hg];simp only[k3,if_true];rw[HXY.out.2]);obtain⟨E,hE⟩:=text_of (encT Y.data.toList);have CE:=CEnc Y E hE (by omega);rw[k3]at m0;obtain⟨cb,hcb⟩:∃ cb,codeM D D[i].p=cb:=⟨_,rfl⟩;rw[hcb]at CC HZ;replace hE:=Lib.hid hE;clear HQ HW HE hcb
      go_wp2_with fail
      (refine(CC.out _ _ _ _ HJ.out.1).mono ?_)
      rintro e w5 ⟨rfl,b5⟩;have m2':=(b5.cell (lt_of_cell m2)).trans m2;have HB:=Lib.hid (HJ.out.2.2.2.trans (b5.mono HJ.out.2.2.2.size));clear b5 m0 m1 m2 m3 m4 m5 d0
      cases cb with
      | true =>
        have HS2:Hid (strV (printD D i)=.string Y):=Lib.hid (by rw[<- HZ.out,if_pos rfl];exact strV_of rfl);clear HZ
        go_wp2
        go_ret
        exact⟨by rw[HS2.out];rfl,HB.out⟩
      | false =>
        go_wp2_with fail
        (refine(CE.out _).mono ?_)
        rintro e w6 ⟨rfl,hw6⟩;rw[hw6];have HS2:Hid (strV (printD D i)=.string E):=Lib.hid (by rw[<- HZ.out,if_neg (by simp)];exact strV_of hE.out);clear hw6 HZ
        go_wp2
        go_ret
        exact⟨by rw[HS2.out];rfl,HB.out⟩
    by_cases k4:D[i].k=4
    · obtain⟨Z1,hZ1⟩:=text_of ([60,33,45,45]++Y.data.toList)
      obtain⟨Z2,hZ2⟩:=text_of (Z1.data.toList++[45,45,62]);have HZ:Hid (Z2.data.toList=printD D i):=Lib.hid (by rw[<- HQ.out,hZ2,hZ1];unfold wrapM;rw[hg];simp only[k4];rw[HXY.out.2];simp);have hZl:Z1.size<=10004:=by rw[<- lsize,hZ1];simp;omega
      have a1:=add_to ⟨#[60,33,45,45]⟩ Y Z1 hZ1 (by show 4+Y.size<=_;omega);have a2:=add_to Z1 ⟨#[45,45,62]⟩ Z2 hZ2 (by show Z1.size+3<=_;omega);rw[k4]at m0;replace hZ1:=Lib.hid hZ1;replace hZ2:=Lib.hid hZ2;have HS2:Hid (strV (printD D i)=.string Z2):=Lib.hid (by rw[<- HZ.out];exact strV_of rfl);clear HQ HW HE HZ
      go_wp2
      go_ret
      exact⟨by rw[HS2.out];rfl,HJ.out.2.2.2⟩
    by_cases k2:D[i].k=2
    case neg =>
     have g3:(D[i].k==3)=false:=by simpa using k3
     have g4:(D[i].k==4)=false:=by simpa using k4
     have g2:(D[i].k==2)=false:=by simpa using k2
     have HZ:Hid (T.data.toList=printD D i):=Lib.hid (by rw[<- HQ.out];unfold wrapM;rw[hg];simp only[k3,k4,k2,if_false]);have HS2:Hid (strV (printD D i)=.string T):=Lib.hid (by rw[<- HZ.out];exact strV_of rfl);clear HQ HW HE HZ hg
     go_wp2
     go_ret
     exact⟨by rw[HS2.out];rfl,HJ.out.2.2.2⟩
    obtain⟨S,hS⟩:=text_of (startT ⟨2,X.data.toList,[],D[i].a,false⟩)
    have hSl:S.size<=100000000:=by
     have h1:=wrap_le HFt.out.2.1 i [];unfold wrapM at h1;rw[hg]at h1;simp only[k2]at h1;rw[<- lsize,hS,HXY.out.1];simp at h1;omega
    have CS:=(CPr X S D[i].a hS (by rw[<- lsize,HXY.out.1];exact hfit.1) (hpr _ (List.getElem_mem hi))).out;obtain⟨b0,hb0⟩:∃ b0,voidM D[i].n=b0:=⟨_,rfl⟩;have CV:=refVoid_hid X b0 (by rw[HXY.out.1];exact hb0)
    have hTl:T.size<=30000000000000:=by
     have h1:=inn_len HFt.out.2.1 HFt.out.1 hi D[i].c.length;rw[<- HT.out,lsize]at h1;exact h1
    have hXl:X.size<=1000:=by rw[<- lsize,HXY.out.1];exact hfit.1
    obtain⟨Z1,hZ1⟩:=text_of (S.data.toList++T.data.toList);obtain⟨Z2,hZ2⟩:=text_of (Z1.data.toList++[60,47]);obtain⟨Z3,hZ3⟩:=text_of (Z2.data.toList++X.data.toList);obtain⟨Z4,hZ4⟩:=text_of (Z3.data.toList++[62]);have l1:Z1.size=S.size+T.size:=by rw[<- lsize,hZ1,List.length_append,lsize,lsize]
    have l2:Z2.size=Z1.size+2:=by rw[<- lsize,hZ2,List.length_append,lsize];rfl
    have l3:Z3.size=Z2.size+X.size:=by rw[<- lsize,hZ3,List.length_append,lsize,lsize]
    have a1:=add_to S T Z1 hZ1 (by omega);have a2:=add_to Z1 ⟨#[60,47]⟩ Z2 hZ2 (by show Z1.size+2<=_;omega);have a3:=add_to Z2 X Z3 hZ3 (by omega);have a4:=add_to Z3 ⟨#[62]⟩ Z4 hZ4 (by show Z3.size+1<=_;omega)
    have HZ:Hid (b0=true->strV (printD D i)=.string S):=Lib.hid fun h=>by
     rw[<- HQ.out];unfold wrapM;rw[hg];simp only[k2];rw[hb0,h,<- HXY.out.1];simp;exact strV_of hS
    have HZ':Hid (b0=false->strV (printD D i)=.string Z4):=Lib.hid fun h=>by
     rw[<- HQ.out];refine strV_of ?_;rw[hZ4,hZ3,hZ2,hZ1,hS];unfold wrapM;rw[hg];simp only[k2];rw[hb0,h,<- HXY.out.1];simp
    rw[k2]at m0;have hat:=HJ.out.1.at' i hi;rw[HKa.out.1]at hat;have HAt:=Lib.hid hat;replace CS:=Lib.hid CS;clear HQ HW HE hg hS hZ1 hZ2 hZ3 hZ4 hb0 hat l1 l2 l3
    go_wp2_with fail
    have al:=(Below.refl wr.heap.size wr).alloc (Nat.le_refl _) (.cells #[.int .i64 2,.string X,.string ⟨#[]⟩,.slice aa D[i].a.length ac,.bool false] 57)
    (refine(CS.out _ wr.heap.size _ (new_block _ _) (AtIn.below HAt.out al)).mono ?_)
    rintro e w5 ⟨rfl,b5⟩;have b6:=al.trans (b5.mono al.size);have m1':=(b6.cell (lt_of_cell m1)).trans m1;have HB:=Lib.hid (HJ.out.2.2.2.trans (b6.mono HJ.out.2.2.2.size));clear al b5 b6 m0 m1 m2 m3 m4 m5 d0 HAt
    go_wp2_with fail
    (refine(CV.out _).mono ?_)
    rintro e w6 ⟨rfl,hw6⟩;rw[hw6];clear hw6
    cases b0 with
    | true =>
      have HS2:=Lib.hid (HZ.out rfl);clear HZ HZ'
      go_wp2
      go_ret
      exact⟨by rw[HS2.out];rfl,HB.out⟩
    | false =>
      have HS2:=Lib.hid (HZ'.out rfl);clear HZ HZ'
      go_wp2
      go_ret
      exact⟨by rw[HS2.out];rfl,HB.out⟩
end Go.Proofs.YtlnfbjbagmfpiaaGreatDoor.Dm
namespace Go.Proofs.YtlnfbjbagmfpiaaGreatDoor.Dm
open Go.RowKit
def EncC:Prop:=∀(s T:ByteArray),T.data.toList=encT s.data.toList->s.size<=100000->Hid (∀ W,Calls Tryz.prog 93 #[.string s] W fun e w'=>e=.returned (.string T)/\w'=W)
def PrC:Prop:=∀(X P:ByteArray) (A:List (List UInt8 × List UInt8)),P.data.toList=startT ⟨2,X.data.toList,[],A,false⟩->X.size<=1000->wAd A<=95000->Hid (∀ W R av,W.heap[R]? = some (.cells #[.int .i64 2,.string X,.string ⟨#[]⟩,av,.bool false] 57 (0,0))->AtIn W av A->Calls Tryz.prog 94 #[.slice (some ⟨R,0,none⟩) 1 1] W fun e w'=>e=.returned (.string P)/\Below W.heap.size W w')
def printM2 (D:List Nd)(n:Int):List UInt8:=if thereM D n=true then printD D n.toNat else []
theorem refPrint2_hid (CEnc:EncC)(CPr:PrC)(D:List Nd)(hf:FitD D)(hpr:PrD D)(n:Int):Hid (∀ W sl A K,DocIn W sl D A K->Calls Tryz.prog 28 #[.agg #[sl],.int .i64 n] W fun e w'=>e=.returned (strV (printM2 D n))/\Below W.heap.size W w'):=Lib.hid fun w sl A K hd=>by
 obtain⟨a,c,rfl⟩:=hd.form;have CT:=there_hid D hf n;have al:=(Below.refl w.heap.size w).alloc (Nat.le_refl _) (.cells #[.slice a D.length c] 24);have nb:=new_block w (.cells #[.slice a D.length c] 24);generalize hw1:w.alloc (.cells #[.slice a D.length c] 24)=w1 at al nb;have e0:=cell_of nb 0;have HD:=Lib.hid (And.intro (hd.below al) (And.intro nb al));have HF:=Lib.hid hf;obtain⟨b,hb⟩:∃ b,thereM D n=b:=⟨_,rfl⟩;have HT:=Lib.hid hb;rw[hb]at CT;clear hd al nb hf hb
 go_enter Tryz.func28,Tryz.ntmps28
 go_wp2_with fail
 (refine(CT.out _ _ _ _ HD.out.1).mono ?_)
 rintro e w2 ⟨rfl,b2⟩;have hd2:=HD.out.1.below b2;have nb2:=(b2.block _ (lt_of_block HD.out.2.1)).trans HD.out.2.1;have e0':=cell_of nb2 0;have H2:=Lib.hid (And.intro hd2 (HD.out.2.2.trans (b2.mono HD.out.2.2.size)));clear b2 hd2 nb2 hw1 e0
 cases b with
 | false =>
   have HS:Hid (strV (printM2 D n)=.string ⟨#[]⟩):=Lib.hid (by unfold printM2;rw[HT.out];rfl)
   go_wp2
   go_ret
   exact⟨by rw[HS.out];rfl,H2.out.2⟩
 | true =>
   obtain⟨R,i,rfl,hi⟩:=there_right HT.out;have HS:Hid (printM2 D (i:Int)=printD D i):=Lib.hid (by unfold printM2;rw[HT.out,if_pos rfl,Int.toNat_natCast]);have CP:PrintP D i:=R.indDown (PrintP D) (fun i hi ih=>printed_step CEnc CPr D R HF.out hpr i hi ih) i hi;obtain⟨P,hP⟩:=text_of (printD D i);have HP:Hid (strV (printD D i)=.string P):=Lib.hid (strV_of hP);replace CP:=Lib.hid CP;clear hP
   go_wp2_with fail
   (refine(CP.out _ _ _ _ H2.out.1).mono ?_)
   rintro e w3 ⟨he,b3⟩;rw[HP.out]at he;subst he;have HB:=Lib.hid (H2.out.2.trans (b3.mono H2.out.2.size));clear b3
   go_wp2
   go_ret
   exact⟨by rw[HS.out,HP.out];rfl,HB.out⟩
end Go.Proofs.YtlnfbjbagmfpiaaGreatDoor.Dm
