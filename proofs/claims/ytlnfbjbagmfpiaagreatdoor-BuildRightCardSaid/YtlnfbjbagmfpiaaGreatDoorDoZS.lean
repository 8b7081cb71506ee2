/- The document's own: a node is taken from where it stands. The document's own: what Put comes to, and a node's kids or attributes that grow in a document of one's own. The document's own: Put. -/
import Derived.Test.YtlnfbjbagmfpiaaGreatDoorDoZO
set_option maxRecDepth 100000
set_option maxHeartbeats 16000000
namespace Go.Proofs.YtlnfbjbagmfpiaaGreatDoor.Dm
open Go.RowKit
theorem par_ne {D:List Nd}(R:Right D){n q:Nat}(hn:n<D.length)(hp:par D n=(q:Nat)):q≠n:=fun e=>by
 have h:=depN_up R hn;rw[hp,e]at h;omega
theorem noN_step {n:Nat}{C:List Int}{v:Nat}(h:v<C.length):noN n (C.take (v+1))=noN n (C.take v)++if C[v]=(n:Int) then [] else [C[v]]:=by
 rw[List.take_add_one,List.getElem?_eq_getElem h];unfold noN;rw[List.filter_append]
 congr 1
 by_cases e:C[v]=(n:Int)
 · simp[e]
 · simp[e]
theorem noN_len (n:Nat)(C:List Int):(noN n C).length<=C.length:=List.length_filter_le _ _
theorem out_hid (D:List Nd)(R:Right D)(hf:FitD D)(n:Nat)(hn:n<D.length):Hid (∀ W sl A K,DocIn W sl D A K->Calls Tryz.prog 148 #[.agg #[sl],.int .i64 (n:Int)] W fun e w'=>∃ sl',e=.returned (.agg #[sl'])/\OwnX w' W.heap.size sl' (cutM D n)/\Below W.heap.size W w'):=Lib.hid fun w sl A K hd=>by
 obtain⟨a,c,rfl⟩:=hd.form;have CO:=own_hid D hf;have hfl:=hf.1;have HF:=Lib.hid hf;have HRt:=Lib.hid R;have hpn:=R.neg hn;have al1:=(Below.refl w.heap.size w).alloc (Nat.le_refl _) (.cells #[.slice a D.length c] 24);have hb1:=new_block w (.cells #[.slice a D.length c] 24);have hs1:(w.alloc (.cells #[.slice a D.length c] 24)).heap.size=w.heap.size+1:=by simp
 generalize hw1:w.alloc (.cells #[.slice a D.length c] 24)=w1 at al1 hb1 hs1;have al2:=(Below.refl w1.heap.size w1).alloc (Nat.le_refl _) (.cells #[.slice none 0 0] 24);have hb2:=new_block w1 (.cells #[.slice none 0 0] 24);rw[hs1]at hb2;generalize hw2:w1.alloc (.cells #[.slice none 0 0] 24)=w2 at al2 hb2;have hb1':=(al2.block _ (lt_of_block hb1)).trans hb1;have hbel:=al1.trans (al2.mono (by omega));have e0:=cell_of hb1' 0;have H2:=Lib.hid (And.intro (hd.below hbel) (And.intro hb2 hbel));clear hd hf R al1 hb1 al2 hb2 hb1' hbel
 go_enter Tryz.func148,Tryz.ntmps148
 go_wp2_with fail
 (refine(CO.out _ _ _ _ H2.out.1).mono ?_)
 rintro e w3 ⟨sl',rfl,o3,b3⟩;clear hw1 hw2 hs1 e0 CO;obtain⟨A2,K2,o3⟩:=o3;obtain⟨oa,oc,rfl⟩:=o3.form
 obtain⟨g,rfl⟩:∃ g,oa=some ⟨g,0,none⟩:=by
  rcases rowForms o3.row with ⟨_,h⟩ | ⟨g,cap,h⟩
  · omega
  · cases h
    exact⟨g,rfl⟩
 have al4:=(Below.refl w3.heap.size w3).alloc (Nat.le_refl _) (.cells #[.slice (some ⟨g,0,none⟩) D.length oc] 24);have hb4:=new_block w3 (.cells #[.slice (some ⟨g,0,none⟩) D.length oc] 24);have b34:=b3.trans (al4.mono b3.size);have o4:=o3.below al4;obtain⟨X,hX⟩:∃ X,w3.heap.size=X:=⟨_,rfl⟩;rw[hX]at hb4;generalize hw4:w3.alloc (.cells #[.slice (some ⟨g,0,none⟩) D.length oc] 24)=w4 at al4 hb4 b34 o4;have hX0:w2.heap.size<=X:=by rw[<- hX];exact b3.size
 have hR1:=lt_of_block H2.out.2.1;have H4:Hid (OwnD w4 w2.heap.size (.slice (some ⟨g,0,none⟩) D.length oc) D A2 K2/\w4.heap[X]? = some (.cells #[.slice (some ⟨g,0,none⟩) D.length oc] 24 (0,0))/\w4.heap[w.heap.size+1]? = some (.cells #[.slice none 0 0] 24 (0,0))/\Below w.heap.size w w4):=Lib.hid ⟨o4,hb4,(b34.block _ (lt_of_block H2.out.2.1)).trans H2.out.2.1,H2.out.2.2.trans (b34.mono H2.out.2.2.size)⟩;have hwsz:=H2.out.2.2.size;have p0:=cell_of hb4 0;obtain⟨B',off',hB,c0,c1,c2,c3,c4,c5,c6,c7⟩:=o4.doc.node hn
 cases hB
 have zn:(n:Int)<(D.length:Int):=by omega
 rw[par_at hn]at hpn;obtain⟨y,hy⟩:∃ y,D[n].p=y:=⟨_,rfl⟩;rw[hy]at c4 hpn;clear b3 o3 al4 hb4 b34 o4 H2 c0 c1 c2 c3 c5 c6 c7;simp only[Nat.zero_add]at c4;rcases hpn with rfl | ⟨q,rfl,hq⟩
 · have H5X:=H4.out.2.1
   obtain⟨cur5,hg5,hB5⟩:=H4.out.1.block;have hn5:n<(D).length:=hn;obtain⟨B5,off5,hBB,-,-,-,-,k4,-,-,-⟩:=H4.out.1.doc.node hn5
   cases hBB
   simp only[Nat.zero_add]at k4;have f4:=open_of hg5 (n * 8+4);have kS:Kp (fun j _=>j=g) w4 (w4.setCell ⟨g,n * 8+4,none⟩ (.int .i64 (-1))):=Kp.of_set hg5 _ rfl;have x6:=kS.cells H4.out.2.1 (fun e=>by have e1:X=g:=e;rw[e1,hg5]at H5X;cases H5X);have r6:=kS.cells H4.out.2.2.1 (fun e=>by have e1:w.heap.size+1=g:=e;omega);have o6:=H4.out.1.setP hn5 (-1);have p6:=cell_of x6 0;have r60:=cell_of r6 0;have f60:=open_of r6 0;have q7:=heap_setCell_same _ (w.heap.size+1) 0 _ _ _ (.slice (some ⟨g,0,none⟩) D.length oc) r6;have c0:((w4.setCell ⟨g,n * 8+4,none⟩ (.int .i64 (-1))).setCell ⟨w.heap.size+1,0,none⟩ (.slice (some ⟨g,0,none⟩) D.length oc)).cell? ⟨w.heap.size+1,0,none⟩=some (.slice (some ⟨g,0,none⟩) D.length oc):=by rw[cell_of q7];rfl
   have b6:=H4.out.2.2.2.trans (kS.below (fun j t e=>by have e1:j=g:=e;omega) H4.out.2.2.2.size);have HE:Hid (cutM D n=D.set n { D[n]with p := -1 }):=Lib.hid (cut_same HRt.out hn (by rw[par_at hn,hy]));have HO:Hid (OwnX ((w4.setCell ⟨g,n * 8+4,none⟩ (.int .i64 (-1))).setCell ⟨w.heap.size+1,0,none⟩ (.slice (some ⟨g,0,none⟩) D.length oc)) w.heap.size (.slice (some ⟨g,0,none⟩) D.length oc) (cutM D n)/\Below w.heap.size w ((w4.setCell ⟨g,n * 8+4,none⟩ (.int .i64 (-1))).setCell ⟨w.heap.size+1,0,none⟩ (.slice (some ⟨g,0,none⟩) D.length oc))):=Lib.hid ⟨by rw[HE.out];exact⟨_,_,(o6.setDoc r6).low hwsz⟩,b6.trans ((Kp.of_set (P:=fun j _=>j=w.heap.size+1) r6 _ rfl).below (fun j t e=>by have e1:j=w.heap.size+1:=e;omega) b6.size)⟩;clear hg5 kS x6 r6 o6 q7 b6 H4 H5X hy
   go_wp2
   exact bodyPost_ret (v := .agg #[.slice (some ⟨g,0,none⟩) D.length oc]) (by simp[results,Tryz.results148,go_sem,c0]) rfl ⟨_,rfl,HO.out⟩
 · have hqn:=par_ne HRt.out hn (by rw[par_at hn,hy])
   have HE:Hid (cutM D n=(D.set q { D[q]with c:=noN n D[q].c }).set n { D[n]with p := -1 }):=Lib.hid (cut_other HRt.out hn (by rw[par_at hn,hy]) hq hqn);have zq0:(0:Int)<=(q:Int):=by omega
   have zq:(q:Int)<(D.length:Int):=by omega
   obtain⟨B6,off6,hB6,-,-,-,-,-,k5,-,-⟩:=H4.out.1.doc.node hq
   cases hB6
   simp only[Nat.zero_add]at k5;obtain⟨ka,kc,hk⟩:=(H4.out.1.doc.kd q hq).form;have hkin:=H4.out.1.doc.kd q hq;rw[hk]at k5 hkin;have hlen:D[q].c.length<=1000:=(HF.out.2 _ (List.getElem_mem hq)).2.2.2.1;obtain⟨C,hC⟩:∃ C,D[q].c=C:=⟨_,rfl⟩;rw[hC]at k5 hkin hlen HE;have HKin:=Lib.hid hkin;obtain⟨i0,hi3,hz0,hz1,hz2⟩:=info_parts Tinfo3;have H4B:=H4.out.2.2.2.size;clear hkin hk hC
   go_wp2
   go_loopw [7,8] (fun lv i wr=>∃(v:Nat),i=.int .i64 v/\v<=C.length/\Hid (wr.ownsRow w4.heap.size 3 1 lv (noN n (C.take v)).length (inC (noN n (C.take v)))/\Below w4.heap.size w4 wr)) (fun _ i _=>C.length - (intOf i).toNat)
   case atStart=>exact⟨0,rfl,Nat.zero_le _,Lib.hid ⟨World.ownsRow_nil _ _ _ _,Below.refl _ _⟩⟩
   case round =>
    obtain⟨v,rfl,hv,HX⟩:=hrel;have p0:=cell_of ((HX.out.2.block _ (lt_of_block H4.out.2.1)).trans H4.out.2.1) 0;have k5:=(HX.out.2.cell (lt_of_cell k5)).trans k5
    by_cases hlv:v<C.length
    · obtain⟨B2,off2,rfl,y0⟩:=(HKin.out.below HX.out.2).at hlv
      have zv:(v:Int)<(C.length:Int):=by omega
      have hst:=noN_step (n:=n) hlv;have hnl:=noN_len n (C.take v);have htl:(C.take v).length<=C.length:=List.length_take_le' _ _;obtain⟨y,hy0⟩:∃ y,C[v]=y:=⟨_,rfl⟩;rw[hy0]at y0 hst
      by_cases hyn:y=(n:Int)
      · rw[if_pos hyn,List.append_nil]at hst
        have g1:(y != (n:Int))=false:=by simp[hyn]
        have HX2:Hid (wr.ownsRow w4.heap.size 3 1 u7 (noN n (C.take (v+1))).length (inC (noN n (C.take (v+1))))/\Below w4.heap.size w4 wr):=Lib.hid (by rw[hst];exact HX.out);clear hst hyn hy0 HX
        go_wp2
        go_roundw
        case rel=>exact⟨v+1,by go_num,by omega,HX2⟩
        case measure=>simp[intOf];omega
      · rw[if_neg hyn]at hst
        have g1:(y != (n:Int))=true:=by simp[hyn]
        have HST:=Lib.hid hst;have al5:=(Below.refl wr.heap.size wr).alloc (Nat.le_refl _) (.cells #[.int .i64 y] 3);have hro:=RowIn.made wr #[.int .i64 y] 3 1 1 rfl (fun x hx=>by simp at hx;rw[hx];rfl);have H5:=Lib.hid (And.intro hro (And.intro (row_below HX.out.1 al5) (HX.out.2.trans (al5.mono HX.out.2.size))));have hws:=H5.out.2.2.size;clear hro al5 hst hyn hy0 HX
        go_wp2_with (at_builtin
                     refine wpList_append_rowG rfl _ _ 37 3 i0 (.int .i64 0) 1 8 Tryz.underlying37 hi3 hz0 hz1 hz2 rfl (by decide) rfl w4.heap.size _ _ _ rfl H5.out.2.1 _ 1 _ rfl H5.out.1 (by unfold maxLen;omega) (by omega) hws ?_;intro v6 w6 hown6 hgrow6 hat6;have H6:Hid (w6.ownsRow w4.heap.size 3 1 v6 (noN n (C.take (v+1))).length (inC (noN n (C.take (v+1))))/\Below w4.heap.size w4 w6):=Lib.hid ⟨by rw[HST.out,List.length_append,inC_app];exact hown6,Below.grown H5.out.2.2 hgrow6 hws (fun j hj=>(H5.out.2.1.lt j hj).1)⟩
                     clear hown6 hgrow6 hat6 H5)
        go_roundw
        case rel=>exact⟨v+1,by go_num,by omega,H6⟩
        case measure=>simp[intOf];omega
    · obtain rfl:v=C.length:=by omega
      have hX:=HX.out;rw[List.take_length]at hX;obtain⟨la,lc,hl7⟩:=row_form hX.1;subst hl7;have oq:=H4.out.1.below hX.2;have xq:=(hX.2.block _ (lt_of_block H4.out.2.1)).trans H4.out.2.1;have rq:=(hX.2.block _ (lt_of_block H4.out.2.2.1)).trans H4.out.2.2.1;obtain⟨curq,hgq,hBq⟩:=oq.block;have fq:=open_of hgq (q * 8+5);have kq:Kp (fun j _=>j=g) wr (wr.setCell ⟨g,q * 8+5,none⟩ (.slice la (noN n C).length lc)):=Kp.of_set hgq _ rfl
      have hfr:∀ j,j<D.length->j≠q->∀ k,(K2 j).ownBlock=some k->(Value.slice la (noN n C).length lc).ownBlock≠some k:=fun j hj _ k h1 h2=>by
       have h3:=(row_block (H4.out.1.kd j hj) h1).choose_spec.2.2;have h4:=(hX.1.lt k h2).1;omega
      have o5:=oq.setK hq (row_low hX.1 (by have:=lt_of_block H4.out.2.1;omega)) hfr;obtain⟨W5,hW5⟩:∃ W5,W5=wr.setCell ⟨g,q * 8+5,none⟩ (.slice la (noN n C).length lc):=⟨_,rfl⟩;rw[<- hW5]at kq o5;obtain⟨E,hEE⟩:∃ E,E=D.set q { D[q]with c:=noN n C }:=⟨_,rfl⟩;have hEl:E.length=D.length:=by rw[hEE];simp
      have hEn:∀(h:n<E.length),E[n]=D[n]:=fun h=>by subst hEE;rw[get_set h,if_neg hqn]
      rw[<- hEE]at o5 HE;rw[<- hEl]at o5;have H4Y:g≠X:=fun e=>by rw[<- e,hgq]at xq;cases xq
      have HQ:Hid (OwnD W5 w2.heap.size (.slice (some ⟨g,0,none⟩) E.length oc) E A2 (upd K2 q (.slice la (noN n C).length lc))/\W5.heap[X]? = some (.cells #[.slice (some ⟨g,0,none⟩) D.length oc] 24 (0,0))/\W5.heap[w.heap.size+1]? = some (.cells #[.slice none 0 0] 24 (0,0))/\Below w.heap.size w W5):=Lib.hid ⟨o5,kq.cells xq (fun e=>H4Y (by have e1:X=g:=e;omega)),kq.cells rq (fun e=>by have e1:w.heap.size+1=g:=e;omega),(H4.out.2.2.2.trans (hX.2.mono H4B)).trans (kq.below (fun j t e=>by have e1:j=g:=e;omega) (H4.out.2.2.2.trans (hX.2.mono H4B)).size)⟩;have H5X:=HQ.out.2.1;have x5:=cell_of xq 0;have y5:=cell_of HQ.out.2.1 0;have HWe:=Lib.hid hW5;obtain⟨cur5,hg5,hB5⟩:=HQ.out.1.block;have hn5:n<(E).length:=by rw[hEl];exact hn
      obtain⟨B5,off5,hBB,-,-,-,-,k4,-,-,-⟩:=HQ.out.1.doc.node hn5
      cases hBB
      simp only[Nat.zero_add]at k4;have f4:=open_of hg5 (n * 8+4);have kS:Kp (fun j _=>j=g) W5 (W5.setCell ⟨g,n * 8+4,none⟩ (.int .i64 (-1))):=Kp.of_set hg5 _ rfl;have x6:=kS.cells HQ.out.2.1 (fun e=>by have e1:X=g:=e;rw[e1,hg5]at H5X;cases H5X);have r6:=kS.cells HQ.out.2.2.1 (fun e=>by have e1:w.heap.size+1=g:=e;omega);have o6:=HQ.out.1.setP hn5 (-1);have p6:=cell_of x6 0;have r60:=cell_of r6 0;have f60:=open_of r6 0;have q7:=heap_setCell_same _ (w.heap.size+1) 0 _ _ _ (.slice (some ⟨g,0,none⟩) D.length oc) r6;have c0:((W5.setCell ⟨g,n * 8+4,none⟩ (.int .i64 (-1))).setCell ⟨w.heap.size+1,0,none⟩ (.slice (some ⟨g,0,none⟩) D.length oc)).cell? ⟨w.heap.size+1,0,none⟩=some (.slice (some ⟨g,0,none⟩) D.length oc):=by rw[cell_of q7];rfl
      have b6:=HQ.out.2.2.2.trans (kS.below (fun j t e=>by have e1:j=g:=e;omega) HQ.out.2.2.2.size)
      have HO:Hid (OwnX ((W5.setCell ⟨g,n * 8+4,none⟩ (.int .i64 (-1))).setCell ⟨w.heap.size+1,0,none⟩ (.slice (some ⟨g,0,none⟩) D.length oc)) w.heap.size (.slice (some ⟨g,0,none⟩) D.length oc) (cutM D n)/\Below w.heap.size w ((W5.setCell ⟨g,n * 8+4,none⟩ (.int .i64 (-1))).setCell ⟨w.heap.size+1,0,none⟩ (.slice (some ⟨g,0,none⟩) D.length oc))):=Lib.hid ⟨by
       have o7:=(o6.setDoc (j:=0) (v:=(.slice (some ⟨g,0,none⟩) D.length oc)) r6).low hwsz;rw[hEn hn5,hEl]at o7;rw[HE.out]
       exact⟨_,_,o7⟩,b6.trans ((Kp.of_set (P:=fun j _=>j=w.heap.size+1) r6 _ rfl).below (fun j t e=>by have e1:j=w.heap.size+1:=e;omega) b6.size)⟩
      clear hg5 kS x6 r6 o6 q7 b6 H5X HQ hEE hEl hEn kq oq xq rq hgq hX HX H4Y;subst hW5
      go_wp2
      exact bodyPost_ret (v := .agg #[.slice (some ⟨g,0,none⟩) D.length oc]) (by simp[results,Tryz.results148,go_sem,c0]) rfl ⟨_,rfl,HO.out⟩
end Go.Proofs.YtlnfbjbagmfpiaaGreatDoor.Dm
namespace Go.Proofs.YtlnfbjbagmfpiaaGreatDoor.Dm
open Go.RowKit
theorem put_of_cut {D:List Nd}{n q:Nat}(hn:n<D.length)(hqn:q≠n){E:List Nd}(hE:∀(h:n<(cutM D n).length),E=(cutM D n).set n { (cutM D n)[n]with p:=(q:Int) })(h:q<E.length):putM D q n=E.set q { E[q]with c:=E[q].c++[(n:Int)] }:=by
 have hnc:n<(cutM D n).length:=by rw[cut_len];exact hn
 have hE:=hE hnc
 have hEg:∀ i:Nat,E[i]? = D[i]?.map fun x=>({ x with p:=if i=n then (q:Int) else x.p,c:=noN n x.c }:Nd):=fun i=>by
  rw[hE]
  by_cases e:i=n
  · subst e
    have h1:=cut_get D i i;rw[List.getElem?_eq_getElem hnc,List.getElem?_eq_getElem hn]at h1;simp only[Option.map_some,Option.some.injEq]at h1;rw[List.getElem?_set_self hnc,List.getElem?_eq_getElem hn,h1];simp
  · rw[List.getElem?_set_ne (fun h=>e h.symm),cut_get]
    simp[e]
 refine List.ext_getElem? fun i => ?_;rw[put_get]
 by_cases e2:i=q
 · subst e2
   have h1:=hEg i;rw[List.getElem?_eq_getElem h]at h1;rw[List.getElem?_set_self h]
   cases hx:D[i]? with
   | none=>rw[hx]at h1;cases h1
   | some x =>
     rw[hx]at h1;simp only[Option.map_some,Option.some.injEq]at h1;rw[h1];simp[hqn]
 · rw[List.getElem?_set_ne (fun h=>e2 h.symm),hEg]
   simp[e2]
section
variable {w w6:World} {B g cap:Nat} {D:List Nd} {A K:Nat->Value}
theorem OwnD.growK (h:OwnD w B (.slice (some ⟨g,0,none⟩) D.length cap) D A K){i:Nat}(hi:i<D.length){kv:Value}{C:List Int}(hg:w.grownBy w6 (K i).ownBlock)(hk:w6.ownsRow B 3 1 kv C.length (inC C))(hat:kv.ownBlock=(K i).ownBlock\/kv.ownBlock=some w.heap.size):OwnD (w6.setCell ⟨g,i * 8+5,none⟩ kv) B (.slice (some ⟨g,0,none⟩) D.length cap) (D.set i { D[i]with c:=C }) A (upd K i kv)/\Kp (fun j t=>t=3/\B<=j) w w6:=by
 have k0:Kp (fun j _=>(K i).ownBlock=some j) w w6:=Kp.of_grown hg (fun k c t fr hk _=>hk) fun k hk=>by
  obtain⟨cur,e,_⟩:=row_block (h.kd i hi) hk;exact⟨_,_,_,e⟩
 have k3:Kp (fun j t=>t=3/\B<=j) w w6:=k0.mono fun k c t fr hk hp=>by
  obtain⟨cur,e,hb,_⟩:=row_block (h.kd i hi) hp;rw[hk]at e
  cases e
  exact⟨rfl,hb⟩
 refine⟨?_,k3⟩;obtain⟨cur,hgb,hB⟩:=h.block;have hg6:=k3.cells hgb (fun e=>absurd e.1 (by decide));have kS:Kp (fun k _=>k=g) w6 (w6.setCell ⟨g,i * 8+5,none⟩ kv):=Kp.of_set hg6 _ rfl;have hrow:=k3.row h.row (fun j _ _ e=>absurd e.1 (by decide));have ha6:=fun j hj=>k3.row (h.at' j hj) (fun j _ _ e=>absurd e.1 (by decide));have hk6:∀ j (hj:j<D.length),j≠i->w6.ownsRow B 3 1 (K j) D[j].c.length (inC D[j].c):=fun j hj hji=>k0.row (h.kd j hj) fun k hk _ e=>h.nk j i hj hi hji k hk e
 have hf:∀ j,j<D.length->j≠i->∀ k,(K j).ownBlock=some k->kv.ownBlock≠some k:=fun j hj hji k h1 h2=>by
  rcases hat with h3 | h3
  · exact h.nk j i hj hi hji k h1 (h3 ▸ h2)
  · rw[h3]at h2
    cases h2
    have:=(row_block (h.kd j hj) h1).choose_spec.2.2;omega
 refine⟨?_,fun j hj => ?_,fun j hj => ?_,fun j k hj hk=>h.na j k (by simpa using hj) (by simpa using hk),fun j k hj hk hjk q hq => ?_⟩
 · have:=ownsRow_set hrow (i * 8+5) kv
   rw[ndsC_setK D A K i hi kv,<- set_kinds hi (y:={ D[i]with c:=C }) ⟨rfl,rfl,rfl,rfl,rfl,rfl⟩]at this
   simpa using this
 · have hj':j<D.length:=by simpa using hj
   have h1:=kS.row (ha6 j hj') fun k hk _ e=>row_ne (ha6 j hj') hg6 (by decide) (by rw[hk,e]);rw[get_set hj];split
   · rename_i e
     subst e;exact h1
   · exact h1
 · have hj':j<D.length:=by simpa using hj
   rw[get_set hj];split
   · rename_i e
     subst e;rw[upd_self];exact kS.row hk fun k hq _ e=>row_ne hk hg6 (by decide) (by rw[hq,e])
   · rename_i e
     rw[upd_ne (fun e2=>e e2.symm)];exact kS.row (hk6 j hj' (fun e2=>e e2.symm)) fun k hk _ e3=>row_ne (hk6 j hj' (fun e2=>e e2.symm)) hg6 (by decide) (by rw[hk,e3])
 · have hj':j<D.length:=by simpa using hj
   have hk':k<D.length:=by simpa using hk
   by_cases e1:j=i
   · subst e1
     rw[upd_self]at hq;rw[upd_ne (fun e=>hjk e.symm)];exact fun h2=>hf k hk' (fun e=>hjk e.symm) q h2 hq
   · rw[upd_ne e1]at hq
     by_cases e2:k=i
     · subst e2
       rw[upd_self];exact hf j hj' e1 q hq
     · rw[upd_ne e2]
       exact h.nk j k hj' hk' hjk q hq
end
end Go.Proofs.YtlnfbjbagmfpiaaGreatDoor.Dm
namespace Go.Proofs.YtlnfbjbagmfpiaaGreatDoor.Dm
open Go.RowKit
theorem put_hid (D:List Nd)(hf:FitD D)(q n:Int):Hid (∀ W sl A K,DocIn W sl D A K->Calls Tryz.prog 122 #[.agg #[sl],.int .i64 q,.int .i64 n] W fun e w'=>∃ sl',e=.returned (.tuple #[.agg #[sl'],.int .i64 (putR D q n).2])/\OwnX w' W.heap.size sl' (putR D q n).1/\Below W.heap.size W w'):=Lib.hid fun w sl A K hd=>by
 obtain⟨a,c,rfl⟩:=hd.form;have CK:=check_hid D hf;have CO:=fun R m hm=>out_hid D R hf m hm;have CU:=fun R t top ht=>under_hid D R t top ht;have CH:=fun(i:Nat) (h:i<D.length)=>holdsV_hid D[i];have hfl:=hf.1;have al1:=(Below.refl w.heap.size w).alloc (Nat.le_refl _) (.cells #[.slice a D.length c] 24);have hb1:=new_block w (.cells #[.slice a D.length c] 24);have hs1:(w.alloc (.cells #[.slice a D.length c] 24)).heap.size=w.heap.size+1:=by simp
 generalize hw1:w.alloc (.cells #[.slice a D.length c] 24)=w1 at al1 hb1 hs1;have al2:=(Below.refl w1.heap.size w1).alloc (Nat.le_refl _) (.cells #[.slice none 0 0] 24);have hb2:=new_block w1 (.cells #[.slice none 0 0] 24);rw[hs1]at hb2;generalize hw2:w1.alloc (.cells #[.slice none 0 0] 24)=w2 at al2 hb2;have hb1':=(al2.block _ (lt_of_block hb1)).trans hb1;have hbel:=al1.trans (al2.mono (by omega));have e0:=cell_of hb1' 0;have H2:=Lib.hid (And.intro hb1' (And.intro hb2 hbel));have HD:=Lib.hid hd;have HF:=Lib.hid hf;clear hd al1 hb1 al2 hb2 hb1' hbel hf
 go_enter Tryz.func122,Tryz.ntmps122
 go_wp2_with fail
 (refine(CK.out _ _ _ _ (HD.out.below H2.out.2.2)).mono ?_)
 rintro e w3 ⟨rfl,b3⟩;clear hw1 hw2 hs1 e0 CK;have H3:=Lib.hid (And.intro ((b3.block _ (lt_of_block H2.out.1)).trans H2.out.1) (And.intro ((b3.block _ (lt_of_block H2.out.2.1)).trans H2.out.2.1) (H2.out.2.2.trans (b3.mono H2.out.2.2.size))));clear b3 H2;have e0:=cell_of H3.out.1 0
 by_cases hc:checkM D=0
 case neg =>
  have g1:(checkM D != 0)=true:=by rw[bne_iff_ne];exact hc
  have HE:=Lib.hid (putR_e1 (q:=q) (n:=n) hc);clear CO CU CH;have o2:=open_of H3.out.2.1 0;have r2:=cell_of H3.out.2.1 0;have q2:=heap_setCell_same w3 (w.heap.size+1) 0 _ _ _ (.slice none 0 0) H3.out.2.1;have c0:(w3.setCell ⟨w.heap.size+1,0,none⟩ (.slice none 0 0)).cell? ⟨w.heap.size+1,0,none⟩=some (.slice none 0 0):=by rw[cell_of q2];rfl
  have HB:Hid (Below w.heap.size w (w3.setCell ⟨w.heap.size+1,0,none⟩ (.slice none 0 0))):=Lib.hid (H3.out.2.2.trans ((Kp.of_set (P:=fun j _=>j=w.heap.size+1) H3.out.2.1 _ rfl).below (fun j t e=>by have e1:j=w.heap.size+1:=e;omega) H3.out.2.2.size));clear q2
  go_wp2
  exact bodyPost_ret (v := .tuple #[.agg #[.slice none 0 0],.int .i64 (checkM D)]) (by simp[results,Tryz.results122,go_sem,c0]) rfl ⟨_,by rw[HE.out],by rw[HE.out];exact⟨fun _ => .slice none 0 0,fun _ => .slice none 0 0,OwnD.nil _ _ _ _⟩,HB.out⟩
 have HRt:=Lib.hid (check_right.1 hc);have hc0:=hc;rw[hc]
 by_cases h1:q<0
 · skip
   have HE:=Lib.hid (putR_e2 (q:=q) (n:=n) hc0 (fun h=>by have:=h.1;omega));clear CO CU CH;have o2:=open_of H3.out.2.1 0;have r2:=cell_of H3.out.2.1 0;have q2:=heap_setCell_same w3 (w.heap.size+1) 0 _ _ _ (.slice none 0 0) H3.out.2.1;have c0:(w3.setCell ⟨w.heap.size+1,0,none⟩ (.slice none 0 0)).cell? ⟨w.heap.size+1,0,none⟩=some (.slice none 0 0):=by rw[cell_of q2];rfl
   have HB:Hid (Below w.heap.size w (w3.setCell ⟨w.heap.size+1,0,none⟩ (.slice none 0 0))):=Lib.hid (H3.out.2.2.trans ((Kp.of_set (P:=fun j _=>j=w.heap.size+1) H3.out.2.1 _ rfl).below (fun j t e=>by have e1:j=w.heap.size+1:=e;omega) H3.out.2.2.size));clear q2
   go_wp2
   exact bodyPost_ret (v := .tuple #[.agg #[.slice none 0 0],.int .i64 170]) (by simp[results,Tryz.results122,go_sem,c0]) rfl ⟨_,by rw[HE.out],by rw[HE.out];exact⟨fun _ => .slice none 0 0,fun _ => .slice none 0 0,OwnD.nil _ _ _ _⟩,HB.out⟩
 by_cases h2:(D.length:Int)<=q
 · skip
   have HE:=Lib.hid (putR_e2 (q:=q) (n:=n) hc0 (fun h=>by have:=h.2.1;omega));clear CO CU CH;have o2:=open_of H3.out.2.1 0;have r2:=cell_of H3.out.2.1 0;have q2:=heap_setCell_same w3 (w.heap.size+1) 0 _ _ _ (.slice none 0 0) H3.out.2.1;have c0:(w3.setCell ⟨w.heap.size+1,0,none⟩ (.slice none 0 0)).cell? ⟨w.heap.size+1,0,none⟩=some (.slice none 0 0):=by rw[cell_of q2];rfl
   have HB:Hid (Below w.heap.size w (w3.setCell ⟨w.heap.size+1,0,none⟩ (.slice none 0 0))):=Lib.hid (H3.out.2.2.trans ((Kp.of_set (P:=fun j _=>j=w.heap.size+1) H3.out.2.1 _ rfl).below (fun j t e=>by have e1:j=w.heap.size+1:=e;omega) H3.out.2.2.size));clear q2
   go_wp2
   exact bodyPost_ret (v := .tuple #[.agg #[.slice none 0 0],.int .i64 170]) (by simp[results,Tryz.results122,go_sem,c0]) rfl ⟨_,by rw[HE.out],by rw[HE.out];exact⟨fun _ => .slice none 0 0,fun _ => .slice none 0 0,OwnD.nil _ _ _ _⟩,HB.out⟩
 by_cases h3:n<1
 · skip
   have HE:=Lib.hid (putR_e2 (q:=q) (n:=n) hc0 (fun h=>by have:=h.2.2.1;omega));clear CO CU CH;have o2:=open_of H3.out.2.1 0;have r2:=cell_of H3.out.2.1 0;have q2:=heap_setCell_same w3 (w.heap.size+1) 0 _ _ _ (.slice none 0 0) H3.out.2.1;have c0:(w3.setCell ⟨w.heap.size+1,0,none⟩ (.slice none 0 0)).cell? ⟨w.heap.size+1,0,none⟩=some (.slice none 0 0):=by rw[cell_of q2];rfl
   have HB:Hid (Below w.heap.size w (w3.setCell ⟨w.heap.size+1,0,none⟩ (.slice none 0 0))):=Lib.hid (H3.out.2.2.trans ((Kp.of_set (P:=fun j _=>j=w.heap.size+1) H3.out.2.1 _ rfl).below (fun j t e=>by have e1:j=w.heap.size+1:=e;omega) H3.out.2.2.size));clear q2
   go_wp2
   exact bodyPost_ret (v := .tuple #[.agg #[.slice none 0 0],.int .i64 170]) (by simp[results,Tryz.results122,go_sem,c0]) rfl ⟨_,by rw[HE.out],by rw[HE.out];exact⟨fun _ => .slice none 0 0,fun _ => .slice none 0 0,OwnD.nil _ _ _ _⟩,HB.out⟩
 by_cases h4:(D.length:Int)<=n
 · skip
   have HE:=Lib.hid (putR_e2 (q:=q) (n:=n) hc0 (fun h=>by have:=h.2.2.2.1;omega));clear CO CU CH;have o2:=open_of H3.out.2.1 0;have r2:=cell_of H3.out.2.1 0;have q2:=heap_setCell_same w3 (w.heap.size+1) 0 _ _ _ (.slice none 0 0) H3.out.2.1;have c0:(w3.setCell ⟨w.heap.size+1,0,none⟩ (.slice none 0 0)).cell? ⟨w.heap.size+1,0,none⟩=some (.slice none 0 0):=by rw[cell_of q2];rfl
   have HB:Hid (Below w.heap.size w (w3.setCell ⟨w.heap.size+1,0,none⟩ (.slice none 0 0))):=Lib.hid (H3.out.2.2.trans ((Kp.of_set (P:=fun j _=>j=w.heap.size+1) H3.out.2.1 _ rfl).below (fun j t e=>by have e1:j=w.heap.size+1:=e;omega) H3.out.2.2.size));clear q2
   go_wp2
   exact bodyPost_ret (v := .tuple #[.agg #[.slice none 0 0],.int .i64 170]) (by simp[results,Tryz.results122,go_sem,c0]) rfl ⟨_,by rw[HE.out],by rw[HE.out];exact⟨fun _ => .slice none 0 0,fun _ => .slice none 0 0,OwnD.nil _ _ _ _⟩,HB.out⟩
 obtain⟨q,rfl⟩:∃ m:Nat,q=(m:Int):=⟨q.toNat,by omega⟩;obtain⟨n,rfl⟩:∃ m:Nat,n=(m:Int):=⟨n.toNat,by omega⟩;have hq:q<D.length:=by omega
 have hn:n<D.length:=by omega
 have zq:(q:Int)<(D.length:Int):=by omega
 have zq0:(0:Int)<=(q:Int):=by omega
 have zn:(n:Int)<(D.length:Int):=by omega
 have zn0:(0:Int)<=(n:Int):=by omega
 have CO:=CO HRt.out n hn;have CU:=CU HRt.out q n hq;have CH:=CH q hq;have E2:=fun(h:holdM D[q]=false)=>putR_e2 (q:=(q:Int)) (n:=(n:Int)) hc0 (fun h2=>by have h5:=h2.2.2.2.2;rw[Int.toNat_natCast,holds_at hq,h]at h5;cases h5);have E3:=fun(h:holdM D[q]=true)=>putR_e3 (q:=q) (n:=n) hc0 ⟨zq0,zq,by omega,zn,by rw[Int.toNat_natCast,holds_at hq,h]⟩;have E4:=fun(h:holdM D[q]=true)=>putR_ok (q:=q) (n:=n) hc0 ⟨zq0,zq,by omega,zn,by rw[Int.toNat_natCast,holds_at hq,h]⟩;obtain⟨B',off',hB,q0,q1,q2,q3,q4,q5,q6,q7⟩:=(HD.out.below H3.out.2.2).node hq
 cases hB
 obtain⟨N,hN⟩:=text_of D[q].n;obtain⟨T,hT⟩:=text_of D[q].d;unfold nodeV at CH;rw[strV_of hN,strV_of hT]at CH;rw[strV_of hN]at q1;rw[strV_of hT]at q2;generalize hxk:D[q].k=xk at q0;generalize hxp:D[q].p=xp at q4;generalize hxb:D[q].b=xb at q6;generalize hxs:D[q].s=xs at q7;rw[hxk,hxp,hxb,hxs]at CH;generalize holdM D[q]=hm at CH E2 E3 E4;clear hxk hxp hxb hxs hN hT
 go_wp2_with fail
 (refine(CH.out _ _ _).mono ?_)
 rintro e w4 ⟨rfl,b4⟩;have H4:=Lib.hid (And.intro ((b4.block _ (lt_of_block H3.out.1)).trans H3.out.1) (And.intro ((b4.block _ (lt_of_block H3.out.2.1)).trans H3.out.2.1) (H3.out.2.2.trans (b4.mono H3.out.2.2.size))));have e0:=cell_of H4.out.1 0;clear b4 H3 q0 q1 q2 q3 q4 q5 q6 q7
 cases hm with
 | false =>
   have HE:=Lib.hid (E2 rfl);clear CO CU CH;have o2:=open_of H4.out.2.1 0;have r2:=cell_of H4.out.2.1 0;have q2:=heap_setCell_same w4 (w.heap.size+1) 0 _ _ _ (.slice none 0 0) H4.out.2.1;have c0:(w4.setCell ⟨w.heap.size+1,0,none⟩ (.slice none 0 0)).cell? ⟨w.heap.size+1,0,none⟩=some (.slice none 0 0):=by rw[cell_of q2];rfl
   have HB:Hid (Below w.heap.size w (w4.setCell ⟨w.heap.size+1,0,none⟩ (.slice none 0 0))):=Lib.hid (H4.out.2.2.trans ((Kp.of_set (P:=fun j _=>j=w.heap.size+1) H4.out.2.1 _ rfl).below (fun j t e=>by have e1:j=w.heap.size+1:=e;omega) H4.out.2.2.size));clear q2
   go_wp2
   exact bodyPost_ret (v := .tuple #[.agg #[.slice none 0 0],.int .i64 170]) (by simp[results,Tryz.results122,go_sem,c0]) rfl ⟨_,by rw[HE.out],by rw[HE.out];exact⟨fun _ => .slice none 0 0,fun _ => .slice none 0 0,OwnD.nil _ _ _ _⟩,HB.out⟩
 | true =>
   replace E3:=E3 rfl;replace E4:=E4 rfl;clear E2 CH;have hup:n=q->upM D n q=true:=fun e=>by rw[e];exact upM_self _ _
   generalize hum:upM D n q=um at CU E3 E4 hup
   go_wp2_with fail
   (refine(CU.out _ _ _ _ (HD.out.below H4.out.2.2)).mono ?_)
   rintro e w5 ⟨rfl,b5⟩;have H5:=Lib.hid (And.intro ((b5.block _ (lt_of_block H4.out.1)).trans H4.out.1) (And.intro ((b5.block _ (lt_of_block H4.out.2.1)).trans H4.out.2.1) (H4.out.2.2.trans (b5.mono H4.out.2.2.size))));have e0:=cell_of H5.out.1 0;clear b5 H4
   cases um with
   | true =>
     have HE:=Lib.hid (E3 rfl);clear CO CU;have o2:=open_of H5.out.2.1 0;have r2:=cell_of H5.out.2.1 0;have q2:=heap_setCell_same w5 (w.heap.size+1) 0 _ _ _ (.slice none 0 0) H5.out.2.1;have c0:(w5.setCell ⟨w.heap.size+1,0,none⟩ (.slice none 0 0)).cell? ⟨w.heap.size+1,0,none⟩=some (.slice none 0 0):=by rw[cell_of q2];rfl
     have HB:Hid (Below w.heap.size w (w5.setCell ⟨w.heap.size+1,0,none⟩ (.slice none 0 0))):=Lib.hid (H5.out.2.2.trans ((Kp.of_set (P:=fun j _=>j=w.heap.size+1) H5.out.2.1 _ rfl).below (fun j t e=>by have e1:j=w.heap.size+1:=e;omega) H5.out.2.2.size));clear q2
     go_wp2
     exact bodyPost_ret (v := .tuple #[.agg #[.slice none 0 0],.int .i64 172]) (by simp[results,Tryz.results122,go_sem,c0]) rfl ⟨_,by rw[HE.out],by rw[HE.out];exact⟨fun _ => .slice none 0 0,fun _ => .slice none 0 0,OwnD.nil _ _ _ _⟩,HB.out⟩
   | false =>
     have HE:=Lib.hid (E4 rfl);have hqn:q≠n:=fun e=>by have:=hup e.symm;cases this
     clear E3 E4 hup CU;obtain⟨E0,hE0⟩:∃ E0,cutM D n=E0:=⟨_,rfl⟩;have hl0:E0.length=D.length:=by rw[<- hE0,cut_len]
     have hn7:n<E0.length:=by omega
     have hq7:q<E0.length:=by omega
     have hcl:E0[q].c.length<=1000:=by
      have h1:=cut_kid D n q;rw[hE0,kid_at hq7,kid_at hq]at h1;rw[h1];exact Nat.le_trans (noN_len n D[q].c) (HF.out.2 _ (List.getElem_mem hq)).2.2.2.1
     have hne:∀(h:n<(cutM D n).length),∀ E,E=E0.set n { E0[n]with p:=(q:Int) }->E=(cutM D n).set n { (cutM D n)[n]with p:=(q:Int) }:=fun h E hE=>by
      subst hE0;exact hE
     rw[hE0]at CO;obtain⟨E,hEE⟩:∃ E,E=E0.set n { E0[n]with p:=(q:Int) }:=⟨_,rfl⟩;have hEl:E.length=E0.length:=by rw[hEE];simp
     have hq8:q<E.length:=by omega
     have hEc:E[q].c=E0[q].c:=by
      subst hEE;rw[get_set];rw[if_neg (fun e=>hqn e.symm)]
     have HP:=Lib.hid (put_of_cut hn hqn (fun h=>hne h E hEE) hq8);rw[<- hEc]at hcl;have zq8:(q:Int)<(E.length:Int):=by omega
     have zn8:(n:Int)<(E.length:Int):=by omega
     have zq7:(q:Int)<(E0.length:Int):=by omega
     have zn7:(n:Int)<(E0.length:Int):=by omega
     replace hEl:=Lib.hid hEl;replace hEE:=Lib.hid hEE;have hlp:0<E0.length:=by omega
     clear hne hEc hl0
     go_wp2_with fail
     (refine(CO.out _ _ _ _ (HD.out.below H5.out.2.2)).mono ?_)
     rintro e w6 ⟨sl',rfl,o6,b6⟩;have H6:=Lib.hid (And.intro ((b6.block _ (lt_of_block H5.out.1)).trans H5.out.1) (And.intro ((b6.block _ (lt_of_block H5.out.2.1)).trans H5.out.2.1) (H5.out.2.2.trans (b6.mono H5.out.2.2.size))));have b5s:=H5.out.2.2.size;have b65:=b6.size;have b5l:=lt_of_block H5.out.2.1;clear b6 H5 CO e0;obtain⟨A2,K2,o6⟩:=o6;obtain⟨oa,oc,rfl⟩:=o6.form
     obtain⟨g,rfl⟩:∃ g,oa=some ⟨g,0,none⟩:=by
      rcases rowForms o6.row with ⟨_,h⟩ | ⟨g,cap,h⟩
      · omega
      · cases h
        exact⟨g,rfl⟩
     have al7:=(Below.refl w6.heap.size w6).alloc (Nat.le_refl _) (.cells #[.slice (some ⟨g,0,none⟩) E0.length oc] 24);have hb7:=new_block w6 (.cells #[.slice (some ⟨g,0,none⟩) E0.length oc] 24);have o7:=o6.below al7;have r7:=(al7.block _ (lt_of_block H6.out.2.1)).trans H6.out.2.1;have b7:=H6.out.2.2.trans (al7.mono H6.out.2.2.size);have hX1:=lt_of_block H6.out.2.1;obtain⟨X,hX⟩:∃ X,w6.heap.size=X:=⟨_,rfl⟩;rw[hX]at hb7 hX1;generalize hw7:w6.alloc (.cells #[.slice (some ⟨g,0,none⟩) E0.length oc] 24)=w7 at al7 hb7 o7 r7 b7;obtain⟨cur7,hg7,hB7⟩:=o7.block;have hgX:g≠X:=fun e=>by rw[<- e,hg7]at hb7;cases hb7
     obtain⟨B5,off5,hBB,-,-,-,-,k4,-,-,-⟩:=o7.doc.node hn7
     cases hBB
     simp only[Nat.zero_add]at k4;have f7:=open_of hg7 (n * 8+4);have p7:=cell_of hb7 0;have kS:Kp (fun j _=>j=g) w7 (w7.setCell ⟨g,n * 8+4,none⟩ (.int .i64 (q:Int))):=Kp.of_set hg7 _ rfl;have o8:=o7.setP hn7 (q:Int);rw[<- hEE.out,<- hEl.out]at o8;have x8:=kS.cells hb7 (fun e=>hgX (by have e1:X=g:=e;omega));have r8:=kS.cells r7 (fun e=>by have e1:w.heap.size+1=g:=e;omega);have b8:=b7.trans (kS.below (fun j t e=>by have e1:j=g:=e;omega) b7.size);rw[<- hEl.out]at x8;clear hg7 kS hb7 r7 b7 o7 al7 H6 o6
     go_wp2_with fail
     generalize hW8:w7.setCell ⟨g,n * 8+4,none⟩ (.int .i64 (q:Int))=W8 at *;rw[<- hEl.out];clear hw7 hW8 p7 k4 f7;have al9:=(Below.refl W8.heap.size W8).alloc (Nat.le_refl _) (.cells #[.int .i64 (n:Int)] 3);have o9:=o8.below al9;obtain⟨cur9,hg9,hB9⟩:=o9.block;obtain⟨B6,off6,hBB,-,-,-,-,-,k8,-,-⟩:=o8.doc.node hq8
     cases hBB
     simp only[Nat.zero_add]at k8;obtain⟨ka,kc,hk⟩:=(o8.doc.kd q hq8).form;rw[hk]at k8;have kd8:=o8.kd q hq8;rw[hk]at kd8;have k9:=(al9.cell (lt_of_cell k8)).trans k8;have x9:=(al9.block _ (lt_of_block x8)).trans x8;have r9:=(al9.block _ (lt_of_block r8)).trans r8;have b9:=b8.trans (al9.mono b8.size);have p8:=cell_of x8 0;have p9:=cell_of x9 0
     have bs9:w5.heap.size<=W8.heap.size:=by
      have:=lt_of_block x8;omega
     obtain⟨i0,hi3,hz0,hz1,hz2⟩:=info_parts Tinfo3;have H9:=Lib.hid (And.intro o9 (And.intro hg9 (And.intro x9 (And.intro r9 b9))));replace hk:=Lib.hid hk;clear al9 o9 hg9 x9 r9 b9 x8 r8 b8 o8
     go_region_law (refine step_append_lies _ (by rfl) (.tmp 68) (.tmp 70) 37 (by rfl) w5.heap.size 3 i0 (.int .i64 0) 1 8 Tryz.underlying37 hi3 hz0 hz1 hz2 rfl (by decide) _ _ _ (by rfl) (kd8.alloc _) ⟨W8.heap.size,0,none⟩ 1 1 [.int .i64 (n:Int)] (by rfl) rfl (World.news_of_block (new_block _ _)) (by intro u hu;simp at hu;rw[hu];rfl) (by decide) (by unfold maxLen;omega) (by omega) (by simp;omega) _ rfl ?_
                    intro g6 cap6 w10 hown hgrow hat hlt6;have hgrow2:(W8.alloc (.cells #[.int .i64 (n:Int)] 3)).grownBy w10 (K2 q).ownBlock:=by rw[hk.out];exact⟨hgrow.os,hgrow.tape,hgrow.output,hgrow.size,hgrow.block⟩
                    have hown2:w10.ownsRow w5.heap.size 3 1 (.slice (some ⟨g6,0,none⟩) (E[q].c.length+1) cap6) (E[q].c++[(n:Int)]).length (inC (E[q].c++[(n:Int)])):=by rw[List.length_append,inC_app];exact hown
                    have hat2:(Value.slice (some ⟨g6,0,none⟩) (E[q].c.length+1) cap6).ownBlock=(K2 q).ownBlock\/(Value.slice (some ⟨g6,0,none⟩) (E[q].c.length+1) cap6).ownBlock=some (W8.alloc (.cells #[.int .i64 (n:Int)] 3)).heap.size:=by
                     rw[hk.out];rcases hat with h | h
                     · exact .inl h.symm
                     · exact .inr (by rw[h];rfl)
                    have gk:=H9.out.1.growK hq8 hgrow2 hown2 hat2;have g10:=gk.2.cells H9.out.2.1 (fun e=>absurd e.1 (by decide));have x10:=gk.2.cells H9.out.2.2.1 (fun e=>absurd e.1 (by decide));have r10:=gk.2.cells H9.out.2.2.2.1 (fun e=>absurd e.1 (by decide));have b10:=H9.out.2.2.2.2.trans (gk.2.below (fun j t e=>by have:=e.2;omega) H9.out.2.2.2.2.size);have p10:=cell_of x10 0;have f10:=open_of g10 (q * 8+5);have k10:w10.cell? ⟨g,q * 8+5,none⟩=some (.slice ka E[q].c.length kc):=(World.cell?_of_block (a:=⟨g,q * 8+5,none⟩) (g10.trans H9.out.2.1.symm)).trans k9;have H10:=Lib.hid (And.intro gk.1 (And.intro g10 (And.intro x10 (And.intro r10 b10))))
                    clear hgrow2 hown2 hat2 gk g10 x10 r10 b10)
     all_goals
      obtain⟨W11,hW11⟩:∃ W11,W11=w10.setCell ⟨g,q * 8+5,none⟩ (.slice (some ⟨g6,0,none⟩) (E[q].c.length+1) cap6):=⟨_,rfl⟩
      have HQ:Hid (OwnX W11 w5.heap.size (.slice (some ⟨g,0,none⟩) E.length oc) (putM D q n)/\W11.heap[X]? = some (.cells #[.slice (some ⟨g,0,none⟩) E.length oc] 24 (0,0))/\W11.heap[w.heap.size+1]? = some (.cells #[.slice none 0 0] 24 (0,0))/\Below w.heap.size w W11):=Lib.hid (by
       have kT:Kp (fun j _=>j=g) w10 W11:=by rw[hW11];exact Kp.of_set H10.out.2.1 _ rfl
       exact⟨by rw[HP.out,hW11];exact⟨_,_,H10.out.1⟩,kT.cells H10.out.2.2.1 (fun e=>hgX (by have e1:X=g:=e;omega)),kT.cells H10.out.2.2.2.1 (fun e=>by have e1:w.heap.size+1=g:=e;omega),H10.out.2.2.2.2.trans (kT.below (fun j t e=>by have e1:j=g:=e;omega) H10.out.2.2.2.2.size)⟩)
      have p11:=cell_of HQ.out.2.1 0;have r11:=cell_of HQ.out.2.2.1 0;have o11:=open_of HQ.out.2.2.1 0;have q12:=heap_setCell_same W11 (w.heap.size+1) 0 _ _ _ (.slice (some ⟨g,0,none⟩) E.length oc) HQ.out.2.2.1;have c0:(W11.setCell ⟨w.heap.size+1,0,none⟩ (.slice (some ⟨g,0,none⟩) E.length oc)).cell? ⟨w.heap.size+1,0,none⟩=some (.slice (some ⟨g,0,none⟩) E.length oc):=by rw[cell_of q12];rfl
      have HO:Hid (OwnX (W11.setCell ⟨w.heap.size+1,0,none⟩ (.slice (some ⟨g,0,none⟩) E.length oc)) w.heap.size (.slice (some ⟨g,0,none⟩) E.length oc) (putM D q n)/\Below w.heap.size w (W11.setCell ⟨w.heap.size+1,0,none⟩ (.slice (some ⟨g,0,none⟩) E.length oc))):=Lib.hid (by
       obtain⟨A3,K3,o3⟩:=HQ.out.1
       exact⟨⟨_,_,(o3.setDoc HQ.out.2.2.1).low b5s⟩,HQ.out.2.2.2.trans ((Kp.of_set (P:=fun j _=>j=w.heap.size+1) HQ.out.2.2.1 _ rfl).below (fun j t e=>by have e1:j=w.heap.size+1:=e;omega) HQ.out.2.2.2.size)⟩)
      clear q12 HQ;subst hW11
      go_wp2
      exact bodyPost_ret (v := .tuple #[.agg #[.slice (some ⟨g,0,none⟩) E.length oc],.int .i64 0]) (by simp[results,Tryz.results122,go_sem,c0]) rfl ⟨_,by first | rw[HE.out] | rfl,by first | exact HO.out.1 | (rw[HE.out];exact HO.out.1),HO.out.2⟩
end Go.Proofs.YtlnfbjbagmfpiaaGreatDoor.Dm
