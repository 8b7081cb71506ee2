/- The program's own: all of a document made new. The program's builder made; its end. The program's Into: refusals; a token's way. What the tokens' texts tell, for the builder's: Encode, a start tag's Print; tokens that are read. The program's printer: what it holds; what it writes; a token; a text. The program's printer: a text. The program's printer: a node, and what is below it. -/
import Derived.Test.YtlnfbjbagmfpiaaGreatDoorBpZG
import Derived.Test.YtlnfbjbagmfpiaaGreatDoorBrZG
import Derived.Test.YtlnfbjbagmfpiaaGreatDoorTokZBD
set_option maxRecDepth 100000
set_option maxHeartbeats 16000000
namespace Go.Proofs.YtlnfbjbagmfpiaaGreatDoor.Dm
open Go.RowKit
theorem CopyI.step2 {w0 wa w3:World} {g cap:Nat} {D:List Nd} {A K:Nat->Value} {u:Nat} {A' K':Nat->Value} {av kv:Value} (h:CopyI w0 g cap D A K u wa A' K') (hu:u<D.length) (b3:Below wa.heap.size wa w3) (hw:w0.heap.size<=wa.heap.size)
 (ra:w3.ownsRow wa.heap.size 41 2 av D[u].a.length (atC D[u].a)) (rk:w3.ownsRow wa.heap.size 3 1 kv D[u].c.length (inC D[u].c)) :
 CopyI w0 g cap D A K (u+1) ((w3.setCell ⟨g,u * 8+3,none⟩ av).setCell ⟨g,u * 8+5,none⟩ kv) (upd A' u av) (upd K' u kv)/\Kp (fun k _=>k=g) w3 ((w3.setCell ⟨g,u * 8+3,none⟩ av).setCell ⟨g,u * 8+5,none⟩ kv):=by
 have r0:=row_below h.row b3;have h1:=ownsRow_set r0 (u * 8+3) av;have h8:=ownsRow_set h1 (u * 8+5) kv;rw[ndsC_setA D A' K' u hu av,ndsC_setK D _ K' u hu kv]at h8
 have k8:Kp (fun k _=>k=g) w3 ((w3.setCell ⟨g,u * 8+3,none⟩ av).setCell ⟨g,u * 8+5,none⟩ kv):=by
  obtain⟨c1,q1,_⟩:=row_open r0;obtain⟨c2,q2,_⟩:=row_open h1;exact(Kp.of_set q1 av rfl).trans (Kp.of_set q2 kv rfl)
 obtain⟨cur,hcur,_⟩:=row_open (row_below h.row b3);have hne:∀ {base size n:Nat} {e:TypeId} {v:Value} {xs:List Value},w3.ownsRow base e size v n xs->39≠e->∀ k,v.ownBlock=some k->base<=k->¬ k=g:=fun r he k hk _ e=>row_ne r hcur he (by rw[hk,e]);have hra:=row_low ra hw;have hrk:=row_low rk hw;refine⟨⟨h8,fun i hi hiu => ?_,fun i hi hiu => ?_,fun i j hi hj hij k hk => ?_,fun i j hi hj hij k hk => ?_,fun i hi=>⟨(upd_ne (by omega)).trans (h.old i (by omega)).1,(upd_ne (by omega)).trans (h.old i (by omega)).2⟩⟩,k8⟩
 · by_cases e:i=u
   · subst e
     rw[upd_self];exact k8.row hra (hne hra (by decide))
   · rw[upd_ne e]
     have r:=row_below (h.at' i hi (by omega)) b3;exact k8.row r (hne r (by decide))
 · by_cases e:i=u
   · subst e
     rw[upd_self];exact k8.row hrk (hne hrk (by decide))
   · rw[upd_ne e]
     have r:=row_below (h.kd i hi (by omega)) b3;exact k8.row r (hne r (by decide))
 · by_cases e:i=u
   · subst e
     rw[upd_self]at hk;rw[upd_ne (fun e=>hij e.symm)];intro h2;have h3:=(row_block (h.at' j (by omega) (by omega)) h2).choose_spec.2.2;have h4:=(ra.lt k hk).1;omega
   · rw[upd_ne e]at hk
     by_cases e2:j=u
     · subst e2
       rw[upd_self];intro h2;have h3:=(row_block (h.at' i (by omega) (by omega)) hk).choose_spec.2.2;have h4:=(ra.lt k h2).1;omega
     · rw[upd_ne e2]
       exact h.na i j (by omega) (by omega) hij k hk
 · by_cases e:i=u
   · subst e
     rw[upd_self]at hk;rw[upd_ne (fun e=>hij e.symm)];intro h2;have h3:=(row_block (h.kd j (by omega) (by omega)) h2).choose_spec.2.2;have h4:=(rk.lt k hk).1;omega
   · rw[upd_ne e]at hk
     by_cases e2:j=u
     · subst e2
       rw[upd_self];intro h2;have h3:=(row_block (h.kd i (by omega) (by omega)) hk).choose_spec.2.2;have h4:=(rk.lt k h2).1;omega
     · rw[upd_ne e2]
       exact h.nk i j (by omega) (by omega) hij k hk
theorem CopyL.step2 {w wa w3:World} {g cap:Nat} {D:List Nd} {A K:Nat->Value} {u:Nat} {av kv:Value} (h:CopyL w g cap D A K u wa) (hu:u<D.length) (b3:Below wa.heap.size wa w3)
 (ra:w3.ownsRow wa.heap.size 41 2 av D[u].a.length (atC D[u].a)) (rk:w3.ownsRow wa.heap.size 3 1 kv D[u].c.length (inC D[u].c)):CopyL w g cap D A K (u+1) ((w3.setCell ⟨g,u * 8+3,none⟩ av).setCell ⟨g,u * 8+5,none⟩ kv):=by
 obtain⟨A',K',h1⟩:=h.cp;obtain⟨h2,k⟩:=h1.step2 hu b3 h.bl.size ra rk;obtain⟨cur,hcur,hgb⟩:=row_open (row_below h1.row b3);have x3:=(b3.block _ (lt_of_block h.bx)).trans h.bx;have y3:=(b3.block _ (lt_of_block h.rx)).trans h.rx;refine⟨⟨_,_,h2⟩,k.cells x3 fun e => ?_,k.cells y3 fun e => ?_,(h.bl.trans (b3.mono h.bl.size)).trans (k.below (fun j _ e=>by rw[e];exact hgb) (Nat.le_trans h.bl.size b3.size))⟩
 · subst e;rw[x3]at hcur;cases hcur
 · subst e;rw[y3]at hcur;cases hcur
theorem CopyL.half {w w4:World}{g cap:Nat}{D:List Nd}{A K:Nat->Value}{u:Nat}(h:CopyL w g cap D A K u w4)(hu:u<D.length)(v:Value):w4.frozen? ⟨g,u * 8+3,none⟩=false/\(w4.setCell ⟨g,u * 8+3,none⟩ v).frozen? ⟨g,u * 8+5,none⟩=false/\w4.cell? ⟨g,u * 8+3,none⟩=some (A u)/\(w4.setCell ⟨g,u * 8+3,none⟩ v).cell? ⟨g,u * 8+5,none⟩=some (K u):=by
 obtain⟨A',K',h1⟩:=h.cp;have r1:=ownsRow_set h1.row (u * 8+3) v;obtain⟨cur,q1,_⟩:=row_open r1;have e8:=h.eight hu;refine⟨h.open' _,open_of q1 _,e8.2.2.2.1,?_⟩;rw[r1.cellAt (u * 8+5) (by omega),List.getElem?_set_ne (by omega),ndsC_at D A' K' u 5 hu (by omega),(h1.old u (Nat.le_refl _)).1,(h1.old u (Nat.le_refl _)).2];rfl
theorem copied_hid (D:List Nd)(hf:FitD D)(h0:0<D.length):Hid (∀ W sl A K,DocIn W sl D A K->Calls Tryz.prog 73 #[.agg #[sl]] W fun e w'=>∃ sl',e=.returned (.agg #[sl'])/\OwnX w' W.heap.size sl' D/\Below W.heap.size W w'):=Lib.hid fun w sl A K hd=>by
 obtain⟨a,c,rfl⟩:=hd.form;have hfl:=hf.1;have CC:=cloneN_hid D.length (ndsC D A K) (by omega);have al1:=(Below.refl w.heap.size w).alloc (Nat.le_refl _) (.cells #[.slice a D.length c] 24);have hb1:=new_block w (.cells #[.slice a D.length c] 24);have hs1:(w.alloc (.cells #[.slice a D.length c] 24)).heap.size=w.heap.size+1:=by simp
 generalize hw1:w.alloc (.cells #[.slice a D.length c] 24)=w1 at al1 hb1 hs1;have al2:=(Below.refl w1.heap.size w1).alloc (Nat.le_refl _) (.cells #[.slice none 0 0] 24);have hb2:=new_block w1 (.cells #[.slice none 0 0] 24);rw[hs1]at hb2;generalize hw2:w1.alloc (.cells #[.slice none 0 0] 24)=w2 at al2 hb2;have hb1':=(al2.block _ (lt_of_block hb1)).trans hb1;have hbel:=al1.trans (al2.mono (by omega));have e0:=cell_of hb1' 0;have HB:=Lib.hid (And.intro hb1' (And.intro hb2 hbel));have HR:=Lib.hid (hd.below hbel).row;have HD:=Lib.hid hd;have HF:=Lib.hid hf;clear hd al1 al2 hb1 hb2 hb1' hbel hf
 go_enter Tryz.func73,Tryz.ntmps73
 go_wp2_with fail
 (refine(CC.out _ _ HR.out).mono ?_)
 rintro e w3 ⟨v3,rfl,r3,b3⟩
 obtain⟨g,cap,rfl⟩:∃ g cap,v3=.slice (some ⟨g,0,none⟩) D.length cap:=by
  rcases rowForms r3 with ⟨_,e⟩ | h
  · omega
  · exact h
 have x3:=(b3.block _ (lt_of_block HB.out.1)).trans HB.out.1;have y3:=(b3.block _ (lt_of_block HB.out.2.1)).trans HB.out.2.1;have o3:=open_of x3 0;have z3:=cell_of x3 0;have p3:=heap_setCell_same w3 w.heap.size 0 _ _ _ (.slice (some ⟨g,0,none⟩) D.length cap) x3;have k3:Kp (fun j _=>j=w.heap.size) w3 (w3.setCell ⟨w.heap.size,0,none⟩ (.slice (some ⟨g,0,none⟩) D.length cap)):=Kp.of_set x3 _ rfl;have hsz2:=HB.out.2.2.size;have HL:Hid (CopyL w g cap D A K 0 (w3.setCell ⟨w.heap.size,0,none⟩ (.slice (some ⟨g,0,none⟩) D.length cap))):=Lib.hid ⟨⟨A,K,⟨k3.row (row_low r3 hsz2) fun j hj _ e=>row_ne r3 x3 (by decide) (by rw[hj,e]),fun i _ h=>absurd h (Nat.not_lt_zero _),fun i _ h=>absurd h (Nat.not_lt_zero _),fun i j h=>absurd h (Nat.not_lt_zero _),fun i j h=>absurd h (Nat.not_lt_zero _),fun i _=>⟨rfl,rfl⟩⟩⟩,p3,(heap_setCell_ne _ _ _ (by simp)).trans y3,(HB.out.2.2.trans (b3.mono hsz2)).setCell (p:=⟨w.heap.size,0,none⟩) (Nat.le_refl _) _⟩;have e0:=cell_of p3 0;clear b3 r3 x3 y3 p3 k3 CC HR HB hw1 hw2
 go_wp2
 go_loopw [12] (fun i wr=>∃ u:Nat,i=.int .i64 u/\u<=D.length/\Hid (CopyL w g cap D A K u wr)) (fun i _=>D.length - (intOf i).toNat)
 case atStart=>exact⟨0,rfl,Nat.zero_le _,HL⟩
 case round =>
  clear HL e0 o3 z3;obtain⟨u,rfl,hu,HX⟩:=hrel
  by_cases hlt:u<D.length
  · have zu:(u:Int)<(D.length:Int):=by omega
    obtain⟨aa,ac,ha⟩:=(HD.out.at' u hlt).form;obtain⟨ka,kc,hk⟩:=(HD.out.kd u hlt).form;have hnd:=HX.out.node hlt;rw[ha,hk]at hnd;have c0:wr.cell? ⟨g,u * 8,none⟩=some (.int .i64 D[u].k):=hnd 0 _ (by decide) rfl;have c1:=hnd 1 _ (by decide) rfl;have c2:=hnd 2 _ (by decide) rfl;have c3:=hnd 3 _ (by decide) rfl;have c4:=hnd 4 _ (by decide) rfl;have c5:=hnd 5 _ (by decide) rfl;have c6:=hnd 6 _ (by decide) rfl;have c7:=hnd 7 _ (by decide) rfl;have hfit:=HF.out.2 _ (List.getElem_mem hlt);have CA:=cloneA_hid D[u].a.length (atC D[u].a) (by have:=hfit.2.2.1;omega);have CK:=cloneI_hid D[u].c.length (inC D[u].c) (by have:=hfit.2.2.2.1;omega);have hat:=(HD.out.at' u hlt).below HX.out.bl;have hkd:=(HD.out.kd u hlt).below HX.out.bl;rw[ha]at hat;rw[hk]at hkd;obtain⟨N,hN⟩:=text_of D[u].n;obtain⟨T,hT⟩:=text_of D[u].d;have al:=(Below.refl wr.heap.size wr).alloc (Nat.le_refl _) (.cells #[.int .i64 D[u].k,.string N,.string T,.slice aa D[u].a.length ac,.int .i64 D[u].p,.slice ka D[u].c.length kc,.bool D[u].b,.bool D[u].s] 39);have hbx:=new_block wr (.cells #[.int .i64 D[u].k,.string N,.string T,.slice aa D[u].a.length ac,.int .i64 D[u].p,.slice ka D[u].c.length kc,.bool D[u].b,.bool D[u].s] 39);have HXa:=HX.out.below al;rw[strV_of hN]at c1;rw[strV_of hT]at c2;have hat2:=AtIn.below hat al;have hkd2:=hkd.below al;clear hnd HX ha hk hN hT hat hkd;generalize hwa:wr.alloc (.cells #[.int .i64 D[u].k,.string N,.string T,.slice aa D[u].a.length ac,.int .i64 D[u].p,.slice ka D[u].c.length kc,.bool D[u].b,.bool D[u].s] 39)=wa at al hbx HXa hat2 hkd2;have HCA:Hid (∀ W,Below wa.heap.size wa W->Calls Tryz.prog 112 #[.slice aa D[u].a.length ac] W fun e w'=>∃ v,e=.returned v/\w'.ownsRow wa.heap.size 41 2 v D[u].a.length (atC D[u].a)/\Below wa.heap.size wa w'):=Lib.hid fun W b=>(CA.out W _ (AtIn.below hat2 b)).mono fun e w' ⟨v,h1,h2,h3⟩=>⟨v,h1,row_low h2 b.size,b.trans (h3.mono b.size)⟩;have HCK:Hid (∀ w3,Below wa.heap.size wa w3->∀ W,Below w3.heap.size w3 W->Calls Tryz.prog 113 #[.slice ka D[u].c.length kc] W fun e w'=>∃ v,e=.returned v/\w'.ownsRow wa.heap.size 3 1 v D[u].c.length (inC D[u].c)/\Below w3.heap.size w3 w'):=Lib.hid fun w3 b3 W b=>(CK.out W _ ((hkd2.below b3).below b)).mono fun e w' ⟨v,h1,h2,h3⟩=>⟨v,h1,row_low h2 (Nat.le_trans b3.size b.size),b.trans (h3.mono b.size)⟩;have HXA:=Lib.hid HXa
    have hgd:w.heap.size≠g:=fun e=>by
     obtain⟨A',K',q1⟩:=HXa.cp;obtain⟨cur,q2,_⟩:=row_open q1.row;rw[<- e,HXa.bx]at q2
     cases q2
    have hgn:wr.heap.size≠g:=fun e=>by have:=lt_of_cell c0;have e2:g<wr.heap.size:=this;omega
    have d3:=cell_of hbx 3;have d5:=cell_of hbx 5;have e0:=cell_of HXa.bx 0;have hlb:=lt_of_block HXa.bx;have hln:=lt_of_block hbx;clear hbx HXa CA CK hat2 hkd2 al hfit
    go_wp2_with fail
    clear hwa;have HS1:Hid (∀ w',Below wa.heap.size wa w'->w'.cell? ⟨w.heap.size,0,none⟩=some (.slice (some ⟨g,0,none⟩) D.length cap)/\w'.cell? ⟨wr.heap.size,3,none⟩=some (.slice aa D[u].a.length ac)/\w'.cell? ⟨wr.heap.size,5,none⟩=some (.slice ka D[u].c.length kc)):=Lib.hid fun w' b=>⟨(b.cell (lt_of_cell e0)).trans e0,(b.cell (lt_of_cell d3)).trans d3,(b.cell (lt_of_cell d5)).trans d5⟩
    have HS2:Hid (∀ w':World,(w'.cell? ⟨w.heap.size,0,none⟩=some (.slice (some ⟨g,0,none⟩) D.length cap)/\w'.cell? ⟨wr.heap.size,3,none⟩=some (.slice aa D[u].a.length ac)/\w'.cell? ⟨wr.heap.size,5,none⟩=some (.slice ka D[u].c.length kc))->∀(j:Nat) (v:Value),((w'.setCell ⟨g,j,none⟩ v).cell? ⟨w.heap.size,0,none⟩=some (.slice (some ⟨g,0,none⟩) D.length cap)/\(w'.setCell ⟨g,j,none⟩ v).cell? ⟨wr.heap.size,3,none⟩=some (.slice aa D[u].a.length ac)/\(w'.setCell ⟨g,j,none⟩ v).cell? ⟨wr.heap.size,5,none⟩=some (.slice ka D[u].c.length kc))):=Lib.hid fun w' h j v=>by
     have h1:∀(R i:Nat),R≠g->(w'.setCell ⟨g,j,none⟩ v).cell? ⟨R,i,none⟩=w'.cell? ⟨R,i,none⟩:=fun R i hR=>World.cell?_of_block (heap_setCell_ne w' ⟨g,j,none⟩ v hR);exact⟨(h1 _ _ hgd).trans h.1,(h1 _ _ hgn).trans h.2.1,(h1 _ _ hgn).trans h.2.2⟩
    have S0:=HS1.out _ (Below.refl wa.heap.size wa).drew;have B0:=(Below.refl wa.heap.size wa).drew;have BW:=Below.refl wa.heap.size wa
    go_region_held3 (fun w'=>w'.cell? ⟨w.heap.size,0,none⟩=some (.slice (some ⟨g,0,none⟩) D.length cap)/\w'.cell? ⟨wr.heap.size,3,none⟩=some (.slice aa D[u].a.length ac)/\w'.cell? ⟨wr.heap.size,5,none⟩=some (.slice ka D[u].c.length kc)) (first | assumption | exact HS1.out _ (by assumption) | exact HS2.out _ (by assumption) _ _) (first
     | (go_at_call 112
        (with_reducible refine(HCA.out _ (by assumption)).mono ?_)
        rintro e w3 ⟨av',rfl,o3,b3⟩;obtain⟨va,vac,rfl⟩:=row_form o3
        have B3:=Below.refl w3.heap.size w3)
     | (go_at_call 113
        (with_reducible refine(HCK.out _ b3 _ (by assumption)).mono ?_)
        rintro e w4 ⟨kv',rfl,o4,b4⟩;obtain⟨vk,vkc,rfl⟩:=row_form o4;have b34:=b3.trans (b4.mono b3.size);have HS:=Lib.hid (HXA.out.step2 hlt b34 (row_below o3 b4) o4)
        obtain⟨f3,f5,j3,j5⟩:=(HXA.out.below b34).half hlt (.slice va D[u].a.length vac)))
    all_goals
     clear HXA HCA HCK HS1 HS2
     go_wp2
     go_roundw
     case rel=>exact⟨u+1,by go_num,by omega,HS⟩
     case measure=>simp[intOf];omega
  · obtain rfl:u=D.length:=by omega
    obtain⟨A',K',h1⟩:=HX.out.cp;have x0:=HX.out.bx;have y0:=HX.out.rx;have e0:=cell_of x0 0;have r0:=cell_of y0 0;have o0:=open_of y0 0;have q0:=heap_setCell_same wr (w.heap.size+1) 0 _ _ _ (.slice (some ⟨g,0,none⟩) D.length cap) y0;have c0:=cell_of q0 0;have HO:Hid (OwnX (wr.setCell ⟨w.heap.size+1,0,none⟩ (.slice (some ⟨g,0,none⟩) D.length cap)) w.heap.size (.slice (some ⟨g,0,none⟩) D.length cap) D/\Below w.heap.size w (wr.setCell ⟨w.heap.size+1,0,none⟩ (.slice (some ⟨g,0,none⟩) D.length cap))):=Lib.hid ⟨⟨A',K',h1.done.setDoc y0⟩,HX.out.bl.setCell (p:=⟨w.heap.size+1,0,none⟩) (by simp) _⟩;clear h1 x0 y0 q0 HX
    go_wp2
    exact bodyPost_ret (v := .agg #[.slice (some ⟨g,0,none⟩) D.length cap]) (by simp[results,Tryz.results73,go_sem,c0]) rfl ⟨_,rfl,HO.out⟩
end Go.Proofs.YtlnfbjbagmfpiaaGreatDoor.Dm
namespace Go.Proofs.YtlnfbjbagmfpiaaGreatDoor.Dm
open Go.RowKit
theorem newB_hid (D:List Nd)(hf:FitD D)(h0:0<D.length)(n:Nat)(p:Bool):Hid (∀ W sl,DocG W sl D->Calls Tryz.prog 47 #[.agg #[sl],.int .i64 (n:Int),.bool p] W fun e w'=>∃ Q,e=.returned (.pointer (some ⟨Q,0,none⟩))/\PkI w' Q W.heap.size ⟨D,[n],[],0⟩ [(n,[])] p/\Below W.heap.size W w'):=Lib.hid fun w sl ⟨A,K,hd,_⟩=>by
 have CC:=copied_hid D hf h0;obtain⟨a,c,rfl⟩:=hd.form;have al:=(Below.refl w.heap.size w).alloc (Nat.le_refl _) (.cells #[.slice a D.length c] 24);have nb:=new_block w (.cells #[.slice a D.length c] 24);have e0:=cell_of nb 0;have H1:=Lib.hid (And.intro (hd.below al) al);have CP:=push_hid [] (n,[]) (by simp) w.heap.size;unfold oeV at CP;rw[show strV ((n,([]:List UInt8)):OE).2=.string ⟨#[]⟩from rfl]at CP;clear hd al nb
 go_enter Tryz.func47,Tryz.ntmps47
 go_wp2_with fail
 (refine(CC.out _ _ _ _ H1.out.1).mono ?_)
 rintro e w3 ⟨sl',rfl,o3,b3⟩
 obtain⟨a',c',rfl⟩:∃ a' c',sl'=.slice a' D.length c':=by
  obtain⟨A',K',h⟩:=o3;exact h.form
 have bw3:Below w.heap.size w w3:=H1.out.2.trans (b3.mono H1.out.2.size);have al4:=(Below.refl w3.heap.size w3).alloc (Nat.le_refl _) (.cells #[.slice a' D.length c',.slice none 0 0,.bool p,.slice none 0 0] 86);have x4:BX (w3.alloc (.cells #[.slice a' D.length c',.slice none 0 0,.bool p,.slice none 0 0] 86)) w3.heap.size (.slice a' D.length c') (.slice none 0 0) p (.slice none 0 0):=new_block _ _;have o4:=(OwnX.low o3 H1.out.2.size).belowB al4;have H4:=Lib.hid (And.intro x4 (And.intro o4 (And.intro al4 bw3)));have hsz:=bw3.size;clear o3 b3 bw3 al4 x4 o4 H1 e0
 go_wp2_with fail
 (refine(CP.out _ _ _ _ _ _ H4.out.1 hsz (World.ownsRow_nil _ _ _ _)).mono ?_)
 rintro e w5 ⟨rfl,ov5,x5,r5,k5⟩;have HF:Hid (PkI w5 w3.heap.size w.heap.size ⟨D,[n],[],0⟩ [(n,[])] p/\Below w.heap.size w w5):=Lib.hid ⟨⟨hsz,_,_,_,x5,⟨H4.out.2.1.kpB (PBo.pb k5),r5,World.ownsRow_nil _ _ _ _⟩⟩,(H4.out.2.2.2.trans (H4.out.2.2.1.mono hsz)).trans (PB.kp (PBo.pb k5) (by simp;omega))⟩;clear x5 r5 k5
 go_wp2
 go_ret
 exact⟨_,rfl,HF.out⟩
theorem closeB_hid (k:Wk)(p:Bool)(E:List OE)(Q B:Nat)(at_:Nat)(hf:k.f.length<=1000000):Hid (∀ W,PkI W Q B k E p->Calls Tryz.prog 49 #[.pointer (some ⟨Q,0,none⟩),.int .i64 (at_:Int)] W fun e w'=>e=.returned (.tuple #[])/\PkI w' Q B { k with f:=k.f++if 1<E.length then [(162,at_)] else [] } E p/\Below B W w'):=Lib.hid fun w h=>by
 obtain⟨hBQ,dv,ov,fv,hX,hO⟩:=h;obtain⟨va,vc,rfl⟩:=row_form hO.o;have hQ:=hX.lt;have CN:=count_hid.out w Q dv va E.length vc p fv hX;have CF:=failB_hid k.f 162 at_ hf B;have H1:=Lib.hid (And.intro hX hO);clear hX hO
 by_cases h1:1<E.length
 · have z1:(1:Int)<(E.length:Int):=by omega
   rw[if_pos h1];clear h1
   go_enter Tryz.func49,Tryz.ntmps49
   go_wp2_with fail
   refine CN.mono ?_;rintro e w3 ⟨rfl,hw3⟩;rw[hw3];clear hw3 CN
   go_wp2_with fail
   (refine(CF.out _ _ _ _ _ _ H1.out.1 hBQ H1.out.2.f).mono ?_)
   rintro e w4 ⟨rfl,fv4,x4,f4,k4⟩;have HF:Hid (PkI w4 Q B { k with f:=k.f++[(162,at_)] } E p/\Below B w w4):=Lib.hid ⟨⟨hBQ,_,_,_,x4,H1.out.2.fail k4 f4⟩,PB.kp (PBf.pb k4) (by omega)⟩;clear x4 f4 k4
   go_wp2
   go_end0
   exact⟨rfl,HF.out⟩
 · have z1:¬ (1:Int)<(E.length:Int):=by omega
   rw[if_neg h1,List.append_nil];have HF:Hid (PkI w Q B k E p/\Below B w w):=Lib.hid ⟨⟨hBQ,_,_,_,H1.out.1,H1.out.2⟩,Below.refl _ _⟩;clear h1
   go_enter Tryz.func49,Tryz.ntmps49
   go_wp2_with fail
   refine CN.mono ?_;rintro e w3 ⟨rfl,hw3⟩;rw[hw3];clear hw3 CN
   go_wp2
   go_end0
   exact⟨rfl,HF.out⟩
end Go.Proofs.YtlnfbjbagmfpiaaGreatDoor.Dm
namespace Go.Proofs.YtlnfbjbagmfpiaaGreatDoor.Dm
open Go.RowKit
theorem step_way {n:Nat}{k:Wk}{E:List OE}(hC:PkC n k E)(p:Bool)(Q B:Nat)(t:Tk)(at_:Nat)(ht:FitK t):∃ f,(∀ args w,(callFunc f args).run Tryz.prog w=.ok (.enter f args) w)/\(∀ w,Calls Tryz.prog 48 #[.pointer (some ⟨Q,0,none⟩),.int .i64 t.k] w fun e w'=>e=.returned (.func (.func f) #[.pointer (some ⟨Q,0,none⟩)] #[])/\w'=w)/\Hid (StepC f p k E Q B t at_):=by
 obtain⟨f,hf⟩:∃ f,(f=if t.k=1 then 75 else if t.k=4 then 76 else if t.k=2 then 77 else if t.k=3 then 78 else 79):=⟨_,rfl⟩
 have hw:∀ w,Calls Tryz.prog 48 #[.pointer (some ⟨Q,0,none⟩),.int .i64 t.k] w fun e w'=>e=.returned (.func (.func f) #[.pointer (some ⟨Q,0,none⟩)] #[])/\w'=w:=fun w=>by
  obtain⟨f',hf',h⟩:=way_any Q t.k w;rw[hf,<- hf'];exact h
 refine⟨f,?_,hw,?_⟩
 · by_cases h1:t.k=1
   · rw[hf,if_pos h1]
     exact enters_of Tryz.func75 (by kernel_rfl) rfl
   by_cases h4:t.k=4
   · rw[hf,if_neg h1,if_pos h4]
     exact enters_of Tryz.func76 (by kernel_rfl) rfl
   by_cases h2:t.k=2
   · rw[hf,if_neg h1,if_neg h4,if_pos h2]
     exact enters_of Tryz.func77 (by kernel_rfl) rfl
   by_cases h3:t.k=3
   · rw[hf,if_neg h1,if_neg h4,if_neg h2,if_pos h3]
     exact enters_of Tryz.func78 (by kernel_rfl) rfl
   · rw[hf,if_neg h1,if_neg h4,if_neg h2,if_neg h3]
     exact enters_of Tryz.func79 (by kernel_rfl) rfl
 · by_cases h1:t.k=1
   · rw[hf,if_pos h1]
     exact text_step hC p Q B t at_ ht h1
   by_cases h4:t.k=4
   · rw[hf,if_neg h1,if_pos h4]
     exact note_step hC p Q B t at_ ht h4
   by_cases h2:t.k=2
   · rw[hf,if_neg h1,if_neg h4,if_pos h2]
     exact start_step hC p Q B t at_ ht h2
   by_cases h3:t.k=3
   · rw[hf,if_neg h1,if_neg h4,if_neg h2,if_pos h3]
     exact end_step hC p Q B t at_ h3
   · rw[hf,if_neg h1,if_neg h4,if_neg h2,if_neg h3]
     exact none_step hC p Q B t at_ h1 h4 h2 h3
def IntoE (R:List Nd × List Fl × Int)(W:World)(e:Ending)(w':World):Prop:=∃ a c fv,e=.returned (.tuple #[.agg #[.slice a R.1.length c],fv,.int .i64 R.2.2])/\OwnX w' W.heap.size (.slice a R.1.length c) R.1/\w'.ownsRow W.heap.size 93 2 fv R.2.1.length (flD R.2.1)/\Below W.heap.size W w'
theorem intoB_hid (D:List Nd)(hf:FitD D)(n:Int)(l:List Tk)(hl:l.length<=100000)(ht:∀ t∈l,FitK t)(p:Bool):Hid (∀ W sl lv,DocG W sl D->TksD W lv l->Calls Tryz.prog 15 #[.agg #[sl],.int .i64 n,lv,.bool p] W (IntoE (intoM D n l p) W)):=Lib.hid fun w sl lv hd htk=>by
 obtain⟨a,c,rfl⟩:=hd.form;obtain⟨la,lc,rfl,-⟩:=(show ∃ a c,lv=.slice a l.length c/\True from by obtain⟨a,c,h,_⟩:=htk;exact⟨a,c,h,trivial⟩);have CK:=gCheck hf;have hfl:=hf.1;have al1:=(Below.refl w.heap.size w).alloc (Nat.le_refl _) (.cells #[.slice a D.length c] 24);have hb1:=new_block w (.cells #[.slice a D.length c] 24);have hs1:(w.alloc (.cells #[.slice a D.length c] 24)).heap.size=w.heap.size+1:=by simp
 generalize hw1:w.alloc (.cells #[.slice a D.length c] 24)=w1 at al1 hb1 hs1;have al2:=(Below.refl w1.heap.size w1).alloc (Nat.le_refl _) (.cells #[.slice none 0 0] 24);have hb2:=new_block w1 (.cells #[.slice none 0 0] 24);rw[hs1]at hb2;generalize hw2:w1.alloc (.cells #[.slice none 0 0] 24)=w2 at al2 hb2;have hb1':=(al2.block _ (lt_of_block hb1)).trans hb1;have hbel:=al1.trans (al2.mono (by omega));have e0:=cell_of hb1' 0;have H2:=Lib.hid (And.intro hb1' (And.intro hb2 hbel));have HD:=Lib.hid hd;have HF:=Lib.hid hf;have HTk:=Lib.hid htk;clear hd al1 hb1 al2 hb2 hb1' hbel hf htk
 go_enter Tryz.func15,Tryz.ntmps15
 go_wp2_with fail
 (refine(CK.out _ _ (HD.out.below H2.out.2.2)).mono ?_)
 rintro e w3 ⟨rfl,b3⟩;clear hw1 hw2 hs1 e0 CK;have H3:=Lib.hid (And.intro ((b3.block _ (lt_of_block H2.out.1)).trans H2.out.1) (And.intro ((b3.block _ (lt_of_block H2.out.2.1)).trans H2.out.2.1) (H2.out.2.2.trans (b3.mono H2.out.2.2.size))));clear b3 H2;have e0:=cell_of H3.out.1 0
 have hno:∀(er:Int) (wr:World),wr.heap[w.heap.size+1]? = some (.cells #[.slice none 0 0] 24 (0,0))->Below w.heap.size w wr->intoM D n l p=([],[],er)->(wr.setCell ⟨w.heap.size+1,0,none⟩ (.slice none 0 0)).cell? ⟨w.heap.size+1,0,none⟩=some (.slice none 0 0)/\IntoE (intoM D n l p) w (.returned (.tuple #[.agg #[.slice none 0 0],.slice none 0 0,.int .i64 er])) (wr.setCell ⟨w.heap.size+1,0,none⟩ (.slice none 0 0)):=fun er wr h1 h2 h3=>by
  refine⟨by rw[cell_of (heap_setCell_same wr (w.heap.size+1) 0 _ _ _ (.slice none 0 0) h1)];rfl,?_⟩;rw[h3];exact⟨none,0,_,rfl,⟨fun _ => .slice none 0 0,fun _ => .slice none 0 0,OwnD.nil _ _ _ _⟩,World.ownsRow_nil _ _ _ _,h2.trans ((Kp.of_set (P:=fun j _=>j=w.heap.size+1) h1 _ rfl).below (fun j t e=>by have e1:j=w.heap.size+1:=e;omega) h2.size)⟩
 have HNo:=Lib.hid hno;clear hno
 by_cases hc:checkM D=0
 case neg =>
  have g1:(checkM D != 0)=true:=by rw[bne_iff_ne];exact hc
  obtain⟨c0,HE1⟩:=HNo.out _ w3 H3.out.2.1 H3.out.2.2 (into_e1 (n:=n) (l:=l) (p:=p) hc);have HE:=Lib.hid HE1;have o2:=open_of H3.out.2.1 0;have r2:=cell_of H3.out.2.1 0;clear HE1
  go_wp2
  exact bodyPost_ret (v := .tuple #[.agg #[.slice none 0 0],.slice none 0 0,.int .i64 (checkM D)]) (by simp[results,Tryz.results15,go_sem,c0]) rfl HE.out
 have HRt:=Lib.hid (check_right.1 hc);have hc0:=hc;rw[hc];have CI:=isNodeB_any a D.length c n w3
 by_cases h1:0<=n/\n<(D.length:Int)
 case neg =>
  have hz:(decide (0<=n)&&decide (n<(D.length:Int)))=false:=by
   rw[Bool.and_eq_false_iff,decide_eq_false_iff_not,decide_eq_false_iff_not];omega
  rw[hz]at CI;obtain⟨c0,HE1⟩:=HNo.out _ w3 H3.out.2.1 H3.out.2.2 (into_e2 (n:=n) (l:=l) (p:=p) hc0 (fun h=>h1 ⟨h.1,h.2.1⟩));have HE:=Lib.hid HE1;have o2:=open_of H3.out.2.1 0;have r2:=cell_of H3.out.2.1 0;clear HE1 hz h1
  go_wp2_with fail
  refine CI.mono ?_;rintro e w4 ⟨rfl,hw4⟩;rw[hw4];clear hw4 CI
  go_wp2
  exact bodyPost_ret (v := .tuple #[.agg #[.slice none 0 0],.slice none 0 0,.int .i64 170]) (by simp[results,Tryz.results15,go_sem,c0]) rfl HE.out
 rw[decide_eq_true h1.1,decide_eq_true h1.2]at CI;obtain⟨n,rfl⟩:∃ m:Nat,n=(m:Int):=⟨n.toNat,by omega⟩;have hn:n<D.length:=by omega
 have zn:(n:Int)<(D.length:Int):=by omega
 have zn0:(0:Int)<=(n:Int):=by omega
 obtain⟨A0,K0,hd0,hcap0⟩:=HD.out.below H3.out.2.2;obtain⟨Bn,off,hB,q0,q1,q2,q3,q4,q5,q6,q7⟩:=hd0.node hn
 cases hB
 have CT:=takesBV_hid D[n];obtain⟨N,hN⟩:=text_of D[n].n;obtain⟨T,hT⟩:=text_of D[n].d;unfold nodeV at CT;rw[strV_of hN,strV_of hT]at CT;rw[strV_of hN]at q1;rw[strV_of hT]at q2;have hh:holds D n=holdM D[n]:=holds_some (List.getElem?_eq_getElem hn);clear hd0 hcap0 hN hT
 by_cases hh1:holdM D[n]=true
 case neg =>
  have hh0:holdM D[n]=false:=by simpa using hh1
  rw[hh0]at CT;have HE:=Lib.hid (into_e2 (n:=(n:Int)) (l:=l) (p:=p) hc0 (fun h=>by have h3:=h.2.2;rw[Int.toNat_natCast,hh,hh0]at h3;cases h3));replace CT:=Lib.hid CT.out;clear hh0 hh1 hh HRt;generalize D[n].k=x0 at *;generalize D[n].p=x4 at *;generalize D[n].b=x6 at *;generalize D[n].s=x7 at *
  go_wp2_with fail
  refine CI.mono ?_;rintro e w4 ⟨rfl,hw4⟩;rw[hw4];clear hw4 CI
  go_wp2_with fail
  (refine(CT.out _ _ _).mono ?_)
  rintro e w4 ⟨rfl,b4⟩;have hres:=(b4.block _ (lt_of_block H3.out.2.1)).trans H3.out.2.1;obtain⟨c0,HE1⟩:=HNo.out _ w4 hres (H3.out.2.2.trans (b4.mono H3.out.2.2.size)) HE.out;replace HE:=Lib.hid HE1;have o2:=open_of hres 0;have r2:=cell_of hres 0;clear HE1 hres b4 q0 q1 q2 q3 q4 q5 q6 q7 e0
  go_wp2
  exact bodyPost_ret (v := .tuple #[.agg #[.slice none 0 0],.slice none 0 0,.int .i64 170]) (by simp[results,Tryz.results15,go_sem,c0]) rfl HE.out
 rw[hh1]at CT;rw[hh1]at hh;replace CT:=Lib.hid CT.out;have h0:0<D.length:=by omega
 have CB:=newB_hid D HF.out h0 n p;have HRN:=Lib.hid (And.intro HRt.out hh);clear hh1 hh HRt;generalize D[n].k=x0 at *;generalize D[n].p=x4 at *;generalize D[n].b=x6 at *;generalize D[n].s=x7 at *
 go_wp2_with fail
 refine CI.mono ?_;rintro e w4 ⟨rfl,hw4⟩;rw[hw4];clear hw4 CI
 go_wp2_with fail
 (refine(CT.out _ _ _).mono ?_)
 rintro e w4 ⟨rfl,b4⟩;have H4:=Lib.hid (And.intro ((b4.block _ (lt_of_block H3.out.1)).trans H3.out.1) (And.intro ((b4.block _ (lt_of_block H3.out.2.1)).trans H3.out.2.1) (H3.out.2.2.trans (b4.mono H3.out.2.2.size))));have e4:=cell_of H4.out.1 0;clear q0 q1 q2 q3 q4 q5 q6 q7 e0 b4 H3 CT
 go_wp2_with fail
 (refine(CB.out _ _ (HD.out.below H4.out.2.2)).mono ?_)
 rintro e w5 ⟨Q,rfl,hI5,b5⟩;obtain⟨B0,hB0⟩:∃ B0,w4.heap.size=B0:=⟨_,rfl⟩;rw[hB0]at hI5 b5;obtain⟨k0,hk0⟩:∃ k0:Wk,(⟨D,[n],[],0⟩:Wk)=k0:=⟨_,rfl⟩;rw[hk0]at hI5;have hR1:w.heap.size+1<B0:=by rw[<- hB0];exact lt_of_block H4.out.2.1
 have hM0:Mid p n k0 l k0 0:=⟨rfl,by rw[<- hk0];exact HF.out,fun _=>by rw[<- hk0];exact start_snd HRN.out.1 hn HRN.out.2,by rw[<- hk0];exact Nat.zero_le _⟩
 have hN0:NmE k0.D k0.o [(n,[])]:=by rw[<- hk0];exact⟨rfl,fun y hy=>by cases hy;rfl,fun i y hi hy=>by
  have:=(List.getElem?_eq_some_iff.1 hy).1;simp at this
  omega⟩
 have hb0:k0.b=0:=by rw[<- hk0]
 have HI:=Lib.hid (And.intro hI5 (And.intro b5 (And.intro hM0 (And.intro hN0 hb0))));replace hk0:=Lib.hid hk0;have HT4:=Lib.hid (HTk.out.below H4.out.2.2);replace hB0:=Lib.hid hB0;clear hI5 b5 hM0 hN0 hb0 e4 CB
 go_wp2
 go_loopw [44] (fun i wr=>∃(u:Nat) (k:Wk) (E:List OE),i=.int .i64 (u:Int)/\u<=l.length/\Hid (PkI wr Q B0 k E p/\Below B0 w4 wr/\Mid p n k0 l k u/\NmE k.D k.o E/\k.b=0)) (fun i _=>l.length - (intOf i).toNat)
 case atStart=>exact⟨0,k0,_,rfl,Nat.zero_le _,HI⟩
 case round =>
  obtain⟨u,k,E,rfl,hu,HJ⟩:=hrel;clear HI;have hres:wr.heap[w.heap.size+1]? = some (.cells #[.slice none 0 0] 24 (0,0)):=(HJ.out.2.1.block _ hR1).trans H4.out.2.1;have hbw:Below w.heap.size w wr:=H4.out.2.2.trans (HJ.out.2.1.mono (by omega));have HG:=Lib.hid (And.intro hres hbw);clear hres hbw;have hC:PkC n k E:=⟨HJ.out.2.2.1.snd HJ.out.2.2.2.2,HJ.out.2.2.2.1,HJ.out.2.2.1.fit,by have:=HJ.out.2.2.1.f;omega⟩
  by_cases hlt:u<l.length
  · have zu:(u:Int)<(l.length:Int):=by omega
    have zu0:(0:Int)<=(u:Int):=by omega
    have hft:=ht _ (List.getElem_mem hlt);obtain⟨f,hcf,hway,CS⟩:=step_way hC p Q B0 l[u] u hft;have hbd:Below w4.heap.size w4 wr:=by rw[hB0.out];exact HJ.out.2.1
    obtain⟨la',lc',hle,hcs⟩:=HT4.out.below hbd;obtain⟨BL,oL,av,e,t0,t1,t2,t3,t4,t5⟩:=hcs u hlt
    injection hle with hle1 _ hle2
    subst hle1 hle2 e;obtain⟨X,hX⟩:=text_of l[u].n;obtain⟨Y,hY⟩:=text_of l[u].d;have CS2:Hid (∀ W,Below wr.heap.size wr W->Calls Tryz.prog f #[.pointer (some ⟨Q,0,none⟩),tokV l[u] av,.int .i64 (u:Int)] W (StepE p k Q B0 l[u] u W)):=Lib.hid fun W b=>CS.out W av (HJ.out.1.below b) (AtIn.below t5 b);unfold tokV at CS2;rw[strV_of hX,strV_of hY]at CS2;rw[strV_of hX]at t1;rw[strV_of hY]at t2;have HN:=Lib.hid (HJ.out.2.2.1.next hlt HJ.out.2.2.2.2 hft);have hw0:=hway;obtain⟨aa,ac,rfl⟩:=t5.form;have hmid:=HJ.out.2.2.1;generalize htk:tokW p k l[u] u=k' at HN
    have hst:∀ W e w',StepE p k Q B0 l[u] u W e w'->e=.returned (.int .i64 k'.b)/\(k'.b=0->∃ E',NmE k'.D k'.o E'/\PkI w' Q B0 k' E' p)/\Below B0 W w':=fun W e w' h=>by
     unfold StepE at h;rw[htk]at h;exact h
    have HSt:=Lib.hid hst;have HBd:=HJ.out.2.1;clear hst htk hX hY hcs hbd t5 hmid CS hw0;generalize l[u].k=tk at *;generalize l[u].c=tc at *;have al6:=(Below.refl wr.heap.size wr).alloc (Nat.le_refl _) (.cells #[.int .i64 tk,.string X,.string Y,.slice aa l[u].a.length ac,.bool tc] 57);have nb6:=new_block wr (.cells #[.int .i64 tk,.string X,.string Y,.slice aa l[u].a.length ac,.bool tc] 57);generalize hw6:wr.alloc (.cells #[.int .i64 tk,.string X,.string Y,.slice aa l[u].a.length ac,.bool tc] 57)=w6 at al6 nb6;have d0:=cell_of nb6 0;have d1:=cell_of nb6 1;have d2:=cell_of nb6 2;have d3:=cell_of nb6 3;have d4:=cell_of nb6 4;have CW6:=hway w6;have HA6:=Lib.hid (And.intro al6 HBd);clear al6 nb6 HBd hway
    go_wp2_with fail
    refine CW6.mono ?_;rintro e w7 ⟨rfl,hw7⟩;rw[hw7];clear hw7 CW6
    go_wp2_with fail
    refine(CS2.out _ HA6.out.1).mono ?_;rintro e w7 hs7;obtain⟨rfl,hok,b7⟩:=HSt.out _ _ _ hs7;clear hs7 hw6 CS2 HSt;have bb7:Below B0 w4 w7:=(HA6.out.2.trans (HA6.out.1.mono (by have:=HA6.out.2.size;have:=hB0.out;omega))).trans b7
    by_cases hb:k'.b=0
    · obtain⟨E',hN',hP'⟩:=hok hb
      have HK:=Lib.hid (And.intro hP' (And.intro bb7 (And.intro HN.out (And.intro hN' hb))));clear hok b7 bb7 hN' hP' HN HJ hC;rw[hb]
      go_wp2
      go_roundw
      case rel=>exact⟨u+1,k',E',by go_num,by omega,HK⟩
      case measure=>simp[intOf];omega
    · have HE:=Lib.hid (show intoM D (n:Int) l p=([],[],k'.b) by rw[into_run (k:=k') hc0 hn HRN.out.2 (by rw[hk0.out];exact HN.out.stop (.inl hb)),if_pos hb])
      have g6:(k'.b != 0)=true:=by rw[bne_iff_ne];exact hb
      have hres:=(bb7.block _ hR1).trans H4.out.2.1;obtain⟨c0,HE1⟩:=HNo.out _ w7 hres (H4.out.2.2.trans (bb7.mono (by omega))) HE.out;replace HE:=Lib.hid HE1;have o2:=open_of hres 0;have r2:=cell_of hres 0;clear HE1 hres b7 bb7 hok HN HJ hC HG hb
      go_wp2
      exact bodyPost_ret (v := .tuple #[.agg #[.slice none 0 0],.slice none 0 0,.int .i64 k'.b]) (by simp[results,Tryz.results15,go_sem,c0]) rfl HE.out
  · obtain rfl:u=l.length:=by omega
    have hstop:=HJ.out.2.2.1.stop (.inr (Nat.le_refl _));have HE1:=into_run (k:=k) hc0 hn HRN.out.2 (by rw[hk0.out];exact hstop);rw[if_neg (by simp[HJ.out.2.2.2.2])]at HE1;have hEl:=hC.len.2.2;rw[<- hEl]at HE1;replace HE1:=Lib.hid HE1;have CC:=closeB_hid k p E Q B0 l.length (by have:=HJ.out.2.2.1.f;omega);have HI8:=HJ.out.1;have HIH:=Lib.hid HI8;have hB0w:w.heap.size<=B0:=by omega
    have hBB:=HJ.out.2.1.size;clear HI8 hstop hEl hC HJ
    go_wp2_with fail
    (refine(CC.out _ HIH.out).mono ?_)
    rintro e w8 ⟨rfl,⟨hBQ,dv,ov,fv,x8,o8⟩,b8⟩;have hres:=(b8.block _ hR1).trans HG.out.1;have hbw:=HG.out.2.trans (b8.mono hB0w);clear HIH HG b8 CC;have c0:=x8.c0;have c3:=x8.c3
    obtain⟨da,dc,rfl⟩:∃ a c,dv=.slice a k.D.length c:=by
     obtain⟨A',K',h⟩:=o8.d;exact h.form
    obtain⟨fa,fc,hfv⟩:=row_form o8.f;dsimp only at hfv;generalize hF:k.f++(if 1<E.length then [((162:Int),l.length)] else [])=F at *;subst hfv;have u2:=open_of hres 0;have v2:=cell_of hres 0;have q2:=heap_setCell_same w8 (w.heap.size+1) 0 _ _ _ (.slice da k.D.length dc) hres;have c9:(w8.setCell ⟨w.heap.size+1,0,none⟩ (.slice da k.D.length dc)).cell? ⟨w.heap.size+1,0,none⟩=some (.slice da k.D.length dc):=by rw[cell_of q2];rfl
    have HO:Hid (IntoE (intoM D (n:Int) l p) w (.returned (.tuple #[.agg #[.slice da k.D.length dc],.slice fa F.length fc,.int .i64 0])) (w8.setCell ⟨w.heap.size+1,0,none⟩ (.slice da k.D.length dc)).drew):=Lib.hid (by
     have kS:Kp (fun j _=>j=w.heap.size+1) w8 (w8.setCell ⟨w.heap.size+1,0,none⟩ (.slice da k.D.length dc)):=Kp.of_set hres _ rfl;rw[HE1.out];obtain⟨A',K',h⟩:=o8.d
     exact⟨da,dc,.slice fa F.length fc,rfl,OwnX.belowB (show OwnX (w8.setCell ⟨w.heap.size+1,0,none⟩ (.slice da k.D.length dc)) w.heap.size (.slice da k.D.length dc) k.D from⟨A',K',(h.setDoc hres).low hB0w⟩) (Below.refl _ _).drew,row_below (row_low (kS.row o8.f fun j hj _ e=>row_ne o8.f hres (by decide) (by rw[hj];exact congrArg _ e)) hB0w) (Below.refl _ _).drew,(hbw.trans (kS.below (fun j t e=>by have e1:j=w.heap.size+1:=e;omega) hbw.size)).drew⟩)
    have s3:(w8.setCell ⟨w.heap.size+1,0,none⟩ (.slice da k.D.length dc)).cell? ⟨Q,3,none⟩=some (.slice fa F.length fc):=(World.cell?_of_block (a:=⟨Q,3,none⟩) (heap_setCell_ne w8 ⟨w.heap.size+1,0,none⟩ (.slice da k.D.length dc) (show Q≠w.heap.size+1 by omega))).trans c3;clear q2 x8 o8 hres hbw HE1 hF
    go_wp2_with fail
    go_big_region
    all_goals
     have c9d:(w8.setCell ⟨w.heap.size+1,0,none⟩ (.slice da k.D.length dc)).drew.cell? ⟨w.heap.size+1,0,none⟩=some (.slice da k.D.length dc):=c9
     go_wp2
     exact bodyPost_ret (v := .tuple #[.agg #[.slice da k.D.length dc],.slice fa F.length fc,.int .i64 0]) (by simp[results,Tryz.results15,go_sem,c9d]) rfl HO.out
end Go.Proofs.YtlnfbjbagmfpiaaGreatDoor.Dm
namespace Go.Proofs.YtlnfbjbagmfpiaaGreatDoor.Dm
open Go.RowKit
theorem encC:EncC:=fun s T h1 h2=>Go.Proofs.YtlnfbjbagmfpiaaGreatDoor.refEncode_hid s T h1 h2
theorem one_tok {w:World}{R:Nat}{t:Tk}{X Y:ByteArray}{av:Value}(hX:X.data.toList=t.n)(hY:Y.data.toList=t.d)(h:w.heap[R]? = some (.cells #[.int .i64 t.k,.string X,.string Y,av,.bool t.c] 57 (0,0)))(ha:AtIn w av t.a):TokIn w (.slice (some ⟨R,0,none⟩) 1 1) [t]:=by
 refine⟨[.int .i64 t.k,strV t.n,strV t.d,av,.bool t.c],⟨rfl,fun v hv => ?_,.inr ⟨R,0,1,rfl,fun j v hj => ?_⟩⟩,⟨av,[],rfl,ha,rfl⟩⟩
 · simp at hv
   rcases hv with rfl | rfl | rfl | rfl | rfl
   · rfl
   · rfl
   · rfl
   · obtain⟨a,c,rfl⟩:=ha.form
     rfl
   · rfl
 · rw[Nat.zero_add,cell_of h]
   rw[strV_of hX,strV_of hY]at hj
   simpa using hj
theorem prC:PrC:=fun X P A hP hX hA=>Lib.hid fun W R av hb ha=>by
 have ht:wT ⟨2,X.data.toList,[],A,false⟩<=100000:=by
  unfold wT;have:wA A<=95000:=hA;simp only[List.length_nil];rw[lsize];omega
 refine(refPrint_hid [⟨2,X.data.toList,[],A,false⟩] P (by rw[hP];unfold printM printF printT hardM;simp[printF]) (by unfold wL;simp;omega) (fun t h=>by simp at h;subst h;exact ht)).out W _ (one_tok (t:=⟨2,X.data.toList,[],A,false⟩) (Y:=⟨#[]⟩) rfl rfl hb ha)
theorem TokIn.tks {w:World}{v:Value}{L:List Tk}(h:TokIn w v L):TksD w v L:=by
 obtain⟨a,c,rfl⟩:=h.form;refine⟨a,c,rfl,fun i hi => ?_⟩;obtain⟨B,off,av,e,c0,c1,c2,c3,c4,c5⟩:=h.at hi;exact⟨B,off,av,e,c0,c1,c2,c3,c4,c5⟩
end Go.Proofs.YtlnfbjbagmfpiaaGreatDoor.Dm
namespace Go.Proofs.YtlnfbjbagmfpiaaGreatDoor.Dm
open Go.RowKit
theorem liesP:liesAt Tryz.prog Tryz.prog.depth 102 (3 / Tryz.prog.cellsOf 102) 1 100 1=true:=by kernel_rfl
def PrS (w:World)(B Q:Nat)(sl:Value)(H:List UInt8):Prop:=B<=Q/\∃ p bv,Go.Proofs.YtlnfbjbagmfpiaaGreatDoor.BD w B Q 1 H #[sl,p,bv] 102 p bv
theorem PrS.c0 {w:World}{B Q:Nat}{sl:Value}{H:List UInt8}(h:PrS w B Q sl H):w.cell? ⟨Q,0,none⟩=some sl:=by
 obtain⟨_,p,bv,hb⟩:=h;rw[cell_of hb.blk];rfl
theorem PrS.lt {w:World}{B Q:Nat}{sl:Value}{H:List UInt8}(h:PrS w B Q sl H):Q<w.heap.size:=by
 obtain⟨_,p,bv,hb⟩:=h;exact lt_of_block hb.blk
theorem PrS.below {w w':World}{B Q:Nat}{sl:Value}{H:List UInt8}(h:PrS w B Q sl H)(b:Below w.heap.size w w'):PrS w' B Q sl H:=by
 obtain⟨h1,p,bv,hb⟩:=h;exact⟨h1,p,bv,(b.block _ (lt_of_block hb.blk)).trans hb.blk,hb.c0,hb.c1,hb.own,row_below hb.row b,hb.nil⟩
theorem wr_below {w w':World}{B Q:Nat}(k:Kp (Go.Proofs.YtlnfbjbagmfpiaaGreatDoor.wrB B Q) w w')(hQ:B<=Q)(hB:B<=w.heap.size):Below B w w':=k.below (fun j t e=>by rcases e with e | e;omega;exact e.1) hB
theorem wrP_hid (H:List UInt8)(T:ByteArray)(hlen:H.length+T.size<=140737488355328):Hid (∀ W B Q sl,PrS W B Q sl H->Calls Tryz.prog 66 #[.pointer (some ⟨Q,1,none⟩),.string T] W fun e w'=>e=.returned (.tuple #[.int .i64 T.size,.nilIface])/\PrS w' B Q sl (H++T.data.toList)/\Kp (Go.Proofs.YtlnfbjbagmfpiaaGreatDoor.wrB B Q) W w'):=Lib.hid fun w B Q sl h=>by
 have hlt:=h.lt;obtain⟨hBQ,p,bv,hb⟩:=h;refine(Go.Proofs.YtlnfbjbagmfpiaaGreatDoor.write_any B Q 1 H _ _ p bv T w hb (by omega) (by decide) hlen liesP).mono ?_;rintro e w' ⟨h1,bv',h2,k⟩;exact⟨h1,⟨hBQ,_,bv',h2⟩,k⟩
theorem tok_print (t:Tk):printM [t]=printT false t:=by unfold printM printF hardM;simp[printF]
theorem printToken_hid (t:Tk)(hw:wT t<=100000)(H:List UInt8)(hH:H.length<=100000000000000):Hid (∀ W B Q sl av,Low W->PrS W B Q sl H->AtIn W av t.a->Calls Tryz.prog 90 #[.pointer (some ⟨Q,0,none⟩),tokV t av] W fun e w'=>e=.returned (.tuple #[])/\PrS w' B Q sl (H++printT false t)/\Kp (Go.Proofs.YtlnfbjbagmfpiaaGreatDoor.wrB B Q) W w'):=Lib.hid fun w B Q sl av hlow h hat=>by
 obtain⟨X,hX⟩:=text_of t.n;obtain⟨Y,hY⟩:=text_of t.d;obtain⟨P,hP⟩:=text_of (printT false t);obtain⟨aa,ac,rfl⟩:=hat.form
 have hPl:P.size<=1000000:=by
  have h1:=printF_len none [t];have h2:printF none [t]=P.data.toList:=by rw[hP];exact tok_print t
  rw[h2,lsize]at h1;have h3:wL [t]=wT t:=by unfold wL;simp
  rw[h3]at h1;omega
 have CPr:=print_hid [t] P (by rw[hP,tok_print]) (by unfold wL;simp;omega) (fun u hu=>by simp at hu;subst hu;omega);have CW:=wrP_hid H P (by omega);have hBQ:=h.1;have hQ:=h.lt;have al:=(Below.refl w.heap.size w).alloc (Nat.le_refl _) (.cells #[.int .i64 t.k,.string X,.string Y,.slice aa t.a.length ac,.bool t.c] 57);have nb:=new_block w (.cells #[.int .i64 t.k,.string X,.string Y,.slice aa t.a.length ac,.bool t.c] 57);have h1:=h.below al;have ha1:=AtIn.below hat al;have hl1:=hlow.below al;obtain⟨R,hR⟩:∃ R,w.heap.size=R:=⟨_,rfl⟩;generalize hw1:w.alloc (.cells #[.int .i64 t.k,.string X,.string Y,.slice aa t.a.length ac,.bool t.c] 57)=w1 at al nb h1 ha1 hl1;rw[hR]at nb;have n0:=cell_of nb 0;have n1:=cell_of nb 1;have n2:=cell_of nb 2;have n3:=cell_of nb 3;have n4:=cell_of nb 4;have H1:=Lib.hid (And.intro h1 (And.intro nb al));have hsz1:=al.size;have HPr:Hid (∀ w' g,Below w1.heap.size w1 w'->w'.heap[g]? = some (.cells #[.int .i64 t.k,.string X,.string Y,.slice aa t.a.length ac,.bool t.c] 57 (0,0))->Calls Tryz.prog 124 #[.slice (some ⟨g,0,none⟩) 1 1] w' fun e w2=>e=.returned (.string P)/\Below w1.heap.size w1 w2):=Lib.hid fun w' g b hg=>((CPr.out _ _ (hl1.below b) (one_tok hX hY hg (AtIn.below ha1 b))).mono fun e w2 ⟨h2,h3⟩=>⟨h2,b.trans (h3.mono b.size)⟩);unfold tokV;rw[strV_of hX,strV_of hY,<- hP];have hQR:Q<R:=by omega
 clear h hat al nb h1 ha1 hl1 hlow hX hY hP CPr hw;generalize t.k=tk at *;generalize t.c=tc at *;have HS:Hid (∀ w',Below w1.heap.size w1 w'->(w'.cell? ⟨R,0,none⟩=some (.int .i64 tk)/\w'.cell? ⟨R,1,none⟩=some (.string X)/\w'.cell? ⟨R,2,none⟩=some (.string Y)/\w'.cell? ⟨R,3,none⟩=some (.slice aa t.a.length ac)/\w'.cell? ⟨R,4,none⟩=some (.bool tc))):=Lib.hid fun w' b=>⟨(b.cell (lt_of_cell n0)).trans n0,(b.cell (lt_of_cell n1)).trans n1,(b.cell (lt_of_cell n2)).trans n2,(b.cell (lt_of_cell n3)).trans n3,(b.cell (lt_of_cell n4)).trans n4⟩;have S0:=HS.out _ ((Below.refl w1.heap.size w1).drew);have B0:=((Below.refl w1.heap.size w1).drew).alloc (Nat.le_refl _) (.cells #[.int .i64 tk,.string X,.string Y,.slice aa t.a.length ac,.bool tc] 57)
 go_enter Tryz.func90,Tryz.ntmps90
 go_wp2_with fail
 clear hw1;replace hR:=Lib.hid hR
 go_region_held3 (fun w'=>w'.cell? ⟨R,0,none⟩=some (.int .i64 tk)/\w'.cell? ⟨R,1,none⟩=some (.string X)/\w'.cell? ⟨R,2,none⟩=some (.string Y)/\w'.cell? ⟨R,3,none⟩=some (.slice aa t.a.length ac)/\w'.cell? ⟨R,4,none⟩=some (.bool tc)) (first | assumption | exact HS.out _ (by assumption)) (first
  | (go_at_call 124
     (with_reducible refine(HPr.out _ _ ?_ ?_).mono ?_)
     · (repeat' (first | assumption | refine Below.drew ?_ | refine bel_alloc ?_ _ | exact Below.refl _ _))
     · exact new_block _ _
     rintro e w3 ⟨rfl,b3⟩)
  | (go_at_call 66
     (with_reducible refine(CW.out _ _ _ _ (H1.out.1.below b3)).mono ?_)
     rintro e w4 ⟨rfl,h4,k4⟩;have nb4:=k4.cells ((b3.block _ (lt_of_block H1.out.2.1)).trans H1.out.2.1) (fun e=>by rcases e with e | e;omega;exact absurd e.2 (by decide))
     have S4:w4.cell? ⟨R,0,none⟩=some (.int .i64 tk)/\w4.cell? ⟨R,1,none⟩=some (.string X)/\w4.cell? ⟨R,2,none⟩=some (.string Y)/\w4.cell? ⟨R,3,none⟩=some (.slice aa t.a.length ac)/\w4.cell? ⟨R,4,none⟩=some (.bool tc):=⟨cell_of nb4 0,cell_of nb4 1,cell_of nb4 2,cell_of nb4 3,cell_of nb4 4⟩))
 all_goals
  have HF:Hid (PrS w4 B Q sl (H++P.data.toList)/\Kp (Go.Proofs.YtlnfbjbagmfpiaaGreatDoor.wrB B Q) w w4):=Lib.hid ⟨h4,(Kp.of_below (H1.out.2.2.trans (b3.mono H1.out.2.2.size))).trans k4⟩;clear h4 k4 nb4 S4 b3
  go_wp2
  go_end0
  exact⟨rfl,HF.out⟩
end Go.Proofs.YtlnfbjbagmfpiaaGreatDoor.Dm
namespace Go.Proofs.YtlnfbjbagmfpiaaGreatDoor.Dm
open Go.RowKit
theorem isCode_hid (D:List Nd)(n:Int)(hn:n<(D.length:Int))(H:List UInt8):Hid (∀ W B Q sl,PrS W B Q sl H->DocG W sl D->Calls Tryz.prog 123 #[.pointer (some ⟨Q,0,none⟩),.int .i64 n] W fun e w'=>e=.returned (.bool (codeM D n))/\w'=W):=Lib.hid fun w B Q sl h hd=>by
 obtain⟨a,c,rfl⟩:=hd.form;have e0:=h.c0;have CI:=isNodeB_any a D.length c n w
 by_cases h0:n<0
 · have HE:Hid (codeM D n=false):=Lib.hid (by unfold codeM;rw[decide_eq_false (by omega),Bool.false_and])
   rw[HE.out];rw[decide_eq_false (by omega),Bool.false_and]at CI;clear h hd
   go_enter Tryz.func123,Tryz.ntmps123
   go_wp2_with fail
   refine CI.mono ?_;rintro e w4 ⟨rfl,hw4⟩;rw[hw4];clear hw4 CI
   go_wp2
   go_ret
   exact⟨rfl,rfl⟩
 obtain⟨m,rfl⟩:∃ m:Nat,n=(m:Int):=⟨n.toNat,by omega⟩;have hm:m<D.length:=by omega
 have zm:(m:Int)<(D.length:Int):=by omega
 have zm0:(0:Int)<=(m:Int):=by omega
 rw[decide_eq_true zm0,decide_eq_true zm]at CI;obtain⟨A0,K0,hd0,-⟩:=hd;obtain⟨Bn,off,rfl,-,c1,-⟩:=hd0.node hm;obtain⟨X,hX⟩:=text_of D[m].n;rw[strV_of hX]at c1;have hnm:nameN D m=X.data.toList:=by unfold nameN;rw[List.getElem?_eq_getElem hm,hX]
 obtain⟨b1,hb1⟩:∃ b,decide (X.data.toList=scriptN)=b:=⟨_,rfl⟩;obtain⟨b2,hb2⟩:∃ b,decide (X.data.toList=styleN)=b:=⟨_,rfl⟩;have g1:(X.toList==[115,99,114,105,112,116])=b1:=by rw[text_lit];exact hb1
 have g2:(X.toList==[115,116,121,108,101])=b2:=by rw[text_lit];exact hb2
 have HE:Hid (codeM D (m:Int)=(b1 || b2)):=Lib.hid (by unfold codeM;rw[decide_eq_true zm0,Bool.true_and,Int.toNat_natCast,hnm,hb1,hb2]);rw[HE.out];clear h hd0 hX hnm hb1 hb2
 cases b1<;>cases b2
 all_goals
  go_enter Tryz.func123,Tryz.ntmps123
  go_wp2_with fail
  refine CI.mono ?_;rintro e w4 ⟨rfl,hw4⟩;rw[hw4];clear hw4
  go_wp2
  go_ret
  exact⟨rfl,rfl⟩
theorem printText_hid (D:List Nd)(x:Nd)(hp:x.p<(D.length:Int))(hx:FitN x)(H:List UInt8)(hH:H.length<=100000000000000):Hid (∀ W B Q sl av kv,Low W->PrS W B Q sl H->DocG W sl D->Calls Tryz.prog 89 #[.pointer (some ⟨Q,0,none⟩),nodeV x av kv] W fun e w'=>e=.returned (.tuple #[])/\PrS w' B Q sl (H++if codeM D x.p then x.d else encT x.d)/\Kp (Go.Proofs.YtlnfbjbagmfpiaaGreatDoor.wrB B Q) W w'):=Lib.hid fun w B Q sl av kv hlow h hd=>by
 obtain⟨N,hN⟩:=text_of x.n;obtain⟨T,hT⟩:=text_of x.d;obtain⟨P,hP⟩:=text_of (encT x.d);have hTl:T.size<=10000:=by rw[<- lsize,hT];exact hx.2.1
 have hPl:P.size<=60000:=by
  rw[<- lsize,hP];have:=encT_le x.d;have:=hx.2.1;omega
 have CW1:=wrP_hid H T (by omega);have CW2:=wrP_hid H P (by omega);have CE:=encode_hid T P (by rw[hP,hT]) (by omega);have al:=(Below.refl w.heap.size w).alloc (Nat.le_refl _) (.cells #[.int .i64 x.k,.string N,.string T,av,.int .i64 x.p,kv,.bool x.b,.bool x.s] 39);have nb:=new_block w (.cells #[.int .i64 x.k,.string N,.string T,av,.int .i64 x.p,kv,.bool x.b,.bool x.s] 39);have h1:=h.below al;have hd1:=hd.below al;have hl1:=(hlow.below al).s;have hQ:=h.lt;obtain⟨R,hR⟩:∃ R,w.heap.size=R:=⟨_,rfl⟩;generalize hw1:w.alloc (.cells #[.int .i64 x.k,.string N,.string T,av,.int .i64 x.p,kv,.bool x.b,.bool x.s] 39)=w1 at al nb h1 hd1 hl1;rw[hR]at nb;have n2:=cell_of nb 2;have n4:=cell_of nb 4;have CC:=isCode_hid D x.p hp H;have H1:=Lib.hid (And.intro h1 (And.intro hd1 (And.intro nb al)));have HL:=Lib.hid hl1;have hQR:Q<R:=by omega
 unfold nodeV;rw[strV_of hN,strV_of hT];rw[<- hP,<- hT];replace hT:=Lib.hid hT;clear h hd hlow al nb h1 hd1 hl1 hN hP hx hp;generalize x.k=xk at *;generalize x.p=xp at *;generalize x.b=xb at *;generalize x.s=xs at *;have HS:Hid (∀ w',Below w1.heap.size w1 w'->w'.cell? ⟨R,2,none⟩=some (.string T)):=Lib.hid fun w' b=>(b.cell (lt_of_cell n2)).trans n2;have S0:=HS.out _ ((Below.refl w1.heap.size w1).drew);have B0:=(Below.refl w1.heap.size w1).drew;generalize codeM D xp=b at CC ⊢
 cases b with
 | true =>
   go_enter Tryz.func89,Tryz.ntmps89
   go_wp2_with fail
   clear hw1
   (refine(CC.out _ _ _ _ H1.out.1 H1.out.2.1).mono ?_)
   rintro e w2 ⟨rfl,hw2⟩;rw[hw2];clear hw2 CC;replace hR:=Lib.hid hR
   go_wp2_with fail
   go_region_held3 (fun w'=>w'.cell? ⟨R,2,none⟩=some (.string T)) (first | assumption | exact HS.out _ (by assumption)) (first
    | (go_at_call 66
       (with_reducible refine(CW1.out _ _ _ _ (H1.out.1.below B0)).mono ?_)
       rintro e w4 ⟨rfl,h4,k4⟩;have nb4:=k4.cells (show w1.drew.heap[R]? = _ from H1.out.2.2.1) (fun e=>by rcases e with e | e;omega;exact absurd e.2 (by decide))
       have S4:w4.cell? ⟨R,2,none⟩=some (.string T):=cell_of nb4 2))
   all_goals
    have HF:Hid (PrS w4 B Q sl (H++T.data.toList)/\Kp (Go.Proofs.YtlnfbjbagmfpiaaGreatDoor.wrB B Q) w w4):=Lib.hid ⟨h4,(Kp.of_below H1.out.2.2.2.drew).trans k4⟩;clear h4 k4 nb4 S4
    go_wp2
    exact bodyPost_ret (v := .tuple #[]) (by simp[results,Tryz.results89,go_sem]) rfl ⟨rfl,HF.out⟩
 | false =>
   go_enter Tryz.func89,Tryz.ntmps89
   go_wp2_with fail
   clear hw1
   (refine(CC.out _ _ _ _ H1.out.1 H1.out.2.1).mono ?_)
   rintro e w2 ⟨rfl,hw2⟩;rw[hw2];clear hw2 CC;replace hR:=Lib.hid hR
   go_wp2_with fail
   go_region_held3 (fun w'=>w'.cell? ⟨R,2,none⟩=some (.string T)) (first | assumption | exact HS.out _ (by assumption)) (first
    | (go_at_call 36
       (with_reducible refine(CE.out _ (SignsIn.below HL.out B0)).mono ?_)
       rintro e w3 ⟨rfl,b3'⟩;have b3:Below w1.heap.size w1 w3:=B0.trans (b3'.mono B0.size)
       clear b3')
    | (go_at_call 66
       (with_reducible refine(CW2.out _ _ _ _ (H1.out.1.below b3)).mono ?_)
       rintro e w4 ⟨rfl,h4,k4⟩;have nb4:=k4.cells ((b3.block _ (lt_of_block H1.out.2.2.1)).trans H1.out.2.2.1) (fun e=>by rcases e with e | e;omega;exact absurd e.2 (by decide))
       have S4:w4.cell? ⟨R,2,none⟩=some (.string T):=cell_of nb4 2))
   all_goals
    have HF:Hid (PrS w4 B Q sl (H++P.data.toList)/\Kp (Go.Proofs.YtlnfbjbagmfpiaaGreatDoor.wrB B Q) w w4):=Lib.hid ⟨h4,(Kp.of_below (H1.out.2.2.2.trans (b3.mono H1.out.2.2.2.size))).trans k4⟩;clear h4 k4 nb4 S4 b3
    go_wp2
    go_end0
    exact⟨rfl,HF.out⟩
end Go.Proofs.YtlnfbjbagmfpiaaGreatDoor.Dm
namespace Go.Proofs.YtlnfbjbagmfpiaaGreatDoor.Dm
open Go.RowKit
def PrE (B Q:Nat)(sl:Value)(H:List UInt8)(W:World)(e:Ending)(w':World):Prop:=e=.returned (.tuple #[])/\PrS w' B Q sl H/\Kp (Go.Proofs.YtlnfbjbagmfpiaaGreatDoor.wrB B Q) W w'
structure PrW (D:List Nd) (w0 w:World) (sl:Value) (Q:Nat) (H:List UInt8):Prop where
 d:DocG w0 sl D
 b:Below w0.heap.size w0 w
 l:Low w0
 p:PrS w w0.heap.size Q sl H
theorem PrW.next {D:List Nd}{w0 w w':World}{sl:Value}{Q:Nat}{H H':List UInt8}(h:PrW D w0 w sl Q H)(hp:PrS w' w0.heap.size Q sl H')(k:Kp (Go.Proofs.YtlnfbjbagmfpiaaGreatDoor.wrB w0.heap.size Q) w w'):PrW D w0 w' sl Q H':=⟨h.d,h.b.trans (wr_below k h.p.1 h.b.size),h.l,hp⟩
theorem PrW.below {D:List Nd}{w0 w w':World}{sl:Value}{Q:Nat}{H:List UInt8}(h:PrW D w0 w sl Q H)(b:Below w.heap.size w w'):PrW D w0 w' sl Q H:=⟨h.d,h.b.trans (b.mono h.b.size),h.l,h.p.below b⟩
def PrintQ (D:List Nd)(i:Nat):Prop:=∀ w0 w sl Q H,PrW D w0 w sl Q H->H.length+(printD D i).length<=90000000000000->Calls Tryz.prog 58 #[.pointer (some ⟨Q,0,none⟩),.int .i64 (i:Int)] w (PrE w0.heap.size Q sl (H++printD D i) w)
theorem inn_mono {d:List Nd}{C:List Int}{v:Nat}:(innM d C v).length<=(innM d C C.length).length:=by
 unfold innM;rw[List.take_length]
 conv=>rhs;rw[<- List.take_append_drop v C]
 rw[List.flatMap_append,List.length_append];omega
theorem kidsP_hid (D:List Nd)(x:Nd)(hx:FitN x)(C:List Int)(hC:x.c=C)(ih:∀ y∈C,∃ j:Nat,y=(j:Int)/\PrintQ D j):Hid (∀ w0 w sl Q H av kv,PrW D w0 w sl Q H->IntIn w0 kv C->H.length+(innM D C C.length).length<=90000000000000->Calls Tryz.prog 88 #[.pointer (some ⟨Q,0,none⟩),nodeV x av kv] w (PrE w0.heap.size Q sl (H++innM D C C.length) w)):=Lib.hid fun w0 w sl Q H av kv h hk hlen=>by
 obtain⟨N,hN⟩:=text_of x.n;obtain⟨T,hT⟩:=text_of x.d;have hCl:C.length<=1000:=by rw[<- hC];exact hx.2.2.2.1
 obtain⟨ka,kc,rfl⟩:=hk.form;have al:=(Below.refl w.heap.size w).alloc (Nat.le_refl _) (.cells #[.int .i64 x.k,.string N,.string T,av,.int .i64 x.p,.slice ka C.length kc,.bool x.b,.bool x.s] 39);have nb:=new_block w (.cells #[.int .i64 x.k,.string N,.string T,av,.int .i64 x.p,.slice ka C.length kc,.bool x.b,.bool x.s] 39);have h1:=h.below al;generalize hw1:w.alloc (.cells #[.int .i64 x.k,.string N,.string T,av,.int .i64 x.p,.slice ka C.length kc,.bool x.b,.bool x.s] 39)=w1 at al nb h1;have n5:=cell_of nb 5;have H1:Hid (PrW D w0 w1 sl Q (H++innM D C 0)/\Kp (Go.Proofs.YtlnfbjbagmfpiaaGreatDoor.wrB w0.heap.size Q) w w1):=Lib.hid ⟨by simpa [innM] using h1,Kp.of_below al⟩;have HK:=Lib.hid hk;have HIH:=Lib.hid ih;unfold nodeV;rw[strV_of hN,strV_of hT];clear h al nb h1 hN hT hk ih hx hC
 go_enter Tryz.func88,Tryz.ntmps88
 go_wp2
 clear hw1 n5
 go_loopw [9] (fun i wr=>∃ v:Nat,i=.int .i64 (v:Int)/\v<=C.length/\Hid (PrW D w0 wr sl Q (H++innM D C v)/\Kp (Go.Proofs.YtlnfbjbagmfpiaaGreatDoor.wrB w0.heap.size Q) w wr)) (fun i _=>C.length - (intOf i).toNat)
 case atStart=>exact⟨0,rfl,Nat.zero_le _,H1⟩
 case round =>
  obtain⟨v,rfl,hv,HJ⟩:=hrel;clear H1
  by_cases hlt:v<C.length
  · have zv:(v:Int)<(C.length:Int):=by omega
    obtain⟨B2,off2,rfl,y0⟩:=(HK.out.below HJ.out.1.b).at hlt;obtain⟨j,hj,hP⟩:=HIH.out _ (List.getElem_mem hlt);have hst:=inn_step (d:=D) hlt;rw[hj]at y0 hst;rw[Int.toNat_natCast]at hst
    have hlen2:(H++innM D C v).length+(printD D j).length<=90000000000000:=by
     have h1:=inn_mono (d:=D) (C:=C) (v:=v+1);rw[hst,List.length_append]at h1;rw[List.length_append];omega
    have CP:=Lib.hid (hP w0 wr sl Q _ HJ.out.1 hlen2);have HN:Hid (H++innM D C (v+1)=H++innM D C v++printD D j):=Lib.hid (by rw[hst,List.append_assoc]);clear hP hst hlen2 hj
    go_wp2_with fail
    refine CP.out.mono ?_;rintro e w3 ⟨rfl,h3,k3⟩;have HK3:Hid (PrW D w0 w3 sl Q (H++innM D C (v+1))/\Kp (Go.Proofs.YtlnfbjbagmfpiaaGreatDoor.wrB w0.heap.size Q) w w3):=Lib.hid ⟨by rw[HN.out];exact HJ.out.1.next h3 k3,HJ.out.2.trans k3⟩;clear h3 k3 CP HJ HN
    go_wp2
    go_roundw
    case rel=>exact⟨v+1,by go_num,by omega,HK3⟩
    case measure=>simp[intOf];omega
  · obtain rfl:v=C.length:=by omega
    go_wp2
    go_end0
    exact⟨rfl,HJ.out.1.p,HJ.out.2⟩
end Go.Proofs.YtlnfbjbagmfpiaaGreatDoor.Dm
