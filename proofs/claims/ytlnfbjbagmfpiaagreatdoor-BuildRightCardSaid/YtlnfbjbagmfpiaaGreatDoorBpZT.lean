/- The program's printer: a node. The program's printer: a node by its kind; Print. The program's Page. -/
import Derived.Test.YtlnfbjbagmfpiaaGreatDoorBpZM
set_option maxRecDepth 100000
set_option maxHeartbeats 16000000
namespace Go.Proofs.YtlnfbjbagmfpiaaGreatDoor.Dm
open Go.RowKit
theorem elem_hid (D:List Nd)(x:Nd)(hx:FitN x)(hpr:wAd x.a<=95000)(C:List Int)(hC:x.c=C)(ih:∀ y∈C,∃ j:Nat,y=(j:Int)/\PrintQ D j)(b0:Bool)(hb0:voidM x.n=b0):Hid (∀ w0 w sl Q H av kv,PrW D w0 w sl Q H->AtIn w0 av x.a->IntIn w0 kv C->H.length+(startT ⟨2,x.n,[],x.a,false⟩++if b0 then [] else innM D C C.length++([60,47]++x.n++[62])).length<=90000000000000->Calls Tryz.prog 91 #[.pointer (some ⟨Q,0,none⟩),nodeV x av kv] w (PrE w0.heap.size Q sl (H++(startT ⟨2,x.n,[],x.a,false⟩++if b0 then [] else innM D C C.length++([60,47]++x.n++[62]))) w)):=Lib.hid fun w0 w sl Q H av kv h hat hk hlen=>by
 obtain⟨N,hN⟩:=text_of x.n;obtain⟨T,hT⟩:=text_of x.d;obtain⟨aa,ac,rfl⟩:=hat.form;obtain⟨ka,kc,rfl⟩:=hk.form;have e0:strV []=.string ⟨#[]⟩:=rfl;rw[List.length_append]at hlen
 have hw1:wT ⟨2,x.n,[],x.a,false⟩<=100000:=by
  unfold wT;have h1:wA x.a<=95000:=hpr;have h2:=hx.1;simp only[List.length_nil];omega
 have hw3:wT ⟨3,x.n,[],[],false⟩<=100000:=by
  unfold wT;have h2:=hx.1;simp[wA];omega
 have C1:Hid (∀ W B Q sl av,Low W->PrS W B Q sl H->AtIn W av x.a->Calls Tryz.prog 90 #[.pointer (some ⟨Q,0,none⟩),.agg #[.int .i64 2,.string N,.string ⟨#[]⟩,av,.bool false]] W fun e w'=>e=.returned (.tuple #[])/\PrS w' B Q sl (H++startT ⟨2,x.n,[],x.a,false⟩)/\Kp (Go.Proofs.YtlnfbjbagmfpiaaGreatDoor.wrB B Q) W w'):=Lib.hid (by
  have c:=(printToken_hid ⟨2,x.n,[],x.a,false⟩ hw1 H (by omega)).out;unfold tokV at c;rw[show strV (⟨2,x.n,[],x.a,false⟩:Tk).n=.string N from strV_of hN]at c
  exact c)
 have CV:=void_hid N b0 (by rw[hN];exact hb0);obtain⟨I,hI⟩:∃ I,innM D C C.length=I:=⟨_,rfl⟩;obtain⟨H1,hH1⟩:∃ H1,H++startT ⟨2,x.n,[],x.a,false⟩=H1:=⟨_,rfl⟩
 have hl1:b0=false->H1.length+I.length+x.n.length+3<=90000000000000:=fun e=>by
  rw[e,hI]at hlen;rw[<- hH1];simp only[List.length_append]at hlen ⊢;simp at hlen;omega
 have CKd:=kidsP_hid D x hx C hC ih;rw[hI]at CKd
 have C3:∀ H2:List UInt8,H2.length<=100000000000000->Hid (∀ W B Q sl,Low W->PrS W B Q sl H2->Calls Tryz.prog 90 #[.pointer (some ⟨Q,0,none⟩),.agg #[.int .i64 3,.string N,.string ⟨#[]⟩,.slice none 0 0,.bool false]] W fun e w'=>e=.returned (.tuple #[])/\PrS w' B Q sl (H2++([60,47]++x.n++[62]))/\Kp (Go.Proofs.YtlnfbjbagmfpiaaGreatDoor.wrB B Q) W w'):=fun H2 h2=>Lib.hid (by
  have c:=(printToken_hid ⟨3,x.n,[],[],false⟩ hw3 H2 h2).out;unfold tokV at c;rw[show strV (⟨3,x.n,[],[],false⟩:Tk).n=.string N from strV_of hN]at c;intro W B Q sl hl hp
  exact c W B Q sl _ hl hp (AtIn.nil _ none 0))
 have al:=(Below.refl w.heap.size w).alloc (Nat.le_refl _) (.cells #[.int .i64 x.k,.string N,.string T,.slice aa x.a.length ac,.int .i64 x.p,.slice ka C.length kc,.bool x.b,.bool x.s] 39);have nb:=new_block w (.cells #[.int .i64 x.k,.string N,.string T,.slice aa x.a.length ac,.int .i64 x.p,.slice ka C.length kc,.bool x.b,.bool x.s] 39);have h1:=h.below al;have hRQ:Q<w.heap.size:=h.p.lt;obtain⟨R,hR⟩:∃ R,w.heap.size=R:=⟨_,rfl⟩;generalize hw1':w.alloc (.cells #[.int .i64 x.k,.string N,.string T,.slice aa x.a.length ac,.int .i64 x.p,.slice ka C.length kc,.bool x.b,.bool x.s] 39)=w1 at al nb h1;rw[hR]at nb hRQ;have n1:=cell_of nb 1;have n3:=cell_of nb 3;have HA:=Lib.hid (And.intro h1 (And.intro nb (And.intro al (And.intro hat hk))));unfold nodeV at CKd ⊢;rw[strV_of hN,strV_of hT]at CKd ⊢;rw[hI,<- List.append_assoc,hH1];rw[hH1]at C1;replace CKd:=Lib.hid CKd.out;replace hl1:=Lib.hid hl1;have hne:R≠Q:=by omega
 replace hN:=Lib.hid hN;clear h hat hk hlen al nb h1 hT e0 hw1 hw3 hI hH1 hx ih hC hpr hb0;generalize x.k=xk at *;generalize x.p=xp at *;generalize x.b=xb at *;generalize x.s=xs at *
 cases b0 with
 | true =>
   rw[if_pos rfl]
   go_enter Tryz.func91,Tryz.ntmps91
   go_wp2_with fail
   clear hw1'
   (refine(C1.out _ _ _ _ _ (HA.out.1.l.below HA.out.1.b) HA.out.1.p (AtIn.below HA.out.2.2.2.1 HA.out.1.b)).mono ?_)
   rintro e w2 ⟨rfl,h2,k2⟩;have nb2:=k2.cells HA.out.2.1 (fun e=>by rcases e with e | e;omega;exact absurd e.2 (by decide));have q2:=HA.out.1.next h2 k2;have m0:=cell_of nb2 0;have m1:=cell_of nb2 1;have m2:=cell_of nb2 2;have m3:=cell_of nb2 3;have m4:=cell_of nb2 4;have m5:=cell_of nb2 5;have m6:=cell_of nb2 6;have m7:=cell_of nb2 7;have H2:=Lib.hid (And.intro q2 (And.intro ((Kp.of_below HA.out.2.2.1).trans k2) nb2));clear h2 k2 nb2 q2 n1 n3 C1
   go_wp2_with fail
   (refine(CV.out _).mono ?_)
   rintro e w3 ⟨rfl,hw3⟩;rw[hw3];clear hw3 CV;have HF:Hid (PrE w0.heap.size Q sl (H1++[]) w (.returned (.tuple #[])) w2):=Lib.hid ⟨rfl,by rw[List.append_nil];exact H2.out.1.p,H2.out.2.1⟩
   go_wp2
   exact bodyPost_ret (v := .tuple #[]) (by simp[results,Tryz.results91,go_sem]) rfl HF.out
 | false =>
   rw[if_neg (by decide)]
   go_enter Tryz.func91,Tryz.ntmps91
   go_wp2_with fail
   clear hw1'
   (refine(C1.out _ _ _ _ _ (HA.out.1.l.below HA.out.1.b) HA.out.1.p (AtIn.below HA.out.2.2.2.1 HA.out.1.b)).mono ?_)
   rintro e w2 ⟨rfl,h2,k2⟩;have nb2:=k2.cells HA.out.2.1 (fun e=>by rcases e with e | e;omega;exact absurd e.2 (by decide));have q2:=HA.out.1.next h2 k2;have m0:=cell_of nb2 0;have m1:=cell_of nb2 1;have m2:=cell_of nb2 2;have m3:=cell_of nb2 3;have m4:=cell_of nb2 4;have m5:=cell_of nb2 5;have m6:=cell_of nb2 6;have m7:=cell_of nb2 7;have H2:=Lib.hid (And.intro q2 (And.intro ((Kp.of_below HA.out.2.2.1).trans k2) nb2));clear h2 k2 nb2 q2 n1 n3 C1
   go_wp2_with fail
   (refine(CV.out _).mono ?_)
   rintro e w3 ⟨rfl,hw3⟩;rw[hw3];clear hw3 CV;have hl2:=hl1.out (by trivial)
   go_wp2_with fail
   (refine(CKd.out _ _ _ _ _ _ _ H2.out.1 HA.out.2.2.2.2 (by omega)).mono ?_)
   rintro e w4 ⟨rfl,h4,k4⟩;have nb4:=k4.cells H2.out.2.2 (fun e=>by rcases e with e | e;omega;exact absurd e.2 (by decide));have q4:=H2.out.1.next h4 k4;have C3':=C3 (H1++I) (by rw[List.length_append];omega);have r1:=cell_of nb4 1;have H4:=Lib.hid (And.intro q4 (H2.out.2.1.trans k4));clear h4 k4 nb4 q4 m0 m1 m2 m3 m4 m5 m6 m7
   go_wp2_with fail
   (refine(C3'.out _ _ _ _ (H4.out.1.l.below H4.out.1.b) H4.out.1.p).mono ?_)
   rintro e w5 ⟨rfl,h5,k5⟩;have HF:Hid (PrE w0.heap.size Q sl (H1++(I++([60,47]++x.n++[62]))) w (.returned (.tuple #[])) w5):=Lib.hid ⟨rfl,by rw[<- List.append_assoc];exact h5,H4.out.2.trans k5⟩;clear h5 k5
   go_wp2
   go_end0
   exact HF.out
end Go.Proofs.YtlnfbjbagmfpiaaGreatDoor.Dm
namespace Go.Proofs.YtlnfbjbagmfpiaaGreatDoor.Dm
open Go.RowKit
theorem print_step (D:List Nd)(R:Right D)(hf:FitD D)(hpr:PrD D)(i:Nat)(hi:i<D.length)(ih:∀ y∈kid D i,PrintQ D y.toNat):PrintQ D i:=fun w0 w sl Q H h hlen=>by
 obtain⟨a,c,rfl⟩:=h.d.form;have hfx:=hf.2 _ (List.getElem_mem hi);have hprx:=hpr _ (List.getElem_mem hi);have hpar:=par_lt R hi;have hm:=R.may i _ (List.getElem?_eq_getElem hi);have hkid:kid D i=D[i].c:=kid_at hi;have hinn:(kid D i).flatMap (fun y=>printD D y.toNat)=innM D D[i].c D[i].c.length:=by unfold innM;rw[List.take_length,hkid]
 have hQ:=printD_eq R hi;rw[hinn]at hQ
 have ihk:∀ y∈D[i].c,∃ j:Nat,y=(j:Int)/\PrintQ D j:=fun y hy=>by
  rw[<- hkid]at hy;obtain⟨t,ht,_,_⟩:=kid_pos R hy;have:=ih y hy;rw[ht,Int.toNat_natCast]at this;exact⟨t,ht,this⟩
 have hl0:=hf.1;obtain⟨A0,K0,hd0,-⟩:=h.d;obtain⟨Bn,off,hB,q0,q1,q2,q3,q4,q5,q6,q7⟩:=(hd0.below h.b).node hi
 cases hB
 obtain⟨aa,ac,ha⟩:=(hd0.at' i hi).form;obtain⟨ka,kc,hk⟩:=(hd0.kd i hi).form;have hat:=hd0.at' i hi;have hkd:=hd0.kd i hi;rw[ha]at q3 hat;rw[hk]at q5 hkd;obtain⟨N,hN⟩:=text_of D[i].n;obtain⟨T,hT⟩:=text_of D[i].d;have zi:(i:Int)<(D.length:Int):=by omega
 have zi0:(0:Int)<=(i:Int):=by omega
 have CT:=printText_hid D D[i] hpar hfx H (by omega);have CKd:=kidsP_hid D D[i] hfx D[i].c rfl ihk;obtain⟨b0,hb0⟩:∃ b0,voidM D[i].n=b0:=⟨_,rfl⟩;have CEl:=elem_hid D D[i] hfx hprx D[i].c rfl ihk b0 hb0
 have hw4:wT ⟨4,[],D[i].d,[],false⟩<=100000:=by
  unfold wT;have h2:=hfx.2.1;simp[wA];omega
 have CCm:Hid (∀ W B Q sl,Low W->PrS W B Q sl H->Calls Tryz.prog 90 #[.pointer (some ⟨Q,0,none⟩),.agg #[.int .i64 4,.string ⟨#[]⟩,.string T,.slice none 0 0,.bool false]] W fun e w'=>e=.returned (.tuple #[])/\PrS w' B Q sl (H++([60,33,45,45]++D[i].d++[45,45,62]))/\Kp (Go.Proofs.YtlnfbjbagmfpiaaGreatDoor.wrB B Q) W w'):=Lib.hid (by
  have c:=(printToken_hid ⟨4,[],D[i].d,[],false⟩ hw4 H (by omega)).out;unfold tokV at c;rw[show strV (⟨4,[],D[i].d,[],false⟩:Tk).d=.string T from strV_of hT]at c;intro W B Q sl hl hp
  exact c W B Q sl _ hl hp (AtIn.nil _ none 0))
 have hWr:wrapM D i (innM D D[i].c D[i].c.length)=if D[i].k=3 then (if codeM D D[i].p then D[i].d else encT D[i].d) else if D[i].k=4 then [60,33,45,45]++D[i].d++[45,45,62] else if D[i].k=2 then startT ⟨2,D[i].n,[],D[i].a,false⟩++(if voidM D[i].n then [] else innM D D[i].c D[i].c.length++([60,47]++D[i].n++[62])) else innM D D[i].c D[i].c.length:=by
  unfold wrapM;rw[List.getElem?_eq_getElem hi]
 rw[hb0]at hWr;rw[hWr]at hQ
 have hk4:D[i].k=1\/D[i].k=2\/D[i].k=3\/D[i].k=4:=by
  unfold mayM at hm
  by_cases e1:D[i].k=1
  · exact .inl e1
  · by_cases e2:D[i].k=2
    · exact .inr (.inl e2)
    · rw[if_neg e1]at hm
      by_cases e3:D[i].k=3\/D[i].k=4
      · exact .inr (.inr e3)
      · rw[if_neg e3,if_neg e2]at hm
        cases hm
 unfold nodeV at CT CKd CEl;rw[strV_of hN,strV_of hT]at CT CKd CEl;rw[strV_of hN]at q1;rw[strV_of hT]at q2;have hc0:=h.p.c0;have al:=(Below.refl w.heap.size w).alloc (Nat.le_refl _) (.cells #[.int .i64 D[i].k,.string N,.string T,.slice aa D[i].a.length ac,.int .i64 D[i].p,.slice ka D[i].c.length kc,.bool D[i].b,.bool D[i].s] 39);have nb:=new_block w (.cells #[.int .i64 D[i].k,.string N,.string T,.slice aa D[i].a.length ac,.int .i64 D[i].p,.slice ka D[i].c.length kc,.bool D[i].b,.bool D[i].s] 39);have h1:=h.below al;have hdg:DocG (w.alloc (.cells #[.int .i64 D[i].k,.string N,.string T,.slice aa D[i].a.length ac,.int .i64 D[i].p,.slice ka D[i].c.length kc,.bool D[i].b,.bool D[i].s] 39)) (.slice (some ⟨Bn,off,none⟩) D.length c) D:=h1.d.below h1.b;have hlw:=h1.l.below h1.b;have HA:=Lib.hid (And.intro h1 (And.intro hdg (And.intro hlw (And.intro al (And.intro hat hkd)))));have HQ:=Lib.hid hQ;have HT:=Lib.hid hT;clear hm hkid hinn hQ ihk ha hk hat hkd hN hT hWr al h1 hdg hlw hd0 h ih hf hfx hprx hpr R hpar hw4 hb0;rcases hk4 with k1 | k1 | k1 | k1
 · have HP:Hid (printD D i=innM D D[i].c D[i].c.length):=Lib.hid (by rw[HQ.out,k1];simp)
   rw[HP.out]at hlen;rw[k1]at q0 nb HA CKd;generalize hw1:w.alloc _=w1 at nb HA;have n0:=cell_of nb 0;have n1:=cell_of nb 1;have n2:=cell_of nb 2;have n3:=cell_of nb 3;have n4:=cell_of nb 4;have n5:=cell_of nb 5;have n6:=cell_of nb 6;have n7:=cell_of nb 7
   have CKx:Hid (Calls Tryz.prog 88 #[.pointer (some ⟨Q,0,none⟩),.agg #[.int .i64 1,.string N,.string T,.slice aa D[i].a.length ac,.int .i64 D[i].p,.slice ka D[i].c.length kc,.bool D[i].b,.bool D[i].s]] w1 (PrE w0.heap.size Q (.slice (some ⟨Bn,off,none⟩) D.length c) (H++printD D i) w1)):=Lib.hid (by
    rw[HP.out]
    exact CKd.out w0 w1 _ Q H _ _ HA.out.1 HA.out.2.2.2.2.2 hlen)
   clear CT CEl CCm k1 nb CKd HQ HP hlen;generalize printD D i=Z at CKx ⊢;generalize D[i].p=xp at *;generalize D[i].b=xb at *;generalize D[i].s=xs at *
   go_enter Tryz.func58,Tryz.ntmps58
   go_wp2_with fail
   refine CKx.out.mono ?_;rintro e w3 ⟨rfl,h3,k3⟩;have HF:Hid (PrE w0.heap.size Q (.slice (some ⟨Bn,off,none⟩) D.length c) (H++Z) w (.returned (.tuple #[])) w3):=Lib.hid ⟨rfl,h3,(Kp.of_below HA.out.2.2.2.1).trans k3⟩;clear h3 k3
   go_wp2
   go_end0
   exact HF.out
 · have HP:Hid (printD D i=startT ⟨2,D[i].n,[],D[i].a,false⟩++if b0 then [] else innM D D[i].c D[i].c.length++([60,47]++D[i].n++[62])):=Lib.hid (by rw[HQ.out,k1];simp)
   rw[HP.out]at hlen;rw[k1]at q0 nb HA CEl;generalize hw1:w.alloc _=w1 at nb HA;have n0:=cell_of nb 0;have n1:=cell_of nb 1;have n2:=cell_of nb 2;have n3:=cell_of nb 3;have n4:=cell_of nb 4;have n5:=cell_of nb 5;have n6:=cell_of nb 6;have n7:=cell_of nb 7
   have CKx:Hid (Calls Tryz.prog 91 #[.pointer (some ⟨Q,0,none⟩),.agg #[.int .i64 2,.string N,.string T,.slice aa D[i].a.length ac,.int .i64 D[i].p,.slice ka D[i].c.length kc,.bool D[i].b,.bool D[i].s]] w1 (PrE w0.heap.size Q (.slice (some ⟨Bn,off,none⟩) D.length c) (H++printD D i) w1)):=Lib.hid (by
    rw[HP.out]
    exact CEl.out w0 w1 _ Q H _ _ HA.out.1 HA.out.2.2.2.2.1 HA.out.2.2.2.2.2 hlen)
   clear CT CEl CCm k1 nb CKd HQ HP hlen;generalize printD D i=Z at CKx ⊢;generalize D[i].p=xp at *;generalize D[i].b=xb at *;generalize D[i].s=xs at *
   go_enter Tryz.func58,Tryz.ntmps58
   go_wp2_with fail
   refine CKx.out.mono ?_;rintro e w3 ⟨rfl,h3,k3⟩;have HF:Hid (PrE w0.heap.size Q (.slice (some ⟨Bn,off,none⟩) D.length c) (H++Z) w (.returned (.tuple #[])) w3):=Lib.hid ⟨rfl,h3,(Kp.of_below HA.out.2.2.2.1).trans k3⟩;clear h3 k3
   go_wp2
   go_end0
   exact HF.out
 · have HP:Hid (printD D i=if codeM D D[i].p then D[i].d else encT D[i].d):=Lib.hid (by rw[HQ.out,k1];simp)
   rw[HP.out]at hlen;rw[k1]at q0 nb HA CT;generalize hw1:w.alloc _=w1 at nb HA;have n0:=cell_of nb 0;have n1:=cell_of nb 1;have n2:=cell_of nb 2;have n3:=cell_of nb 3;have n4:=cell_of nb 4;have n5:=cell_of nb 5;have n6:=cell_of nb 6;have n7:=cell_of nb 7
   have CKx:Hid (Calls Tryz.prog 89 #[.pointer (some ⟨Q,0,none⟩),.agg #[.int .i64 3,.string N,.string T,.slice aa D[i].a.length ac,.int .i64 D[i].p,.slice ka D[i].c.length kc,.bool D[i].b,.bool D[i].s]] w1 (PrE w0.heap.size Q (.slice (some ⟨Bn,off,none⟩) D.length c) (H++printD D i) w1)):=Lib.hid (by
    rw[HP.out]
    exact CT.out w1 _ Q _ _ _ HA.out.2.2.1 HA.out.1.p HA.out.2.1)
   clear CT CEl CCm k1 nb CKd HQ HP hlen;generalize printD D i=Z at CKx ⊢;generalize D[i].p=xp at *;generalize D[i].b=xb at *;generalize D[i].s=xs at *
   go_enter Tryz.func58,Tryz.ntmps58
   go_wp2_with fail
   refine CKx.out.mono ?_;rintro e w3 ⟨rfl,h3,k3⟩;have HF:Hid (PrE w0.heap.size Q (.slice (some ⟨Bn,off,none⟩) D.length c) (H++Z) w (.returned (.tuple #[])) w3):=Lib.hid ⟨rfl,h3,(Kp.of_below HA.out.2.2.2.1).trans k3⟩;clear h3 k3
   go_wp2
   go_end0
   exact HF.out
 · have HP:Hid (printD D i=[60,33,45,45]++D[i].d++[45,45,62]):=Lib.hid (by rw[HQ.out,k1];simp)
   rw[HP.out]at hlen;rw[k1]at q0 nb HA;generalize hw1:w.alloc _=w1 at nb HA;have n0:=cell_of nb 0;have n1:=cell_of nb 1;have n2:=cell_of nb 2;have n3:=cell_of nb 3;have n4:=cell_of nb 4;have n5:=cell_of nb 5;have n6:=cell_of nb 6;have n7:=cell_of nb 7
   have CKx:Hid (Calls Tryz.prog 90 #[.pointer (some ⟨Q,0,none⟩),.agg #[.int .i64 4,.string ⟨#[]⟩,.string T,.slice none 0 0,.bool false]] w1 (PrE w0.heap.size Q (.slice (some ⟨Bn,off,none⟩) D.length c) (H++printD D i) w1)):=Lib.hid (by
    rw[HP.out]
    exact CCm.out w1 _ Q _ HA.out.2.2.1 HA.out.1.p)
   clear CT CEl CCm k1 nb CKd HQ HP hlen;generalize printD D i=Z at CKx ⊢;generalize D[i].p=xp at *;generalize D[i].b=xb at *;generalize D[i].s=xs at *
   go_enter Tryz.func58,Tryz.ntmps58
   go_wp2_with fail
   refine CKx.out.mono ?_;rintro e w3 ⟨rfl,h3,k3⟩;have HF:Hid (PrE w0.heap.size Q (.slice (some ⟨Bn,off,none⟩) D.length c) (H++Z) w (.returned (.tuple #[])) w3):=Lib.hid ⟨rfl,h3,(Kp.of_below HA.out.2.2.2.1).trans k3⟩;clear h3 k3
   go_wp2
   go_end0
   exact HF.out
theorem printB_hid (D:List Nd)(hf:FitD D)(hpr:PrD D)(n:Int):Hid (∀ W sl,Low W->DocG W sl D->Calls Tryz.prog 27 #[.agg #[sl],.int .i64 n] W fun e w'=>e=.returned (strV (printR D n))/\Below W.heap.size W w'):=Lib.hid fun w sl hlow hd=>by
 obtain⟨a,c,rfl⟩:=hd.form;have CK:=gCheck hf;have hfl:=hf.1;have al:=(Below.refl w.heap.size w).alloc (Nat.le_refl _) (.cells #[.slice a D.length c] 24);have nb:=new_block w (.cells #[.slice a D.length c] 24);have H1:=Lib.hid (And.intro (hd.below al) (And.intro nb al));have e0:=cell_of nb 0;have HD:=Lib.hid (And.intro hd hlow);have HF:=Lib.hid hf;clear al nb hd hlow hf
 go_enter Tryz.func27,Tryz.ntmps27
 go_wp2_with fail
 (refine(CK.out _ _ H1.out.1).mono ?_)
 rintro e w3 ⟨rfl,b3⟩;have nb3:=(b3.block _ (lt_of_block H1.out.2.1)).trans H1.out.2.1;have H3:=Lib.hid (And.intro nb3 (H1.out.2.2.trans (b3.mono H1.out.2.2.size)));have e3:=cell_of nb3 0;clear b3 nb3 H1 e0 CK
 by_cases hc:checkM D=0
 case neg =>
  have g1:(checkM D != 0)=true:=by rw[bne_iff_ne];exact hc
  have HE:Hid (strV (printR D n)=.string ⟨#[]⟩):=Lib.hid (by unfold printR;rw[if_neg (fun h=>hc h.1)];rfl)
  go_wp2
  go_ret
  exact⟨by rw[HE.out];rfl,H3.out.2⟩
 have HR:=Lib.hid (check_right.1 hc);have CI:=isNodeB_any a D.length c n w3
 by_cases h1:0<=n/\n<(D.length:Int)
 case neg =>
  have hz:(decide (0<=n)&&decide (n<(D.length:Int)))=false:=by
   rw[Bool.and_eq_false_iff,decide_eq_false_iff_not,decide_eq_false_iff_not];omega
  rw[hz]at CI;have HE:Hid (strV (printR D n)=.string ⟨#[]⟩):=Lib.hid (by unfold printR;rw[if_neg (fun h=>h1 h.2)];rfl);rw[hc];clear h1 hz
  go_wp2_with fail
  refine CI.mono ?_;rintro e w4 ⟨rfl,hw4⟩;rw[hw4];clear hw4 CI
  go_wp2
  go_ret
  exact⟨by rw[HE.out];rfl,H3.out.2⟩
 rw[decide_eq_true h1.1,decide_eq_true h1.2]at CI;obtain⟨n,rfl⟩:∃ m:Nat,n=(m:Int):=⟨n.toNat,by omega⟩;have hn:n<D.length:=by omega
 have HE:Hid (printR D (n:Int)=printD D n):=Lib.hid (by unfold printR;rw[if_pos ⟨hc,h1.1,h1.2⟩,Int.toNat_natCast]);have CP:PrintQ D n:=HR.out.indDown (PrintQ D) (fun i hi ih=>print_step D HR.out HF.out hpr i hi ih) n hn;have hlen:=printD_len HF.out HR.out hn;rw[hc];replace CP:=Lib.hid CP
 go_wp2_with fail
 refine CI.mono ?_;rintro e w4 ⟨rfl,hw4⟩;rw[hw4];clear hw4 CI;have al5:=(Below.refl w3.heap.size w3).alloc (Nat.le_refl _) (.cells #[.slice a D.length c,.pointer none,.slice none 0 0] 102);have nb5:=new_block w3 (.cells #[.slice a D.length c,.pointer none,.slice none 0 0] 102);have P5:PrW D w3 (w3.alloc (.cells #[.slice a D.length c,.pointer none,.slice none 0 0] 102)) (.slice a D.length c) w3.heap.size []:=⟨HD.out.1.below H3.out.2,al5,HD.out.2.below H3.out.2,Nat.le_refl _,_,_,nb5,rfl,rfl,.inl rfl,World.ownsRow_nil _ _ _ _,fun _=>rfl⟩;have C5:=Lib.hid (CP.out w3 _ _ _ [] P5 (by simp;omega));have hsz:=H3.out.2.size;clear al5 nb5 P5 CP
 go_wp2_with fail
 refine C5.out.mono ?_;rintro e w6 ⟨rfl,⟨-,p6,v6,h6⟩,k6⟩;have C6:=Lib.hid (Go.Proofs.YtlnfbjbagmfpiaaGreatDoor.string_any w3.heap.size w3.heap.size 1 _ _ _ p6 v6 w6 h6);have hb6:Below w.heap.size w w6:=(H3.out.2.trans ((Below.refl w3.heap.size w3).alloc (Nat.le_refl _) (.cells #[.slice a D.length c,.pointer none,.slice none 0 0] 102) |>.mono hsz)).trans (wr_below k6 (Nat.le_refl _) (by simp) |>.mono hsz);have hs6:w3.heap.size<=w6.heap.size:=by have:=k6.size;simp at this;omega
 have H6:=Lib.hid hb6;clear h6 k6 hb6 C5
 go_wp2_with fail
 refine C6.out.mono ?_;rintro e w7 ⟨rfl,k7⟩;have HF7:Hid (Below w.heap.size w w7):=Lib.hid (H6.out.trans ((k7.below (B:=w3.heap.size) (fun _ _ e=>e.1) hs6).mono hsz));clear k7
 go_wp2
 go_ret
 exact⟨by rw[HE.out];rfl,HF7.out⟩
end Go.Proofs.YtlnfbjbagmfpiaaGreatDoor.Dm
namespace Go.Proofs.YtlnfbjbagmfpiaaGreatDoor.Dm
open Go.RowKit
theorem pageB_hid (l:List Tk)(hl:l.length<=100000)(ht:∀ t∈l,FitK t):Hid (∀ W lv,TksD W lv l->Calls Tryz.prog 22 #[lv] W (IntoE (pageM l) W)):=Lib.hid fun w lv htk=>by
 have CI:=intoB_hid newM fit_newM 0 l hl ht true;have HT:=Lib.hid htk;obtain⟨la,lc,rfl,-⟩:=(show ∃ a c,lv=.slice a l.length c/\True from by obtain⟨a,c,h,_⟩:=htk;exact⟨a,c,h,trivial⟩);have HP:Hid (pageM l=intoM newM 0 l true):=Lib.hid rfl;generalize pageM l=P at HP ⊢;clear htk;have al1:=(Below.refl w.heap.size w).alloc (Nat.le_refl _) (.cells #[.slice none 0 0] 24);have hb1:=new_block w (.cells #[.slice none 0 0] 24);have hs1:(w.alloc (.cells #[.slice none 0 0] 24)).heap.size=w.heap.size+1:=by simp
 go_enter Tryz.func22,Tryz.ntmps22
 go_wp2_with fail
 (refine(newP_hid.out _).mono ?_)
 rintro e w2 ⟨sl',rfl,o2,b2⟩
 obtain⟨na,nc,rfl⟩:∃ a c,sl'=.slice a newM.length c:=by
  obtain⟨A',K',h⟩:=o2;exact h.form
 have b1:=al1.trans (b2.mono (by omega));have hb2:=(b2.block _ (lt_of_block hb1)).trans hb1;have H2:=Lib.hid (And.intro o2.g (And.intro b1 hb2));clear al1 hb1 o2 b2 b1 hb2 hs1
 go_wp2_with fail
 (refine(CI.out _ _ _ H2.out.1 (HT.out.below H2.out.2.1)).mono ?_)
 rintro e w3 ⟨da,dc,fv,rfl,⟨A3,K3,o3⟩,f3,b3⟩;rw[<- HP.out]at o3 f3;rw[<- HP.out];obtain⟨fa,fc,rfl⟩:=row_form f3;have hres:=(b3.block _ (lt_of_block H2.out.2.2)).trans H2.out.2.2;have u2:=open_of hres 0;have v2:=cell_of hres 0;have q2:=heap_setCell_same w3 w.heap.size 0 _ _ _ (.slice da P.1.length dc) hres;have c9:(w3.setCell ⟨w.heap.size,0,none⟩ (.slice da P.1.length dc)).cell? ⟨w.heap.size,0,none⟩=some (.slice da P.1.length dc):=by rw[cell_of q2];rfl
 have HO:Hid (OwnX (w3.setCell ⟨w.heap.size,0,none⟩ (.slice da P.1.length dc)) w.heap.size (.slice da P.1.length dc) P.1/\(w3.setCell ⟨w.heap.size,0,none⟩ (.slice da P.1.length dc)).ownsRow w.heap.size 93 2 (.slice fa P.2.1.length fc) P.2.1.length (flD P.2.1)/\Below w.heap.size w (w3.setCell ⟨w.heap.size,0,none⟩ (.slice da P.1.length dc))):=Lib.hid (by
  have kS:Kp (fun j _=>j=w.heap.size) w3 (w3.setCell ⟨w.heap.size,0,none⟩ (.slice da P.1.length dc)):=Kp.of_set hres _ rfl;have hs:=H2.out.2.1.size
  exact⟨⟨_,_,(o3.setDoc hres).low hs⟩,row_low (kS.row f3 fun j hj _ e=>row_ne f3 hres (by decide) (by rw[hj];exact congrArg _ e)) hs,(H2.out.2.1.trans (b3.mono hs)).trans (kS.below (fun j t e=>by have e1:j=w.heap.size:=e;omega) (by have:=b3.size;omega))⟩)
 clear q2 o3 f3 b3 hres
 go_wp2
 exact bodyPost_ret (v := .tuple #[.agg #[.slice da P.1.length dc],.slice fa P.2.1.length fc,.int .i64 P.2.2]) (by simp[results,Tryz.results22,go_sem,c9]) rfl ⟨_,_,_,rfl,HO.out.1,HO.out.2.1,HO.out.2.2⟩
end Go.Proofs.YtlnfbjbagmfpiaaGreatDoor.Dm
