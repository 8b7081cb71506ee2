/- The document's rows. -/
import Derived.Test.YthnogdodlhkldaaGreatDoorChG
set_option maxRecDepth 100000
set_option maxHeartbeats 8000000
namespace Go.Proofs.YthnogdodlhkldaaGreatDoor
open Go.RowKit
def rqF:Rq:=dP 1 ⟨#[102,40,41]⟩ false ⟨#[]⟩ ⟨#[]⟩ 0 ⟨#[]⟩ ⟨#[]⟩ false ⟨#[]⟩ false false ⟨#[]⟩ ⟨#[]⟩ 0 ⟨#[]⟩ ⟨#[]⟩
theorem lG {ps:List (List D × Bool)}(h:∀ p∈ps,p.1.length<=1000/\∀ d∈p.1,d.w.length<=1000/\∀ x∈d.w,x.length<=1000):∀ p∈ps,eX p.1:=fun p hp=>by
 obtain⟨h1,h2⟩:=h p hp;exact⟨by omega,fun d hd=>⟨by have:=(h2 d hd).1;omega,fun x hx=>by have:=(h2 d hd).2 x hx;omega⟩⟩
theorem bO.off {w w':World}{lo:Nat}{ob ob2:Option Nat}{u:Value}{ts:List (List UInt8)}(h:bO w lo ob2 u ts)(hg:w.grownBy w' ob)(ho:∀ k,ob=some k->k<lo):aR w' u ts:=by
 rcases h with h | ⟨B,off,cap,h1,h2,h3,h4⟩
 · exact .inl h
 · exact .inr ⟨B,off,cap,h1,fun j hj=>hg.cell (h4 j hj) (fun e=>by have:=ho B e.symm;omega)⟩
theorem eY.off {w w':World}{lo:Nat}{ob ob2:Option Nat}{v:Value}{ds:List D}(h:eY w lo ob2 v ds)(hg:w.grownBy w' ob)(ho:∀ k,ob=some k->k<lo):aU w' v ds:=by
 rcases h with h | ⟨B,off,cap,h1,h2,h3,h4⟩
 · exact .inl h
 · refine .inr ⟨B,off,cap,h1,fun j hj => ?_⟩
   obtain⟨k1,u,k2,k3⟩:=h4 j hj;have hB:some B≠ob:=fun e=>by have:=ho B e.symm;omega
   exact⟨hg.cell k1 hB,u,hg.cell k2 hB,k3.off hg ho⟩
theorem jP.off {w w':World}{lo:Nat}{ob ob2:Option Nat}{ps:List (List D × Bool)}{cs:List Value}(h:jP w lo ob2 ps cs)(hg:w.grownBy w' ob)(ho:∀ k,ob=some k->k<lo):sW w' ps cs :=
 ⟨h.1,fun j hj=>by obtain⟨u,k1,k2,k3⟩:=h.2 j hj;exact⟨u,k1,k2,k3.off hg ho⟩⟩
theorem jP.cs {w:World}{lo:Nat}{ob:Option Nat}{ps:List (List D × Bool)}{cs:List Value}(h:jP w lo ob ps cs):sW w ps cs :=
 ⟨h.1,fun j hj=>by obtain⟨u,k1,k2,k3⟩:=h.2 j hj;exact⟨u,k1,k2,k3.in⟩⟩
theorem gQ.row {w:World}{base:Nat}{v:Value}{ps:List (List D × Bool)}(h:gQ w base v ps):∃ cs,w.ownsRow base 24 2 v ps.length cs/\jP w base v.ownBlock ps cs/\PolRow w v ps.length cs:=by
 obtain⟨cs,h1,h2⟩:=h;refine⟨cs,h1,h2,h2.1,fun v hv => ?_,?_⟩
 · obtain⟨i,hi,rfl⟩:=List.getElem_of_mem hv
   have hl:=h2.1;obtain⟨u,k1,k2,k3⟩:=h2.2 (i / 2) (by omega);rcases Nat.mod_two_eq_zero_or_one i with e | e
   · rw[show i / 2 * 2=i by omega,List.getElem?_eq_getElem hi]at k1
     rw[Option.some.inj k1];obtain⟨a,c,rfl⟩:=k3.in.form;rfl
   · rw[show i / 2 * 2+1=i by omega,List.getElem?_eq_getElem hi]at k2
     rw[Option.some.inj k2];rfl
 · rcases h1.2 with ⟨e1,e2⟩ | ⟨g,cap,cur,hv,hg,hh,_⟩
   · exact .inl ⟨⟨none,0,e1⟩,e2⟩
   · refine .inr ⟨g,0,cap,hv,fun j v hj => ?_⟩
     have hj2:=(List.getElem?_eq_some_iff.1 hj).1;subst hv;rw[Nat.zero_add,h1.cellAt j (by have:=h2.1;omega)];exact hj
theorem kX (T:ByteArray)(hT:T.size<=100000)(r:Bool)(ps:List (List D × Bool))(hps:gG r T.data.toList=ps):Hid (∀ W,dZ W->Calls Tryz.prog 40 #[.string T,.bool r] W fun e w'=>∃ v,e=.returned v/\gQ w' W.heap.size v ps/\Below W.heap.size W w'):=zH fun W hW=>by
 have:=bC5 T (by omega) r W hW.m;rw[hps]at this;exact this
theorem pD (ps:List (List D × Bool))(hl:ps.length<=1000)(hf:∀ p∈ps,eX p.1)(rk:Int)(rt:ByteArray)(o:Bool)(s2 h2:ByteArray)(p:Int)(pa2 q2:ByteArray)(mv:Bool)(rn:ByteArray)(pr:Bool)(o3:Bool)(s3 h3:ByteArray)(p3:Int)(pa3 q3:ByteArray)(zt:rt.size<=100000)(su1:s2.size<=100000)(su2:h2.size<=100000)(su3:pa2.size<=100000)(su4:q2.size<=100000)(sv1:s3.size<=100000)(sv2:h3.size<=100000)(sv3:pa3.size<=100000)(sv4:q3.size<=100000)(b:Bool)(hb:rV ps (dP rk rt o s2 h2 p pa2 q2 mv rn pr o3 s3 h3 p3 pa3 q3)=b)(bs:List Brk)(hbs:bE ps (dP rk rt o s2 h2 p pa2 q2 mv rn pr o3 s3 h3 p3 pa3 q3)=bs):Hid (∀ W pv,dZ W->bM W pv ps->Calls Tryz.prog 25 #[pv,bN rk rt o s2 h2 p pa2 q2 mv rn pr o3 s3 h3 p3 pa3 q3] W fun e w'=>∃ ua uc,e=.returned (.agg #[.bool b,.slice ua bs.length uc])/\dI w' (.slice ua bs.length uc) bs/\Below W.heap.size W w'):=zH fun W pv h1_ h2_=>by
 refine(bI7 ps hl hf pv rk rt o s2 h2 p pa2 q2 mv rn pr o3 s3 h3 p3 pa3 q3 zt su1 su2 su3 su4 sv1 sv2 sv3 sv4 W h1_ h2_).mono ?_;rintro e w' ⟨u,he,ho,hbw⟩;rw[hb]at he;rw[hbs]at ho;have hi:=dI.of_row ho;obtain⟨ua,uc,rfl⟩:=hi.form;exact⟨ua,uc,he,hi,hbw⟩
theorem aI5 (T:ByteArray)(hT:T.size<=100000)(ps:List (List D × Bool))(hps:gG false T.data.toList=ps)(hl:ps.length<=1000)(hf:∀ p∈ps,eX p.1)(b:Bool)(hb:rV ps rqF=b)(w:World)(hw:dZ w):Calls Tryz.prog 41 #[.string T] w fun e w'=>∃ ua n uc,e=.returned (.agg #[.bool b,.slice ua n uc])/\Below w.heap.size w w':=by
 have CP:=kX T hT false ps hps;have CA:=pD ps hl hf 1 ⟨#[102,40,41]⟩ false ⟨#[]⟩ ⟨#[]⟩ 0 ⟨#[]⟩ ⟨#[]⟩ false ⟨#[]⟩ false false ⟨#[]⟩ ⟨#[]⟩ 0 ⟨#[]⟩ ⟨#[]⟩ (by decide) (by decide) (by decide) (by decide) (by decide) (by decide) (by decide) (by decide) (by decide) b hb (bE ps rqF) rfl;generalize bE ps rqF=bs at CA;have z1:=dH.made w false (.slice none 0 0);unfold bN at CA
 go_enter Tryz.func41,Tryz.ntmps41
 go_wp2_with fail
 have xn:=dH.made w false (.slice none 0 0);have gw1:=hw.made (.cells #[.bool false,(.slice none 0 0)] 50);have Bw1:Below w.heap.size w (w.alloc (.cells #[.bool false,(.slice none 0 0)] 50)):=((zB w.heap.size w).alloc (zL _) (.cells #[.bool false,(.slice none 0 0)] 50));generalize hR:w.heap.size=Ra at xn Bw1 ⊢;have HR:=zH hR;clear hR;generalize w.alloc (.cells #[.bool false,(.slice none 0 0)] 50)=w1 at xn gw1 Bw1 ⊢;have xRa_w1:=xn;clear xn hw;clear z1;refine(CP.out _ gw1).mono ?_;rintro e w2 ⟨v,rfl,pv,b_⟩;have PV:=zH pv.in;clear pv;obtain⟨va,vc,rfl⟩:=PV.out.form;have gw2:=gw1.below b_;have Bw2:=Bw1.trans (b_.mono (zT xRa_w1.lt));have xRa_w2:=xRa_w1.below b_;clear b_ gw1 Bw1 xRa_w1
 go_wp2_with fail
 refine(CA.out _ _ gw2 PV.out).mono ?_;rintro e w3 ⟨ua,uc,rfl,_,b_⟩;have gw3:=gw2.below b_;have Bw3:=Bw2.trans (b_.mono (zT xRa_w2.lt));have xRa_w3:=xRa_w2.below b_;clear b_ gw2 Bw2 xRa_w2;have c0:=xRa_w3.c0;have c1:=xRa_w3.c1;have f0:=aB xRa_w3 0;have f1:=aB xRa_w3 1;have zf:=(xRa_w3.set0 b).set1 (.slice ua bs.length uc);have Bf:=(Bw3.setCell (p:=⟨Ra,0,none⟩) (zL _) (.bool b)).setCell (p:=⟨Ra,1,none⟩) (zL _) (.slice ua bs.length uc);clear CP CA PV
 go_wp2
 clear c0 c1 f0 f1;generalize(w3.setCell ⟨Ra,0,none⟩ (.bool b)).setCell ⟨Ra,1,none⟩ (.slice ua bs.length uc)=wz at zf Bf ⊢;have c0:=zf.c0;have c1:=zf.c1;exact bodyPost_ret (v := .agg #[.bool b,.slice ua bs.length uc]) (by simp[results,Tryz.results41,go_sem,c0,c1]) rfl ⟨_,_,_,rfl,by rw[HR.out];exact Bf⟩
theorem jS (T:ByteArray)(hT:T.size<=100000)(ps:List (List D × Bool))(hps:gG false T.data.toList=ps)(hl:ps.length<=1000)(hf:∀ p∈ps,eX p.1)(b:Bool)(hb:rV ps rqF=b):Hid (∀ W,dZ W->Calls Tryz.prog 41 #[.string T] W fun e w'=>∃ ua n uc,e=.returned (.agg #[.bool b,.slice ua n uc])/\Below W.heap.size W w'):=zH fun W hw=>aI5 T hT ps hps hl hf b hb W hw
def pR0:List (List D × Bool):=[]
theorem pR0_is:gG false []=pR0:=by decide +kernel
theorem pR0_ok:rV pR0 rqF=true:=by decide +kernel
theorem pR0_fit:∀ p∈pR0,eX p.1:=lG (by decide)
def pR1:List (List D × Bool):=[([⟨[105,109,103,45,115,114,99],[[39,110,111,110,101,39]]⟩],false)]
theorem pR1_is:gG false [105,109,103,45,115,114,99,32,39,110,111,110,101,39]=pR1:=by decide +kernel
theorem pR1_ok:rV pR1 rqF=true:=by decide +kernel
theorem pR1_fit:∀ p∈pR1,eX p.1:=lG (by decide)
def pR2:List (List D × Bool):=[([⟨[100,101,102,97,117,108,116,45,115,114,99],[[39,117,110,115,97,102,101,45,105,110,108,105,110,101,39]]⟩],false)]
theorem pR2_is:gG false [100,101,102,97,117,108,116,45,115,114,99,32,39,117,110,115,97,102,101,45,105,110,108,105,110,101,39]=pR2:=by decide +kernel
theorem pR2_ok:rV pR2 rqF=true:=by decide +kernel
theorem pR2_fit:∀ p∈pR2,eX p.1:=lG (by decide)
def pR3:List (List D × Bool):=[([⟨[115,99,114,105,112,116,45,115,114,99],[[39,110,111,110,101,39]]⟩,⟨[115,99,114,105,112,116,45,115,114,99,45,101,108,101,109],[[39,117,110,115,97,102,101,45,105,110,108,105,110,101,39]]⟩],false)]
theorem pR3_is:gG false [115,99,114,105,112,116,45,115,114,99,32,39,110,111,110,101,39,59,32,115,99,114,105,112,116,45,115,114,99,45,101,108,101,109,32,39,117,110,115,97,102,101,45,105,110,108,105,110,101,39]=pR3:=by decide +kernel
theorem pR3_ok:rV pR3 rqF=true:=by decide +kernel
theorem pR3_fit:∀ p∈pR3,eX p.1:=lG (by decide)
def pA1:List D × Bool:=([⟨[100,101,102,97,117,108,116,45,115,114,99],[[39,115,101,108,102,39]]⟩],false)
def pA2:List D × Bool:=([⟨[115,99,114,105,112,116,45,115,114,99],[[39,110,111,110,101,39]]⟩],true)
theorem pA1_is:gG false [100,101,102,97,117,108,116,45,115,114,99,32,39,115,101,108,102,39]=[pA1]:=by decide +kernel
theorem pA2_is:gG true [115,99,114,105,112,116,45,115,114,99,32,39,110,111,110,101,39]=[pA2]:=by decide +kernel
def bA:List Brk:=[⟨0,cR,false⟩,⟨1,bZ,true⟩]
theorem pA_bs:bE [pA1,pA2] rqF=bA:=by decide +kernel
theorem pA_ok:rV [pA1,pA2] rqF=false:=by decide +kernel
theorem pA_fit:∀ p∈[pA1,pA2],eX p.1:=lG (by decide)
theorem aR4 (w:World)(hw:dZ w):Calls Tryz.prog 15 #[] w fun e w'=>e=.returned (.bool true)/\Below w.heap.size w w':=by
 have C1:=kX ⟨#[100,101,102,97,117,108,116,45,115,114,99,32,39,115,101,108,102,39]⟩ (by decide) false [pA1] pA1_is;have C2:=kX ⟨#[115,99,114,105,112,116,45,115,114,99,32,39,110,111,110,101,39]⟩ (by decide) true [pA2] pA2_is;have CA:=pD [pA1,pA2] (by decide) pA_fit 1 ⟨#[102,40,41]⟩ false ⟨#[]⟩ ⟨#[]⟩ 0 ⟨#[]⟩ ⟨#[]⟩ false ⟨#[]⟩ false false ⟨#[]⟩ ⟨#[]⟩ 0 ⟨#[]⟩ ⟨#[]⟩ (by decide) (by decide) (by decide) (by decide) (by decide) (by decide) (by decide) (by decide) (by decide) false pA_ok bA pA_bs;have hbl:bA.length=2:=rfl;rw[hbl]at CA;unfold bN at CA;have S0:=jS ⟨#[]⟩ (by decide) pR0 pR0_is (by decide) pR0_fit true pR0_ok;have S1:=jS ⟨#[105,109,103,45,115,114,99,32,39,110,111,110,101,39]⟩ (by decide) pR1 pR1_is (by decide) pR1_fit true pR1_ok;have S2:=jS ⟨#[100,101,102,97,117,108,116,45,115,114,99,32,39,117,110,115,97,102,101,45,105,110,108,105,110,101,39]⟩ (by decide) pR2 pR2_is (by decide) pR2_fit true pR2_ok;have S3:=jS ⟨#[115,99,114,105,112,116,45,115,114,99,32,39,110,111,110,101,39,59,32,115,99,114,105,112,116,45,115,114,99,45,101,108,101,109,32,39,117,110,115,97,102,101,45,105,110,108,105,110,101,39]⟩ (by decide) pR3 pR3_is (by decide) pR3_fit true pR3_ok;have hfd:∀(b:Bool) (a:Option Addr) (n c:Nat) (w:World),(Instr.field 50 (.agg #[.bool b,.slice a n c]) 0).run Tryz.prog w=.ok (.bool b) w:=fun _ _ _ _ _=>by kernel_rfl
 have CN:=fun W=>vJ W;have HN:=zH CN;clear CN hbl
 go_enter Tryz.func15,Tryz.ntmps15
 go_wp2_with fail
 have HG0:=zH hw;refine(C1.out _ hw).mono ?_;rintro e w1 ⟨v1,rfl,pv1,b_⟩;obtain⟨a1,c1,rfl⟩:=pv1.in.form;have gw1:=hw.below b_;have Bw1:=b_;clear b_ hw
 go_wp2_with fail
 have HP1:=zH pv1;have HLT:=zH (fun k hk=>by obtain⟨cs,h_,_⟩:=HP1.out;exact(h_.lt k hk).2:∀ k,(Value.slice a1 1 c1).ownBlock=some k->k<w1.heap.size);clear pv1;refine(C2.out _ gw1).mono ?_;rintro e w2 ⟨v2,rfl,pv2,b_⟩;obtain⟨a2,c2,rfl⟩:=pv2.in.form;have HP1b:=zH (HP1.out.below b_);clear HP1;have gw2:=gw1.below b_;have Bw2:=Bw1.trans (b_.mono Bw1.size);clear b_ gw1 Bw1;obtain⟨cs1,o1,r1,_⟩:=HP1b.out.row;obtain⟨cs2,_,r2,q2⟩:=pv2.row;have HO1:=zH o1;have HR1:=zH r1;have HR2:=zH r2;have HQ2:=zH q2;have hlt:=zH (HP1b.out);have hs0:w.heap.size<=w2.heap.size:=Bw2.size;have HB2:=zH Bw2;have HG2:=zH gw2;clear o1 r1 r2 q2 pv2 hlt Bw2 gw2
 go_wp2_with (at_builtin;refine mX rfl _ _ rfl w.heap.size _ 1 _ rfl HO1.out _ 1 _ rfl HQ2.out (by decide) hs0 ?_;intro v3 w3 hown3 hgr3 _
              have hlo:∀ k,(Value.slice a1 1 c1).ownBlock=some k->k<w1.heap.size:=fun k hk=>HLT.out k hk;have p3:bM w3 v3 [pA1,pA2]:=bM.of_cells hown3 ((HR1.out.step hgr3 (.inl rfl)).cs.app (HR2.out.off hgr3 hlo));have b3:Below w.heap.size w w3:=Below.grown HB2.out hgr3 hs0 (fun k hk=>(HO1.out.lt k hk).1);have X3:Aside (bM w3 v3 [pA1,pA2]/\Below w.heap.size w w3):=⟨p3,b3⟩;clear hown3 hgr3 hlo p3 b3
              obtain⟨a3,c3,rfl⟩:=X3.out.1.form)
 have gw3:=HG0.out.below X3.out.2;have Bw3:=X3.out.2;have HP3:=zH X3.out.1;clear X3 HG0 HG2 HB2 HO1 HR1 HR2 HQ2 HLT HP1b C1 C2 hs0;refine(CA.out _ _ gw3 HP3.out).mono ?_;rintro e w4 ⟨u4,d4,rfl,hb4,b_⟩;have gw4:=gw3.below b_;have Bw4:=Bw3.trans (b_.mono Bw3.size);clear b_ gw3 Bw3
 go_wp2_with fail
 have hbw:Below w4.heap.size w4 (((w4.alloc (.cells #[.bool false,.slice u4 2 d4] 50)).alloc (.cells #[.int .i64 0,.string ⟨#[100,101,102,97,117,108,116,45,115,114,99]⟩,.bool false,.int .i64 1,.string ⟨#[115,99,114,105,112,116,45,115,114,99]⟩,.bool true] 54)).alloc (.cells #[.bool false,.slice (some ⟨w4.heap.size+1,0,none⟩) 2 2] 50)):=(((zB _ _).alloc (zL _) _).alloc (by simp) _).alloc (by simp;omega) _;have x1:dH (((w4.alloc (.cells #[.bool false,.slice u4 2 d4] 50)).alloc (.cells #[.int .i64 0,.string ⟨#[100,101,102,97,117,108,116,45,115,114,99]⟩,.bool false,.int .i64 1,.string ⟨#[115,99,114,105,112,116,45,115,114,99]⟩,.bool true] 54)).alloc (.cells #[.bool false,.slice (some ⟨w4.heap.size+1,0,none⟩) 2 2] 50)) w4.heap.size false (.slice u4 2 d4):=(dH.made w4 false (.slice u4 2 d4)).below (((zB _ _).alloc (zL _) _).alloc (by simp) _)
 have n1:dI (((w4.alloc (.cells #[.bool false,.slice u4 2 d4] 50)).alloc (.cells #[.int .i64 0,.string ⟨#[100,101,102,97,117,108,116,45,115,114,99]⟩,.bool false,.int .i64 1,.string ⟨#[115,99,114,105,112,116,45,115,114,99]⟩,.bool true] 54)).alloc (.cells #[.bool false,.slice (some ⟨w4.heap.size+1,0,none⟩) 2 2] 50)) (.slice (some ⟨w4.heap.size+1,0,none⟩) 2 2) bA:=by
  have e:=dI.new (w4.alloc (.cells #[.bool false,.slice u4 2 d4] 50)) bA _ rfl 2 rfl 2;rw[World.size_alloc]at e;exact e.below ((zB _ _).alloc (zL _) _)
 have x2:dH (((w4.alloc (.cells #[.bool false,.slice u4 2 d4] 50)).alloc (.cells #[.int .i64 0,.string ⟨#[100,101,102,97,117,108,116,45,115,114,99]⟩,.bool false,.int .i64 1,.string ⟨#[115,99,114,105,112,116,45,115,114,99]⟩,.bool true] 54)).alloc (.cells #[.bool false,.slice (some ⟨w4.heap.size+1,0,none⟩) 2 2] 50)) (w4.heap.size+2) false (.slice (some ⟨w4.heap.size+1,0,none⟩) 2 2):=by
  have e:=dH.made ((w4.alloc (.cells #[.bool false,.slice u4 2 d4] 50)).alloc (.cells #[.int .i64 0,.string ⟨#[100,101,102,97,117,108,116,45,115,114,99]⟩,.bool false,.int .i64 1,.string ⟨#[115,99,114,105,112,116,45,115,114,99]⟩,.bool true] 54)) false (.slice (some ⟨w4.heap.size+1,0,none⟩) 2 2);rw[World.size_alloc,World.size_alloc]at e;exact e
 have y9:=hb4.below hbw;have g9:=gw4.below hbw;have B9:=Bw4.trans (hbw.mono Bw4.size);clear hbw hb4 gw4 Bw4;generalize(((w4.alloc (.cells #[.bool false,.slice u4 2 d4] 50)).alloc (.cells #[.int .i64 0,.string ⟨#[100,101,102,97,117,108,116,45,115,114,99]⟩,.bool false,.int .i64 1,.string ⟨#[115,99,114,105,112,116,45,115,114,99]⟩,.bool true] 54)).alloc (.cells #[.bool false,.slice (some ⟨w4.heap.size+1,0,none⟩) 2 2] 50))=w9 at x1 n1 x2 y9 g9 B9 ⊢;generalize w4.heap.size=Ra at x1 n1 x2 ⊢;obtain⟨Rb,hRb⟩:∃ Rb,Ra+2=Rb:=⟨_,rfl⟩;rw[hRb]at x2
 try rw[hRb]
 clear hRb;have xRa_w9:=x1;have xRb_w9:=x2;clear x1 x2;refine(S0.out _ g9).mono ?_;rintro e w10 ⟨sa0,sn0,sc0,rfl,b_⟩;have gw10:=g9.below b_;have yw10:=y9.below b_;have zw10:=n1.below b_;have Bw10:=B9.trans (b_.mono B9.size);have xRa_w10:=xRa_w9.below b_;have xRb_w10:=xRb_w9.below b_;clear b_ g9 y9 n1 B9 xRa_w9 xRb_w9
 go_wp2_with fail
 refine(S1.out _ gw10).mono ?_;rintro e w11 ⟨sa1,sn1,sc1,rfl,b_⟩;have gw11:=gw10.below b_;have yw11:=yw10.below b_;have zw11:=zw10.below b_;have Bw11:=Bw10.trans (b_.mono Bw10.size);have xRa_w11:=xRa_w10.below b_;have xRb_w11:=xRb_w10.below b_;clear b_ gw10 yw10 zw10 Bw10 xRa_w10 xRb_w10
 go_wp2_with fail
 refine(S2.out _ gw11).mono ?_;rintro e w12 ⟨sa2,sn2,sc2,rfl,b_⟩;have gw12:=gw11.below b_;have yw12:=yw11.below b_;have zw12:=zw11.below b_;have Bw12:=Bw11.trans (b_.mono Bw11.size);have xRa_w12:=xRa_w11.below b_;have xRb_w12:=xRb_w11.below b_;clear b_ gw11 yw11 zw11 Bw11 xRa_w11 xRb_w11
 go_wp2_with fail
 refine(S3.out _ gw12).mono ?_;rintro e w13 ⟨sa3,sn3,sc3,rfl,b_⟩;have gw13:=gw12.below b_;have yw13:=yw12.below b_;have zw13:=zw12.below b_;have Bw13:=Bw12.trans (b_.mono Bw12.size);have xRa_w13:=xRa_w12.below b_;have xRb_w13:=xRb_w12.below b_;clear b_ gw12 yw12 zw12 Bw12 xRa_w12 xRb_w12;have dRa0:=xRa_w13.c0;have dRa1:=xRa_w13.c1;have dRb0:=xRb_w13.c0;have dRb1:=xRb_w13.c1
 go_wp2_with fail
 clear dRa0 dRa1 dRb0 dRb1;have SM:=nH false bA (.slice u4 2 d4) (.slice (some ⟨Ra+1,0,none⟩) 2 2) (by decide);refine(SM.out _ yw13 zw13).mono ?_;rintro e w14 ⟨rfl,b_⟩;have gw14:=gw13.below b_;have yw14:=yw13.below b_;have zw14:=zw13.below b_;have Bw14:=Bw13.trans (b_.mono Bw13.size);have xRa_w14:=xRa_w13.below b_;have xRb_w14:=xRb_w13.below b_;clear b_ gw13 yw13 zw13 Bw13 xRa_w13 xRb_w13
 go_wp2_with fail
 have HB:=zH Bw14;refine(HN.out _).mono ?_;rintro e w8 ⟨u8,rfl,own8,b8⟩;obtain⟨a8,c8,rfl⟩:=(aR.of_row (p:=[kL,bZ,cR]) own8).form;have h3:([kL,bZ,cR]:List (List UInt8)).length=3:=rfl;rw[h3];have HF:=zH (HB.out.trans (b8.mono HB.out.size));clear own8 b8 h3
 go_wp2
 go_ret
 exact⟨rfl,HF.out⟩
theorem kF:Hid (∀ W,dZ W->Calls Tryz.prog 15 #[] W fun e w'=>e=.returned (.bool true)/\Below W.heap.size W w'):=zH fun W hw=>aR4 W hw
end Go.Proofs.YthnogdodlhkldaaGreatDoor
