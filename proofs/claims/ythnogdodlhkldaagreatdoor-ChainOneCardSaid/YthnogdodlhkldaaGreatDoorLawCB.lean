/- What a policy says of a request: the law. -/
import Derived.Test.YthnogdodlhkldaaGreatDoorRcC
set_option maxRecDepth 100000
set_option maxHeartbeats 8000000
namespace Go.Proofs.YthnogdodlhkldaaGreatDoor
open Go.RowKit
theorem one_law (ds:List D)(da:Option Addr)(dc:Nat)(rp:Bool)(ha2:Arg8 [(ds,rp)])(rk:Int)(rt:ByteArray)(o:Bool)(s2 h2:ByteArray)(p:Int)(pa2 q2:ByteArray)(mv:Bool)(rn:ByteArray)(pr:Bool)(o3:Bool)(s3 h3:ByteArray)(p3:Int)(pa3 q3:ByteArray)(w:World)(hw:eC w)(hd:aU w (.slice da ds.length dc) ds):Calls Tryz.prog 4 #[dW (.slice da ds.length dc) rp,bM rk rt o s2 h2 p pa2 q2 mv rn pr o3 s3 h3 p3 pa3 q3] w fun e w'=>e=.returned (.bool true)/\Below w.heap.size w w':=by
 have AR:=mM;have LG:Hid (∀ W R,PX W R (.slice da ds.length dc) rp->aU W (.slice da ds.length dc) ds->Calls Tryz.prog 21 #[.slice (some ⟨R,0,none⟩) 1 1,bM rk rt o s2 h2 p pa2 q2 mv rn pr o3 s3 h3 p3 pa3 q3] W fun e w'=>∃ b,e=.returned (.bool b)/\Below W.heap.size W w'/\(b=false->FitsP [(ds,rp)]/\kI rt s2 h2 pa2 q2 rn s3 h3 pa3 q3)):=zH fun W R k1_ k2_=>pZ [(ds,rp)] _ ha2 rk rt o s2 h2 p pa2 q2 mv rn pr o3 s3 h3 p3 pa3 q3 W (k1_.row k2_)
 have CE0:Hid (eY ds->kI rt s2 h2 pa2 q2 rn s3 h3 pa3 q3->∃(b:Bool) (N:ByteArray),(∀ W dv,eC W->aU W dv ds->Calls Tryz.prog 22 #[dW dv rp,bM rk rt o s2 h2 p pa2 q2 mv rn pr o3 s3 h3 p3 pa3 q3] W fun e w'=>e=.returned (.tuple #[.bool b,.string N])/\Below W.heap.size W w')/\(∀ W dv,eC W->aU W dv ds->Calls Tryz.prog 23 #[dW dv rp,bM rk rt o s2 h2 p pa2 q2 mv rn pr o3 s3 h3 p3 pa3 q3] W fun e w'=>e=.returned (.tuple #[.bool b,.string N])/\Below W.heap.size W w')):=zH fun hf_ hr_=>by
  obtain⟨z1,_,⟨c1,c2,c3,c4⟩,⟨e1,e2,e3,e4⟩⟩:=hr_;obtain⟨b,hb⟩:∃ b,(fO ds (dT rk rt o s2 h2 p pa2 q2 mv rn pr o3 s3 h3 p3 pa3 q3)).1=b:=⟨_,rfl⟩;obtain⟨N,hN⟩:=aO (fO ds (dT rk rt o s2 h2 p pa2 q2 mv rn pr o3 s3 h3 p3 pa3 q3)).2;refine⟨b,N,fun W dv k1_ k2_=>(oU ds dv rp rk rt o s2 h2 p pa2 q2 mv rn pr o3 s3 h3 p3 pa3 q3 (by omega) (by omega) (by omega) (by omega) (by omega) (by omega) (by omega) (by omega) (by omega) hf_ W k1_ k2_).mono ?_,fun W dv k1_ k2_=>(oI ds dv rp rk rt o s2 h2 p pa2 q2 mv rn pr o3 s3 h3 p3 pa3 q3 (by omega) (by omega) (by omega) (by omega) (by omega) (by omega) (by omega) (by omega) (by omega) hf_ W k1_ k2_).mono ?_⟩
  all_goals
   rintro e w' ⟨b',M,rfl,k_,hb_⟩;rw[k_]at hb hN;obtain rfl:b'=b:=hb;obtain rfl:N=M:=by rw[aM hN]
   exact⟨rfl,hb_⟩
 have CO0:Hid (eY ds->∀ W,aU W (.slice da ds.length dc) ds->Calls Tryz.prog 12 #[.agg #[(.slice da ds.length dc),.bool rp]] W fun e w'=>∃ oa oc,e=.returned (.agg #[.slice oa ds.length oc,.bool rp])/\aU w' (.slice oa ds.length oc) ds/\Below W.heap.size W w'):=zH fun hf W k1_=>(pN ds (.slice da ds.length dc) rp W k1_ hf.1 (fun d hd=>(hf.2 d hd).1)).mono fun e w' ⟨v,h1,h2,h3⟩=>by
  have h4:=h2.in;obtain⟨oa,oc,rfl⟩:=h4.form;exact⟨oa,oc,h1,h4,h3⟩
 have CS0:Hid (eY ds->∀ W u v,aU W u ds->aU W v ds->Calls Tryz.prog 20 #[.agg #[u,.bool rp],.agg #[v,.bool rp]] W fun e w'=>e=.returned (.bool true)/\Below W.heap.size W w'):=zH fun hf=>(jO ds ds rp rp true (by simp) hf.1 (fun d hd=>(hf.2 d hd).1) (fun d hd=>(hf.2 d hd).1)).out;unfold dW bM at *
 go_enter Tryz.func4,Tryz.ntmps4
 go_wp2_with fail
 obtain⟨x1,z1,x3,BB⟩:=uI w (.slice da ds.length dc) rp rk rt o s2 h2 p pa2 q2 mv rn pr o3 s3 h3 p3 pa3 q3;have gB:=((hw.made (.cells #[(.slice da ds.length dc),.bool rp] 24)).made (.cells #[.int .i64 rk,.string rt,.bool o,.string s2,.string h2,.int .i64 p,.string pa2,.string q2,.bool mv,.string rn,.bool pr,.bool o3,.string s3,.string h3,.int .i64 p3,.string pa3,.string q3] 42)).made (.cells #[(.slice da ds.length dc),.bool rp] 24);have dB:=((hd.made (.cells #[(.slice da ds.length dc),.bool rp] 24)).made (.cells #[.int .i64 rk,.string rt,.bool o,.string s2,.string h2,.int .i64 p,.string pa2,.string q2,.bool mv,.string rn,.bool pr,.bool o3,.string s3,.string h3,.int .i64 p3,.string pa3,.string q3] 42)).made (.cells #[(.slice da ds.length dc),.bool rp] 24);clear hw hd;generalize hR:w.heap.size=Ra at x1 z1 x3 BB ⊢;have HR:=zH hR;clear hR;obtain⟨Rq,hRq⟩:∃ Rq,Ra+1=Rq:=⟨_,rfl⟩;rw[hRq]at z1 x3
 try rw[hRq]
 clear hRq;generalize((w.alloc (.cells #[(.slice da ds.length dc),.bool rp] 24)).alloc (.cells #[.int .i64 rk,.string rt,.bool o,.string s2,.string h2,.int .i64 p,.string pa2,.string q2,.bool mv,.string rn,.bool pr,.bool o3,.string s3,.string h3,.int .i64 p3,.string pa3,.string q3] 42)).alloc (.cells #[(.slice da ds.length dc),.bool rp] 24)=w1 at x1 z1 x3 gB dB BB ⊢;refine(LG.out _ _ x3 dB).mono ?_;rintro e w2 ⟨b0,rfl,b_,hz⟩;have B1:=BB.trans (b_.mono (Nat.le_of_lt x1.lt));have g1:=gB.below b_;have d1:=dB.below b_;have y1:=x1.below b_;have r1:=z1.below b_;have HZ:=zH hz;clear hz LG x3 x1 z1 BB gB dB b_;generalize Value.agg #[.int .i64 rk,.string rt,.bool o,.string s2,.string h2,.int .i64 p,.string pa2,.string q2,.bool mv,.string rn,.bool pr,.bool o3,.string s3,.string h3,.int .i64 p3,.string pa3,.string q3]=rq
 cases b0
 case true =>
  go_wp2
  go_ret
  exact⟨rfl,by rw[HR.out];exact B1⟩
 as_aux_lemma =>
  obtain⟨FP,FR⟩:=HZ.out (by trivial);have hf:=(FP.2 _ (List.mem_singleton.2 rfl)).fit;obtain⟨b,N,CE1,CE2⟩:=CE0.out hf FR;have CE1:=zH CE1;have CE2:=zH CE2;have CO:=zH (CO0.out hf);have CS:=zH (CS0.out hf);have gN:(N.toList==N.toList)=true:=by rw[beq_iff_eq]
  have gb:(b==b)=true:=by cases b<;>rfl
  clear HZ FP FR hf CE0 CO0 CS0;have kA:=y1.c0;have kB:=y1.c1
  go_wp2_with fail
  clear kA kB
  (with_reducible refine(CO.out _ d1).mono ?_)
  rintro e w2 ⟨oa,oc,rfl,o2,b_⟩;have B2:=B1.trans (b_.mono (Nat.le_of_lt y1.lt));have x2:=y1.below b_;have r2:=r1.below b_;have g2:=g1.below b_;have e2:=d1.below b_;clear b_ B1 y1 r1 g1 d1 CO
  as_aux_lemma =>
   have bo:Below w2.heap.size w2 (w2.alloc (.cells #[.slice oa ds.length oc,.bool rp] 24)):=(Below.refl _ _).alloc (Nat.le_refl _) _;have xo:=PX.made w2 (.slice oa ds.length oc) rp;have x3:=x2.below bo;have r3:=r2.below bo;have g3:=g2.below bo;have e3:=e2.below bo;have o3_:=o2.below bo;have B3:=B2.trans (bo.mono (Nat.le_of_lt x2.lt));clear bo x2 r2 g2 e2 o2 B2;have kA:=x3.c0;have kB:=x3.c1;obtain⟨dRb0,dRb1,dRb2,dRb3,dRb4,dRb5,dRb6,dRb7,dRb8,dRb9,dRb10,dRb11,dRb12,dRb13,dRb14,dRb15,dRb16⟩:=r3.cs
   go_wp2_with fail
   clear kA kB dRb0 dRb1 dRb2 dRb3 dRb4 dRb5 dRb6 dRb7 dRb8 dRb9 dRb10 dRb11 dRb12 dRb13 dRb14 dRb15 dRb16;generalize hRb:w2.heap.size=Rb at xo ⊢;clear hRb;generalize w2.alloc (.cells #[.slice oa ds.length oc,.bool rp] 24)=w3 at xo x3 r3 g3 e3 o3_ B3 ⊢
   (with_reducible refine(CE1.out _ _ g3 e3).mono ?_)
   rintro e w4 ⟨rfl,b_⟩;have B4:=B3.trans (b_.mono (Nat.le_of_lt x3.lt));have x4:=x3.below b_;have r4:=r3.below b_;have y4:=xo.below b_;have g4:=g3.below b_;have e4:=e3.below b_;have o4:=o3_.below b_;clear b_ B3 x3 r3 xo g3 e3 o3_ CE1
   try generalize Value.agg #[.int .i64 rk,.string rt,.bool o,.string s2,.string h2,.int .i64 p,.string pa2,.string q2,.bool mv,.string rn,.bool pr,.bool o3,.string s3,.string h3,.int .i64 p3,.string pa3,.string q3]=rq2
   as_aux_lemma =>
    have kA:=y4.c0;have kB:=y4.c1;obtain⟨dRb0,dRb1,dRb2,dRb3,dRb4,dRb5,dRb6,dRb7,dRb8,dRb9,dRb10,dRb11,dRb12,dRb13,dRb14,dRb15,dRb16⟩:=r4.cs
    go_wp2_with fail
    clear kA kB dRb0 dRb1 dRb2 dRb3 dRb4 dRb5 dRb6 dRb7 dRb8 dRb9 dRb10 dRb11 dRb12 dRb13 dRb14 dRb15 dRb16
    (with_reducible refine(CE2.out _ _ g4 o4).mono ?_)
    rintro e w5 ⟨rfl,b_⟩;have B5:=B4.trans (b_.mono (Nat.le_of_lt x4.lt));have x5:=x4.below b_;have y5:=y4.below b_;have g5:=g4.below b_;have e5:=e4.below b_;have o5:=o4.below b_;clear b_ B4 x4 r4 y4 g4 e4 o4 CE2
    try generalize Value.agg #[.int .i64 rk,.string rt,.bool o,.string s2,.string h2,.int .i64 p,.string pa2,.string q2,.bool mv,.string rn,.bool pr,.bool o3,.string s3,.string h3,.int .i64 p3,.string pa3,.string q3]=rq3
    as_aux_lemma =>
     go_wp2_with fail
     (with_reducible refine(AR.out _ g5).mono ?_)
     rintro e w6 ⟨rfl,b_⟩;have B6:=B5.trans (b_.mono (Nat.le_of_lt x5.lt));have x6:=x5.below b_;have y6:=y5.below b_;have e6:=e5.below b_;have o6:=o5.below b_;clear b_ B5 x5 y5 g5 e5 o5 AR;have kA:=x6.c0;have kB:=x6.c1;have kC:=y6.c0;have kD:=y6.c1
     go_wp2_with fail
     clear kA kB kC kD
     (with_reducible refine(CS.out _ _ _ e6 o6).mono ?_)
     rintro e w7 ⟨rfl,b_⟩;have B7:=B6.trans (b_.mono (Nat.le_of_lt x6.lt));clear b_ B6 x6 y6 e6 o6 CS
     go_wp2
     go_ret
     exact⟨rfl,by rw[HR.out];exact B7⟩
end Go.Proofs.YthnogdodlhkldaaGreatDoor
