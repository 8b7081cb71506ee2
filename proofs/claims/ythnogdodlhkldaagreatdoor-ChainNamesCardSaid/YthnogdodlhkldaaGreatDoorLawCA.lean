/- A kind's names and a policy's sources for it: the law. -/
import Derived.Test.YthnogdodlhkldaaGreatDoorRcB
set_option maxRecDepth 100000
set_option maxHeartbeats 8000000
namespace Go.Proofs.YthnogdodlhkldaaGreatDoor
open Go.RowKit
theorem ppBlocks (w:World)(v:Value)(r:Bool):PX ((w.alloc (.cells #[v,.bool r] 24)).alloc (.cells #[v,.bool r] 24)) w.heap.size v r/\PX ((w.alloc (.cells #[v,.bool r] 24)).alloc (.cells #[v,.bool r] 24)) (w.heap.size+1) v r/\Below w.heap.size w ((w.alloc (.cells #[v,.bool r] 24)).alloc (.cells #[v,.bool r] 24)):=by
 have x1:=(PX.made w v r).below ((Below.refl _ _).alloc (Nat.le_refl _) (.cells #[v,.bool r] 24));have x2:=PX.made (w.alloc (.cells #[v,.bool r] 24)) v r;rw[World.size_alloc]at x2;exact⟨x1,x2,((Below.refl _ _).alloc (Nat.le_refl _) _).alloc (by simp) _⟩
def EffIs (L:List bH)(N:ByteArray)(b:Bool)(W:World)(e:Ending)(w':World):Prop:=∃ ua uc,e=.returned (.tuple #[.slice ua L.length uc,.string N,.bool b])/\aK w' (.slice ua L.length uc) L/\Below W.heap.size W w'
theorem eff_is {ds:List D}{ns:List (List UInt8)}(hf:eY ds):∃(L:List bH) (N:ByteArray) (b:Bool),L.length<=1000000/\∀ W e w',lW ds ns W e w'->EffIs L N b W e w':=by
 cases he:gS ds ns with
 | none =>
   refine⟨[],⟨#[]⟩,false,by decide,fun W e w' h => ?_⟩;obtain⟨h1,h2⟩:=h;rcases h2 with ⟨_,rfl⟩ | ⟨ws,N,u,h2,_⟩
   · exact⟨none,0,rfl,.inl ⟨⟨_,_,rfl⟩,rfl⟩,h1⟩
   · rw[he]at h2;cases h2
 | some x =>
   obtain⟨ws,nm⟩:=x;obtain⟨N,hN⟩:=aO nm
   have hl:ws.length<=1000000:=by
    clear hN
    induction ns with
    | nil=>cases he
    | cons m ns ih =>
      unfold gS at he
      cases hm:cM ds m with
      | none=>rw[hm]at he;exact ih he
      | some us =>
        rw[hm]at he;simp only[Option.some.injEq,Prod.mk.injEq]at he;obtain⟨rfl,_⟩:=he;exact(nP hf hm).1
   refine⟨bD ws,N,true,Nat.le_trans (fQ ws) hl,fun W e w' h => ?_⟩;obtain⟨h1,h2⟩:=h;rcases h2 with ⟨h2,_⟩ | ⟨us,M,u,h2,rfl,h3⟩
   · rw[he]at h2;cases h2
   · rw[he]at h2
     obtain⟨rfl,hM⟩:=Prod.mk.inj (Option.some.inj h2);obtain rfl:N=M:=by rw[aM hN,aM hM.symm]
     obtain⟨ua,uc,rfl⟩:=h3.form;exact⟨ua,uc,rfl,h3,h1⟩
theorem names_law (ds:List D)(da:Option Addr)(dc:Nat)(rp:Bool)(ha2:Arg8 [(ds,rp)])(k:Int)(w:World)(hw:eC w)(hd:aU w (.slice da ds.length dc) ds):Calls Tryz.prog 3 #[dW (.slice da ds.length dc) rp,.int .i64 k] w fun e w'=>e=.returned (.bool true)/\Below w.heap.size w w':=by
 have AR:=mM;have CB:Hid (∀ W R,PX W R (.slice da ds.length dc) rp->aU W (.slice da ds.length dc) ds->Calls Tryz.prog 11 #[.slice (some ⟨R,0,none⟩) 1 1] W (sQ [(ds,rp)] W)):=zH fun W R k1_ k2_=>pQ [(ds,rp)] _ W (k1_.row k2_) ha2.1 ha2.2;have CN1:=lE k;have CN2:=pK k;have hnl:=lN k
 have CE0:Hid (eY ds->∃(L:List bH) (N:ByteArray) (b:Bool),L.length<=1000000/\(∀ W dv,eC W->aU W dv ds->Calls Tryz.prog 13 #[.agg #[dv,.bool rp],.int .i64 k] W (EffIs L N b W))/\(∀ W dv,aU W dv ds->Calls Tryz.prog 14 #[.agg #[dv,.bool rp],.int .i64 k] W (EffIs L N b W))):=zH fun hf=>by
  obtain⟨L,N,b,h1,h2⟩:=eff_is (ds:=ds) (ns:=bK k) hf;exact⟨L,N,b,h1,fun W dv k1_ k2_=>(oW ds dv rp k hf W k1_ k2_).mono fun e w' h=>h2 W e w' h,fun W dv k2_=>(uF ds dv rp k hf W k2_).mono fun e w' h=>h2 W e w' h⟩
 have CO0:Hid (eY ds->∀ W,aU W (.slice da ds.length dc) ds->Calls Tryz.prog 12 #[.agg #[.slice da ds.length dc,.bool rp]] W fun e w'=>∃ oa oc,e=.returned (.agg #[.slice oa ds.length oc,.bool rp])/\aU w' (.slice oa ds.length oc) ds/\Below W.heap.size W w'):=zH fun hf W k1_=>(pN ds (.slice da ds.length dc) rp W k1_ hf.1 (fun d hd=>(hf.2 d hd).1)).mono fun e w' ⟨v,h1,h2,h3⟩=>by
  have h4:=h2.in;obtain⟨oa,oc,rfl⟩:=h4.form;exact⟨oa,oc,h1,h4,h3⟩
 have CS0:Hid (eY ds->∀ W u v,aU W u ds->aU W v ds->Calls Tryz.prog 20 #[.agg #[u,.bool rp],.agg #[v,.bool rp]] W fun e w'=>e=.returned (.bool true)/\Below W.heap.size W w'):=zH fun hf=>(jO ds ds rp rp true (by simp) hf.1 (fun d hd=>(hf.2 d hd).1) (fun d hd=>(hf.2 d hd).1)).out;unfold dW
 go_enter Tryz.func3,Tryz.ntmps3
 go_wp2_with fail
 obtain⟨x1,x3,BB⟩:=ppBlocks w (.slice da ds.length dc) rp;have gB:=(hw.made (.cells #[(.slice da ds.length dc),.bool rp] 24)).made (.cells #[(.slice da ds.length dc),.bool rp] 24);have dB:=(hd.made (.cells #[(.slice da ds.length dc),.bool rp] 24)).made (.cells #[(.slice da ds.length dc),.bool rp] 24);clear hw hd;generalize hR:w.heap.size=Ra at x1 x3 BB ⊢;have HR:=zH hR;clear hR;generalize(w.alloc (.cells #[(.slice da ds.length dc),.bool rp] 24)).alloc (.cells #[(.slice da ds.length dc),.bool rp] 24)=w1 at x1 x3 gB dB BB ⊢;refine(CB.out _ _ x3 dB).mono ?_;rintro e w1 ⟨b0,rfl,rfl,hz⟩;have HZ:=zH hz;clear hz CB x3
 cases b0
 case true =>
  go_wp2
  go_ret
  exact⟨rfl,by rw[HR.out];exact BB⟩
 have FP:=HZ.out (by trivial);have hf:=(FP.2 _ (List.mem_singleton.2 rfl)).fit;obtain⟨L,N,b,hL,CE1,CE2⟩:=CE0.out hf;have CE1:=zH CE1;have CE2:=zH CE2;have CO:=zH (CO0.out hf);have CS:=zH (CS0.out hf);have gN:(N.toList==N.toList)=true:=by rw[beq_iff_eq]
 have gb:(b==b)=true:=by cases b<;>rfl
 clear HZ FP hf CE0 CO0 CS0;have d0:=x1.c0;have d1:=x1.c1
 go_wp2_with fail
 clear d0 d1
 (with_reducible refine(CO.out _ dB).mono ?_)
 rintro e w2 ⟨oa,oc,rfl,o2,b_⟩;have B2:=BB.trans (b_.mono (Nat.le_of_lt x1.lt));have x2:=x1.below b_;have g2:=gB.below b_;have e2:=dB.below b_;clear b_ BB x1 gB dB CO;have bo:Below w2.heap.size w2 (w2.alloc (.cells #[.slice oa ds.length oc,.bool rp] 24)):=(Below.refl _ _).alloc (Nat.le_refl _) _;have xo:=PX.made w2 (.slice oa ds.length oc) rp;have x3:=x2.below bo;have g3:=g2.below bo;have e3:=e2.below bo;have o3:=o2.below bo;have B3:=B2.trans (bo.mono (Nat.le_of_lt x2.lt));clear bo x2 g2 e2 o2 B2;have d0:=x3.c0;have d1:=x3.c1
 go_wp2_with fail
 clear d0 d1;generalize hRb:w2.heap.size=Rb at xo ⊢;clear hRb;generalize w2.alloc (.cells #[.slice oa ds.length oc,.bool rp] 24)=w3 at xo x3 g3 e3 o3 B3 ⊢
 (with_reducible refine(CE1.out _ _ g3 e3).mono ?_)
 rintro e w4 ⟨ua,uc,rfl,s4,b_⟩;have B4:=B3.trans (b_.mono (Nat.le_of_lt x3.lt));have x4:=x3.below b_;have y4:=xo.below b_;have g4:=g3.below b_;have e4:=e3.below b_;have o4:=o3.below b_;clear b_ B3 x3 xo g3 e3 o3 CE1;have d0:=y4.c0;have d1:=y4.c1
 go_wp2_with fail
 clear d0 d1
 (with_reducible refine(CE2.out _ _ o4).mono ?_)
 rintro e w5 ⟨va,vc,rfl,t5,b_⟩;have B5:=B4.trans (b_.mono (Nat.le_of_lt x4.lt));have x5:=x4.below b_;have y5:=y4.below b_;have g5:=g4.below b_;have e5:=e4.below b_;have o5:=o4.below b_;have s5:=s4.below b_;clear b_ B4 x4 y4 g4 e4 o4 s4 CE2
 go_wp2_with fail
 (with_reducible refine(AR.out _ g5).mono ?_)
 rintro e w6 ⟨rfl,b_⟩;have B6:=B5.trans (b_.mono (Nat.le_of_lt x5.lt));have x6:=x5.below b_;have y6:=y5.below b_;have e6:=e5.below b_;have o6:=o5.below b_;have s6:=s5.below b_;have t6:=t5.below b_;clear b_ B5 x5 y5 g5 e5 o5 s5 t5 AR
 go_wp2_with fail
 (with_reducible refine(CN1.out _).mono ?_)
 rintro e w7 ⟨u7,rfl,n7,b_⟩;have B7:=B6.trans (b_.mono (Nat.le_of_lt x6.lt));have x7:=x6.below b_;have y7:=y6.below b_;have e7:=e6.below b_;have o7:=o6.below b_;have s7:=s6.below b_;have t7:=t6.below b_;have n7:=aR.of_row n7;clear b_ B6 x6 y6 e6 o6 s6 t6 CN1
 go_wp2_with fail
 (with_reducible refine(CN2.out _).mono ?_)
 rintro e w8 ⟨u8,rfl,m8,b_⟩;have B8:=B7.trans (b_.mono (Nat.le_of_lt x7.lt));have x8:=x7.below b_;have y8:=y7.below b_;have e8:=e7.below b_;have o8:=o7.below b_;have s8:=s7.below b_;have t8:=t7.below b_;have n8:=n7.below b_;have m8:=aR.of_row m8;clear b_ B7 x7 y7 e7 o7 s7 t7 n7 CN2
 have CT:Hid (Calls Tryz.prog 16 #[u7,u8] w8 fun e w'=>e=.returned (.bool true)/\∃ n,w'=w8.drewN n):=zH (by
  have:=oE (bK k) (bK k) u7 u8 w8 n8 m8 (by omega) (by omega);rw[show aU1 (bK k) (bK k)=true by unfold aU1;simp]at this
  exact this)
 clear n8 m8
 go_wp2_with fail
 (with_reducible refine CT.out.mono ?_)
 rintro e w9 ⟨rfl,n,rfl⟩;have bd:Below w8.heap.size w8 (w8.drewN n):=⟨rfl,rfl,rfl,Nat.le_refl _,fun _ _=>rfl⟩;have B9:=B8.trans (bd.mono (Nat.le_of_lt x8.lt));have x9:=x8.below bd;have y9:=y8.below bd;have e9:=e8.below bd;have o9:=o8.below bd;have s9:=s8.below bd;have t9:=t8.below bd;clear bd B8 x8 y8 e8 o8 s8 t8 CT;generalize w8.drewN n=w9 at B9 x9 y9 e9 o9 s9 t9 ⊢;have C9:=zH (nC L _ _ w9 s9 t9 hL);clear s9 t9
 go_wp2_with fail
 (with_reducible refine C9.out.mono ?_)
 rintro e wA ⟨rfl,b_⟩;have BA:=B9.trans (b_.mono (Nat.le_of_lt x9.lt));have xA:=x9.below b_;have yA:=y9.below b_;have eA:=e9.below b_;have oA:=o9.below b_;clear b_ B9 x9 y9 e9 o9 C9;have d0:=xA.c0;have d1:=xA.c1;have d2:=yA.c0;have d3:=yA.c1
 go_wp2_with fail
 clear d0 d1 d2 d3
 (with_reducible refine(CS.out _ _ _ eA oA).mono ?_)
 rintro e wB ⟨rfl,b_⟩;have BB:=BA.trans (b_.mono (Nat.le_of_lt xA.lt));clear b_ BA xA yA eA oA CS
 go_wp2
 go_ret
 exact⟨rfl,by rw[HR.out];exact BB⟩
end Go.Proofs.YthnogdodlhkldaaGreatDoor
