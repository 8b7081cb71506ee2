/- What a policy's sources say of a request: the program's. What a policy says of a request: the program's. -/
import Derived.Test.YthnogdodlhkldaaGreatDoorChB
import Derived.Test.YthnogdodlhkldaaGreatDoorAlwZ
set_option maxRecDepth 100000
set_option maxHeartbeats 8000000
namespace Go.Proofs.YthnogdodlhkldaaGreatDoor
open Go.RowKit
theorem aU.made {w:World}{v:Value}{ds:List D}(h:aU w v ds)(x:Obj):aU (w.alloc x) v ds:=h.below ((zB _ _).alloc (zL _) _)
theorem bM.made {w:World}{v:Value}{ps:List (List D × Bool)}(h:bM w v ps)(x:Obj):bM (w.alloc x) v ps:=h.below ((zB _ _).alloc (zL _) _)
theorem uS {ws:List (List UInt8)}(h:∀ x∈ws,x.length<=10000):∀ a∈bF ws,a.h.length<=100000/\a.pa.length<=100000:=fun a ha=>by
 obtain⟨l,hl,hp⟩:=List.mem_filterMap.1 ha;rw[aT8,Option.filter_eq_some_iff]at hp;obtain⟨_,_,h3,h4⟩:=aF1 hp.1;have:=h l hl;exact⟨by omega,by omega⟩
def dP (rk:Int)(rt:ByteArray)(o:Bool)(s2 h2:ByteArray)(p:Int)(pa2 q2:ByteArray)(mv:Bool)(rn:ByteArray)(pr:Bool)(o3:Bool)(s3 h3:ByteArray)(p3:Int)(pa3 q3:ByteArray):Rq:=⟨rk,rt.data.toList,uM o s2 h2 p pa2 q2,mv,rn.data.toList,pr,uM o3 s3 h3 p3 pa3 q3⟩
theorem lets_two (L:List bI)(v:Value)(rt:ByteArray)(o:Bool)(s2 h2:ByteArray)(p:Int)(pa2 q2:ByteArray)(mv:Bool)(rn:ByteArray)(pr:Bool)(o3:Bool)(s3 h3:ByteArray)(p3:Int)(pa3 q3:ByteArray)(b:Bool)(C1:Hid (∀ W,dZ W->aK W v L->Calls Tryz.prog 67 #[v,bN 2 rt o s2 h2 p pa2 q2 mv rn pr o3 s3 h3 p3 pa3 q3] W fun e w'=>e=.returned (.bool b)/\Below W.heap.size W w'))(w:World)(hw:dZ w)(hv:aK w v L):Calls Tryz.prog 43 #[v,bN 2 rt o s2 h2 p pa2 q2 mv rn pr o3 s3 h3 p3 pa3 q3] w fun e w'=>e=.returned (.bool b)/\Below w.heap.size w w':=by
 unfold bN at *
 go_enter Tryz.func43,Tryz.ntmps43
 go_wp2_with fail
 have xn:=RX.made w 2 rt o s2 h2 p pa2 q2 mv rn pr o3 s3 h3 p3 pa3 q3;have gw1:=hw.made (.cells #[.int .i64 2,.string rt,.bool o,.string s2,.string h2,.int .i64 p,.string pa2,.string q2,.bool mv,.string rn,.bool pr,.bool o3,.string s3,.string h3,.int .i64 p3,.string pa3,.string q3] 42);have lw1:=hv.made (.cells #[.int .i64 2,.string rt,.bool o,.string s2,.string h2,.int .i64 p,.string pa2,.string q2,.bool mv,.string rn,.bool pr,.bool o3,.string s3,.string h3,.int .i64 p3,.string pa3,.string q3] 42);have Bw1:Below w.heap.size w (w.alloc (.cells #[.int .i64 2,.string rt,.bool o,.string s2,.string h2,.int .i64 p,.string pa2,.string q2,.bool mv,.string rn,.bool pr,.bool o3,.string s3,.string h3,.int .i64 p3,.string pa3,.string q3] 42)):=((zB w.heap.size w).alloc (zL _) (.cells #[.int .i64 2,.string rt,.bool o,.string s2,.string h2,.int .i64 p,.string pa2,.string q2,.bool mv,.string rn,.bool pr,.bool o3,.string s3,.string h3,.int .i64 p3,.string pa3,.string q3] 42));generalize hR:w.heap.size=Ra at xn Bw1 ⊢;have HR:=zH hR;clear hR;generalize w.alloc (.cells #[.int .i64 2,.string rt,.bool o,.string s2,.string h2,.int .i64 p,.string pa2,.string q2,.bool mv,.string rn,.bool pr,.bool o3,.string s3,.string h3,.int .i64 p3,.string pa3,.string q3] 42)=w1 at xn gw1 lw1 Bw1 ⊢;have xRa_w1:=xn;clear xn hw hv;refine(C1.out _ gw1 lw1).mono ?_;rintro e w2 ⟨rfl,b_⟩;have gw2:=gw1.below b_;have lw2:=lw1.below b_;have Bw2:=Bw1.trans (b_.mono (zT xRa_w1.lt));have xRa_w2:=xRa_w1.below b_;clear b_ gw1 lw1 Bw1 xRa_w1
 go_wp2
 go_ret
 exact⟨rfl,by rw[HR.out];exact Bw2⟩
theorem bE5 (L:List bI)(v:Value)(rt:ByteArray)(o:Bool)(s2 h2:ByteArray)(p:Int)(pa2 q2:ByteArray)(mv:Bool)(rn:ByteArray)(pr:Bool)(o3:Bool)(s3 h3:ByteArray)(p3:Int)(pa3 q3:ByteArray)(b:Bool)(C1:Hid (∀ W,aK W v L->Calls Tryz.prog 68 #[v,.int .i64 5] W fun e w'=>e=.returned (.bool b)/\Below W.heap.size W w'))(w:World)(hw:dZ w)(hv:aK w v L):Calls Tryz.prog 43 #[v,bN 5 rt o s2 h2 p pa2 q2 mv rn pr o3 s3 h3 p3 pa3 q3] w fun e w'=>e=.returned (.bool b)/\Below w.heap.size w w':=by
 unfold bN at *
 go_enter Tryz.func43,Tryz.ntmps43
 go_wp2_with fail
 have xn:=RX.made w 5 rt o s2 h2 p pa2 q2 mv rn pr o3 s3 h3 p3 pa3 q3;have gw1:=hw.made (.cells #[.int .i64 5,.string rt,.bool o,.string s2,.string h2,.int .i64 p,.string pa2,.string q2,.bool mv,.string rn,.bool pr,.bool o3,.string s3,.string h3,.int .i64 p3,.string pa3,.string q3] 42);have lw1:=hv.made (.cells #[.int .i64 5,.string rt,.bool o,.string s2,.string h2,.int .i64 p,.string pa2,.string q2,.bool mv,.string rn,.bool pr,.bool o3,.string s3,.string h3,.int .i64 p3,.string pa3,.string q3] 42);have Bw1:Below w.heap.size w (w.alloc (.cells #[.int .i64 5,.string rt,.bool o,.string s2,.string h2,.int .i64 p,.string pa2,.string q2,.bool mv,.string rn,.bool pr,.bool o3,.string s3,.string h3,.int .i64 p3,.string pa3,.string q3] 42)):=((zB w.heap.size w).alloc (zL _) (.cells #[.int .i64 5,.string rt,.bool o,.string s2,.string h2,.int .i64 p,.string pa2,.string q2,.bool mv,.string rn,.bool pr,.bool o3,.string s3,.string h3,.int .i64 p3,.string pa3,.string q3] 42));generalize hR:w.heap.size=Ra at xn Bw1 ⊢;have HR:=zH hR;clear hR;generalize w.alloc (.cells #[.int .i64 5,.string rt,.bool o,.string s2,.string h2,.int .i64 p,.string pa2,.string q2,.bool mv,.string rn,.bool pr,.bool o3,.string s3,.string h3,.int .i64 p3,.string pa3,.string q3] 42)=w1 at xn gw1 lw1 Bw1 ⊢;have xRa_w1:=xn;clear xn hw hv;refine(C1.out _ lw1).mono ?_;rintro e w2 ⟨rfl,b_⟩;have gw2:=gw1.below b_;have lw2:=lw1.below b_;have Bw2:=Bw1.trans (b_.mono (zT xRa_w1.lt));have xRa_w2:=xRa_w1.below b_;clear b_ gw1 lw1 Bw1 xRa_w1
 go_wp2
 go_ret
 exact⟨rfl,by rw[HR.out];exact Bw2⟩
theorem lets_six (L:List bI)(v:Value)(rt:ByteArray)(o:Bool)(s2 h2:ByteArray)(p:Int)(pa2 q2:ByteArray)(mv:Bool)(rn:ByteArray)(pr:Bool)(o3:Bool)(s3 h3:ByteArray)(p3:Int)(pa3 q3:ByteArray)(b:Bool)(C1:Hid (∀ W,aK W v L->Calls Tryz.prog 68 #[v,.int .i64 6] W fun e w'=>e=.returned (.bool b)/\Below W.heap.size W w'))(w:World)(hw:dZ w)(hv:aK w v L):Calls Tryz.prog 43 #[v,bN 6 rt o s2 h2 p pa2 q2 mv rn pr o3 s3 h3 p3 pa3 q3] w fun e w'=>e=.returned (.bool b)/\Below w.heap.size w w':=by
 unfold bN at *
 go_enter Tryz.func43,Tryz.ntmps43
 go_wp2_with fail
 have xn:=RX.made w 6 rt o s2 h2 p pa2 q2 mv rn pr o3 s3 h3 p3 pa3 q3;have gw1:=hw.made (.cells #[.int .i64 6,.string rt,.bool o,.string s2,.string h2,.int .i64 p,.string pa2,.string q2,.bool mv,.string rn,.bool pr,.bool o3,.string s3,.string h3,.int .i64 p3,.string pa3,.string q3] 42);have lw1:=hv.made (.cells #[.int .i64 6,.string rt,.bool o,.string s2,.string h2,.int .i64 p,.string pa2,.string q2,.bool mv,.string rn,.bool pr,.bool o3,.string s3,.string h3,.int .i64 p3,.string pa3,.string q3] 42);have Bw1:Below w.heap.size w (w.alloc (.cells #[.int .i64 6,.string rt,.bool o,.string s2,.string h2,.int .i64 p,.string pa2,.string q2,.bool mv,.string rn,.bool pr,.bool o3,.string s3,.string h3,.int .i64 p3,.string pa3,.string q3] 42)):=((zB w.heap.size w).alloc (zL _) (.cells #[.int .i64 6,.string rt,.bool o,.string s2,.string h2,.int .i64 p,.string pa2,.string q2,.bool mv,.string rn,.bool pr,.bool o3,.string s3,.string h3,.int .i64 p3,.string pa3,.string q3] 42));generalize hR:w.heap.size=Ra at xn Bw1 ⊢;have HR:=zH hR;clear hR;generalize w.alloc (.cells #[.int .i64 6,.string rt,.bool o,.string s2,.string h2,.int .i64 p,.string pa2,.string q2,.bool mv,.string rn,.bool pr,.bool o3,.string s3,.string h3,.int .i64 p3,.string pa3,.string q3] 42)=w1 at xn gw1 lw1 Bw1 ⊢;have xRa_w1:=xn;clear xn hw hv;refine(C1.out _ lw1).mono ?_;rintro e w2 ⟨rfl,b_⟩;have gw2:=gw1.below b_;have lw2:=lw1.below b_;have Bw2:=Bw1.trans (b_.mono (zT xRa_w1.lt));have xRa_w2:=xRa_w1.below b_;clear b_ gw1 lw1 Bw1 xRa_w1
 go_wp2
 go_ret
 exact⟨rfl,by rw[HR.out];exact Bw2⟩
theorem lets_in (L:List bI)(v:Value)(rk:Int)(rt:ByteArray)(o:Bool)(s2 h2:ByteArray)(p:Int)(pa2 q2:ByteArray)(mv:Bool)(rn:ByteArray)(pr:Bool)(o3:Bool)(s3 h3:ByteArray)(p3:Int)(pa3 q3:ByteArray)(n2:(rk==2)=false)(n5:(rk==5)=false)(n6:(rk==6)=false)(b:Bool)(C1:Hid (∀ W,aK W v L->Calls Tryz.prog 69 #[v,.int .i64 rk,.string rn,.string rt] W fun e w'=>e=.returned (.bool b)/\Below W.heap.size W w'))(w:World)(hw:dZ w)(hv:aK w v L):Calls Tryz.prog 43 #[v,bN rk rt o s2 h2 p pa2 q2 mv rn pr o3 s3 h3 p3 pa3 q3] w fun e w'=>e=.returned (.bool b)/\Below w.heap.size w w':=by
 unfold bN at *
 go_enter Tryz.func43,Tryz.ntmps43
 go_wp2_with fail
 have xn:=RX.made w rk rt o s2 h2 p pa2 q2 mv rn pr o3 s3 h3 p3 pa3 q3;have gw1:=hw.made (.cells #[.int .i64 rk,.string rt,.bool o,.string s2,.string h2,.int .i64 p,.string pa2,.string q2,.bool mv,.string rn,.bool pr,.bool o3,.string s3,.string h3,.int .i64 p3,.string pa3,.string q3] 42);have lw1:=hv.made (.cells #[.int .i64 rk,.string rt,.bool o,.string s2,.string h2,.int .i64 p,.string pa2,.string q2,.bool mv,.string rn,.bool pr,.bool o3,.string s3,.string h3,.int .i64 p3,.string pa3,.string q3] 42);have Bw1:Below w.heap.size w (w.alloc (.cells #[.int .i64 rk,.string rt,.bool o,.string s2,.string h2,.int .i64 p,.string pa2,.string q2,.bool mv,.string rn,.bool pr,.bool o3,.string s3,.string h3,.int .i64 p3,.string pa3,.string q3] 42)):=((zB w.heap.size w).alloc (zL _) (.cells #[.int .i64 rk,.string rt,.bool o,.string s2,.string h2,.int .i64 p,.string pa2,.string q2,.bool mv,.string rn,.bool pr,.bool o3,.string s3,.string h3,.int .i64 p3,.string pa3,.string q3] 42));generalize hR:w.heap.size=Ra at xn Bw1 ⊢;have HR:=zH hR;clear hR;generalize w.alloc (.cells #[.int .i64 rk,.string rt,.bool o,.string s2,.string h2,.int .i64 p,.string pa2,.string q2,.bool mv,.string rn,.bool pr,.bool o3,.string s3,.string h3,.int .i64 p3,.string pa3,.string q3] 42)=w1 at xn gw1 lw1 Bw1 ⊢;have xRa_w1:=xn;clear xn hw hv;refine(C1.out _ lw1).mono ?_;rintro e w2 ⟨rfl,b_⟩;have gw2:=gw1.below b_;have lw2:=lw1.below b_;have Bw2:=Bw1.trans (b_.mono (zT xRa_w1.lt));have xRa_w2:=xRa_w1.below b_;clear b_ gw1 lw1 Bw1 xRa_w1
 go_wp2
 go_ret
 exact⟨rfl,by rw[HR.out];exact Bw2⟩
theorem lets_any (L:List bI)(v:Value)(hl:L.length<=1000000)(hL:∀ a∈L,a.h.length<=100000/\a.pa.length<=100000)(rk:Int)(rt:ByteArray)(o:Bool)(s2 h2:ByteArray)(p:Int)(pa2 q2:ByteArray)(mv:Bool)(rn:ByteArray)(pr:Bool)(o3:Bool)(s3 h3:ByteArray)(p3:Int)(pa3 q3:ByteArray)(zt:rt.size<=100000)(su1:s2.size<=100000)(su2:h2.size<=100000)(su3:pa2.size<=100000)(su4:q2.size<=100000)(sv1:s3.size<=100000)(sv2:h3.size<=100000)(sv3:pa3.size<=100000)(sv4:q3.size<=100000)(b:Bool)(hb:iO L (dP rk rt o s2 h2 p pa2 q2 mv rn pr o3 s3 h3 p3 pa3 q3)=b)(w:World)(hw:dZ w)(hv:aK w v L):Calls Tryz.prog 43 #[v,bN rk rt o s2 h2 p pa2 q2 mv rn pr o3 s3 h3 p3 pa3 q3] w fun e w'=>e=.returned (.bool b)/\Below w.heap.size w w':=by
 unfold iO dP at hb;simp only[]at hb
 by_cases e2:rk=2
 · subst e2
   rw[if_pos rfl]at hb;exact lets_two L v rt o s2 h2 p pa2 q2 mv rn pr o3 s3 h3 p3 pa3 q3 b (xX L v hl hL 2 rt o s2 h2 p pa2 q2 mv rn pr o3 s3 h3 p3 pa3 q3 su1 su2 su3 su4 sv1 sv2 sv3 sv4 b hb) w hw hv
 rw[if_neg e2]at hb
 by_cases e5:rk=5
 · subst e5
   rw[if_pos (.inl rfl)]at hb;exact bE5 L v rt o s2 h2 p pa2 q2 mv rn pr o3 s3 h3 p3 pa3 q3 b (qK L v hl 5 b hb) w hw hv
 by_cases e6:rk=6
 · subst e6
   rw[if_pos (.inr rfl)]at hb;exact lets_six L v rt o s2 h2 p pa2 q2 mv rn pr o3 s3 h3 p3 pa3 q3 b (qK L v hl 6 b hb) w hw hv
 rw[if_neg (by omega)]at hb;exact lets_in L v rk rt o s2 h2 p pa2 q2 mv rn pr o3 s3 h3 p3 pa3 q3 (beq_eq_false_iff_ne.2 e2) (beq_eq_false_iff_ne.2 e5) (beq_eq_false_iff_ne.2 e6) b (tY L v hl rk rn rt zt b hb) w hw hv
end Go.Proofs.YthnogdodlhkldaaGreatDoor
namespace Go.Proofs.YthnogdodlhkldaaGreatDoor
open Go.RowKit
theorem xM {ds:List D}(hf:eX ds):∀ {ns:List (List UInt8)} {ws n:_},gW ds ns=some (ws,n)->ws.length<=1000000/\∀ x∈ws,x.length<=10000
 | [],_,_,h=>by cases h
 | m :: ns,ws,n,h=>by
   unfold gW at h
   cases hm:cN ds m with
   | none =>
     rw[hm]at h;exact xM hf h
   | some us =>
     rw[hm]at h;simp only[Option.some.injEq,Prod.mk.injEq]at h;obtain⟨rfl,rfl⟩:=h;exact nU hf hm
theorem pB (ds:List D)(dv:Value)(r:Bool)(rk:Int)(rt:ByteArray)(o:Bool)(s2 h2:ByteArray)(p:Int)(pa2 q2:ByteArray)(mv:Bool)(rn:ByteArray)(pr:Bool)(o3:Bool)(s3 h3:ByteArray)(p3:Int)(pa3 q3:ByteArray)(zt:rt.size<=100000)(su1:s2.size<=100000)(su2:h2.size<=100000)(su3:pa2.size<=100000)(su4:q2.size<=100000)(sv1:s3.size<=100000)(sv2:h3.size<=100000)(sv3:pa3.size<=100000)(sv4:q3.size<=100000)(hf:eX ds)(w:World)(hw:dZ w)(hd:aU w dv ds):Calls Tryz.prog 22 #[dX dv r,bN rk rt o s2 h2 p pa2 q2 mv rn pr o3 s3 h3 p3 pa3 q3] w fun e w'=>∃ b N,e=.returned (.tuple #[.bool b,.string N])/\fQ ds (dP rk rt o s2 h2 p pa2 q2 mv rn pr o3 s3 h3 p3 pa3 q3)=(b,N.data.toList)/\Below w.heap.size w w':=by
 have CE:Hid (∀ W,dZ W->aU W dv ds->Calls Tryz.prog 13 #[dX dv r,.int .i64 rk] W (mC ds (bL rk) W)):=zH fun W h1 h2=>pC ds dv r rk hf W h1 h2;have HF:=zH hf;clear hf;unfold dX at CE;unfold dX bN
 have HO:Hid (∀ N:ByteArray,(gW ds (bL rk)=none/\N=⟨#[]⟩->fQ ds (dP rk rt o s2 h2 p pa2 q2 mv rn pr o3 s3 h3 p3 pa3 q3)=(true,N.data.toList))/\(∀ ws,gW ds (bL rk)=some (ws,N.data.toList)->fQ ds (dP rk rt o s2 h2 p pa2 q2 mv rn pr o3 s3 h3 p3 pa3 q3)=(iO (bF ws) (dP rk rt o s2 h2 p pa2 q2 mv rn pr o3 s3 h3 p3 pa3 q3),N.data.toList))):=zH fun N=>by
  unfold fQ;refine⟨?_,?_⟩
  · rintro⟨h,rfl⟩
    rw[show((dP rk rt o s2 h2 p pa2 q2 mv rn pr o3 s3 h3 p3 pa3 q3):Rq).k=rk from rfl,h]
  · intro ws h
    rw[show((dP rk rt o s2 h2 p pa2 q2 mv rn pr o3 s3 h3 p3 pa3 q3):Rq).k=rk from rfl,h]
 generalize fQ ds (dP rk rt o s2 h2 p pa2 q2 mv rn pr o3 s3 h3 p3 pa3 q3)=on at HO ⊢;obtain⟨dda,ddc,rfl⟩:=hd.form
 go_enter Tryz.func22,Tryz.ntmps22
 go_wp2_with fail
 have xn:=PX.made w (.slice dda ds.length ddc) r;have xz:=RX.made (w.alloc (.cells #[(.slice dda ds.length ddc),.bool r] 24)) rk rt o s2 h2 p pa2 q2 mv rn pr o3 s3 h3 p3 pa3 q3;have xy:=xn.below ((zB _ _).alloc (zL _) (.cells #[.int .i64 rk,.string rt,.bool o,.string s2,.string h2,.int .i64 p,.string pa2,.string q2,.bool mv,.string rn,.bool pr,.bool o3,.string s3,.string h3,.int .i64 p3,.string pa3,.string q3] 42));have gB:=(hw.made (.cells #[(.slice dda ds.length ddc),.bool r] 24)).made (.cells #[.int .i64 rk,.string rt,.bool o,.string s2,.string h2,.int .i64 p,.string pa2,.string q2,.bool mv,.string rn,.bool pr,.bool o3,.string s3,.string h3,.int .i64 p3,.string pa3,.string q3] 42);have dB:=(hd.made (.cells #[(.slice dda ds.length ddc),.bool r] 24)).made (.cells #[.int .i64 rk,.string rt,.bool o,.string s2,.string h2,.int .i64 p,.string pa2,.string q2,.bool mv,.string rn,.bool pr,.bool o3,.string s3,.string h3,.int .i64 p3,.string pa3,.string q3] 42);have BB:=((zB w.heap.size w).alloc (zL _) (.cells #[(.slice dda ds.length ddc),.bool r] 24)).alloc (Below.size ((zB w.heap.size w).alloc (zL _) (.cells #[(.slice dda ds.length ddc),.bool r] 24))) (.cells #[.int .i64 rk,.string rt,.bool o,.string s2,.string h2,.int .i64 p,.string pa2,.string q2,.bool mv,.string rn,.bool pr,.bool o3,.string s3,.string h3,.int .i64 p3,.string pa3,.string q3] 42);rw[bD]at xz;clear xn hw hd;generalize hR:w.heap.size=Ra at xy xz BB ⊢;have HR:=zH hR;clear hR;obtain⟨Rb,hRb⟩:∃ Rb,Ra+1=Rb:=⟨_,rfl⟩;rw[hRb]at xz
 try rw[hRb]
 clear hRb;generalize(w.alloc (.cells #[(.slice dda ds.length ddc),.bool r] 24)).alloc (.cells #[.int .i64 rk,.string rt,.bool o,.string s2,.string h2,.int .i64 p,.string pa2,.string q2,.bool mv,.string rn,.bool pr,.bool o3,.string s3,.string h3,.int .i64 p3,.string pa3,.string q3] 42)=w1 at xy xz gB dB BB ⊢;have xRa_w1:=xy;have xRb_w1:=xz;clear xy xz;refine(CE.out _ gB dB).mono ?_;rintro e w2 ⟨b_,hq⟩;have gw2:=gB.below b_;have dw2:=dB.below b_;have Bw2:=BB.trans (b_.mono (zT xRa_w1.lt));have xRa_w2:=xRa_w1.below b_;have xRb_w2:=xRb_w1.below b_;clear b_ CE gB dB BB xRa_w1 xRb_w1;rcases hq with ⟨he,rfl⟩ | ⟨ws,N,u,he,rfl,hu⟩
 · have HV:=zH ((HO.out ⟨#[]⟩).1 ⟨he,rfl⟩)
   clear he HO
   go_wp2
   go_ret2
   refine⟨true,⟨#[]⟩,rfl,?_,by rw[HR.out];exact Bw2⟩;rw[HV.out]
 · have HV:=zH ((HO.out N).2 ws he)
   obtain⟨ll,l2⟩:=xM HF.out he;obtain⟨ua9,uc9,rfl⟩:=hu.form;obtain⟨b,hb⟩:∃ b,iO (bF ws) (dP rk rt o s2 h2 p pa2 q2 mv rn pr o3 s3 h3 p3 pa3 q3)=b:=⟨_,rfl⟩;have CL:Hid (∀ W,dZ W->aK W (.slice ua9 (bF ws).length uc9) (bF ws)->Calls Tryz.prog 43 #[.slice ua9 (bF ws).length uc9,bN rk rt o s2 h2 p pa2 q2 mv rn pr o3 s3 h3 p3 pa3 q3] W fun e w'=>e=.returned (.bool b)/\Below W.heap.size W w'):=zH fun W k1_ k2_=>lets_any (bF ws) _ (Nat.le_trans (fS ws) ll) (uS l2) rk rt o s2 h2 p pa2 q2 mv rn pr o3 s3 h3 p3 pa3 q3 zt su1 su2 su3 su4 sv1 sv2 sv3 sv4 b hb W k1_ k2_;have HB:=zH hb;unfold bN at CL;clear he HO ll l2 hb;generalize bF ws=L at hu HV HB CL;have dRa0:=xRa_w2.c0;have dRa1:=xRa_w2.c1;obtain⟨dRb0,dRb1,dRb2,dRb3,dRb4,dRb5,dRb6,dRb7,dRb8,dRb9,dRb10,dRb11,dRb12,dRb13,dRb14,dRb15,dRb16⟩:=xRb_w2.cs
   go_wp2_with fail
   clear dRa0 dRa1 dRb0 dRb1 dRb2 dRb3 dRb4 dRb5 dRb6 dRb7 dRb8 dRb9 dRb10 dRb11 dRb12 dRb13 dRb14 dRb15 dRb16;refine(CL.out _ gw2 hu).mono ?_;rintro e w3 ⟨rfl,b_⟩;have gw3:=gw2.below b_;have lw3:=hu.below b_;have Bw3:=Bw2.trans (b_.mono (zT xRa_w2.lt));have xRa_w3:=xRa_w2.below b_;have xRb_w3:=xRb_w2.below b_;clear b_ gw2 hu Bw2 xRa_w2 xRb_w2
   go_wp2
   go_ret2
   refine⟨b,N,rfl,?_,by rw[HR.out];exact Bw3⟩;rw[HV.out,HB.out]
end Go.Proofs.YthnogdodlhkldaaGreatDoor
