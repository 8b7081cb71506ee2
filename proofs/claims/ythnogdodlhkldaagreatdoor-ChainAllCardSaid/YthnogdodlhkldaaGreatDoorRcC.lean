/- What a policy says of a request: the document's. -/
import Derived.Test.YthnogdodlhkldaaGreatDoorRcB
import Derived.Test.YthnogdodlhkldaaGreatDoorRefQ
set_option maxRecDepth 100000
set_option maxHeartbeats 8000000
namespace Go.Proofs.YthnogdodlhkldaaGreatDoor
open Go.RowKit
theorem oP (ds:List D)(dv:Value)(r:Bool)(rk:Int)(rt:ByteArray)(o:Bool)(s2 h2:ByteArray)(p:Int)(pa2 q2:ByteArray)(mv:Bool)(rn:ByteArray)(pr:Bool)(o3:Bool)(s3 h3:ByteArray)(p3:Int)(pa3 q3:ByteArray)(zt:rt.size<=100000)(su1:s2.size<=100000)(su2:h2.size<=100000)(su3:pa2.size<=100000)(su4:q2.size<=100000)(sv1:s3.size<=100000)(sv2:h3.size<=100000)(sv3:pa3.size<=100000)(sv4:q3.size<=100000)(hf:eX ds)(w:World)(hw:dZ w)(hd:aU w dv ds):Calls Tryz.prog 23 #[dX dv r,bN rk rt o s2 h2 p pa2 q2 mv rn pr o3 s3 h3 p3 pa3 q3] w fun e w'=>∃ b N,e=.returned (.tuple #[.bool b,.string N])/\fQ ds (dP rk rt o s2 h2 p pa2 q2 mv rn pr o3 s3 h3 p3 pa3 q3)=(b,N.data.toList)/\Below w.heap.size w w':=by
 have CE:Hid (∀ W,aU W dv ds->Calls Tryz.prog 14 #[dX dv r,.int .i64 rk] W (mC ds (bL rk) W)):=zH fun W h2=>uK ds dv r rk hf W h2;have HF:=zH hf;clear hf;unfold dX at CE;unfold dX bN
 have HO:Hid (∀ N:ByteArray,(gW ds (bL rk)=none/\N=⟨#[]⟩->fQ ds (dP rk rt o s2 h2 p pa2 q2 mv rn pr o3 s3 h3 p3 pa3 q3)=(true,N.data.toList))/\(∀ ws,gW ds (bL rk)=some (ws,N.data.toList)->fQ ds (dP rk rt o s2 h2 p pa2 q2 mv rn pr o3 s3 h3 p3 pa3 q3)=(iO (bF ws) (dP rk rt o s2 h2 p pa2 q2 mv rn pr o3 s3 h3 p3 pa3 q3),N.data.toList))):=zH fun N=>by
  unfold fQ;refine⟨?_,?_⟩
  · rintro⟨h,rfl⟩
    rw[show((dP rk rt o s2 h2 p pa2 q2 mv rn pr o3 s3 h3 p3 pa3 q3):Rq).k=rk from rfl,h]
  · intro ws h
    rw[show((dP rk rt o s2 h2 p pa2 q2 mv rn pr o3 s3 h3 p3 pa3 q3):Rq).k=rk from rfl,h]
 generalize fQ ds (dP rk rt o s2 h2 p pa2 q2 mv rn pr o3 s3 h3 p3 pa3 q3)=on at HO ⊢;obtain⟨dda,ddc,rfl⟩:=hd.form
 go_enter Tryz.func23,Tryz.ntmps23
 go_wp2_with fail
 have xn:=PX.made w (.slice dda ds.length ddc) r;have xz:=RX.made (w.alloc (.cells #[(.slice dda ds.length ddc),.bool r] 24)) rk rt o s2 h2 p pa2 q2 mv rn pr o3 s3 h3 p3 pa3 q3;have xy:=xn.below ((zB _ _).alloc (zL _) (.cells #[.int .i64 rk,.string rt,.bool o,.string s2,.string h2,.int .i64 p,.string pa2,.string q2,.bool mv,.string rn,.bool pr,.bool o3,.string s3,.string h3,.int .i64 p3,.string pa3,.string q3] 42));have gB:=(hw.made (.cells #[(.slice dda ds.length ddc),.bool r] 24)).made (.cells #[.int .i64 rk,.string rt,.bool o,.string s2,.string h2,.int .i64 p,.string pa2,.string q2,.bool mv,.string rn,.bool pr,.bool o3,.string s3,.string h3,.int .i64 p3,.string pa3,.string q3] 42);have dB:=(hd.made (.cells #[(.slice dda ds.length ddc),.bool r] 24)).made (.cells #[.int .i64 rk,.string rt,.bool o,.string s2,.string h2,.int .i64 p,.string pa2,.string q2,.bool mv,.string rn,.bool pr,.bool o3,.string s3,.string h3,.int .i64 p3,.string pa3,.string q3] 42);have BB:=((zB w.heap.size w).alloc (zL _) (.cells #[(.slice dda ds.length ddc),.bool r] 24)).alloc (Below.size ((zB w.heap.size w).alloc (zL _) (.cells #[(.slice dda ds.length ddc),.bool r] 24))) (.cells #[.int .i64 rk,.string rt,.bool o,.string s2,.string h2,.int .i64 p,.string pa2,.string q2,.bool mv,.string rn,.bool pr,.bool o3,.string s3,.string h3,.int .i64 p3,.string pa3,.string q3] 42);rw[bD]at xz;clear xn hw hd;generalize hR:w.heap.size=Ra at xy xz BB ⊢;have HR:=zH hR;clear hR;obtain⟨Rb,hRb⟩:∃ Rb,Ra+1=Rb:=⟨_,rfl⟩;rw[hRb]at xz
 try rw[hRb]
 clear hRb;generalize(w.alloc (.cells #[(.slice dda ds.length ddc),.bool r] 24)).alloc (.cells #[.int .i64 rk,.string rt,.bool o,.string s2,.string h2,.int .i64 p,.string pa2,.string q2,.bool mv,.string rn,.bool pr,.bool o3,.string s3,.string h3,.int .i64 p3,.string pa3,.string q3] 42)=w1 at xy xz gB dB BB ⊢;have xRa_w1:=xy;have xRb_w1:=xz;clear xy xz;refine(CE.out _ dB).mono ?_;rintro e w2 ⟨b_,hq⟩;have gw2:=gB.below b_;have dw2:=dB.below b_;have Bw2:=BB.trans (b_.mono (zT xRa_w1.lt));have xRa_w2:=xRa_w1.below b_;have xRb_w2:=xRb_w1.below b_;clear b_ CE gB dB BB xRa_w1 xRb_w1;rcases hq with ⟨he,rfl⟩ | ⟨ws,N,u,he,rfl,hu⟩
 · have HV:=zH ((HO.out ⟨#[]⟩).1 ⟨he,rfl⟩)
   clear he HO
   go_wp2
   go_ret2
   refine⟨true,⟨#[]⟩,rfl,?_,by rw[HR.out];exact Bw2⟩;rw[HV.out]
 · have HV:=zH ((HO.out N).2 ws he)
   obtain⟨ll,l2⟩:=xM HF.out he;have hLl:=Nat.le_trans (fS ws) ll;have hLf:=uS l2;obtain⟨ua9,uc9,rfl⟩:=hu.form;obtain⟨b,hb⟩:∃ b,iO (bF ws) (dP rk rt o s2 h2 p pa2 q2 mv rn pr o3 s3 h3 p3 pa3 q3)=b:=⟨_,rfl⟩;clear he HO ll l2;generalize bF ws=L at hu HV hb hLl hLf;have HSB:=zH hb;unfold iO dP at hb;simp only[]at hb
   by_cases e2:rk=2
   · subst e2
     rw[if_pos rfl]at hb;have CL:=wN L (.slice ua9 L.length uc9) hLl hLf 2 rt o s2 h2 p pa2 q2 mv rn pr o3 s3 h3 p3 pa3 q3 su1 su2 su3 su4 sv1 sv2 sv3 sv4 b hb;unfold bN at CL;have HB:=zH HSB;clear hb hLl hLf;have dRa0:=xRa_w2.c0;have dRa1:=xRa_w2.c1;obtain⟨dRb0,dRb1,dRb2,dRb3,dRb4,dRb5,dRb6,dRb7,dRb8,dRb9,dRb10,dRb11,dRb12,dRb13,dRb14,dRb15,dRb16⟩:=xRb_w2.cs
     go_wp2_with fail
     clear dRa0 dRa1 dRb0 dRb1 dRb2 dRb3 dRb4 dRb5 dRb6 dRb7 dRb8 dRb9 dRb10 dRb11 dRb12 dRb13 dRb14 dRb15 dRb16;refine(CL.out _ gw2 hu).mono ?_;rintro e w3 ⟨rfl,b_⟩;have Bw3:=Bw2.trans (b_.mono (zT xRa_w2.lt));clear b_ gw2 hu Bw2 xRa_w2 xRb_w2
     go_wp2
     go_ret2
     refine⟨b,N,rfl,?_,by rw[HR.out];exact Bw3⟩;rw[HV.out,HB.out.out]
   rw[if_neg e2]at hb
   by_cases e5:rk=5
   · subst e5
     rw[if_pos (.inl rfl)]at hb;have CL:=pW L (.slice ua9 L.length uc9) hLl 5 b hb;have HB:=zH HSB;clear hb hLl hLf;have dRa0:=xRa_w2.c0;have dRa1:=xRa_w2.c1;obtain⟨dRb0,dRb1,dRb2,dRb3,dRb4,dRb5,dRb6,dRb7,dRb8,dRb9,dRb10,dRb11,dRb12,dRb13,dRb14,dRb15,dRb16⟩:=xRb_w2.cs
     go_wp2_with fail
     clear dRa0 dRa1 dRb0 dRb1 dRb2 dRb3 dRb4 dRb5 dRb6 dRb7 dRb8 dRb9 dRb10 dRb11 dRb12 dRb13 dRb14 dRb15 dRb16;refine(CL.out _ hu).mono ?_;rintro e w3 ⟨rfl,b_⟩;have Bw3:=Bw2.trans (b_.mono (zT xRa_w2.lt));clear b_ gw2 hu Bw2 xRa_w2 xRb_w2
     go_wp2
     go_ret2
     refine⟨b,N,rfl,?_,by rw[HR.out];exact Bw3⟩;rw[HV.out,HB.out.out]
   by_cases e6:rk=6
   · subst e6
     rw[if_pos (.inr rfl)]at hb;have CL:=pW L (.slice ua9 L.length uc9) hLl 6 b hb;have HB:=zH HSB;clear hb hLl hLf;have dRa0:=xRa_w2.c0;have dRa1:=xRa_w2.c1;obtain⟨dRb0,dRb1,dRb2,dRb3,dRb4,dRb5,dRb6,dRb7,dRb8,dRb9,dRb10,dRb11,dRb12,dRb13,dRb14,dRb15,dRb16⟩:=xRb_w2.cs
     go_wp2_with fail
     clear dRa0 dRa1 dRb0 dRb1 dRb2 dRb3 dRb4 dRb5 dRb6 dRb7 dRb8 dRb9 dRb10 dRb11 dRb12 dRb13 dRb14 dRb15 dRb16;refine(CL.out _ hu).mono ?_;rintro e w3 ⟨rfl,b_⟩;have Bw3:=Bw2.trans (b_.mono (zT xRa_w2.lt));clear b_ gw2 hu Bw2 xRa_w2 xRb_w2
     go_wp2
     go_ret2
     refine⟨b,N,rfl,?_,by rw[HR.out];exact Bw3⟩;rw[HV.out,HB.out.out]
   rw[if_neg (by omega)]at hb;have n2:(rk==2)=false:=beq_eq_false_iff_ne.2 e2;have n5:(rk==5)=false:=beq_eq_false_iff_ne.2 e5;have n6:(rk==6)=false:=beq_eq_false_iff_ne.2 e6;clear e2 e5 e6;have CL:=tG L (.slice ua9 L.length uc9) hLl rk rn rt zt b hb;have HB:=zH HSB;clear hb hLl hLf;have dRa0:=xRa_w2.c0;have dRa1:=xRa_w2.c1;obtain⟨dRb0,dRb1,dRb2,dRb3,dRb4,dRb5,dRb6,dRb7,dRb8,dRb9,dRb10,dRb11,dRb12,dRb13,dRb14,dRb15,dRb16⟩:=xRb_w2.cs
   go_wp2_with fail
   clear dRa0 dRa1 dRb0 dRb1 dRb2 dRb3 dRb4 dRb5 dRb6 dRb7 dRb8 dRb9 dRb10 dRb11 dRb12 dRb13 dRb14 dRb15 dRb16;refine(CL.out _ hu).mono ?_;rintro e w3 ⟨rfl,b_⟩;have Bw3:=Bw2.trans (b_.mono (zT xRa_w2.lt));clear b_ gw2 hu Bw2 xRa_w2 xRb_w2
   go_wp2
   go_ret2
   refine⟨b,N,rfl,?_,by rw[HR.out];exact Bw3⟩;rw[HV.out,HB.out.out]
end Go.Proofs.YthnogdodlhkldaaGreatDoor
