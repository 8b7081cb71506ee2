/- An address' text, an address that is right: the document's. -/
import Derived.Test.YthnogdodlhkldaaGreatDoorRefC
set_option maxRecDepth 100000
set_option maxHeartbeats 4000000
namespace Go.Proofs.YthnogdodlhkldaaGreatDoor
open Go.RowKit
theorem zW (o:Bool)(s h:ByteArray)(p:Int)(pa q:ByteArray)(hs:s.size<=100000)(hh:h.size<=100000)(hpa:pa.size<=100000)(hq:q.size<=100000)(hp:o=false->0<=p/\p<=65535)(T:ByteArray)(hT:T.data.toList=kH (uM o s h p pa q))(w:World):Calls Tryz.prog 204 #[uV o s h p pa q] w fun e w'=>e=.returned (.string T)/\Below w.heap.size w w':=by
 unfold uV
 cases o
 case true =>
  have hM:T.data.toList=s.data.toList++58 :: pa.data.toList:=hT;obtain⟨A1,hA1⟩:=aO (s.data.toList++[58]);have z1:A1.size=s.size+1:=by rw[<- aE,hA1,List.length_append,aE];rfl
  have a1:=dG s ⟨#[58]⟩ A1 hA1 (by show s.size+1<=_;omega);have a2:=dG A1 pa T (by rw[hM,hA1];simp) (by omega);clear hM hT hA1 z1 hp
  go_enter Tryz.func204,Tryz.ntmps204
  go_wp2
  go_ret
  exact⟨rfl,(zB _ _).alloc (zL _) _⟩
 case false =>
  have hM:T.data.toList=s.data.toList++58 :: 47 :: 47 :: (h.data.toList++(iQ p++(pa.data.toList++q.data.toList))):=hT;obtain⟨p0,p1⟩:=hp rfl;obtain⟨PT,hPT⟩:=aO (iQ p);obtain⟨A1,hA1⟩:=aO (s.data.toList++[58,47,47]);have z1:A1.size=s.size+3:=by rw[<- aE,hA1,List.length_append,aE];rfl
  obtain⟨A2,hA2⟩:=aO (A1.data.toList++h.data.toList);have z2:A2.size=A1.size+h.size:=by rw[<- aE,hA2,List.length_append,aE,aE]
  obtain⟨A3,hA3⟩:=aO (A2.data.toList++PT.data.toList);have z3:A3.size=A2.size+PT.size:=by rw[<- aE,hA3,List.length_append,aE,aE]
  obtain⟨A4,hA4⟩:=aO (A3.data.toList++pa.data.toList);have z4:A4.size=A3.size+pa.size:=by rw[<- aE,hA4,List.length_append,aE,aE]
  have zp:PT.size<=100000:=by
   rw[<- aE,hPT];unfold iQ;split
   · exact Nat.zero_le _
   · have:=lX p.toNat
     rw[List.length_cons];omega
  have a1:=dG s ⟨#[58,47,47]⟩ A1 hA1 (by show s.size+3<=_;omega);have a2:=dG A1 h A2 hA2 (by omega);have a3:True:=trivial;have a4:=dG A3 pa A4 hA4 (by omega);have a5:=dG A4 q T (by rw[hM,hA4,hA3,hA2,hA1,hPT];simp) (by omega);have HA3:=zH hA3;have HPT:=zH hPT;clear hM hT hA1 hA2 hA3 hA4 hPT a3 hp
  by_cases h0:p=0
  · have g:¬ (0:Int)<p:=by omega
    obtain rfl:A3=A2:=by
     have:A3.data.toList=A2.data.toList:=by rw[HA3.out,HPT.out,h0];simp[iQ]
     rw[aM this,<- aM rfl]
    clear h0 z1 z2 z3 z4 zp
    go_enter Tryz.func204,Tryz.ntmps204
    go_wp2
    go_ret
    exact⟨rfl,(zB _ _).alloc (zL _) _⟩
  · have g:(0:Int)<p:=by omega
    obtain⟨IT,hIT⟩:=aO (Lib.decDigits p.toNat);obtain⟨A2c,hA2c⟩:=aO (A2.data.toList++[58]);have z5:A2c.size=A2.size+1:=by rw[<- aE,hA2c,List.length_append,aE];rfl
    have b1:=dG A2 ⟨#[58]⟩ A2c hA2c (by show A2.size+1<=_;omega)
    have b2:=dG A2c IT A3 (by rw[HA3.out,HPT.out,hIT,hA2c];unfold iQ;rw[if_neg h0];simp) (by
     have:=lX p.toNat;rw[<- hIT,aE]at this
     omega)
    have CI:=aQ6 p p0 p1 IT hIT;clear h0 hIT hA2c z1 z2 z3 z4 z5 zp
    go_enter Tryz.func204,Tryz.ntmps204
    go_wp2_with (go_at_call 247;refine(CI.out _).mono ?_;rintro e w' ⟨rfl,rfl⟩)
    go_ret
    exact⟨rfl,(zB _ _).alloc (zL _) _⟩
theorem zV (o:Bool)(s h:ByteArray)(p:Int)(pa q:ByteArray)(hs:s.size<=100000)(hh:h.size<=100000)(hpa:pa.size<=100000)(hq:q.size<=100000)(hp:o=false->0<=p/\p<=65535)(T:ByteArray)(hT:T.data.toList=kH (uM o s h p pa q)):Hid (∀ W,Calls Tryz.prog 204 #[uV o s h p pa q] W fun e w'=>e=.returned (.string T)/\Below W.heap.size W w') :=
 zH fun W=>zW o s h p pa q hs hh hpa hq hp T hT W
theorem wH (o:Bool)(s h:ByteArray)(p:Int)(pa q:ByteArray)(hs:s.size<=100000)(hh:h.size<=100000)(hpa:pa.size<=100000)(hq:q.size<=100000)(w:World):Calls Tryz.prog 152 #[uV o s h p pa q] w fun e w'=>e=.returned (.bool (aT (uM o s h p pa q)))/\Below w.heap.size w w':=by
 obtain⟨T,hT⟩:=aO (kH (uM o s h p pa q))
 have hM:aT (uM o s h p pa q)=((if o then cY (uM o s h p pa q) else cW (uM o s h p pa q))&&decide (T.size<=500)):=by
  unfold aT;rw[<- hT,aE];rfl
 have hO:cY (uM o s h p pa q)=(dR s.data.toList&&decide (kM s.data.toList=0)&&h.data.toList.isEmpty&&decide (p=0)&&q.data.toList.isEmpty&&bH 32 [35] pa.data.toList&&decide (eI pa.data.toList=pa.data.toList)):=rfl;have hK:cW (uM o s h p pa q)=(decide (kM s.data.toList≠0)&&bW h.data.toList&&decide (0<=p)&&decide (p<=65535)&&decide (p≠(kM s.data.toList:Int))&&fI pa.data.toList&&fW q.data.toList):=rfl
 have hZ:aT (uM o s h p pa q)=true->dR s.data.toList=true/\h.size<=500/\pa.size<=500/\q.size<=500:=fun hr=>by
  obtain⟨_,z2,z3,z4⟩:=aJ1 hr;have e1:(uM o s h p pa q).h=h.data.toList:=rfl;have e2:(uM o s h p pa q).pa=pa.data.toList:=rfl;have e3:(uM o s h p pa q).q=q.data.toList:=rfl;rw[e1,aE]at z2;rw[e2,aE]at z3;rw[e3,aE]at z4;exact⟨uJ hr,z2,z3,z4⟩
 obtain⟨sb,hsb⟩:∃ b,dR s.data.toList=b:=⟨_,rfl⟩;obtain⟨d,hd⟩:∃ d,kM s.data.toList=d:=⟨_,rfl⟩;obtain⟨rb,hrb⟩:∃ b,(bH 32 [35] pa.data.toList&&decide (eI pa.data.toList=pa.data.toList))=b:=⟨_,rfl⟩;obtain⟨hb,hhb⟩:∃ b,bW h.data.toList=b:=⟨_,rfl⟩;obtain⟨cb,hcb⟩:∃ b,fI pa.data.toList=b:=⟨_,rfl⟩;obtain⟨vb,hvb⟩:∃ b,bH 33 [35,35] q.data.toList=b:=⟨_,rfl⟩;have CS:=iU s sb hsb (by omega);have CD:=iB s d hd;have CRs:=rest_hid pa rb hrb (by omega);have CH:=pV h hb hhb (by omega);have CC:=aR2 pa cb hcb (by omega);have CV:Hid (∀ W,Calls Tryz.prog 206 #[.string q,.int .u8 35,.int .u8 35] W fun e w'=>e=.returned (.bool vb)/\w'=W):=pL 35 35 q vb hvb (by omega)
 have hO2:cY (uM o s h p pa q)=(sb&&decide (d=0)&&rb&&h.toList.isEmpty&&q.toList.isEmpty&&decide (p=0)):=by
  rw[hO,hsb,hd,<- hrb,aF,aF]
  cases sb<;>cases (decide (d=0))<;>cases h.data.toList.isEmpty<;>cases (decide (p=0))<;>cases q.data.toList.isEmpty<;>simp
 have hqm:q.size=0/\q.toList.isEmpty=true/\fW q.data.toList=true\/q.toList.isEmpty=false/\∃ h9:0<q.size,fW q.data.toList=(((q[0].toNat:Int)==63)&&vb):=by
  by_cases h0:q.size=0
  · have hl:q.data.toList=[]:=List.length_eq_zero_iff.1 (by rw[aE];exact h0)
    exact .inl ⟨h0,by rw[aF,hl];rfl,by rw[hl];rfl⟩
  · have hp:0<q.size:=by omega
    obtain⟨b,l,hbl⟩:∃ b l,q.data.toList=b :: l:=by
     cases h:q.data.toList with
     | nil=>rw[<- aE,h]at hp;cases hp
     | cons b l=>exact⟨b,l,rfl⟩
    refine .inr ⟨by rw[aF,hbl];rfl,hp,?_⟩
    have hb0:q[0]=b:=by
     obtain⟨b',h1,_,h3⟩:=xS hp;rw[hbl]at h1;simp at h1;rw[h3,h1]
    have hw:bH 33 [35,35] q.data.toList=bH 33 [35] q.data.toList:=by
     unfold bH
     congr 1
     funext c
     unfold aD2;simp only[List.contains_cons,List.contains_nil,Bool.or_false,Bool.or_self]
    rw[<- hvb,hw,hb0,hbl];show(false || ((b :: l).head? == some 63&&bH 33 [35] (b :: l)))=_;rw[Bool.false_or]
    congr 1
    show(some b==some 63)=_;have:=bR b 63;rw[show((63:UInt8).toNat:Int)=63 from rfl]at this;rw[this];rfl
 rw[hd,hhb,hcb]at hK;rw[hO2,hK]at hM;rw[hsb]at hZ;have HM:=zH hM;have HZ:=zH hZ;have HTX:=zH (fun hp=>zV o s h p pa q hs hh hpa hq hp T hT);clear hM hO hK hZ hsb hd hrb hhb hcb hvb hO2 hT hs hh hpa hq;unfold uV at *
 cases sb
 · have CT:=HTX
   have HF:Hid (false=aT (uM o s h p pa q)):=zH (by cases hr:aT (uM o s h p pa q);rfl;have:=(HZ.out hr).1;cases this)
   go_enter Tryz.func152,Tryz.ntmps152
   go_wp2_with fail
   have x1:=BX.made w o s h p pa q;have B1:Below w.heap.size w (w.alloc (.cells #[.bool o,.string s,.string h,.int .i64 p,.string pa,.string q] 40)):=(zB _ _).alloc (zL _) _;generalize hR:w.heap.size=R at x1 B1 ⊢;have HR:=zH hR;clear hR;generalize w.alloc (.cells #[.bool o,.string s,.string h,.int .i64 p,.string pa,.string q] 40)=w1 at x1 B1 ⊢;obtain⟨c0,c1,c2,c3,c4,c5⟩:=x1.cs;refine(CS.out _).mono ?_;rintro e w1 ⟨rfl,rfl⟩
   go_wp2_with (first
    | (go_at_call 139;refine(CS.out _).mono ?_;rintro e w' ⟨rfl,rfl⟩)
    | (go_at_call 202;refine(CD.out _).mono ?_;rintro e w' ⟨rfl,rfl⟩)
    | (go_at_call 203;refine(CRs.out _).mono ?_;rintro e w' ⟨rfl,rfl⟩)
    | (go_at_call 191;refine(CH.out _).mono ?_;rintro e w' ⟨rfl,rfl⟩)
    | (go_at_call 206;refine(CV.out _).mono ?_;rintro e w' ⟨rfl,rfl⟩)
    | (go_at_call 205;refine(CC.out _).mono ?_;rintro e w2 ⟨rfl,b2⟩
       have x2:=x1.below b2;have B2:=B1.trans (b2.mono (zT x1.lt));have d0:=x2.c0;have d1:=x2.c1;have d2:=x2.c2;have d3:=x2.c3;have d4:=x2.c4
       have d5:=x2.c5)
    | (go_at_call 204;refine(CT.out _).mono ?_;rintro e w9 ⟨rfl,b9⟩
       have B9:=B2.trans (b9.mono (zT x2.lt))))
   go_ret
   exact⟨aA HF.out,by rw[HR.out];exact B1⟩
 by_cases h1:500<(pa.size:Int)
 · have CT:=HTX
   have HF:Hid (false=aT (uM o s h p pa q)):=zH (by cases hr:aT (uM o s h p pa q);rfl;have:=(HZ.out hr).2.2.1;omega)
   go_enter Tryz.func152,Tryz.ntmps152
   go_wp2_with fail
   have x1:=BX.made w o s h p pa q;have B1:Below w.heap.size w (w.alloc (.cells #[.bool o,.string s,.string h,.int .i64 p,.string pa,.string q] 40)):=(zB _ _).alloc (zL _) _;generalize hR:w.heap.size=R at x1 B1 ⊢;have HR:=zH hR;clear hR;generalize w.alloc (.cells #[.bool o,.string s,.string h,.int .i64 p,.string pa,.string q] 40)=w1 at x1 B1 ⊢;obtain⟨c0,c1,c2,c3,c4,c5⟩:=x1.cs;refine(CS.out _).mono ?_;rintro e w1 ⟨rfl,rfl⟩
   go_wp2_with (first
    | (go_at_call 139;refine(CS.out _).mono ?_;rintro e w' ⟨rfl,rfl⟩)
    | (go_at_call 202;refine(CD.out _).mono ?_;rintro e w' ⟨rfl,rfl⟩)
    | (go_at_call 203;refine(CRs.out _).mono ?_;rintro e w' ⟨rfl,rfl⟩)
    | (go_at_call 191;refine(CH.out _).mono ?_;rintro e w' ⟨rfl,rfl⟩)
    | (go_at_call 206;refine(CV.out _).mono ?_;rintro e w' ⟨rfl,rfl⟩)
    | (go_at_call 205;refine(CC.out _).mono ?_;rintro e w2 ⟨rfl,b2⟩
       have x2:=x1.below b2;have B2:=B1.trans (b2.mono (zT x1.lt));have d0:=x2.c0;have d1:=x2.c1;have d2:=x2.c2;have d3:=x2.c3;have d4:=x2.c4
       have d5:=x2.c5)
    | (go_at_call 204;refine(CT.out _).mono ?_;rintro e w9 ⟨rfl,b9⟩
       have B9:=B2.trans (b9.mono (zT x2.lt))))
   go_ret
   exact⟨aA HF.out,by rw[HR.out];exact B1⟩
 by_cases h2:500<(q.size:Int)
 · have CT:=HTX
   have HF:Hid (false=aT (uM o s h p pa q)):=zH (by cases hr:aT (uM o s h p pa q);rfl;have:=(HZ.out hr).2.2.2;omega)
   go_enter Tryz.func152,Tryz.ntmps152
   go_wp2_with fail
   have x1:=BX.made w o s h p pa q;have B1:Below w.heap.size w (w.alloc (.cells #[.bool o,.string s,.string h,.int .i64 p,.string pa,.string q] 40)):=(zB _ _).alloc (zL _) _;generalize hR:w.heap.size=R at x1 B1 ⊢;have HR:=zH hR;clear hR;generalize w.alloc (.cells #[.bool o,.string s,.string h,.int .i64 p,.string pa,.string q] 40)=w1 at x1 B1 ⊢;obtain⟨c0,c1,c2,c3,c4,c5⟩:=x1.cs;refine(CS.out _).mono ?_;rintro e w1 ⟨rfl,rfl⟩
   go_wp2_with (first
    | (go_at_call 139;refine(CS.out _).mono ?_;rintro e w' ⟨rfl,rfl⟩)
    | (go_at_call 202;refine(CD.out _).mono ?_;rintro e w' ⟨rfl,rfl⟩)
    | (go_at_call 203;refine(CRs.out _).mono ?_;rintro e w' ⟨rfl,rfl⟩)
    | (go_at_call 191;refine(CH.out _).mono ?_;rintro e w' ⟨rfl,rfl⟩)
    | (go_at_call 206;refine(CV.out _).mono ?_;rintro e w' ⟨rfl,rfl⟩)
    | (go_at_call 205;refine(CC.out _).mono ?_;rintro e w2 ⟨rfl,b2⟩
       have x2:=x1.below b2;have B2:=B1.trans (b2.mono (zT x1.lt));have d0:=x2.c0;have d1:=x2.c1;have d2:=x2.c2;have d3:=x2.c3;have d4:=x2.c4
       have d5:=x2.c5)
    | (go_at_call 204;refine(CT.out _).mono ?_;rintro e w9 ⟨rfl,b9⟩
       have B9:=B2.trans (b9.mono (zT x2.lt))))
   go_ret
   exact⟨aA HF.out,by rw[HR.out];exact B1⟩
 by_cases h3:500<(h.size:Int)
 · have CT:=HTX
   have HF:Hid (false=aT (uM o s h p pa q)):=zH (by cases hr:aT (uM o s h p pa q);rfl;have:=(HZ.out hr).2.1;omega)
   go_enter Tryz.func152,Tryz.ntmps152
   go_wp2_with fail
   have x1:=BX.made w o s h p pa q;have B1:Below w.heap.size w (w.alloc (.cells #[.bool o,.string s,.string h,.int .i64 p,.string pa,.string q] 40)):=(zB _ _).alloc (zL _) _;generalize hR:w.heap.size=R at x1 B1 ⊢;have HR:=zH hR;clear hR;generalize w.alloc (.cells #[.bool o,.string s,.string h,.int .i64 p,.string pa,.string q] 40)=w1 at x1 B1 ⊢;obtain⟨c0,c1,c2,c3,c4,c5⟩:=x1.cs;refine(CS.out _).mono ?_;rintro e w1 ⟨rfl,rfl⟩
   go_wp2_with (first
    | (go_at_call 139;refine(CS.out _).mono ?_;rintro e w' ⟨rfl,rfl⟩)
    | (go_at_call 202;refine(CD.out _).mono ?_;rintro e w' ⟨rfl,rfl⟩)
    | (go_at_call 203;refine(CRs.out _).mono ?_;rintro e w' ⟨rfl,rfl⟩)
    | (go_at_call 191;refine(CH.out _).mono ?_;rintro e w' ⟨rfl,rfl⟩)
    | (go_at_call 206;refine(CV.out _).mono ?_;rintro e w' ⟨rfl,rfl⟩)
    | (go_at_call 205;refine(CC.out _).mono ?_;rintro e w2 ⟨rfl,b2⟩
       have x2:=x1.below b2;have B2:=B1.trans (b2.mono (zT x1.lt));have d0:=x2.c0;have d1:=x2.c1;have d2:=x2.c2;have d3:=x2.c3;have d4:=x2.c4
       have d5:=x2.c5)
    | (go_at_call 204;refine(CT.out _).mono ?_;rintro e w9 ⟨rfl,b9⟩
       have B9:=B2.trans (b9.mono (zT x2.lt))))
   go_ret
   exact⟨aA HF.out,by rw[HR.out];exact B1⟩
 clear HZ
 cases o
 case true =>
  have CT:=HTX.out (fun h=>by cases h);clear HTX
  by_cases hd0:d=0
  case neg =>
   have g1:((d:Int)==0)=false:=by rw[beq_eq_false_iff_ne];omega
   have HF:Hid (false=aT (uM true s h p pa q)):=zH (by rw[HM.out,decide_eq_false hd0];simp);clear hd0
   go_enter Tryz.func152,Tryz.ntmps152
   go_wp2_with fail
   have x1:=BX.made w true s h p pa q;have B1:Below w.heap.size w (w.alloc (.cells #[.bool true,.string s,.string h,.int .i64 p,.string pa,.string q] 40)):=(zB _ _).alloc (zL _) _;generalize hR:w.heap.size=R at x1 B1 ⊢;have HR:=zH hR;clear hR;generalize w.alloc (.cells #[.bool true,.string s,.string h,.int .i64 p,.string pa,.string q] 40)=w1 at x1 B1 ⊢;obtain⟨c0,c1,c2,c3,c4,c5⟩:=x1.cs;refine(CS.out _).mono ?_;rintro e w1 ⟨rfl,rfl⟩
   go_wp2_with (first
    | (go_at_call 139;refine(CS.out _).mono ?_;rintro e w' ⟨rfl,rfl⟩)
    | (go_at_call 202;refine(CD.out _).mono ?_;rintro e w' ⟨rfl,rfl⟩)
    | (go_at_call 203;refine(CRs.out _).mono ?_;rintro e w' ⟨rfl,rfl⟩)
    | (go_at_call 191;refine(CH.out _).mono ?_;rintro e w' ⟨rfl,rfl⟩)
    | (go_at_call 206;refine(CV.out _).mono ?_;rintro e w' ⟨rfl,rfl⟩)
    | (go_at_call 205;refine(CC.out _).mono ?_;rintro e w2 ⟨rfl,b2⟩
       have x2:=x1.below b2;have B2:=B1.trans (b2.mono (zT x1.lt));have d0:=x2.c0;have d1:=x2.c1;have d2:=x2.c2;have d3:=x2.c3;have d4:=x2.c4
       have d5:=x2.c5)
    | (go_at_call 204;refine(CT.out _).mono ?_;rintro e w9 ⟨rfl,b9⟩
       have B9:=B2.trans (b9.mono (zT x2.lt))))
   go_ret
   exact⟨aA HF.out,by rw[HR.out];exact B1⟩
  have g1:((d:Int)==0)=true:=by rw[beq_iff_eq];omega
  have HD:=zH hd0;clear hd0
  cases rb
  · have HD2:=HD
    have HF:Hid (false=aT (uM true s h p pa q)):=zH (by rw[HM.out];simp)
    go_enter Tryz.func152,Tryz.ntmps152
    go_wp2_with fail
    have x1:=BX.made w true s h p pa q;have B1:Below w.heap.size w (w.alloc (.cells #[.bool true,.string s,.string h,.int .i64 p,.string pa,.string q] 40)):=(zB _ _).alloc (zL _) _;generalize hR:w.heap.size=R at x1 B1 ⊢;have HR:=zH hR;clear hR;generalize w.alloc (.cells #[.bool true,.string s,.string h,.int .i64 p,.string pa,.string q] 40)=w1 at x1 B1 ⊢;obtain⟨c0,c1,c2,c3,c4,c5⟩:=x1.cs;refine(CS.out _).mono ?_;rintro e w1 ⟨rfl,rfl⟩
    go_wp2_with (first
     | (go_at_call 139;refine(CS.out _).mono ?_;rintro e w' ⟨rfl,rfl⟩)
     | (go_at_call 202;refine(CD.out _).mono ?_;rintro e w' ⟨rfl,rfl⟩)
     | (go_at_call 203;refine(CRs.out _).mono ?_;rintro e w' ⟨rfl,rfl⟩)
     | (go_at_call 191;refine(CH.out _).mono ?_;rintro e w' ⟨rfl,rfl⟩)
     | (go_at_call 206;refine(CV.out _).mono ?_;rintro e w' ⟨rfl,rfl⟩)
     | (go_at_call 205;refine(CC.out _).mono ?_;rintro e w2 ⟨rfl,b2⟩
        have x2:=x1.below b2;have B2:=B1.trans (b2.mono (zT x1.lt));have d0:=x2.c0;have d1:=x2.c1;have d2:=x2.c2;have d3:=x2.c3;have d4:=x2.c4
        have d5:=x2.c5)
     | (go_at_call 204;refine(CT.out _).mono ?_;rintro e w9 ⟨rfl,b9⟩
        have B9:=B2.trans (b9.mono (zT x2.lt))))
    go_ret
    exact⟨aA HF.out,by rw[HR.out];exact B1⟩
  cases ge:h.toList.isEmpty
  · have HD2:=HD
    have HF:Hid (false=aT (uM true s h p pa q)):=zH (by rw[HM.out,ge];simp)
    go_enter Tryz.func152,Tryz.ntmps152
    go_wp2_with fail
    have x1:=BX.made w true s h p pa q;have B1:Below w.heap.size w (w.alloc (.cells #[.bool true,.string s,.string h,.int .i64 p,.string pa,.string q] 40)):=(zB _ _).alloc (zL _) _;generalize hR:w.heap.size=R at x1 B1 ⊢;have HR:=zH hR;clear hR;generalize w.alloc (.cells #[.bool true,.string s,.string h,.int .i64 p,.string pa,.string q] 40)=w1 at x1 B1 ⊢;obtain⟨c0,c1,c2,c3,c4,c5⟩:=x1.cs;refine(CS.out _).mono ?_;rintro e w1 ⟨rfl,rfl⟩
    go_wp2_with (first
     | (go_at_call 139;refine(CS.out _).mono ?_;rintro e w' ⟨rfl,rfl⟩)
     | (go_at_call 202;refine(CD.out _).mono ?_;rintro e w' ⟨rfl,rfl⟩)
     | (go_at_call 203;refine(CRs.out _).mono ?_;rintro e w' ⟨rfl,rfl⟩)
     | (go_at_call 191;refine(CH.out _).mono ?_;rintro e w' ⟨rfl,rfl⟩)
     | (go_at_call 206;refine(CV.out _).mono ?_;rintro e w' ⟨rfl,rfl⟩)
     | (go_at_call 205;refine(CC.out _).mono ?_;rintro e w2 ⟨rfl,b2⟩
        have x2:=x1.below b2;have B2:=B1.trans (b2.mono (zT x1.lt));have d0:=x2.c0;have d1:=x2.c1;have d2:=x2.c2;have d3:=x2.c3;have d4:=x2.c4
        have d5:=x2.c5)
     | (go_at_call 204;refine(CT.out _).mono ?_;rintro e w9 ⟨rfl,b9⟩
        have B9:=B2.trans (b9.mono (zT x2.lt))))
    go_ret
    exact⟨aA HF.out,by rw[HR.out];exact B1⟩
  cases gq:q.toList.isEmpty
  · have HD2:=HD
    have HF:Hid (false=aT (uM true s h p pa q)):=zH (by rw[HM.out,gq];simp)
    go_enter Tryz.func152,Tryz.ntmps152
    go_wp2_with fail
    have x1:=BX.made w true s h p pa q;have B1:Below w.heap.size w (w.alloc (.cells #[.bool true,.string s,.string h,.int .i64 p,.string pa,.string q] 40)):=(zB _ _).alloc (zL _) _;generalize hR:w.heap.size=R at x1 B1 ⊢;have HR:=zH hR;clear hR;generalize w.alloc (.cells #[.bool true,.string s,.string h,.int .i64 p,.string pa,.string q] 40)=w1 at x1 B1 ⊢;obtain⟨c0,c1,c2,c3,c4,c5⟩:=x1.cs;refine(CS.out _).mono ?_;rintro e w1 ⟨rfl,rfl⟩
    go_wp2_with (first
     | (go_at_call 139;refine(CS.out _).mono ?_;rintro e w' ⟨rfl,rfl⟩)
     | (go_at_call 202;refine(CD.out _).mono ?_;rintro e w' ⟨rfl,rfl⟩)
     | (go_at_call 203;refine(CRs.out _).mono ?_;rintro e w' ⟨rfl,rfl⟩)
     | (go_at_call 191;refine(CH.out _).mono ?_;rintro e w' ⟨rfl,rfl⟩)
     | (go_at_call 206;refine(CV.out _).mono ?_;rintro e w' ⟨rfl,rfl⟩)
     | (go_at_call 205;refine(CC.out _).mono ?_;rintro e w2 ⟨rfl,b2⟩
        have x2:=x1.below b2;have B2:=B1.trans (b2.mono (zT x1.lt));have d0:=x2.c0;have d1:=x2.c1;have d2:=x2.c2;have d3:=x2.c3;have d4:=x2.c4
        have d5:=x2.c5)
     | (go_at_call 204;refine(CT.out _).mono ?_;rintro e w9 ⟨rfl,b9⟩
        have B9:=B2.trans (b9.mono (zT x2.lt))))
    go_ret
    exact⟨aA HF.out,by rw[HR.out];exact B1⟩
  by_cases hp0:p=0
  case neg =>
   have g2:(p==0)=false:=by rw[beq_eq_false_iff_ne];exact hp0
   have HF:Hid (false=aT (uM true s h p pa q)):=zH (by rw[HM.out,decide_eq_false hp0];simp);clear hp0
   go_enter Tryz.func152,Tryz.ntmps152
   go_wp2_with fail
   have x1:=BX.made w true s h p pa q;have B1:Below w.heap.size w (w.alloc (.cells #[.bool true,.string s,.string h,.int .i64 p,.string pa,.string q] 40)):=(zB _ _).alloc (zL _) _;generalize hR:w.heap.size=R at x1 B1 ⊢;have HR:=zH hR;clear hR;generalize w.alloc (.cells #[.bool true,.string s,.string h,.int .i64 p,.string pa,.string q] 40)=w1 at x1 B1 ⊢;obtain⟨c0,c1,c2,c3,c4,c5⟩:=x1.cs;refine(CS.out _).mono ?_;rintro e w1 ⟨rfl,rfl⟩
   go_wp2_with (first
    | (go_at_call 139;refine(CS.out _).mono ?_;rintro e w' ⟨rfl,rfl⟩)
    | (go_at_call 202;refine(CD.out _).mono ?_;rintro e w' ⟨rfl,rfl⟩)
    | (go_at_call 203;refine(CRs.out _).mono ?_;rintro e w' ⟨rfl,rfl⟩)
    | (go_at_call 191;refine(CH.out _).mono ?_;rintro e w' ⟨rfl,rfl⟩)
    | (go_at_call 206;refine(CV.out _).mono ?_;rintro e w' ⟨rfl,rfl⟩)
    | (go_at_call 205;refine(CC.out _).mono ?_;rintro e w2 ⟨rfl,b2⟩
       have x2:=x1.below b2;have B2:=B1.trans (b2.mono (zT x1.lt));have d0:=x2.c0;have d1:=x2.c1;have d2:=x2.c2;have d3:=x2.c3;have d4:=x2.c4
       have d5:=x2.c5)
    | (go_at_call 204;refine(CT.out _).mono ?_;rintro e w9 ⟨rfl,b9⟩
       have B9:=B2.trans (b9.mono (zT x2.lt))))
   go_ret
   exact⟨aA HF.out,by rw[HR.out];exact B1⟩
  have g2:(p==0)=true:=by rw[beq_iff_eq];exact hp0
  have HP:=zH hp0;clear hp0
  by_cases hz:(T.size:Int)<=500
  · have HD2:=HD
    have HF:Hid (true=aT (uM true s h p pa q)):=zH (by rw[HM.out,decide_eq_true HD.out,decide_eq_true HP.out,ge,gq,decide_eq_true (show T.size<=500 by omega)];rfl)
    go_enter Tryz.func152,Tryz.ntmps152
    go_wp2_with fail
    have x1:=BX.made w true s h p pa q;have B1:Below w.heap.size w (w.alloc (.cells #[.bool true,.string s,.string h,.int .i64 p,.string pa,.string q] 40)):=(zB _ _).alloc (zL _) _;generalize hR:w.heap.size=R at x1 B1 ⊢;have HR:=zH hR;clear hR;generalize w.alloc (.cells #[.bool true,.string s,.string h,.int .i64 p,.string pa,.string q] 40)=w1 at x1 B1 ⊢;obtain⟨c0,c1,c2,c3,c4,c5⟩:=x1.cs;refine(CS.out _).mono ?_;rintro e w1 ⟨rfl,rfl⟩
    go_wp2_with (first
     | (go_at_call 139;refine(CS.out _).mono ?_;rintro e w' ⟨rfl,rfl⟩)
     | (go_at_call 202;refine(CD.out _).mono ?_;rintro e w' ⟨rfl,rfl⟩)
     | (go_at_call 203;refine(CRs.out _).mono ?_;rintro e w' ⟨rfl,rfl⟩)
     | (go_at_call 191;refine(CH.out _).mono ?_;rintro e w' ⟨rfl,rfl⟩)
     | (go_at_call 206;refine(CV.out _).mono ?_;rintro e w' ⟨rfl,rfl⟩)
     | (go_at_call 205;refine(CC.out _).mono ?_;rintro e w2 ⟨rfl,b2⟩
        have x2:=x1.below b2;have B2:=B1.trans (b2.mono (zT x1.lt));have d0:=x2.c0;have d1:=x2.c1;have d2:=x2.c2;have d3:=x2.c3;have d4:=x2.c4
        have d5:=x2.c5)
     | (go_at_call 204;refine(CT.out _).mono ?_;rintro e w9 ⟨rfl,b9⟩
        have B9:=B1.trans (b9.mono (zT x1.lt))))
    go_ret
    exact⟨aA HF.out,by rw[HR.out];exact B9⟩
  · have HD2:=HD
    have HF:Hid (false=aT (uM true s h p pa q)):=zH (by rw[HM.out,decide_eq_false (show ¬ T.size<=500 by omega)];simp)
    go_enter Tryz.func152,Tryz.ntmps152
    go_wp2_with fail
    have x1:=BX.made w true s h p pa q;have B1:Below w.heap.size w (w.alloc (.cells #[.bool true,.string s,.string h,.int .i64 p,.string pa,.string q] 40)):=(zB _ _).alloc (zL _) _;generalize hR:w.heap.size=R at x1 B1 ⊢;have HR:=zH hR;clear hR;generalize w.alloc (.cells #[.bool true,.string s,.string h,.int .i64 p,.string pa,.string q] 40)=w1 at x1 B1 ⊢;obtain⟨c0,c1,c2,c3,c4,c5⟩:=x1.cs;refine(CS.out _).mono ?_;rintro e w1 ⟨rfl,rfl⟩
    go_wp2_with (first
     | (go_at_call 139;refine(CS.out _).mono ?_;rintro e w' ⟨rfl,rfl⟩)
     | (go_at_call 202;refine(CD.out _).mono ?_;rintro e w' ⟨rfl,rfl⟩)
     | (go_at_call 203;refine(CRs.out _).mono ?_;rintro e w' ⟨rfl,rfl⟩)
     | (go_at_call 191;refine(CH.out _).mono ?_;rintro e w' ⟨rfl,rfl⟩)
     | (go_at_call 206;refine(CV.out _).mono ?_;rintro e w' ⟨rfl,rfl⟩)
     | (go_at_call 205;refine(CC.out _).mono ?_;rintro e w2 ⟨rfl,b2⟩
        have x2:=x1.below b2;have B2:=B1.trans (b2.mono (zT x1.lt));have d0:=x2.c0;have d1:=x2.c1;have d2:=x2.c2;have d3:=x2.c3;have d4:=x2.c4
        have d5:=x2.c5)
     | (go_at_call 204;refine(CT.out _).mono ?_;rintro e w9 ⟨rfl,b9⟩
        have B9:=B1.trans (b9.mono (zT x1.lt))))
    go_ret
    exact⟨aA (by rw[show decide ((T.size:Int)<=500)=false from decide_eq_false (by omega)];exact HF.out),by rw[HR.out];exact B9⟩
 case false =>
  by_cases hd0:d=0
  · have g1:((d:Int)==0)=true:=by rw[beq_iff_eq];omega
    have HF:Hid (false=aT (uM false s h p pa q)):=zH (by rw[HM.out,hd0];rfl);clear hd0
    go_enter Tryz.func152,Tryz.ntmps152
    go_wp2_with fail
    have x1:=BX.made w false s h p pa q;have B1:Below w.heap.size w (w.alloc (.cells #[.bool false,.string s,.string h,.int .i64 p,.string pa,.string q] 40)):=(zB _ _).alloc (zL _) _;generalize hR:w.heap.size=R at x1 B1 ⊢;have HR:=zH hR;clear hR;generalize w.alloc (.cells #[.bool false,.string s,.string h,.int .i64 p,.string pa,.string q] 40)=w1 at x1 B1 ⊢;obtain⟨c0,c1,c2,c3,c4,c5⟩:=x1.cs;refine(CS.out _).mono ?_;rintro e w1 ⟨rfl,rfl⟩
    go_wp2_with (first
     | (go_at_call 139;refine(CS.out _).mono ?_;rintro e w' ⟨rfl,rfl⟩)
     | (go_at_call 202;refine(CD.out _).mono ?_;rintro e w' ⟨rfl,rfl⟩)
     | (go_at_call 203;refine(CRs.out _).mono ?_;rintro e w' ⟨rfl,rfl⟩)
     | (go_at_call 191;refine(CH.out _).mono ?_;rintro e w' ⟨rfl,rfl⟩)
     | (go_at_call 206;refine(CV.out _).mono ?_;rintro e w' ⟨rfl,rfl⟩)
     | (go_at_call 205;refine(CC.out _).mono ?_;rintro e w2 ⟨rfl,b2⟩
        have x2:=x1.below b2;have B2:=B1.trans (b2.mono (zT x1.lt));have d0:=x2.c0;have d1:=x2.c1;have d2:=x2.c2;have d3:=x2.c3;have d4:=x2.c4
        have d5:=x2.c5)
     | (go_at_call 204;refine(CT.out _).mono ?_;rintro e w9 ⟨rfl,b9⟩
        have B9:=B2.trans (b9.mono (zT x2.lt))))
    go_ret
    exact⟨aA HF.out,by rw[HR.out];exact B1⟩
  have g1:((d:Int)==0)=false:=by rw[beq_eq_false_iff_ne];omega
  have HD:=zH hd0;clear hd0
  cases hb
  · have HD2:=HD
    have HF:Hid (false=aT (uM false s h p pa q)):=zH (by rw[HM.out];simp)
    go_enter Tryz.func152,Tryz.ntmps152
    go_wp2_with fail
    have x1:=BX.made w false s h p pa q;have B1:Below w.heap.size w (w.alloc (.cells #[.bool false,.string s,.string h,.int .i64 p,.string pa,.string q] 40)):=(zB _ _).alloc (zL _) _;generalize hR:w.heap.size=R at x1 B1 ⊢;have HR:=zH hR;clear hR;generalize w.alloc (.cells #[.bool false,.string s,.string h,.int .i64 p,.string pa,.string q] 40)=w1 at x1 B1 ⊢;obtain⟨c0,c1,c2,c3,c4,c5⟩:=x1.cs;refine(CS.out _).mono ?_;rintro e w1 ⟨rfl,rfl⟩
    go_wp2_with (first
     | (go_at_call 139;refine(CS.out _).mono ?_;rintro e w' ⟨rfl,rfl⟩)
     | (go_at_call 202;refine(CD.out _).mono ?_;rintro e w' ⟨rfl,rfl⟩)
     | (go_at_call 203;refine(CRs.out _).mono ?_;rintro e w' ⟨rfl,rfl⟩)
     | (go_at_call 191;refine(CH.out _).mono ?_;rintro e w' ⟨rfl,rfl⟩)
     | (go_at_call 206;refine(CV.out _).mono ?_;rintro e w' ⟨rfl,rfl⟩)
     | (go_at_call 205;refine(CC.out _).mono ?_;rintro e w2 ⟨rfl,b2⟩
        have x2:=x1.below b2;have B2:=B1.trans (b2.mono (zT x1.lt));have d0:=x2.c0;have d1:=x2.c1;have d2:=x2.c2;have d3:=x2.c3;have d4:=x2.c4
        have d5:=x2.c5)
     | (go_at_call 204;refine(CT.out _).mono ?_;rintro e w9 ⟨rfl,b9⟩
        have B9:=B2.trans (b9.mono (zT x2.lt))))
    go_ret
    exact⟨aA HF.out,by rw[HR.out];exact B1⟩
  by_cases p0:p<0
  · have HD2:=HD
    have HF:Hid (false=aT (uM false s h p pa q)):=zH (by rw[HM.out,decide_eq_false (show ¬ 0<=p by omega)];simp)
    go_enter Tryz.func152,Tryz.ntmps152
    go_wp2_with fail
    have x1:=BX.made w false s h p pa q;have B1:Below w.heap.size w (w.alloc (.cells #[.bool false,.string s,.string h,.int .i64 p,.string pa,.string q] 40)):=(zB _ _).alloc (zL _) _;generalize hR:w.heap.size=R at x1 B1 ⊢;have HR:=zH hR;clear hR;generalize w.alloc (.cells #[.bool false,.string s,.string h,.int .i64 p,.string pa,.string q] 40)=w1 at x1 B1 ⊢;obtain⟨c0,c1,c2,c3,c4,c5⟩:=x1.cs;refine(CS.out _).mono ?_;rintro e w1 ⟨rfl,rfl⟩
    go_wp2_with (first
     | (go_at_call 139;refine(CS.out _).mono ?_;rintro e w' ⟨rfl,rfl⟩)
     | (go_at_call 202;refine(CD.out _).mono ?_;rintro e w' ⟨rfl,rfl⟩)
     | (go_at_call 203;refine(CRs.out _).mono ?_;rintro e w' ⟨rfl,rfl⟩)
     | (go_at_call 191;refine(CH.out _).mono ?_;rintro e w' ⟨rfl,rfl⟩)
     | (go_at_call 206;refine(CV.out _).mono ?_;rintro e w' ⟨rfl,rfl⟩)
     | (go_at_call 205;refine(CC.out _).mono ?_;rintro e w2 ⟨rfl,b2⟩
        have x2:=x1.below b2;have B2:=B1.trans (b2.mono (zT x1.lt));have d0:=x2.c0;have d1:=x2.c1;have d2:=x2.c2;have d3:=x2.c3;have d4:=x2.c4
        have d5:=x2.c5)
     | (go_at_call 204;refine(CT.out _).mono ?_;rintro e w9 ⟨rfl,b9⟩
        have B9:=B2.trans (b9.mono (zT x2.lt))))
    go_ret
    exact⟨aA HF.out,by rw[HR.out];exact B1⟩
  by_cases p1:65535<p
  · have HD2:=HD
    have HF:Hid (false=aT (uM false s h p pa q)):=zH (by rw[HM.out,decide_eq_false (show ¬ p<=65535 by omega)];simp)
    go_enter Tryz.func152,Tryz.ntmps152
    go_wp2_with fail
    have x1:=BX.made w false s h p pa q;have B1:Below w.heap.size w (w.alloc (.cells #[.bool false,.string s,.string h,.int .i64 p,.string pa,.string q] 40)):=(zB _ _).alloc (zL _) _;generalize hR:w.heap.size=R at x1 B1 ⊢;have HR:=zH hR;clear hR;generalize w.alloc (.cells #[.bool false,.string s,.string h,.int .i64 p,.string pa,.string q] 40)=w1 at x1 B1 ⊢;obtain⟨c0,c1,c2,c3,c4,c5⟩:=x1.cs;refine(CS.out _).mono ?_;rintro e w1 ⟨rfl,rfl⟩
    go_wp2_with (first
     | (go_at_call 139;refine(CS.out _).mono ?_;rintro e w' ⟨rfl,rfl⟩)
     | (go_at_call 202;refine(CD.out _).mono ?_;rintro e w' ⟨rfl,rfl⟩)
     | (go_at_call 203;refine(CRs.out _).mono ?_;rintro e w' ⟨rfl,rfl⟩)
     | (go_at_call 191;refine(CH.out _).mono ?_;rintro e w' ⟨rfl,rfl⟩)
     | (go_at_call 206;refine(CV.out _).mono ?_;rintro e w' ⟨rfl,rfl⟩)
     | (go_at_call 205;refine(CC.out _).mono ?_;rintro e w2 ⟨rfl,b2⟩
        have x2:=x1.below b2;have B2:=B1.trans (b2.mono (zT x1.lt));have d0:=x2.c0;have d1:=x2.c1;have d2:=x2.c2;have d3:=x2.c3;have d4:=x2.c4
        have d5:=x2.c5)
     | (go_at_call 204;refine(CT.out _).mono ?_;rintro e w9 ⟨rfl,b9⟩
        have B9:=B2.trans (b9.mono (zT x2.lt))))
    go_ret
    exact⟨aA HF.out,by rw[HR.out];exact B1⟩
  by_cases p2:p=(d:Int)
  · have g3:(p==(d:Int))=true:=by rw[beq_iff_eq];exact p2
    have HF:Hid (false=aT (uM false s h p pa q)):=zH (by rw[HM.out,decide_eq_false (show ¬ p≠(d:Int)from fun h=>h p2)];simp);clear p2
    go_enter Tryz.func152,Tryz.ntmps152
    go_wp2_with fail
    have x1:=BX.made w false s h p pa q;have B1:Below w.heap.size w (w.alloc (.cells #[.bool false,.string s,.string h,.int .i64 p,.string pa,.string q] 40)):=(zB _ _).alloc (zL _) _;generalize hR:w.heap.size=R at x1 B1 ⊢;have HR:=zH hR;clear hR;generalize w.alloc (.cells #[.bool false,.string s,.string h,.int .i64 p,.string pa,.string q] 40)=w1 at x1 B1 ⊢;obtain⟨c0,c1,c2,c3,c4,c5⟩:=x1.cs;refine(CS.out _).mono ?_;rintro e w1 ⟨rfl,rfl⟩
    go_wp2_with (first
     | (go_at_call 139;refine(CS.out _).mono ?_;rintro e w' ⟨rfl,rfl⟩)
     | (go_at_call 202;refine(CD.out _).mono ?_;rintro e w' ⟨rfl,rfl⟩)
     | (go_at_call 203;refine(CRs.out _).mono ?_;rintro e w' ⟨rfl,rfl⟩)
     | (go_at_call 191;refine(CH.out _).mono ?_;rintro e w' ⟨rfl,rfl⟩)
     | (go_at_call 206;refine(CV.out _).mono ?_;rintro e w' ⟨rfl,rfl⟩)
     | (go_at_call 205;refine(CC.out _).mono ?_;rintro e w2 ⟨rfl,b2⟩
        have x2:=x1.below b2;have B2:=B1.trans (b2.mono (zT x1.lt));have d0:=x2.c0;have d1:=x2.c1;have d2:=x2.c2;have d3:=x2.c3;have d4:=x2.c4
        have d5:=x2.c5)
     | (go_at_call 204;refine(CT.out _).mono ?_;rintro e w9 ⟨rfl,b9⟩
        have B9:=B2.trans (b9.mono (zT x2.lt))))
    go_ret
    exact⟨aA HF.out,by rw[HR.out];exact B1⟩
  have g3:(p==(d:Int))=false:=by rw[beq_eq_false_iff_ne];exact p2
  have HP:=zH p2;clear p2
  cases cb
  · have HD2:=HD
    have HF:Hid (false=aT (uM false s h p pa q)):=zH (by rw[HM.out];simp)
    go_enter Tryz.func152,Tryz.ntmps152
    go_wp2_with fail
    have x1:=BX.made w false s h p pa q;have B1:Below w.heap.size w (w.alloc (.cells #[.bool false,.string s,.string h,.int .i64 p,.string pa,.string q] 40)):=(zB _ _).alloc (zL _) _;generalize hR:w.heap.size=R at x1 B1 ⊢;have HR:=zH hR;clear hR;generalize w.alloc (.cells #[.bool false,.string s,.string h,.int .i64 p,.string pa,.string q] 40)=w1 at x1 B1 ⊢;obtain⟨c0,c1,c2,c3,c4,c5⟩:=x1.cs;refine(CS.out _).mono ?_;rintro e w1 ⟨rfl,rfl⟩
    go_wp2_with (first
     | (go_at_call 139;refine(CS.out _).mono ?_;rintro e w' ⟨rfl,rfl⟩)
     | (go_at_call 202;refine(CD.out _).mono ?_;rintro e w' ⟨rfl,rfl⟩)
     | (go_at_call 203;refine(CRs.out _).mono ?_;rintro e w' ⟨rfl,rfl⟩)
     | (go_at_call 191;refine(CH.out _).mono ?_;rintro e w' ⟨rfl,rfl⟩)
     | (go_at_call 206;refine(CV.out _).mono ?_;rintro e w' ⟨rfl,rfl⟩)
     | (go_at_call 205;refine(CC.out _).mono ?_;rintro e w2 ⟨rfl,b2⟩
        have x2:=x1.below b2;have B2:=B1.trans (b2.mono (zT x1.lt));have d0:=x2.c0;have d1:=x2.c1;have d2:=x2.c2;have d3:=x2.c3;have d4:=x2.c4
        have d5:=x2.c5)
     | (go_at_call 204;refine(CT.out _).mono ?_;rintro e w9 ⟨rfl,b9⟩
        have B9:=B2.trans (b9.mono (zT x2.lt))))
    go_ret
    exact⟨aA HF.out,by rw[HR.out];exact B2⟩
  have CT:=HTX.out (fun _=>⟨by omega,by omega⟩)
  have HE:Hid (aT (uM false s h p pa q)=(fW q.data.toList&&decide (T.size<=500))):=zH (by
   rw[HM.out,decide_eq_true HD.out,decide_eq_true (show 0<=p by omega),decide_eq_true (show p<=65535 by omega),decide_eq_true HP.out];simp)
  clear HTX HM;rcases hqm with ⟨hq0,gq,hqm⟩ | ⟨gq,hq0,hqm⟩
  · have HQ:=zH hqm
    clear hqm
    by_cases hz:(T.size:Int)<=500
    · have HD2:=HD
      have HF:Hid (true=aT (uM false s h p pa q)):=zH (by rw[HE.out,HQ.out,decide_eq_true (show T.size<=500 by omega)];rfl)
      go_enter Tryz.func152,Tryz.ntmps152
      go_wp2_with fail
      have x1:=BX.made w false s h p pa q;have B1:Below w.heap.size w (w.alloc (.cells #[.bool false,.string s,.string h,.int .i64 p,.string pa,.string q] 40)):=(zB _ _).alloc (zL _) _;generalize hR:w.heap.size=R at x1 B1 ⊢;have HR:=zH hR;clear hR;generalize w.alloc (.cells #[.bool false,.string s,.string h,.int .i64 p,.string pa,.string q] 40)=w1 at x1 B1 ⊢;obtain⟨c0,c1,c2,c3,c4,c5⟩:=x1.cs;refine(CS.out _).mono ?_;rintro e w1 ⟨rfl,rfl⟩
      go_wp2_with (first
       | (go_at_call 139;refine(CS.out _).mono ?_;rintro e w' ⟨rfl,rfl⟩)
       | (go_at_call 202;refine(CD.out _).mono ?_;rintro e w' ⟨rfl,rfl⟩)
       | (go_at_call 203;refine(CRs.out _).mono ?_;rintro e w' ⟨rfl,rfl⟩)
       | (go_at_call 191;refine(CH.out _).mono ?_;rintro e w' ⟨rfl,rfl⟩)
       | (go_at_call 206;refine(CV.out _).mono ?_;rintro e w' ⟨rfl,rfl⟩)
       | (go_at_call 205;refine(CC.out _).mono ?_;rintro e w2 ⟨rfl,b2⟩
          have x2:=x1.below b2;have B2:=B1.trans (b2.mono (zT x1.lt));have d0:=x2.c0;have d1:=x2.c1;have d2:=x2.c2;have d3:=x2.c3;have d4:=x2.c4
          have d5:=x2.c5)
       | (go_at_call 204;refine(CT.out _).mono ?_;rintro e w9 ⟨rfl,b9⟩
          have B9:=B2.trans (b9.mono (zT x2.lt))))
      go_ret
      exact⟨aA HF.out,by rw[HR.out];exact B9⟩
    · have HD2:=HD
      have HF:Hid (false=aT (uM false s h p pa q)):=zH (by rw[HE.out,decide_eq_false (show ¬ T.size<=500 by omega)];simp)
      go_enter Tryz.func152,Tryz.ntmps152
      go_wp2_with fail
      have x1:=BX.made w false s h p pa q;have B1:Below w.heap.size w (w.alloc (.cells #[.bool false,.string s,.string h,.int .i64 p,.string pa,.string q] 40)):=(zB _ _).alloc (zL _) _;generalize hR:w.heap.size=R at x1 B1 ⊢;have HR:=zH hR;clear hR;generalize w.alloc (.cells #[.bool false,.string s,.string h,.int .i64 p,.string pa,.string q] 40)=w1 at x1 B1 ⊢;obtain⟨c0,c1,c2,c3,c4,c5⟩:=x1.cs;refine(CS.out _).mono ?_;rintro e w1 ⟨rfl,rfl⟩
      go_wp2_with (first
       | (go_at_call 139;refine(CS.out _).mono ?_;rintro e w' ⟨rfl,rfl⟩)
       | (go_at_call 202;refine(CD.out _).mono ?_;rintro e w' ⟨rfl,rfl⟩)
       | (go_at_call 203;refine(CRs.out _).mono ?_;rintro e w' ⟨rfl,rfl⟩)
       | (go_at_call 191;refine(CH.out _).mono ?_;rintro e w' ⟨rfl,rfl⟩)
       | (go_at_call 206;refine(CV.out _).mono ?_;rintro e w' ⟨rfl,rfl⟩)
       | (go_at_call 205;refine(CC.out _).mono ?_;rintro e w2 ⟨rfl,b2⟩
          have x2:=x1.below b2;have B2:=B1.trans (b2.mono (zT x1.lt));have d0:=x2.c0;have d1:=x2.c1;have d2:=x2.c2;have d3:=x2.c3;have d4:=x2.c4
          have d5:=x2.c5)
       | (go_at_call 204;refine(CT.out _).mono ?_;rintro e w9 ⟨rfl,b9⟩
          have B9:=B2.trans (b9.mono (zT x2.lt))))
      go_ret
      exact⟨aA (by rw[show decide ((T.size:Int)<=500)=false from decide_eq_false (by omega)];exact HF.out),by rw[HR.out];exact B9⟩
  · have HQ:=zH hqm
    clear hqm
    cases gx:((q[0].toNat:Int)==63)
    · have gy:((q[0].toNat:Int) != 63)=true:=by rw[bne,gx];rfl
      have HF:Hid (false=aT (uM false s h p pa q)):=zH (by rw[HE.out,HQ.out,gx];rfl)
      go_enter Tryz.func152,Tryz.ntmps152
      go_wp2_with fail
      have x1:=BX.made w false s h p pa q;have B1:Below w.heap.size w (w.alloc (.cells #[.bool false,.string s,.string h,.int .i64 p,.string pa,.string q] 40)):=(zB _ _).alloc (zL _) _;generalize hR:w.heap.size=R at x1 B1 ⊢;have HR:=zH hR;clear hR;generalize w.alloc (.cells #[.bool false,.string s,.string h,.int .i64 p,.string pa,.string q] 40)=w1 at x1 B1 ⊢;obtain⟨c0,c1,c2,c3,c4,c5⟩:=x1.cs;refine(CS.out _).mono ?_;rintro e w1 ⟨rfl,rfl⟩
      go_wp2_with (first
       | (go_at_call 139;refine(CS.out _).mono ?_;rintro e w' ⟨rfl,rfl⟩)
       | (go_at_call 202;refine(CD.out _).mono ?_;rintro e w' ⟨rfl,rfl⟩)
       | (go_at_call 203;refine(CRs.out _).mono ?_;rintro e w' ⟨rfl,rfl⟩)
       | (go_at_call 191;refine(CH.out _).mono ?_;rintro e w' ⟨rfl,rfl⟩)
       | (go_at_call 206;refine(CV.out _).mono ?_;rintro e w' ⟨rfl,rfl⟩)
       | (go_at_call 205;refine(CC.out _).mono ?_;rintro e w2 ⟨rfl,b2⟩
          have x2:=x1.below b2;have B2:=B1.trans (b2.mono (zT x1.lt));have d0:=x2.c0;have d1:=x2.c1;have d2:=x2.c2;have d3:=x2.c3;have d4:=x2.c4
          have d5:=x2.c5)
       | (go_at_call 204;refine(CT.out _).mono ?_;rintro e w9 ⟨rfl,b9⟩
          have B9:=B2.trans (b9.mono (zT x2.lt))))
      go_ret
      exact⟨aA HF.out,by rw[HR.out];exact B2⟩
    have gy:((q[0].toNat:Int) != 63)=false:=by rw[bne,gx];rfl
    cases vb
    · have HD2:=HD
      have HF:Hid (false=aT (uM false s h p pa q)):=zH (by rw[HE.out,HQ.out,gx];rfl)
      go_enter Tryz.func152,Tryz.ntmps152
      go_wp2_with fail
      have x1:=BX.made w false s h p pa q;have B1:Below w.heap.size w (w.alloc (.cells #[.bool false,.string s,.string h,.int .i64 p,.string pa,.string q] 40)):=(zB _ _).alloc (zL _) _;generalize hR:w.heap.size=R at x1 B1 ⊢;have HR:=zH hR;clear hR;generalize w.alloc (.cells #[.bool false,.string s,.string h,.int .i64 p,.string pa,.string q] 40)=w1 at x1 B1 ⊢;obtain⟨c0,c1,c2,c3,c4,c5⟩:=x1.cs;refine(CS.out _).mono ?_;rintro e w1 ⟨rfl,rfl⟩
      go_wp2_with (first
       | (go_at_call 139;refine(CS.out _).mono ?_;rintro e w' ⟨rfl,rfl⟩)
       | (go_at_call 202;refine(CD.out _).mono ?_;rintro e w' ⟨rfl,rfl⟩)
       | (go_at_call 203;refine(CRs.out _).mono ?_;rintro e w' ⟨rfl,rfl⟩)
       | (go_at_call 191;refine(CH.out _).mono ?_;rintro e w' ⟨rfl,rfl⟩)
       | (go_at_call 206;refine(CV.out _).mono ?_;rintro e w' ⟨rfl,rfl⟩)
       | (go_at_call 205;refine(CC.out _).mono ?_;rintro e w2 ⟨rfl,b2⟩
          have x2:=x1.below b2;have B2:=B1.trans (b2.mono (zT x1.lt));have d0:=x2.c0;have d1:=x2.c1;have d2:=x2.c2;have d3:=x2.c3;have d4:=x2.c4
          have d5:=x2.c5)
       | (go_at_call 204;refine(CT.out _).mono ?_;rintro e w9 ⟨rfl,b9⟩
          have B9:=B2.trans (b9.mono (zT x2.lt))))
      go_ret
      exact⟨aA HF.out,by rw[HR.out];exact B2⟩
    by_cases hz:(T.size:Int)<=500
    · have HD2:=HD
      have HF:Hid (true=aT (uM false s h p pa q)):=zH (by rw[HE.out,HQ.out,gx,decide_eq_true (show T.size<=500 by omega)];rfl)
      go_enter Tryz.func152,Tryz.ntmps152
      go_wp2_with fail
      have x1:=BX.made w false s h p pa q;have B1:Below w.heap.size w (w.alloc (.cells #[.bool false,.string s,.string h,.int .i64 p,.string pa,.string q] 40)):=(zB _ _).alloc (zL _) _;generalize hR:w.heap.size=R at x1 B1 ⊢;have HR:=zH hR;clear hR;generalize w.alloc (.cells #[.bool false,.string s,.string h,.int .i64 p,.string pa,.string q] 40)=w1 at x1 B1 ⊢;obtain⟨c0,c1,c2,c3,c4,c5⟩:=x1.cs;refine(CS.out _).mono ?_;rintro e w1 ⟨rfl,rfl⟩
      go_wp2_with (first
       | (go_at_call 139;refine(CS.out _).mono ?_;rintro e w' ⟨rfl,rfl⟩)
       | (go_at_call 202;refine(CD.out _).mono ?_;rintro e w' ⟨rfl,rfl⟩)
       | (go_at_call 203;refine(CRs.out _).mono ?_;rintro e w' ⟨rfl,rfl⟩)
       | (go_at_call 191;refine(CH.out _).mono ?_;rintro e w' ⟨rfl,rfl⟩)
       | (go_at_call 206;refine(CV.out _).mono ?_;rintro e w' ⟨rfl,rfl⟩)
       | (go_at_call 205;refine(CC.out _).mono ?_;rintro e w2 ⟨rfl,b2⟩
          have x2:=x1.below b2;have B2:=B1.trans (b2.mono (zT x1.lt));have d0:=x2.c0;have d1:=x2.c1;have d2:=x2.c2;have d3:=x2.c3;have d4:=x2.c4
          have d5:=x2.c5)
       | (go_at_call 204;refine(CT.out _).mono ?_;rintro e w9 ⟨rfl,b9⟩
          have B9:=B2.trans (b9.mono (zT x2.lt))))
      go_ret
      exact⟨aA HF.out,by rw[HR.out];exact B9⟩
    · have HD2:=HD
      have HF:Hid (false=aT (uM false s h p pa q)):=zH (by rw[HE.out,decide_eq_false (show ¬ T.size<=500 by omega)];simp)
      go_enter Tryz.func152,Tryz.ntmps152
      go_wp2_with fail
      have x1:=BX.made w false s h p pa q;have B1:Below w.heap.size w (w.alloc (.cells #[.bool false,.string s,.string h,.int .i64 p,.string pa,.string q] 40)):=(zB _ _).alloc (zL _) _;generalize hR:w.heap.size=R at x1 B1 ⊢;have HR:=zH hR;clear hR;generalize w.alloc (.cells #[.bool false,.string s,.string h,.int .i64 p,.string pa,.string q] 40)=w1 at x1 B1 ⊢;obtain⟨c0,c1,c2,c3,c4,c5⟩:=x1.cs;refine(CS.out _).mono ?_;rintro e w1 ⟨rfl,rfl⟩
      go_wp2_with (first
       | (go_at_call 139;refine(CS.out _).mono ?_;rintro e w' ⟨rfl,rfl⟩)
       | (go_at_call 202;refine(CD.out _).mono ?_;rintro e w' ⟨rfl,rfl⟩)
       | (go_at_call 203;refine(CRs.out _).mono ?_;rintro e w' ⟨rfl,rfl⟩)
       | (go_at_call 191;refine(CH.out _).mono ?_;rintro e w' ⟨rfl,rfl⟩)
       | (go_at_call 206;refine(CV.out _).mono ?_;rintro e w' ⟨rfl,rfl⟩)
       | (go_at_call 205;refine(CC.out _).mono ?_;rintro e w2 ⟨rfl,b2⟩
          have x2:=x1.below b2;have B2:=B1.trans (b2.mono (zT x1.lt));have d0:=x2.c0;have d1:=x2.c1;have d2:=x2.c2;have d3:=x2.c3;have d4:=x2.c4
          have d5:=x2.c5)
       | (go_at_call 204;refine(CT.out _).mono ?_;rintro e w9 ⟨rfl,b9⟩
          have B9:=B2.trans (b9.mono (zT x2.lt))))
      go_ret
      exact⟨aA (by rw[show decide ((T.size:Int)<=500)=false from decide_eq_false (by omega)];exact HF.out),by rw[HR.out];exact B9⟩
theorem cJ (o:Bool)(s h:ByteArray)(p:Int)(pa q:ByteArray)(b:Bool)(hb:aT (uM o s h p pa q)=b)(hs:s.size<=100000)(hh:h.size<=100000)(hpa:pa.size<=100000)(hq:q.size<=100000):Hid (∀ W,Calls Tryz.prog 152 #[uV o s h p pa q] W fun e w'=>e=.returned (.bool b)/\Below W.heap.size W w') :=
 zH fun W=>by rw[<- hb];exact wH o s h p pa q hs hh hpa hq W
end Go.Proofs.YthnogdodlhkldaaGreatDoor
