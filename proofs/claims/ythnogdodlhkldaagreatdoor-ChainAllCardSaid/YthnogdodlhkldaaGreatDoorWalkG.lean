/- An address that is right: the program's isRanked, isOpaque. -/
import Derived.Test.YthnogdodlhkldaaGreatDoorShelfB
import Derived.Lib.AppendIntMem
set_option maxRecDepth 100000
set_option maxHeartbeats 2000000
namespace Go.Proofs.YthnogdodlhkldaaGreatDoor
open Go.RowKit
def uV (o:Bool)(s h:ByteArray)(p:Int)(pa q:ByteArray):Value := .agg #[.bool o,.string s,.string h,.int .i64 p,.string pa,.string q]
def uM (o:Bool)(s h:ByteArray)(p:Int)(pa q:ByteArray):U:=⟨o,s.data.toList,h.data.toList,p,pa.data.toList,q.data.toList⟩
def BX (w:World)(R:Nat)(o:Bool)(s h:ByteArray)(p:Int)(pa q:ByteArray):Prop:=w.heap[R]? = some (.cells #[.bool o,.string s,.string h,.int .i64 p,.string pa,.string q] 40 (0,0))
theorem BX.lt {w:World}{R:Nat}{s h pa q:ByteArray}{o:Bool}{p:Int}(a:BX w R o s h p pa q):R<w.heap.size:=aD a
theorem BX.below {w w':World}{R:Nat}{s h pa q:ByteArray}{o:Bool}{p:Int}(a:BX w R o s h p pa q)(hb:Below w.heap.size w w'):BX w' R o s h p pa q:=by
 unfold BX at *;rw[hb.block R (aD a)];exact a
theorem BX.made (w:World)(o:Bool)(s h:ByteArray)(p:Int)(pa q:ByteArray):BX (w.alloc (.cells #[.bool o,.string s,.string h,.int .i64 p,.string pa,.string q] 40)) w.heap.size o s h p pa q:=aW w _
theorem BX.c0 {w:World}{R:Nat}{s h pa q:ByteArray}{o:Bool}{p:Int}(a:BX w R o s h p pa q):w.cell? ⟨R,0,none⟩=some (.bool o):=by rw[aG a];rfl
theorem BX.c1 {w:World}{R:Nat}{s h pa q:ByteArray}{o:Bool}{p:Int}(a:BX w R o s h p pa q):w.cell? ⟨R,1,none⟩=some (.string s):=by rw[aG a];rfl
theorem BX.c2 {w:World}{R:Nat}{s h pa q:ByteArray}{o:Bool}{p:Int}(a:BX w R o s h p pa q):w.cell? ⟨R,2,none⟩=some (.string h):=by rw[aG a];rfl
theorem BX.c3 {w:World}{R:Nat}{s h pa q:ByteArray}{o:Bool}{p:Int}(a:BX w R o s h p pa q):w.cell? ⟨R,3,none⟩=some (.int .i64 p):=by rw[aG a];rfl
theorem BX.c4 {w:World}{R:Nat}{s h pa q:ByteArray}{o:Bool}{p:Int}(a:BX w R o s h p pa q):w.cell? ⟨R,4,none⟩=some (.string pa):=by rw[aG a];rfl
theorem BX.c5 {w:World}{R:Nat}{s h pa q:ByteArray}{o:Bool}{p:Int}(a:BX w R o s h p pa q):w.cell? ⟨R,5,none⟩=some (.string q):=by rw[aG a];rfl
theorem BX.cs {w:World}{R:Nat}{s h pa q:ByteArray}{o:Bool}{p:Int}(a:BX w R o s h p pa q):w.cell? ⟨R,0,none⟩=some (.bool o)/\w.cell? ⟨R,1,none⟩=some (.string s)/\w.cell? ⟨R,2,none⟩=some (.string h)/\w.cell? ⟨R,3,none⟩=some (.int .i64 p)/\w.cell? ⟨R,4,none⟩=some (.string pa)/\w.cell? ⟨R,5,none⟩=some (.string q):=⟨a.c0,a.c1,a.c2,a.c3,a.c4,a.c5⟩
theorem aQ.made {w:World}(h:aQ w)(x:Obj):aQ (w.alloc x):=h.below ((zB _ _).alloc (zL _) _)
theorem aM4 (o:Bool)(s h:ByteArray)(p:Int)(pa q:ByteArray)(_hs:s.size<=100000)(hh:h.size<=100000)(hpa:pa.size<=100000)(hq:q.size<=100000)(w:World)(hmx:aQ w):Calls Tryz.prog 57 #[uV o s h p pa q] w fun e w'=>e=.returned (.bool (cW (uM o s h p pa q)))/\Below w.heap.size w w':=by
 have hM:cW (uM o s h p pa q)=(decide (kM s.data.toList≠0)&&bW h.data.toList&&decide (0<=p)&&decide (p<=65535)&&decide (p≠(kM s.data.toList:Int))&&fI pa.data.toList&&fW q.data.toList):=rfl;obtain⟨d,hd⟩:∃ d,kM s.data.toList=d:=⟨_,rfl⟩;obtain⟨hb,hhb⟩:∃ b,bW h.data.toList=b:=⟨_,rfl⟩;obtain⟨pb,hpb⟩:∃ b,fI pa.data.toList=b:=⟨_,rfl⟩;obtain⟨qb,hqb⟩:∃ b,fW q.data.toList=b:=⟨_,rfl⟩;have CD:=gK s d hd;have CH:=host_hid h hb hhb (by omega);have CP:=path_hid pa pb hpb (by omega);have CQ:=bB1 q qb hqb (by omega);rw[hd,hhb,hpb,hqb]at hM;have HM:=zH hM;clear hM hd hhb hpb hqb hh hpa hq;unfold uV
 by_cases h1:d=0
 · have g1:((d:Int) != 0)=false:=by rw[bne_eq_false_iff_eq];omega
   have HF:Hid (false=cW (uM o s h p pa q)):=zH (by rw[HM.out,h1];rfl);clear h1
   go_enter Tryz.func57,Tryz.ntmps57
   go_wp2_with fail
   have x1:=BX.made w o s h p pa q;have m1:=hmx.made (.cells #[.bool o,.string s,.string h,.int .i64 p,.string pa,.string q] 40);have B1:Below w.heap.size w (w.alloc (.cells #[.bool o,.string s,.string h,.int .i64 p,.string pa,.string q] 40)):=(zB _ _).alloc (zL _) _;generalize hR:w.heap.size=R at x1 B1 ⊢;have HR:=zH hR;clear hR;generalize w.alloc (.cells #[.bool o,.string s,.string h,.int .i64 p,.string pa,.string q] 40)=w1 at x1 B1 m1 ⊢;refine(CD.out _).mono ?_;rintro e w1 ⟨rfl,rfl⟩;have c2:=x1.c2
   go_wp2
   go_ret
   exact⟨aA HF.out,by rw[HR.out];exact B1⟩
 have g1:((d:Int) != 0)=true:=by rw[bne_iff_ne];omega
 cases hb
 · have HF:Hid (false=cW (uM o s h p pa q)):=zH (by rw[HM.out];simp)
   clear h1
   go_enter Tryz.func57,Tryz.ntmps57
   go_wp2_with fail
   have x1:=BX.made w o s h p pa q;have m1:=hmx.made (.cells #[.bool o,.string s,.string h,.int .i64 p,.string pa,.string q] 40);have B1:Below w.heap.size w (w.alloc (.cells #[.bool o,.string s,.string h,.int .i64 p,.string pa,.string q] 40)):=(zB _ _).alloc (zL _) _;generalize hR:w.heap.size=R at x1 B1 ⊢;have HR:=zH hR;clear hR;generalize w.alloc (.cells #[.bool o,.string s,.string h,.int .i64 p,.string pa,.string q] 40)=w1 at x1 B1 m1 ⊢;refine(CD.out _).mono ?_;rintro e w1 ⟨rfl,rfl⟩;have c2:=x1.c2
   go_wp2_with fail
   refine(CH.out _ m1).mono ?_;rintro e w2 ⟨rfl,b2⟩;have x2:=x1.below b2;have m2:=m1.below b2;have B2:Below R w w2:=B1.trans (b2.mono (zT x1.lt));have c3:=x2.c3;have c4:=x2.c4
   go_wp2
   go_ret
   exact⟨aA HF.out,by rw[HR.out];exact B2⟩
 by_cases h2:(0:Int)<=p
 case neg =>
  have HF:Hid (false=cW (uM o s h p pa q)):=zH (by rw[HM.out,decide_eq_false h2];simp);clear h1
  go_enter Tryz.func57,Tryz.ntmps57
  go_wp2_with fail
  have x1:=BX.made w o s h p pa q;have m1:=hmx.made (.cells #[.bool o,.string s,.string h,.int .i64 p,.string pa,.string q] 40);have B1:Below w.heap.size w (w.alloc (.cells #[.bool o,.string s,.string h,.int .i64 p,.string pa,.string q] 40)):=(zB _ _).alloc (zL _) _;generalize hR:w.heap.size=R at x1 B1 ⊢;have HR:=zH hR;clear hR;generalize w.alloc (.cells #[.bool o,.string s,.string h,.int .i64 p,.string pa,.string q] 40)=w1 at x1 B1 m1 ⊢;refine(CD.out _).mono ?_;rintro e w1 ⟨rfl,rfl⟩;have c2:=x1.c2
  go_wp2_with fail
  refine(CH.out _ m1).mono ?_;rintro e w2 ⟨rfl,b2⟩;have x2:=x1.below b2;have m2:=m1.below b2;have B2:Below R w w2:=B1.trans (b2.mono (zT x1.lt));have c3:=x2.c3;have c4:=x2.c4
  go_wp2
  go_ret
  exact⟨aA HF.out,by rw[HR.out];exact B2⟩
 by_cases h3:p<=65535
 case neg =>
  have HF:Hid (false=cW (uM o s h p pa q)):=zH (by rw[HM.out,decide_eq_false h3];simp);clear h1
  go_enter Tryz.func57,Tryz.ntmps57
  go_wp2_with fail
  have x1:=BX.made w o s h p pa q;have m1:=hmx.made (.cells #[.bool o,.string s,.string h,.int .i64 p,.string pa,.string q] 40);have B1:Below w.heap.size w (w.alloc (.cells #[.bool o,.string s,.string h,.int .i64 p,.string pa,.string q] 40)):=(zB _ _).alloc (zL _) _;generalize hR:w.heap.size=R at x1 B1 ⊢;have HR:=zH hR;clear hR;generalize w.alloc (.cells #[.bool o,.string s,.string h,.int .i64 p,.string pa,.string q] 40)=w1 at x1 B1 m1 ⊢;refine(CD.out _).mono ?_;rintro e w1 ⟨rfl,rfl⟩;have c2:=x1.c2
  go_wp2_with fail
  refine(CH.out _ m1).mono ?_;rintro e w2 ⟨rfl,b2⟩;have x2:=x1.below b2;have m2:=m1.below b2;have B2:Below R w w2:=B1.trans (b2.mono (zT x1.lt));have c3:=x2.c3;have c4:=x2.c4
  go_wp2
  go_ret
  exact⟨aA HF.out,by rw[HR.out];exact B2⟩
 by_cases h4:p=(d:Int)
 · have g4:(p != (d:Int))=false:=by rw[bne_eq_false_iff_eq];exact h4
   have HF:Hid (false=cW (uM o s h p pa q)):=zH (by rw[HM.out,decide_eq_false (p:=p≠(d:Int)) (by simpa using h4)];simp);clear h1 h4
   go_enter Tryz.func57,Tryz.ntmps57
   go_wp2_with fail
   have x1:=BX.made w o s h p pa q;have m1:=hmx.made (.cells #[.bool o,.string s,.string h,.int .i64 p,.string pa,.string q] 40);have B1:Below w.heap.size w (w.alloc (.cells #[.bool o,.string s,.string h,.int .i64 p,.string pa,.string q] 40)):=(zB _ _).alloc (zL _) _;generalize hR:w.heap.size=R at x1 B1 ⊢;have HR:=zH hR;clear hR;generalize w.alloc (.cells #[.bool o,.string s,.string h,.int .i64 p,.string pa,.string q] 40)=w1 at x1 B1 m1 ⊢;refine(CD.out _).mono ?_;rintro e w1 ⟨rfl,rfl⟩;have c2:=x1.c2
   go_wp2_with fail
   refine(CH.out _ m1).mono ?_;rintro e w2 ⟨rfl,b2⟩;have x2:=x1.below b2;have m2:=m1.below b2;have B2:Below R w w2:=B1.trans (b2.mono (zT x1.lt));have c3:=x2.c3;have c4:=x2.c4
   go_wp2
   go_ret
   exact⟨aA HF.out,by rw[HR.out];exact B2⟩
 have g4:(p != (d:Int))=true:=by rw[bne_iff_ne];exact h4
 cases pb
 · have HF:Hid (false=cW (uM o s h p pa q)):=zH (by rw[HM.out];simp)
   clear h1 h4
   go_enter Tryz.func57,Tryz.ntmps57
   go_wp2_with fail
   have x1:=BX.made w o s h p pa q;have m1:=hmx.made (.cells #[.bool o,.string s,.string h,.int .i64 p,.string pa,.string q] 40);have B1:Below w.heap.size w (w.alloc (.cells #[.bool o,.string s,.string h,.int .i64 p,.string pa,.string q] 40)):=(zB _ _).alloc (zL _) _;generalize hR:w.heap.size=R at x1 B1 ⊢;have HR:=zH hR;clear hR;generalize w.alloc (.cells #[.bool o,.string s,.string h,.int .i64 p,.string pa,.string q] 40)=w1 at x1 B1 m1 ⊢;refine(CD.out _).mono ?_;rintro e w1 ⟨rfl,rfl⟩;have c2:=x1.c2
   go_wp2_with fail
   refine(CH.out _ m1).mono ?_;rintro e w2 ⟨rfl,b2⟩;have x2:=x1.below b2;have m2:=m1.below b2;have B2:Below R w w2:=B1.trans (b2.mono (zT x1.lt));have c3:=x2.c3;have c4:=x2.c4
   go_wp2_with fail
   refine(CP.out _ m2).mono ?_;rintro e w3 ⟨rfl,b3⟩;have x3:=x2.below b3;have B3:Below R w w3:=B2.trans (b3.mono (zT x2.lt));have c5:=x3.c5
   go_wp2
   go_ret
   exact⟨aA HF.out,by rw[HR.out];exact B3⟩
 · have HF:Hid (qb=cW (uM o s h p pa q)):=zH (by rw[HM.out,decide_eq_true h1,decide_eq_true h2,decide_eq_true h3,decide_eq_true h4];simp)
   clear h1 h4
   go_enter Tryz.func57,Tryz.ntmps57
   go_wp2_with fail
   have x1:=BX.made w o s h p pa q;have m1:=hmx.made (.cells #[.bool o,.string s,.string h,.int .i64 p,.string pa,.string q] 40);have B1:Below w.heap.size w (w.alloc (.cells #[.bool o,.string s,.string h,.int .i64 p,.string pa,.string q] 40)):=(zB _ _).alloc (zL _) _;generalize hR:w.heap.size=R at x1 B1 ⊢;have HR:=zH hR;clear hR;generalize w.alloc (.cells #[.bool o,.string s,.string h,.int .i64 p,.string pa,.string q] 40)=w1 at x1 B1 m1 ⊢;refine(CD.out _).mono ?_;rintro e w1 ⟨rfl,rfl⟩;have c2:=x1.c2
   go_wp2_with fail
   refine(CH.out _ m1).mono ?_;rintro e w2 ⟨rfl,b2⟩;have x2:=x1.below b2;have m2:=m1.below b2;have B2:Below R w w2:=B1.trans (b2.mono (zT x1.lt));have c3:=x2.c3;have c4:=x2.c4
   go_wp2_with fail
   refine(CP.out _ m2).mono ?_;rintro e w3 ⟨rfl,b3⟩;have x3:=x2.below b3;have B3:Below R w w3:=B2.trans (b3.mono (zT x2.lt));have c5:=x3.c5
   go_wp2_with fail
   refine(CQ.out _).mono ?_;rintro e w3 ⟨rfl,rfl⟩
   go_wp2
   go_ret
   exact⟨aA HF.out,by rw[HR.out];exact B3⟩
theorem aM3 (o:Bool)(s h:ByteArray)(p:Int)(pa q:ByteArray)(b:Bool)(hb:cW (uM o s h p pa q)=b)(hs:s.size<=100000)(hh:h.size<=100000)(hpa:pa.size<=100000)(hq:q.size<=100000):Hid (∀ W,aQ W->Calls Tryz.prog 57 #[uV o s h p pa q] W fun e w'=>e=.returned (.bool b)/\Below W.heap.size W w') :=
 zH fun W hm=>by rw[<- hb];exact aM4 o s h p pa q hs hh hpa hq W hm
theorem aO2 (o:Bool)(s h:ByteArray)(p:Int)(pa q:ByteArray)(hs:s.size<=100000)(hpa:pa.size<=100000)(w:World):Calls Tryz.prog 58 #[uV o s h p pa q] w fun e w'=>e=.returned (.bool (cY (uM o s h p pa q)))/\Below w.heap.size w w':=by
 have hM:cY (uM o s h p pa q)=(dR s.data.toList&&decide (kM s.data.toList=0)&&h.data.toList.isEmpty&&decide (p=0)&&q.data.toList.isEmpty&&bH 32 [35] pa.data.toList&&decide (eI pa.data.toList=pa.data.toList)):=rfl;obtain⟨T,hT⟩:=aO (eI pa.data.toList);have htq:=fZ T pa;rw[<- hT,<- htq,<- aF,<- aF]at hM;obtain⟨sb,hsb⟩:∃ b,dR s.data.toList=b:=⟨_,rfl⟩;obtain⟨d,hd⟩:∃ d,kM s.data.toList=d:=⟨_,rfl⟩;obtain⟨wb,hwb⟩:∃ b,bH 32 [35] pa.data.toList=b:=⟨_,rfl⟩;have CS:=aI2 s sb hsb (by omega);have CD:=gK s d hd;have CW:Hid (∀ W,Calls Tryz.prog 89 #[.string pa,.int .u8 32,.string ⟨#[35]⟩] W fun e w'=>e=.returned (.bool wb)/\w'=W):=mL 32 ⟨#[35]⟩ pa wb hwb (by omega);have CT:=trim_hid pa T hT (by omega);rw[hsb,hd,hwb]at hM;obtain⟨he,hhe⟩:∃ b,h.toList.isEmpty=b:=⟨_,rfl⟩;obtain⟨qe,hqe⟩:∃ b,q.toList.isEmpty=b:=⟨_,rfl⟩;obtain⟨tb,htb⟩:∃ b,(T.toList==pa.toList)=b:=⟨_,rfl⟩;rw[hhe,hqe,htb]at hM;have HM:=zH hM;clear hM hsb hd hwb htq hT;unfold uV
 cases sb
 · have HF:Hid (false=cY (uM o s h p pa q)):=zH (by rw[HM.out];rfl)
   go_enter Tryz.func58,Tryz.ntmps58
   go_wp2_with fail
   have x1:=BX.made w o s h p pa q;have B1:Below w.heap.size w (w.alloc (.cells #[.bool o,.string s,.string h,.int .i64 p,.string pa,.string q] 40)):=(zB _ _).alloc (zL _) _;generalize hR:w.heap.size=R at x1 B1 ⊢;have HR:=zH hR;clear hR;generalize w.alloc (.cells #[.bool o,.string s,.string h,.int .i64 p,.string pa,.string q] 40)=w1 at x1 B1 ⊢;have c1:=x1.c1;have c2:=x1.c2;have c3:=x1.c3;have c4:=x1.c4;have c5:=x1.c5
   go_quiet (first
    | (go_at_call 88;exact Calls.quiet_of_same (CS.out _))
    | (go_at_call 84;exact Calls.quiet_of_same (CD.out _))
    | (go_at_call 89;exact Calls.quiet_of_same (CW.out _)))
   go_wp2
   go_ret
   exact⟨aA HF.out,by rw[HR.out];exact cL B1 _⟩
 by_cases hd0:d=0
 case neg =>
  have g1:((d:Int)==0)=false:=by rw[beq_eq_false_iff_ne];omega
  have HF:Hid (false=cY (uM o s h p pa q)):=zH (by rw[HM.out,decide_eq_false hd0];simp);clear hd0
  go_enter Tryz.func58,Tryz.ntmps58
  go_wp2_with fail
  have x1:=BX.made w o s h p pa q;have B1:Below w.heap.size w (w.alloc (.cells #[.bool o,.string s,.string h,.int .i64 p,.string pa,.string q] 40)):=(zB _ _).alloc (zL _) _;generalize hR:w.heap.size=R at x1 B1 ⊢;have HR:=zH hR;clear hR;generalize w.alloc (.cells #[.bool o,.string s,.string h,.int .i64 p,.string pa,.string q] 40)=w1 at x1 B1 ⊢;have c1:=x1.c1;have c2:=x1.c2;have c3:=x1.c3;have c4:=x1.c4;have c5:=x1.c5
  go_quiet (first
   | (go_at_call 88;exact Calls.quiet_of_same (CS.out _))
   | (go_at_call 84;exact Calls.quiet_of_same (CD.out _))
   | (go_at_call 89;exact Calls.quiet_of_same (CW.out _)))
  go_wp2
  go_ret
  exact⟨aA HF.out,by rw[HR.out];exact cL B1 _⟩
 have g1:((d:Int)==0)=true:=by rw[beq_iff_eq];omega
 have HD:=zH hd0;clear hd0
 cases he
 · have HF:Hid (false=cY (uM o s h p pa q)):=zH (by rw[HM.out];simp)
   go_enter Tryz.func58,Tryz.ntmps58
   go_wp2_with fail
   have x1:=BX.made w o s h p pa q;have B1:Below w.heap.size w (w.alloc (.cells #[.bool o,.string s,.string h,.int .i64 p,.string pa,.string q] 40)):=(zB _ _).alloc (zL _) _;generalize hR:w.heap.size=R at x1 B1 ⊢;have HR:=zH hR;clear hR;generalize w.alloc (.cells #[.bool o,.string s,.string h,.int .i64 p,.string pa,.string q] 40)=w1 at x1 B1 ⊢;have c1:=x1.c1;have c2:=x1.c2;have c3:=x1.c3;have c4:=x1.c4;have c5:=x1.c5
   go_quiet (first
    | (go_at_call 88;exact Calls.quiet_of_same (CS.out _))
    | (go_at_call 84;exact Calls.quiet_of_same (CD.out _))
    | (go_at_call 89;exact Calls.quiet_of_same (CW.out _)))
   go_wp2
   go_ret
   exact⟨aA HF.out,by rw[HR.out];exact cL B1 _⟩
 by_cases hp0:p=0
 case neg =>
  have g2:(p==0)=false:=by rw[beq_eq_false_iff_ne];exact hp0
  have HF:Hid (false=cY (uM o s h p pa q)):=zH (by rw[HM.out,decide_eq_false hp0];simp);clear hp0
  go_enter Tryz.func58,Tryz.ntmps58
  go_wp2_with fail
  have x1:=BX.made w o s h p pa q;have B1:Below w.heap.size w (w.alloc (.cells #[.bool o,.string s,.string h,.int .i64 p,.string pa,.string q] 40)):=(zB _ _).alloc (zL _) _;generalize hR:w.heap.size=R at x1 B1 ⊢;have HR:=zH hR;clear hR;generalize w.alloc (.cells #[.bool o,.string s,.string h,.int .i64 p,.string pa,.string q] 40)=w1 at x1 B1 ⊢;have c1:=x1.c1;have c2:=x1.c2;have c3:=x1.c3;have c4:=x1.c4;have c5:=x1.c5
  go_quiet (first
   | (go_at_call 88;exact Calls.quiet_of_same (CS.out _))
   | (go_at_call 84;exact Calls.quiet_of_same (CD.out _))
   | (go_at_call 89;exact Calls.quiet_of_same (CW.out _)))
  go_wp2
  go_ret
  exact⟨aA HF.out,by rw[HR.out];exact cL B1 _⟩
 have g2:(p==0)=true:=by rw[beq_iff_eq];exact hp0
 have HP:=zH hp0;clear hp0
 cases qe
 · have HF:Hid (false=cY (uM o s h p pa q)):=zH (by rw[HM.out];simp)
   go_enter Tryz.func58,Tryz.ntmps58
   go_wp2_with fail
   have x1:=BX.made w o s h p pa q;have B1:Below w.heap.size w (w.alloc (.cells #[.bool o,.string s,.string h,.int .i64 p,.string pa,.string q] 40)):=(zB _ _).alloc (zL _) _;generalize hR:w.heap.size=R at x1 B1 ⊢;have HR:=zH hR;clear hR;generalize w.alloc (.cells #[.bool o,.string s,.string h,.int .i64 p,.string pa,.string q] 40)=w1 at x1 B1 ⊢;have c1:=x1.c1;have c2:=x1.c2;have c3:=x1.c3;have c4:=x1.c4;have c5:=x1.c5
   go_quiet (first
    | (go_at_call 88;exact Calls.quiet_of_same (CS.out _))
    | (go_at_call 84;exact Calls.quiet_of_same (CD.out _))
    | (go_at_call 89;exact Calls.quiet_of_same (CW.out _)))
   go_wp2
   go_ret
   exact⟨aA HF.out,by rw[HR.out];exact cL B1 _⟩
 cases wb
 · have HF:Hid (false=cY (uM o s h p pa q)):=zH (by rw[HM.out];simp)
   go_enter Tryz.func58,Tryz.ntmps58
   go_wp2_with fail
   have x1:=BX.made w o s h p pa q;have B1:Below w.heap.size w (w.alloc (.cells #[.bool o,.string s,.string h,.int .i64 p,.string pa,.string q] 40)):=(zB _ _).alloc (zL _) _;generalize hR:w.heap.size=R at x1 B1 ⊢;have HR:=zH hR;clear hR;generalize w.alloc (.cells #[.bool o,.string s,.string h,.int .i64 p,.string pa,.string q] 40)=w1 at x1 B1 ⊢;have c1:=x1.c1;have c2:=x1.c2;have c3:=x1.c3;have c4:=x1.c4;have c5:=x1.c5
   go_quiet (first
    | (go_at_call 88;exact Calls.quiet_of_same (CS.out _))
    | (go_at_call 84;exact Calls.quiet_of_same (CD.out _))
    | (go_at_call 89;exact Calls.quiet_of_same (CW.out _)))
   go_wp2
   go_ret
   exact⟨aA HF.out,by rw[HR.out];exact cL B1 _⟩
 · have HF:Hid (tb=cY (uM o s h p pa q)):=zH (by rw[HM.out,decide_eq_true HD.out,decide_eq_true HP.out];simp)
   go_enter Tryz.func58,Tryz.ntmps58
   go_wp2_with fail
   have x1:=BX.made w o s h p pa q;have B1:Below w.heap.size w (w.alloc (.cells #[.bool o,.string s,.string h,.int .i64 p,.string pa,.string q] 40)):=(zB _ _).alloc (zL _) _;generalize hR:w.heap.size=R at x1 B1 ⊢;have HR:=zH hR;clear hR;generalize w.alloc (.cells #[.bool o,.string s,.string h,.int .i64 p,.string pa,.string q] 40)=w1 at x1 B1 ⊢;have K1:(w1.drew.cell? ⟨R,1,none⟩=some (.string s)/\w1.drew.cell? ⟨R,2,none⟩=some (.string h)/\w1.drew.cell? ⟨R,3,none⟩=some (.int .i64 p)/\w1.drew.cell? ⟨R,4,none⟩=some (.string pa)/\w1.drew.cell? ⟨R,5,none⟩=some (.string q)/\Below R w w1.drew):=⟨x1.c1,x1.c2,x1.c3,x1.c4,x1.c5,B1.drew⟩
   have K2:∀ w2,Below w1.drew.heap.size w1.drew w2->(w2.cell? ⟨R,1,none⟩=some (.string s)/\w2.cell? ⟨R,2,none⟩=some (.string h)/\w2.cell? ⟨R,3,none⟩=some (.int .i64 p)/\w2.cell? ⟨R,4,none⟩=some (.string pa)/\w2.cell? ⟨R,5,none⟩=some (.string q)/\Below R w w2):=fun w2 b=>by
    have x2:BX w2 R o s h p pa q:=BX.below (w:=w1.drew) x1 b;exact⟨x2.c1,x2.c2,x2.c3,x2.c4,x2.c5,B1.drew.trans (b.mono (zT x1.lt))⟩
   have HK2:=zH K2;clear K2
   go_region_held3 (fun w'=>(w'.cell? ⟨R,1,none⟩=some (.string s)/\w'.cell? ⟨R,2,none⟩=some (.string h)/\w'.cell? ⟨R,3,none⟩=some (.int .i64 p)/\w'.cell? ⟨R,4,none⟩=some (.string pa)/\w'.cell? ⟨R,5,none⟩=some (.string q)/\Below R w w')) (first | exact K1 | exact K3)
    (first
      | (go_at_call 88;(with_reducible refine(CS.out _).mono ?_);rintro e w' ⟨rfl,rfl⟩)
      | (go_at_call 84;(with_reducible refine(CD.out _).mono ?_);rintro e w' ⟨rfl,rfl⟩)
      | (go_at_call 89;(with_reducible refine(CW.out _).mono ?_);rintro e w' ⟨rfl,rfl⟩)
      | (go_at_call 90;(with_reducible refine(CT.out _).mono ?_);rintro e w3 ⟨rfl,b3⟩
         have K3:=HK2.out _ b3
         clear b3))
   all_goals go_wp2
   all_goals go_ret
   all_goals exact⟨aA HF.out,by rw[HR.out];first | exact K1.2.2.2.2.2 | exact K3.2.2.2.2.2⟩
theorem aO1 (o:Bool)(s h:ByteArray)(p:Int)(pa q:ByteArray)(b:Bool)(hb:cY (uM o s h p pa q)=b)(hs:s.size<=100000)(hpa:pa.size<=100000):Hid (∀ W,Calls Tryz.prog 58 #[uV o s h p pa q] W fun e w'=>e=.returned (.bool b)/\Below W.heap.size W w') :=
 zH fun W=>by rw[<- hb];exact aO2 o s h p pa q hs hpa W
end Go.Proofs.YthnogdodlhkldaaGreatDoor
