/- Whether a scheme, a host, a port, a path are let be: the document's. -/
import Derived.Test.YthnogdodlhkldaaGreatDoorRefOY
import Derived.Test.YthnogdodlhkldaaGreatDoorMtZ
set_option maxRecDepth 100000
set_option maxHeartbeats 8000000
namespace Go.Proofs.YthnogdodlhkldaaGreatDoor
open Go.RowKit
theorem qM (t i:ByteArray)(w:World):Calls Tryz.prog 153 #[.string t,.string i] w fun e w'=>e=.returned (.bool (gS t.data.toList i.data.toList))/\w'=w:=by
 obtain⟨b0,b1,b2,b3,b4,g0,g1,g2,g3,g4,HS,HX⟩:=rN t i
 cases b0<;>cases b1<;>cases b2<;>cases b3<;>cases b4
 all_goals
  first
  | exact absurd (HX.out rfl) (by decide)
  | (have HF:=zH HS.out.symm
     clear HS HX
     go_enter Tryz.func153,Tryz.ntmps153
     go_wp2
     go_ret
     exact⟨aA HF.out,rfl⟩)
theorem dL (t i:ByteArray)(b:Bool)(hb:gS t.data.toList i.data.toList=b):Hid (∀ W,Calls Tryz.prog 153 #[.string t,.string i] W fun e w'=>e=.returned (.bool b)/\w'=W) :=
 zH fun W=>by rw[<- hb];exact qM t i W
theorem aB1 (s t:ByteArray)(hs:s.size<=1000000)(w:World):Calls Tryz.prog 209 #[.string s,.string t] w fun e w'=>e=.returned (.bool (mJ s.data.toList t.data.toList))/\w'=w:=by
 by_cases h:(t.size:Int)<(s.size:Int)
 · obtain⟨n,hn⟩:∃ n,s.size=t.size+n:=⟨s.size - t.size,by omega⟩
   have hix:(s.size:Int) - (t.size:Int)=(n:Int):=by omega
   obtain⟨R,hR⟩:=aO (s.data.toList.drop n);have sf:=fD s R n (by omega) hR;obtain⟨b,g⟩:∃ b,(R.toList==t.toList)=b:=⟨_,rfl⟩
   have HF:Hid (b=mJ s.data.toList t.data.toList):=zH (by
    unfold mJ
    rw[aE,aE,decide_eq_true (by omega),Bool.true_and,<- g,cZ,hR,show s.size - t.size=n by omega])
   have hns:n<=s.size:=by omega
   clear hR hn
   go_enter Tryz.func209,Tryz.ntmps209
   go_wp2
   go_ret
   exact⟨aA HF.out,rfl⟩
 · have HF:Hid (false=mJ s.data.toList t.data.toList):=zH (by
    unfold mJ
    rw[aE,aE,decide_eq_false (by omega),Bool.false_and])
   go_enter Tryz.func209,Tryz.ntmps209
   go_wp2
   go_ret
   exact⟨aA HF.out,rfl⟩
theorem aB0 (s t:ByteArray)(hs:s.size<=1000000)(b:Bool)(hb:mJ s.data.toList t.data.toList=b):Hid (∀ W,Calls Tryz.prog 209 #[.string s,.string t] W fun e w'=>e=.returned (.bool b)/\w'=W) :=
 zH fun W=>by rw[<- hb];exact aB1 s t hs W
theorem tJ (k:Int)(t s h:ByteArray)(wd:Bool)(p:Int)(pa n:ByteArray)(hh:h.size<=100000)(hn:n.size<=100000)(w:World):Calls Tryz.prog 155 #[aP k t s h wd p pa,.string n] w fun e w'=>e=.returned (.bool (fJ wd h.data.toList n.data.toList))/\Below w.heap.size w w':=by
 obtain⟨T,hT⟩:=aO (bB h.data.toList);obtain⟨I,hI⟩:=aO (bB n.data.toList);have sT:=nO hT;have C1:=cK h T hT (by omega);have C2:=cK n I hI (by omega);obtain⟨R2,hR2⟩:=aO (46 :: T.data.toList);have add:=dG ⟨#[46]⟩ T R2 hR2 (by show 1+T.size<=_;omega);obtain⟨f,hf⟩:∃ f,mJ I.data.toList R2.data.toList=f:=⟨_,rfl⟩;have C3:=aB0 I R2 (by rw[nO hI];omega) f hf;obtain⟨b,g⟩:∃ b,(I.toList==T.toList)=b:=⟨_,rfl⟩;obtain⟨b0,g0⟩:∃ b,T.toList.isEmpty=b:=⟨_,rfl⟩
 have HS:Hid (fJ wd h.data.toList n.data.toList=if wd then (b0 || f) else b):=zH (by
  unfold fJ;rw[<- g0,<- g,<- hf,dK,cZ,hR2,hT,hI]
  rw[show(decide (bB n.data.toList=bB h.data.toList))=decide (bB h.data.toList=bB n.data.toList) by rw[Bool.eq_iff_iff];simp[eq_comm]])
 clear hT hI hh hn sT hR2 hf;unfold aP
 cases wd
 case false =>
  have HF:Hid (b=_):=zH HS.out.symm;clear HS
  go_enter Tryz.func155,Tryz.ntmps155
  go_wp2_with fail
  have x1:=SX.made w k t s h false p pa;have B1:Below w.heap.size w (w.alloc (.cells #[.int .i64 k,.string t,.string s,.string h,.bool false,.int .i64 p,.string pa] 75)):=(zB _ _).alloc (zL _) _;generalize hR:w.heap.size=R at x1 B1 ⊢;have HR:=zH hR;clear hR;generalize w.alloc (.cells #[.int .i64 k,.string t,.string s,.string h,.bool false,.int .i64 p,.string pa] 75)=w1 at x1 B1 ⊢;refine(C2.out _).mono ?_;rintro e w2 ⟨rfl,b2⟩;have x2:=x1.below b2;have B2:=B1.trans (b2.mono (zT x1.lt));have c3:=x2.c3;clear b2 x1 B1
  go_wp2_with fail
  refine(C1.out _).mono ?_;rintro e w3 ⟨rfl,b3⟩;have x3:=x2.below b3;have B3:=B2.trans (b3.mono (zT x2.lt));have c4:=x3.c4;clear b3 x2 B2 c3
  go_wp2
  go_ret
  exact⟨aA HF.out,by rw[HR.out];exact B3⟩
 case true =>
  clear g
  cases b0
  all_goals
   have HF:=zH HS.out.symm;clear HS
   go_enter Tryz.func155,Tryz.ntmps155
   go_wp2_with fail
   have x1:=SX.made w k t s h true p pa;have B1:Below w.heap.size w (w.alloc (.cells #[.int .i64 k,.string t,.string s,.string h,.bool true,.int .i64 p,.string pa] 75)):=(zB _ _).alloc (zL _) _;generalize hR:w.heap.size=R at x1 B1 ⊢;have HR:=zH hR;clear hR;generalize w.alloc (.cells #[.int .i64 k,.string t,.string s,.string h,.bool true,.int .i64 p,.string pa] 75)=w1 at x1 B1 ⊢;refine(C2.out _).mono ?_;rintro e w2 ⟨rfl,b2⟩;have x2:=x1.below b2;have B2:=B1.trans (b2.mono (zT x1.lt));have c3:=x2.c3;clear b2 x1 B1
   go_wp2_with fail
   refine(C1.out _).mono ?_;rintro e w3 ⟨rfl,b3⟩;have x3:=x2.below b3;have B3:=B2.trans (b3.mono (zT x2.lt));have c4:=x3.c4;clear b3 x2 B2 c3
   go_wp2_with fail
   first
   | (go_ret
      exact⟨aA HF.out,by rw[HR.out];exact B3⟩)
   | (refine(C3.out _).mono ?_
      rintro e w3 ⟨rfl,rfl⟩
      go_wp2
      go_ret
      exact⟨aA HF.out,by rw[HR.out];exact B3⟩)
theorem gD (k:Int)(t s h:ByteArray)(wd:Bool)(p:Int)(pa n:ByteArray)(hh:h.size<=100000)(hn:n.size<=100000)(b:Bool)(hb:fJ wd h.data.toList n.data.toList=b):Hid (∀ W,Calls Tryz.prog 155 #[aP k t s h wd p pa,.string n] W fun e w'=>e=.returned (.bool b)/\Below W.heap.size W w') :=
 zH fun W=>by rw[<- hb];exact tJ k t s h wd p pa n hh hn W
theorem yR (t i:List UInt8):decide (i.take t.length=t)=t.isPrefixOf i:=by
 rw[Bool.eq_iff_iff,decide_eq_true_eq,List.isPrefixOf_iff_prefix,List.prefix_iff_eq_take];exact eq_comm
theorem tD (t i:ByteArray)(hts:t.size<=100000)(m:Bool)(w:World):Calls Tryz.prog 157 #[.string t,.string i,.bool m] w fun e w'=>e=.returned (.bool (fP t.data.toList i.data.toList m))/\w'=w:=by
 obtain⟨b0,g0⟩:∃ b,t.toList.isEmpty=b:=⟨_,rfl⟩;obtain⟨b1,g1⟩:∃ b,(t.toList==i.toList)=b:=⟨_,rfl⟩
 have HS:Hid (fP t.data.toList i.data.toList m=(b0 || m || b1 || (decide (t.data.toList.getLast? = some 47)&&t.data.toList.isPrefixOf i.data.toList))):=zH (by
  rw[<- g0,<- g1,dK,cZ];unfold fP
  rw[show(decide (i.data.toList=t.data.toList))=decide (t.data.toList=i.data.toList) by rw[Bool.eq_iff_iff];simp[eq_comm]])
 cases b0<;>cases m<;>cases b1
 case false.false.false =>
  have hne:t.data.toList≠[]:=by
   rw[dK]at g0;intro e;rw[e]at g0;cases g0
  obtain⟨n,hn⟩:∃ n,t.size=n+1:=⟨t.size - 1,by
   have:t.data.toList.length≠0:=fun e=>hne (List.length_eq_zero_iff.1 e)
   rw[aE]at this;omega⟩
  have hlt:n<t.size:=by omega
  have hix:(t.size:Int) - 1=(n:Int):=by omega
  have hlast:decide (t.data.toList.getLast? = some 47)=((t[n].toNat:Int)==47):=by
   have e1:t.data.toList.getLast? = some t[n]:=by
    obtain⟨b,h1,_,h3⟩:=xS hlt;rw[List.getLast?_eq_getElem?,aE,hn,Nat.add_sub_cancel,h1,h3]
   have e2:((t[n].toNat:Int)==47)=(t[n]==47):=bR t[n] 47;rw[e1,e2,Bool.eq_iff_iff];simp
  rw[hlast]at HS;have hn9:n<=100000:=by omega
  clear hlast hne hn
  cases g2:((t[n].toNat:Int)==47)
  · have HF:Hid (false=_):=zH (HS.out.trans (by rw[g2];rfl)).symm
    clear HS
    go_enter Tryz.func157,Tryz.ntmps157
    go_wp2
    go_ret
    exact⟨aA HF.out,rfl⟩
  · by_cases h3:(t.size:Int)<=(i.size:Int)
    · obtain⟨R,hR⟩:=aO (i.data.toList.take t.size)
      have st:=iA i R t.size (by omega) hR;obtain⟨b,g⟩:∃ b,(R.toList==t.toList)=b:=⟨_,rfl⟩
      have HF:Hid (b=fP t.data.toList i.data.toList false):=zH (by
       rw[HS.out,g2,<- yR _ _,aE,<- g,cZ,hR];rfl)
      clear HS hR
      go_enter Tryz.func157,Tryz.ntmps157
      go_wp2
      go_ret
      exact⟨aA HF.out,rfl⟩
    · have HF:Hid (false=fP t.data.toList i.data.toList false):=zH (by
       rw[HS.out,g2]
       have:t.data.toList.isPrefixOf i.data.toList=false:=by
        rw[Bool.eq_false_iff];intro e;have:=(List.isPrefixOf_iff_prefix.1 e).length_le;rw[aE,aE]at this;omega
       rw[this];rfl)
      clear HS
      go_enter Tryz.func157,Tryz.ntmps157
      go_wp2
      go_ret
      exact⟨aA HF.out,rfl⟩
 all_goals
  have HF:Hid (true=_):=zH HS.out.symm;clear HS
  go_enter Tryz.func157,Tryz.ntmps157
  go_wp2
  go_ret
  exact⟨aA HF.out,rfl⟩
theorem mG (t i:ByteArray)(hts:t.size<=100000)(m b:Bool)(hb:fP t.data.toList i.data.toList m=b):Hid (∀ W,Calls Tryz.prog 157 #[.string t,.string i,.bool m] W fun e w'=>e=.returned (.bool b)/\w'=W) :=
 zH fun W=>by rw[<- hb];exact tD t i hts m W
theorem tA (k:Int)(t s h:ByteArray)(wd:Bool)(sp:Int)(pa:ByteArray)(o:Bool)(s2 h2:ByteArray)(p:Int)(pa2 q2:ByteArray)(w:World):Calls Tryz.prog 156 #[aP k t s h wd sp pa,uV o s2 h2 p pa2 q2] w fun e w'=>e=.returned (.bool (eB sp (uM o s2 h2 p pa2 q2)))/\Below w.heap.size w w':=by
 obtain⟨d,hd⟩:∃ d,kM s2.data.toList=d:=⟨_,rfl⟩;have CD:=iB s2 d hd;obtain⟨P,hP⟩:∃ P,dV (uM o s2 h2 p pa2 q2)=P:=⟨_,rfl⟩;have CP:=pU o s2 h2 p pa2 q2 P hP;have HP:=aT6 sp o s2 h2 p pa2 q2 d hd;rw[hP]at HP;clear hd hP;unfold uV aP at *
 have key:∀ r:Bool,r=eB sp (uM o s2 h2 p pa2 q2)->(sp = -1/\r=true)\/(sp=0/\r=(P==(d:Int)))\/(sp ≠ -1/\sp≠0/\r=((P==sp) || ((sp==80)&&(P==443)))):=by
  intro r hr;rw[HP]at hr
  by_cases s1:sp = -1
  · rw[if_pos s1]at hr;exact .inl ⟨s1,hr⟩
  · by_cases s0:sp=0
    · rw[if_neg s1,if_pos s0]at hr;exact .inr (.inl ⟨s0,hr⟩)
    · rw[if_neg s1,if_neg s0]at hr;exact .inr (.inr ⟨s1,s0,hr⟩)
 obtain⟨r,hr⟩:∃ r,r=eB sp (uM o s2 h2 p pa2 q2):=⟨_,rfl⟩;have HF:=zH hr;have hk:=key r hr;clear key HP hr;rcases hk with ⟨rfl,rfl⟩ | ⟨rfl,hr⟩ | ⟨s1,s0,hr⟩
 · go_enter Tryz.func156,Tryz.ntmps156
   go_wp2_with fail
   have xn:=SX.made w k t s h wd (-1) pa;have xz:=BX.made (w.alloc (.cells #[.int .i64 k,.string t,.string s,.string h,.bool wd,.int .i64 (-1),.string pa] 75)) o s2 h2 p pa2 q2;have xy:=xn.below ((zB _ _).alloc (zL _) (.cells #[.bool o,.string s2,.string h2,.int .i64 p,.string pa2,.string q2] 40));have B2:=((zB w.heap.size w).alloc (zL _) (.cells #[.int .i64 k,.string t,.string s,.string h,.bool wd,.int .i64 (-1),.string pa] 75)).alloc (Below.size ((zB w.heap.size w).alloc (zL _) (.cells #[.int .i64 k,.string t,.string s,.string h,.bool wd,.int .i64 (-1),.string pa] 75))) (.cells #[.bool o,.string s2,.string h2,.int .i64 p,.string pa2,.string q2] 40);rw[bD]at xz;clear xn;generalize hR:w.heap.size=Ra at xy xz B2 ⊢;have HR:=zH hR;clear hR;obtain⟨Rb,hRb⟩:∃ Rb,Ra+1=Rb:=⟨_,rfl⟩;rw[hRb]at xz
   try rw[hRb]
   clear hRb;generalize(w.alloc (.cells #[.int .i64 k,.string t,.string s,.string h,.bool wd,.int .i64 (-1),.string pa] 75)).alloc (.cells #[.bool o,.string s2,.string h2,.int .i64 p,.string pa2,.string q2] 40)=w1 at xy xz B2 ⊢;refine(CP.out _).mono ?_;rintro e w2 ⟨rfl,b2⟩;have x2:=xy.below b2;have z2:=xz.below b2;have B3:=B2.trans (b2.mono (zT xy.lt));have c5:=x2.c5;have c1:=z2.c1;clear b2 B2 xy xz
   go_wp2
   go_ret
   exact⟨aA HF.out,by rw[HR.out];exact B3⟩
 · have g:(P==(d:Int))=r:=hr.symm
   clear hr
   go_enter Tryz.func156,Tryz.ntmps156
   go_wp2_with fail
   have xn:=SX.made w k t s h wd 0 pa;have xz:=BX.made (w.alloc (.cells #[.int .i64 k,.string t,.string s,.string h,.bool wd,.int .i64 0,.string pa] 75)) o s2 h2 p pa2 q2;have xy:=xn.below ((zB _ _).alloc (zL _) (.cells #[.bool o,.string s2,.string h2,.int .i64 p,.string pa2,.string q2] 40));have B2:=((zB w.heap.size w).alloc (zL _) (.cells #[.int .i64 k,.string t,.string s,.string h,.bool wd,.int .i64 0,.string pa] 75)).alloc (Below.size ((zB w.heap.size w).alloc (zL _) (.cells #[.int .i64 k,.string t,.string s,.string h,.bool wd,.int .i64 0,.string pa] 75))) (.cells #[.bool o,.string s2,.string h2,.int .i64 p,.string pa2,.string q2] 40);rw[bD]at xz;clear xn;generalize hR:w.heap.size=Ra at xy xz B2 ⊢;have HR:=zH hR;clear hR;obtain⟨Rb,hRb⟩:∃ Rb,Ra+1=Rb:=⟨_,rfl⟩;rw[hRb]at xz
   try rw[hRb]
   clear hRb;generalize(w.alloc (.cells #[.int .i64 k,.string t,.string s,.string h,.bool wd,.int .i64 0,.string pa] 75)).alloc (.cells #[.bool o,.string s2,.string h2,.int .i64 p,.string pa2,.string q2] 40)=w1 at xy xz B2 ⊢;refine(CP.out _).mono ?_;rintro e w2 ⟨rfl,b2⟩;have x2:=xy.below b2;have z2:=xz.below b2;have B3:=B2.trans (b2.mono (zT xy.lt));have c5:=x2.c5;have c1:=z2.c1;clear b2 B2 xy xz
   go_wp2_with fail
   refine(CD.out _).mono ?_;rintro e w2 ⟨rfl,rfl⟩
   go_wp2
   go_ret
   exact⟨aA HF.out,by rw[HR.out];exact B3⟩
 · have n1:(sp == -1)=false:=by rw[beq_eq_false_iff_ne];exact s1
   have n0:(sp==0)=false:=by rw[beq_eq_false_iff_ne];exact s0
   clear s1 s0;obtain⟨b1,g1⟩:∃ b,(P==sp)=b:=⟨_,rfl⟩;obtain⟨b2,g2⟩:∃ b,(sp==80)=b:=⟨_,rfl⟩;obtain⟨b3,g3⟩:∃ b,(P==443)=b:=⟨_,rfl⟩;rw[g1,g2,g3]at hr
   cases b1<;>cases b2
   all_goals
    have HG:=zH (hr.symm.trans HF.out);clear hr HF
    go_enter Tryz.func156,Tryz.ntmps156
    go_wp2_with fail
    have xn:=SX.made w k t s h wd sp pa;have xz:=BX.made (w.alloc (.cells #[.int .i64 k,.string t,.string s,.string h,.bool wd,.int .i64 sp,.string pa] 75)) o s2 h2 p pa2 q2;have xy:=xn.below ((zB _ _).alloc (zL _) (.cells #[.bool o,.string s2,.string h2,.int .i64 p,.string pa2,.string q2] 40));have B2:=((zB w.heap.size w).alloc (zL _) (.cells #[.int .i64 k,.string t,.string s,.string h,.bool wd,.int .i64 sp,.string pa] 75)).alloc (Below.size ((zB w.heap.size w).alloc (zL _) (.cells #[.int .i64 k,.string t,.string s,.string h,.bool wd,.int .i64 sp,.string pa] 75))) (.cells #[.bool o,.string s2,.string h2,.int .i64 p,.string pa2,.string q2] 40);rw[bD]at xz;clear xn;generalize hR:w.heap.size=Ra at xy xz B2 ⊢;have HR:=zH hR;clear hR;obtain⟨Rb,hRb⟩:∃ Rb,Ra+1=Rb:=⟨_,rfl⟩;rw[hRb]at xz
    try rw[hRb]
    clear hRb;generalize(w.alloc (.cells #[.int .i64 k,.string t,.string s,.string h,.bool wd,.int .i64 sp,.string pa] 75)).alloc (.cells #[.bool o,.string s2,.string h2,.int .i64 p,.string pa2,.string q2] 40)=w1 at xy xz B2 ⊢;refine(CP.out _).mono ?_;rintro e w2 ⟨rfl,b2⟩;have x2:=xy.below b2;have z2:=xz.below b2;have B3:=B2.trans (b2.mono (zT xy.lt));have c5:=x2.c5;have c1:=z2.c1;clear b2 B2 xy xz
    go_wp2
    go_ret
    exact⟨aA HG.out,by rw[HR.out];exact B3⟩
theorem gC (k:Int)(t s h:ByteArray)(wd:Bool)(sp:Int)(pa:ByteArray)(o:Bool)(s2 h2:ByteArray)(p:Int)(pa2 q2:ByteArray)(b:Bool)(hb:eB sp (uM o s2 h2 p pa2 q2)=b):Hid (∀ W,Calls Tryz.prog 156 #[aP k t s h wd sp pa,uV o s2 h2 p pa2 q2] W fun e w'=>e=.returned (.bool b)/\Below W.heap.size W w') :=
 zH fun W=>by rw[<- hb];exact tA k t s h wd sp pa o s2 h2 p pa2 q2 W
end Go.Proofs.YthnogdodlhkldaaGreatDoor
