/- Whether a scheme, a host, a port, a path are let be: the program's. Whether a port is let be: the program's. Questions that are asked one after another, until one is denied: the variadic function, for its two callers. -/
import Derived.Test.YthnogdodlhkldaaGreatDoorOrgZ
import Derived.Test.YthnogdodlhkldaaGreatDoorSrcZ
import Derived.LoopN
set_option maxRecDepth 100000
set_option maxHeartbeats 8000000
namespace Go.Proofs.YthnogdodlhkldaaGreatDoor
open Go.RowKit
theorem rN (t i:ByteArray):∃ b0 b1 b2 b3 b4:Bool,(t.toList==i.toList)=b0/\(t.toList==[104,116,116,112])=b1/\(i.toList==[104,116,116,112,115])=b2/\(t.toList==[119,115])=b3/\(i.toList==[119,115,115])=b4/\Hid (gS t.data.toList i.data.toList=(b0 || (b1&&b2) || (b3&&b4)))/\Hid (b1=true->b3=false):=by
 refine⟨_,_,_,_,_,rfl,rfl,rfl,rfl,rfl,?_,?_⟩
 · rw[cZ,bJ,bJ,bJ,bJ];exact zH rfl
 · rw[bJ,bJ]
   refine zH fun h => ?_;have e:t.data.toList=yD:=of_decide_eq_true h;rw[e];decide
theorem tQ (t i:ByteArray)(w:World):Calls Tryz.prog 197 #[.string t,.string i] w fun e w'=>e=.returned (.bool (gS t.data.toList i.data.toList))/\w'=w:=by
 obtain⟨b0,b1,b2,b3,b4,g0,g1,g2,g3,g4,HS,HX⟩:=rN t i
 cases b0<;>cases b1<;>cases b2<;>cases b3<;>cases b4
 all_goals
  first
  | exact absurd (HX.out rfl) (by decide)
  | (have HF:=zH HS.out.symm
     clear HS HX
     go_enter Tryz.func197,Tryz.ntmps197
     go_wp2
     go_ret
     exact⟨aA HF.out,rfl⟩)
theorem iX (t i:ByteArray)(b:Bool)(hb:gS t.data.toList i.data.toList=b):Hid (∀ W,Calls Tryz.prog 197 #[.string t,.string i] W fun e w'=>e=.returned (.bool b)/\w'=W) :=
 zH fun W=>by rw[<- hb];exact tQ t i W
theorem dK (s:ByteArray):s.toList.isEmpty=s.data.toList.isEmpty:=aF s
theorem aC4 (t i:ByteArray)(ht:t.size<=100000)(m:Bool)(w:World):Calls Tryz.prog 239 #[.string t,.string i,.bool m] w fun e w'=>e=.returned (.bool (fP t.data.toList i.data.toList m))/\w'=w:=by
 obtain⟨b0,g0⟩:∃ b,t.toList.isEmpty=b:=⟨_,rfl⟩;obtain⟨b1,g1⟩:∃ b,(i.toList==t.toList)=b:=⟨_,rfl⟩;obtain⟨b2,h2⟩:∃ b,decide (t.data.toList.getLast? = some 47)=b:=⟨_,rfl⟩;obtain⟨b3,h3⟩:∃ b,t.data.toList.isPrefixOf i.data.toList=b:=⟨_,rfl⟩;have HS:Hid (fP t.data.toList i.data.toList m=(b0 || m || b1 || (b2&&b3))):=zH (by rw[<- g0,<- g1,<- h2,<- h3,dK,cZ];rfl)
 have C2:Hid (∀ W,Calls Tryz.prog 125 #[.string t,.string ⟨#[47]⟩] W fun e w'=>e=.returned (.bool b2)/\w'=W):=zH fun W=>by
  have:=Tryz.strings_HasSuffix t ⟨#[47]⟩ W (by omega);rw[show(⟨#[47]⟩:ByteArray).data.toList=[47]from rfl,jQ,h2]at this;exact this
 have C3:Hid (∀ W,Calls Tryz.prog 77 #[.string i,.string t] W fun e w'=>e=.returned (.bool b3)/\w'=W):=zH fun W=>by
  have:=Tryz.strings_HasPrefix i t W;rw[show Lib.hasPrefix i.data.toList t.data.toList=b3 from h3]at this;exact this
 clear h2 h3 ht
 cases b0<;>cases m<;>cases b1
 case false.false.false =>
  cases b2
  · have HF:Hid (false=fP t.data.toList i.data.toList false):=zH HS.out.symm
    clear HS
    go_enter Tryz.func239,Tryz.ntmps239
    go_wp2_with fail
    refine(C2.out _).mono ?_;rintro e w ⟨rfl,rfl⟩
    go_wp2
    go_ret
    exact⟨aA HF.out,rfl⟩
  · have HF:Hid (b3=fP t.data.toList i.data.toList false):=zH HS.out.symm
    clear HS
    go_enter Tryz.func239,Tryz.ntmps239
    go_wp2_with fail
    refine(C2.out _).mono ?_;rintro e w ⟨rfl,rfl⟩
    go_wp2_with fail
    refine(C3.out _).mono ?_;rintro e w ⟨rfl,rfl⟩
    go_wp2
    go_ret
    exact⟨aA HF.out,rfl⟩
 all_goals
  have HF:Hid (true=_):=zH HS.out.symm;clear HS
  go_enter Tryz.func239,Tryz.ntmps239
  go_wp2
  go_ret
  exact⟨aA HF.out,rfl⟩
theorem aC3 (t i:ByteArray)(ht:t.size<=100000)(m b:Bool)(hb:fP t.data.toList i.data.toList m=b):Hid (∀ W,Calls Tryz.prog 239 #[.string t,.string i,.bool m] W fun e w'=>e=.returned (.bool b)/\w'=W) :=
 zH fun W=>by rw[<- hb];exact aC4 t i ht m W
theorem bG9 (l t:List UInt8):mJ l t=(Lib.hasSuffix l t && !(Lib.trimSuffix l t).isEmpty):=by
 unfold mJ
 cases h:Lib.hasSuffix l t with
 | false =>
   rw[Bool.false_and];rw[Bool.and_eq_false_iff]
   right
   apply decide_eq_false
   intro e
   have:Lib.hasSuffix l t=true:=by
    show t.isSuffixOf l=true;rw[List.isSuffixOf_iff_suffix];rw[<- e];exact List.drop_suffix _ _
   rw[h]at this;cases this
 | true =>
   have hsuf:t <:+ l:=by rw[<- List.isSuffixOf_iff_suffix];exact h
   obtain⟨a,rfl⟩:=hsuf
   have e1:(a++t).drop ((a++t).length - t.length)=t:=by
    rw[List.length_append,Nat.add_sub_cancel];exact List.drop_left ..
   have e2:Lib.trimSuffix (a++t) t=a:=by
    unfold Lib.trimSuffix;rw[if_pos h,List.length_append,Nat.add_sub_cancel];exact List.take_left ..
   rw[e1,e2,List.length_append]
   cases a with
   | nil=>simp
   | cons x a=>simp
theorem xH (k:Int)(t s h:ByteArray)(p:Int)(pa n:ByteArray)(hh:h.size<=100000)(hn:n.size<=100000)(w:World):Calls Tryz.prog 235 #[aP k t s h false p pa,.string n] w fun e w'=>e=.returned (.bool (fJ false h.data.toList n.data.toList))/\Below w.heap.size w w':=by
 obtain⟨T,hT⟩:=aO (bB h.data.toList);obtain⟨I,hI⟩:=aO (bB n.data.toList);have C1:=dM h T hT (by omega);have C2:=dM n I hI (by omega);obtain⟨b,g⟩:∃ b,(T.toList==I.toList)=b:=⟨_,rfl⟩;have HF:Hid (b=fJ false h.data.toList n.data.toList):=zH (by rw[<- g,cZ,hT,hI];rfl);clear hT hI hh hn;unfold aP
 go_enter Tryz.func235,Tryz.ntmps235
 go_wp2_with fail
 have x1:=SX.made w k t s h false p pa;have B1:Below w.heap.size w (w.alloc (.cells #[.int .i64 k,.string t,.string s,.string h,.bool false,.int .i64 p,.string pa] 75)):=(zB _ _).alloc (zL _) _;generalize hR:w.heap.size=R at x1 B1 ⊢;have HR:=zH hR;clear hR;generalize w.alloc (.cells #[.int .i64 k,.string t,.string s,.string h,.bool false,.int .i64 p,.string pa] 75)=w1 at x1 B1 ⊢;refine(C1.out _).mono ?_;rintro e w2 ⟨rfl,b2⟩;have x2:=x1.below b2;have B2:=B1.trans (b2.mono (zT x1.lt));clear b2 x1 B1
 go_wp2_with fail
 refine(C2.out _).mono ?_;rintro e w3 ⟨rfl,b3⟩;have x3:=x2.below b3;have B3:=B2.trans (b3.mono (zT x2.lt));have c4:=x3.c4;clear b3 x2 B2
 go_wp2
 go_ret
 exact⟨aA HF.out,by rw[HR.out];exact B3⟩
theorem xG (k:Int)(t s h:ByteArray)(p:Int)(pa n:ByteArray)(hh:h.size<=100000)(hn:n.size<=100000)(w:World):Calls Tryz.prog 235 #[aP k t s h true p pa,.string n] w fun e w'=>e=.returned (.bool (fJ true h.data.toList n.data.toList))/\Below w.heap.size w w':=by
 obtain⟨T,hT⟩:=aO (bB h.data.toList);obtain⟨I,hI⟩:=aO (bB n.data.toList);have sT:=nO hT;have sI:=nO hI;have C1:=dM h T hT (by omega);have C2:=dM n I hI (by omega);obtain⟨R2,hR2⟩:=aO (46 :: T.data.toList);have add:=dG ⟨#[46]⟩ T R2 hR2 (by show 1+T.size<=_;omega);obtain⟨A,hA⟩:=aO (Lib.trimSuffix I.data.toList R2.data.toList);obtain⟨f,hf⟩:∃ f,Lib.hasSuffix I.data.toList R2.data.toList=f:=⟨_,rfl⟩
 have C3:Hid (∀ W,Calls Tryz.prog 172 #[.string I,.string R2] W fun e w'=>e=.returned (.tuple #[.string A,.bool f])/\w'=W):=zH fun W=>by
  have:=Tryz.strings_CutSuffix I R2 W (by omega);rw[<- hA,hf,<- aM (T:=A) rfl]at this;exact this
 obtain⟨b0,g0⟩:∃ b,T.toList.isEmpty=b:=⟨_,rfl⟩;obtain⟨b1,g1⟩:∃ b,A.toList.isEmpty=b:=⟨_,rfl⟩
 have HS:Hid (fJ true h.data.toList n.data.toList=(b0 || (f && !b1))):=zH (by
  unfold fJ
  rw[if_pos rfl,bG9,<- g0,<- g1,<- hf,dK,dK,hA,hR2,hT,hI])
 clear hT hI hh hn sT sI hR2 hA hf;unfold aP
 cases b0<;>cases f<;>cases b1
 all_goals
  have HF:=zH HS.out.symm;clear HS
  go_enter Tryz.func235,Tryz.ntmps235
  go_wp2_with fail
  have x1:=SX.made w k t s h true p pa;have B1:Below w.heap.size w (w.alloc (.cells #[.int .i64 k,.string t,.string s,.string h,.bool true,.int .i64 p,.string pa] 75)):=(zB _ _).alloc (zL _) _;generalize hR:w.heap.size=R at x1 B1 ⊢;have HR:=zH hR;clear hR;generalize w.alloc (.cells #[.int .i64 k,.string t,.string s,.string h,.bool true,.int .i64 p,.string pa] 75)=w1 at x1 B1 ⊢;refine(C1.out _).mono ?_;rintro e w2 ⟨rfl,b2⟩;have x2:=x1.below b2;have B2:=B1.trans (b2.mono (zT x1.lt));clear b2 x1 B1
  go_wp2_with fail
  refine(C2.out _).mono ?_;rintro e w3 ⟨rfl,b3⟩;have x3:=x2.below b3;have B3:=B2.trans (b3.mono (zT x2.lt));have c4:=x3.c4;clear b3 x2 B2
  go_wp2_with fail
  first
  | (go_ret
     exact⟨aA HF.out,by rw[HR.out];exact B3⟩)
  | (refine(C3.out _).mono ?_
     rintro e w3 ⟨rfl,rfl⟩
     go_wp2
     go_ret
     exact⟨aA HF.out,by rw[HR.out];exact B3⟩)
theorem aC5 (k:Int)(t s h:ByteArray)(wd:Bool)(p:Int)(pa n:ByteArray)(hh:h.size<=100000)(hn:n.size<=100000)(b:Bool)(hb:fJ wd h.data.toList n.data.toList=b):Hid (∀ W,Calls Tryz.prog 235 #[aP k t s h wd p pa,.string n] W fun e w'=>e=.returned (.bool b)/\Below W.heap.size W w') :=
 zH fun W=>by
  rw[<- hb]
  cases wd
  · exact xH k t s h p pa n hh hn W
  · exact xG k t s h p pa n hh hn W
end Go.Proofs.YthnogdodlhkldaaGreatDoor
namespace Go.Proofs.YthnogdodlhkldaaGreatDoor
open Go.RowKit
theorem bH3 (l:List UInt8):kM l=0\/kM l=80\/kM l=443:=by
 unfold kM;split
 · right;left;rfl
 · split
   · right;right;rfl
   · left;rfl
theorem portU_M (o:Bool)(s h:ByteArray)(p:Int)(pa q:ByteArray)(d:Nat)(hd:kM s.data.toList=d):dV (uM o s h p pa q)=if p=0 then (d:Int) else p:=by rw[<- hd];rfl
theorem aT6 (sp:Int)(o:Bool)(s h:ByteArray)(p:Int)(pa q:ByteArray)(d:Nat)(hd:kM s.data.toList=d):eB sp (uM o s h p pa q)=if sp = -1 then true else if sp=0 then decide (dV (uM o s h p pa q)=(d:Int)) else decide (dV (uM o s h p pa q)=sp) || (decide (sp=80)&&decide (dV (uM o s h p pa q)=443)):=by rw[<- hd];rfl
theorem aC2 (k:Int)(t s h:ByteArray)(wd:Bool)(sp:Int)(pa:ByteArray)(o:Bool)(s2 h2:ByteArray)(p:Int)(pa2 q2:ByteArray)(w:World):Calls Tryz.prog 237 #[aP k t s h wd sp pa,uV o s2 h2 p pa2 q2] w fun e w'=>e=.returned (.bool (eB sp (uM o s2 h2 p pa2 q2)))/\Below w.heap.size w w':=by
 obtain⟨d,hd⟩:∃ d,kM s2.data.toList=d:=⟨_,rfl⟩;have hd3:d=0\/d=80\/d=443:=by rw[<- hd];exact bH3 _
 have CD:=gK s2 d hd;have HP:=zH (aT6 sp o s2 h2 p pa2 q2 d hd);have HU:=zH (portU_M o s2 h2 p pa2 q2 d hd);clear hd;unfold uV aP
 by_cases s1:sp = -1
 · subst s1
   by_cases h0:p=0
   · subst h0
     have HF:Hid (true=eB (-1) (uM o s2 h2 0 pa2 q2)):=zH (by rw[HP.out,if_pos rfl]);clear HP HU
     go_enter Tryz.func237,Tryz.ntmps237
     go_wp2_with fail
     have xn:=SX.made w k t s h wd (-1) pa;have xz:=BX.made (w.alloc (.cells #[.int .i64 k,.string t,.string s,.string h,.bool wd,.int .i64 (-1),.string pa] 75)) o s2 h2 0 pa2 q2;have xy:=xn.below ((zB _ _).alloc (zL _) (.cells #[.bool o,.string s2,.string h2,.int .i64 0,.string pa2,.string q2] 40));have B2:=((zB w.heap.size w).alloc (zL _) (.cells #[.int .i64 k,.string t,.string s,.string h,.bool wd,.int .i64 (-1),.string pa] 75)).alloc (Below.size ((zB w.heap.size w).alloc (zL _) (.cells #[.int .i64 k,.string t,.string s,.string h,.bool wd,.int .i64 (-1),.string pa] 75))) (.cells #[.bool o,.string s2,.string h2,.int .i64 0,.string pa2,.string q2] 40);rw[bD]at xz;clear xn;generalize hR:w.heap.size=Ra at xy xz B2 ⊢;have HR:=zH hR;clear hR;obtain⟨Rb,hRb⟩:∃ Rb,Ra+1=Rb:=⟨_,rfl⟩;rw[hRb]at xz
     try rw[hRb]
     clear hRb;generalize(w.alloc (.cells #[.int .i64 k,.string t,.string s,.string h,.bool wd,.int .i64 (-1),.string pa] 75)).alloc (.cells #[.bool o,.string s2,.string h2,.int .i64 0,.string pa2,.string q2] 40)=w1 at xy xz B2 ⊢;have c1:=xz.c1;have c3:=xz.c3;have c5:=xy.c5
     go_wp2_with fail
     refine(CD.out _).mono ?_;rintro e w1 ⟨rfl,rfl⟩
     go_wp2
     go_ret
     exact⟨aA HF.out,by rw[HR.out];exact B2⟩
   · have n0:(p==0)=false:=by rw[beq_eq_false_iff_ne];exact h0
     have hU:dV (uM o s2 h2 p pa2 q2)=p:=by rw[HU.out,if_neg h0]
     clear h0 hU;have HF:Hid (true=eB (-1) (uM o s2 h2 p pa2 q2)):=zH (by rw[HP.out,if_pos rfl]);clear HP HU
     go_enter Tryz.func237,Tryz.ntmps237
     go_wp2_with fail
     have xn:=SX.made w k t s h wd (-1) pa;have xz:=BX.made (w.alloc (.cells #[.int .i64 k,.string t,.string s,.string h,.bool wd,.int .i64 (-1),.string pa] 75)) o s2 h2 p pa2 q2;have xy:=xn.below ((zB _ _).alloc (zL _) (.cells #[.bool o,.string s2,.string h2,.int .i64 p,.string pa2,.string q2] 40));have B2:=((zB w.heap.size w).alloc (zL _) (.cells #[.int .i64 k,.string t,.string s,.string h,.bool wd,.int .i64 (-1),.string pa] 75)).alloc (Below.size ((zB w.heap.size w).alloc (zL _) (.cells #[.int .i64 k,.string t,.string s,.string h,.bool wd,.int .i64 (-1),.string pa] 75))) (.cells #[.bool o,.string s2,.string h2,.int .i64 p,.string pa2,.string q2] 40);rw[bD]at xz;clear xn;generalize hR:w.heap.size=Ra at xy xz B2 ⊢;have HR:=zH hR;clear hR;obtain⟨Rb,hRb⟩:∃ Rb,Ra+1=Rb:=⟨_,rfl⟩;rw[hRb]at xz
     try rw[hRb]
     clear hRb;generalize(w.alloc (.cells #[.int .i64 k,.string t,.string s,.string h,.bool wd,.int .i64 (-1),.string pa] 75)).alloc (.cells #[.bool o,.string s2,.string h2,.int .i64 p,.string pa2,.string q2] 40)=w1 at xy xz B2 ⊢;have c1:=xz.c1;have c3:=xz.c3;have c5:=xy.c5
     go_wp2_with fail
     refine(CD.out _).mono ?_;rintro e w1 ⟨rfl,rfl⟩
     go_wp2
     go_ret
     exact⟨aA HF.out,by rw[HR.out];exact B2⟩
 have n1:(sp == -1)=false:=by rw[beq_eq_false_iff_ne];exact s1
 by_cases s0:sp=0
 · subst s0
   by_cases h0:p=0
   · subst h0
     have HF:Hid (true=eB 0 (uM o s2 h2 0 pa2 q2)):=zH (by rw[HP.out,if_neg (by decide),if_pos rfl,HU.out,if_pos rfl];simp);clear HP HU
     go_enter Tryz.func237,Tryz.ntmps237
     go_wp2_with fail
     have xn:=SX.made w k t s h wd 0 pa;have xz:=BX.made (w.alloc (.cells #[.int .i64 k,.string t,.string s,.string h,.bool wd,.int .i64 0,.string pa] 75)) o s2 h2 0 pa2 q2;have xy:=xn.below ((zB _ _).alloc (zL _) (.cells #[.bool o,.string s2,.string h2,.int .i64 0,.string pa2,.string q2] 40));have B2:=((zB w.heap.size w).alloc (zL _) (.cells #[.int .i64 k,.string t,.string s,.string h,.bool wd,.int .i64 0,.string pa] 75)).alloc (Below.size ((zB w.heap.size w).alloc (zL _) (.cells #[.int .i64 k,.string t,.string s,.string h,.bool wd,.int .i64 0,.string pa] 75))) (.cells #[.bool o,.string s2,.string h2,.int .i64 0,.string pa2,.string q2] 40);rw[bD]at xz;clear xn;generalize hR:w.heap.size=Ra at xy xz B2 ⊢;have HR:=zH hR;clear hR;obtain⟨Rb,hRb⟩:∃ Rb,Ra+1=Rb:=⟨_,rfl⟩;rw[hRb]at xz
     try rw[hRb]
     clear hRb;generalize(w.alloc (.cells #[.int .i64 k,.string t,.string s,.string h,.bool wd,.int .i64 0,.string pa] 75)).alloc (.cells #[.bool o,.string s2,.string h2,.int .i64 0,.string pa2,.string q2] 40)=w1 at xy xz B2 ⊢;have c1:=xz.c1;have c3:=xz.c3;have c5:=xy.c5
     go_wp2_with fail
     refine(CD.out _).mono ?_;rintro e w1 ⟨rfl,rfl⟩
     go_wp2
     go_ret
     exact⟨aA HF.out,by rw[HR.out];exact B2⟩
   · have n0:(p==0)=false:=by rw[beq_eq_false_iff_ne];exact h0
     have hU:dV (uM o s2 h2 p pa2 q2)=p:=by rw[HU.out,if_neg h0]
     obtain⟨b,g⟩:∃ b,(p==(d:Int))=b:=⟨_,rfl⟩;have HF:Hid (b=eB 0 (uM o s2 h2 p pa2 q2)):=zH (by rw[HP.out,if_neg (by decide),if_pos rfl,hU,<- g];rfl);clear HP HU h0 hU
     go_enter Tryz.func237,Tryz.ntmps237
     go_wp2_with fail
     have xn:=SX.made w k t s h wd 0 pa;have xz:=BX.made (w.alloc (.cells #[.int .i64 k,.string t,.string s,.string h,.bool wd,.int .i64 0,.string pa] 75)) o s2 h2 p pa2 q2;have xy:=xn.below ((zB _ _).alloc (zL _) (.cells #[.bool o,.string s2,.string h2,.int .i64 p,.string pa2,.string q2] 40));have B2:=((zB w.heap.size w).alloc (zL _) (.cells #[.int .i64 k,.string t,.string s,.string h,.bool wd,.int .i64 0,.string pa] 75)).alloc (Below.size ((zB w.heap.size w).alloc (zL _) (.cells #[.int .i64 k,.string t,.string s,.string h,.bool wd,.int .i64 0,.string pa] 75))) (.cells #[.bool o,.string s2,.string h2,.int .i64 p,.string pa2,.string q2] 40);rw[bD]at xz;clear xn;generalize hR:w.heap.size=Ra at xy xz B2 ⊢;have HR:=zH hR;clear hR;obtain⟨Rb,hRb⟩:∃ Rb,Ra+1=Rb:=⟨_,rfl⟩;rw[hRb]at xz
     try rw[hRb]
     clear hRb;generalize(w.alloc (.cells #[.int .i64 k,.string t,.string s,.string h,.bool wd,.int .i64 0,.string pa] 75)).alloc (.cells #[.bool o,.string s2,.string h2,.int .i64 p,.string pa2,.string q2] 40)=w1 at xy xz B2 ⊢;have c1:=xz.c1;have c3:=xz.c3;have c5:=xy.c5
     go_wp2_with fail
     refine(CD.out _).mono ?_;rintro e w1 ⟨rfl,rfl⟩
     go_wp2
     go_ret
     exact⟨aA HF.out,by rw[HR.out];exact B2⟩
 have n2:(sp==0)=false:=by rw[beq_eq_false_iff_ne];exact s0
 by_cases s8:sp=80
 · subst s8
   by_cases h0:p=0
   · subst h0
     obtain rfl | rfl | rfl:=hd3
     all_goals
      have HF:Hid (_=eB 80 (uM o s2 h2 0 pa2 q2)):=zH (by exact(by rw[HP.out,if_neg (by decide),if_neg (by decide),HU.out,if_pos rfl]:eB 80 (uM o s2 h2 0 pa2 q2)=_).symm);clear HP HU
      go_enter Tryz.func237,Tryz.ntmps237
      go_wp2_with fail
      have xn:=SX.made w k t s h wd 80 pa;have xz:=BX.made (w.alloc (.cells #[.int .i64 k,.string t,.string s,.string h,.bool wd,.int .i64 80,.string pa] 75)) o s2 h2 0 pa2 q2;have xy:=xn.below ((zB _ _).alloc (zL _) (.cells #[.bool o,.string s2,.string h2,.int .i64 0,.string pa2,.string q2] 40));have B2:=((zB w.heap.size w).alloc (zL _) (.cells #[.int .i64 k,.string t,.string s,.string h,.bool wd,.int .i64 80,.string pa] 75)).alloc (Below.size ((zB w.heap.size w).alloc (zL _) (.cells #[.int .i64 k,.string t,.string s,.string h,.bool wd,.int .i64 80,.string pa] 75))) (.cells #[.bool o,.string s2,.string h2,.int .i64 0,.string pa2,.string q2] 40);rw[bD]at xz;clear xn;generalize hR:w.heap.size=Ra at xy xz B2 ⊢;have HR:=zH hR;clear hR;obtain⟨Rb,hRb⟩:∃ Rb,Ra+1=Rb:=⟨_,rfl⟩;rw[hRb]at xz
      try rw[hRb]
      clear hRb;generalize(w.alloc (.cells #[.int .i64 k,.string t,.string s,.string h,.bool wd,.int .i64 80,.string pa] 75)).alloc (.cells #[.bool o,.string s2,.string h2,.int .i64 0,.string pa2,.string q2] 40)=w1 at xy xz B2 ⊢;have c1:=xz.c1;have c3:=xz.c3;have c5:=xy.c5
      go_wp2_with fail
      refine(CD.out _).mono ?_;rintro e w1 ⟨rfl,rfl⟩
      go_wp2
      go_ret
      exact⟨aA HF.out,by rw[HR.out];exact B2⟩
   · have n0:(p==0)=false:=by rw[beq_eq_false_iff_ne];exact h0
     have hU:dV (uM o s2 h2 p pa2 q2)=p:=by rw[HU.out,if_neg h0]
     obtain⟨b,g⟩:∃ b,(p==80)=b:=⟨_,rfl⟩;obtain⟨b2,g2⟩:∃ b,(p==443)=b:=⟨_,rfl⟩;have HB:Hid ((b || b2)=eB 80 (uM o s2 h2 p pa2 q2)):=zH (by rw[HP.out,if_neg (by decide),if_neg (by decide),hU,<- g,<- g2];rfl);clear HP HU h0 hU n1 n2 s1 s0
     cases b
     all_goals
      have HF:Hid (_=eB 80 (uM o s2 h2 p pa2 q2)):=zH (by exact HB.out)
      go_enter Tryz.func237,Tryz.ntmps237
      go_wp2_with fail
      have xn:=SX.made w k t s h wd 80 pa;have xz:=BX.made (w.alloc (.cells #[.int .i64 k,.string t,.string s,.string h,.bool wd,.int .i64 80,.string pa] 75)) o s2 h2 p pa2 q2;have xy:=xn.below ((zB _ _).alloc (zL _) (.cells #[.bool o,.string s2,.string h2,.int .i64 p,.string pa2,.string q2] 40));have B2:=((zB w.heap.size w).alloc (zL _) (.cells #[.int .i64 k,.string t,.string s,.string h,.bool wd,.int .i64 80,.string pa] 75)).alloc (Below.size ((zB w.heap.size w).alloc (zL _) (.cells #[.int .i64 k,.string t,.string s,.string h,.bool wd,.int .i64 80,.string pa] 75))) (.cells #[.bool o,.string s2,.string h2,.int .i64 p,.string pa2,.string q2] 40);rw[bD]at xz;clear xn;generalize hR:w.heap.size=Ra at xy xz B2 ⊢;have HR:=zH hR;clear hR;obtain⟨Rb,hRb⟩:∃ Rb,Ra+1=Rb:=⟨_,rfl⟩;rw[hRb]at xz
      try rw[hRb]
      clear hRb;generalize(w.alloc (.cells #[.int .i64 k,.string t,.string s,.string h,.bool wd,.int .i64 80,.string pa] 75)).alloc (.cells #[.bool o,.string s2,.string h2,.int .i64 p,.string pa2,.string q2] 40)=w1 at xy xz B2 ⊢;have c1:=xz.c1;have c3:=xz.c3;have c5:=xy.c5
      go_wp2_with fail
      refine(CD.out _).mono ?_;rintro e w1 ⟨rfl,rfl⟩
      go_wp2
      go_ret
      exact⟨aA HF.out,by rw[HR.out];exact B2⟩
 have n3:(sp==80)=false:=by rw[beq_eq_false_iff_ne];exact s8
 by_cases h0:p=0
 · subst h0
   obtain⟨b,g⟩:∃ b,((d:Int)==sp)=b:=⟨_,rfl⟩;have HF:Hid (b=eB sp (uM o s2 h2 0 pa2 q2)):=zH (by rw[HP.out,if_neg s1,if_neg s0,HU.out,if_pos rfl,decide_eq_false s8,Bool.false_and,Bool.or_false,<- g];rfl);clear HP HU
   go_enter Tryz.func237,Tryz.ntmps237
   go_wp2_with fail
   have xn:=SX.made w k t s h wd sp pa;have xz:=BX.made (w.alloc (.cells #[.int .i64 k,.string t,.string s,.string h,.bool wd,.int .i64 sp,.string pa] 75)) o s2 h2 0 pa2 q2;have xy:=xn.below ((zB _ _).alloc (zL _) (.cells #[.bool o,.string s2,.string h2,.int .i64 0,.string pa2,.string q2] 40));have B2:=((zB w.heap.size w).alloc (zL _) (.cells #[.int .i64 k,.string t,.string s,.string h,.bool wd,.int .i64 sp,.string pa] 75)).alloc (Below.size ((zB w.heap.size w).alloc (zL _) (.cells #[.int .i64 k,.string t,.string s,.string h,.bool wd,.int .i64 sp,.string pa] 75))) (.cells #[.bool o,.string s2,.string h2,.int .i64 0,.string pa2,.string q2] 40);rw[bD]at xz;clear xn;generalize hR:w.heap.size=Ra at xy xz B2 ⊢;have HR:=zH hR;clear hR;obtain⟨Rb,hRb⟩:∃ Rb,Ra+1=Rb:=⟨_,rfl⟩;rw[hRb]at xz
   try rw[hRb]
   clear hRb;generalize(w.alloc (.cells #[.int .i64 k,.string t,.string s,.string h,.bool wd,.int .i64 sp,.string pa] 75)).alloc (.cells #[.bool o,.string s2,.string h2,.int .i64 0,.string pa2,.string q2] 40)=w1 at xy xz B2 ⊢;have c1:=xz.c1;have c3:=xz.c3;have c5:=xy.c5
   go_wp2_with fail
   refine(CD.out _).mono ?_;rintro e w1 ⟨rfl,rfl⟩
   go_wp2
   go_ret
   exact⟨aA HF.out,by rw[HR.out];exact B2⟩
 · have n0:(p==0)=false:=by rw[beq_eq_false_iff_ne];exact h0
   have hU:dV (uM o s2 h2 p pa2 q2)=p:=by rw[HU.out,if_neg h0]
   obtain⟨b,g⟩:∃ b,(p==sp)=b:=⟨_,rfl⟩;have HF:Hid (b=eB sp (uM o s2 h2 p pa2 q2)):=zH (by rw[HP.out,if_neg s1,if_neg s0,hU,decide_eq_false s8,Bool.false_and,Bool.or_false,<- g];rfl);clear HP HU h0 hU
   go_enter Tryz.func237,Tryz.ntmps237
   go_wp2_with fail
   have xn:=SX.made w k t s h wd sp pa;have xz:=BX.made (w.alloc (.cells #[.int .i64 k,.string t,.string s,.string h,.bool wd,.int .i64 sp,.string pa] 75)) o s2 h2 p pa2 q2;have xy:=xn.below ((zB _ _).alloc (zL _) (.cells #[.bool o,.string s2,.string h2,.int .i64 p,.string pa2,.string q2] 40));have B2:=((zB w.heap.size w).alloc (zL _) (.cells #[.int .i64 k,.string t,.string s,.string h,.bool wd,.int .i64 sp,.string pa] 75)).alloc (Below.size ((zB w.heap.size w).alloc (zL _) (.cells #[.int .i64 k,.string t,.string s,.string h,.bool wd,.int .i64 sp,.string pa] 75))) (.cells #[.bool o,.string s2,.string h2,.int .i64 p,.string pa2,.string q2] 40);rw[bD]at xz;clear xn;generalize hR:w.heap.size=Ra at xy xz B2 ⊢;have HR:=zH hR;clear hR;obtain⟨Rb,hRb⟩:∃ Rb,Ra+1=Rb:=⟨_,rfl⟩;rw[hRb]at xz
   try rw[hRb]
   clear hRb;generalize(w.alloc (.cells #[.int .i64 k,.string t,.string s,.string h,.bool wd,.int .i64 sp,.string pa] 75)).alloc (.cells #[.bool o,.string s2,.string h2,.int .i64 p,.string pa2,.string q2] 40)=w1 at xy xz B2 ⊢;have c1:=xz.c1;have c3:=xz.c3;have c5:=xy.c5
   go_wp2_with fail
   refine(CD.out _).mono ?_;rintro e w1 ⟨rfl,rfl⟩
   go_wp2
   go_ret
   exact⟨aA HF.out,by rw[HR.out];exact B2⟩
theorem aC1 (k:Int)(t s h:ByteArray)(wd:Bool)(sp:Int)(pa:ByteArray)(o:Bool)(s2 h2:ByteArray)(p:Int)(pa2 q2:ByteArray)(b:Bool)(hb:eB sp (uM o s2 h2 p pa2 q2)=b):Hid (∀ W,Calls Tryz.prog 237 #[aP k t s h wd sp pa,uV o s2 h2 p pa2 q2] W fun e w'=>e=.returned (.bool b)/\Below W.heap.size W w') :=
 zH fun W=>by rw[<- hb];exact aC2 k t s h wd sp pa o s2 h2 p pa2 q2 W
end Go.Proofs.YthnogdodlhkldaaGreatDoor
namespace Go.Proofs.YthnogdodlhkldaaGreatDoor
open Go.RowKit
def iL (W:World)(Q:Nat)(M S T U:Nat):Prop:=W.heap[Q]? = some (.cells #[.func (.func 232) #[] #[.pointer (some ⟨U,0,none⟩)],.func (.func 233) #[] #[.pointer (some ⟨T,0,none⟩),.pointer (some ⟨U,0,none⟩)],.func (.func 234) #[] #[.pointer (some ⟨S,0,none⟩),.pointer (some ⟨U,0,none⟩)],.func (.func 236) #[] #[.pointer (some ⟨S,0,none⟩),.pointer (some ⟨U,0,none⟩)],.func (.func 238) #[] #[.pointer (some ⟨S,0,none⟩),.pointer (some ⟨U,0,none⟩),.pointer (some ⟨M,0,none⟩)]] 32 (0,0))
theorem iL.below {W W':World}{Q M S T U:Nat}(h:iL W Q M S T U)(hb:Below W.heap.size W W'):iL W' Q M S T U:=by
 unfold iL at *;rw[hb.block Q (aD h)];exact h
theorem iL.c0 {W:World}{Q M S T U:Nat}(h:iL W Q M S T U):W.cell? ⟨Q,0,none⟩=some (.func (.func 232) #[] #[.pointer (some ⟨U,0,none⟩)]):=by rw[aG h];rfl
theorem iL.c1 {W:World}{Q M S T U:Nat}(h:iL W Q M S T U):W.cell? ⟨Q,1,none⟩=some (.func (.func 233) #[] #[.pointer (some ⟨T,0,none⟩),.pointer (some ⟨U,0,none⟩)]):=by rw[aG h];rfl
theorem iL.c2 {W:World}{Q M S T U:Nat}(h:iL W Q M S T U):W.cell? ⟨Q,2,none⟩=some (.func (.func 234) #[] #[.pointer (some ⟨S,0,none⟩),.pointer (some ⟨U,0,none⟩)]):=by rw[aG h];rfl
theorem iL.c3 {W:World}{Q M S T U:Nat}(h:iL W Q M S T U):W.cell? ⟨Q,3,none⟩=some (.func (.func 236) #[] #[.pointer (some ⟨S,0,none⟩),.pointer (some ⟨U,0,none⟩)]):=by rw[aG h];rfl
theorem iL.c4 {W:World}{Q M S T U:Nat}(h:iL W Q M S T U):W.cell? ⟨Q,4,none⟩=some (.func (.func 238) #[] #[.pointer (some ⟨S,0,none⟩),.pointer (some ⟨U,0,none⟩),.pointer (some ⟨M,0,none⟩)]):=by rw[aG h];rfl
theorem allP_0 (K:World->Prop)(HK:Hid (∀ W W',K W->Below W.heap.size W W'->K W'))(Q M S T U:Nat)(C0:Hid (∀ W,K W->Calls Tryz.prog 232 #[.pointer (some ⟨U,0,none⟩)] W fun e w'=>e=.returned (.bool false)/\Below W.heap.size W w'))(w:World)(hk:K w)(hq:iL w Q M S T U):Calls Tryz.prog 231 #[.slice (some ⟨Q,0,none⟩) 5 5] w fun e w'=>e=.returned (.bool false)/\Below w.heap.size w w':=by
 have c0:=hq.c0
 go_enter Tryz.func231,Tryz.ntmps231
 go_wp2_with fail
 refine wp_loop_rounds 6 ?_;rw[rounds_succ]
 go_wp2_with fail
 refine(C0.out _ hk).mono ?_;rintro e w1 ⟨rfl,b_⟩;have hk1:=HK.out _ _ hk b_;have hq1:=hq.below b_;have B1:=b_;clear hk hq c0 b_;have hk:=hk1;have hq:=hq1;clear hk1 hq1;have c1:=hq.c1
 go_wp2
 go_ret
 exact⟨rfl,B1⟩
theorem allP_1 (K:World->Prop)(HK:Hid (∀ W W',K W->Below W.heap.size W W'->K W'))(Q M S T U:Nat)(C0:Hid (∀ W,K W->Calls Tryz.prog 232 #[.pointer (some ⟨U,0,none⟩)] W fun e w'=>e=.returned (.bool true)/\Below W.heap.size W w'))(C1:Hid (∀ W,K W->Calls Tryz.prog 233 #[.pointer (some ⟨T,0,none⟩),.pointer (some ⟨U,0,none⟩)] W fun e w'=>e=.returned (.bool false)/\Below W.heap.size W w'))(w:World)(hk:K w)(hq:iL w Q M S T U):Calls Tryz.prog 231 #[.slice (some ⟨Q,0,none⟩) 5 5] w fun e w'=>e=.returned (.bool false)/\Below w.heap.size w w':=by
 have c0:=hq.c0
 go_enter Tryz.func231,Tryz.ntmps231
 go_wp2_with fail
 refine wp_loop_rounds 6 ?_;rw[rounds_succ]
 go_wp2_with fail
 refine(C0.out _ hk).mono ?_;rintro e w1 ⟨rfl,b_⟩;have hk1:=HK.out _ _ hk b_;have hq1:=hq.below b_;have B1:=b_;clear hk hq c0 b_;have hk:=hk1;have hq:=hq1;clear hk1 hq1;have c1:=hq.c1
 go_wp2_with fail
 rw[rounds_succ]
 go_wp2_with fail
 refine(C1.out _ hk).mono ?_;rintro e w2 ⟨rfl,b_⟩;have hk2:=HK.out _ _ hk b_;have hq2:=hq.below b_;have B2:=B1.trans (b_.mono B1.size);clear hk hq c1 b_ B1;have hk:=hk2;have hq:=hq2;clear hk2 hq2;have c2:=hq.c2
 go_wp2
 go_ret
 exact⟨rfl,B2⟩
theorem allP_2 (K:World->Prop)(HK:Hid (∀ W W',K W->Below W.heap.size W W'->K W'))(Q M S T U:Nat)(C0:Hid (∀ W,K W->Calls Tryz.prog 232 #[.pointer (some ⟨U,0,none⟩)] W fun e w'=>e=.returned (.bool true)/\Below W.heap.size W w'))(C1:Hid (∀ W,K W->Calls Tryz.prog 233 #[.pointer (some ⟨T,0,none⟩),.pointer (some ⟨U,0,none⟩)] W fun e w'=>e=.returned (.bool true)/\Below W.heap.size W w'))(C2:Hid (∀ W,K W->Calls Tryz.prog 234 #[.pointer (some ⟨S,0,none⟩),.pointer (some ⟨U,0,none⟩)] W fun e w'=>e=.returned (.bool false)/\Below W.heap.size W w'))(w:World)(hk:K w)(hq:iL w Q M S T U):Calls Tryz.prog 231 #[.slice (some ⟨Q,0,none⟩) 5 5] w fun e w'=>e=.returned (.bool false)/\Below w.heap.size w w':=by
 have c0:=hq.c0
 go_enter Tryz.func231,Tryz.ntmps231
 go_wp2_with fail
 refine wp_loop_rounds 6 ?_;rw[rounds_succ]
 go_wp2_with fail
 refine(C0.out _ hk).mono ?_;rintro e w1 ⟨rfl,b_⟩;have hk1:=HK.out _ _ hk b_;have hq1:=hq.below b_;have B1:=b_;clear hk hq c0 b_;have hk:=hk1;have hq:=hq1;clear hk1 hq1;have c1:=hq.c1
 go_wp2_with fail
 rw[rounds_succ]
 go_wp2_with fail
 refine(C1.out _ hk).mono ?_;rintro e w2 ⟨rfl,b_⟩;have hk2:=HK.out _ _ hk b_;have hq2:=hq.below b_;have B2:=B1.trans (b_.mono B1.size);clear hk hq c1 b_ B1;have hk:=hk2;have hq:=hq2;clear hk2 hq2;have c2:=hq.c2
 go_wp2_with fail
 rw[rounds_succ]
 go_wp2_with fail
 refine(C2.out _ hk).mono ?_;rintro e w3 ⟨rfl,b_⟩;have hk3:=HK.out _ _ hk b_;have hq3:=hq.below b_;have B3:=B2.trans (b_.mono B2.size);clear hk hq c2 b_ B2;have hk:=hk3;have hq:=hq3;clear hk3 hq3;have c3:=hq.c3
 go_wp2
 go_ret
 exact⟨rfl,B3⟩
theorem allP_3 (K:World->Prop)(HK:Hid (∀ W W',K W->Below W.heap.size W W'->K W'))(Q M S T U:Nat)(C0:Hid (∀ W,K W->Calls Tryz.prog 232 #[.pointer (some ⟨U,0,none⟩)] W fun e w'=>e=.returned (.bool true)/\Below W.heap.size W w'))(C1:Hid (∀ W,K W->Calls Tryz.prog 233 #[.pointer (some ⟨T,0,none⟩),.pointer (some ⟨U,0,none⟩)] W fun e w'=>e=.returned (.bool true)/\Below W.heap.size W w'))(C2:Hid (∀ W,K W->Calls Tryz.prog 234 #[.pointer (some ⟨S,0,none⟩),.pointer (some ⟨U,0,none⟩)] W fun e w'=>e=.returned (.bool true)/\Below W.heap.size W w'))(C3:Hid (∀ W,K W->Calls Tryz.prog 236 #[.pointer (some ⟨S,0,none⟩),.pointer (some ⟨U,0,none⟩)] W fun e w'=>e=.returned (.bool false)/\Below W.heap.size W w'))(w:World)(hk:K w)(hq:iL w Q M S T U):Calls Tryz.prog 231 #[.slice (some ⟨Q,0,none⟩) 5 5] w fun e w'=>e=.returned (.bool false)/\Below w.heap.size w w':=by
 have c0:=hq.c0
 go_enter Tryz.func231,Tryz.ntmps231
 go_wp2_with fail
 refine wp_loop_rounds 6 ?_;rw[rounds_succ]
 go_wp2_with fail
 refine(C0.out _ hk).mono ?_;rintro e w1 ⟨rfl,b_⟩;have hk1:=HK.out _ _ hk b_;have hq1:=hq.below b_;have B1:=b_;clear hk hq c0 b_;have hk:=hk1;have hq:=hq1;clear hk1 hq1;have c1:=hq.c1
 go_wp2_with fail
 rw[rounds_succ]
 go_wp2_with fail
 refine(C1.out _ hk).mono ?_;rintro e w2 ⟨rfl,b_⟩;have hk2:=HK.out _ _ hk b_;have hq2:=hq.below b_;have B2:=B1.trans (b_.mono B1.size);clear hk hq c1 b_ B1;have hk:=hk2;have hq:=hq2;clear hk2 hq2;have c2:=hq.c2
 go_wp2_with fail
 rw[rounds_succ]
 go_wp2_with fail
 refine(C2.out _ hk).mono ?_;rintro e w3 ⟨rfl,b_⟩;have hk3:=HK.out _ _ hk b_;have hq3:=hq.below b_;have B3:=B2.trans (b_.mono B2.size);clear hk hq c2 b_ B2;have hk:=hk3;have hq:=hq3;clear hk3 hq3;have c3:=hq.c3
 go_wp2_with fail
 rw[rounds_succ]
 go_wp2_with fail
 refine(C3.out _ hk).mono ?_;rintro e w4 ⟨rfl,b_⟩;have hk4:=HK.out _ _ hk b_;have hq4:=hq.below b_;have B4:=B3.trans (b_.mono B3.size);clear hk hq c3 b_ B3;have hk:=hk4;have hq:=hq4;clear hk4 hq4;have c4:=hq.c4
 go_wp2
 go_ret
 exact⟨rfl,B4⟩
theorem allP_4 (K:World->Prop)(HK:Hid (∀ W W',K W->Below W.heap.size W W'->K W'))(Q M S T U:Nat)(C0:Hid (∀ W,K W->Calls Tryz.prog 232 #[.pointer (some ⟨U,0,none⟩)] W fun e w'=>e=.returned (.bool true)/\Below W.heap.size W w'))(C1:Hid (∀ W,K W->Calls Tryz.prog 233 #[.pointer (some ⟨T,0,none⟩),.pointer (some ⟨U,0,none⟩)] W fun e w'=>e=.returned (.bool true)/\Below W.heap.size W w'))(C2:Hid (∀ W,K W->Calls Tryz.prog 234 #[.pointer (some ⟨S,0,none⟩),.pointer (some ⟨U,0,none⟩)] W fun e w'=>e=.returned (.bool true)/\Below W.heap.size W w'))(C3:Hid (∀ W,K W->Calls Tryz.prog 236 #[.pointer (some ⟨S,0,none⟩),.pointer (some ⟨U,0,none⟩)] W fun e w'=>e=.returned (.bool true)/\Below W.heap.size W w'))(C4:Hid (∀ W,K W->Calls Tryz.prog 238 #[.pointer (some ⟨S,0,none⟩),.pointer (some ⟨U,0,none⟩),.pointer (some ⟨M,0,none⟩)] W fun e w'=>e=.returned (.bool false)/\Below W.heap.size W w'))(w:World)(hk:K w)(hq:iL w Q M S T U):Calls Tryz.prog 231 #[.slice (some ⟨Q,0,none⟩) 5 5] w fun e w'=>e=.returned (.bool false)/\Below w.heap.size w w':=by
 have c0:=hq.c0
 go_enter Tryz.func231,Tryz.ntmps231
 go_wp2_with fail
 refine wp_loop_rounds 6 ?_;rw[rounds_succ]
 go_wp2_with fail
 refine(C0.out _ hk).mono ?_;rintro e w1 ⟨rfl,b_⟩;have hk1:=HK.out _ _ hk b_;have hq1:=hq.below b_;have B1:=b_;clear hk hq c0 b_;have hk:=hk1;have hq:=hq1;clear hk1 hq1;have c1:=hq.c1
 go_wp2_with fail
 rw[rounds_succ]
 go_wp2_with fail
 refine(C1.out _ hk).mono ?_;rintro e w2 ⟨rfl,b_⟩;have hk2:=HK.out _ _ hk b_;have hq2:=hq.below b_;have B2:=B1.trans (b_.mono B1.size);clear hk hq c1 b_ B1;have hk:=hk2;have hq:=hq2;clear hk2 hq2;have c2:=hq.c2
 go_wp2_with fail
 rw[rounds_succ]
 go_wp2_with fail
 refine(C2.out _ hk).mono ?_;rintro e w3 ⟨rfl,b_⟩;have hk3:=HK.out _ _ hk b_;have hq3:=hq.below b_;have B3:=B2.trans (b_.mono B2.size);clear hk hq c2 b_ B2;have hk:=hk3;have hq:=hq3;clear hk3 hq3;have c3:=hq.c3
 go_wp2_with fail
 rw[rounds_succ]
 go_wp2_with fail
 refine(C3.out _ hk).mono ?_;rintro e w4 ⟨rfl,b_⟩;have hk4:=HK.out _ _ hk b_;have hq4:=hq.below b_;have B4:=B3.trans (b_.mono B3.size);clear hk hq c3 b_ B3;have hk:=hk4;have hq:=hq4;clear hk4 hq4;have c4:=hq.c4
 go_wp2_with fail
 rw[rounds_succ]
 go_wp2_with fail
 refine(C4.out _ hk).mono ?_;rintro e w5 ⟨rfl,b_⟩;have hk5:=HK.out _ _ hk b_;have hq5:=hq.below b_;have B5:=B4.trans (b_.mono B4.size);clear hk hq c4 b_ B4;have hk:=hk5;have hq:=hq5;clear hk5 hq5
 go_wp2
 go_ret
 exact⟨rfl,B5⟩
theorem allP_5 (K:World->Prop)(HK:Hid (∀ W W',K W->Below W.heap.size W W'->K W'))(Q M S T U:Nat)(C0:Hid (∀ W,K W->Calls Tryz.prog 232 #[.pointer (some ⟨U,0,none⟩)] W fun e w'=>e=.returned (.bool true)/\Below W.heap.size W w'))(C1:Hid (∀ W,K W->Calls Tryz.prog 233 #[.pointer (some ⟨T,0,none⟩),.pointer (some ⟨U,0,none⟩)] W fun e w'=>e=.returned (.bool true)/\Below W.heap.size W w'))(C2:Hid (∀ W,K W->Calls Tryz.prog 234 #[.pointer (some ⟨S,0,none⟩),.pointer (some ⟨U,0,none⟩)] W fun e w'=>e=.returned (.bool true)/\Below W.heap.size W w'))(C3:Hid (∀ W,K W->Calls Tryz.prog 236 #[.pointer (some ⟨S,0,none⟩),.pointer (some ⟨U,0,none⟩)] W fun e w'=>e=.returned (.bool true)/\Below W.heap.size W w'))(C4:Hid (∀ W,K W->Calls Tryz.prog 238 #[.pointer (some ⟨S,0,none⟩),.pointer (some ⟨U,0,none⟩),.pointer (some ⟨M,0,none⟩)] W fun e w'=>e=.returned (.bool true)/\Below W.heap.size W w'))(w:World)(hk:K w)(hq:iL w Q M S T U):Calls Tryz.prog 231 #[.slice (some ⟨Q,0,none⟩) 5 5] w fun e w'=>e=.returned (.bool true)/\Below w.heap.size w w':=by
 have c0:=hq.c0
 go_enter Tryz.func231,Tryz.ntmps231
 go_wp2_with fail
 refine wp_loop_rounds 6 ?_;rw[rounds_succ]
 go_wp2_with fail
 refine(C0.out _ hk).mono ?_;rintro e w1 ⟨rfl,b_⟩;have hk1:=HK.out _ _ hk b_;have hq1:=hq.below b_;have B1:=b_;clear hk hq c0 b_;have hk:=hk1;have hq:=hq1;clear hk1 hq1;have c1:=hq.c1
 go_wp2_with fail
 rw[rounds_succ]
 go_wp2_with fail
 refine(C1.out _ hk).mono ?_;rintro e w2 ⟨rfl,b_⟩;have hk2:=HK.out _ _ hk b_;have hq2:=hq.below b_;have B2:=B1.trans (b_.mono B1.size);clear hk hq c1 b_ B1;have hk:=hk2;have hq:=hq2;clear hk2 hq2;have c2:=hq.c2
 go_wp2_with fail
 rw[rounds_succ]
 go_wp2_with fail
 refine(C2.out _ hk).mono ?_;rintro e w3 ⟨rfl,b_⟩;have hk3:=HK.out _ _ hk b_;have hq3:=hq.below b_;have B3:=B2.trans (b_.mono B2.size);clear hk hq c2 b_ B2;have hk:=hk3;have hq:=hq3;clear hk3 hq3;have c3:=hq.c3
 go_wp2_with fail
 rw[rounds_succ]
 go_wp2_with fail
 refine(C3.out _ hk).mono ?_;rintro e w4 ⟨rfl,b_⟩;have hk4:=HK.out _ _ hk b_;have hq4:=hq.below b_;have B4:=B3.trans (b_.mono B3.size);clear hk hq c3 b_ B3;have hk:=hk4;have hq:=hq4;clear hk4 hq4;have c4:=hq.c4
 go_wp2_with fail
 rw[rounds_succ]
 go_wp2_with fail
 refine(C4.out _ hk).mono ?_;rintro e w5 ⟨rfl,b_⟩;have hk5:=HK.out _ _ hk b_;have hq5:=hq.below b_;have B5:=B4.trans (b_.mono B4.size);clear hk hq c4 b_ B4;have hk:=hk5;have hq:=hq5;clear hk5 hq5
 go_wp2_with fail
 rw[rounds_succ]
 go_wp2
 go_ret
 exact⟨rfl,B5⟩
theorem allP_any (K:World->Prop)(HK:Hid (∀ W W',K W->Below W.heap.size W W'->K W'))(Q M S T U:Nat)(b0 b1 b2 b3 b4:Bool)(C0:Hid (∀ W,K W->Calls Tryz.prog 232 #[.pointer (some ⟨U,0,none⟩)] W fun e w'=>e=.returned (.bool b0)/\Below W.heap.size W w'))(C1:b0=true->Hid (∀ W,K W->Calls Tryz.prog 233 #[.pointer (some ⟨T,0,none⟩),.pointer (some ⟨U,0,none⟩)] W fun e w'=>e=.returned (.bool b1)/\Below W.heap.size W w'))(C2:b0=true->b1=true->Hid (∀ W,K W->Calls Tryz.prog 234 #[.pointer (some ⟨S,0,none⟩),.pointer (some ⟨U,0,none⟩)] W fun e w'=>e=.returned (.bool b2)/\Below W.heap.size W w'))(C3:b0=true->b1=true->b2=true->Hid (∀ W,K W->Calls Tryz.prog 236 #[.pointer (some ⟨S,0,none⟩),.pointer (some ⟨U,0,none⟩)] W fun e w'=>e=.returned (.bool b3)/\Below W.heap.size W w'))(C4:b0=true->b1=true->b2=true->b3=true->Hid (∀ W,K W->Calls Tryz.prog 238 #[.pointer (some ⟨S,0,none⟩),.pointer (some ⟨U,0,none⟩),.pointer (some ⟨M,0,none⟩)] W fun e w'=>e=.returned (.bool b4)/\Below W.heap.size W w'))(w:World)(hk:K w)(hq:iL w Q M S T U):Calls Tryz.prog 231 #[.slice (some ⟨Q,0,none⟩) 5 5] w fun e w'=>e=.returned (.bool (b0&&(b1&&(b2&&(b3&&b4)))))/\Below w.heap.size w w':=by
 cases b0
 · exact allP_0 K HK Q M S T U C0 w hk hq
 cases b1
 · exact allP_1 K HK Q M S T U C0 (C1 rfl) w hk hq
 cases b2
 · exact allP_2 K HK Q M S T U C0 (C1 rfl) (C2 rfl rfl) w hk hq
 cases b3
 · exact allP_3 K HK Q M S T U C0 (C1 rfl) (C2 rfl rfl) (C3 rfl rfl rfl) w hk hq
 cases b4
 · exact allP_4 K HK Q M S T U C0 (C1 rfl) (C2 rfl rfl) (C3 rfl rfl rfl) (C4 rfl rfl rfl rfl) w hk hq
 · exact allP_5 K HK Q M S T U C0 (C1 rfl) (C2 rfl rfl) (C3 rfl rfl rfl) (C4 rfl rfl rfl rfl) w hk hq
def iM (W:World)(Q:Nat)(U V:Nat):Prop:=W.heap[Q]? = some (.cells #[.func (.func 241) #[] #[.pointer (some ⟨V,0,none⟩)],.func (.func 242) #[] #[.pointer (some ⟨V,0,none⟩),.pointer (some ⟨U,0,none⟩)],.func (.func 243) #[] #[.pointer (some ⟨V,0,none⟩),.pointer (some ⟨U,0,none⟩)],.func (.func 244) #[] #[.pointer (some ⟨V,0,none⟩),.pointer (some ⟨U,0,none⟩)],.func (.func 245) #[] #[.pointer (some ⟨V,0,none⟩),.pointer (some ⟨U,0,none⟩)]] 32 (0,0))
theorem iM.below {W W':World}{Q U V:Nat}(h:iM W Q U V)(hb:Below W.heap.size W W'):iM W' Q U V:=by
 unfold iM at *;rw[hb.block Q (aD h)];exact h
theorem iM.c0 {W:World}{Q U V:Nat}(h:iM W Q U V):W.cell? ⟨Q,0,none⟩=some (.func (.func 241) #[] #[.pointer (some ⟨V,0,none⟩)]):=by rw[aG h];rfl
theorem iM.c1 {W:World}{Q U V:Nat}(h:iM W Q U V):W.cell? ⟨Q,1,none⟩=some (.func (.func 242) #[] #[.pointer (some ⟨V,0,none⟩),.pointer (some ⟨U,0,none⟩)]):=by rw[aG h];rfl
theorem iM.c2 {W:World}{Q U V:Nat}(h:iM W Q U V):W.cell? ⟨Q,2,none⟩=some (.func (.func 243) #[] #[.pointer (some ⟨V,0,none⟩),.pointer (some ⟨U,0,none⟩)]):=by rw[aG h];rfl
theorem iM.c3 {W:World}{Q U V:Nat}(h:iM W Q U V):W.cell? ⟨Q,3,none⟩=some (.func (.func 244) #[] #[.pointer (some ⟨V,0,none⟩),.pointer (some ⟨U,0,none⟩)]):=by rw[aG h];rfl
theorem iM.c4 {W:World}{Q U V:Nat}(h:iM W Q U V):W.cell? ⟨Q,4,none⟩=some (.func (.func 245) #[] #[.pointer (some ⟨V,0,none⟩),.pointer (some ⟨U,0,none⟩)]):=by rw[aG h];rfl
theorem allN_0 (K:World->Prop)(HK:Hid (∀ W W',K W->Below W.heap.size W W'->K W'))(Q U V:Nat)(C0:Hid (∀ W,K W->Calls Tryz.prog 241 #[.pointer (some ⟨V,0,none⟩)] W fun e w'=>e=.returned (.bool false)/\Below W.heap.size W w'))(w:World)(hk:K w)(hq:iM w Q U V):Calls Tryz.prog 231 #[.slice (some ⟨Q,0,none⟩) 5 5] w fun e w'=>e=.returned (.bool false)/\Below w.heap.size w w':=by
 have c0:=hq.c0
 go_enter Tryz.func231,Tryz.ntmps231
 go_wp2_with fail
 refine wp_loop_rounds 6 ?_;rw[rounds_succ]
 go_wp2_with fail
 refine(C0.out _ hk).mono ?_;rintro e w1 ⟨rfl,b_⟩;have hk1:=HK.out _ _ hk b_;have hq1:=hq.below b_;have B1:=b_;clear hk hq c0 b_;have hk:=hk1;have hq:=hq1;clear hk1 hq1;have c1:=hq.c1
 go_wp2
 go_ret
 exact⟨rfl,B1⟩
theorem allN_1 (K:World->Prop)(HK:Hid (∀ W W',K W->Below W.heap.size W W'->K W'))(Q U V:Nat)(C0:Hid (∀ W,K W->Calls Tryz.prog 241 #[.pointer (some ⟨V,0,none⟩)] W fun e w'=>e=.returned (.bool true)/\Below W.heap.size W w'))(C1:Hid (∀ W,K W->Calls Tryz.prog 242 #[.pointer (some ⟨V,0,none⟩),.pointer (some ⟨U,0,none⟩)] W fun e w'=>e=.returned (.bool false)/\Below W.heap.size W w'))(w:World)(hk:K w)(hq:iM w Q U V):Calls Tryz.prog 231 #[.slice (some ⟨Q,0,none⟩) 5 5] w fun e w'=>e=.returned (.bool false)/\Below w.heap.size w w':=by
 have c0:=hq.c0
 go_enter Tryz.func231,Tryz.ntmps231
 go_wp2_with fail
 refine wp_loop_rounds 6 ?_;rw[rounds_succ]
 go_wp2_with fail
 refine(C0.out _ hk).mono ?_;rintro e w1 ⟨rfl,b_⟩;have hk1:=HK.out _ _ hk b_;have hq1:=hq.below b_;have B1:=b_;clear hk hq c0 b_;have hk:=hk1;have hq:=hq1;clear hk1 hq1;have c1:=hq.c1
 go_wp2_with fail
 rw[rounds_succ]
 go_wp2_with fail
 refine(C1.out _ hk).mono ?_;rintro e w2 ⟨rfl,b_⟩;have hk2:=HK.out _ _ hk b_;have hq2:=hq.below b_;have B2:=B1.trans (b_.mono B1.size);clear hk hq c1 b_ B1;have hk:=hk2;have hq:=hq2;clear hk2 hq2;have c2:=hq.c2
 go_wp2
 go_ret
 exact⟨rfl,B2⟩
theorem allN_2 (K:World->Prop)(HK:Hid (∀ W W',K W->Below W.heap.size W W'->K W'))(Q U V:Nat)(C0:Hid (∀ W,K W->Calls Tryz.prog 241 #[.pointer (some ⟨V,0,none⟩)] W fun e w'=>e=.returned (.bool true)/\Below W.heap.size W w'))(C1:Hid (∀ W,K W->Calls Tryz.prog 242 #[.pointer (some ⟨V,0,none⟩),.pointer (some ⟨U,0,none⟩)] W fun e w'=>e=.returned (.bool true)/\Below W.heap.size W w'))(C2:Hid (∀ W,K W->Calls Tryz.prog 243 #[.pointer (some ⟨V,0,none⟩),.pointer (some ⟨U,0,none⟩)] W fun e w'=>e=.returned (.bool false)/\Below W.heap.size W w'))(w:World)(hk:K w)(hq:iM w Q U V):Calls Tryz.prog 231 #[.slice (some ⟨Q,0,none⟩) 5 5] w fun e w'=>e=.returned (.bool false)/\Below w.heap.size w w':=by
 have c0:=hq.c0
 go_enter Tryz.func231,Tryz.ntmps231
 go_wp2_with fail
 refine wp_loop_rounds 6 ?_;rw[rounds_succ]
 go_wp2_with fail
 refine(C0.out _ hk).mono ?_;rintro e w1 ⟨rfl,b_⟩;have hk1:=HK.out _ _ hk b_;have hq1:=hq.below b_;have B1:=b_;clear hk hq c0 b_;have hk:=hk1;have hq:=hq1;clear hk1 hq1;have c1:=hq.c1
 go_wp2_with fail
 rw[rounds_succ]
 go_wp2_with fail
 refine(C1.out _ hk).mono ?_;rintro e w2 ⟨rfl,b_⟩;have hk2:=HK.out _ _ hk b_;have hq2:=hq.below b_;have B2:=B1.trans (b_.mono B1.size);clear hk hq c1 b_ B1;have hk:=hk2;have hq:=hq2;clear hk2 hq2;have c2:=hq.c2
 go_wp2_with fail
 rw[rounds_succ]
 go_wp2_with fail
 refine(C2.out _ hk).mono ?_;rintro e w3 ⟨rfl,b_⟩;have hk3:=HK.out _ _ hk b_;have hq3:=hq.below b_;have B3:=B2.trans (b_.mono B2.size);clear hk hq c2 b_ B2;have hk:=hk3;have hq:=hq3;clear hk3 hq3;have c3:=hq.c3
 go_wp2
 go_ret
 exact⟨rfl,B3⟩
theorem allN_3 (K:World->Prop)(HK:Hid (∀ W W',K W->Below W.heap.size W W'->K W'))(Q U V:Nat)(C0:Hid (∀ W,K W->Calls Tryz.prog 241 #[.pointer (some ⟨V,0,none⟩)] W fun e w'=>e=.returned (.bool true)/\Below W.heap.size W w'))(C1:Hid (∀ W,K W->Calls Tryz.prog 242 #[.pointer (some ⟨V,0,none⟩),.pointer (some ⟨U,0,none⟩)] W fun e w'=>e=.returned (.bool true)/\Below W.heap.size W w'))(C2:Hid (∀ W,K W->Calls Tryz.prog 243 #[.pointer (some ⟨V,0,none⟩),.pointer (some ⟨U,0,none⟩)] W fun e w'=>e=.returned (.bool true)/\Below W.heap.size W w'))(C3:Hid (∀ W,K W->Calls Tryz.prog 244 #[.pointer (some ⟨V,0,none⟩),.pointer (some ⟨U,0,none⟩)] W fun e w'=>e=.returned (.bool false)/\Below W.heap.size W w'))(w:World)(hk:K w)(hq:iM w Q U V):Calls Tryz.prog 231 #[.slice (some ⟨Q,0,none⟩) 5 5] w fun e w'=>e=.returned (.bool false)/\Below w.heap.size w w':=by
 have c0:=hq.c0
 go_enter Tryz.func231,Tryz.ntmps231
 go_wp2_with fail
 refine wp_loop_rounds 6 ?_;rw[rounds_succ]
 go_wp2_with fail
 refine(C0.out _ hk).mono ?_;rintro e w1 ⟨rfl,b_⟩;have hk1:=HK.out _ _ hk b_;have hq1:=hq.below b_;have B1:=b_;clear hk hq c0 b_;have hk:=hk1;have hq:=hq1;clear hk1 hq1;have c1:=hq.c1
 go_wp2_with fail
 rw[rounds_succ]
 go_wp2_with fail
 refine(C1.out _ hk).mono ?_;rintro e w2 ⟨rfl,b_⟩;have hk2:=HK.out _ _ hk b_;have hq2:=hq.below b_;have B2:=B1.trans (b_.mono B1.size);clear hk hq c1 b_ B1;have hk:=hk2;have hq:=hq2;clear hk2 hq2;have c2:=hq.c2
 go_wp2_with fail
 rw[rounds_succ]
 go_wp2_with fail
 refine(C2.out _ hk).mono ?_;rintro e w3 ⟨rfl,b_⟩;have hk3:=HK.out _ _ hk b_;have hq3:=hq.below b_;have B3:=B2.trans (b_.mono B2.size);clear hk hq c2 b_ B2;have hk:=hk3;have hq:=hq3;clear hk3 hq3;have c3:=hq.c3
 go_wp2_with fail
 rw[rounds_succ]
 go_wp2_with fail
 refine(C3.out _ hk).mono ?_;rintro e w4 ⟨rfl,b_⟩;have hk4:=HK.out _ _ hk b_;have hq4:=hq.below b_;have B4:=B3.trans (b_.mono B3.size);clear hk hq c3 b_ B3;have hk:=hk4;have hq:=hq4;clear hk4 hq4;have c4:=hq.c4
 go_wp2
 go_ret
 exact⟨rfl,B4⟩
theorem allN_4 (K:World->Prop)(HK:Hid (∀ W W',K W->Below W.heap.size W W'->K W'))(Q U V:Nat)(C0:Hid (∀ W,K W->Calls Tryz.prog 241 #[.pointer (some ⟨V,0,none⟩)] W fun e w'=>e=.returned (.bool true)/\Below W.heap.size W w'))(C1:Hid (∀ W,K W->Calls Tryz.prog 242 #[.pointer (some ⟨V,0,none⟩),.pointer (some ⟨U,0,none⟩)] W fun e w'=>e=.returned (.bool true)/\Below W.heap.size W w'))(C2:Hid (∀ W,K W->Calls Tryz.prog 243 #[.pointer (some ⟨V,0,none⟩),.pointer (some ⟨U,0,none⟩)] W fun e w'=>e=.returned (.bool true)/\Below W.heap.size W w'))(C3:Hid (∀ W,K W->Calls Tryz.prog 244 #[.pointer (some ⟨V,0,none⟩),.pointer (some ⟨U,0,none⟩)] W fun e w'=>e=.returned (.bool true)/\Below W.heap.size W w'))(C4:Hid (∀ W,K W->Calls Tryz.prog 245 #[.pointer (some ⟨V,0,none⟩),.pointer (some ⟨U,0,none⟩)] W fun e w'=>e=.returned (.bool false)/\Below W.heap.size W w'))(w:World)(hk:K w)(hq:iM w Q U V):Calls Tryz.prog 231 #[.slice (some ⟨Q,0,none⟩) 5 5] w fun e w'=>e=.returned (.bool false)/\Below w.heap.size w w':=by
 have c0:=hq.c0
 go_enter Tryz.func231,Tryz.ntmps231
 go_wp2_with fail
 refine wp_loop_rounds 6 ?_;rw[rounds_succ]
 go_wp2_with fail
 refine(C0.out _ hk).mono ?_;rintro e w1 ⟨rfl,b_⟩;have hk1:=HK.out _ _ hk b_;have hq1:=hq.below b_;have B1:=b_;clear hk hq c0 b_;have hk:=hk1;have hq:=hq1;clear hk1 hq1;have c1:=hq.c1
 go_wp2_with fail
 rw[rounds_succ]
 go_wp2_with fail
 refine(C1.out _ hk).mono ?_;rintro e w2 ⟨rfl,b_⟩;have hk2:=HK.out _ _ hk b_;have hq2:=hq.below b_;have B2:=B1.trans (b_.mono B1.size);clear hk hq c1 b_ B1;have hk:=hk2;have hq:=hq2;clear hk2 hq2;have c2:=hq.c2
 go_wp2_with fail
 rw[rounds_succ]
 go_wp2_with fail
 refine(C2.out _ hk).mono ?_;rintro e w3 ⟨rfl,b_⟩;have hk3:=HK.out _ _ hk b_;have hq3:=hq.below b_;have B3:=B2.trans (b_.mono B2.size);clear hk hq c2 b_ B2;have hk:=hk3;have hq:=hq3;clear hk3 hq3;have c3:=hq.c3
 go_wp2_with fail
 rw[rounds_succ]
 go_wp2_with fail
 refine(C3.out _ hk).mono ?_;rintro e w4 ⟨rfl,b_⟩;have hk4:=HK.out _ _ hk b_;have hq4:=hq.below b_;have B4:=B3.trans (b_.mono B3.size);clear hk hq c3 b_ B3;have hk:=hk4;have hq:=hq4;clear hk4 hq4;have c4:=hq.c4
 go_wp2_with fail
 rw[rounds_succ]
 go_wp2_with fail
 refine(C4.out _ hk).mono ?_;rintro e w5 ⟨rfl,b_⟩;have hk5:=HK.out _ _ hk b_;have hq5:=hq.below b_;have B5:=B4.trans (b_.mono B4.size);clear hk hq c4 b_ B4;have hk:=hk5;have hq:=hq5;clear hk5 hq5
 go_wp2
 go_ret
 exact⟨rfl,B5⟩
theorem allN_5 (K:World->Prop)(HK:Hid (∀ W W',K W->Below W.heap.size W W'->K W'))(Q U V:Nat)(C0:Hid (∀ W,K W->Calls Tryz.prog 241 #[.pointer (some ⟨V,0,none⟩)] W fun e w'=>e=.returned (.bool true)/\Below W.heap.size W w'))(C1:Hid (∀ W,K W->Calls Tryz.prog 242 #[.pointer (some ⟨V,0,none⟩),.pointer (some ⟨U,0,none⟩)] W fun e w'=>e=.returned (.bool true)/\Below W.heap.size W w'))(C2:Hid (∀ W,K W->Calls Tryz.prog 243 #[.pointer (some ⟨V,0,none⟩),.pointer (some ⟨U,0,none⟩)] W fun e w'=>e=.returned (.bool true)/\Below W.heap.size W w'))(C3:Hid (∀ W,K W->Calls Tryz.prog 244 #[.pointer (some ⟨V,0,none⟩),.pointer (some ⟨U,0,none⟩)] W fun e w'=>e=.returned (.bool true)/\Below W.heap.size W w'))(C4:Hid (∀ W,K W->Calls Tryz.prog 245 #[.pointer (some ⟨V,0,none⟩),.pointer (some ⟨U,0,none⟩)] W fun e w'=>e=.returned (.bool true)/\Below W.heap.size W w'))(w:World)(hk:K w)(hq:iM w Q U V):Calls Tryz.prog 231 #[.slice (some ⟨Q,0,none⟩) 5 5] w fun e w'=>e=.returned (.bool true)/\Below w.heap.size w w':=by
 have c0:=hq.c0
 go_enter Tryz.func231,Tryz.ntmps231
 go_wp2_with fail
 refine wp_loop_rounds 6 ?_;rw[rounds_succ]
 go_wp2_with fail
 refine(C0.out _ hk).mono ?_;rintro e w1 ⟨rfl,b_⟩;have hk1:=HK.out _ _ hk b_;have hq1:=hq.below b_;have B1:=b_;clear hk hq c0 b_;have hk:=hk1;have hq:=hq1;clear hk1 hq1;have c1:=hq.c1
 go_wp2_with fail
 rw[rounds_succ]
 go_wp2_with fail
 refine(C1.out _ hk).mono ?_;rintro e w2 ⟨rfl,b_⟩;have hk2:=HK.out _ _ hk b_;have hq2:=hq.below b_;have B2:=B1.trans (b_.mono B1.size);clear hk hq c1 b_ B1;have hk:=hk2;have hq:=hq2;clear hk2 hq2;have c2:=hq.c2
 go_wp2_with fail
 rw[rounds_succ]
 go_wp2_with fail
 refine(C2.out _ hk).mono ?_;rintro e w3 ⟨rfl,b_⟩;have hk3:=HK.out _ _ hk b_;have hq3:=hq.below b_;have B3:=B2.trans (b_.mono B2.size);clear hk hq c2 b_ B2;have hk:=hk3;have hq:=hq3;clear hk3 hq3;have c3:=hq.c3
 go_wp2_with fail
 rw[rounds_succ]
 go_wp2_with fail
 refine(C3.out _ hk).mono ?_;rintro e w4 ⟨rfl,b_⟩;have hk4:=HK.out _ _ hk b_;have hq4:=hq.below b_;have B4:=B3.trans (b_.mono B3.size);clear hk hq c3 b_ B3;have hk:=hk4;have hq:=hq4;clear hk4 hq4;have c4:=hq.c4
 go_wp2_with fail
 rw[rounds_succ]
 go_wp2_with fail
 refine(C4.out _ hk).mono ?_;rintro e w5 ⟨rfl,b_⟩;have hk5:=HK.out _ _ hk b_;have hq5:=hq.below b_;have B5:=B4.trans (b_.mono B4.size);clear hk hq c4 b_ B4;have hk:=hk5;have hq:=hq5;clear hk5 hq5
 go_wp2_with fail
 rw[rounds_succ]
 go_wp2
 go_ret
 exact⟨rfl,B5⟩
theorem allN_any (K:World->Prop)(HK:Hid (∀ W W',K W->Below W.heap.size W W'->K W'))(Q U V:Nat)(b0 b1 b2 b3 b4:Bool)(C0:Hid (∀ W,K W->Calls Tryz.prog 241 #[.pointer (some ⟨V,0,none⟩)] W fun e w'=>e=.returned (.bool b0)/\Below W.heap.size W w'))(C1:b0=true->Hid (∀ W,K W->Calls Tryz.prog 242 #[.pointer (some ⟨V,0,none⟩),.pointer (some ⟨U,0,none⟩)] W fun e w'=>e=.returned (.bool b1)/\Below W.heap.size W w'))(C2:b0=true->b1=true->Hid (∀ W,K W->Calls Tryz.prog 243 #[.pointer (some ⟨V,0,none⟩),.pointer (some ⟨U,0,none⟩)] W fun e w'=>e=.returned (.bool b2)/\Below W.heap.size W w'))(C3:b0=true->b1=true->b2=true->Hid (∀ W,K W->Calls Tryz.prog 244 #[.pointer (some ⟨V,0,none⟩),.pointer (some ⟨U,0,none⟩)] W fun e w'=>e=.returned (.bool b3)/\Below W.heap.size W w'))(C4:b0=true->b1=true->b2=true->b3=true->Hid (∀ W,K W->Calls Tryz.prog 245 #[.pointer (some ⟨V,0,none⟩),.pointer (some ⟨U,0,none⟩)] W fun e w'=>e=.returned (.bool b4)/\Below W.heap.size W w'))(w:World)(hk:K w)(hq:iM w Q U V):Calls Tryz.prog 231 #[.slice (some ⟨Q,0,none⟩) 5 5] w fun e w'=>e=.returned (.bool (b0&&(b1&&(b2&&(b3&&b4)))))/\Below w.heap.size w w':=by
 cases b0
 · exact allN_0 K HK Q U V C0 w hk hq
 cases b1
 · exact allN_1 K HK Q U V C0 (C1 rfl) w hk hq
 cases b2
 · exact allN_2 K HK Q U V C0 (C1 rfl) (C2 rfl rfl) w hk hq
 cases b3
 · exact allN_3 K HK Q U V C0 (C1 rfl) (C2 rfl rfl) (C3 rfl rfl rfl) w hk hq
 cases b4
 · exact allN_4 K HK Q U V C0 (C1 rfl) (C2 rfl rfl) (C3 rfl rfl rfl) (C4 rfl rfl rfl rfl) w hk hq
 · exact allN_5 K HK Q U V C0 (C1 rfl) (C2 rfl rfl) (C3 rfl rfl rfl) (C4 rfl rfl rfl rfl) w hk hq
end Go.Proofs.YthnogdodlhkldaaGreatDoor
