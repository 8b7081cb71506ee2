/- An address' text; Check and Print: the program's. What is parsed: the program's Parse. What is parsed, branch by branch: the program's Parse. What Parse answers: the program's, for every text; the document's rows. -/
import Derived.Test.YthnogdodlhkldaaGreatDoorWalkG
import Derived.ScopeJumps
import Derived.Laws.ResultCell
set_option maxRecDepth 100000
set_option maxHeartbeats 2000000
namespace Go.Proofs.YthnogdodlhkldaaGreatDoor
open Go.RowKit
def aS (w:World):Prop:=Lib.TabIs Tryz.prog w "internal/strconv.uint64pow10" .u64 Lib.pow10Tab
theorem aS.below {w w':World}(h:aS w)(hb:Below w.heap.size w w'):aS w':=Lib.tabBelow_of_tabIs h w' hb
theorem aS.made {w:World}(h:aS w)(x:Obj):aS (w.alloc x):=h.below ((zB _ _).alloc (zL _) _)
theorem lX (u:Nat):(Lib.decDigits u).length<=u+1:=by
 induction u using Nat.strongRecOn with
 | _ u ih =>
   rw[Lib.decDigits];split
   · simp
   · have:=ih (u / 10) (by omega)
     rw[List.length_append,List.length_singleton];omega
theorem itoa_hid (p:Int)(h0:0<=p)(h1:p<=65535)(T:ByteArray)(hT:T.data.toList=Lib.decDigits p.toNat):Hid (∀ W,aS W->Calls Tryz.prog 91 #[.int .i64 p] W fun e w'=>e=.returned (.string T)/\Below W.heap.size W w'):=zH fun W ht=>by
 have h:=Tryz.strconv_Itoa p (by omega) (by omega) W ht;have e:Lib.itoa p=T.data.toList:=by unfold Lib.itoa;rw[if_neg (by omega),hT]
 rw[e]at h;refine h.mono fun e w' ⟨h1,k,os,h2⟩=>⟨?_,?_⟩
 · rw[h1]
 · rw[h2];exact Lib.below_grow _ _ (zL _) _ _
theorem text_any (o:Bool)(s h:ByteArray)(p:Int)(pa q:ByteArray)(hs:s.size<=100000)(hh:h.size<=100000)(hpa:pa.size<=100000)(hq:q.size<=100000)(hp:o=false->0<=p/\p<=65535)(T:ByteArray)(hT:T.data.toList=kH (uM o s h p pa q))(w:World)(ht:aS w):Calls Tryz.prog 59 #[uV o s h p pa q] w fun e w'=>e=.returned (.string T)/\Below w.heap.size w w':=by
 unfold uV
 cases o
 case true =>
  have hM:T.data.toList=s.data.toList++58 :: pa.data.toList:=hT;obtain⟨A1,hA1⟩:=aO (s.data.toList++[58]);have z1:A1.size=s.size+1:=by rw[<- aE,hA1,List.length_append,aE];rfl
  have a1:=dG s ⟨#[58]⟩ A1 hA1 (by show s.size+1<=_;omega);have a2:=dG A1 pa T (by rw[hM,hA1];simp) (by omega);clear hM hT hA1 z1 hp
  go_enter Tryz.func59,Tryz.ntmps59
  go_wp2
  go_ret
  exact⟨rfl,(zB _ _).alloc (zL _) _⟩
 case false =>
  have hM:T.data.toList=s.data.toList++58 :: 47 :: 47 :: (h.data.toList++(iQ p++(pa.data.toList++q.data.toList))):=hT;obtain⟨p0,p1⟩:=hp rfl;obtain⟨PT,hPT⟩:=aO (iQ p);obtain⟨A1,hA1⟩:=aO (s.data.toList++[58,47,47]);have z1:A1.size=s.size+3:=by rw[<- aE,hA1,List.length_append,aE];rfl
  obtain⟨A2,hA2⟩:=aO (A1.data.toList++h.data.toList);have z2:A2.size=A1.size+h.size:=by rw[<- aE,hA2,List.length_append,aE,aE]
  obtain⟨A3,hA3⟩:=aO (A2.data.toList++PT.data.toList);have z3:A3.size=A2.size+PT.size:=by rw[<- aE,hA3,List.length_append,aE,aE]
  obtain⟨A4,hA4⟩:=aO (A3.data.toList++pa.data.toList);have z4:A4.size=A3.size+pa.size:=by rw[<- aE,hA4,List.length_append,aE,aE]
  have zp:PT.size<=100000:=by
   rw[<- aE,hPT];unfold iQ;split
   · exact Nat.zero_le _
   · have:=lX p.toNat
     rw[List.length_cons];omega
  have a1:=dG s ⟨#[58,47,47]⟩ A1 hA1 (by show s.size+3<=_;omega);have a2:=dG A1 h A2 hA2 (by omega);have a3:=dG A2 PT A3 hA3 (by omega);have a4:=dG A3 pa A4 hA4 (by omega);have a5:=dG A4 q T (by rw[hM,hA4,hA3,hA2,hA1,hPT];simp) (by omega);clear hM hT hA1 hA2 hA3 hA4 z1 z2 z3 z4 zp hp
  by_cases h0:p=0
  · have g:(p != 0)=false:=by rw[bne_eq_false_iff_eq];exact h0
    obtain rfl:PT=⟨#[]⟩:=by apply aM;rw[hPT,h0];rfl
    clear hPT h0
    go_enter Tryz.func59,Tryz.ntmps59
    go_wp2
    go_ret
    exact⟨rfl,(zB _ _).alloc (zL _) _⟩
  · have g:(p != 0)=true:=by rw[bne_iff_ne];exact h0
    obtain⟨IT,hIT⟩:=aO (Lib.decDigits p.toNat)
    have a0:=dG ⟨#[58]⟩ IT PT (by rw[hPT,hIT];unfold iQ;rw[if_neg h0];rfl) (by
     have:=lX p.toNat;rw[<- hIT,aE]at this
     show 1+IT.size<=_;omega)
    have CI:=itoa_hid p p0 p1 IT hIT;clear hPT h0 hIT
    go_enter Tryz.func59,Tryz.ntmps59
    go_wp2_with fail
    have x1:=BX.made w false s h p pa q;have t1:=ht.made (.cells #[.bool false,.string s,.string h,.int .i64 p,.string pa,.string q] 40);have B1:Below w.heap.size w (w.alloc (.cells #[.bool false,.string s,.string h,.int .i64 p,.string pa,.string q] 40)):=(zB _ _).alloc (zL _) _;generalize hR:w.heap.size=R at x1 B1 ⊢;have HR:=zH hR;clear hR;generalize w.alloc (.cells #[.bool false,.string s,.string h,.int .i64 p,.string pa,.string q] 40)=w1 at x1 B1 t1 ⊢;refine(CI.out _ t1).mono ?_;rintro e w2 ⟨rfl,b2⟩;have x2:=x1.below b2;have B2:=B1.trans (b2.mono (zT x1.lt));have c1:=x2.c1;have c2:=x2.c2;have c4:=x2.c4;have c5:=x2.c5
    go_wp2
    go_ret
    exact⟨rfl,by rw[HR.out];exact B2⟩
theorem text_hid (o:Bool)(s h:ByteArray)(p:Int)(pa q:ByteArray)(hs:s.size<=100000)(hh:h.size<=100000)(hpa:pa.size<=100000)(hq:q.size<=100000)(hp:o=false->0<=p/\p<=65535)(T:ByteArray)(hT:T.data.toList=kH (uM o s h p pa q)):Hid (∀ W,aS W->Calls Tryz.prog 59 #[uV o s h p pa q] W fun e w'=>e=.returned (.string T)/\Below W.heap.size W w') :=
 zH fun W ht=>text_any o s h p pa q hs hh hpa hq hp T hT W ht
def aG6 (u:U):Int:=if aT u then 0 else 50
theorem bI1 (o:Bool)(s h:ByteArray)(p:Int)(pa q:ByteArray)(hs:s.size<=100000)(hh:h.size<=100000)(hpa:pa.size<=100000)(hq:q.size<=100000)(w:World)(hmx:aQ w)(ht:aS w):Calls Tryz.prog 34 #[uV o s h p pa q] w fun e w'=>e=.returned (.int .i64 (aG6 (uM o s h p pa q)))/\Below w.heap.size w w':=by
 obtain⟨T,hT⟩:=aO (kH (uM o s h p pa q))
 have hM:aT (uM o s h p pa q)=((if o then cY (uM o s h p pa q) else cW (uM o s h p pa q))&&decide (T.size<=500)):=by
  unfold aT;rw[<- hT,aE];rfl
 obtain⟨rb,hrb⟩:∃ b,cW (uM o s h p pa q)=b:=⟨_,rfl⟩;obtain⟨ob,hob⟩:∃ b,cY (uM o s h p pa q)=b:=⟨_,rfl⟩;have CR:=aM3 o s h p pa q rb hrb hs hh hpa hq;have CO:=aO1 o s h p pa q ob hob hs hpa
 have hrp:rb=true->0<=p/\p<=65535:=fun e=>by
  rw[e]at hrb;unfold cW at hrb;simp only[Bool.and_eq_true,decide_eq_true_eq]at hrb;exact⟨hrb.1.1.1.1.2,hrb.1.1.1.2⟩
 rw[hrb,hob]at hM;have HM:Hid (aG6 (uM o s h p pa q)=if ((if o then ob else rb)&&decide (T.size<=500)) then 0 else 50):=zH (by unfold aG6;rw[hM]);have HT:=zH (text_hid o s h p pa q hs hh hpa hq);have HTT:=zH hT;clear hM hrb hob hT;unfold uV at *
 cases o
 · cases rb
   · have HF:Hid (50=aG6 (uM false s h p pa q)):=zH (by rw[HM.out];rfl)
     clear HT
     go_enter Tryz.func34,Tryz.ntmps34
     go_wp2_with fail
     have x1:=BX.made w false s h p pa q;have m1:=hmx.made (.cells #[.bool false,.string s,.string h,.int .i64 p,.string pa,.string q] 40);have t1:=ht.made (.cells #[.bool false,.string s,.string h,.int .i64 p,.string pa,.string q] 40);have B1:Below w.heap.size w (w.alloc (.cells #[.bool false,.string s,.string h,.int .i64 p,.string pa,.string q] 40)):=(zB _ _).alloc (zL _) _;generalize hR:w.heap.size=R at x1 B1 ⊢;have HR:=zH hR;clear hR;generalize w.alloc (.cells #[.bool false,.string s,.string h,.int .i64 p,.string pa,.string q] 40)=w1 at x1 B1 m1 t1 ⊢;refine(CR.out _ m1).mono ?_;rintro e w2 ⟨rfl,b2⟩;have x2:=x1.below b2;have m2:=m1.below b2;have t2:=t1.below b2;have B2:=B1.trans (b2.mono (zT x1.lt));obtain⟨k20,k21,k22,k23,k24,k25⟩:=x2.cs;clear b2 x1 m1 t1 B1
     go_wp2
     go_ret
     exact⟨cV HF.out,by rw[HR.out];exact B2⟩
   · have CT:=HT.out (fun _=>hrp rfl) T HTT.out
     clear HT hrp
     by_cases hz:(500:Int)<(T.size:Int)
     · have HF:Hid (50=aG6 (uM false s h p pa q)):=zH (by rw[HM.out,decide_eq_false (by omega)];rfl)
       go_enter Tryz.func34,Tryz.ntmps34
       go_wp2_with fail
       have x1:=BX.made w false s h p pa q;have m1:=hmx.made (.cells #[.bool false,.string s,.string h,.int .i64 p,.string pa,.string q] 40);have t1:=ht.made (.cells #[.bool false,.string s,.string h,.int .i64 p,.string pa,.string q] 40);have B1:Below w.heap.size w (w.alloc (.cells #[.bool false,.string s,.string h,.int .i64 p,.string pa,.string q] 40)):=(zB _ _).alloc (zL _) _;generalize hR:w.heap.size=R at x1 B1 ⊢;have HR:=zH hR;clear hR;generalize w.alloc (.cells #[.bool false,.string s,.string h,.int .i64 p,.string pa,.string q] 40)=w1 at x1 B1 m1 t1 ⊢;refine(CR.out _ m1).mono ?_;rintro e w2 ⟨rfl,b2⟩;have x2:=x1.below b2;have m2:=m1.below b2;have t2:=t1.below b2;have B2:=B1.trans (b2.mono (zT x1.lt));obtain⟨k20,k21,k22,k23,k24,k25⟩:=x2.cs;clear b2 x1 m1 t1 B1
       go_wp2_with fail
       refine(CT.out _ t2).mono ?_;rintro e w9 ⟨rfl,b9⟩;have B9:=B2.trans (b9.mono (zT x2.lt));clear b9 x2 m2 t2 B2
       go_wp2
       go_ret
       exact⟨cV HF.out,by rw[HR.out];exact B9⟩
     · have HF:Hid (0=aG6 (uM false s h p pa q)):=zH (by rw[HM.out,decide_eq_true (by omega)];rfl)
       go_enter Tryz.func34,Tryz.ntmps34
       go_wp2_with fail
       have x1:=BX.made w false s h p pa q;have m1:=hmx.made (.cells #[.bool false,.string s,.string h,.int .i64 p,.string pa,.string q] 40);have t1:=ht.made (.cells #[.bool false,.string s,.string h,.int .i64 p,.string pa,.string q] 40);have B1:Below w.heap.size w (w.alloc (.cells #[.bool false,.string s,.string h,.int .i64 p,.string pa,.string q] 40)):=(zB _ _).alloc (zL _) _;generalize hR:w.heap.size=R at x1 B1 ⊢;have HR:=zH hR;clear hR;generalize w.alloc (.cells #[.bool false,.string s,.string h,.int .i64 p,.string pa,.string q] 40)=w1 at x1 B1 m1 t1 ⊢;refine(CR.out _ m1).mono ?_;rintro e w2 ⟨rfl,b2⟩;have x2:=x1.below b2;have m2:=m1.below b2;have t2:=t1.below b2;have B2:=B1.trans (b2.mono (zT x1.lt));obtain⟨k20,k21,k22,k23,k24,k25⟩:=x2.cs;clear b2 x1 m1 t1 B1
       go_wp2_with fail
       refine(CT.out _ t2).mono ?_;rintro e w9 ⟨rfl,b9⟩;have B9:=B2.trans (b9.mono (zT x2.lt));clear b9 x2 m2 t2 B2
       go_wp2
       go_ret
       exact⟨cV HF.out,by rw[HR.out];exact B9⟩
 · have CT:=HT.out (fun h=>by cases h) T HTT.out
   clear HT hrp
   cases ob
   · have HF:Hid (50=aG6 (uM true s h p pa q)):=zH (by rw[HM.out];rfl)
     go_enter Tryz.func34,Tryz.ntmps34
     go_wp2_with fail
     have x1:=BX.made w true s h p pa q;have m1:=hmx.made (.cells #[.bool true,.string s,.string h,.int .i64 p,.string pa,.string q] 40);have t1:=ht.made (.cells #[.bool true,.string s,.string h,.int .i64 p,.string pa,.string q] 40);have B1:Below w.heap.size w (w.alloc (.cells #[.bool true,.string s,.string h,.int .i64 p,.string pa,.string q] 40)):=(zB _ _).alloc (zL _) _;generalize hR:w.heap.size=R at x1 B1 ⊢;have HR:=zH hR;clear hR;generalize w.alloc (.cells #[.bool true,.string s,.string h,.int .i64 p,.string pa,.string q] 40)=w1 at x1 B1 m1 t1 ⊢;refine(CR.out _ m1).mono ?_;rintro e w2 ⟨rfl,b2⟩;have x2:=x1.below b2;have m2:=m1.below b2;have t2:=t1.below b2;have B2:=B1.trans (b2.mono (zT x1.lt));obtain⟨k20,k21,k22,k23,k24,k25⟩:=x2.cs;clear b2 x1 m1 t1 B1
     go_wp2_with fail
     refine(CO.out _ ).mono ?_;rintro e w3 ⟨rfl,b3⟩;have x3:=x2.below b3;have m3:=m2.below b3;have t3:=t2.below b3;have B3:=B2.trans (b3.mono (zT x2.lt));obtain⟨k30,k31,k32,k33,k34,k35⟩:=x3.cs;clear b3 x2 m2 t2 B2
     go_wp2
     go_ret
     exact⟨cV HF.out,by rw[HR.out];exact B3⟩
   · by_cases hz:(500:Int)<(T.size:Int)
     · have HF:Hid (50=aG6 (uM true s h p pa q)):=zH (by rw[HM.out,decide_eq_false (by omega)];rfl)
       go_enter Tryz.func34,Tryz.ntmps34
       go_wp2_with fail
       have x1:=BX.made w true s h p pa q;have m1:=hmx.made (.cells #[.bool true,.string s,.string h,.int .i64 p,.string pa,.string q] 40);have t1:=ht.made (.cells #[.bool true,.string s,.string h,.int .i64 p,.string pa,.string q] 40);have B1:Below w.heap.size w (w.alloc (.cells #[.bool true,.string s,.string h,.int .i64 p,.string pa,.string q] 40)):=(zB _ _).alloc (zL _) _;generalize hR:w.heap.size=R at x1 B1 ⊢;have HR:=zH hR;clear hR;generalize w.alloc (.cells #[.bool true,.string s,.string h,.int .i64 p,.string pa,.string q] 40)=w1 at x1 B1 m1 t1 ⊢;refine(CR.out _ m1).mono ?_;rintro e w2 ⟨rfl,b2⟩;have x2:=x1.below b2;have m2:=m1.below b2;have t2:=t1.below b2;have B2:=B1.trans (b2.mono (zT x1.lt));obtain⟨k20,k21,k22,k23,k24,k25⟩:=x2.cs;clear b2 x1 m1 t1 B1
       go_wp2_with fail
       refine(CO.out _ ).mono ?_;rintro e w3 ⟨rfl,b3⟩;have x3:=x2.below b3;have m3:=m2.below b3;have t3:=t2.below b3;have B3:=B2.trans (b3.mono (zT x2.lt));obtain⟨k30,k31,k32,k33,k34,k35⟩:=x3.cs;clear b3 x2 m2 t2 B2;clear k20 k21 k22 k23 k24 k25
       go_wp2_with fail
       refine(CT.out _ t3).mono ?_;rintro e w9 ⟨rfl,b9⟩;have B9:=B3.trans (b9.mono (zT x3.lt));clear b9 x3 m3 t3 B3
       go_wp2
       go_ret
       exact⟨cV HF.out,by rw[HR.out];exact B9⟩
     · have HF:Hid (0=aG6 (uM true s h p pa q)):=zH (by rw[HM.out,decide_eq_true (by omega)];rfl)
       go_enter Tryz.func34,Tryz.ntmps34
       go_wp2_with fail
       have x1:=BX.made w true s h p pa q;have m1:=hmx.made (.cells #[.bool true,.string s,.string h,.int .i64 p,.string pa,.string q] 40);have t1:=ht.made (.cells #[.bool true,.string s,.string h,.int .i64 p,.string pa,.string q] 40);have B1:Below w.heap.size w (w.alloc (.cells #[.bool true,.string s,.string h,.int .i64 p,.string pa,.string q] 40)):=(zB _ _).alloc (zL _) _;generalize hR:w.heap.size=R at x1 B1 ⊢;have HR:=zH hR;clear hR;generalize w.alloc (.cells #[.bool true,.string s,.string h,.int .i64 p,.string pa,.string q] 40)=w1 at x1 B1 m1 t1 ⊢;refine(CR.out _ m1).mono ?_;rintro e w2 ⟨rfl,b2⟩;have x2:=x1.below b2;have m2:=m1.below b2;have t2:=t1.below b2;have B2:=B1.trans (b2.mono (zT x1.lt));obtain⟨k20,k21,k22,k23,k24,k25⟩:=x2.cs;clear b2 x1 m1 t1 B1
       go_wp2_with fail
       refine(CO.out _ ).mono ?_;rintro e w3 ⟨rfl,b3⟩;have x3:=x2.below b3;have m3:=m2.below b3;have t3:=t2.below b3;have B3:=B2.trans (b3.mono (zT x2.lt));obtain⟨k30,k31,k32,k33,k34,k35⟩:=x3.cs;clear b3 x2 m2 t2 B2;clear k20 k21 k22 k23 k24 k25
       go_wp2_with fail
       refine(CT.out _ t3).mono ?_;rintro e w9 ⟨rfl,b9⟩;have B9:=B3.trans (b9.mono (zT x3.lt));clear b9 x3 m3 t3 B3
       go_wp2
       go_ret
       exact⟨cV HF.out,by rw[HR.out];exact B9⟩
theorem eV (o:Bool)(s h:ByteArray)(p:Int)(pa q:ByteArray)(n:Int)(hn:aG6 (uM o s h p pa q)=n)(hs:s.size<=100000)(hh:h.size<=100000)(hpa:pa.size<=100000)(hq:q.size<=100000):Hid (∀ W,aQ W->aS W->Calls Tryz.prog 34 #[uV o s h p pa q] W fun e w'=>e=.returned (.int .i64 n)/\Below W.heap.size W w') :=
 zH fun W hm ht=>by rw[<- hn];exact bI1 o s h p pa q hs hh hpa hq W hm ht
end Go.Proofs.YthnogdodlhkldaaGreatDoor
namespace Go.Proofs.YthnogdodlhkldaaGreatDoor
open Go.RowKit
end Go.Proofs.YthnogdodlhkldaaGreatDoor
namespace Go.Proofs.YthnogdodlhkldaaGreatDoor
open Go.RowKit
end Go.Proofs.YthnogdodlhkldaaGreatDoor
namespace Go.Proofs.YthnogdodlhkldaaGreatDoor
open Go.RowKit
theorem mA {u:U}(h:aT u=true):aG6 u=0:=by unfold aG6;rw[h];rfl
theorem lZ {u:U}(h:aT u=false):aG6 u=50:=by unfold aG6;rw[h];rfl
end Go.Proofs.YthnogdodlhkldaaGreatDoor
