/- Where an address comes from, its port, and two places held against each other: the document's. -/
import Derived.Test.YthnogdodlhkldaaGreatDoorOrgZ
import Derived.Test.YthnogdodlhkldaaGreatDoorRefD
set_option maxRecDepth 100000
set_option maxHeartbeats 4000000
namespace Go.Proofs.YthnogdodlhkldaaGreatDoor
open Go.RowKit
theorem zI (o:Bool)(s h:ByteArray)(p:Int)(o2:Bool)(s2 h2:ByteArray)(p2:Int)(b:Bool)(hb:iP (oM o s h p) (oM o2 s2 h2 p2)=b):Hid (∀ W,Calls Tryz.prog 199 #[oV o s h p,oV o2 s2 h2 p2] W fun e w'=>e=.returned (.bool b)/\Below W.heap.size W w') :=
 zH fun W=>by rw[<- hb];exact same_any o s h p o2 s2 h2 p2 W
theorem zZ (o:Bool)(s h:ByteArray)(p:Int)(pa q:ByteArray)(w:World):Calls Tryz.prog 210 #[uV o s h p pa q] w fun e w'=>e=.returned (.int .i64 (dV (uM o s h p pa q)))/\Below w.heap.size w w':=by
 obtain⟨d,hd⟩:∃ d,kM s.data.toList=d:=⟨_,rfl⟩;have CD:=iB s d hd;have HP:Hid (dV (uM o s h p pa q)=if p=0 then (d:Int) else p):=zH (by rw[<- hd];rfl);clear hd;unfold uV
 by_cases h0:p=0
 · subst h0
   have HF:Hid ((d:Int)=dV (uM o s h 0 pa q)):=zH (by rw[HP.out];rfl)
   go_enter Tryz.func210,Tryz.ntmps210
   go_wp2_with fail
   refine(CD.out _).mono ?_;rintro e w1 ⟨rfl,rfl⟩
   go_wp2
   go_ret
   exact⟨cV HF.out,(zB _ _).alloc (zL _) _⟩
 · have g:(p==0)=false:=by rw[beq_eq_false_iff_ne];exact h0
   have HF:Hid (p=dV (uM o s h p pa q)):=zH (by rw[HP.out,if_neg h0]);clear h0
   go_enter Tryz.func210,Tryz.ntmps210
   go_wp2
   go_ret
   exact⟨cV HF.out,(zB _ _).alloc (zL _) _⟩
theorem pU (o:Bool)(s h:ByteArray)(p:Int)(pa q:ByteArray)(P:Int)(hP:dV (uM o s h p pa q)=P):Hid (∀ W,Calls Tryz.prog 210 #[uV o s h p pa q] W fun e w'=>e=.returned (.int .i64 P)/\Below W.heap.size W w') :=
 zH fun W=>by rw[<- hP];exact zZ o s h p pa q W
theorem aA0 (s h:ByteArray)(p:Int)(pa q:ByteArray)(hs:s.size<=100000)(hh:h.size<=100000)(hpa:pa.size<=100000)(hq:q.size<=100000)(hr:aT (uM false s h p pa q)=false)(w:World)(hmx:aQ w)(ht:aS w):Calls Tryz.prog 208 #[uV false s h p pa q] w fun e w'=>e=.returned (oV true ⟨#[]⟩ ⟨#[]⟩ 0)/\Below w.heap.size w w':=by
 have CC:=cJ false s h p pa q false hr hs hh hpa hq;clear hr;unfold uV oV at *
 go_enter Tryz.func208,Tryz.ntmps208
 go_wp2_with fail
 have x1:=BX.made w false s h p pa q;have m1:=hmx.made (.cells #[.bool false,.string s,.string h,.int .i64 p,.string pa,.string q] 40);have t1:=ht.made (.cells #[.bool false,.string s,.string h,.int .i64 p,.string pa,.string q] 40);have B1:Below w.heap.size w (w.alloc (.cells #[.bool false,.string s,.string h,.int .i64 p,.string pa,.string q] 40)):=(zB _ _).alloc (zL _) _;have hsz:=bD w (.cells #[.bool false,.string s,.string h,.int .i64 p,.string pa,.string q] 40);generalize hR:w.heap.size=R at x1 B1 hsz ⊢;have HR:=zH hR;clear hR;generalize w.alloc (.cells #[.bool false,.string s,.string h,.int .i64 p,.string pa,.string q] 40)=w1 at x1 B1 m1 t1 hsz ⊢;have y2:=OX.made w1 false ⟨#[]⟩ ⟨#[]⟩ 0;have x2:=x1.below ((zB w1.heap.size w1).alloc (zL _) (.cells #[.bool false,.string ⟨#[]⟩,.string ⟨#[]⟩,.int .i64 0] 198));have m2:=m1.made (.cells #[.bool false,.string ⟨#[]⟩,.string ⟨#[]⟩,.int .i64 0] 198);have t2:=t1.made (.cells #[.bool false,.string ⟨#[]⟩,.string ⟨#[]⟩,.int .i64 0] 198);have B2:=B1.alloc (zT x1.lt) (.cells #[.bool false,.string ⟨#[]⟩,.string ⟨#[]⟩,.int .i64 0] 198);rw[hsz]at y2;generalize w1.alloc (.cells #[.bool false,.string ⟨#[]⟩,.string ⟨#[]⟩,.int .i64 0] 198)=w2 at x2 y2 B2 m2 t2 ⊢;clear x1 m1 t1 B1 hsz;refine(CC.out _).mono ?_;rintro e w3 ⟨rfl,b3⟩;have x3:=x2.below b3;have y3:=y2.below b3;have B3:=B2.trans (b3.mono (zT x2.lt));have r0:=y3.c0;have r1:=y3.c1;have r2:=y3.c2;have r3:=y3.c3;have f0:=aB y3 0;have f1:=aB y3 1;have f2:=aB y3 2;have f3:=aB y3 3;have xz:=y3.store true ⟨#[]⟩ ⟨#[]⟩ 0;have bz:=gY (R:=R+1) (Nat.le_succ R) B3 true ⟨#[]⟩ ⟨#[]⟩ 0;clear b3 m2 t2 B2 x2 y2
 go_wp2
 clear r0 r1 r2 r3 f0 f1 f2 f3;generalize(((w3.setCell ⟨R+1,0,none⟩ (.bool true)).setCell ⟨R+1,1,none⟩ (.string ⟨#[]⟩)).setCell ⟨R+1,2,none⟩ (.string ⟨#[]⟩)).setCell ⟨R+1,3,none⟩ (.int .i64 0)=wz at xz bz ⊢;have c0:=xz.c0;have c1:=xz.c1;have c2:=xz.c2;have c3:=xz.c3;exact bodyPost_ret (v := .agg #[.bool true,.string ⟨#[]⟩,.string ⟨#[]⟩,.int .i64 0]) (by simp[results,Tryz.results208,go_sem,c0,c1,c2,c3]) rfl ⟨rfl,by rw[HR.out];exact bz⟩
theorem aA1 (s h:ByteArray)(p:Int)(pa q:ByteArray)(hs:s.size<=100000)(hh:h.size<=100000)(hpa:pa.size<=100000)(hq:q.size<=100000)(hr:aT (uM false s h p pa q)=true)(P:Int)(hP:dV (uM false s h p pa q)=P)(w:World)(hmx:aQ w)(ht:aS w):Calls Tryz.prog 208 #[uV false s h p pa q] w fun e w'=>e=.returned (oV false s h P)/\Below w.heap.size w w':=by
 have CC:=cJ false s h p pa q true hr hs hh hpa hq;have CP:=pU false s h p pa q P hP;clear hr hP;unfold uV oV at *
 go_enter Tryz.func208,Tryz.ntmps208
 go_wp2_with fail
 have x1:=BX.made w false s h p pa q;have m1:=hmx.made (.cells #[.bool false,.string s,.string h,.int .i64 p,.string pa,.string q] 40);have t1:=ht.made (.cells #[.bool false,.string s,.string h,.int .i64 p,.string pa,.string q] 40);have B1:Below w.heap.size w (w.alloc (.cells #[.bool false,.string s,.string h,.int .i64 p,.string pa,.string q] 40)):=(zB _ _).alloc (zL _) _;have hsz:=bD w (.cells #[.bool false,.string s,.string h,.int .i64 p,.string pa,.string q] 40);generalize hR:w.heap.size=R at x1 B1 hsz ⊢;have HR:=zH hR;clear hR;generalize w.alloc (.cells #[.bool false,.string s,.string h,.int .i64 p,.string pa,.string q] 40)=w1 at x1 B1 m1 t1 hsz ⊢;have y2:=OX.made w1 false ⟨#[]⟩ ⟨#[]⟩ 0;have x2:=x1.below ((zB w1.heap.size w1).alloc (zL _) (.cells #[.bool false,.string ⟨#[]⟩,.string ⟨#[]⟩,.int .i64 0] 198));have m2:=m1.made (.cells #[.bool false,.string ⟨#[]⟩,.string ⟨#[]⟩,.int .i64 0] 198);have t2:=t1.made (.cells #[.bool false,.string ⟨#[]⟩,.string ⟨#[]⟩,.int .i64 0] 198);have B2:=B1.alloc (zT x1.lt) (.cells #[.bool false,.string ⟨#[]⟩,.string ⟨#[]⟩,.int .i64 0] 198);rw[hsz]at y2;generalize w1.alloc (.cells #[.bool false,.string ⟨#[]⟩,.string ⟨#[]⟩,.int .i64 0] 198)=w2 at x2 y2 B2 m2 t2 ⊢;clear x1 m1 t1 B1 hsz;refine(CC.out _).mono ?_;rintro e w3 ⟨rfl,b3⟩;have x3:=x2.below b3;have y3:=y2.below b3;have B3:=B2.trans (b3.mono (zT x2.lt));have m3:=m2.below b3;obtain⟨c0,c1,c2,c3,c4,c5⟩:=x3.cs;clear b3 m2 t2 B2 x2 y2
 go_wp2_with fail
 go_region_with (first
  | (go_at_call 210
     (with_reducible refine(CP.out _).mono ?_)
     rintro e w4 ⟨rfl,b4⟩;have x4:=BX.below (w:=w3.drew) x3 b4;have y4:=OX.below (w:=w3.drew) y3 b4;have B4:=B3.drew.trans (b4.mono (zT x3.lt));have d1:=x4.c1;have d2:=x4.c2;have r0:=y4.c0;have r1:=y4.c1;have r2:=y4.c2;have r3:=y4.c3;have f0:=aB y4 0;have f1:=aB y4 1;have f2:=aB y4 2;have f3:=aB y4 3
     clear b4))
 all_goals
  have xz:=y4.store false s h P;have bz:=gY (R:=R+1) (Nat.le_succ R) B4 false s h P;clear r0 r1 r2 r3 f0 f1 f2 f3 c0 c1 c2 c3 c4 c5 x4 y4 B4 d1 d2
  go_wp2
  generalize(((w4.setCell ⟨R+1,0,none⟩ (.bool false)).setCell ⟨R+1,1,none⟩ (.string s)).setCell ⟨R+1,2,none⟩ (.string h)).setCell ⟨R+1,3,none⟩ (.int .i64 P)=wz at xz bz ⊢;have c0:=xz.c0;have c1:=xz.c1;have c2:=xz.c2;have c3:=xz.c3;exact bodyPost_ret (v := .agg #[.bool false,.string s,.string h,.int .i64 P]) (by simp[results,Tryz.results208,go_sem,c0,c1,c2,c3]) rfl ⟨rfl,by rw[HR.out];exact bz⟩
theorem bA9 (s h:ByteArray)(p:Int)(pa q:ByteArray)(hs:s.size<=100000)(hh:h.size<=100000)(hpa:pa.size<=100000)(hq:q.size<=100000)(hr:aT (uM true s h p pa q)=false)(w:World)(hmx:aQ w)(ht:aS w):Calls Tryz.prog 208 #[uV true s h p pa q] w fun e w'=>e=.returned (oV true ⟨#[]⟩ ⟨#[]⟩ 0)/\Below w.heap.size w w':=by
 have CC:=cJ true s h p pa q false hr hs hh hpa hq;clear hr;unfold uV oV at *
 go_enter Tryz.func208,Tryz.ntmps208
 go_wp2_with fail
 have x1:=BX.made w true s h p pa q;have m1:=hmx.made (.cells #[.bool true,.string s,.string h,.int .i64 p,.string pa,.string q] 40);have t1:=ht.made (.cells #[.bool true,.string s,.string h,.int .i64 p,.string pa,.string q] 40);have B1:Below w.heap.size w (w.alloc (.cells #[.bool true,.string s,.string h,.int .i64 p,.string pa,.string q] 40)):=(zB _ _).alloc (zL _) _;have hsz:=bD w (.cells #[.bool true,.string s,.string h,.int .i64 p,.string pa,.string q] 40);generalize hR:w.heap.size=R at x1 B1 hsz ⊢;have HR:=zH hR;clear hR;generalize w.alloc (.cells #[.bool true,.string s,.string h,.int .i64 p,.string pa,.string q] 40)=w1 at x1 B1 m1 t1 hsz ⊢;have y2:=OX.made w1 false ⟨#[]⟩ ⟨#[]⟩ 0;have x2:=x1.below ((zB w1.heap.size w1).alloc (zL _) (.cells #[.bool false,.string ⟨#[]⟩,.string ⟨#[]⟩,.int .i64 0] 198));have m2:=m1.made (.cells #[.bool false,.string ⟨#[]⟩,.string ⟨#[]⟩,.int .i64 0] 198);have t2:=t1.made (.cells #[.bool false,.string ⟨#[]⟩,.string ⟨#[]⟩,.int .i64 0] 198);have B2:=B1.alloc (zT x1.lt) (.cells #[.bool false,.string ⟨#[]⟩,.string ⟨#[]⟩,.int .i64 0] 198);rw[hsz]at y2;generalize w1.alloc (.cells #[.bool false,.string ⟨#[]⟩,.string ⟨#[]⟩,.int .i64 0] 198)=w2 at x2 y2 B2 m2 t2 ⊢;clear x1 m1 t1 B1 hsz;refine(CC.out _).mono ?_;rintro e w3 ⟨rfl,b3⟩;have x3:=x2.below b3;have y3:=y2.below b3;have B3:=B2.trans (b3.mono (zT x2.lt));have r0:=y3.c0;have r1:=y3.c1;have r2:=y3.c2;have r3:=y3.c3;have f0:=aB y3 0;have f1:=aB y3 1;have f2:=aB y3 2;have f3:=aB y3 3;have xz:=y3.store true ⟨#[]⟩ ⟨#[]⟩ 0;have bz:=gY (R:=R+1) (Nat.le_succ R) B3 true ⟨#[]⟩ ⟨#[]⟩ 0;clear b3 m2 t2 B2 x2 y2
 go_wp2
 clear r0 r1 r2 r3 f0 f1 f2 f3;generalize(((w3.setCell ⟨R+1,0,none⟩ (.bool true)).setCell ⟨R+1,1,none⟩ (.string ⟨#[]⟩)).setCell ⟨R+1,2,none⟩ (.string ⟨#[]⟩)).setCell ⟨R+1,3,none⟩ (.int .i64 0)=wz at xz bz ⊢;have c0:=xz.c0;have c1:=xz.c1;have c2:=xz.c2;have c3:=xz.c3;exact bodyPost_ret (v := .agg #[.bool true,.string ⟨#[]⟩,.string ⟨#[]⟩,.int .i64 0]) (by simp[results,Tryz.results208,go_sem,c0,c1,c2,c3]) rfl ⟨rfl,by rw[HR.out];exact bz⟩
theorem bA8 (s h:ByteArray)(p:Int)(pa q:ByteArray)(hs:s.size<=100000)(hh:h.size<=100000)(hpa:pa.size<=100000)(hq:q.size<=100000)(hr:aT (uM true s h p pa q)=true)(w:World)(hmx:aQ w)(ht:aS w):Calls Tryz.prog 208 #[uV true s h p pa q] w fun e w'=>e=.returned (oV true ⟨#[]⟩ ⟨#[]⟩ 0)/\Below w.heap.size w w':=by
 have CC:=cJ true s h p pa q true hr hs hh hpa hq;clear hr;unfold uV oV at *
 go_enter Tryz.func208,Tryz.ntmps208
 go_wp2_with fail
 have x1:=BX.made w true s h p pa q;have m1:=hmx.made (.cells #[.bool true,.string s,.string h,.int .i64 p,.string pa,.string q] 40);have t1:=ht.made (.cells #[.bool true,.string s,.string h,.int .i64 p,.string pa,.string q] 40);have B1:Below w.heap.size w (w.alloc (.cells #[.bool true,.string s,.string h,.int .i64 p,.string pa,.string q] 40)):=(zB _ _).alloc (zL _) _;have hsz:=bD w (.cells #[.bool true,.string s,.string h,.int .i64 p,.string pa,.string q] 40);generalize hR:w.heap.size=R at x1 B1 hsz ⊢;have HR:=zH hR;clear hR;generalize w.alloc (.cells #[.bool true,.string s,.string h,.int .i64 p,.string pa,.string q] 40)=w1 at x1 B1 m1 t1 hsz ⊢;have y2:=OX.made w1 false ⟨#[]⟩ ⟨#[]⟩ 0;have x2:=x1.below ((zB w1.heap.size w1).alloc (zL _) (.cells #[.bool false,.string ⟨#[]⟩,.string ⟨#[]⟩,.int .i64 0] 198));have m2:=m1.made (.cells #[.bool false,.string ⟨#[]⟩,.string ⟨#[]⟩,.int .i64 0] 198);have t2:=t1.made (.cells #[.bool false,.string ⟨#[]⟩,.string ⟨#[]⟩,.int .i64 0] 198);have B2:=B1.alloc (zT x1.lt) (.cells #[.bool false,.string ⟨#[]⟩,.string ⟨#[]⟩,.int .i64 0] 198);rw[hsz]at y2;generalize w1.alloc (.cells #[.bool false,.string ⟨#[]⟩,.string ⟨#[]⟩,.int .i64 0] 198)=w2 at x2 y2 B2 m2 t2 ⊢;clear x1 m1 t1 B1 hsz;refine(CC.out _).mono ?_;rintro e w3 ⟨rfl,b3⟩;have x3:=x2.below b3;have y3:=y2.below b3;have B3:=B2.trans (b3.mono (zT x2.lt));have q0:=x3.c0;have r0:=y3.c0;have r1:=y3.c1;have r2:=y3.c2;have r3:=y3.c3;have f0:=aB y3 0;have f1:=aB y3 1;have f2:=aB y3 2;have f3:=aB y3 3;have xz:=y3.store true ⟨#[]⟩ ⟨#[]⟩ 0;have bz:=gY (R:=R+1) (Nat.le_succ R) B3 true ⟨#[]⟩ ⟨#[]⟩ 0;clear b3 m2 t2 B2 x2 y2
 go_wp2
 clear q0 r0 r1 r2 r3 f0 f1 f2 f3;generalize(((w3.setCell ⟨R+1,0,none⟩ (.bool true)).setCell ⟨R+1,1,none⟩ (.string ⟨#[]⟩)).setCell ⟨R+1,2,none⟩ (.string ⟨#[]⟩)).setCell ⟨R+1,3,none⟩ (.int .i64 0)=wz at xz bz ⊢;have c0:=xz.c0;have c1:=xz.c1;have c2:=xz.c2;have c3:=xz.c3;exact bodyPost_ret (v := .agg #[.bool true,.string ⟨#[]⟩,.string ⟨#[]⟩,.int .i64 0]) (by simp[results,Tryz.results208,go_sem,c0,c1,c2,c3]) rfl ⟨rfl,by rw[HR.out];exact bz⟩
theorem uN (o:Bool)(s h:ByteArray)(p:Int)(pa q:ByteArray)(hs:s.size<=100000)(hh:h.size<=100000)(hpa:pa.size<=100000)(hq:q.size<=100000)(o2:Bool)(s2 h2:ByteArray)(p2:Int)(he:cM (uM o s h p pa q)=oM o2 s2 h2 p2):Hid (∀ W,aQ W->aS W->Calls Tryz.prog 208 #[uV o s h p pa q] W fun e w'=>e=.returned (oV o2 s2 h2 p2)/\Below W.heap.size W w'):=zH fun W hm ht=>by
 have inj:∀ {a b:Bool} {x y x' y':ByteArray} {m n:Int},oM a x y m=oM b x' y' n->oV a x y m=oV b x' y' n:=by
  intro a b x y x' y' m n e;unfold oM at e
  injection e with e1 e2 e3 e4
  rw[e1,e4,(aM e2).trans (aM rfl).symm,(aM e3).trans (aM rfl).symm]
 cases o
 · cases hr:aT (uM false s h p pa q)
   · rw[iR (by rw[hr];simp)]at he
     rw[<- inj (a:=true) (x:=⟨#[]⟩) (y:=⟨#[]⟩) (m:=0) he];exact aA0 s h p pa q hs hh hpa hq hr W hm ht
   · rw[qB hr rfl]at he
     rw[<- inj (a:=false) (x:=s) (y:=h) (m:=dV (uM false s h p pa q)) he];exact aA1 s h p pa q hs hh hpa hq hr _ rfl W hm ht
 · rw[iR (fun h=>by cases h.2)]at he
   rw[<- inj (a:=true) (x:=⟨#[]⟩) (y:=⟨#[]⟩) (m:=0) he]
   cases hr:aT (uM true s h p pa q)
   · exact bA9 s h p pa q hs hh hpa hq hr W hm ht
   · exact bA8 s h p pa q hs hh hpa hq hr W hm ht
theorem zY (o:Bool)(s h:ByteArray)(p:Int)(o2:Bool)(s2 h2:ByteArray)(p2:Int)(w:World):Calls Tryz.prog 207 #[oV o s h p,oV o2 s2 h2 p2] w fun e w'=>e=.returned (.bool (iP (oM o s h p) (oM o2 s2 h2 p2)))/\Below w.heap.size w w':=by
 have g1:(s.toList==s2.toList)=decide (s.data.toList=s2.data.toList):=cZ _ _;have g2:(h.toList==h2.toList)=decide (h.data.toList=h2.data.toList):=cZ _ _;have g3:(p==p2)=decide (p=p2):=by rw[Bool.eq_iff_iff];simp
 have HS:Hid (iP (oM o s h p) (oM o2 s2 h2 p2)=(!o&&(o==o2&&decide (s.data.toList=s2.data.toList)&&decide (h.data.toList=h2.data.toList)&&decide (p=p2)))):=zH (by
  unfold iP oM;rw[Bool.eq_iff_iff]
  simp[and_assoc])
 generalize decide (s.data.toList=s2.data.toList)=b1 at g1 HS;generalize decide (h.data.toList=h2.data.toList)=b2 at g2 HS;generalize decide (p=p2)=b3 at g3 HS;unfold oV
 cases b1<;>cases b2<;>cases b3<;>cases o<;>cases o2
 all_goals
  have HF:=zH (HS.out.symm);clear HS
  go_enter Tryz.func207,Tryz.ntmps207
  go_wp2
  go_ret
  exact⟨aA HF.out,((zB _ _).alloc (zL _) _).alloc (Below.size ((zB w.heap.size w).alloc (zL _) _)) _⟩
theorem pS (o:Bool)(s h:ByteArray)(p:Int)(o2:Bool)(s2 h2:ByteArray)(p2:Int)(b:Bool)(hb:iP (oM o s h p) (oM o2 s2 h2 p2)=b):Hid (∀ W,Calls Tryz.prog 207 #[oV o s h p,oV o2 s2 h2 p2] W fun e w'=>e=.returned (.bool b)/\Below W.heap.size W w') :=
 zH fun W=>by rw[<- hb];exact zY o s h p o2 s2 h2 p2 W
end Go.Proofs.YthnogdodlhkldaaGreatDoor
