/- Match's questions, one by one. Whether a place lets an address be; whether an address is near the page: the program's. Whether a source lets an address be: the program's. -/
import Derived.Test.YthnogdodlhkldaaGreatDoorMtZ
import Derived.Test.YthnogdodlhkldaaGreatDoorRefOY
set_option maxRecDepth 100000
set_option maxHeartbeats 8000000
namespace Go.Proofs.YthnogdodlhkldaaGreatDoor
open Go.RowKit
def VX (w:World)(R:Nat)(x:ByteArray):Prop:=w.heap[R]? = some (.cells #[.string x] 9 (0,0))
theorem VX.below {w w':World}{R:Nat}{x:ByteArray}(a:VX w R x)(hb:Below w.heap.size w w'):VX w' R x:=by
 unfold VX at *;rw[hb.block R (aD a)];exact a
theorem VX.c0 {w:World}{R:Nat}{x:ByteArray}(a:VX w R x):w.cell? ⟨R,0,none⟩=some (.string x):=by rw[aG a];rfl
def VB (w:World)(R:Nat)(x:Bool):Prop:=w.heap[R]? = some (.cells #[.bool x] 4 (0,0))
theorem VB.below {w w':World}{R:Nat}{x:Bool}(a:VB w R x)(hb:Below w.heap.size w w'):VB w' R x:=by
 unfold VB at *;rw[hb.block R (aD a)];exact a
theorem VB.c0 {w:World}{R:Nat}{x:Bool}(a:VB w R x):w.cell? ⟨R,0,none⟩=some (.bool x):=by rw[aG a];rfl
theorem bF0 (U:Nat)(o:Bool)(s2 h2:ByteArray)(p:Int)(pa2 q2:ByteArray)(w:World)(x:BX w U o s2 h2 p pa2 q2):Calls Tryz.prog 232 #[.pointer (some ⟨U,0,none⟩)] w fun e w'=>e=.returned (.bool (!o))/\Below w.heap.size w w':=by
 have a0:=x.c0
 go_enter Tryz.func232,Tryz.ntmps232
 go_wp2
 go_ret
 exact⟨rfl,zB _ _⟩
theorem bE9 (T U:Nat)(tt:ByteArray)(o:Bool)(s2 h2:ByteArray)(p:Int)(pa2 q2:ByteArray)(b:Bool)(hb:gS tt.data.toList s2.data.toList=b)(w:World)(v:VX w T tt)(x:BX w U o s2 h2 p pa2 q2):Calls Tryz.prog 233 #[.pointer (some ⟨T,0,none⟩),.pointer (some ⟨U,0,none⟩)] w fun e w'=>e=.returned (.bool b)/\Below w.heap.size w w':=by
 have C:=iX tt s2 b hb;have v0:=v.c0;have a1:=x.c1;clear hb
 go_enter Tryz.func233,Tryz.ntmps233
 go_wp2_with fail
 refine(C.out _).mono ?_;rintro e w ⟨rfl,rfl⟩
 go_wp2
 go_ret
 exact⟨rfl,zB _ _⟩
theorem bE8 (S U:Nat)(k:Int)(t s h:ByteArray)(wd:Bool)(sp:Int)(pa:ByteArray)(o:Bool)(s2 h2:ByteArray)(p:Int)(pa2 q2:ByteArray)(hh:h.size<=100000)(hh2:h2.size<=100000)(b:Bool)(hb:fJ wd h.data.toList h2.data.toList=b)(w:World)(y:SX w S k t s h wd sp pa)(x:BX w U o s2 h2 p pa2 q2):Calls Tryz.prog 234 #[.pointer (some ⟨S,0,none⟩),.pointer (some ⟨U,0,none⟩)] w fun e w'=>e=.returned (.bool b)/\Below w.heap.size w w':=by
 have C:=aC5 k t s h wd sp pa h2 hh hh2 b hb;unfold aP at C;obtain⟨e0,e1,e2,e3,e4,e5,e6⟩:=y.cs;have a2:=x.c2;clear hb
 go_enter Tryz.func234,Tryz.ntmps234
 go_wp2_with fail
 refine(C.out _).mono ?_;rintro e w1 ⟨rfl,b1⟩;clear e0 e1 e2 e3 e4 e5 e6 a2 x y
 go_wp2
 go_ret
 exact⟨rfl,b1⟩
theorem bE7 (S U:Nat)(k:Int)(t s h:ByteArray)(wd:Bool)(sp:Int)(pa:ByteArray)(o:Bool)(s2 h2:ByteArray)(p:Int)(pa2 q2:ByteArray)(b:Bool)(hb:eB sp (uM o s2 h2 p pa2 q2)=b)(w:World)(y:SX w S k t s h wd sp pa)(x:BX w U o s2 h2 p pa2 q2):Calls Tryz.prog 236 #[.pointer (some ⟨S,0,none⟩),.pointer (some ⟨U,0,none⟩)] w fun e w'=>e=.returned (.bool b)/\Below w.heap.size w w':=by
 have C:=aC1 k t s h wd sp pa o s2 h2 p pa2 q2 b hb;unfold aP uV at C;obtain⟨e0,e1,e2,e3,e4,e5,e6⟩:=y.cs;obtain⟨a0,a1,a2,a3,a4,a5⟩:=x.cs;clear hb
 go_enter Tryz.func236,Tryz.ntmps236
 go_wp2_with fail
 refine(C.out _).mono ?_;rintro e w1 ⟨rfl,b1⟩;clear e0 e1 e2 e3 e4 e5 e6 a0 a1 a2 a3 a4 a5 x y
 go_wp2
 go_ret
 exact⟨rfl,b1⟩
theorem bE6 (S U M:Nat)(k:Int)(t s h:ByteArray)(wd:Bool)(sp:Int)(pa:ByteArray)(o:Bool)(s2 h2:ByteArray)(p:Int)(pa2 q2:ByteArray)(m:Bool)(hpa:pa.size<=100000)(b:Bool)(hb:fP pa.data.toList pa2.data.toList m=b)(w:World)(y:SX w S k t s h wd sp pa)(x:BX w U o s2 h2 p pa2 q2)(v:VB w M m):Calls Tryz.prog 238 #[.pointer (some ⟨S,0,none⟩),.pointer (some ⟨U,0,none⟩),.pointer (some ⟨M,0,none⟩)] w fun e w'=>e=.returned (.bool b)/\Below w.heap.size w w':=by
 have C:=aC3 pa pa2 hpa m b hb;have e6:=y.c6;have a4:=x.c4;have v0:=v.c0;clear hb
 go_enter Tryz.func238,Tryz.ntmps238
 go_wp2_with fail
 refine(C.out _).mono ?_;rintro e w ⟨rfl,rfl⟩
 go_wp2
 go_ret
 exact⟨rfl,zB _ _⟩
theorem bD5 (V:Nat)(o3:Bool)(s3 h3:ByteArray)(p3:Int)(pa3 q3:ByteArray)(z1:s3.size<=100000)(z2:h3.size<=100000)(z3:pa3.size<=100000)(z4:q3.size<=100000)(b:Bool)(hb:aT (uM o3 s3 h3 p3 pa3 q3)=b)(w:World)(hm:aQ w)(ht:aS w)(x:BX w V o3 s3 h3 p3 pa3 q3):Calls Tryz.prog 241 #[.pointer (some ⟨V,0,none⟩)] w fun e w'=>e=.returned (.bool b)/\Below w.heap.size w w':=by
 obtain⟨n,hn⟩:∃ n,aG6 (uM o3 s3 h3 p3 pa3 q3)=n:=⟨_,rfl⟩;have C:=eV o3 s3 h3 p3 pa3 q3 n hn z1 z2 z3 z4
 have g:(n==0)=b:=by
  rw[<- hn,<- hb];unfold aG6;cases aT (uM o3 s3 h3 p3 pa3 q3)<;>rfl
 unfold uV at C;obtain⟨a0,a1,a2,a3,a4,a5⟩:=x.cs;clear hb hn z1 z2 z3 z4
 go_enter Tryz.func241,Tryz.ntmps241
 go_wp2_with fail
 refine(C.out _ hm ht).mono ?_;rintro e w1 ⟨rfl,b1⟩;clear a0 a1 a2 a3 a4 a5 x
 go_wp2
 go_ret
 exact⟨rfl,b1⟩
theorem bD4 (V U:Nat)(o3:Bool)(s3 h3:ByteArray)(p3:Int)(pa3 q3:ByteArray)(o:Bool)(s2 h2:ByteArray)(p:Int)(pa2 q2:ByteArray)(w:World)(y:BX w V o3 s3 h3 p3 pa3 q3)(x:BX w U o s2 h2 p pa2 q2):Calls Tryz.prog 242 #[.pointer (some ⟨V,0,none⟩),.pointer (some ⟨U,0,none⟩)] w fun e w'=>e=.returned (.bool (!o3 && !o))/\Below w.heap.size w w':=by
 have e0:=y.c0;have a0:=x.c0
 cases o3<;>cases o
 all_goals
  go_enter Tryz.func242,Tryz.ntmps242
  go_wp2
  go_ret
  exact⟨rfl,zB _ _⟩
theorem bD3 (V U:Nat)(o3:Bool)(s3 h3:ByteArray)(p3:Int)(pa3 q3:ByteArray)(o:Bool)(s2 h2:ByteArray)(p:Int)(pa2 q2:ByteArray)(w:World)(y:BX w V o3 s3 h3 p3 pa3 q3)(x:BX w U o s2 h2 p pa2 q2):Calls Tryz.prog 243 #[.pointer (some ⟨V,0,none⟩),.pointer (some ⟨U,0,none⟩)] w fun e w'=>e=.returned (.bool (decide (h3.data.toList=h2.data.toList)))/\Below w.heap.size w w':=by
 have e2:=y.c2;have a2:=x.c2;obtain⟨b,g⟩:∃ b,(h3.toList==h2.toList)=b:=⟨_,rfl⟩;have HF:Hid (b=decide (h3.data.toList=h2.data.toList)):=zH (by rw[<- g,cZ])
 go_enter Tryz.func243,Tryz.ntmps243
 go_wp2
 go_ret
 exact⟨aA HF.out,zB _ _⟩
theorem bD2 (V U:Nat)(o3:Bool)(s3 h3:ByteArray)(p3:Int)(pa3 q3:ByteArray)(o:Bool)(s2 h2:ByteArray)(p:Int)(pa2 q2:ByteArray)(w:World)(y:BX w V o3 s3 h3 p3 pa3 q3)(x:BX w U o s2 h2 p pa2 q2):Calls Tryz.prog 244 #[.pointer (some ⟨V,0,none⟩),.pointer (some ⟨U,0,none⟩)] w fun e w'=>e=.returned (.bool (decide (p3=0)&&decide (p=0)))/\Below w.heap.size w w':=by
 have e3:=y.c3;have a3:=x.c3;obtain⟨b,g⟩:∃ b,(p3==0)=b:=⟨_,rfl⟩;obtain⟨b2,g2⟩:∃ b,(p==0)=b:=⟨_,rfl⟩;have HF:Hid ((b&&b2)=(decide (p3=0)&&decide (p=0))):=zH (by rw[<- g,<- g2];rfl)
 cases b
 all_goals
  go_enter Tryz.func244,Tryz.ntmps244
  go_wp2
  go_ret
  exact⟨aA HF.out,zB _ _⟩
theorem bD1 (V U:Nat)(o3:Bool)(s3 h3:ByteArray)(p3:Int)(pa3 q3:ByteArray)(o:Bool)(s2 h2:ByteArray)(p:Int)(pa2 q2:ByteArray)(b:Bool)(hb:gS s3.data.toList s2.data.toList=b)(w:World)(y:BX w V o3 s3 h3 p3 pa3 q3)(x:BX w U o s2 h2 p pa2 q2):Calls Tryz.prog 245 #[.pointer (some ⟨V,0,none⟩),.pointer (some ⟨U,0,none⟩)] w fun e w'=>e=.returned (.bool b)/\Below w.heap.size w w':=by
 have C:=iX s3 s2 b hb;have e1:=y.c1;have a1:=x.c1;clear hb
 go_enter Tryz.func245,Tryz.ntmps245
 go_wp2_with fail
 refine(C.out _).mono ?_;rintro e w ⟨rfl,rfl⟩
 go_wp2
 go_ret
 exact⟨rfl,zB _ _⟩
end Go.Proofs.YthnogdodlhkldaaGreatDoor
namespace Go.Proofs.YthnogdodlhkldaaGreatDoor
open Go.RowKit
theorem bT (w:World)(x:Obj)(i:Nat)(hi:i<w.heap.size):(w.alloc x).heap[i]? = w.heap[i]? :=by
 show(w.heap.push x)[i]? = _;rw[Array.getElem?_push_lt hi,Array.getElem?_eq_getElem hi]
theorem dJ (w:World)(x:Obj)(i:Nat)(hi:i=w.heap.size):(w.alloc x).heap[i]? = some x:=by subst hi;exact aW w x
theorem qE (M S T U Q:Nat)(k:Int)(t s h:ByteArray)(wd:Bool)(sp:Int)(pa:ByteArray)(o:Bool)(s2 h2:ByteArray)(p:Int)(pa2 q2:ByteArray)(tt:ByteArray)(m:Bool)(z1:h.size<=100000)(z2:h2.size<=100000)(z3:pa.size<=100000)(w:World)(y:SX w S k t s h wd sp pa)(x:BX w U o s2 h2 p pa2 q2)(v:VX w T tt)(u:VB w M m)(hq:iL w Q M S T U) :
 Calls Tryz.prog 231 #[.slice (some ⟨Q,0,none⟩) 5 5] w fun e w'=>e=.returned (.bool (!o&&((gS tt.data.toList s2.data.toList)&&((fJ wd h.data.toList h2.data.toList)&&((eB sp (uM o s2 h2 p pa2 q2))&&(fP pa.data.toList pa2.data.toList m))))))/\Below w.heap.size w w' :=
 allP_any (fun W=>SX W S k t s h wd sp pa/\BX W U o s2 h2 p pa2 q2/\VX W T tt/\VB W M m) (zH fun _ _ h b=>⟨h.1.below b,h.2.1.below b,h.2.2.1.below b,h.2.2.2.below b⟩) Q M S T U (!o) (gS tt.data.toList s2.data.toList) (fJ wd h.data.toList h2.data.toList) (eB sp (uM o s2 h2 p pa2 q2)) (fP pa.data.toList pa2.data.toList m)
  (zH fun W a=>bF0 U o s2 h2 p pa2 q2 W a.2.1)
  (fun _=>zH fun W a=>bE9 T U tt o s2 h2 p pa2 q2 _ rfl W a.2.2.1 a.2.1)
  (fun _ _=>zH fun W a=>bE8 S U k t s h wd sp pa o s2 h2 p pa2 q2 z1 z2 _ rfl W a.1 a.2.1)
  (fun _ _ _=>zH fun W a=>bE7 S U k t s h wd sp pa o s2 h2 p pa2 q2 _ rfl W a.1 a.2.1)
  (fun _ _ _ _=>zH fun W a=>bE6 S U M k t s h wd sp pa o s2 h2 p pa2 q2 m z3 _ rfl W a.1 a.2.1 a.2.2.2)
  w ⟨y,x,v,u⟩ hq
theorem sE (w:World)(k:Int)(t s h:ByteArray)(wd:Bool)(sp:Int)(pa:ByteArray)(o:Bool)(s2 h2:ByteArray)(p:Int)(pa2 q2:ByteArray)(o3:Bool)(s3 h3:ByteArray)(p3:Int)(pa3 q3:ByteArray)(m:Bool)(tt:ByteArray)(x:Obj) :
 SX ((((((w.alloc (.cells #[.int .i64 k,.string t,.string s,.string h,.bool wd,.int .i64 sp,.string pa] 75)).alloc (.cells #[.bool o,.string s2,.string h2,.int .i64 p,.string pa2,.string q2] 40)).alloc (.cells #[.bool o3,.string s3,.string h3,.int .i64 p3,.string pa3,.string q3] 40)).alloc (.cells #[.bool m] 4)).alloc (.cells #[.string tt] 9)).alloc x) w.heap.size k t s h wd sp pa/\BX ((((((w.alloc (.cells #[.int .i64 k,.string t,.string s,.string h,.bool wd,.int .i64 sp,.string pa] 75)).alloc (.cells #[.bool o,.string s2,.string h2,.int .i64 p,.string pa2,.string q2] 40)).alloc (.cells #[.bool o3,.string s3,.string h3,.int .i64 p3,.string pa3,.string q3] 40)).alloc (.cells #[.bool m] 4)).alloc (.cells #[.string tt] 9)).alloc x) (w.heap.size+1) o s2 h2 p pa2 q2/\VX ((((((w.alloc (.cells #[.int .i64 k,.string t,.string s,.string h,.bool wd,.int .i64 sp,.string pa] 75)).alloc (.cells #[.bool o,.string s2,.string h2,.int .i64 p,.string pa2,.string q2] 40)).alloc (.cells #[.bool o3,.string s3,.string h3,.int .i64 p3,.string pa3,.string q3] 40)).alloc (.cells #[.bool m] 4)).alloc (.cells #[.string tt] 9)).alloc x) (w.heap.size+1+1+1+1) tt/\VB ((((((w.alloc (.cells #[.int .i64 k,.string t,.string s,.string h,.bool wd,.int .i64 sp,.string pa] 75)).alloc (.cells #[.bool o,.string s2,.string h2,.int .i64 p,.string pa2,.string q2] 40)).alloc (.cells #[.bool o3,.string s3,.string h3,.int .i64 p3,.string pa3,.string q3] 40)).alloc (.cells #[.bool m] 4)).alloc (.cells #[.string tt] 9)).alloc x) (w.heap.size+1+1+1) m/\((((((w.alloc (.cells #[.int .i64 k,.string t,.string s,.string h,.bool wd,.int .i64 sp,.string pa] 75)).alloc (.cells #[.bool o,.string s2,.string h2,.int .i64 p,.string pa2,.string q2] 40)).alloc (.cells #[.bool o3,.string s3,.string h3,.int .i64 p3,.string pa3,.string q3] 40)).alloc (.cells #[.bool m] 4)).alloc (.cells #[.string tt] 9)).alloc x).heap[w.heap.size+1+1+1+1+1]? = some x/\Below w.heap.size w ((((((w.alloc (.cells #[.int .i64 k,.string t,.string s,.string h,.bool wd,.int .i64 sp,.string pa] 75)).alloc (.cells #[.bool o,.string s2,.string h2,.int .i64 p,.string pa2,.string q2] 40)).alloc (.cells #[.bool o3,.string s3,.string h3,.int .i64 p3,.string pa3,.string q3] 40)).alloc (.cells #[.bool m] 4)).alloc (.cells #[.string tt] 9)).alloc x):=by
 refine⟨?_,?_,?_,?_,?_,?_⟩
 · unfold SX
   rw[bT,bT,bT,bT,bT,dJ]<;>simp
   all_goals omega
 · unfold BX
   rw[bT,bT,bT,bT,dJ]<;>simp
   all_goals omega
 · unfold VX
   rw[bT,dJ]<;>simp
 · unfold VB
   rw[bT,bT,dJ]<;>simp
   all_goals omega
 · rw[dJ]
   simp
 · exact(((((((zB w.heap.size w).alloc (zL _) _).alloc (by simp) _).alloc (by simp;omega) _).alloc (by simp;omega) _).alloc (by simp;omega) _).alloc (by simp;omega) _)
theorem sC (k:Int)(t s h:ByteArray)(wd:Bool)(sp:Int)(pa:ByteArray)(o:Bool)(s2 h2:ByteArray)(p:Int)(pa2 q2:ByteArray)(o3:Bool)(s3 h3:ByteArray)(p3:Int)(pa3 q3:ByteArray)(m:Bool)(z1:h.size<=100000)(z2:h2.size<=100000)(z3:pa.size<=100000)(g:s.toList.isEmpty=false)(w:World):Calls Tryz.prog 198 #[aP k t s h wd sp pa,uV o s2 h2 p pa2 q2,uV o3 s3 h3 p3 pa3 q3,.bool m] w fun e w'=>e=.returned (.bool (gR (aJ k t s h wd sp pa) (uM o s2 h2 p pa2 q2) (uM o3 s3 h3 p3 pa3 q3) m))/\Below w.heap.size w w':=by
 have HF:Hid ((!o&&(gS s.data.toList s2.data.toList&&(fJ wd h.data.toList h2.data.toList&&(eB sp (uM o s2 h2 p pa2 q2)&&fP pa.data.toList pa2.data.toList m))))=gR (aJ k t s h wd sp pa) (uM o s2 h2 p pa2 q2) (uM o3 s3 h3 p3 pa3 q3) m):=zH (by
  have e:nA (aJ k t s h wd sp pa) (uM o3 s3 h3 p3 pa3 q3)=s.data.toList:=by
   unfold nA;rw[show(aJ k t s h wd sp pa).s.isEmpty=false by rw[<- g,dK];rfl];rfl
  unfold gR;rw[e,Bool.and_assoc,Bool.and_assoc,Bool.and_assoc]
  rfl)
 unfold uV aP
 go_enter Tryz.func198,Tryz.ntmps198
 go_wp2_with fail
 obtain⟨y,x,v,u,hq,B⟩:=sE w k t s h wd sp pa o s2 h2 p pa2 q2 o3 s3 h3 p3 pa3 q3 m s _;refine(qE _ _ _ _ _ k t s h wd sp pa o s2 h2 p pa2 q2 s m z1 z2 z3 _ y x v u hq).mono ?_;clear y x v u hq;rintro e w9 ⟨rfl,b9⟩;have B9:=zH (B.trans (b9.mono B.size));clear B b9
 go_wp2
 go_ret
 exact⟨aA HF.out,B9.out⟩
theorem sD (k:Int)(t s h:ByteArray)(wd:Bool)(sp:Int)(pa:ByteArray)(o:Bool)(s2 h2:ByteArray)(p:Int)(pa2 q2:ByteArray)(o3:Bool)(s3 h3:ByteArray)(p3:Int)(pa3 q3:ByteArray)(m:Bool)(z1:h.size<=100000)(z2:h2.size<=100000)(z3:pa.size<=100000)(g:s.toList.isEmpty=true)(w:World):Calls Tryz.prog 198 #[aP k t s h wd sp pa,uV o s2 h2 p pa2 q2,uV o3 s3 h3 p3 pa3 q3,.bool m] w fun e w'=>e=.returned (.bool (gR (aJ k t s h wd sp pa) (uM o s2 h2 p pa2 q2) (uM o3 s3 h3 p3 pa3 q3) m))/\Below w.heap.size w w':=by
 have HF:Hid ((!o&&(gS s3.data.toList s2.data.toList&&(fJ wd h.data.toList h2.data.toList&&(eB sp (uM o s2 h2 p pa2 q2)&&fP pa.data.toList pa2.data.toList m))))=gR (aJ k t s h wd sp pa) (uM o s2 h2 p pa2 q2) (uM o3 s3 h3 p3 pa3 q3) m):=zH (by
  have e:nA (aJ k t s h wd sp pa) (uM o3 s3 h3 p3 pa3 q3)=s3.data.toList:=by
   unfold nA;rw[show(aJ k t s h wd sp pa).s.isEmpty=true by rw[<- g,dK];rfl];rfl
  unfold gR;rw[e,Bool.and_assoc,Bool.and_assoc,Bool.and_assoc]
  rfl)
 unfold uV aP
 go_enter Tryz.func198,Tryz.ntmps198
 go_wp2_with fail
 obtain⟨y,x,v,u,hq,B⟩:=sE w k t s h wd sp pa o s2 h2 p pa2 q2 o3 s3 h3 p3 pa3 q3 m s3 _;refine(qE _ _ _ _ _ k t s h wd sp pa o s2 h2 p pa2 q2 s3 m z1 z2 z3 _ y x v u hq).mono ?_;clear y x v u hq;rintro e w9 ⟨rfl,b9⟩;have B9:=zH (B.trans (b9.mono B.size));clear B b9
 go_wp2
 go_ret
 exact⟨aA HF.out,B9.out⟩
theorem tR (k:Int)(t s h:ByteArray)(wd:Bool)(sp:Int)(pa:ByteArray)(o:Bool)(s2 h2:ByteArray)(p:Int)(pa2 q2:ByteArray)(o3:Bool)(s3 h3:ByteArray)(p3:Int)(pa3 q3:ByteArray)(m:Bool)(z1:h.size<=100000)(z2:h2.size<=100000)(z3:pa.size<=100000)(b:Bool)(hb:gR (aJ k t s h wd sp pa) (uM o s2 h2 p pa2 q2) (uM o3 s3 h3 p3 pa3 q3) m=b):Hid (∀ W,Calls Tryz.prog 198 #[aP k t s h wd sp pa,uV o s2 h2 p pa2 q2,uV o3 s3 h3 p3 pa3 q3,.bool m] W fun e w'=>e=.returned (.bool b)/\Below W.heap.size W w') :=
 zH fun W=>by
  rw[<- hb]
  cases g:s.toList.isEmpty
  · exact sC k t s h wd sp pa o s2 h2 p pa2 q2 o3 s3 h3 p3 pa3 q3 m z1 z2 z3 g W
  · exact sD k t s h wd sp pa o s2 h2 p pa2 q2 o3 s3 h3 p3 pa3 q3 m z1 z2 z3 g W
theorem aB7 (U V Q:Nat)(o3:Bool)(s3 h3:ByteArray)(p3:Int)(pa3 q3:ByteArray)(o:Bool)(s2 h2:ByteArray)(p:Int)(pa2 q2:ByteArray)(z1:s3.size<=100000)(z2:h3.size<=100000)(z3:pa3.size<=100000)(z4:q3.size<=100000)(w:World)(hm:aQ w)(ht:aS w)(y:BX w V o3 s3 h3 p3 pa3 q3)(x:BX w U o s2 h2 p pa2 q2)(hq:iM w Q U V) :
 Calls Tryz.prog 231 #[.slice (some ⟨Q,0,none⟩) 5 5] w fun e w'=>e=.returned (.bool (aT (uM o3 s3 h3 p3 pa3 q3)&&((!o3 && !o)&&(decide (h3.data.toList=h2.data.toList)&&((decide (p3=0)&&decide (p=0))&&gS s3.data.toList s2.data.toList)))))/\Below w.heap.size w w' :=
 allN_any (fun W=>(aQ W/\aS W)/\BX W V o3 s3 h3 p3 pa3 q3/\BX W U o s2 h2 p pa2 q2) (zH fun _ _ h b=>⟨⟨h.1.1.below b,h.1.2.below b⟩,h.2.1.below b,h.2.2.below b⟩) Q U V (aT (uM o3 s3 h3 p3 pa3 q3)) (!o3 && !o) (decide (h3.data.toList=h2.data.toList)) (decide (p3=0)&&decide (p=0)) (gS s3.data.toList s2.data.toList)
  (zH fun W a=>bD5 V o3 s3 h3 p3 pa3 q3 z1 z2 z3 z4 _ rfl W a.1.1 a.1.2 a.2.1)
  (fun _=>zH fun W a=>bD4 V U o3 s3 h3 p3 pa3 q3 o s2 h2 p pa2 q2 W a.2.1 a.2.2)
  (fun _ _=>zH fun W a=>bD3 V U o3 s3 h3 p3 pa3 q3 o s2 h2 p pa2 q2 W a.2.1 a.2.2)
  (fun _ _ _=>zH fun W a=>bD2 V U o3 s3 h3 p3 pa3 q3 o s2 h2 p pa2 q2 W a.2.1 a.2.2)
  (fun _ _ _ _=>zH fun W a=>bD1 V U o3 s3 h3 p3 pa3 q3 o s2 h2 p pa2 q2 _ rfl W a.2.1 a.2.2)
  w ⟨⟨hm,ht⟩,y,x⟩ hq
theorem aO6 (w:World)(o3:Bool)(s3 h3:ByteArray)(p3:Int)(pa3 q3:ByteArray)(o:Bool)(s2 h2:ByteArray)(p:Int)(pa2 q2:ByteArray)(x:Obj) :
 BX (((w.alloc (.cells #[.bool o3,.string s3,.string h3,.int .i64 p3,.string pa3,.string q3] 40)).alloc (.cells #[.bool o,.string s2,.string h2,.int .i64 p,.string pa2,.string q2] 40)).alloc x) w.heap.size o3 s3 h3 p3 pa3 q3/\BX (((w.alloc (.cells #[.bool o3,.string s3,.string h3,.int .i64 p3,.string pa3,.string q3] 40)).alloc (.cells #[.bool o,.string s2,.string h2,.int .i64 p,.string pa2,.string q2] 40)).alloc x) (w.heap.size+1) o s2 h2 p pa2 q2/\(((w.alloc (.cells #[.bool o3,.string s3,.string h3,.int .i64 p3,.string pa3,.string q3] 40)).alloc (.cells #[.bool o,.string s2,.string h2,.int .i64 p,.string pa2,.string q2] 40)).alloc x).heap[w.heap.size+1+1]? = some x/\Below w.heap.size w (((w.alloc (.cells #[.bool o3,.string s3,.string h3,.int .i64 p3,.string pa3,.string q3] 40)).alloc (.cells #[.bool o,.string s2,.string h2,.int .i64 p,.string pa2,.string q2] 40)).alloc x):=by
 refine⟨?_,?_,?_,?_⟩
 · unfold BX
   rw[bT,bT,dJ]<;>simp
   all_goals omega
 · unfold BX
   rw[bT,dJ]<;>simp
 · rw[dJ]
   simp
 · exact(((zB w.heap.size w).alloc (zL _) _).alloc (by simp) _).alloc (by simp;omega) _
theorem aP6 (o3:Bool)(s3 h3:ByteArray)(p3:Int)(pa3 q3:ByteArray)(o:Bool)(s2 h2:ByteArray)(p:Int)(pa2 q2:ByteArray)(z1:s3.size<=100000)(z2:h3.size<=100000)(z3:pa3.size<=100000)(z4:q3.size<=100000)(w:World)(hm:aQ w)(ht:aS w):Calls Tryz.prog 201 #[uV o3 s3 h3 p3 pa3 q3,uV o s2 h2 p pa2 q2] w fun e w'=>e=.returned (.bool (nM (uM o s2 h2 p pa2 q2) (uM o3 s3 h3 p3 pa3 q3)))/\Below w.heap.size w w':=by
 obtain⟨r,hr⟩:∃ r,(aT (uM o3 s3 h3 p3 pa3 q3)&&((!o3 && !o)&&(decide (h3.data.toList=h2.data.toList)&&((decide (p3=0)&&decide (p=0))&&gS s3.data.toList s2.data.toList))))=r:=⟨_,rfl⟩;have HR:=zH hr
 have HF:Hid (r=nM (uM o s2 h2 p pa2 q2) (uM o3 s3 h3 p3 pa3 q3)):=zH (by
  rw[<- hr];unfold nM;simp only[Bool.and_assoc]
  rfl)
 clear hr;unfold uV
 go_enter Tryz.func201,Tryz.ntmps201
 go_wp2_with fail
 obtain⟨y,x,hq,B⟩:=aO6 w o3 s3 h3 p3 pa3 q3 o s2 h2 p pa2 q2 _;have CN:=aB7 _ _ _ o3 s3 h3 p3 pa3 q3 o s2 h2 p pa2 q2 z1 z2 z3 z4 _ (((hm.made _).made _).made _) (((ht.made _).made _).made _) y x hq;rw[HR.out]at CN;refine CN.mono ?_;clear y x hq CN HR;rintro e w9 ⟨rfl,b9⟩;have B9:=zH (B.trans (b9.mono B.size));clear B b9
 go_wp2
 go_ret
 exact⟨aA HF.out,B9.out⟩
theorem aP5 (o3:Bool)(s3 h3:ByteArray)(p3:Int)(pa3 q3:ByteArray)(o:Bool)(s2 h2:ByteArray)(p:Int)(pa2 q2:ByteArray)(z1:s3.size<=100000)(z2:h3.size<=100000)(z3:pa3.size<=100000)(z4:q3.size<=100000)(b:Bool)(hb:nM (uM o s2 h2 p pa2 q2) (uM o3 s3 h3 p3 pa3 q3)=b):Hid (∀ W,aQ W->aS W->Calls Tryz.prog 201 #[uV o3 s3 h3 p3 pa3 q3,uV o s2 h2 p pa2 q2] W fun e w'=>e=.returned (.bool b)/\Below W.heap.size W w') :=
 zH fun W hm ht=>by rw[<- hb];exact aP6 o3 s3 h3 p3 pa3 q3 o s2 h2 p pa2 q2 z1 z2 z3 z4 W hm ht
end Go.Proofs.YthnogdodlhkldaaGreatDoor
namespace Go.Proofs.YthnogdodlhkldaaGreatDoor
open Go.RowKit
theorem bP (w:World)(k:Int)(t s h:ByteArray)(wd:Bool)(sp:Int)(pa:ByteArray)(o:Bool)(s2 h2:ByteArray)(p:Int)(pa2 q2:ByteArray)(o3:Bool)(s3 h3:ByteArray)(p3:Int)(pa3 q3:ByteArray) :
 SX (((w.alloc (.cells #[.int .i64 k,.string t,.string s,.string h,.bool wd,.int .i64 sp,.string pa] 75)).alloc (.cells #[.bool o,.string s2,.string h2,.int .i64 p,.string pa2,.string q2] 40)).alloc (.cells #[.bool o3,.string s3,.string h3,.int .i64 p3,.string pa3,.string q3] 40)) w.heap.size k t s h wd sp pa/\BX (((w.alloc (.cells #[.int .i64 k,.string t,.string s,.string h,.bool wd,.int .i64 sp,.string pa] 75)).alloc (.cells #[.bool o,.string s2,.string h2,.int .i64 p,.string pa2,.string q2] 40)).alloc (.cells #[.bool o3,.string s3,.string h3,.int .i64 p3,.string pa3,.string q3] 40)) (w.heap.size+1) o s2 h2 p pa2 q2/\BX (((w.alloc (.cells #[.int .i64 k,.string t,.string s,.string h,.bool wd,.int .i64 sp,.string pa] 75)).alloc (.cells #[.bool o,.string s2,.string h2,.int .i64 p,.string pa2,.string q2] 40)).alloc (.cells #[.bool o3,.string s3,.string h3,.int .i64 p3,.string pa3,.string q3] 40)) (w.heap.size+1+1) o3 s3 h3 p3 pa3 q3/\Below w.heap.size w (((w.alloc (.cells #[.int .i64 k,.string t,.string s,.string h,.bool wd,.int .i64 sp,.string pa] 75)).alloc (.cells #[.bool o,.string s2,.string h2,.int .i64 p,.string pa2,.string q2] 40)).alloc (.cells #[.bool o3,.string s3,.string h3,.int .i64 p3,.string pa3,.string q3] 40)):=by
 refine⟨?_,?_,?_,?_⟩
 · unfold SX
   rw[bT,bT,dJ]<;>simp
   all_goals omega
 · unfold BX
   rw[bT,dJ]<;>simp
 · unfold BX
   rw[dJ];simp
 · exact(((zB w.heap.size w).alloc (zL _) _).alloc (by simp) _).alloc (by simp;omega) _
theorem xE (x:O):∃(o:Bool) (s h:ByteArray) (p:Int),x=oM o s h p:=by
 obtain⟨s,hs⟩:=aO x.s;obtain⟨h,hh⟩:=aO x.h;exact⟨x.o,s,h,x.p,by unfold oM;rw[hs,hh]⟩
theorem aW5 (k:Int)(t s h:ByteArray)(wd:Bool)(sp:Int)(pa:ByteArray)(o:Bool)(s2 h2:ByteArray)(p:Int)(pa2 q2:ByteArray)(o3:Bool)(s3 h3:ByteArray)(p3:Int)(pa3 q3:ByteArray)(m:Bool)(CC:Hid (∀ W,aQ W->aS W->Calls Tryz.prog 34 #[uV o s2 h2 p pa2 q2] W fun e w'=>e=.returned (.int .i64 50)/\Below W.heap.size W w'))(w:World)(hm:aQ w)(ht:aS w):Calls Tryz.prog 151 #[aP k t s h wd sp pa,uV o s2 h2 p pa2 q2,uV o3 s3 h3 p3 pa3 q3,.bool m] w fun e w'=>e=.returned (.bool false)/\Below w.heap.size w w':=by
 unfold aP uV at *
 go_enter Tryz.func151,Tryz.ntmps151
 go_wp2_with fail
 obtain⟨x1,x2,x3,BB⟩:=bP w k t s h wd sp pa o s2 h2 p pa2 q2 o3 s3 h3 p3 pa3 q3;have mB:=((hm.made (.cells #[.int .i64 k,.string t,.string s,.string h,.bool wd,.int .i64 sp,.string pa] 75)).made (.cells #[.bool o,.string s2,.string h2,.int .i64 p,.string pa2,.string q2] 40)).made (.cells #[.bool o3,.string s3,.string h3,.int .i64 p3,.string pa3,.string q3] 40);have tB:=((ht.made (.cells #[.int .i64 k,.string t,.string s,.string h,.bool wd,.int .i64 sp,.string pa] 75)).made (.cells #[.bool o,.string s2,.string h2,.int .i64 p,.string pa2,.string q2] 40)).made (.cells #[.bool o3,.string s3,.string h3,.int .i64 p3,.string pa3,.string q3] 40);clear hm ht;generalize hR:w.heap.size=Ra at x1 x2 x3 BB ⊢;have HR:=zH hR;clear hR;obtain⟨Rb,hRb⟩:∃ Rb,Ra+1=Rb:=⟨_,rfl⟩;rw[hRb]at x2 x3
 try rw[hRb]
 clear hRb;obtain⟨Rc,hRb⟩:∃ Rc,Rb+1=Rc:=⟨_,rfl⟩;rw[hRb]at x3
 try rw[hRb]
 clear hRb;generalize((w.alloc (.cells #[.int .i64 k,.string t,.string s,.string h,.bool wd,.int .i64 sp,.string pa] 75)).alloc (.cells #[.bool o,.string s2,.string h2,.int .i64 p,.string pa2,.string q2] 40)).alloc (.cells #[.bool o3,.string s3,.string h3,.int .i64 p3,.string pa3,.string q3] 40)=w1 at x1 x2 x3 mB tB BB ⊢;have xRa_w1:=x1;have xRb_w1:=x2;have xRc_w1:=x3;clear x1 x2 x3;refine(CC.out _ mB tB).mono ?_;rintro e w2 ⟨rfl,b_⟩;have mw2:=mB.below b_;have tw2:=tB.below b_;have Bw2:=BB.trans (b_.mono (zT xRa_w1.lt));have xRa_w2:=xRa_w1.below b_;have xRb_w2:=xRb_w1.below b_;have xRc_w2:=xRc_w1.below b_;clear b_ mB tB BB xRa_w1 xRb_w1 xRc_w1;obtain⟨dRa0,dRa1,dRa2,dRa3,dRa4,dRa5,dRa6⟩:=xRa_w2.cs;obtain⟨dRb0,dRb1,dRb2,dRb3,dRb4,dRb5⟩:=xRb_w2.cs;obtain⟨dRc0,dRc1,dRc2,dRc3,dRc4,dRc5⟩:=xRc_w2.cs
 go_wp2
 go_ret
 exact⟨rfl,by rw[HR.out];exact Bw2⟩
theorem url_k11 (t s h:ByteArray)(wd:Bool)(sp:Int)(pa:ByteArray)(o:Bool)(s2 h2:ByteArray)(p:Int)(pa2 q2:ByteArray)(o3:Bool)(s3 h3:ByteArray)(p3:Int)(pa3 q3:ByteArray)(m r:Bool)(CC:Hid (∀ W,aQ W->aS W->Calls Tryz.prog 34 #[uV o s2 h2 p pa2 q2] W fun e w'=>e=.returned (.int .i64 0)/\Below W.heap.size W w'))(CS:Hid (∀ W,Calls Tryz.prog 197 #[.string s,.string s2] W fun e w'=>e=.returned (.bool r)/\Below W.heap.size W w'))(w:World)(hm:aQ w)(ht:aS w):Calls Tryz.prog 151 #[aP 11 t s h wd sp pa,uV o s2 h2 p pa2 q2,uV o3 s3 h3 p3 pa3 q3,.bool m] w fun e w'=>e=.returned (.bool r)/\Below w.heap.size w w':=by
 unfold aP uV at *
 go_enter Tryz.func151,Tryz.ntmps151
 go_wp2_with fail
 obtain⟨x1,x2,x3,BB⟩:=bP w 11 t s h wd sp pa o s2 h2 p pa2 q2 o3 s3 h3 p3 pa3 q3;have mB:=((hm.made (.cells #[.int .i64 11,.string t,.string s,.string h,.bool wd,.int .i64 sp,.string pa] 75)).made (.cells #[.bool o,.string s2,.string h2,.int .i64 p,.string pa2,.string q2] 40)).made (.cells #[.bool o3,.string s3,.string h3,.int .i64 p3,.string pa3,.string q3] 40);have tB:=((ht.made (.cells #[.int .i64 11,.string t,.string s,.string h,.bool wd,.int .i64 sp,.string pa] 75)).made (.cells #[.bool o,.string s2,.string h2,.int .i64 p,.string pa2,.string q2] 40)).made (.cells #[.bool o3,.string s3,.string h3,.int .i64 p3,.string pa3,.string q3] 40);clear hm ht;generalize hR:w.heap.size=Ra at x1 x2 x3 BB ⊢;have HR:=zH hR;clear hR;obtain⟨Rb,hRb⟩:∃ Rb,Ra+1=Rb:=⟨_,rfl⟩;rw[hRb]at x2 x3
 try rw[hRb]
 clear hRb;obtain⟨Rc,hRb⟩:∃ Rc,Rb+1=Rc:=⟨_,rfl⟩;rw[hRb]at x3
 try rw[hRb]
 clear hRb;generalize((w.alloc (.cells #[.int .i64 11,.string t,.string s,.string h,.bool wd,.int .i64 sp,.string pa] 75)).alloc (.cells #[.bool o,.string s2,.string h2,.int .i64 p,.string pa2,.string q2] 40)).alloc (.cells #[.bool o3,.string s3,.string h3,.int .i64 p3,.string pa3,.string q3] 40)=w1 at x1 x2 x3 mB tB BB ⊢;have xRa_w1:=x1;have xRb_w1:=x2;have xRc_w1:=x3;clear x1 x2 x3;refine(CC.out _ mB tB).mono ?_;rintro e w2 ⟨rfl,b_⟩;have mw2:=mB.below b_;have tw2:=tB.below b_;have Bw2:=BB.trans (b_.mono (zT xRa_w1.lt));have xRa_w2:=xRa_w1.below b_;have xRb_w2:=xRb_w1.below b_;have xRc_w2:=xRc_w1.below b_;clear b_ mB tB BB xRa_w1 xRb_w1 xRc_w1;obtain⟨dRa0,dRa1,dRa2,dRa3,dRa4,dRa5,dRa6⟩:=xRa_w2.cs;obtain⟨dRb0,dRb1,dRb2,dRb3,dRb4,dRb5⟩:=xRb_w2.cs
 go_wp2_with fail
 clear dRa0 dRa1 dRa2 dRa3 dRa4 dRa5 dRa6 dRb0 dRb1 dRb2 dRb3 dRb4 dRb5;refine(CS.out _ ).mono ?_;rintro e w3 ⟨rfl,b_⟩;have mw3:=mw2.below b_;have tw3:=tw2.below b_;have Bw3:=Bw2.trans (b_.mono (zT xRa_w2.lt));have xRa_w3:=xRa_w2.below b_;have xRb_w3:=xRb_w2.below b_;have xRc_w3:=xRc_w2.below b_;clear b_ mw2 tw2 Bw2 xRa_w2 xRb_w2 xRc_w2
 go_wp2
 go_ret
 exact⟨rfl,by rw[HR.out];exact Bw3⟩
theorem url_k12 (t s h:ByteArray)(wd:Bool)(sp:Int)(pa:ByteArray)(o:Bool)(s2 h2:ByteArray)(p:Int)(pa2 q2:ByteArray)(o3:Bool)(s3 h3:ByteArray)(p3:Int)(pa3 q3:ByteArray)(m r:Bool)(CC:Hid (∀ W,aQ W->aS W->Calls Tryz.prog 34 #[uV o s2 h2 p pa2 q2] W fun e w'=>e=.returned (.int .i64 0)/\Below W.heap.size W w'))(CL:Hid (∀ W,Calls Tryz.prog 198 #[aP 12 t s h wd sp pa,uV o s2 h2 p pa2 q2,uV o3 s3 h3 p3 pa3 q3,.bool m] W fun e w'=>e=.returned (.bool r)/\Below W.heap.size W w'))(w:World)(hm:aQ w)(ht:aS w):Calls Tryz.prog 151 #[aP 12 t s h wd sp pa,uV o s2 h2 p pa2 q2,uV o3 s3 h3 p3 pa3 q3,.bool m] w fun e w'=>e=.returned (.bool r)/\Below w.heap.size w w':=by
 unfold aP uV at *
 go_enter Tryz.func151,Tryz.ntmps151
 go_wp2_with fail
 obtain⟨x1,x2,x3,BB⟩:=bP w 12 t s h wd sp pa o s2 h2 p pa2 q2 o3 s3 h3 p3 pa3 q3;have mB:=((hm.made (.cells #[.int .i64 12,.string t,.string s,.string h,.bool wd,.int .i64 sp,.string pa] 75)).made (.cells #[.bool o,.string s2,.string h2,.int .i64 p,.string pa2,.string q2] 40)).made (.cells #[.bool o3,.string s3,.string h3,.int .i64 p3,.string pa3,.string q3] 40);have tB:=((ht.made (.cells #[.int .i64 12,.string t,.string s,.string h,.bool wd,.int .i64 sp,.string pa] 75)).made (.cells #[.bool o,.string s2,.string h2,.int .i64 p,.string pa2,.string q2] 40)).made (.cells #[.bool o3,.string s3,.string h3,.int .i64 p3,.string pa3,.string q3] 40);clear hm ht;generalize hR:w.heap.size=Ra at x1 x2 x3 BB ⊢;have HR:=zH hR;clear hR;obtain⟨Rb,hRb⟩:∃ Rb,Ra+1=Rb:=⟨_,rfl⟩;rw[hRb]at x2 x3
 try rw[hRb]
 clear hRb;obtain⟨Rc,hRb⟩:∃ Rc,Rb+1=Rc:=⟨_,rfl⟩;rw[hRb]at x3
 try rw[hRb]
 clear hRb;generalize((w.alloc (.cells #[.int .i64 12,.string t,.string s,.string h,.bool wd,.int .i64 sp,.string pa] 75)).alloc (.cells #[.bool o,.string s2,.string h2,.int .i64 p,.string pa2,.string q2] 40)).alloc (.cells #[.bool o3,.string s3,.string h3,.int .i64 p3,.string pa3,.string q3] 40)=w1 at x1 x2 x3 mB tB BB ⊢;have xRa_w1:=x1;have xRb_w1:=x2;have xRc_w1:=x3;clear x1 x2 x3;refine(CC.out _ mB tB).mono ?_;rintro e w2 ⟨rfl,b_⟩;have mw2:=mB.below b_;have tw2:=tB.below b_;have Bw2:=BB.trans (b_.mono (zT xRa_w1.lt));have xRa_w2:=xRa_w1.below b_;have xRb_w2:=xRb_w1.below b_;have xRc_w2:=xRc_w1.below b_;clear b_ mB tB BB xRa_w1 xRb_w1 xRc_w1;obtain⟨dRa0,dRa1,dRa2,dRa3,dRa4,dRa5,dRa6⟩:=xRa_w2.cs;obtain⟨dRb0,dRb1,dRb2,dRb3,dRb4,dRb5⟩:=xRb_w2.cs;obtain⟨dRc0,dRc1,dRc2,dRc3,dRc4,dRc5⟩:=xRc_w2.cs
 go_wp2_with fail
 clear dRa0 dRa1 dRa2 dRa3 dRa4 dRa5 dRa6 dRb0 dRb1 dRb2 dRb3 dRb4 dRb5 dRc0 dRc1 dRc2 dRc3 dRc4 dRc5;refine(CL.out _ ).mono ?_;rintro e w3 ⟨rfl,b_⟩;have mw3:=mw2.below b_;have tw3:=tw2.below b_;have Bw3:=Bw2.trans (b_.mono (zT xRa_w2.lt));have xRa_w3:=xRa_w2.below b_;have xRb_w3:=xRb_w2.below b_;have xRc_w3:=xRc_w2.below b_;clear b_ mw2 tw2 Bw2 xRa_w2 xRb_w2 xRc_w2
 go_wp2
 go_ret
 exact⟨rfl,by rw[HR.out];exact Bw3⟩
theorem url_k2s (t s h:ByteArray)(wd:Bool)(sp:Int)(pa:ByteArray)(o:Bool)(s2 h2:ByteArray)(p:Int)(pa2 q2:ByteArray)(o3:Bool)(s3 h3:ByteArray)(p3:Int)(pa3 q3:ByteArray)(m:Bool)(CC:Hid (∀ W,aQ W->aS W->Calls Tryz.prog 34 #[uV o s2 h2 p pa2 q2] W fun e w'=>e=.returned (.int .i64 0)/\Below W.heap.size W w'))(oa:Bool)(sx hx:ByteArray)(px:Int)(ob:Bool)(sy hy:ByteArray)(py:Int)(CO1:Hid (∀ W,aQ W->aS W->Calls Tryz.prog 200 #[uV o3 s3 h3 p3 pa3 q3] W fun e w'=>e=.returned (oV oa sx hx px)/\Below W.heap.size W w'))(CO2:Hid (∀ W,aQ W->aS W->Calls Tryz.prog 200 #[uV o s2 h2 p pa2 q2] W fun e w'=>e=.returned (oV ob sy hy py)/\Below W.heap.size W w'))(CS:Hid (∀ W,Calls Tryz.prog 199 #[oV oa sx hx px,oV ob sy hy py] W fun e w'=>e=.returned (.bool true)/\Below W.heap.size W w'))(w:World)(hm:aQ w)(ht:aS w):Calls Tryz.prog 151 #[aP 2 t s h wd sp pa,uV o s2 h2 p pa2 q2,uV o3 s3 h3 p3 pa3 q3,.bool m] w fun e w'=>e=.returned (.bool true)/\Below w.heap.size w w':=by
 unfold aP uV at *
 go_enter Tryz.func151,Tryz.ntmps151
 go_wp2_with fail
 obtain⟨x1,x2,x3,BB⟩:=bP w 2 t s h wd sp pa o s2 h2 p pa2 q2 o3 s3 h3 p3 pa3 q3;have mB:=((hm.made (.cells #[.int .i64 2,.string t,.string s,.string h,.bool wd,.int .i64 sp,.string pa] 75)).made (.cells #[.bool o,.string s2,.string h2,.int .i64 p,.string pa2,.string q2] 40)).made (.cells #[.bool o3,.string s3,.string h3,.int .i64 p3,.string pa3,.string q3] 40);have tB:=((ht.made (.cells #[.int .i64 2,.string t,.string s,.string h,.bool wd,.int .i64 sp,.string pa] 75)).made (.cells #[.bool o,.string s2,.string h2,.int .i64 p,.string pa2,.string q2] 40)).made (.cells #[.bool o3,.string s3,.string h3,.int .i64 p3,.string pa3,.string q3] 40);clear hm ht;generalize hR:w.heap.size=Ra at x1 x2 x3 BB ⊢;have HR:=zH hR;clear hR;obtain⟨Rb,hRb⟩:∃ Rb,Ra+1=Rb:=⟨_,rfl⟩;rw[hRb]at x2 x3
 try rw[hRb]
 clear hRb;obtain⟨Rc,hRb⟩:∃ Rc,Rb+1=Rc:=⟨_,rfl⟩;rw[hRb]at x3
 try rw[hRb]
 clear hRb;generalize((w.alloc (.cells #[.int .i64 2,.string t,.string s,.string h,.bool wd,.int .i64 sp,.string pa] 75)).alloc (.cells #[.bool o,.string s2,.string h2,.int .i64 p,.string pa2,.string q2] 40)).alloc (.cells #[.bool o3,.string s3,.string h3,.int .i64 p3,.string pa3,.string q3] 40)=w1 at x1 x2 x3 mB tB BB ⊢;have xRa_w1:=x1;have xRb_w1:=x2;have xRc_w1:=x3;clear x1 x2 x3;refine(CC.out _ mB tB).mono ?_;rintro e w2 ⟨rfl,b_⟩;have mw2:=mB.below b_;have tw2:=tB.below b_;have Bw2:=BB.trans (b_.mono (zT xRa_w1.lt));have xRa_w2:=xRa_w1.below b_;have xRb_w2:=xRb_w1.below b_;have xRc_w2:=xRc_w1.below b_;clear b_ mB tB BB xRa_w1 xRb_w1 xRc_w1;unfold oV at *;obtain⟨dRa0,dRa1,dRa2,dRa3,dRa4,dRa5,dRa6⟩:=xRa_w2.cs;obtain⟨dRb0,dRb1,dRb2,dRb3,dRb4,dRb5⟩:=xRb_w2.cs;obtain⟨dRc0,dRc1,dRc2,dRc3,dRc4,dRc5⟩:=xRc_w2.cs
 go_wp2
 clear dRa0 dRa1 dRa2 dRa3 dRa4 dRa5 dRa6 dRb0 dRb1 dRb2 dRb3 dRb4 dRb5 dRc0 dRc1 dRc2 dRc3 dRc4 dRc5;obtain⟨C,hC⟩:∃ C:World->Prop,∀ w',C w'↔(SX w' Ra 2 t s h wd sp pa/\BX w' Rb o s2 h2 p pa2 q2/\BX w' Rc o3 s3 h3 p3 pa3 q3/\Below Ra w w'/\aQ w'/\aS w'):=⟨_,fun _=>Iff.rfl⟩;have HC:=zH hC;clear hC;have hC0:C w2.drew:=(HC.out _).2 ⟨xRa_w2,xRb_w2,xRc_w2,Bw2.drew,mw2,tw2⟩
 have HK:Hid (∀ w',C w'->∀ w7,Below w'.heap.size w' w7->C w7):=zH fun w' hc w7 b=>by
  obtain⟨xRa,xRb,xRc,K4,m7,t7⟩:=(HC.out w').1 hc;exact(HC.out _).2 ⟨xRa.below b,xRb.below b,xRc.below b,K4.trans (b.mono (zT xRa.lt)),m7.below b,t7.below b⟩
 clear xRa_w2 xRb_w2 xRc_w2 Bw2 mw2 tw2;refine aY C (by kernel_rfl) (by kernel_rfl) hC0 ?_;clear hC0
 repeat
  first
   | go_big_quiet_skip
   | (go_big_quiet_want;go_big_quiet_op;go_big_quiet_on)
   | (refine BigFrame.wpQuiet_want rfl (fun K hK => ?_)
      apply Exists.intro
      refine⟨fun w' hc => ?_,hK _ ?_⟩
      · obtain⟨xRa,xRb,xRc,K4,m7,t7⟩:=(HC.out w').1 hc
        obtain⟨dRa0,dRa1,dRa2,dRa3,dRa4,dRa5,dRa6⟩:=xRa.cs;obtain⟨dRb0,dRb1,dRb2,dRb3,dRb4,dRb5⟩:=xRb.cs;obtain⟨dRc0,dRc1,dRc2,dRc3,dRc4,dRc5⟩:=xRc.cs;unfold Oper.quietAt
        go_simp
        first
         | done
         | rfl
         | ((with_reducible refine(CO1.out _ m7 t7).mono ?_);rintro e w7 ⟨rfl,b7⟩;exact⟨rfl,HK.out w' hc w7 b7⟩)
         | ((with_reducible refine(CO2.out _ m7 t7).mono ?_);rintro e w7 ⟨rfl,b7⟩;exact⟨rfl,HK.out w' hc w7 b7⟩)
         | ((with_reducible refine(CS.out _).mono ?_);rintro e w7 ⟨rfl,b7⟩;exact⟨rfl,HK.out w' hc w7 b7⟩)
      clear hK K
      simp only[Act.put,List.setIfInBounds_toArray,List.set_cons_zero,List.set_cons_succ])
 refine wpQuiet_nil ?_;intro w3 hc;obtain⟨xRa_w3,xRb_w3,xRc_w3,Bw3,mw3,tw3⟩:=(HC.out w3).1 hc;clear hc HC HK
 go_wp2
 go_ret
 exact⟨rfl,by rw[HR.out];exact Bw3⟩
theorem url_k2n (t s h:ByteArray)(wd:Bool)(sp:Int)(pa:ByteArray)(o:Bool)(s2 h2:ByteArray)(p:Int)(pa2 q2:ByteArray)(o3:Bool)(s3 h3:ByteArray)(p3:Int)(pa3 q3:ByteArray)(m r:Bool)(CC:Hid (∀ W,aQ W->aS W->Calls Tryz.prog 34 #[uV o s2 h2 p pa2 q2] W fun e w'=>e=.returned (.int .i64 0)/\Below W.heap.size W w'))(oa:Bool)(sx hx:ByteArray)(px:Int)(ob:Bool)(sy hy:ByteArray)(py:Int)(CO1:Hid (∀ W,aQ W->aS W->Calls Tryz.prog 200 #[uV o3 s3 h3 p3 pa3 q3] W fun e w'=>e=.returned (oV oa sx hx px)/\Below W.heap.size W w'))(CO2:Hid (∀ W,aQ W->aS W->Calls Tryz.prog 200 #[uV o s2 h2 p pa2 q2] W fun e w'=>e=.returned (oV ob sy hy py)/\Below W.heap.size W w'))(CS:Hid (∀ W,Calls Tryz.prog 199 #[oV oa sx hx px,oV ob sy hy py] W fun e w'=>e=.returned (.bool false)/\Below W.heap.size W w'))(CN:Hid (∀ W,aQ W->aS W->Calls Tryz.prog 201 #[uV o3 s3 h3 p3 pa3 q3,uV o s2 h2 p pa2 q2] W fun e w'=>e=.returned (.bool r)/\Below W.heap.size W w'))(w:World)(hm:aQ w)(ht:aS w):Calls Tryz.prog 151 #[aP 2 t s h wd sp pa,uV o s2 h2 p pa2 q2,uV o3 s3 h3 p3 pa3 q3,.bool m] w fun e w'=>e=.returned (.bool r)/\Below w.heap.size w w':=by
 unfold aP uV at *
 go_enter Tryz.func151,Tryz.ntmps151
 go_wp2_with fail
 obtain⟨x1,x2,x3,BB⟩:=bP w 2 t s h wd sp pa o s2 h2 p pa2 q2 o3 s3 h3 p3 pa3 q3;have mB:=((hm.made (.cells #[.int .i64 2,.string t,.string s,.string h,.bool wd,.int .i64 sp,.string pa] 75)).made (.cells #[.bool o,.string s2,.string h2,.int .i64 p,.string pa2,.string q2] 40)).made (.cells #[.bool o3,.string s3,.string h3,.int .i64 p3,.string pa3,.string q3] 40);have tB:=((ht.made (.cells #[.int .i64 2,.string t,.string s,.string h,.bool wd,.int .i64 sp,.string pa] 75)).made (.cells #[.bool o,.string s2,.string h2,.int .i64 p,.string pa2,.string q2] 40)).made (.cells #[.bool o3,.string s3,.string h3,.int .i64 p3,.string pa3,.string q3] 40);clear hm ht;generalize hR:w.heap.size=Ra at x1 x2 x3 BB ⊢;have HR:=zH hR;clear hR;obtain⟨Rb,hRb⟩:∃ Rb,Ra+1=Rb:=⟨_,rfl⟩;rw[hRb]at x2 x3
 try rw[hRb]
 clear hRb;obtain⟨Rc,hRb⟩:∃ Rc,Rb+1=Rc:=⟨_,rfl⟩;rw[hRb]at x3
 try rw[hRb]
 clear hRb;generalize((w.alloc (.cells #[.int .i64 2,.string t,.string s,.string h,.bool wd,.int .i64 sp,.string pa] 75)).alloc (.cells #[.bool o,.string s2,.string h2,.int .i64 p,.string pa2,.string q2] 40)).alloc (.cells #[.bool o3,.string s3,.string h3,.int .i64 p3,.string pa3,.string q3] 40)=w1 at x1 x2 x3 mB tB BB ⊢;have xRa_w1:=x1;have xRb_w1:=x2;have xRc_w1:=x3;clear x1 x2 x3;refine(CC.out _ mB tB).mono ?_;rintro e w2 ⟨rfl,b_⟩;have mw2:=mB.below b_;have tw2:=tB.below b_;have Bw2:=BB.trans (b_.mono (zT xRa_w1.lt));have xRa_w2:=xRa_w1.below b_;have xRb_w2:=xRb_w1.below b_;have xRc_w2:=xRc_w1.below b_;clear b_ mB tB BB xRa_w1 xRb_w1 xRc_w1;unfold oV at *;obtain⟨dRa0,dRa1,dRa2,dRa3,dRa4,dRa5,dRa6⟩:=xRa_w2.cs;obtain⟨dRb0,dRb1,dRb2,dRb3,dRb4,dRb5⟩:=xRb_w2.cs;obtain⟨dRc0,dRc1,dRc2,dRc3,dRc4,dRc5⟩:=xRc_w2.cs
 go_wp2
 clear dRa0 dRa1 dRa2 dRa3 dRa4 dRa5 dRa6 dRb0 dRb1 dRb2 dRb3 dRb4 dRb5 dRc0 dRc1 dRc2 dRc3 dRc4 dRc5;obtain⟨C,hC⟩:∃ C:World->Prop,∀ w',C w'↔(SX w' Ra 2 t s h wd sp pa/\BX w' Rb o s2 h2 p pa2 q2/\BX w' Rc o3 s3 h3 p3 pa3 q3/\Below Ra w w'/\aQ w'/\aS w'):=⟨_,fun _=>Iff.rfl⟩;have HC:=zH hC;clear hC;have hC0:C w2.drew:=(HC.out _).2 ⟨xRa_w2,xRb_w2,xRc_w2,Bw2.drew,mw2,tw2⟩
 have HK:Hid (∀ w',C w'->∀ w7,Below w'.heap.size w' w7->C w7):=zH fun w' hc w7 b=>by
  obtain⟨xRa,xRb,xRc,K4,m7,t7⟩:=(HC.out w').1 hc;exact(HC.out _).2 ⟨xRa.below b,xRb.below b,xRc.below b,K4.trans (b.mono (zT xRa.lt)),m7.below b,t7.below b⟩
 clear xRa_w2 xRb_w2 xRc_w2 Bw2 mw2 tw2;refine aY C (by kernel_rfl) (by kernel_rfl) hC0 ?_;clear hC0
 repeat
  first
   | go_big_quiet_skip
   | (go_big_quiet_want;go_big_quiet_op;go_big_quiet_on)
   | (refine BigFrame.wpQuiet_want rfl (fun K hK => ?_)
      apply Exists.intro
      refine⟨fun w' hc => ?_,hK _ ?_⟩
      · obtain⟨xRa,xRb,xRc,K4,m7,t7⟩:=(HC.out w').1 hc
        obtain⟨dRa0,dRa1,dRa2,dRa3,dRa4,dRa5,dRa6⟩:=xRa.cs;obtain⟨dRb0,dRb1,dRb2,dRb3,dRb4,dRb5⟩:=xRb.cs;obtain⟨dRc0,dRc1,dRc2,dRc3,dRc4,dRc5⟩:=xRc.cs;unfold Oper.quietAt
        go_simp
        first
         | done
         | rfl
         | ((with_reducible refine(CO1.out _ m7 t7).mono ?_);rintro e w7 ⟨rfl,b7⟩;exact⟨rfl,HK.out w' hc w7 b7⟩)
         | ((with_reducible refine(CO2.out _ m7 t7).mono ?_);rintro e w7 ⟨rfl,b7⟩;exact⟨rfl,HK.out w' hc w7 b7⟩)
         | ((with_reducible refine(CS.out _).mono ?_);rintro e w7 ⟨rfl,b7⟩;exact⟨rfl,HK.out w' hc w7 b7⟩)
         | ((with_reducible refine(CN.out _ m7 t7).mono ?_);rintro e w7 ⟨rfl,b7⟩;exact⟨rfl,HK.out w' hc w7 b7⟩)
      clear hK K
      simp only[Act.put,List.setIfInBounds_toArray,List.set_cons_zero,List.set_cons_succ])
 refine wpQuiet_nil ?_;intro w3 hc;obtain⟨xRa_w3,xRb_w3,xRc_w3,Bw3,mw3,tw3⟩:=(HC.out w3).1 hc;clear hc HC HK
 go_wp2
 go_ret
 exact⟨rfl,by rw[HR.out];exact Bw3⟩
theorem aW6 (k:Int)(t s h:ByteArray)(wd:Bool)(sp:Int)(pa:ByteArray)(o:Bool)(s2 h2:ByteArray)(p:Int)(pa2 q2:ByteArray)(o3:Bool)(s3 h3:ByteArray)(p3:Int)(pa3 q3:ByteArray)(m:Bool)(CC:Hid (∀ W,aQ W->aS W->Calls Tryz.prog 34 #[uV o s2 h2 p pa2 q2] W fun e w'=>e=.returned (.int .i64 0)/\Below W.heap.size W w'))(n1:(k==11)=false)(n2:(k==12)=false)(n3:(k==2)=false)(w:World)(hm:aQ w)(ht:aS w):Calls Tryz.prog 151 #[aP k t s h wd sp pa,uV o s2 h2 p pa2 q2,uV o3 s3 h3 p3 pa3 q3,.bool m] w fun e w'=>e=.returned (.bool false)/\Below w.heap.size w w':=by
 unfold aP uV at *
 go_enter Tryz.func151,Tryz.ntmps151
 go_wp2_with fail
 obtain⟨x1,x2,x3,BB⟩:=bP w k t s h wd sp pa o s2 h2 p pa2 q2 o3 s3 h3 p3 pa3 q3;have mB:=((hm.made (.cells #[.int .i64 k,.string t,.string s,.string h,.bool wd,.int .i64 sp,.string pa] 75)).made (.cells #[.bool o,.string s2,.string h2,.int .i64 p,.string pa2,.string q2] 40)).made (.cells #[.bool o3,.string s3,.string h3,.int .i64 p3,.string pa3,.string q3] 40);have tB:=((ht.made (.cells #[.int .i64 k,.string t,.string s,.string h,.bool wd,.int .i64 sp,.string pa] 75)).made (.cells #[.bool o,.string s2,.string h2,.int .i64 p,.string pa2,.string q2] 40)).made (.cells #[.bool o3,.string s3,.string h3,.int .i64 p3,.string pa3,.string q3] 40);clear hm ht;generalize hR:w.heap.size=Ra at x1 x2 x3 BB ⊢;have HR:=zH hR;clear hR;obtain⟨Rb,hRb⟩:∃ Rb,Ra+1=Rb:=⟨_,rfl⟩;rw[hRb]at x2 x3
 try rw[hRb]
 clear hRb;obtain⟨Rc,hRb⟩:∃ Rc,Rb+1=Rc:=⟨_,rfl⟩;rw[hRb]at x3
 try rw[hRb]
 clear hRb;generalize((w.alloc (.cells #[.int .i64 k,.string t,.string s,.string h,.bool wd,.int .i64 sp,.string pa] 75)).alloc (.cells #[.bool o,.string s2,.string h2,.int .i64 p,.string pa2,.string q2] 40)).alloc (.cells #[.bool o3,.string s3,.string h3,.int .i64 p3,.string pa3,.string q3] 40)=w1 at x1 x2 x3 mB tB BB ⊢;have xRa_w1:=x1;have xRb_w1:=x2;have xRc_w1:=x3;clear x1 x2 x3;refine(CC.out _ mB tB).mono ?_;rintro e w2 ⟨rfl,b_⟩;have mw2:=mB.below b_;have tw2:=tB.below b_;have Bw2:=BB.trans (b_.mono (zT xRa_w1.lt));have xRa_w2:=xRa_w1.below b_;have xRb_w2:=xRb_w1.below b_;have xRc_w2:=xRc_w1.below b_;clear b_ mB tB BB xRa_w1 xRb_w1 xRc_w1;obtain⟨dRa0,dRa1,dRa2,dRa3,dRa4,dRa5,dRa6⟩:=xRa_w2.cs
 go_wp2
 clear dRa0 dRa1 dRa2 dRa3 dRa4 dRa5 dRa6
 go_ret
 exact⟨rfl,by rw[HR.out];exact Bw2⟩
theorem fL (f:Nat)(a:Array Value)(r:Value)(h:Hid (∀ W,Calls Tryz.prog f a W fun e w'=>e=.returned r/\w'=W)):Hid (∀ W,Calls Tryz.prog f a W fun e w'=>e=.returned r/\Below W.heap.size W w') :=
 zH fun W=>(h.out W).mono fun e w' ⟨h1,h2⟩=>⟨h1,by rw[h2];exact zB _ _⟩
theorem aO9 (k:Int)(t s h:ByteArray)(wd:Bool)(sp:Int)(pa:ByteArray)(o:Bool)(s2 h2:ByteArray)(p:Int)(pa2 q2:ByteArray)(o3:Bool)(s3 h3:ByteArray)(p3:Int)(pa3 q3:ByteArray)(m:Bool)(z1:h.size<=100000)(z2:pa.size<=100000)(u1:s2.size<=100000)(u2:h2.size<=100000)(u3:pa2.size<=100000)(u4:q2.size<=100000)(v1:s3.size<=100000)(v2:h3.size<=100000)(v3:pa3.size<=100000)(v4:q3.size<=100000)(w:World)(hm:aQ w)(ht:aS w):Calls Tryz.prog 151 #[aP k t s h wd sp pa,uV o s2 h2 p pa2 q2,uV o3 s3 h3 p3 pa3 q3,.bool m] w fun e w'=>e=.returned (.bool (eH (aJ k t s h wd sp pa) (uM o s2 h2 p pa2 q2) (uM o3 s3 h3 p3 pa3 q3) m))/\Below w.heap.size w w':=by
 cases hr:aT (uM o s2 h2 p pa2 q2)
 · rw[show eH (aJ k t s h wd sp pa) (uM o s2 h2 p pa2 q2) (uM o3 s3 h3 p3 pa3 q3) m=false by unfold eH;rw[hr];rfl]
   exact aW5 k t s h wd sp pa o s2 h2 p pa2 q2 o3 s3 h3 p3 pa3 q3 m (eV o s2 h2 p pa2 q2 50 (lZ hr) u1 u2 u3 u4) w hm ht
 have CC:=eV o s2 h2 p pa2 q2 0 (mA hr) u1 u2 u3 u4
 by_cases k1:k=11
 · subst k1
   have e:gS s.data.toList s2.data.toList=eH (aJ 11 t s h wd sp pa) (uM o s2 h2 p pa2 q2) (uM o3 s3 h3 p3 pa3 q3) m:=by unfold eH;rw[hr];rfl
   exact url_k11 t s h wd sp pa o s2 h2 p pa2 q2 o3 s3 h3 p3 pa3 q3 m _ CC (fL _ _ _ (iX s s2 _ e)) w hm ht
 by_cases k2:k=12
 · subst k2
   have e:gR (aJ 12 t s h wd sp pa) (uM o s2 h2 p pa2 q2) (uM o3 s3 h3 p3 pa3 q3) m=eH (aJ 12 t s h wd sp pa) (uM o s2 h2 p pa2 q2) (uM o3 s3 h3 p3 pa3 q3) m:=by unfold eH;rw[hr];rfl
   exact url_k12 t s h wd sp pa o s2 h2 p pa2 q2 o3 s3 h3 p3 pa3 q3 m _ CC (tR 12 t s h wd sp pa o s2 h2 p pa2 q2 o3 s3 h3 p3 pa3 q3 m z1 u2 z2 _ e) w hm ht
 by_cases k3:k=2
 · subst k3
   have e:eH (aJ 2 t s h wd sp pa) (uM o s2 h2 p pa2 q2) (uM o3 s3 h3 p3 pa3 q3) m=pP (uM o s2 h2 p pa2 q2) (uM o3 s3 h3 p3 pa3 q3):=by rw[qY _ rfl,hr];rfl
   obtain⟨oa,sx,hx,px,ea⟩:=xE (cM (uM o3 s3 h3 p3 pa3 q3));obtain⟨ob,sy,hy,py,eb⟩:=xE (cM (uM o s2 h2 p pa2 q2));have CO1:=of_hid o3 s3 h3 p3 pa3 q3 v1 v2 v3 v4 oa sx hx px ea;have CO2:=of_hid o s2 h2 p pa2 q2 u1 u2 u3 u4 ob sy hy py eb;rw[e];unfold pP;rw[ea,eb]
   cases hs:iP (oM oa sx hx px) (oM ob sy hy py)
   · rw[Bool.false_or]
     exact url_k2n t s h wd sp pa o s2 h2 p pa2 q2 o3 s3 h3 p3 pa3 q3 m _ CC oa sx hx px ob sy hy py CO1 CO2 (zI oa sx hx px ob sy hy py false hs) (aP5 o3 s3 h3 p3 pa3 q3 o s2 h2 p pa2 q2 v1 v2 v3 v4 _ rfl) w hm ht
   · exact url_k2s t s h wd sp pa o s2 h2 p pa2 q2 o3 s3 h3 p3 pa3 q3 m CC oa sx hx px ob sy hy py CO1 CO2 (zI oa sx hx px ob sy hy py true hs) w hm ht
 rw[show eH (aJ k t s h wd sp pa) (uM o s2 h2 p pa2 q2) (uM o3 s3 h3 p3 pa3 q3) m=false by
  unfold eH;rw[hr,if_neg (show ¬ (aJ k t s h wd sp pa).k=11 from k1),if_neg (show ¬ (aJ k t s h wd sp pa).k=12 from k2),if_neg (show ¬ (aJ k t s h wd sp pa).k=2 from k3)]
  rfl]
 exact aW6 k t s h wd sp pa o s2 h2 p pa2 q2 o3 s3 h3 p3 pa3 q3 m CC (by rw[beq_eq_false_iff_ne];exact k1) (by rw[beq_eq_false_iff_ne];exact k2) (by rw[beq_eq_false_iff_ne];exact k3) w hm ht
theorem aO8 (k:Int)(t s h:ByteArray)(wd:Bool)(sp:Int)(pa:ByteArray)(o:Bool)(s2 h2:ByteArray)(p:Int)(pa2 q2:ByteArray)(o3:Bool)(s3 h3:ByteArray)(p3:Int)(pa3 q3:ByteArray)(m:Bool)(z1:h.size<=100000)(z2:pa.size<=100000)(u1:s2.size<=100000)(u2:h2.size<=100000)(u3:pa2.size<=100000)(u4:q2.size<=100000)(v1:s3.size<=100000)(v2:h3.size<=100000)(v3:pa3.size<=100000)(v4:q3.size<=100000)(b:Bool)(hb:eH (aJ k t s h wd sp pa) (uM o s2 h2 p pa2 q2) (uM o3 s3 h3 p3 pa3 q3) m=b):Hid (∀ W,dZ W->Calls Tryz.prog 151 #[aP k t s h wd sp pa,uV o s2 h2 p pa2 q2,uV o3 s3 h3 p3 pa3 q3,.bool m] W fun e w'=>e=.returned (.bool b)/\Below W.heap.size W w') :=
 zH fun W hw=>by rw[<- hb];exact aO9 k t s h wd sp pa o s2 h2 p pa2 q2 o3 s3 h3 p3 pa3 q3 m z1 z2 u1 u2 u3 u4 v1 v2 v3 v4 W hw.m hw.t
end Go.Proofs.YthnogdodlhkldaaGreatDoor
