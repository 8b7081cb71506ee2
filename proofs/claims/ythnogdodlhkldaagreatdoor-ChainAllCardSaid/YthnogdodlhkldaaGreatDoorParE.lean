/- A word is parsed as a source, words as a row, the document's way. -/
import Derived.Test.YthnogdodlhkldaaGreatDoorParD
set_option maxRecDepth 100000
set_option maxHeartbeats 8000000
namespace Go.Proofs.YthnogdodlhkldaaGreatDoor
open Go.RowKit
theorem aC6 {l t:List UInt8}(hl:l.getLast? = some 39)(h:mV l t=true)(ht:∀ b,t.getLast? = some b->b≠fA 39):t.length+1<=l.length:=by
 have h1:=oD ((oE hl ht).trans h);rw[List.length_dropLast]at h1
 cases l with
 | nil=>cases hl
 | cons a l=>simp at h1 ⊢;omega
theorem aM8 (q0:ByteArray)(hs:q0.size<=10000)(hl:q0.data.toList.getLast? = some 39):∃(k:Int) (t:ByteArray),aJ k t ⟨#[]⟩ ⟨#[]⟩ false 0 ⟨#[]⟩=gV q0.data.toList/\t.size<=10000/\Hid (∀ W,Calls Tryz.prog 94 #[.string q0] W fun e w'=>e=.returned (aP k t ⟨#[]⟩ ⟨#[]⟩ false 0 ⟨#[]⟩)/\Below W.heap.size W w'):=by
 cases b1:mV q0.data.toList NON
 · have C1:=fY q0 (⟨#[39,110,111,110,99,101,45]⟩:ByteArray) (by omega) false b1
   cases b2:mV q0.data.toList MRK
   · have C2:=fY q0 (⟨#[39,109,97,114,107,45]⟩:ByteArray) (by omega) false b2
     obtain⟨T,hT⟩:=jG q0;have CL:=cK q0 T hT (by omega)
     cases hf:([1,2,3,4,5,6,7,8]:List Int).find? (fun k=>decide (bB q0.data.toList=aN k))with
     | none =>
       refine⟨0,⟨#[]⟩,?_,by decide,zH fun W=>pY q0 T 0 C1 C2 CL (zH hT) (zH ⟨fun n h1 h8 hn hk => ?_,fun _=>rfl⟩) W⟩
       · unfold gV
         rw[b1,b2,hf];rfl
       · rw[vC _ n h1 h8 hn hk]at hf;cases hf
     | some kq =>
       refine⟨kq,⟨#[]⟩,?_,by decide,zH fun W=>pY q0 T kq C1 C2 CL (zH hT) (zH ⟨fun n h1 h8 hn hk => ?_,fun hn => ?_⟩) W⟩
       · unfold gV
         rw[b1,b2,hf];rfl
       · rw[vC _ n h1 h8 hn hk]at hf;exact Option.some.inj hf
       · rw[bG8 _ hn]at hf;cases hf
   · have C2:=fY q0 (⟨#[39,109,97,114,107,45]⟩:ByteArray) (by omega) true b2
     have hlen:=aC6 hl b2 (by decide);rw[show MRK.length=6 from rfl,aE]at hlen;obtain⟨m,hm⟩:∃ m:ByteArray,m.data.toList=(q0.data.toList.drop 6).dropLast:=⟨⟨((q0.data.toList.drop 6).dropLast).toArray⟩,rfl⟩;have hml:m.size<=10000:=by rw[<- aE,hm,List.length_dropLast,List.length_drop,aE];omega
     obtain⟨u,hu⟩:∃ u:ByteArray,u.data.toList=(mR m.data.toList).1:=⟨⟨((mR m.data.toList).1).toArray⟩,rfl⟩;have CD:=tK m (by omega) u (mR m.data.toList).2 (by rw[hu]);refine⟨10,u,?_,?_,zH fun W=>aM7 q0 m u _ C1 C2 CD (rK q0 6 m (by omega) hm) (by omega) (by omega) W⟩
     · unfold gV aJ
       rw[b1,b2,hu,hm];rfl
     · rw[<- aE,hu]
       have:=aE7 m.data.toList;rw[aE]at this;omega
 · have C1:=fY q0 (⟨#[39,110,111,110,99,101,45]⟩:ByteArray) (by omega) true b1
   have hlen:=aC6 hl b1 (by decide);rw[show NON.length=7 from rfl,aE]at hlen;obtain⟨u,hu⟩:∃ u:ByteArray,u.data.toList=(q0.data.toList.drop 7).dropLast:=⟨⟨((q0.data.toList.drop 7).dropLast).toArray⟩,rfl⟩;refine⟨9,u,?_,?_,zH fun W=>aM6 q0 u C1 (rK q0 7 u (by omega) hu) (by omega) (by omega) W⟩
   · unfold gV aJ
     rw[b1,hu];rfl
   · rw[<- aE,hu,List.length_dropLast,List.length_drop,aE];omega
theorem fF (l:List UInt8):∃ T:ByteArray,T.data.toList=l:=⟨⟨l.toArray⟩,rfl⟩
theorem qU {c:UInt8}(h:c≠58):((c.toNat:Int)==58)=false:=by
 rw[beq_eq_false_iff_ne];intro e;exact h (UInt8.toNat_inj.1 (by show c.toNat=58;omega))
theorem nP {a b:ByteArray}(h:a.data.toList=bB b.data.toList):a.size=b.size:=by rw[<- aE,h,dS,aE]
theorem bH1 {a b:ByteArray}{n:Nat}(h:a.data.toList=b.data.toList.drop n):a.size<=b.size:=by rw[<- aE,h,List.length_drop,aE];omega
def aV8 (q0:ByteArray):Prop:=∃(k:Int) (t s h:ByteArray) (wd:Bool) (sp:Int) (pa:ByteArray) (ok:Bool),(iV q0.data.toList=if ok then some (aJ k t s h wd sp pa) else none)/\t.size<=10000/\s.size<=10000/\h.size<=10000/\Hid (∀ W,Calls Tryz.prog 95 #[.string q0] W fun e w'=>e=.returned (.tuple #[aP k t s h wd sp pa,.bool ok])/\Below W.heap.size W w')
theorem qA (q0 A R9 SF REST:ByteArray)(b:Bool)(c:UInt8)(hs:q0.size<=10000)(hc:q0.data.toList.getLast? = some c)(h58:c≠58)(CS:Hid (∀ W,Calls Tryz.prog 135 #[.string q0,.string ⟨#[58,47,47]⟩] W fun e w'=>e=.returned (.tuple #[.string A,.string R9,.bool b])/\Below W.heap.size W w'))(HA:b=true->A.toList.isEmpty=false)(hSF:SF.size<=10000)(CA:b=true->Hid (∀ W,Calls Tryz.prog 61 #[.string A] W fun e w'=>e=.returned (.string SF)/\Below W.heap.size W w'))(Hf:b=false->SF=⟨#[]⟩)(HRE:(b=false->q0=REST)/\(b=true->R9=REST))(hR:REST.size<=10000)(hp:iV q0.data.toList=jE SF.data.toList REST.data.toList):aV8 q0:=by
 have z1:=oT hc;obtain⟨F,hF⟩:=fF (upto (eR 47) REST.data.toList);obtain⟨PA,hPA⟩:=fF (dD (eR 47) REST.data.toList);obtain⟨NM,hNM⟩:=fF (upto (eR 58) F.data.toList);obtain⟨NU,hNU⟩:=fF (dD (eR 58) F.data.toList);obtain⟨NU1,hNU1⟩:=fF (NU.data.toList.drop 1);obtain⟨HO,hHO⟩:=jG NM;have lF:F.size<=10000:=by have:=eL (eR 47) REST.data.toList;rw[<- hF,aE,aE]at this;omega
 have lNM:NM.size<=10000:=by have:=eL (eR 58) F.data.toList;rw[<- hNM,aE,aE]at this;omega
 have CC1:=aF2 47 REST F PA hF hPA (by omega);have CC2:=aF2 58 F NM NU hNM hNU (by omega);have CL:=cK NM HO hHO (by omega);obtain⟨bn,gn⟩:∃ x,NU.toList.isEmpty=x:=⟨_,rfl⟩;have gx:=gn;rw[aF]at gx;have hn0:bn=true->oQ NU.data.toList=0:=fun h=>by rw[h]at gx;rw[List.isEmpty_iff.1 gx];rfl
 have hs2:bn=false->∀ W,(Instr.slice 9 (.string NU) (some (.int .i64 1)) none none).run Tryz.prog W=.ok (.string NU1) W:=fun h=>by
  rw[h]at gx
  have h1:1<=NU.size:=by
   rw[<- aE]
   cases hl:NU.data.toList with
   | nil=>rw[hl]at gx;cases gx
   | cons a l=>simp
  exact fD NU NU1 1 h1 hNU1
 have CP:bn=false->Hid (∀ W,Calls Tryz.prog 137 #[.string NU1] W fun e w'=>e=.returned (.int .i64 (oQ NU.data.toList))/\w'=W):=fun h=>aX8 NU1 _ (by
  rw[h]at gx;rw[hNU1]
  cases hl:NU.data.toList with
  | nil=>rw[hl]at gx;cases gx
  | cons a l=>rfl)
 have hrest:jE SF.data.toList REST.data.toList=kW SF.data.toList NM.data.toList (oQ NU.data.toList) PA.data.toList:=by unfold jE;rw[hNM,hNU,hPA,hF]
 rw[hrest]at hp;have hi:=jY q0 c hc
 cases bw:mV NM.data.toList [42,46]
 · have CB:=fY NM (⟨#[42,46]⟩:ByteArray) (by omega) false bw
   obtain⟨bs,gs⟩:∃ x,(NM.toList==[42])=x:=⟨_,rfl⟩;have gy:=gs;rw[bJ]at gy;have hbw:¬ bB (NM.data.toList.take 2)=[42,46]:=of_decide_eq_false bw
   cases bs
   · refine⟨12,⟨#[]⟩,SF,HO,false,oQ NU.data.toList,PA,true,?_,by decide,hSF,by rw[nP hHO];exact lNM,zH fun W=>rT q0 A R9 SF REST F PA NM NU NU1 HO b bn c.toNat (oQ NU.data.toList) (qU h58) hi (by omega) (by omega) CS HA CA Hf HRE CC1 CC2 gn hn0 hs2 CP CL false false HO gs (fun h=>by cases h) (fun _=>⟨rfl,rfl⟩) CB W⟩
     rw[hp];unfold kW aJ;rw[if_neg hbw,if_neg (of_decide_eq_false gy),hHO];rfl
   · refine⟨12,⟨#[]⟩,SF,⟨#[]⟩,true,oQ NU.data.toList,PA,true,?_,by decide,hSF,by decide,zH fun W=>rT q0 A R9 SF REST F PA NM NU NU1 HO b bn c.toNat (oQ NU.data.toList) (qU h58) hi (by omega) (by omega) CS HA CA Hf HRE CC1 CC2 gn hn0 hs2 CP CL true true ⟨#[]⟩ gs (fun _=>⟨rfl,rfl⟩) (fun h=>by cases h) CB W⟩
     rw[hp];unfold kW aJ;rw[if_neg hbw,if_pos (of_decide_eq_true gy)];rfl
 · have CB:=fY NM (⟨#[42,46]⟩:ByteArray) (by omega) true bw
   have hbw:bB (NM.data.toList.take 2)=[42,46]:=of_decide_eq_true bw;have h2:2<=NM.size:=by have:=oD bw;rw[aE]at this;exact this
   obtain⟨N2,hN2⟩:=bH0 NM 2;obtain⟨HW,hHW⟩:=jG N2;have lN2:=bH1 hN2
   have gs:(NM.toList==[42])=false:=by
    rw[bJ,decide_eq_false_iff_not];intro e;have:=congrArg List.length e;rw[aE]at this;simp at this;omega
   refine⟨12,⟨#[]⟩,SF,HW,true,oQ NU.data.toList,PA,decide ((2:Int)<(NM.size:Int)),?_,by decide,hSF,by rw[nP hHW];omega,zH fun W=>aN1 q0 A R9 SF REST F PA NM NU NU1 HO b bn c.toNat (oQ NU.data.toList) (qU h58) hi (by omega) (by omega) CS HA CA Hf HRE CC1 CC2 gn hn0 hs2 CP CL gs CB N2 HW (fD NM N2 2 h2 hN2) (cK N2 HW hHW (by omega)) _ rfl W⟩;rw[hp];unfold kW aJ;rw[if_pos hbw,hHW,hN2,aE]
   by_cases h:2<NM.size
   · rw[if_pos h,decide_eq_true (by omega)];rfl
   · rw[if_neg h,decide_eq_false (by omega)];rfl
theorem yY:∀ {l a r:List UInt8},kN l=some (a,r)->a.length<=l.length/\r.length<=l.length
 | [],a,r,h=>by cases h
 | b :: l,a,r,h=>by
   unfold kN at h;split at h
   · simp only[Option.some.injEq,Prod.mk.injEq]at h
     obtain⟨rfl,rfl⟩:=h;exact⟨by simp,by rw[List.length_drop];omega⟩
   · rw[Option.map_eq_some_iff]at h
     obtain⟨⟨x,y⟩,hx,he⟩:=h;simp only[Prod.mk.injEq]at he;obtain⟨rfl,rfl⟩:=he;have:=yY hx;simp only[List.length_cons];omega
theorem bB9 (q0:ByteArray)(hs:q0.size<=10000)(h1:1<=q0.size):aV8 q0:=by
 obtain⟨c,hc⟩:∃ c,q0.data.toList.getLast? = some c:=by
  cases hl:q0.data.toList with
  | nil=>have:=aE q0;rw[hl]at this;simp at this;omega
  | cons a l=>exact⟨_,List.getLast?_cons⟩
 by_cases h58:c=58
 · subst h58
   obtain⟨U,hU⟩:=fF q0.data.toList.dropLast;obtain⟨SC,hSC⟩:=jG U;have lU:U.size<=10000:=by rw[<- aE,hU,List.length_dropLast,aE];omega
   refine⟨11,⟨#[]⟩,SC,⟨#[]⟩,false,0,⟨#[]⟩,true,?_,by decide,by rw[nP hSC];exact lU,by decide,zH fun W=>wW q0 U SC (jY q0 58 hc) (by omega) (by omega) (zA q0 U h1 hU) (cK U SC hSC (by omega)) W⟩;unfold iV aJ;rw[if_pos hc,hSC,hU];rfl
 have hp:iV q0.data.toList=match kN q0.data.toList with
  | some (sc,r)=>if sc=[] then none else jE (bB sc) r
  | none=>jE [] q0.data.toList:=by
  unfold iV;rw[if_neg (by rw[hc];intro e;exact h58 (Option.some.inj e))]
  cases kN q0.data.toList<;>rfl
 cases hsp:kN q0.data.toList with
 | none =>
   rw[hsp]at hp;exact qA q0 q0 ⟨#[]⟩ ⟨#[]⟩ q0 false c hs hc h58 (aH5 q0 (by omega) hsp) (fun h=>by cases h) (by decide) (fun h=>by cases h) (fun _=>rfl) ⟨fun _=>rfl,fun h=>by cases h⟩ hs hp
 | some x =>
   obtain⟨sc,r⟩:=x;rw[hsp]at hp;simp only[]at hp;obtain⟨A,hA⟩:=fF sc;obtain⟨R,hR⟩:=fF r;subst hA;subst hR;have CS:=aH4 q0 A R (by omega) hsp
   have hlen:A.size<=q0.size/\R.size<=q0.size:=by
    have:=yY hsp;rw[aE,aE,aE]at this;exact this
   by_cases ha:A.data.toList=[]
   · rw[if_pos ha]at hp
     have hA0:A=⟨#[]⟩:=aM ha;subst hA0;exact⟨12,⟨#[]⟩,⟨#[]⟩,⟨#[]⟩,false,0,⟨#[]⟩,false,hp,by decide,by decide,by decide,zH fun W=>aN2 q0 R c.toNat (qU h58) (jY q0 c hc) (by omega) (by omega) CS (cK ⟨#[]⟩ ⟨#[]⟩ rfl (by decide)) W⟩
   · rw[if_neg ha]at hp
     obtain⟨SF,hSF⟩:=jG A;have lSF:=nP hSF;rw[<- hSF]at hp
     exact qA q0 A R SF R true c hs hc h58 CS (fun _=>by rw[aF];cases hl:A.data.toList with
      | nil=>exact absurd hl ha
      | cons a l=>rfl) (by omega) (fun _=>cK A SF hSF (by omega)) (fun h=>by cases h) ⟨fun h=>(by cases h),fun _=>rfl⟩ (by omega) hp
theorem aO0 (q0:ByteArray)(g:q0.toList.isEmpty=true)(w:World):Calls Tryz.prog 62 #[.string q0] w fun e w'=>e=.returned (.tuple #[aP 0 ⟨#[]⟩ ⟨#[]⟩ ⟨#[]⟩ false 0 ⟨#[]⟩,.bool false])/\Below w.heap.size w w':=by
 have xz0:=SX.made w 0 ⟨#[]⟩ ⟨#[]⟩ ⟨#[]⟩ false 0 ⟨#[]⟩;have yz0:Below w.heap.size w (w.alloc (.cells #[.int .i64 0,.string ⟨#[]⟩,.string ⟨#[]⟩,.string ⟨#[]⟩,.bool false,.int .i64 0,.string ⟨#[]⟩] 75)):=(zB _ _).alloc (zL _) _;have HX:=zH (And.intro xz0 yz0);clear xz0 yz0
 go_enter Tryz.func62,Tryz.ntmps62
 go_wp2
 obtain⟨xz,yz⟩:=HX.out;clear HX;generalize hR:w.heap.size=R at xz yz ⊢;have HR:=zH hR;clear hR;generalize w.alloc (.cells #[.int .i64 0,.string ⟨#[]⟩,.string ⟨#[]⟩,.string ⟨#[]⟩,.bool false,.int .i64 0,.string ⟨#[]⟩] 75)=wz at xz yz ⊢;obtain⟨c0,c1,c2,c3,c4,c5,c6⟩:=xz.cs;exact bodyPost_ret (v := .tuple #[aP 0 ⟨#[]⟩ ⟨#[]⟩ ⟨#[]⟩ false 0 ⟨#[]⟩,.bool false]) (by simp[results,Tryz.results62,go_sem,aP,c0,c1,c2,c3,c4,c5,c6]) rfl ⟨rfl,by first | (rw[HR.out];exact yz) | exact yz⟩
theorem tO (q0:ByteArray)(g:q0.toList.isEmpty=false)(z2:(2:Int)<=(q0.size:Int))(h0:∀ W,(Instr.index 9 (.string q0) (.int .i64 0)).run Tryz.prog W=.ok (.int .u8 39) W)(h1:∀ W,(Instr.index 9 (.string q0) (.int .i64 ((q0.size:Int) - 1))).run Tryz.prog W=.ok (.int .u8 39) W)(_z1:(1:Int)<=(q0.size:Int))(zs:(q0.size:Int)<=1000000000)(k:Int)(t:ByteArray)(CQ:Hid (∀ W,Calls Tryz.prog 94 #[.string q0] W fun e w'=>e=.returned (aP k t ⟨#[]⟩ ⟨#[]⟩ false 0 ⟨#[]⟩)/\Below W.heap.size W w'))(r:Bool)(CR:Hid (∀ W,Calls Tryz.prog 96 #[aP k t ⟨#[]⟩ ⟨#[]⟩ false 0 ⟨#[]⟩] W fun e w'=>e=.returned (.bool r)/\Below W.heap.size W w'))(w:World):Calls Tryz.prog 62 #[.string q0] w fun e w'=>e=.returned (.tuple #[if r then aP k t ⟨#[]⟩ ⟨#[]⟩ false 0 ⟨#[]⟩ else aP 0 ⟨#[]⟩ ⟨#[]⟩ ⟨#[]⟩ false 0 ⟨#[]⟩,.bool r])/\Below w.heap.size w w':=by
 unfold aP at CQ CR;have x1:=(SX.made w 0 ⟨#[]⟩ ⟨#[]⟩ ⟨#[]⟩ false 0 ⟨#[]⟩).below ((zB _ _).alloc (zL _) (.cells #[.int .i64 0,.string ⟨#[]⟩,.string ⟨#[]⟩,.string ⟨#[]⟩,.bool false,.int .i64 0,.string ⟨#[]⟩] 75))
 have y1:SX ((w.alloc (.cells #[.int .i64 0,.string ⟨#[]⟩,.string ⟨#[]⟩,.string ⟨#[]⟩,.bool false,.int .i64 0,.string ⟨#[]⟩] 75)).alloc (.cells #[.int .i64 0,.string ⟨#[]⟩,.string ⟨#[]⟩,.string ⟨#[]⟩,.bool false,.int .i64 0,.string ⟨#[]⟩] 75)) (w.heap.size+1) 0 ⟨#[]⟩ ⟨#[]⟩ ⟨#[]⟩ false 0 ⟨#[]⟩:=by
  have e:=SX.made (w.alloc (.cells #[.int .i64 0,.string ⟨#[]⟩,.string ⟨#[]⟩,.string ⟨#[]⟩,.bool false,.int .i64 0,.string ⟨#[]⟩] 75)) 0 ⟨#[]⟩ ⟨#[]⟩ ⟨#[]⟩ false 0 ⟨#[]⟩;rw[aV]at e;exact e
 have B1:Below w.heap.size w ((w.alloc (.cells #[.int .i64 0,.string ⟨#[]⟩,.string ⟨#[]⟩,.string ⟨#[]⟩,.bool false,.int .i64 0,.string ⟨#[]⟩] 75)).alloc (.cells #[.int .i64 0,.string ⟨#[]⟩,.string ⟨#[]⟩,.string ⟨#[]⟩,.bool false,.int .i64 0,.string ⟨#[]⟩] 75)):=((zB _ _).alloc (zL _) _).alloc (by rw[aV];omega) _;have hRQ:w.heap.size<=w.heap.size+1:=Nat.le_succ _;have hQR:w.heap.size+1≠w.heap.size:=by omega
 have HX:=zH (And.intro x1 (And.intro y1 (And.intro B1 (And.intro hRQ hQR))));clear x1 y1 B1 hRQ hQR
 go_enter Tryz.func62,Tryz.ntmps62
 go_wp2_with fail
 obtain⟨x1,y1,B1,hRQ,hQR⟩:=HX.out;clear HX;generalize w.heap.size+1=Q at y1 hRQ hQR ⊢;generalize hR:w.heap.size=R at x1 B1 hRQ hQR ⊢;have HR:=zH hR;clear hR;generalize(w.alloc (.cells #[.int .i64 0,.string ⟨#[]⟩,.string ⟨#[]⟩,.string ⟨#[]⟩,.bool false,.int .i64 0,.string ⟨#[]⟩] 75)).alloc (.cells #[.int .i64 0,.string ⟨#[]⟩,.string ⟨#[]⟩,.string ⟨#[]⟩,.bool false,.int .i64 0,.string ⟨#[]⟩] 75)=w1 at x1 y1 B1 ⊢;refine(CQ.out _).mono ?_;rintro e w2 ⟨rfl,b_⟩;have x2:=x1.below b_;have y2:=y1.below b_;have B2:=B1.trans (b_.mono (zT x1.lt));clear b_ x1 y1 B1;have m0:=y2.c0;have n0:=aB y2 0;have m1:=y2.c1;have n1:=aB y2 1;have m2:=y2.c2;have n2:=aB y2 2;have m3:=y2.c3;have n3:=aB y2 3;have m4:=y2.c4;have n4:=aB y2 4;have m5:=y2.c5;have n5:=aB y2 5;have m6:=y2.c6;have n6:=aB y2 6;have ys:=y2.store k t ⟨#[]⟩ ⟨#[]⟩ false 0 ⟨#[]⟩;have Bs:=cD B2 hRQ k t ⟨#[]⟩ ⟨#[]⟩ false 0 ⟨#[]⟩;unfold vU at ys Bs;have xs:SX (((((((w2.setCell ⟨Q,0,none⟩ (.int .i64 k)).setCell ⟨Q,1,none⟩ (.string t)).setCell ⟨Q,2,none⟩ (.string ⟨#[]⟩)).setCell ⟨Q,3,none⟩ (.string ⟨#[]⟩)).setCell ⟨Q,4,none⟩ (.bool false)).setCell ⟨Q,5,none⟩ (.int .i64 0)).setCell ⟨Q,6,none⟩ (.string ⟨#[]⟩)) R 0 ⟨#[]⟩ ⟨#[]⟩ ⟨#[]⟩ false 0 ⟨#[]⟩:=(((((((x2.other hQR 0 _).other hQR 1 _).other hQR 2 _).other hQR 3 _).other hQR 4 _).other hQR 5 _).other hQR 6 _);have X:=zH (And.intro xs (And.intro ys Bs));obtain⟨s0,s1,s2,s3,s4,s5,s6⟩:=ys.cs;clear xs ys Bs
 go_wp2_with fail
 obtain⟨x3,y3,B3⟩:=X.out;clear X m0 n0 s0 m1 n1 s1 m2 n2 s2 m3 n3 s3 m4 n4 s4 m5 n5 s5 m6 n6 s6 x2 y2 B2;generalize((((((w2.setCell ⟨Q,0,none⟩ (.int .i64 k)).setCell ⟨Q,1,none⟩ (.string t)).setCell ⟨Q,2,none⟩ (.string ⟨#[]⟩)).setCell ⟨Q,3,none⟩ (.string ⟨#[]⟩)).setCell ⟨Q,4,none⟩ (.bool false)).setCell ⟨Q,5,none⟩ (.int .i64 0)).setCell ⟨Q,6,none⟩ (.string ⟨#[]⟩)=w3 at x3 y3 B3 ⊢;refine(CR.out _).mono ?_;rintro e w4 ⟨rfl,b_⟩;have x4:=x3.below b_;have y4:=y3.below b_;have B4:=B3.trans (b_.mono (zT x3.lt));clear b_ x3 y3 B3
 cases r
 case false =>
  have r0:=x4.c0;have i0:=aB x4 0;have k0:=y4.c0;have r1:=x4.c1;have i1:=aB x4 1;have k1:=y4.c1;have r2:=x4.c2;have i2:=aB x4 2;have k2:=y4.c2;have r3:=x4.c3;have i3:=aB x4 3;have k3:=y4.c3;have r4:=x4.c4;have i4:=aB x4 4;have k4:=y4.c4;have r5:=x4.c5;have i5:=aB x4 5;have k5:=y4.c5;have r6:=x4.c6;have i6:=aB x4 6;have k6:=y4.c6
  go_wp2
  clear k0 r0 i0 k1 r1 i1 k2 r2 i2 k3 r3 i3 k4 r4 i4 k5 r5 i5 k6 r6 i6;have xz:=x4.store 0 ⟨#[]⟩ ⟨#[]⟩ ⟨#[]⟩ false 0 ⟨#[]⟩;have yz:=cD B4 (zL _) 0 ⟨#[]⟩ ⟨#[]⟩ ⟨#[]⟩ false 0 ⟨#[]⟩;unfold vU at xz yz;generalize((((((w4.setCell ⟨R,0,none⟩ (.int .i64 0)).setCell ⟨R,1,none⟩ (.string ⟨#[]⟩)).setCell ⟨R,2,none⟩ (.string ⟨#[]⟩)).setCell ⟨R,3,none⟩ (.string ⟨#[]⟩)).setCell ⟨R,4,none⟩ (.bool false)).setCell ⟨R,5,none⟩ (.int .i64 0)).setCell ⟨R,6,none⟩ (.string ⟨#[]⟩)=wz at xz yz ⊢;obtain⟨c0,c1,c2,c3,c4,c5,c6⟩:=xz.cs;exact bodyPost_ret (v := .tuple #[aP 0 ⟨#[]⟩ ⟨#[]⟩ ⟨#[]⟩ false 0 ⟨#[]⟩,.bool false]) (by simp[results,Tryz.results62,go_sem,aP,c0,c1,c2,c3,c4,c5,c6]) rfl ⟨rfl,by first | (rw[HR.out];exact yz) | exact yz⟩
 case true =>
  have r0:=x4.c0;have i0:=aB x4 0;have k0:=y4.c0;have r1:=x4.c1;have i1:=aB x4 1;have k1:=y4.c1;have r2:=x4.c2;have i2:=aB x4 2;have k2:=y4.c2;have r3:=x4.c3;have i3:=aB x4 3;have k3:=y4.c3;have r4:=x4.c4;have i4:=aB x4 4;have k4:=y4.c4;have r5:=x4.c5;have i5:=aB x4 5;have k5:=y4.c5;have r6:=x4.c6;have i6:=aB x4 6;have k6:=y4.c6
  go_wp2
  clear k0 r0 i0 k1 r1 i1 k2 r2 i2 k3 r3 i3 k4 r4 i4 k5 r5 i5 k6 r6 i6;have xz:=x4.store k t ⟨#[]⟩ ⟨#[]⟩ false 0 ⟨#[]⟩;have yz:=cD B4 (zL _) k t ⟨#[]⟩ ⟨#[]⟩ false 0 ⟨#[]⟩;unfold vU at xz yz;generalize((((((w4.setCell ⟨R,0,none⟩ (.int .i64 k)).setCell ⟨R,1,none⟩ (.string t)).setCell ⟨R,2,none⟩ (.string ⟨#[]⟩)).setCell ⟨R,3,none⟩ (.string ⟨#[]⟩)).setCell ⟨R,4,none⟩ (.bool false)).setCell ⟨R,5,none⟩ (.int .i64 0)).setCell ⟨R,6,none⟩ (.string ⟨#[]⟩)=wz at xz yz ⊢;obtain⟨c0,c1,c2,c3,c4,c5,c6⟩:=xz.cs;exact bodyPost_ret (v := .tuple #[aP k t ⟨#[]⟩ ⟨#[]⟩ false 0 ⟨#[]⟩,.bool true]) (by simp[results,Tryz.results62,go_sem,aP,c0,c1,c2,c3,c4,c5,c6]) rfl ⟨rfl,by first | (rw[HR.out];exact yz) | exact yz⟩
theorem xB (q0:ByteArray)(c0 c1:Int)(g:q0.toList.isEmpty=false)(h0:∀ W,(Instr.index 9 (.string q0) (.int .i64 0)).run Tryz.prog W=.ok (.int .u8 c0) W)(h1:∀ W,(Instr.index 9 (.string q0) (.int .i64 ((q0.size:Int) - 1))).run Tryz.prog W=.ok (.int .u8 c1) W)(z1:(1:Int)<=(q0.size:Int))(zs:(q0.size:Int)<=1000000000)(hq:(¬ (2:Int)<=(q0.size:Int))\/((2:Int)<=(q0.size:Int)/\(c0==39)=false)\/((2:Int)<=(q0.size:Int)/\(c0==39)=true/\(c1==39)=false))(k:Int)(t s h:ByteArray)(wd:Bool)(sp:Int)(pa:ByteArray)(CP:Hid (∀ W,Calls Tryz.prog 95 #[.string q0] W fun e w'=>e=.returned (.tuple #[aP k t s h wd sp pa,.bool true])/\Below W.heap.size W w'))(r:Bool)(CR:Hid (∀ W,Calls Tryz.prog 96 #[aP k t s h wd sp pa] W fun e w'=>e=.returned (.bool r)/\Below W.heap.size W w'))(w:World):Calls Tryz.prog 62 #[.string q0] w fun e w'=>e=.returned (.tuple #[if r then aP k t s h wd sp pa else aP 0 ⟨#[]⟩ ⟨#[]⟩ ⟨#[]⟩ false 0 ⟨#[]⟩,.bool r])/\Below w.heap.size w w':=by
 unfold aP at CP CR;rcases hq with g2 | ⟨g2,g3⟩ | ⟨g2,g3,g4⟩
 all_goals
  ·
   have x1:=(SX.made w 0 ⟨#[]⟩ ⟨#[]⟩ ⟨#[]⟩ false 0 ⟨#[]⟩).below ((zB _ _).alloc (zL _) (.cells #[.int .i64 0,.string ⟨#[]⟩,.string ⟨#[]⟩,.string ⟨#[]⟩,.bool false,.int .i64 0,.string ⟨#[]⟩] 75))
   have y1:SX ((w.alloc (.cells #[.int .i64 0,.string ⟨#[]⟩,.string ⟨#[]⟩,.string ⟨#[]⟩,.bool false,.int .i64 0,.string ⟨#[]⟩] 75)).alloc (.cells #[.int .i64 0,.string ⟨#[]⟩,.string ⟨#[]⟩,.string ⟨#[]⟩,.bool false,.int .i64 0,.string ⟨#[]⟩] 75)) (w.heap.size+1) 0 ⟨#[]⟩ ⟨#[]⟩ ⟨#[]⟩ false 0 ⟨#[]⟩:=by
    have e:=SX.made (w.alloc (.cells #[.int .i64 0,.string ⟨#[]⟩,.string ⟨#[]⟩,.string ⟨#[]⟩,.bool false,.int .i64 0,.string ⟨#[]⟩] 75)) 0 ⟨#[]⟩ ⟨#[]⟩ ⟨#[]⟩ false 0 ⟨#[]⟩;rw[aV]at e;exact e
   have B1:Below w.heap.size w ((w.alloc (.cells #[.int .i64 0,.string ⟨#[]⟩,.string ⟨#[]⟩,.string ⟨#[]⟩,.bool false,.int .i64 0,.string ⟨#[]⟩] 75)).alloc (.cells #[.int .i64 0,.string ⟨#[]⟩,.string ⟨#[]⟩,.string ⟨#[]⟩,.bool false,.int .i64 0,.string ⟨#[]⟩] 75)):=((zB _ _).alloc (zL _) _).alloc (by rw[aV];omega) _;have hRQ:w.heap.size<=w.heap.size+1:=Nat.le_succ _;have hQR:w.heap.size+1≠w.heap.size:=by omega
   have HX:=zH (And.intro x1 (And.intro y1 (And.intro B1 (And.intro hRQ hQR))));clear x1 y1 B1 hRQ hQR
   go_enter Tryz.func62,Tryz.ntmps62
   go_wp2_with fail
   obtain⟨x1,y1,B1,hRQ,hQR⟩:=HX.out;clear HX;generalize w.heap.size+1=Q at y1 hRQ hQR ⊢;generalize hR:w.heap.size=R at x1 B1 hRQ hQR ⊢;have HR:=zH hR;clear hR;generalize(w.alloc (.cells #[.int .i64 0,.string ⟨#[]⟩,.string ⟨#[]⟩,.string ⟨#[]⟩,.bool false,.int .i64 0,.string ⟨#[]⟩] 75)).alloc (.cells #[.int .i64 0,.string ⟨#[]⟩,.string ⟨#[]⟩,.string ⟨#[]⟩,.bool false,.int .i64 0,.string ⟨#[]⟩] 75)=w1 at x1 y1 B1 ⊢;refine(CP.out _).mono ?_;rintro e w2 ⟨rfl,b_⟩;have x2:=x1.below b_;have y2:=y1.below b_;have B2:=B1.trans (b_.mono (zT x1.lt));clear b_ x1 y1 B1;have m0:=y2.c0;have n0:=aB y2 0;have m1:=y2.c1;have n1:=aB y2 1;have m2:=y2.c2;have n2:=aB y2 2;have m3:=y2.c3;have n3:=aB y2 3;have m4:=y2.c4;have n4:=aB y2 4;have m5:=y2.c5;have n5:=aB y2 5;have m6:=y2.c6;have n6:=aB y2 6;have ys:=y2.store k t s h wd sp pa;have Bs:=cD B2 hRQ k t s h wd sp pa;unfold vU at ys Bs;have xs:SX (((((((w2.setCell ⟨Q,0,none⟩ (.int .i64 k)).setCell ⟨Q,1,none⟩ (.string t)).setCell ⟨Q,2,none⟩ (.string s)).setCell ⟨Q,3,none⟩ (.string h)).setCell ⟨Q,4,none⟩ (.bool wd)).setCell ⟨Q,5,none⟩ (.int .i64 sp)).setCell ⟨Q,6,none⟩ (.string pa)) R 0 ⟨#[]⟩ ⟨#[]⟩ ⟨#[]⟩ false 0 ⟨#[]⟩:=(((((((x2.other hQR 0 _).other hQR 1 _).other hQR 2 _).other hQR 3 _).other hQR 4 _).other hQR 5 _).other hQR 6 _);have X:=zH (And.intro xs (And.intro ys Bs));obtain⟨s0,s1,s2,s3,s4,s5,s6⟩:=ys.cs;clear xs ys Bs
   go_wp2_with fail
   obtain⟨x3,y3,B3⟩:=X.out;clear X m0 n0 s0 m1 n1 s1 m2 n2 s2 m3 n3 s3 m4 n4 s4 m5 n5 s5 m6 n6 s6 x2 y2 B2;generalize((((((w2.setCell ⟨Q,0,none⟩ (.int .i64 k)).setCell ⟨Q,1,none⟩ (.string t)).setCell ⟨Q,2,none⟩ (.string s)).setCell ⟨Q,3,none⟩ (.string h)).setCell ⟨Q,4,none⟩ (.bool wd)).setCell ⟨Q,5,none⟩ (.int .i64 sp)).setCell ⟨Q,6,none⟩ (.string pa)=w3 at x3 y3 B3 ⊢;refine(CR.out _).mono ?_;rintro e w4 ⟨rfl,b_⟩;have x4:=x3.below b_;have y4:=y3.below b_;have B4:=B3.trans (b_.mono (zT x3.lt));clear b_ x3 y3 B3
   cases r
   case false =>
    have r0:=x4.c0;have i0:=aB x4 0;have k0:=y4.c0;have r1:=x4.c1;have i1:=aB x4 1;have k1:=y4.c1;have r2:=x4.c2;have i2:=aB x4 2;have k2:=y4.c2;have r3:=x4.c3;have i3:=aB x4 3;have k3:=y4.c3;have r4:=x4.c4;have i4:=aB x4 4;have k4:=y4.c4;have r5:=x4.c5;have i5:=aB x4 5;have k5:=y4.c5;have r6:=x4.c6;have i6:=aB x4 6;have k6:=y4.c6
    go_wp2
    clear k0 r0 i0 k1 r1 i1 k2 r2 i2 k3 r3 i3 k4 r4 i4 k5 r5 i5 k6 r6 i6;have xz:=x4.store 0 ⟨#[]⟩ ⟨#[]⟩ ⟨#[]⟩ false 0 ⟨#[]⟩;have yz:=cD B4 (zL _) 0 ⟨#[]⟩ ⟨#[]⟩ ⟨#[]⟩ false 0 ⟨#[]⟩;unfold vU at xz yz;generalize((((((w4.setCell ⟨R,0,none⟩ (.int .i64 0)).setCell ⟨R,1,none⟩ (.string ⟨#[]⟩)).setCell ⟨R,2,none⟩ (.string ⟨#[]⟩)).setCell ⟨R,3,none⟩ (.string ⟨#[]⟩)).setCell ⟨R,4,none⟩ (.bool false)).setCell ⟨R,5,none⟩ (.int .i64 0)).setCell ⟨R,6,none⟩ (.string ⟨#[]⟩)=wz at xz yz ⊢;obtain⟨c0,c1,c2,c3,c4,c5,c6⟩:=xz.cs;exact bodyPost_ret (v := .tuple #[aP 0 ⟨#[]⟩ ⟨#[]⟩ ⟨#[]⟩ false 0 ⟨#[]⟩,.bool false]) (by simp[results,Tryz.results62,go_sem,aP,c0,c1,c2,c3,c4,c5,c6]) rfl ⟨rfl,by first | (rw[HR.out];exact yz) | exact yz⟩
   case true =>
    have r0:=x4.c0;have i0:=aB x4 0;have k0:=y4.c0;have r1:=x4.c1;have i1:=aB x4 1;have k1:=y4.c1;have r2:=x4.c2;have i2:=aB x4 2;have k2:=y4.c2;have r3:=x4.c3;have i3:=aB x4 3;have k3:=y4.c3;have r4:=x4.c4;have i4:=aB x4 4;have k4:=y4.c4;have r5:=x4.c5;have i5:=aB x4 5;have k5:=y4.c5;have r6:=x4.c6;have i6:=aB x4 6;have k6:=y4.c6
    go_wp2
    clear k0 r0 i0 k1 r1 i1 k2 r2 i2 k3 r3 i3 k4 r4 i4 k5 r5 i5 k6 r6 i6;have xz:=x4.store k t s h wd sp pa;have yz:=cD B4 (zL _) k t s h wd sp pa;unfold vU at xz yz;generalize((((((w4.setCell ⟨R,0,none⟩ (.int .i64 k)).setCell ⟨R,1,none⟩ (.string t)).setCell ⟨R,2,none⟩ (.string s)).setCell ⟨R,3,none⟩ (.string h)).setCell ⟨R,4,none⟩ (.bool wd)).setCell ⟨R,5,none⟩ (.int .i64 sp)).setCell ⟨R,6,none⟩ (.string pa)=wz at xz yz ⊢;obtain⟨c0,c1,c2,c3,c4,c5,c6⟩:=xz.cs;exact bodyPost_ret (v := .tuple #[aP k t s h wd sp pa,.bool true]) (by simp[results,Tryz.results62,go_sem,aP,c0,c1,c2,c3,c4,c5,c6]) rfl ⟨rfl,by first | (rw[HR.out];exact yz) | exact yz⟩
theorem xC (q0:ByteArray)(c0 c1:Int)(g:q0.toList.isEmpty=false)(h0:∀ W,(Instr.index 9 (.string q0) (.int .i64 0)).run Tryz.prog W=.ok (.int .u8 c0) W)(h1:∀ W,(Instr.index 9 (.string q0) (.int .i64 ((q0.size:Int) - 1))).run Tryz.prog W=.ok (.int .u8 c1) W)(z1:(1:Int)<=(q0.size:Int))(zs:(q0.size:Int)<=1000000000)(hq:(¬ (2:Int)<=(q0.size:Int))\/((2:Int)<=(q0.size:Int)/\(c0==39)=false)\/((2:Int)<=(q0.size:Int)/\(c0==39)=true/\(c1==39)=false))(k:Int)(t s h:ByteArray)(wd:Bool)(sp:Int)(pa:ByteArray)(CP:Hid (∀ W,Calls Tryz.prog 95 #[.string q0] W fun e w'=>e=.returned (.tuple #[aP k t s h wd sp pa,.bool false])/\Below W.heap.size W w'))(w:World):Calls Tryz.prog 62 #[.string q0] w fun e w'=>e=.returned (.tuple #[aP 0 ⟨#[]⟩ ⟨#[]⟩ ⟨#[]⟩ false 0 ⟨#[]⟩,.bool false])/\Below w.heap.size w w':=by
 unfold aP at CP;rcases hq with g2 | ⟨g2,g3⟩ | ⟨g2,g3,g4⟩
 all_goals
  ·
   have x1:=(SX.made w 0 ⟨#[]⟩ ⟨#[]⟩ ⟨#[]⟩ false 0 ⟨#[]⟩).below ((zB _ _).alloc (zL _) (.cells #[.int .i64 0,.string ⟨#[]⟩,.string ⟨#[]⟩,.string ⟨#[]⟩,.bool false,.int .i64 0,.string ⟨#[]⟩] 75))
   have y1:SX ((w.alloc (.cells #[.int .i64 0,.string ⟨#[]⟩,.string ⟨#[]⟩,.string ⟨#[]⟩,.bool false,.int .i64 0,.string ⟨#[]⟩] 75)).alloc (.cells #[.int .i64 0,.string ⟨#[]⟩,.string ⟨#[]⟩,.string ⟨#[]⟩,.bool false,.int .i64 0,.string ⟨#[]⟩] 75)) (w.heap.size+1) 0 ⟨#[]⟩ ⟨#[]⟩ ⟨#[]⟩ false 0 ⟨#[]⟩:=by
    have e:=SX.made (w.alloc (.cells #[.int .i64 0,.string ⟨#[]⟩,.string ⟨#[]⟩,.string ⟨#[]⟩,.bool false,.int .i64 0,.string ⟨#[]⟩] 75)) 0 ⟨#[]⟩ ⟨#[]⟩ ⟨#[]⟩ false 0 ⟨#[]⟩;rw[aV]at e;exact e
   have B1:Below w.heap.size w ((w.alloc (.cells #[.int .i64 0,.string ⟨#[]⟩,.string ⟨#[]⟩,.string ⟨#[]⟩,.bool false,.int .i64 0,.string ⟨#[]⟩] 75)).alloc (.cells #[.int .i64 0,.string ⟨#[]⟩,.string ⟨#[]⟩,.string ⟨#[]⟩,.bool false,.int .i64 0,.string ⟨#[]⟩] 75)):=((zB _ _).alloc (zL _) _).alloc (by rw[aV];omega) _;have hRQ:w.heap.size<=w.heap.size+1:=Nat.le_succ _;have hQR:w.heap.size+1≠w.heap.size:=by omega
   have HX:=zH (And.intro x1 (And.intro y1 (And.intro B1 (And.intro hRQ hQR))));clear x1 y1 B1 hRQ hQR
   go_enter Tryz.func62,Tryz.ntmps62
   go_wp2_with fail
   obtain⟨x1,y1,B1,hRQ,hQR⟩:=HX.out;clear HX;generalize w.heap.size+1=Q at y1 hRQ hQR ⊢;generalize hR:w.heap.size=R at x1 B1 hRQ hQR ⊢;have HR:=zH hR;clear hR;generalize(w.alloc (.cells #[.int .i64 0,.string ⟨#[]⟩,.string ⟨#[]⟩,.string ⟨#[]⟩,.bool false,.int .i64 0,.string ⟨#[]⟩] 75)).alloc (.cells #[.int .i64 0,.string ⟨#[]⟩,.string ⟨#[]⟩,.string ⟨#[]⟩,.bool false,.int .i64 0,.string ⟨#[]⟩] 75)=w1 at x1 y1 B1 ⊢;refine(CP.out _).mono ?_;rintro e w2 ⟨rfl,b_⟩;have x2:=x1.below b_;have y2:=y1.below b_;have B2:=B1.trans (b_.mono (zT x1.lt));clear b_ x1 y1 B1;have m0:=y2.c0;have n0:=aB y2 0;have m1:=y2.c1;have n1:=aB y2 1;have m2:=y2.c2;have n2:=aB y2 2;have m3:=y2.c3;have n3:=aB y2 3;have m4:=y2.c4;have n4:=aB y2 4;have m5:=y2.c5;have n5:=aB y2 5;have m6:=y2.c6;have n6:=aB y2 6;have ys:=y2.store k t s h wd sp pa;have Bs:=cD B2 hRQ k t s h wd sp pa;unfold vU at ys Bs;have xs:SX (((((((w2.setCell ⟨Q,0,none⟩ (.int .i64 k)).setCell ⟨Q,1,none⟩ (.string t)).setCell ⟨Q,2,none⟩ (.string s)).setCell ⟨Q,3,none⟩ (.string h)).setCell ⟨Q,4,none⟩ (.bool wd)).setCell ⟨Q,5,none⟩ (.int .i64 sp)).setCell ⟨Q,6,none⟩ (.string pa)) R 0 ⟨#[]⟩ ⟨#[]⟩ ⟨#[]⟩ false 0 ⟨#[]⟩:=(((((((x2.other hQR 0 _).other hQR 1 _).other hQR 2 _).other hQR 3 _).other hQR 4 _).other hQR 5 _).other hQR 6 _);have X:=zH (And.intro xs (And.intro ys Bs));obtain⟨s0,s1,s2,s3,s4,s5,s6⟩:=ys.cs;clear xs ys Bs;obtain⟨x3,y3,B3⟩:=X.out;have r0:=x3.c0;have i0:=aB x3 0;have r1:=x3.c1;have i1:=aB x3 1;have r2:=x3.c2;have i2:=aB x3 2;have r3:=x3.c3;have i3:=aB x3 3;have r4:=x3.c4;have i4:=aB x3 4;have r5:=x3.c5;have i5:=aB x3 5;have r6:=x3.c6;have i6:=aB x3 6
   go_wp2
   clear m0 n0 s0 r0 i0 m1 n1 s1 r1 i1 m2 n2 s2 r2 i2 m3 n3 s3 r3 i3 m4 n4 s4 r4 i4 m5 n5 s5 r5 i5 m6 n6 s6 r6 i6 X;have xz:=x3.store 0 ⟨#[]⟩ ⟨#[]⟩ ⟨#[]⟩ false 0 ⟨#[]⟩;have yz:=cD B3 (zL _) 0 ⟨#[]⟩ ⟨#[]⟩ ⟨#[]⟩ false 0 ⟨#[]⟩;unfold vU at xz yz;clear x3 y3 B3;generalize(((((((((((((w2.setCell ⟨Q,0,none⟩ (.int .i64 k)).setCell ⟨Q,1,none⟩ (.string t)).setCell ⟨Q,2,none⟩ (.string s)).setCell ⟨Q,3,none⟩ (.string h)).setCell ⟨Q,4,none⟩ (.bool wd)).setCell ⟨Q,5,none⟩ (.int .i64 sp)).setCell ⟨Q,6,none⟩ (.string pa)).setCell ⟨R,0,none⟩ (.int .i64 0)).setCell ⟨R,1,none⟩ (.string ⟨#[]⟩)).setCell ⟨R,2,none⟩ (.string ⟨#[]⟩)).setCell ⟨R,3,none⟩ (.string ⟨#[]⟩)).setCell ⟨R,4,none⟩ (.bool false)).setCell ⟨R,5,none⟩ (.int .i64 0)).setCell ⟨R,6,none⟩ (.string ⟨#[]⟩)=wz at xz yz ⊢;obtain⟨c0,c1,c2,c3,c4,c5,c6⟩:=xz.cs;exact bodyPost_ret (v := .tuple #[aP 0 ⟨#[]⟩ ⟨#[]⟩ ⟨#[]⟩ false 0 ⟨#[]⟩,.bool false]) (by simp[results,Tryz.results62,go_sem,aP,c0,c1,c2,c3,c4,c5,c6]) rfl ⟨rfl,by first | (rw[HR.out];exact yz) | exact yz⟩
theorem aD1 (L:ByteArray)(c:UInt8)(h:L.data.toList.head? = some c):∀ W,(Instr.index 9 (.string L) (.int .i64 0)).run Tryz.prog W=.ok (.int .u8 (c.toNat:Int)) W:=fun W=>by
 have h1:1<=L.size:=by
  rw[<- aE]
  cases hl:L.data.toList with
  | nil=>rw[hl]at h;cases h
  | cons a l=>simp
 have e:L.data[0]? = some c:=by
  rw[<- Array.getElem?_toList,<- h,List.head?_eq_getElem?]
 have e3:∀(n:Nat) (hn:n<L.size),n=0->L[n]=c:=fun n hn hq=>by
  subst hq;exact Option.some.inj ((Array.getElem?_eq_getElem hn).symm.trans e)
 rw[run_index_string W 9 L .i64 0 Tryz.underlying9,dif_pos ⟨by omega,by omega⟩,e3 _ _ (by omega)]
theorem aV5 (c:UInt8):((c.toNat:Int)==39)=decide (c=39):=by
 rw[Bool.eq_iff_iff,beq_iff_eq,decide_eq_true_eq];constructor
 · intro e;exact UInt8.toNat_inj.1 (by show c.toNat=39;omega)
 · rintro rfl;rfl
theorem filt (a:bI):(some a).filter aL=if aL a then some a else none:=rfl
def Parse9To (L:ByteArray):Prop:=∃(k:Int) (t s h:ByteArray) (b:Bool) (p:Int) (pa:ByteArray) (r:Bool),aJ k t s h b p pa=srcP (cP L.data.toList)/\(cP L.data.toList).isSome=r/\Hid (∀ W,Calls Tryz.prog 62 #[.string L] W fun e w'=>e=.returned (.tuple #[aP k t s h b p pa,.bool r])/\Below W.heap.size W w')
theorem bC8 (L:ByteArray)(hL:L.size<=10000):Parse9To L:=by
 cases g:L.toList.isEmpty
 case true =>
  have gx:=g;rw[aF]at gx;have e:cP L.data.toList=none:=by rw[List.isEmpty_iff.1 gx];rfl
  exact⟨0,⟨#[]⟩,⟨#[]⟩,⟨#[]⟩,false,0,⟨#[]⟩,false,by rw[e];rfl,by rw[e];rfl,zH fun W=>aO0 L g W⟩
 have gx:=g;rw[aF]at gx;have hne:L.data.toList≠[]:=fun e=>by rw[e]at gx;cases gx
 obtain⟨c0,hc0⟩:∃ c,L.data.toList.head? = some c:=by
  cases hl:L.data.toList with
  | nil=>exact absurd hl hne
  | cons a l=>exact⟨a,rfl⟩
 obtain⟨c1,hc1⟩:∃ c,L.data.toList.getLast? = some c:=by
  cases hl:L.data.toList with
  | nil=>exact absurd hl hne
  | cons a l=>exact⟨_,List.getLast?_cons⟩
 have z1:=oT hc1;have hi0:=aD1 L c0 hc0;have hi1:=jY L c1 hc1
 have hp:cP L.data.toList=(if 2<=L.data.toList.length/\L.data.toList.head? = some 39/\L.data.toList.getLast? = some 39 then some (gV L.data.toList) else iV L.data.toList).filter aL:=by
  unfold cP;rw[if_neg hne]
 rw[aE,hc0,hc1]at hp
 by_cases hq:2<=L.size/\(some c0:Option UInt8)=some 39/\(some c1:Option UInt8)=some 39
 · rw[if_pos hq]at hp
   obtain⟨h2,hq0,hq1⟩:=hq
   cases hq0
   cases hq1
   obtain⟨k,t,hM,ht,CQ⟩:=aM8 L hL hc1;rw[<- hM,filt]at hp;have CR:Hid (∀ W,Calls Tryz.prog 96 #[aP k t ⟨#[]⟩ ⟨#[]⟩ false 0 ⟨#[]⟩] W fun e w'=>e=.returned (.bool (aL (aJ k t ⟨#[]⟩ ⟨#[]⟩ false 0 ⟨#[]⟩)))/\Below W.heap.size W w'):=zH fun W=>rG k t ⟨#[]⟩ ⟨#[]⟩ false 0 ⟨#[]⟩ (by omega) (by decide) (by decide) W;have CP:=fun W=>tO L g (by omega) hi0 hi1 (by omega) (by omega) k t CQ _ CR W
   cases hr:aL (aJ k t ⟨#[]⟩ ⟨#[]⟩ false 0 ⟨#[]⟩)
   · rw[hr]at hp CP
     exact⟨0,⟨#[]⟩,⟨#[]⟩,⟨#[]⟩,false,0,⟨#[]⟩,false,by rw[hp];rfl,by rw[hp];rfl,zH CP⟩
   · rw[hr]at hp CP
     exact⟨k,t,⟨#[]⟩,⟨#[]⟩,false,0,⟨#[]⟩,true,by rw[hp];rfl,by rw[hp];rfl,zH CP⟩
 · rw[if_neg hq]at hp
   have hqq:(¬ (2:Int)<=(L.size:Int))\/((2:Int)<=(L.size:Int)/\(((c0.toNat:Int))==39)=false)\/((2:Int)<=(L.size:Int)/\((c0.toNat:Int)==39)=true/\((c1.toNat:Int)==39)=false):=by
    rw[aV5,aV5]
    by_cases h2:2<=L.size
    · by_cases e0:c0=39
      · by_cases e1:c1=39
        · exact absurd ⟨h2,by rw[e0],by rw[e1]⟩ hq
        · exact .inr (.inr ⟨by omega,decide_eq_true e0,decide_eq_false e1⟩)
      · exact .inr (.inl ⟨by omega,decide_eq_false e0⟩)
    · exact .inl (by omega)
   obtain⟨k,t,s,h,wd,sp,pa,ok,hM,lt,ls,lh,CP⟩:=bB9 L hL z1;rw[hM]at hp
   cases ok
   · exact⟨0,⟨#[]⟩,⟨#[]⟩,⟨#[]⟩,false,0,⟨#[]⟩,false,by rw[hp];rfl,by rw[hp];rfl,zH fun W=>xC L c0.toNat c1.toNat g hi0 hi1 (by omega) (by omega) hqq k t s h wd sp pa CP W⟩
   · rw[if_pos rfl,filt]at hp
     have CR:Hid (∀ W,Calls Tryz.prog 96 #[aP k t s h wd sp pa] W fun e w'=>e=.returned (.bool (aL (aJ k t s h wd sp pa)))/\Below W.heap.size W w'):=zH fun W=>rG k t s h wd sp pa (by omega) (by omega) (by omega) W;have CC:=fun W=>xB L c0.toNat c1.toNat g hi0 hi1 (by omega) (by omega) hqq k t s h wd sp pa CP _ CR W
     cases hr:aL (aJ k t s h wd sp pa)
     · rw[hr]at hp CC
       exact⟨0,⟨#[]⟩,⟨#[]⟩,⟨#[]⟩,false,0,⟨#[]⟩,false,by rw[hp];rfl,by rw[hp];rfl,zH CC⟩
     · rw[hr]at hp CC
       exact⟨k,t,s,h,wd,sp,pa,true,by rw[hp];rfl,by rw[hp];rfl,zH CC⟩
end Go.Proofs.YthnogdodlhkldaaGreatDoor
