/- What a word without quotes is, the document's way. -/
import Derived.Test.YthnogdodlhkldaaGreatDoorParC
import Derived.Test.YthnogdodlhkldaaGreatDoorMarkZ
set_option maxRecDepth 100000
set_option maxHeartbeats 8000000
namespace Go.Proofs.YthnogdodlhkldaaGreatDoor
open Go.RowKit
theorem oT {L:ByteArray}{c:UInt8}(h:L.data.toList.getLast? = some c):1<=L.size:=by
 rw[<- aE]
 cases hl:L.data.toList with
 | nil=>rw[hl]at h;cases h
 | cons a l=>simp
theorem jY (L:ByteArray)(c:UInt8)(h:L.data.toList.getLast? = some c):∀ W,(Instr.index 9 (.string L) (.int .i64 ((L.size:Int) - 1))).run Tryz.prog W=.ok (.int .u8 (c.toNat:Int)) W:=fun W=>by
 have h1:=oT h
 have e:L.data[L.size - 1]? = some c:=by
  rw[<- Array.getElem?_toList,<- h,List.getLast?_eq_getElem?,aE]
 have e3:∀(n:Nat) (hn:n<L.size),n=L.size - 1->L[n]=c:=fun n hn hq=>by
  subst hq;exact Option.some.inj ((Array.getElem?_eq_getElem hn).symm.trans e)
 rw[run_index_string W 9 L .i64 ((L.size:Int) - 1) Tryz.underlying9,dif_pos ⟨by omega,by omega⟩,e3 _ _ (by omega)]
theorem zA (L U:ByteArray)(h1:1<=L.size)(h:U.data.toList=L.data.toList.dropLast):∀ W,(Instr.slice 9 (.string L) none (some (.int .i64 ((L.size:Int) - 1))) none).run Tryz.prog W=.ok (.string U) W:=by
 have e:((L.size:Int) - 1)=((L.size - 1:Nat):Int):=by omega
 rw[e];exact iA L U (L.size - 1) (by omega) (by rw[h,List.dropLast_eq_take,aE])
theorem aH4 (s A R:ByteArray)(hs:s.size<=1000000000)(h:kN s.data.toList=some (A.data.toList,R.data.toList)):Hid (∀ W,Calls Tryz.prog 135 #[.string s,.string ⟨#[58,47,47]⟩] W fun e w'=>e=.returned (.tuple #[.string A,.string R,.bool true])/\Below W.heap.size W w') :=
 zH fun W=>(rF s hs W).mono fun e w' ⟨h1,A',R',b,h2,h3⟩=>by
  rcases h3 with ⟨rfl,h4⟩ | ⟨_,_,_,h4⟩
  · rw[h]at h4
    simp only[Option.some.injEq,Prod.mk.injEq]at h4;rw[h2,aM h4.1.symm,aM h4.2.symm];exact⟨rfl,h1⟩
  · rw[h]at h4;cases h4
theorem aH5 (s:ByteArray)(hs:s.size<=1000000000)(h:kN s.data.toList=none):Hid (∀ W,Calls Tryz.prog 135 #[.string s,.string ⟨#[58,47,47]⟩] W fun e w'=>e=.returned (.tuple #[.string s,.string ⟨#[]⟩,.bool false])/\Below W.heap.size W w') :=
 zH fun W=>(rF s hs W).mono fun e w' ⟨h1,A',R',b,h2,h3⟩=>by
  rcases h3 with ⟨_,h4⟩ | ⟨rfl,h5,h6,_⟩
  · rw[h]at h4;cases h4
  · rw[h2,aM h5,aM h6]
    exact⟨rfl,h1⟩
theorem wW (q0 U SC:ByteArray)(hidx:∀ W,(Instr.index 9 (.string q0) (.int .i64 ((q0.size:Int) - 1))).run Tryz.prog W=.ok (.int .u8 58) W)(z1:(1:Int)<=(q0.size:Int))(zs:(q0.size:Int)<=1000000000)(hsl:∀ W,(Instr.slice 9 (.string q0) none (some (.int .i64 ((q0.size:Int) - 1))) none).run Tryz.prog W=.ok (.string U) W)(CL:Hid (∀ W,Calls Tryz.prog 61 #[.string U] W fun e w'=>e=.returned (.string SC)/\Below W.heap.size W w'))(w:World):Calls Tryz.prog 95 #[.string q0] w fun e w'=>e=.returned (.tuple #[aP 11 ⟨#[]⟩ SC ⟨#[]⟩ false 0 ⟨#[]⟩,.bool true])/\Below w.heap.size w w':=by
 go_enter Tryz.func95,Tryz.ntmps95
 go_wp2_with fail
 have xn:=SX.made w 0 ⟨#[]⟩ ⟨#[]⟩ ⟨#[]⟩ false 0 ⟨#[]⟩;have Bw1:Below w.heap.size w (w.alloc (.cells #[.int .i64 0,.string ⟨#[]⟩,.string ⟨#[]⟩,.string ⟨#[]⟩,.bool false,.int .i64 0,.string ⟨#[]⟩] 75)):=((zB w.heap.size w).alloc (zL _) (.cells #[.int .i64 0,.string ⟨#[]⟩,.string ⟨#[]⟩,.string ⟨#[]⟩,.bool false,.int .i64 0,.string ⟨#[]⟩] 75));generalize hR:w.heap.size=R at xn Bw1 ⊢;have HR:=zH hR;clear hR;generalize w.alloc (.cells #[.int .i64 0,.string ⟨#[]⟩,.string ⟨#[]⟩,.string ⟨#[]⟩,.bool false,.int .i64 0,.string ⟨#[]⟩] 75)=w1 at xn Bw1 ⊢;have xR_w1:=xn;clear xn;refine(CL.out _ ).mono ?_;rintro e w2 ⟨rfl,b_⟩;have Bw2:=Bw1.trans (b_.mono (zT xR_w1.lt));have xR_w2:=xR_w1.below b_;clear b_ Bw1 xR_w1;have r0:=xR_w2.c0;have i0:=aB xR_w2 0;have r1:=xR_w2.c1;have i1:=aB xR_w2 1;have r2:=xR_w2.c2;have i2:=aB xR_w2 2;have r3:=xR_w2.c3;have i3:=aB xR_w2 3;have r4:=xR_w2.c4;have i4:=aB xR_w2 4;have r5:=xR_w2.c5;have i5:=aB xR_w2 5;have r6:=xR_w2.c6;have i6:=aB xR_w2 6;have xz:=xR_w2.store 11 ⟨#[]⟩ SC ⟨#[]⟩ false 0 ⟨#[]⟩;have yz:=cD Bw2 (zL _) 11 ⟨#[]⟩ SC ⟨#[]⟩ false 0 ⟨#[]⟩
 go_wp2
 clear r0 i0 r1 i1 r2 i2 r3 i3 r4 i4 r5 i5 r6 i6;unfold vU at xz yz;generalize((((((w2.setCell ⟨R,0,none⟩ (.int .i64 11)).setCell ⟨R,1,none⟩ (.string ⟨#[]⟩)).setCell ⟨R,2,none⟩ (.string SC)).setCell ⟨R,3,none⟩ (.string ⟨#[]⟩)).setCell ⟨R,4,none⟩ (.bool false)).setCell ⟨R,5,none⟩ (.int .i64 0)).setCell ⟨R,6,none⟩ (.string ⟨#[]⟩)=wz at xz yz ⊢;obtain⟨c0,c1,c2,c3,c4,c5,c6⟩:=xz.cs;exact bodyPost_ret (v := .tuple #[aP 11 ⟨#[]⟩ SC ⟨#[]⟩ false 0 ⟨#[]⟩,.bool true]) (by simp[results,Tryz.results95,go_sem,aP,c0,c1,c2,c3,c4,c5,c6]) rfl ⟨rfl,by rw[HR.out];exact yz⟩
theorem aN2 (q0 R9:ByteArray)(c:Int)(hc:(c==58)=false)(hidx:∀ W,(Instr.index 9 (.string q0) (.int .i64 ((q0.size:Int) - 1))).run Tryz.prog W=.ok (.int .u8 c) W)(z1:(1:Int)<=(q0.size:Int))(zs:(q0.size:Int)<=1000000000)(CS:Hid (∀ W,Calls Tryz.prog 135 #[.string q0,.string ⟨#[58,47,47]⟩] W fun e w'=>e=.returned (.tuple #[.string ⟨#[]⟩,.string R9,.bool true])/\Below W.heap.size W w'))(CA:Hid (∀ W,Calls Tryz.prog 61 #[.string ⟨#[]⟩] W fun e w'=>e=.returned (.string ⟨#[]⟩)/\Below W.heap.size W w'))(w:World):Calls Tryz.prog 95 #[.string q0] w fun e w'=>e=.returned (.tuple #[aP 12 ⟨#[]⟩ ⟨#[]⟩ ⟨#[]⟩ false 0 ⟨#[]⟩,.bool false])/\Below w.heap.size w w':=by
 have x1:=(SX.made w 0 ⟨#[]⟩ ⟨#[]⟩ ⟨#[]⟩ false 0 ⟨#[]⟩).below ((zB _ _).alloc (zL _) (.cells #[.int .i64 12,.string ⟨#[]⟩,.string ⟨#[]⟩,.string ⟨#[]⟩,.bool false,.int .i64 0,.string ⟨#[]⟩] 75))
 have y1:SX ((w.alloc (.cells #[.int .i64 0,.string ⟨#[]⟩,.string ⟨#[]⟩,.string ⟨#[]⟩,.bool false,.int .i64 0,.string ⟨#[]⟩] 75)).alloc (.cells #[.int .i64 12,.string ⟨#[]⟩,.string ⟨#[]⟩,.string ⟨#[]⟩,.bool false,.int .i64 0,.string ⟨#[]⟩] 75)) (w.heap.size+1) 12 ⟨#[]⟩ ⟨#[]⟩ ⟨#[]⟩ false 0 ⟨#[]⟩:=by
  have e:=SX.made (w.alloc (.cells #[.int .i64 0,.string ⟨#[]⟩,.string ⟨#[]⟩,.string ⟨#[]⟩,.bool false,.int .i64 0,.string ⟨#[]⟩] 75)) 12 ⟨#[]⟩ ⟨#[]⟩ ⟨#[]⟩ false 0 ⟨#[]⟩;rw[aV]at e;exact e
 have B1:Below w.heap.size w ((w.alloc (.cells #[.int .i64 0,.string ⟨#[]⟩,.string ⟨#[]⟩,.string ⟨#[]⟩,.bool false,.int .i64 0,.string ⟨#[]⟩] 75)).alloc (.cells #[.int .i64 12,.string ⟨#[]⟩,.string ⟨#[]⟩,.string ⟨#[]⟩,.bool false,.int .i64 0,.string ⟨#[]⟩] 75)):=((zB _ _).alloc (zL _) _).alloc (by rw[aV];omega) _;have hRQ:w.heap.size<=w.heap.size+1:=Nat.le_succ _;have hQR:w.heap.size+1≠w.heap.size:=by omega
 have HX:=zH (And.intro x1 (And.intro y1 (And.intro B1 (And.intro hRQ hQR))));clear x1 y1 B1 hRQ hQR
 go_enter Tryz.func95,Tryz.ntmps95
 go_wp2_with fail
 obtain⟨x1,y1,B1,hRQ,hQR⟩:=HX.out;clear HX;generalize w.heap.size+1=Q at y1 hRQ hQR ⊢;generalize hR:w.heap.size=R at x1 B1 hRQ hQR ⊢;have HR:=zH hR;clear hR;generalize(w.alloc (.cells #[.int .i64 0,.string ⟨#[]⟩,.string ⟨#[]⟩,.string ⟨#[]⟩,.bool false,.int .i64 0,.string ⟨#[]⟩] 75)).alloc (.cells #[.int .i64 12,.string ⟨#[]⟩,.string ⟨#[]⟩,.string ⟨#[]⟩,.bool false,.int .i64 0,.string ⟨#[]⟩] 75)=w1 at x1 y1 B1 ⊢;refine(CS.out _).mono ?_;rintro e w2 ⟨rfl,b_⟩;have x2:=x1.below b_;have y2:=y1.below b_;have B2:=B1.trans (b_.mono (zT x1.lt));clear b_ x1 y1 B1
 go_wp2_with fail
 refine(CA.out _).mono ?_;rintro e w5 ⟨rfl,b_⟩;have x5:=x2.below b_;have y5:=y2.below b_;have B5:=B2.trans (b_.mono (zT x2.lt));clear b_ x2 y2 B2;have cj:=y5.c2;have fj:=aB y5 2;have x3:=x5.other hQR 2 (.string ⟨#[]⟩);have y3:=y5.set2 ⟨#[]⟩;have B3:=B5.setCell (p:=⟨Q,2,none⟩) hRQ (.string ⟨#[]⟩);obtain⟨k0,k1,k2,k3,k4,k5,k6⟩:=y3.cs;have r0:=x3.c0;have i0:=aB x3 0;have r1:=x3.c1;have i1:=aB x3 1;have r2:=x3.c2;have i2:=aB x3 2;have r3:=x3.c3;have i3:=aB x3 3;have r4:=x3.c4;have i4:=aB x3 4;have r5:=x3.c5;have i5:=aB x3 5;have r6:=x3.c6;have i6:=aB x3 6;have xz:=x3.store 12 ⟨#[]⟩ ⟨#[]⟩ ⟨#[]⟩ false 0 ⟨#[]⟩;have yz:=cD B3 (zL _) 12 ⟨#[]⟩ ⟨#[]⟩ ⟨#[]⟩ false 0 ⟨#[]⟩
 go_wp2
 clear k0 r0 i0 k1 r1 i1 k2 r2 i2 k3 r3 i3 k4 r4 i4 k5 r5 i5 k6 r6 i6 cj fj;unfold vU at xz yz;generalize(((((((w5.setCell ⟨Q,2,none⟩ (.string ⟨#[]⟩)).setCell ⟨R,0,none⟩ (.int .i64 12)).setCell ⟨R,1,none⟩ (.string ⟨#[]⟩)).setCell ⟨R,2,none⟩ (.string ⟨#[]⟩)).setCell ⟨R,3,none⟩ (.string ⟨#[]⟩)).setCell ⟨R,4,none⟩ (.bool false)).setCell ⟨R,5,none⟩ (.int .i64 0)).setCell ⟨R,6,none⟩ (.string ⟨#[]⟩)=wz at xz yz ⊢;obtain⟨c0,c1,c2,c3,c4,c5,c6⟩:=xz.cs;exact bodyPost_ret (v := .tuple #[aP 12 ⟨#[]⟩ ⟨#[]⟩ ⟨#[]⟩ false 0 ⟨#[]⟩,.bool false]) (by simp[results,Tryz.results95,go_sem,aP,c0,c1,c2,c3,c4,c5,c6]) rfl ⟨rfl,by rw[HR.out];exact yz⟩
theorem rT (q0 A R9 SF REST F PA NM NU NU1 HO:ByteArray)(b bn:Bool)(c PF:Int)(hc:(c==58)=false)(hidx:∀ W,(Instr.index 9 (.string q0) (.int .i64 ((q0.size:Int) - 1))).run Tryz.prog W=.ok (.int .u8 c) W)(z1:(1:Int)<=(q0.size:Int))(zs:(q0.size:Int)<=1000000000)(CS:Hid (∀ W,Calls Tryz.prog 135 #[.string q0,.string ⟨#[58,47,47]⟩] W fun e w'=>e=.returned (.tuple #[.string A,.string R9,.bool b])/\Below W.heap.size W w'))(HA:b=true->A.toList.isEmpty=false)(CA:b=true->Hid (∀ W,Calls Tryz.prog 61 #[.string A] W fun e w'=>e=.returned (.string SF)/\Below W.heap.size W w'))(Hf:b=false->SF=⟨#[]⟩)(HRE:(b=false->q0=REST)/\(b=true->R9=REST))(CC1:Hid (∀ W,Calls Tryz.prog 136 #[.string REST,.string ⟨#[47]⟩] W fun e w'=>e=.returned (.tuple #[.string F,.string PA])/\Below W.heap.size W w'))(CC2:Hid (∀ W,Calls Tryz.prog 136 #[.string F,.string ⟨#[58]⟩] W fun e w'=>e=.returned (.tuple #[.string NM,.string NU])/\Below W.heap.size W w'))(gn:NU.toList.isEmpty=bn)(hn0:bn=true->PF=0)(hs2:bn=false->∀ W,(Instr.slice 9 (.string NU) (some (.int .i64 1)) none none).run Tryz.prog W=.ok (.string NU1) W)(CP:bn=false->Hid (∀ W,Calls Tryz.prog 137 #[.string NU1] W fun e w'=>e=.returned (.int .i64 PF)/\w'=W))(CL:Hid (∀ W,Calls Tryz.prog 61 #[.string NM] W fun e w'=>e=.returned (.string HO)/\Below W.heap.size W w'))(bs WD:Bool)(HF:ByteArray)(gs:(NM.toList==[42])=bs)(hst:bs=true->WD=true/\HF=⟨#[]⟩)(hns:bs=false->WD=false/\HF=HO)(CB:Hid (∀ W,Calls Tryz.prog 132 #[.string NM,.string ⟨#[42,46]⟩] W fun e w'=>e=.returned (.bool false)/\Below W.heap.size W w'))(w:World):Calls Tryz.prog 95 #[.string q0] w fun e w'=>e=.returned (.tuple #[aP 12 ⟨#[]⟩ SF HF WD PF PA,.bool true])/\Below w.heap.size w w':=by
 have x1:=(SX.made w 0 ⟨#[]⟩ ⟨#[]⟩ ⟨#[]⟩ false 0 ⟨#[]⟩).below ((zB _ _).alloc (zL _) (.cells #[.int .i64 12,.string ⟨#[]⟩,.string ⟨#[]⟩,.string ⟨#[]⟩,.bool false,.int .i64 0,.string ⟨#[]⟩] 75))
 have y1:SX ((w.alloc (.cells #[.int .i64 0,.string ⟨#[]⟩,.string ⟨#[]⟩,.string ⟨#[]⟩,.bool false,.int .i64 0,.string ⟨#[]⟩] 75)).alloc (.cells #[.int .i64 12,.string ⟨#[]⟩,.string ⟨#[]⟩,.string ⟨#[]⟩,.bool false,.int .i64 0,.string ⟨#[]⟩] 75)) (w.heap.size+1) 12 ⟨#[]⟩ ⟨#[]⟩ ⟨#[]⟩ false 0 ⟨#[]⟩:=by
  have e:=SX.made (w.alloc (.cells #[.int .i64 0,.string ⟨#[]⟩,.string ⟨#[]⟩,.string ⟨#[]⟩,.bool false,.int .i64 0,.string ⟨#[]⟩] 75)) 12 ⟨#[]⟩ ⟨#[]⟩ ⟨#[]⟩ false 0 ⟨#[]⟩;rw[aV]at e;exact e
 have B1:Below w.heap.size w ((w.alloc (.cells #[.int .i64 0,.string ⟨#[]⟩,.string ⟨#[]⟩,.string ⟨#[]⟩,.bool false,.int .i64 0,.string ⟨#[]⟩] 75)).alloc (.cells #[.int .i64 12,.string ⟨#[]⟩,.string ⟨#[]⟩,.string ⟨#[]⟩,.bool false,.int .i64 0,.string ⟨#[]⟩] 75)):=((zB _ _).alloc (zL _) _).alloc (by rw[aV];omega) _;have hRQ:w.heap.size<=w.heap.size+1:=Nat.le_succ _;have hQR:w.heap.size+1≠w.heap.size:=by omega
 have HX:=zH (And.intro x1 (And.intro y1 (And.intro B1 (And.intro hRQ hQR))));clear x1 y1 B1 hRQ hQR
 go_enter Tryz.func95,Tryz.ntmps95
 go_wp2_with fail
 obtain⟨x1,y1,B1,hRQ,hQR⟩:=HX.out;clear HX;generalize w.heap.size+1=Q at y1 hRQ hQR ⊢;generalize hR:w.heap.size=R at x1 B1 hRQ hQR ⊢;have HR:=zH hR;clear hR;generalize(w.alloc (.cells #[.int .i64 0,.string ⟨#[]⟩,.string ⟨#[]⟩,.string ⟨#[]⟩,.bool false,.int .i64 0,.string ⟨#[]⟩] 75)).alloc (.cells #[.int .i64 12,.string ⟨#[]⟩,.string ⟨#[]⟩,.string ⟨#[]⟩,.bool false,.int .i64 0,.string ⟨#[]⟩] 75)=w1 at x1 y1 B1 ⊢;refine(CS.out _).mono ?_;rintro e w2 ⟨rfl,b_⟩;have x2:=x1.below b_;have y2:=y1.below b_;have B2:=B1.trans (b_.mono (zT x1.lt));clear b_ x1 y1 B1
 cases b
 case' false =>
  have y3:SX w2 Q 12 ⟨#[]⟩ SF ⟨#[]⟩ false 0 ⟨#[]⟩:=by rw[Hf (by trivial)];exact y2
  obtain rfl:q0=REST:=HRE.1 (by trivial)
  go_wp2_with fail
  have x3:=x2;have B3:=B2;clear x2 y2 B2;generalize w2=w3 at x3 y3 B3 ⊢
 case' true =>
  obtain rfl:R9=REST:=HRE.2 (by trivial);have gA:=HA (by trivial)
  go_wp2_with fail
  refine((CA (by trivial)).out _).mono ?_;rintro e w5 ⟨rfl,b_⟩;have x5:=x2.below b_;have y5:=y2.below b_;have B5:=B2.trans (b_.mono (zT x2.lt));clear b_ x2 y2 B2;have cj:=y5.c2;have fj:=aB y5 2;have X:AsideM (SX (w5.setCell ⟨Q,2,none⟩ (.string SF)) R 0 ⟨#[]⟩ ⟨#[]⟩ ⟨#[]⟩ false 0 ⟨#[]⟩/\SX (w5.setCell ⟨Q,2,none⟩ (.string SF)) Q 12 ⟨#[]⟩ SF ⟨#[]⟩ false 0 ⟨#[]⟩/\Below R w (w5.setCell ⟨Q,2,none⟩ (.string SF))):=⟨x5.other hQR 2 _,y5.set2 _,B5.setCell (p:=⟨Q,2,none⟩) hRQ _⟩
  go_wp2_with fail
  generalize w5.setCell ⟨Q,2,none⟩ (.string SF)=w3 at X ⊢;obtain⟨x3,y3,B3⟩:=X.out;clear X x5 y5 B5 cj fj
 all_goals
  clear Hf HRE CA HA hidx z1 zs hc;refine(CC1.out _).mono ?_;rintro e w4 ⟨rfl,b_⟩;have x4:=x3.below b_;have y4:=y3.below b_;have B4:=B3.trans (b_.mono (zT x3.lt));clear b_ x3 y3 B3;have cj:=y4.c6;have fj:=aB y4 6;have X:AsideM (SX (w4.setCell ⟨Q,6,none⟩ (.string PA)) R 0 ⟨#[]⟩ ⟨#[]⟩ ⟨#[]⟩ false 0 ⟨#[]⟩/\SX (w4.setCell ⟨Q,6,none⟩ (.string PA)) Q 12 ⟨#[]⟩ SF ⟨#[]⟩ false 0 PA/\Below R w (w4.setCell ⟨Q,6,none⟩ (.string PA))):=⟨x4.other hQR 6 _,y4.set6 _,B4.setCell (p:=⟨Q,6,none⟩) hRQ _⟩
  go_wp2_with fail
  generalize w4.setCell ⟨Q,6,none⟩ (.string PA)=w6 at X ⊢;obtain⟨x6,y6,B6⟩:=X.out;clear X x4 y4 B4 cj fj;refine(CC2.out _).mono ?_;rintro e w7 ⟨rfl,b_⟩;have x7:=x6.below b_;have y7:=y6.below b_;have B7:=B6.trans (b_.mono (zT x6.lt));clear b_ x6 y6 B6
  cases bn
  case' false =>
   go_wp2_with fail
   refine((CP (by trivial)).out _).mono ?_;rintro e w7 ⟨rfl,rfl⟩;have cj:=y7.c5;have fj:=aB y7 5;have X:AsideM (SX (w7.setCell ⟨Q,5,none⟩ (.int .i64 PF)) R 0 ⟨#[]⟩ ⟨#[]⟩ ⟨#[]⟩ false 0 ⟨#[]⟩/\SX (w7.setCell ⟨Q,5,none⟩ (.int .i64 PF)) Q 12 ⟨#[]⟩ SF ⟨#[]⟩ false PF PA/\Below R w (w7.setCell ⟨Q,5,none⟩ (.int .i64 PF))):=⟨x7.other hQR 5 _,y7.set5 _,B7.setCell (p:=⟨Q,5,none⟩) hRQ _⟩
   go_wp2_with fail
   generalize w7.setCell ⟨Q,5,none⟩ (.int .i64 PF)=w8 at X ⊢;obtain⟨x8,y8,B8⟩:=X.out;clear X x7 y7 B7 cj fj
  case' true =>
   have y8:SX w7 Q 12 ⟨#[]⟩ SF ⟨#[]⟩ false PF PA:=by rw[hn0 (by trivial)];exact y7
   go_wp2_with fail
   have x8:=x7;have B8:=B7;clear x7 y7 B7;generalize w7=w8 at x8 y8 B8 ⊢
  all_goals
   clear hn0 hs2 CP gn
   ·
    refine(CL.out _).mono ?_;rintro e w9 ⟨rfl,b_⟩;have x9:=x8.below b_;have y9:=y8.below b_;have B9:=B8.trans (b_.mono (zT x8.lt));clear b_ x8 y8 B8;have cj:=y9.c3;have fj:=aB y9 3;have ck:=y9.c4;have fk:=aB y9 4
    cases bs
    case' false =>
     have X:AsideM (SX (w9.setCell ⟨Q,3,none⟩ (.string HO)) R 0 ⟨#[]⟩ ⟨#[]⟩ ⟨#[]⟩ false 0 ⟨#[]⟩/\SX (w9.setCell ⟨Q,3,none⟩ (.string HO)) Q 12 ⟨#[]⟩ SF HF WD PF PA/\Below R w (w9.setCell ⟨Q,3,none⟩ (.string HO))):=⟨x9.other hQR 3 _,by rw[(hns (by trivial)).1,(hns (by trivial)).2];exact y9.set3 _,B9.setCell (p:=⟨Q,3,none⟩) hRQ _⟩
     go_wp2_with fail
     generalize w9.setCell ⟨Q,3,none⟩ (.string HO)=w10 at X ⊢
    case' true =>
     have X:AsideM (SX (((w9.setCell ⟨Q,3,none⟩ (.string HO)).setCell ⟨Q,4,none⟩ (.bool true)).setCell ⟨Q,3,none⟩ (.string ⟨#[]⟩)) R 0 ⟨#[]⟩ ⟨#[]⟩ ⟨#[]⟩ false 0 ⟨#[]⟩/\SX (((w9.setCell ⟨Q,3,none⟩ (.string HO)).setCell ⟨Q,4,none⟩ (.bool true)).setCell ⟨Q,3,none⟩ (.string ⟨#[]⟩)) Q 12 ⟨#[]⟩ SF HF WD PF PA/\Below R w (((w9.setCell ⟨Q,3,none⟩ (.string HO)).setCell ⟨Q,4,none⟩ (.bool true)).setCell ⟨Q,3,none⟩ (.string ⟨#[]⟩))):=⟨((x9.other hQR 3 _).other hQR 4 _).other hQR 3 _,by rw[(hst (by trivial)).1,(hst (by trivial)).2];exact((y9.set3 _).set4 _).set3 _,((B9.setCell (p:=⟨Q,3,none⟩) hRQ _).setCell (p:=⟨Q,4,none⟩) hRQ _).setCell (p:=⟨Q,3,none⟩) hRQ _⟩
     go_wp2_with fail
     generalize((w9.setCell ⟨Q,3,none⟩ (.string HO)).setCell ⟨Q,4,none⟩ (.bool true)).setCell ⟨Q,3,none⟩ (.string ⟨#[]⟩)=w10 at X ⊢
    all_goals
     obtain⟨x10,y10,B10⟩:=X.out;clear X x9 y9 B9 cj fj ck fk hst hns gs;refine(CB.out _).mono ?_;rintro e w11 ⟨rfl,b_⟩;have x11:=x10.below b_;have y11:=y10.below b_;have B11:=B10.trans (b_.mono (zT x10.lt));clear b_ x10 y10 B10;have k0:=y11.c0;have r0:=x11.c0;have i0:=aB x11 0;have k1:=y11.c1;have r1:=x11.c1;have i1:=aB x11 1;have k2:=y11.c2;have r2:=x11.c2;have i2:=aB x11 2;have k3:=y11.c3;have r3:=x11.c3;have i3:=aB x11 3;have k4:=y11.c4;have r4:=x11.c4;have i4:=aB x11 4;have k5:=y11.c5;have r5:=x11.c5;have i5:=aB x11 5;have k6:=y11.c6;have r6:=x11.c6;have i6:=aB x11 6
     go_wp2
     clear k0 r0 i0 k1 r1 i1 k2 r2 i2 k3 r3 i3 k4 r4 i4 k5 r5 i5 k6 r6 i6;have xz:=x11.store 12 ⟨#[]⟩ SF HF WD PF PA;have yz:=cD B11 (zL _) 12 ⟨#[]⟩ SF HF WD PF PA;unfold vU at xz yz;generalize((((((w11.setCell ⟨R,0,none⟩ (.int .i64 12)).setCell ⟨R,1,none⟩ (.string ⟨#[]⟩)).setCell ⟨R,2,none⟩ (.string SF)).setCell ⟨R,3,none⟩ (.string HF)).setCell ⟨R,4,none⟩ (.bool WD)).setCell ⟨R,5,none⟩ (.int .i64 PF)).setCell ⟨R,6,none⟩ (.string PA)=wz at xz yz ⊢;obtain⟨c0,c1,c2,c3,c4,c5,c6⟩:=xz.cs;exact bodyPost_ret (v := .tuple #[aP 12 ⟨#[]⟩ SF HF WD PF PA,.bool true]) (by simp[results,Tryz.results95,go_sem,aP,c0,c1,c2,c3,c4,c5,c6]) rfl ⟨rfl,by rw[HR.out];exact yz⟩
theorem aN1 (q0 A R9 SF REST F PA NM NU NU1 HO:ByteArray)(b bn:Bool)(c PF:Int)(hc:(c==58)=false)(hidx:∀ W,(Instr.index 9 (.string q0) (.int .i64 ((q0.size:Int) - 1))).run Tryz.prog W=.ok (.int .u8 c) W)(z1:(1:Int)<=(q0.size:Int))(zs:(q0.size:Int)<=1000000000)(CS:Hid (∀ W,Calls Tryz.prog 135 #[.string q0,.string ⟨#[58,47,47]⟩] W fun e w'=>e=.returned (.tuple #[.string A,.string R9,.bool b])/\Below W.heap.size W w'))(HA:b=true->A.toList.isEmpty=false)(CA:b=true->Hid (∀ W,Calls Tryz.prog 61 #[.string A] W fun e w'=>e=.returned (.string SF)/\Below W.heap.size W w'))(Hf:b=false->SF=⟨#[]⟩)(HRE:(b=false->q0=REST)/\(b=true->R9=REST))(CC1:Hid (∀ W,Calls Tryz.prog 136 #[.string REST,.string ⟨#[47]⟩] W fun e w'=>e=.returned (.tuple #[.string F,.string PA])/\Below W.heap.size W w'))(CC2:Hid (∀ W,Calls Tryz.prog 136 #[.string F,.string ⟨#[58]⟩] W fun e w'=>e=.returned (.tuple #[.string NM,.string NU])/\Below W.heap.size W w'))(gn:NU.toList.isEmpty=bn)(hn0:bn=true->PF=0)(hs2:bn=false->∀ W,(Instr.slice 9 (.string NU) (some (.int .i64 1)) none none).run Tryz.prog W=.ok (.string NU1) W)(CP:bn=false->Hid (∀ W,Calls Tryz.prog 137 #[.string NU1] W fun e w'=>e=.returned (.int .i64 PF)/\w'=W))(CL:Hid (∀ W,Calls Tryz.prog 61 #[.string NM] W fun e w'=>e=.returned (.string HO)/\Below W.heap.size W w'))(gs:(NM.toList==[42])=false)(CB:Hid (∀ W,Calls Tryz.prog 132 #[.string NM,.string ⟨#[42,46]⟩] W fun e w'=>e=.returned (.bool true)/\Below W.heap.size W w'))(N2 HW:ByteArray)(hs3:∀ W,(Instr.slice 9 (.string NM) (some (.int .i64 2)) none none).run Tryz.prog W=.ok (.string N2) W)(CW:Hid (∀ W,Calls Tryz.prog 61 #[.string N2] W fun e w'=>e=.returned (.string HW)/\Below W.heap.size W w'))(b2:Bool)(g2:decide ((2:Int)<(NM.size:Int))=b2)(w:World):Calls Tryz.prog 95 #[.string q0] w fun e w'=>e=.returned (.tuple #[aP 12 ⟨#[]⟩ SF HW true PF PA,.bool b2])/\Below w.heap.size w w':=by
 have x1:=(SX.made w 0 ⟨#[]⟩ ⟨#[]⟩ ⟨#[]⟩ false 0 ⟨#[]⟩).below ((zB _ _).alloc (zL _) (.cells #[.int .i64 12,.string ⟨#[]⟩,.string ⟨#[]⟩,.string ⟨#[]⟩,.bool false,.int .i64 0,.string ⟨#[]⟩] 75))
 have y1:SX ((w.alloc (.cells #[.int .i64 0,.string ⟨#[]⟩,.string ⟨#[]⟩,.string ⟨#[]⟩,.bool false,.int .i64 0,.string ⟨#[]⟩] 75)).alloc (.cells #[.int .i64 12,.string ⟨#[]⟩,.string ⟨#[]⟩,.string ⟨#[]⟩,.bool false,.int .i64 0,.string ⟨#[]⟩] 75)) (w.heap.size+1) 12 ⟨#[]⟩ ⟨#[]⟩ ⟨#[]⟩ false 0 ⟨#[]⟩:=by
  have e:=SX.made (w.alloc (.cells #[.int .i64 0,.string ⟨#[]⟩,.string ⟨#[]⟩,.string ⟨#[]⟩,.bool false,.int .i64 0,.string ⟨#[]⟩] 75)) 12 ⟨#[]⟩ ⟨#[]⟩ ⟨#[]⟩ false 0 ⟨#[]⟩;rw[aV]at e;exact e
 have B1:Below w.heap.size w ((w.alloc (.cells #[.int .i64 0,.string ⟨#[]⟩,.string ⟨#[]⟩,.string ⟨#[]⟩,.bool false,.int .i64 0,.string ⟨#[]⟩] 75)).alloc (.cells #[.int .i64 12,.string ⟨#[]⟩,.string ⟨#[]⟩,.string ⟨#[]⟩,.bool false,.int .i64 0,.string ⟨#[]⟩] 75)):=((zB _ _).alloc (zL _) _).alloc (by rw[aV];omega) _;have hRQ:w.heap.size<=w.heap.size+1:=Nat.le_succ _;have hQR:w.heap.size+1≠w.heap.size:=by omega
 have HX:=zH (And.intro x1 (And.intro y1 (And.intro B1 (And.intro hRQ hQR))));clear x1 y1 B1 hRQ hQR
 go_enter Tryz.func95,Tryz.ntmps95
 go_wp2_with fail
 obtain⟨x1,y1,B1,hRQ,hQR⟩:=HX.out;clear HX;generalize w.heap.size+1=Q at y1 hRQ hQR ⊢;generalize hR:w.heap.size=R at x1 B1 hRQ hQR ⊢;have HR:=zH hR;clear hR;generalize(w.alloc (.cells #[.int .i64 0,.string ⟨#[]⟩,.string ⟨#[]⟩,.string ⟨#[]⟩,.bool false,.int .i64 0,.string ⟨#[]⟩] 75)).alloc (.cells #[.int .i64 12,.string ⟨#[]⟩,.string ⟨#[]⟩,.string ⟨#[]⟩,.bool false,.int .i64 0,.string ⟨#[]⟩] 75)=w1 at x1 y1 B1 ⊢;refine(CS.out _).mono ?_;rintro e w2 ⟨rfl,b_⟩;have x2:=x1.below b_;have y2:=y1.below b_;have B2:=B1.trans (b_.mono (zT x1.lt));clear b_ x1 y1 B1
 cases b
 case' false =>
  have y3:SX w2 Q 12 ⟨#[]⟩ SF ⟨#[]⟩ false 0 ⟨#[]⟩:=by rw[Hf (by trivial)];exact y2
  obtain rfl:q0=REST:=HRE.1 (by trivial)
  go_wp2_with fail
  have x3:=x2;have B3:=B2;clear x2 y2 B2;generalize w2=w3 at x3 y3 B3 ⊢
 case' true =>
  obtain rfl:R9=REST:=HRE.2 (by trivial);have gA:=HA (by trivial)
  go_wp2_with fail
  refine((CA (by trivial)).out _).mono ?_;rintro e w5 ⟨rfl,b_⟩;have x5:=x2.below b_;have y5:=y2.below b_;have B5:=B2.trans (b_.mono (zT x2.lt));clear b_ x2 y2 B2;have cj:=y5.c2;have fj:=aB y5 2;have X:AsideM (SX (w5.setCell ⟨Q,2,none⟩ (.string SF)) R 0 ⟨#[]⟩ ⟨#[]⟩ ⟨#[]⟩ false 0 ⟨#[]⟩/\SX (w5.setCell ⟨Q,2,none⟩ (.string SF)) Q 12 ⟨#[]⟩ SF ⟨#[]⟩ false 0 ⟨#[]⟩/\Below R w (w5.setCell ⟨Q,2,none⟩ (.string SF))):=⟨x5.other hQR 2 _,y5.set2 _,B5.setCell (p:=⟨Q,2,none⟩) hRQ _⟩
  go_wp2_with fail
  generalize w5.setCell ⟨Q,2,none⟩ (.string SF)=w3 at X ⊢;obtain⟨x3,y3,B3⟩:=X.out;clear X x5 y5 B5 cj fj
 all_goals
  clear Hf HRE CA HA hidx z1 zs hc;refine(CC1.out _).mono ?_;rintro e w4 ⟨rfl,b_⟩;have x4:=x3.below b_;have y4:=y3.below b_;have B4:=B3.trans (b_.mono (zT x3.lt));clear b_ x3 y3 B3;have cj:=y4.c6;have fj:=aB y4 6;have X:AsideM (SX (w4.setCell ⟨Q,6,none⟩ (.string PA)) R 0 ⟨#[]⟩ ⟨#[]⟩ ⟨#[]⟩ false 0 ⟨#[]⟩/\SX (w4.setCell ⟨Q,6,none⟩ (.string PA)) Q 12 ⟨#[]⟩ SF ⟨#[]⟩ false 0 PA/\Below R w (w4.setCell ⟨Q,6,none⟩ (.string PA))):=⟨x4.other hQR 6 _,y4.set6 _,B4.setCell (p:=⟨Q,6,none⟩) hRQ _⟩
  go_wp2_with fail
  generalize w4.setCell ⟨Q,6,none⟩ (.string PA)=w6 at X ⊢;obtain⟨x6,y6,B6⟩:=X.out;clear X x4 y4 B4 cj fj;refine(CC2.out _).mono ?_;rintro e w7 ⟨rfl,b_⟩;have x7:=x6.below b_;have y7:=y6.below b_;have B7:=B6.trans (b_.mono (zT x6.lt));clear b_ x6 y6 B6
  cases bn
  case' false =>
   go_wp2_with fail
   refine((CP (by trivial)).out _).mono ?_;rintro e w7 ⟨rfl,rfl⟩;have cj:=y7.c5;have fj:=aB y7 5;have X:AsideM (SX (w7.setCell ⟨Q,5,none⟩ (.int .i64 PF)) R 0 ⟨#[]⟩ ⟨#[]⟩ ⟨#[]⟩ false 0 ⟨#[]⟩/\SX (w7.setCell ⟨Q,5,none⟩ (.int .i64 PF)) Q 12 ⟨#[]⟩ SF ⟨#[]⟩ false PF PA/\Below R w (w7.setCell ⟨Q,5,none⟩ (.int .i64 PF))):=⟨x7.other hQR 5 _,y7.set5 _,B7.setCell (p:=⟨Q,5,none⟩) hRQ _⟩
   go_wp2_with fail
   generalize w7.setCell ⟨Q,5,none⟩ (.int .i64 PF)=w8 at X ⊢;obtain⟨x8,y8,B8⟩:=X.out;clear X x7 y7 B7 cj fj
  case' true =>
   have y8:SX w7 Q 12 ⟨#[]⟩ SF ⟨#[]⟩ false PF PA:=by rw[hn0 (by trivial)];exact y7
   go_wp2_with fail
   have x8:=x7;have B8:=B7;clear x7 y7 B7;generalize w7=w8 at x8 y8 B8 ⊢
  all_goals
   clear hn0 hs2 CP gn
   ·
    refine(CL.out _).mono ?_;rintro e w9 ⟨rfl,b_⟩;have x9:=x8.below b_;have y9:=y8.below b_;have B9:=B8.trans (b_.mono (zT x8.lt));clear b_ x8 y8 B8;have cj:=y9.c3;have fj:=aB y9 3;have X:AsideM (SX (w9.setCell ⟨Q,3,none⟩ (.string HO)) R 0 ⟨#[]⟩ ⟨#[]⟩ ⟨#[]⟩ false 0 ⟨#[]⟩/\SX (w9.setCell ⟨Q,3,none⟩ (.string HO)) Q 12 ⟨#[]⟩ SF HO false PF PA/\Below R w (w9.setCell ⟨Q,3,none⟩ (.string HO))):=⟨x9.other hQR 3 _,y9.set3 _,B9.setCell (p:=⟨Q,3,none⟩) hRQ _⟩
    go_wp2_with fail
    generalize w9.setCell ⟨Q,3,none⟩ (.string HO)=w10 at X ⊢;obtain⟨x10,y10,B10⟩:=X.out;clear X x9 y9 B9 cj fj;refine(CB.out _).mono ?_;rintro e w11 ⟨rfl,b_⟩;have x11:=x10.below b_;have y11:=y10.below b_;have B11:=B10.trans (b_.mono (zT x10.lt));clear b_ x10 y10 B10;have cj:=y11.c4;have fj:=aB y11 4;have X:AsideM (SX (w11.setCell ⟨Q,4,none⟩ (.bool true)) R 0 ⟨#[]⟩ ⟨#[]⟩ ⟨#[]⟩ false 0 ⟨#[]⟩/\SX (w11.setCell ⟨Q,4,none⟩ (.bool true)) Q 12 ⟨#[]⟩ SF HO true PF PA/\Below R w (w11.setCell ⟨Q,4,none⟩ (.bool true))):=⟨x11.other hQR 4 _,y11.set4 _,B11.setCell (p:=⟨Q,4,none⟩) hRQ _⟩
    go_wp2_with fail
    generalize w11.setCell ⟨Q,4,none⟩ (.bool true)=w12 at X ⊢;obtain⟨x12,y12,B12⟩:=X.out;clear X x11 y11 B11 cj fj;refine(CW.out _).mono ?_;rintro e w13 ⟨rfl,b_⟩;have x13:=x12.below b_;have y13:=y12.below b_;have B13:=B12.trans (b_.mono (zT x12.lt));clear b_ x12 y12 B12;have cj:=y13.c3;have fj:=aB y13 3;have x14:=x13.other hQR 3 (.string HW);have y14:=y13.set3 HW;have B14:=B13.setCell (p:=⟨Q,3,none⟩) hRQ (.string HW)
    cases b2
    all_goals
     have k0:=y14.c0;have r0:=x14.c0;have i0:=aB x14 0;have k1:=y14.c1;have r1:=x14.c1;have i1:=aB x14 1;have k2:=y14.c2;have r2:=x14.c2;have i2:=aB x14 2;have k3:=y14.c3;have r3:=x14.c3;have i3:=aB x14 3;have k4:=y14.c4;have r4:=x14.c4;have i4:=aB x14 4;have k5:=y14.c5;have r5:=x14.c5;have i5:=aB x14 5;have k6:=y14.c6;have r6:=x14.c6;have i6:=aB x14 6
     go_wp2
     clear k0 r0 i0 k1 r1 i1 k2 r2 i2 k3 r3 i3 k4 r4 i4 k5 r5 i5 k6 r6 i6 cj fj;have xz:=x14.store 12 ⟨#[]⟩ SF HW true PF PA;have yz:=cD B14 (zL _) 12 ⟨#[]⟩ SF HW true PF PA;unfold vU at xz yz;generalize(((((((w13.setCell ⟨Q,3,none⟩ (.string HW)).setCell ⟨R,0,none⟩ (.int .i64 12)).setCell ⟨R,1,none⟩ (.string ⟨#[]⟩)).setCell ⟨R,2,none⟩ (.string SF)).setCell ⟨R,3,none⟩ (.string HW)).setCell ⟨R,4,none⟩ (.bool true)).setCell ⟨R,5,none⟩ (.int .i64 PF)).setCell ⟨R,6,none⟩ (.string PA)=wz at xz yz ⊢;obtain⟨c0,c1,c2,c3,c4,c5,c6⟩:=xz.cs
     first
     | exact bodyPost_ret (v := .tuple #[aP 12 ⟨#[]⟩ SF HW true PF PA,.bool true]) (by simp[results,Tryz.results95,go_sem,aP,c0,c1,c2,c3,c4,c5,c6]) rfl ⟨rfl,by rw[HR.out];exact yz⟩
     | exact bodyPost_ret (v := .tuple #[aP 12 ⟨#[]⟩ SF HW true PF PA,.bool false]) (by simp[results,Tryz.results95,go_sem,aP,c0,c1,c2,c3,c4,c5,c6]) rfl ⟨rfl,by rw[HR.out];exact yz⟩
end Go.Proofs.YthnogdodlhkldaaGreatDoor
