/- What a word in quotes is, the document's way. -/
import Derived.Test.YthnogdodlhkldaaGreatDoorParB
import Derived.Test.YthnogdodlhkldaaGreatDoorRefSD
import Derived.Test.YthnogdodlhkldaaGreatDoorSrcY
set_option maxRecDepth 100000
set_option maxHeartbeats 4000000
namespace Go.Proofs.YthnogdodlhkldaaGreatDoor
open Go.RowKit
theorem SX.set2 {w:World}{R:Nat}{k:Int}{t s h:ByteArray}{wd:Bool}{sp:Int}{pa:ByteArray}(a:SX w R k t s h wd sp pa)(u:ByteArray):SX (w.setCell ⟨R,2,none⟩ (.string u)) R k t u h wd sp pa:=by unfold SX at *;rw[aI _ _ _ _ _ _ _ a];rfl
theorem SX.set3 {w:World}{R:Nat}{k:Int}{t s h:ByteArray}{wd:Bool}{sp:Int}{pa:ByteArray}(a:SX w R k t s h wd sp pa)(u:ByteArray):SX (w.setCell ⟨R,3,none⟩ (.string u)) R k t s u wd sp pa:=by unfold SX at *;rw[aI _ _ _ _ _ _ _ a];rfl
theorem SX.set4 {w:World}{R:Nat}{k:Int}{t s h:ByteArray}{wd:Bool}{sp:Int}{pa:ByteArray}(a:SX w R k t s h wd sp pa)(u:Bool):SX (w.setCell ⟨R,4,none⟩ (.bool u)) R k t s h u sp pa:=by unfold SX at *;rw[aI _ _ _ _ _ _ _ a];rfl
theorem SX.set5 {w:World}{R:Nat}{k:Int}{t s h:ByteArray}{wd:Bool}{sp:Int}{pa:ByteArray}(a:SX w R k t s h wd sp pa)(u:Int):SX (w.setCell ⟨R,5,none⟩ (.int .i64 u)) R k t s h wd u pa:=by unfold SX at *;rw[aI _ _ _ _ _ _ _ a];rfl
theorem SX.set6 {w:World}{R:Nat}{k:Int}{t s h:ByteArray}{wd:Bool}{sp:Int}{pa:ByteArray}(a:SX w R k t s h wd sp pa)(u:ByteArray):SX (w.setCell ⟨R,6,none⟩ (.string u)) R k t s h wd sp u:=by unfold SX at *;rw[aI _ _ _ _ _ _ _ a];rfl
theorem SX.other {w:World}{R:Nat}{k:Int}{t s h:ByteArray}{wd:Bool}{sp:Int}{pa:ByteArray}(a:SX w R k t s h wd sp pa){P:Nat}(hP:P≠R)(j:Nat)(u:Value):SX (w.setCell ⟨P,j,none⟩ u) R k t s h wd sp pa:=by
 unfold SX at *;rw[<- a];simp only[World.setCell,Array.getElem?_modify];rw[if_neg hP]
def vU (w:World)(R:Nat)(k2:Int)(t2:ByteArray)(s2:ByteArray)(h2:ByteArray)(wd2:Bool)(sp2:Int)(pa2:ByteArray):World:=(((((((w.setCell ⟨R,0,none⟩ (.int .i64 k2)).setCell ⟨R,1,none⟩ (.string t2)).setCell ⟨R,2,none⟩ (.string s2)).setCell ⟨R,3,none⟩ (.string h2)).setCell ⟨R,4,none⟩ (.bool wd2)).setCell ⟨R,5,none⟩ (.int .i64 sp2)).setCell ⟨R,6,none⟩ (.string pa2))
theorem SX.store {w:World}{R:Nat}{k:Int}{t s h:ByteArray}{wd:Bool}{sp:Int}{pa:ByteArray}(a:SX w R k t s h wd sp pa)(k2:Int)(t2:ByteArray)(s2:ByteArray)(h2:ByteArray)(wd2:Bool)(sp2:Int)(pa2:ByteArray):SX (vU w R k2 t2 s2 h2 wd2 sp2 pa2) R k2 t2 s2 h2 wd2 sp2 pa2:=by
 unfold SX at *;unfold vU;rw[aI _ R 6 _ _ _ _ (aI _ R 5 _ _ _ _ (aI _ R 4 _ _ _ _ (aI _ R 3 _ _ _ _ (aI _ R 2 _ _ _ _ (aI _ R 1 _ _ _ _ (aI _ R 0 _ _ _ _ a))))))];rfl
theorem cD {w0 w:World}{R B:Nat}(hb:Below B w0 w)(hR:B<=R)(k2:Int)(t2:ByteArray)(s2:ByteArray)(h2:ByteArray)(wd2:Bool)(sp2:Int)(pa2:ByteArray):Below B w0 (vU w R k2 t2 s2 h2 wd2 sp2 pa2) :=
 ((((((hb.setCell hR _).setCell hR _).setCell hR _).setCell hR _).setCell hR _).setCell hR _).setCell hR _
theorem rK (L:ByteArray)(i:Nat)(U:ByteArray)(hi:i+1<=L.size)(h:U.data.toList=(L.data.toList.drop i).dropLast):∀ W,(Instr.slice 9 (.string L) (some (.int .i64 (i:Int))) (some (.int .i64 ((L.size:Int) - 1))) none).run Tryz.prog W=.ok (.string U) W:=by
 have e:((L.size:Int) - 1)=((L.size - 1:Nat):Int):=by omega
 rw[e];refine aY3 L U i (L.size - 1) (by omega) (by omega) ?_;rw[h,List.dropLast_eq_take,List.length_drop,aE]
 congr 1
 omega
theorem vC (l:List UInt8)(k:Nat)(h1:1<=k)(h8:k<=8)(hn:∀ j:Nat,1<=j->j<k->bB l≠aN j)(hk:bB l=aN k):([1,2,3,4,5,6,7,8]:List Int).find? (fun k=>decide (bB l=aN k))=some (k:Int):=by
 have hc:k=1\/k=2\/k=3\/k=4\/k=5\/k=6\/k=7\/k=8:=by omega
 rcases hc with rfl | rfl | rfl | rfl | rfl | rfl | rfl | rfl
 · have ek:decide (bB l=aN 1)=true:=decide_eq_true hk
   simp only[List.find?,ek]
   try rfl
 · have e1:decide (bB l=aN 1)=false:=decide_eq_false (hn 1 (by omega) (by omega))
   have ek:decide (bB l=aN 2)=true:=decide_eq_true hk;simp only[List.find?,e1,ek]
   try rfl
 · have e1:decide (bB l=aN 1)=false:=decide_eq_false (hn 1 (by omega) (by omega))
   have e2:decide (bB l=aN 2)=false:=decide_eq_false (hn 2 (by omega) (by omega));have ek:decide (bB l=aN 3)=true:=decide_eq_true hk;simp only[List.find?,e1,e2,ek]
   try rfl
 · have e1:decide (bB l=aN 1)=false:=decide_eq_false (hn 1 (by omega) (by omega))
   have e2:decide (bB l=aN 2)=false:=decide_eq_false (hn 2 (by omega) (by omega));have e3:decide (bB l=aN 3)=false:=decide_eq_false (hn 3 (by omega) (by omega));have ek:decide (bB l=aN 4)=true:=decide_eq_true hk;simp only[List.find?,e1,e2,e3,ek]
   try rfl
 · have e1:decide (bB l=aN 1)=false:=decide_eq_false (hn 1 (by omega) (by omega))
   have e2:decide (bB l=aN 2)=false:=decide_eq_false (hn 2 (by omega) (by omega));have e3:decide (bB l=aN 3)=false:=decide_eq_false (hn 3 (by omega) (by omega));have e4:decide (bB l=aN 4)=false:=decide_eq_false (hn 4 (by omega) (by omega));have ek:decide (bB l=aN 5)=true:=decide_eq_true hk;simp only[List.find?,e1,e2,e3,e4,ek]
   try rfl
 · have e1:decide (bB l=aN 1)=false:=decide_eq_false (hn 1 (by omega) (by omega))
   have e2:decide (bB l=aN 2)=false:=decide_eq_false (hn 2 (by omega) (by omega));have e3:decide (bB l=aN 3)=false:=decide_eq_false (hn 3 (by omega) (by omega));have e4:decide (bB l=aN 4)=false:=decide_eq_false (hn 4 (by omega) (by omega));have e5:decide (bB l=aN 5)=false:=decide_eq_false (hn 5 (by omega) (by omega));have ek:decide (bB l=aN 6)=true:=decide_eq_true hk;simp only[List.find?,e1,e2,e3,e4,e5,ek]
   try rfl
 · have e1:decide (bB l=aN 1)=false:=decide_eq_false (hn 1 (by omega) (by omega))
   have e2:decide (bB l=aN 2)=false:=decide_eq_false (hn 2 (by omega) (by omega));have e3:decide (bB l=aN 3)=false:=decide_eq_false (hn 3 (by omega) (by omega));have e4:decide (bB l=aN 4)=false:=decide_eq_false (hn 4 (by omega) (by omega));have e5:decide (bB l=aN 5)=false:=decide_eq_false (hn 5 (by omega) (by omega));have e6:decide (bB l=aN 6)=false:=decide_eq_false (hn 6 (by omega) (by omega));have ek:decide (bB l=aN 7)=true:=decide_eq_true hk;simp only[List.find?,e1,e2,e3,e4,e5,e6,ek]
   try rfl
 · have e1:decide (bB l=aN 1)=false:=decide_eq_false (hn 1 (by omega) (by omega))
   have e2:decide (bB l=aN 2)=false:=decide_eq_false (hn 2 (by omega) (by omega));have e3:decide (bB l=aN 3)=false:=decide_eq_false (hn 3 (by omega) (by omega));have e4:decide (bB l=aN 4)=false:=decide_eq_false (hn 4 (by omega) (by omega));have e5:decide (bB l=aN 5)=false:=decide_eq_false (hn 5 (by omega) (by omega));have e6:decide (bB l=aN 6)=false:=decide_eq_false (hn 6 (by omega) (by omega));have e7:decide (bB l=aN 7)=false:=decide_eq_false (hn 7 (by omega) (by omega));have ek:decide (bB l=aN 8)=true:=decide_eq_true hk;simp only[List.find?,e1,e2,e3,e4,e5,e6,e7,ek]
   try rfl
theorem bG8 (l:List UInt8)(hn:∀ j:Nat,1<=j->j<9->bB l≠aN j):([1,2,3,4,5,6,7,8]:List Int).find? (fun k=>decide (bB l=aN k))=none:=by
 have e1:decide (bB l=aN 1)=false:=decide_eq_false (hn 1 (by omega) (by omega));have e2:decide (bB l=aN 2)=false:=decide_eq_false (hn 2 (by omega) (by omega));have e3:decide (bB l=aN 3)=false:=decide_eq_false (hn 3 (by omega) (by omega));have e4:decide (bB l=aN 4)=false:=decide_eq_false (hn 4 (by omega) (by omega));have e5:decide (bB l=aN 5)=false:=decide_eq_false (hn 5 (by omega) (by omega));have e6:decide (bB l=aN 6)=false:=decide_eq_false (hn 6 (by omega) (by omega));have e7:decide (bB l=aN 7)=false:=decide_eq_false (hn 7 (by omega) (by omega));have e8:decide (bB l=aN 8)=false:=decide_eq_false (hn 8 (by omega) (by omega));simp only[List.find?,e1,e2,e3,e4,e5,e6,e7,e8]
theorem aM6 (q0 u:ByteArray)(C1:Hid (∀ W,Calls Tryz.prog 132 #[.string q0,.string ⟨#[39,110,111,110,99,101,45]⟩] W fun e w'=>e=.returned (.bool true)/\Below W.heap.size W w'))(hs8:∀ W,(Instr.slice 9 (.string q0) (some (.int .i64 7)) (some (.int .i64 ((q0.size:Int) - 1))) none).run Tryz.prog W=.ok (.string u) W)(z8:(8:Int)<=(q0.size:Int))(zs:(q0.size:Int)<=1000000000)(w:World):Calls Tryz.prog 94 #[.string q0] w fun e w'=>e=.returned (aP 9 u ⟨#[]⟩ ⟨#[]⟩ false 0 ⟨#[]⟩)/\Below w.heap.size w w':=by
 go_enter Tryz.func94,Tryz.ntmps94
 go_wp2_with fail
 have xn:=SX.made w 0 ⟨#[]⟩ ⟨#[]⟩ ⟨#[]⟩ false 0 ⟨#[]⟩;have Bw1:Below w.heap.size w (w.alloc (.cells #[.int .i64 0,.string ⟨#[]⟩,.string ⟨#[]⟩,.string ⟨#[]⟩,.bool false,.int .i64 0,.string ⟨#[]⟩] 75)):=((zB w.heap.size w).alloc (zL _) (.cells #[.int .i64 0,.string ⟨#[]⟩,.string ⟨#[]⟩,.string ⟨#[]⟩,.bool false,.int .i64 0,.string ⟨#[]⟩] 75));generalize hR:w.heap.size=R at xn Bw1 ⊢;have HR:=zH hR;clear hR;generalize w.alloc (.cells #[.int .i64 0,.string ⟨#[]⟩,.string ⟨#[]⟩,.string ⟨#[]⟩,.bool false,.int .i64 0,.string ⟨#[]⟩] 75)=w1 at xn Bw1 ⊢;have xR_w1:=xn;clear xn;refine(C1.out _ ).mono ?_;rintro e w2 ⟨rfl,b_⟩;have Bw2:=Bw1.trans (b_.mono (zT xR_w1.lt));have xR_w2:=xR_w1.below b_;clear b_ Bw1 xR_w1;have r0:=xR_w2.c0;have i0:=aB xR_w2 0;have r1:=xR_w2.c1;have i1:=aB xR_w2 1;have r2:=xR_w2.c2;have i2:=aB xR_w2 2;have r3:=xR_w2.c3;have i3:=aB xR_w2 3;have r4:=xR_w2.c4;have i4:=aB xR_w2 4;have r5:=xR_w2.c5;have i5:=aB xR_w2 5;have r6:=xR_w2.c6;have i6:=aB xR_w2 6;have xz:=xR_w2.store 9 u ⟨#[]⟩ ⟨#[]⟩ false 0 ⟨#[]⟩;have yz:=cD Bw2 (zL _) 9 u ⟨#[]⟩ ⟨#[]⟩ false 0 ⟨#[]⟩
 go_wp2
 clear r0 i0 r1 i1 r2 i2 r3 i3 r4 i4 r5 i5 r6 i6;unfold vU at xz yz;generalize((((((w2.setCell ⟨R,0,none⟩ (.int .i64 9)).setCell ⟨R,1,none⟩ (.string u)).setCell ⟨R,2,none⟩ (.string ⟨#[]⟩)).setCell ⟨R,3,none⟩ (.string ⟨#[]⟩)).setCell ⟨R,4,none⟩ (.bool false)).setCell ⟨R,5,none⟩ (.int .i64 0)).setCell ⟨R,6,none⟩ (.string ⟨#[]⟩)=wz at xz yz ⊢;obtain⟨c0,c1,c2,c3,c4,c5,c6⟩:=xz.cs;exact bodyPost_ret (v:=aP 9 u ⟨#[]⟩ ⟨#[]⟩ false 0 ⟨#[]⟩) (by simp[results,Tryz.results94,go_sem,aP,c0,c1,c2,c3,c4,c5,c6]) rfl ⟨rfl,by rw[HR.out];exact yz⟩
theorem aM7 (q0 m u:ByteArray)(bu:Bool)(C1:Hid (∀ W,Calls Tryz.prog 132 #[.string q0,.string ⟨#[39,110,111,110,99,101,45]⟩] W fun e w'=>e=.returned (.bool false)/\Below W.heap.size W w'))(C2:Hid (∀ W,Calls Tryz.prog 132 #[.string q0,.string ⟨#[39,109,97,114,107,45]⟩] W fun e w'=>e=.returned (.bool true)/\Below W.heap.size W w'))(CD:Hid (∀ W,Calls Tryz.prog 133 #[.string m] W fun e w'=>e=.returned (.tuple #[.string u,.bool bu])/\Below W.heap.size W w'))(hs8:∀ W,(Instr.slice 9 (.string q0) (some (.int .i64 6)) (some (.int .i64 ((q0.size:Int) - 1))) none).run Tryz.prog W=.ok (.string m) W)(z8:(7:Int)<=(q0.size:Int))(zs:(q0.size:Int)<=1000000000)(w:World):Calls Tryz.prog 94 #[.string q0] w fun e w'=>e=.returned (aP 10 u ⟨#[]⟩ ⟨#[]⟩ false 0 ⟨#[]⟩)/\Below w.heap.size w w':=by
 go_enter Tryz.func94,Tryz.ntmps94
 go_wp2_with fail
 have xn:=SX.made w 0 ⟨#[]⟩ ⟨#[]⟩ ⟨#[]⟩ false 0 ⟨#[]⟩;have Bw1:Below w.heap.size w (w.alloc (.cells #[.int .i64 0,.string ⟨#[]⟩,.string ⟨#[]⟩,.string ⟨#[]⟩,.bool false,.int .i64 0,.string ⟨#[]⟩] 75)):=((zB w.heap.size w).alloc (zL _) (.cells #[.int .i64 0,.string ⟨#[]⟩,.string ⟨#[]⟩,.string ⟨#[]⟩,.bool false,.int .i64 0,.string ⟨#[]⟩] 75));generalize hR:w.heap.size=R at xn Bw1 ⊢;have HR:=zH hR;clear hR;generalize w.alloc (.cells #[.int .i64 0,.string ⟨#[]⟩,.string ⟨#[]⟩,.string ⟨#[]⟩,.bool false,.int .i64 0,.string ⟨#[]⟩] 75)=w1 at xn Bw1 ⊢;have xR_w1:=xn;clear xn;refine(C1.out _ ).mono ?_;rintro e w2 ⟨rfl,b_⟩;have Bw2:=Bw1.trans (b_.mono (zT xR_w1.lt));have xR_w2:=xR_w1.below b_;clear b_ Bw1 xR_w1
 go_wp2_with fail
 refine(C2.out _ ).mono ?_;rintro e w3 ⟨rfl,b_⟩;have Bw3:=Bw2.trans (b_.mono (zT xR_w2.lt));have xR_w3:=xR_w2.below b_;clear b_ Bw2 xR_w2
 go_wp2_with fail
 refine(CD.out _ ).mono ?_;rintro e w4 ⟨rfl,b_⟩;have Bw4:=Bw3.trans (b_.mono (zT xR_w3.lt));have xR_w4:=xR_w3.below b_;clear b_ Bw3 xR_w3;have r0:=xR_w4.c0;have i0:=aB xR_w4 0;have r1:=xR_w4.c1;have i1:=aB xR_w4 1;have r2:=xR_w4.c2;have i2:=aB xR_w4 2;have r3:=xR_w4.c3;have i3:=aB xR_w4 3;have r4:=xR_w4.c4;have i4:=aB xR_w4 4;have r5:=xR_w4.c5;have i5:=aB xR_w4 5;have r6:=xR_w4.c6;have i6:=aB xR_w4 6;have xz:=xR_w4.store 10 u ⟨#[]⟩ ⟨#[]⟩ false 0 ⟨#[]⟩;have yz:=cD Bw4 (zL _) 10 u ⟨#[]⟩ ⟨#[]⟩ false 0 ⟨#[]⟩
 go_wp2
 clear r0 i0 r1 i1 r2 i2 r3 i3 r4 i4 r5 i5 r6 i6;unfold vU at xz yz;generalize((((((w4.setCell ⟨R,0,none⟩ (.int .i64 10)).setCell ⟨R,1,none⟩ (.string u)).setCell ⟨R,2,none⟩ (.string ⟨#[]⟩)).setCell ⟨R,3,none⟩ (.string ⟨#[]⟩)).setCell ⟨R,4,none⟩ (.bool false)).setCell ⟨R,5,none⟩ (.int .i64 0)).setCell ⟨R,6,none⟩ (.string ⟨#[]⟩)=wz at xz yz ⊢;obtain⟨c0,c1,c2,c3,c4,c5,c6⟩:=xz.cs;exact bodyPost_ret (v:=aP 10 u ⟨#[]⟩ ⟨#[]⟩ false 0 ⟨#[]⟩) (by simp[results,Tryz.results94,go_sem,aP,c0,c1,c2,c3,c4,c5,c6]) rfl ⟨rfl,by rw[HR.out];exact yz⟩
theorem pY (q0 T:ByteArray)(kq:Int)(C1:Hid (∀ W,Calls Tryz.prog 132 #[.string q0,.string ⟨#[39,110,111,110,99,101,45]⟩] W fun e w'=>e=.returned (.bool false)/\Below W.heap.size W w'))(C2:Hid (∀ W,Calls Tryz.prog 132 #[.string q0,.string ⟨#[39,109,97,114,107,45]⟩] W fun e w'=>e=.returned (.bool false)/\Below W.heap.size W w'))(CL:Hid (∀ W,Calls Tryz.prog 61 #[.string q0] W fun e w'=>e=.returned (.string T)/\Below W.heap.size W w'))(HT:Hid (T.data.toList=bB q0.data.toList))(HF:Hid ((∀ n:Nat,1<=n->n<=8->(∀ j:Nat,1<=j->j<n->bB q0.data.toList≠aN j)->bB q0.data.toList=aN n->(n:Int)=kq)/\((∀ j:Nat,1<=j->j<9->bB q0.data.toList≠aN j)->(0:Int)=kq)))(w:World):Calls Tryz.prog 94 #[.string q0] w fun e w'=>e=.returned (aP kq ⟨#[]⟩ ⟨#[]⟩ ⟨#[]⟩ false 0 ⟨#[]⟩)/\Below w.heap.size w w':=by
 go_enter Tryz.func94,Tryz.ntmps94
 go_wp2_with fail
 have xn:=SX.made w 0 ⟨#[]⟩ ⟨#[]⟩ ⟨#[]⟩ false 0 ⟨#[]⟩;have Bw1:Below w.heap.size w (w.alloc (.cells #[.int .i64 0,.string ⟨#[]⟩,.string ⟨#[]⟩,.string ⟨#[]⟩,.bool false,.int .i64 0,.string ⟨#[]⟩] 75)):=((zB w.heap.size w).alloc (zL _) (.cells #[.int .i64 0,.string ⟨#[]⟩,.string ⟨#[]⟩,.string ⟨#[]⟩,.bool false,.int .i64 0,.string ⟨#[]⟩] 75));generalize hR:w.heap.size=R at xn Bw1 ⊢;have HR:=zH hR;clear hR;generalize w.alloc (.cells #[.int .i64 0,.string ⟨#[]⟩,.string ⟨#[]⟩,.string ⟨#[]⟩,.bool false,.int .i64 0,.string ⟨#[]⟩] 75)=w1 at xn Bw1 ⊢;have xR_w1:=xn;clear xn;refine(C1.out _ ).mono ?_;rintro e w2 ⟨rfl,b_⟩;have Bw2:=Bw1.trans (b_.mono (zT xR_w1.lt));have xR_w2:=xR_w1.below b_;clear b_ Bw1 xR_w1
 go_wp2_with fail
 refine(C2.out _ ).mono ?_;rintro e w3 ⟨rfl,b_⟩;have Bw3:=Bw2.trans (b_.mono (zT xR_w2.lt));have xR_w3:=xR_w2.below b_;clear b_ Bw2 xR_w2
 go_wp2
 go_loopw [5] (fun i wr=>∃ n:Nat,1<=n/\n<=9/\i=.int .i64 n/\(SX wr R 0 ⟨#[]⟩ ⟨#[]⟩ ⟨#[]⟩ false 0 ⟨#[]⟩/\Below R w wr)/\Hid (∀ j:Nat,1<=j->j<n->bB q0.data.toList≠aN j)) (fun i _=>9 - (intOf i).toNat)
 case atStart=>exact⟨1,by omega,by omega,rfl,⟨xR_w3,Bw3⟩,zH fun j h1 h2=>by omega⟩
 case round =>
  obtain⟨n,h1n,hn9,rfl,⟨xR_wr,Bwr⟩,HN⟩:=hrel
  by_cases hlt:n<=8
  case neg =>
   obtain rfl:n=9:=by omega
   have HE:=zH (HF.out.2 HN.out);have z:¬ ((9:Nat):Int)<=8:=by omega
   clear HN HF;have r0:=xR_wr.c0;have i0:=aB xR_wr 0;have r1:=xR_wr.c1;have i1:=aB xR_wr 1;have r2:=xR_wr.c2;have i2:=aB xR_wr 2;have r3:=xR_wr.c3;have i3:=aB xR_wr 3;have r4:=xR_wr.c4;have i4:=aB xR_wr 4;have r5:=xR_wr.c5;have i5:=aB xR_wr 5;have r6:=xR_wr.c6;have i6:=aB xR_wr 6;have xz:=xR_wr.store 0 ⟨#[]⟩ ⟨#[]⟩ ⟨#[]⟩ false 0 ⟨#[]⟩;have yz:=cD Bwr (zL _) 0 ⟨#[]⟩ ⟨#[]⟩ ⟨#[]⟩ false 0 ⟨#[]⟩
   go_wp2
   clear r0 i0 r1 i1 r2 i2 r3 i3 r4 i4 r5 i5 r6 i6;unfold vU at xz yz;generalize((((((wr.setCell ⟨R,0,none⟩ (.int .i64 0)).setCell ⟨R,1,none⟩ (.string ⟨#[]⟩)).setCell ⟨R,2,none⟩ (.string ⟨#[]⟩)).setCell ⟨R,3,none⟩ (.string ⟨#[]⟩)).setCell ⟨R,4,none⟩ (.bool false)).setCell ⟨R,5,none⟩ (.int .i64 0)).setCell ⟨R,6,none⟩ (.string ⟨#[]⟩)=wz at xz yz ⊢;obtain⟨c0,c1,c2,c3,c4,c5,c6⟩:=xz.cs;exact bodyPost_ret (v:=aP 0 ⟨#[]⟩ ⟨#[]⟩ ⟨#[]⟩ false 0 ⟨#[]⟩) (by simp[results,Tryz.results94,go_sem,aP,c0,c1,c2,c3,c4,c5,c6]) rfl ⟨by rw[<- HE.out],by rw[HR.out];exact yz⟩
  have z:(n:Int)<=8:=by omega
  obtain⟨KT,hKT⟩:∃ K:ByteArray,K.data.toList=aN n:=⟨⟨(aN n).toArray⟩,rfl⟩;have CK:=uU n KT hKT;obtain⟨b,g⟩:∃ b,(T.toList==KT.toList)=b:=⟨_,rfl⟩;have gx:=g;rw[fZ,HT.out,hKT]at gx;clear hKT
  cases b
  case false =>
   have HM:Hid (∀ j:Nat,1<=j->j<n+1->bB q0.data.toList≠aN j):=zH fun j h1 h2=>by
    by_cases e:j=n
    · subst e;exact of_decide_eq_false gx
    · exact HN.out j h1 (by omega)
   clear HN gx HF
   go_wp2_with fail
   refine(CL.out _ ).mono ?_;rintro e w6 ⟨rfl,b_⟩;have Bw6:=Bwr.trans (b_.mono (zT xR_wr.lt));have xR_w6:=xR_wr.below b_;clear b_ Bwr xR_wr
   go_wp2_with fail
   refine(CK.out _ ).mono ?_;rintro e w7 ⟨rfl,b_⟩;have Bw7:=Bw6.trans (b_.mono (zT xR_w6.lt));have xR_w7:=xR_w6.below b_;clear b_ Bw6 xR_w6
   go_wp2
   go_roundw
   case rel=>exact⟨n+1,by omega,by omega,by go_num,⟨xR_w7,Bw7⟩,HM⟩
   case measure=>simp[intOf];omega
  case true =>
   have HE:=zH (HF.out.1 n h1n hlt HN.out (of_decide_eq_true gx));clear HN gx HF
   go_wp2_with fail
   refine(CL.out _ ).mono ?_;rintro e w6 ⟨rfl,b_⟩;have Bw6:=Bwr.trans (b_.mono (zT xR_wr.lt));have xR_w6:=xR_wr.below b_;clear b_ Bwr xR_wr
   go_wp2_with fail
   refine(CK.out _ ).mono ?_;rintro e w7 ⟨rfl,b_⟩;have Bw7:=Bw6.trans (b_.mono (zT xR_w6.lt));have xR_w7:=xR_w6.below b_;clear b_ Bw6 xR_w6;have r0:=xR_w7.c0;have i0:=aB xR_w7 0;have r1:=xR_w7.c1;have i1:=aB xR_w7 1;have r2:=xR_w7.c2;have i2:=aB xR_w7 2;have r3:=xR_w7.c3;have i3:=aB xR_w7 3;have r4:=xR_w7.c4;have i4:=aB xR_w7 4;have r5:=xR_w7.c5;have i5:=aB xR_w7 5;have r6:=xR_w7.c6;have i6:=aB xR_w7 6;have xz:=xR_w7.store (n:Int) ⟨#[]⟩ ⟨#[]⟩ ⟨#[]⟩ false 0 ⟨#[]⟩;have yz:=cD Bw7 (zL _) (n:Int) ⟨#[]⟩ ⟨#[]⟩ ⟨#[]⟩ false 0 ⟨#[]⟩
   go_wp2
   clear r0 i0 r1 i1 r2 i2 r3 i3 r4 i4 r5 i5 r6 i6;unfold vU at xz yz;generalize((((((w7.setCell ⟨R,0,none⟩ (.int .i64 (n:Int))).setCell ⟨R,1,none⟩ (.string ⟨#[]⟩)).setCell ⟨R,2,none⟩ (.string ⟨#[]⟩)).setCell ⟨R,3,none⟩ (.string ⟨#[]⟩)).setCell ⟨R,4,none⟩ (.bool false)).setCell ⟨R,5,none⟩ (.int .i64 0)).setCell ⟨R,6,none⟩ (.string ⟨#[]⟩)=wz at xz yz ⊢;obtain⟨c0,c1,c2,c3,c4,c5,c6⟩:=xz.cs;exact bodyPost_ret (v:=aP (n:Int) ⟨#[]⟩ ⟨#[]⟩ ⟨#[]⟩ false 0 ⟨#[]⟩) (by simp[results,Tryz.results94,go_sem,aP,c0,c1,c2,c3,c4,c5,c6]) rfl ⟨by rw[<- HE.out],by rw[HR.out];exact yz⟩
end Go.Proofs.YthnogdodlhkldaaGreatDoor
