/- The plain mathematics of chain: what policies say of a request, over lists; what the statements of layer 12 want of it. The names of a kind: the program's. -/
import Derived.Test.YthnogdodlhkldaaGreatDoorFoldZ
set_option maxRecDepth 100000
set_option maxHeartbeats 2000000
namespace Go.Proofs.YthnogdodlhkldaaGreatDoor
def dV:List UInt8:=[115,99,114,105,112,116,45,115,114,99,45,101,108,101,109]
def kG:List UInt8:=[115,99,114,105,112,116,45,115,114,99,45,97,116,116,114]
def bX:List UInt8:=[115,99,114,105,112,116,45,115,114,99]
def cQ:List UInt8:=[100,101,102,97,117,108,116,45,115,114,99]
def bK (k:Int):List (List UInt8):=if k=1\/k=2\/k=4 then [dV,bX,cQ] else if k=3 then [kG,bX,cQ] else if k=5\/k=6 then [bX,cQ] else []
def gS (ds:List D):List (List UInt8)->Option (List (List UInt8) × List UInt8)
 | []=>none
 | n :: ns=>match cM ds n with
   | some ws=>some (ws,n)
   | none=>gS ds ns
structure Rq where
 k:Int
 t:List UInt8
 u:U
 m:Bool
 n:List UInt8
 p:Bool
 v:U
def iL (L:List bH)(r:Rq):Bool:=if r.k=2 then kY L r.u r.v r.m r.n r.p else if r.k=5\/r.k=6 then jE L r.k else cA L r.k r.n r.t
def fO (ds:List D)(r:Rq):Bool × List UInt8:=match gS ds (bK r.k)with
 | none=>(true,[])
 | some x=>(iL (bD x.1) r,x.2)
structure Brk where
 i:Nat
 n:List UInt8
 r:Bool
deriving DecidableEq
def nW (i:Nat)(p:List D × Bool)(r:Rq):List Brk:=if (fO p.1 r).1 then [] else [⟨i,(fO p.1 r).2,p.2⟩]
def lV (i:Nat):List (List D × Bool)->Rq->List Brk
 | [],_=>[]
 | p :: ps,r=>nW i p r++lV (i+1) ps r
def bF (ps:List (List D × Bool))(r:Rq):List Brk:=lV 0 ps r
def sR (ps:List (List D × Bool))(r:Rq):Bool:=(bF ps r).all Brk.r
theorem lN (k:Int):(bK k).length<=3:=by
 unfold bK;split
 · decide
 · split
   · decide
   · split<;>decide
theorem oK (k:Int):∀ n∈bK k,aZ n=n/\n.length<=15:=by
 unfold bK;split
 · decide
 · split
   · decide
   · split<;>decide
theorem xL (ds:List D):∀(ns:List (List UInt8)) (i:Nat) (hi:i<ns.length) (ws:List (List UInt8)),(∀ j,(h:j<ns.length)->j<i->cM ds ns[j]=none)->cM ds ns[i]=some ws->gS ds ns=some (ws,ns[i])
 | [],i,hi,_,_,_=>by cases hi
 | n :: ns,0,_,ws,_,h=>by
   unfold gS;rw[List.getElem_cons_zero]at h ⊢;rw[h]
 | n :: ns,i+1,hi,ws,h0,h=>by
   unfold gS;have e:=h0 0 (by simp) (by omega);rw[List.getElem_cons_zero]at e;rw[e,List.getElem_cons_succ]at *;exact xL ds ns i (by simpa using hi) ws (fun j hj hji=>by have:=h0 (j+1) (by simpa using hj) (by omega);rwa [List.getElem_cons_succ]at this) h
theorem nR (ds:List D):∀(ns:List (List UInt8)),(∀ j,(h:j<ns.length)->cM ds ns[j]=none)->gS ds ns=none
 | [],_=>rfl
 | n :: ns,h0=>by
   unfold gS;have e:=h0 0 (by simp);rw[List.getElem_cons_zero]at e;rw[e];exact nR ds ns fun j hj=>by have:=h0 (j+1) (by simpa using hj);rwa [List.getElem_cons_succ]at this
theorem brk_len (i:Nat)(p:List D × Bool)(r:Rq):(nW i p r).length<=1:=by unfold nW;split<;>simp
end Go.Proofs.YthnogdodlhkldaaGreatDoor
namespace Go.Proofs.YthnogdodlhkldaaGreatDoor
open Go.RowKit
theorem bH3 (w:World):Calls Tryz.prog 17 #[.int .i64 1] w fun e w'=>∃ u,e=.returned u/\w'.ownsRow w.heap.size 9 1 u 3 (aC [dV,bX,cQ])/\Below w.heap.size w w':=by
 have own0:(w.alloc (.cells #[] 9)).ownsRow w.heap.size 9 1 (.slice (some ⟨w.heap.size,0,none⟩) 0 0) 0 []:=World.ownsRow_made w #[] 0 (Nat.le_refl _) (Nat.zero_le _) rfl;have b0:Below w.heap.size w (w.alloc (.cells #[] 9)):=(Below.refl _ _).alloc (Nat.le_refl _) _;have HO1:=zH (own0.alloc (.cells #[.string ⟨#[115,99,114,105,112,116,45,115,114,99,45,101,108,101,109]⟩] 9));have HB1:=zH (b0.alloc b0.size (.cells #[.string ⟨#[115,99,114,105,112,116,45,115,114,99,45,101,108,101,109]⟩] 9))
 have HT1:Hid (aR ((w.alloc (.cells #[] 9)).alloc (.cells #[.string ⟨#[115,99,114,105,112,116,45,115,114,99,45,101,108,101,109]⟩] 9)) (.slice (some ⟨w.heap.size+1,0,none⟩) 1 1) [dV]):=zH (by
  have:=cC (w.alloc (.cells #[] 9)) [dV] #[.string ⟨#[115,99,114,105,112,116,45,115,114,99,45,101,108,101,109]⟩] rfl 1 rfl 1
  rwa [World.size_alloc]at this)
 clear own0 b0
 go_enter Tryz.func17,Tryz.ntmps17
 go_wp2_with (at_builtin;first
  | (refine bE rfl _ _ rfl w.heap.size _ 0 [] rfl HO1.out _ [dV] rfl HT1.out (by decide) HB1.out.size ?_;intro v1 w5 hown5 hgr5
     have X1:Aside (w5.ownsRow w.heap.size 9 1 v1 1 (aC [dV])/\Below w.heap.size w w5):=⟨hown5,Below.grown HB1.out hgr5 HB1.out.size (fun q hq=>(HO1.out.lt q hq).1)⟩
     clear hown5 hgr5 HO1 HB1 HT1)
  | (refine bE rfl _ _ rfl w.heap.size _ 1 _ rfl (X1.out.1.alloc _) _ [bX,cQ] rfl (cC w5 [bX,cQ] _ rfl 2 rfl 2) (by decide) (Nat.le_trans X1.out.2.size (by rw[World.size_alloc];omega)) ?_;intro v2 w6 hown6 hgr6
     have X2:Aside (w6.ownsRow w.heap.size 9 1 v2 3 (aC [dV,bX,cQ])/\Below w.heap.size w w6):=⟨hown6,Below.grown (X1.out.2.alloc X1.out.2.size _) hgr6 (Nat.le_trans X1.out.2.size (by rw[World.size_alloc];omega)) (fun q hq=>(X1.out.1.lt q hq).1)⟩
     clear hown6 hgr6))
 go_ret
 exact⟨_,rfl,X2.out.1,X2.out.2⟩
theorem bH2 (w:World):Calls Tryz.prog 17 #[.int .i64 2] w fun e w'=>∃ u,e=.returned u/\w'.ownsRow w.heap.size 9 1 u 3 (aC [dV,bX,cQ])/\Below w.heap.size w w':=by
 have own0:(w.alloc (.cells #[] 9)).ownsRow w.heap.size 9 1 (.slice (some ⟨w.heap.size,0,none⟩) 0 0) 0 []:=World.ownsRow_made w #[] 0 (Nat.le_refl _) (Nat.zero_le _) rfl;have b0:Below w.heap.size w (w.alloc (.cells #[] 9)):=(Below.refl _ _).alloc (Nat.le_refl _) _;have HO1:=zH (own0.alloc (.cells #[.string ⟨#[115,99,114,105,112,116,45,115,114,99,45,101,108,101,109]⟩] 9));have HB1:=zH (b0.alloc b0.size (.cells #[.string ⟨#[115,99,114,105,112,116,45,115,114,99,45,101,108,101,109]⟩] 9))
 have HT1:Hid (aR ((w.alloc (.cells #[] 9)).alloc (.cells #[.string ⟨#[115,99,114,105,112,116,45,115,114,99,45,101,108,101,109]⟩] 9)) (.slice (some ⟨w.heap.size+1,0,none⟩) 1 1) [dV]):=zH (by
  have:=cC (w.alloc (.cells #[] 9)) [dV] #[.string ⟨#[115,99,114,105,112,116,45,115,114,99,45,101,108,101,109]⟩] rfl 1 rfl 1
  rwa [World.size_alloc]at this)
 clear own0 b0
 go_enter Tryz.func17,Tryz.ntmps17
 go_wp2_with (at_builtin;first
  | (refine bE rfl _ _ rfl w.heap.size _ 0 [] rfl HO1.out _ [dV] rfl HT1.out (by decide) HB1.out.size ?_;intro v1 w5 hown5 hgr5
     have X1:Aside (w5.ownsRow w.heap.size 9 1 v1 1 (aC [dV])/\Below w.heap.size w w5):=⟨hown5,Below.grown HB1.out hgr5 HB1.out.size (fun q hq=>(HO1.out.lt q hq).1)⟩
     clear hown5 hgr5 HO1 HB1 HT1)
  | (refine bE rfl _ _ rfl w.heap.size _ 1 _ rfl (X1.out.1.alloc _) _ [bX,cQ] rfl (cC w5 [bX,cQ] _ rfl 2 rfl 2) (by decide) (Nat.le_trans X1.out.2.size (by rw[World.size_alloc];omega)) ?_;intro v2 w6 hown6 hgr6
     have X2:Aside (w6.ownsRow w.heap.size 9 1 v2 3 (aC [dV,bX,cQ])/\Below w.heap.size w w6):=⟨hown6,Below.grown (X1.out.2.alloc X1.out.2.size _) hgr6 (Nat.le_trans X1.out.2.size (by rw[World.size_alloc];omega)) (fun q hq=>(X1.out.1.lt q hq).1)⟩
     clear hown6 hgr6))
 go_ret
 exact⟨_,rfl,X2.out.1,X2.out.2⟩
theorem vF (w:World):Calls Tryz.prog 17 #[.int .i64 3] w fun e w'=>∃ u,e=.returned u/\w'.ownsRow w.heap.size 9 1 u 3 (aC [kG,bX,cQ])/\Below w.heap.size w w':=by
 have own0:(w.alloc (.cells #[] 9)).ownsRow w.heap.size 9 1 (.slice (some ⟨w.heap.size,0,none⟩) 0 0) 0 []:=World.ownsRow_made w #[] 0 (Nat.le_refl _) (Nat.zero_le _) rfl;have b0:Below w.heap.size w (w.alloc (.cells #[] 9)):=(Below.refl _ _).alloc (Nat.le_refl _) _;have HO1:=zH (own0.alloc (.cells #[.string ⟨#[115,99,114,105,112,116,45,115,114,99,45,97,116,116,114]⟩] 9));have HB1:=zH (b0.alloc b0.size (.cells #[.string ⟨#[115,99,114,105,112,116,45,115,114,99,45,97,116,116,114]⟩] 9))
 have HT1:Hid (aR ((w.alloc (.cells #[] 9)).alloc (.cells #[.string ⟨#[115,99,114,105,112,116,45,115,114,99,45,97,116,116,114]⟩] 9)) (.slice (some ⟨w.heap.size+1,0,none⟩) 1 1) [kG]):=zH (by
  have:=cC (w.alloc (.cells #[] 9)) [kG] #[.string ⟨#[115,99,114,105,112,116,45,115,114,99,45,97,116,116,114]⟩] rfl 1 rfl 1
  rwa [World.size_alloc]at this)
 clear own0 b0
 go_enter Tryz.func17,Tryz.ntmps17
 go_wp2_with (at_builtin;first
  | (refine bE rfl _ _ rfl w.heap.size _ 0 [] rfl HO1.out _ [kG] rfl HT1.out (by decide) HB1.out.size ?_;intro v1 w5 hown5 hgr5
     have X1:Aside (w5.ownsRow w.heap.size 9 1 v1 1 (aC [kG])/\Below w.heap.size w w5):=⟨hown5,Below.grown HB1.out hgr5 HB1.out.size (fun q hq=>(HO1.out.lt q hq).1)⟩
     clear hown5 hgr5 HO1 HB1 HT1)
  | (refine bE rfl _ _ rfl w.heap.size _ 1 _ rfl (X1.out.1.alloc _) _ [bX,cQ] rfl (cC w5 [bX,cQ] _ rfl 2 rfl 2) (by decide) (Nat.le_trans X1.out.2.size (by rw[World.size_alloc];omega)) ?_;intro v2 w6 hown6 hgr6
     have X2:Aside (w6.ownsRow w.heap.size 9 1 v2 3 (aC [kG,bX,cQ])/\Below w.heap.size w w6):=⟨hown6,Below.grown (X1.out.2.alloc X1.out.2.size _) hgr6 (Nat.le_trans X1.out.2.size (by rw[World.size_alloc];omega)) (fun q hq=>(X1.out.1.lt q hq).1)⟩
     clear hown6 hgr6))
 go_ret
 exact⟨_,rfl,X2.out.1,X2.out.2⟩
theorem bH1 (w:World):Calls Tryz.prog 17 #[.int .i64 4] w fun e w'=>∃ u,e=.returned u/\w'.ownsRow w.heap.size 9 1 u 3 (aC [dV,bX,cQ])/\Below w.heap.size w w':=by
 have own0:(w.alloc (.cells #[] 9)).ownsRow w.heap.size 9 1 (.slice (some ⟨w.heap.size,0,none⟩) 0 0) 0 []:=World.ownsRow_made w #[] 0 (Nat.le_refl _) (Nat.zero_le _) rfl;have b0:Below w.heap.size w (w.alloc (.cells #[] 9)):=(Below.refl _ _).alloc (Nat.le_refl _) _;have HO1:=zH (own0.alloc (.cells #[.string ⟨#[115,99,114,105,112,116,45,115,114,99,45,101,108,101,109]⟩] 9));have HB1:=zH (b0.alloc b0.size (.cells #[.string ⟨#[115,99,114,105,112,116,45,115,114,99,45,101,108,101,109]⟩] 9))
 have HT1:Hid (aR ((w.alloc (.cells #[] 9)).alloc (.cells #[.string ⟨#[115,99,114,105,112,116,45,115,114,99,45,101,108,101,109]⟩] 9)) (.slice (some ⟨w.heap.size+1,0,none⟩) 1 1) [dV]):=zH (by
  have:=cC (w.alloc (.cells #[] 9)) [dV] #[.string ⟨#[115,99,114,105,112,116,45,115,114,99,45,101,108,101,109]⟩] rfl 1 rfl 1
  rwa [World.size_alloc]at this)
 clear own0 b0
 go_enter Tryz.func17,Tryz.ntmps17
 go_wp2_with (at_builtin;first
  | (refine bE rfl _ _ rfl w.heap.size _ 0 [] rfl HO1.out _ [dV] rfl HT1.out (by decide) HB1.out.size ?_;intro v1 w5 hown5 hgr5
     have X1:Aside (w5.ownsRow w.heap.size 9 1 v1 1 (aC [dV])/\Below w.heap.size w w5):=⟨hown5,Below.grown HB1.out hgr5 HB1.out.size (fun q hq=>(HO1.out.lt q hq).1)⟩
     clear hown5 hgr5 HO1 HB1 HT1)
  | (refine bE rfl _ _ rfl w.heap.size _ 1 _ rfl (X1.out.1.alloc _) _ [bX,cQ] rfl (cC w5 [bX,cQ] _ rfl 2 rfl 2) (by decide) (Nat.le_trans X1.out.2.size (by rw[World.size_alloc];omega)) ?_;intro v2 w6 hown6 hgr6
     have X2:Aside (w6.ownsRow w.heap.size 9 1 v2 3 (aC [dV,bX,cQ])/\Below w.heap.size w w6):=⟨hown6,Below.grown (X1.out.2.alloc X1.out.2.size _) hgr6 (Nat.le_trans X1.out.2.size (by rw[World.size_alloc];omega)) (fun q hq=>(X1.out.1.lt q hq).1)⟩
     clear hown6 hgr6))
 go_ret
 exact⟨_,rfl,X2.out.1,X2.out.2⟩
theorem bH0 (w:World):Calls Tryz.prog 17 #[.int .i64 5] w fun e w'=>∃ u,e=.returned u/\w'.ownsRow w.heap.size 9 1 u 2 (aC [bX,cQ])/\Below w.heap.size w w':=by
 have own0:(w.alloc (.cells #[] 9)).ownsRow w.heap.size 9 1 (.slice (some ⟨w.heap.size,0,none⟩) 0 0) 0 []:=World.ownsRow_made w #[] 0 (Nat.le_refl _) (Nat.zero_le _) rfl;have b0:Below w.heap.size w (w.alloc (.cells #[] 9)):=(Below.refl _ _).alloc (Nat.le_refl _) _;have HO1:=zH (own0.alloc (.cells #[.string ⟨#[115,99,114,105,112,116,45,115,114,99]⟩,.string ⟨#[100,101,102,97,117,108,116,45,115,114,99]⟩] 9));have HB1:=zH (b0.alloc b0.size (.cells #[.string ⟨#[115,99,114,105,112,116,45,115,114,99]⟩,.string ⟨#[100,101,102,97,117,108,116,45,115,114,99]⟩] 9))
 have HT1:Hid (aR ((w.alloc (.cells #[] 9)).alloc (.cells #[.string ⟨#[115,99,114,105,112,116,45,115,114,99]⟩,.string ⟨#[100,101,102,97,117,108,116,45,115,114,99]⟩] 9)) (.slice (some ⟨w.heap.size+1,0,none⟩) 2 2) [bX,cQ]):=zH (by
  have:=cC (w.alloc (.cells #[] 9)) [bX,cQ] #[.string ⟨#[115,99,114,105,112,116,45,115,114,99]⟩,.string ⟨#[100,101,102,97,117,108,116,45,115,114,99]⟩] rfl 2 rfl 2
  rwa [World.size_alloc]at this)
 clear own0 b0
 go_enter Tryz.func17,Tryz.ntmps17
 go_wp2_with (at_builtin;first
  | (refine bE rfl _ _ rfl w.heap.size _ 0 [] rfl HO1.out _ [bX,cQ] rfl HT1.out (by decide) HB1.out.size ?_;intro v1 w5 hown5 hgr5
     have X1:Aside (w5.ownsRow w.heap.size 9 1 v1 2 (aC [bX,cQ])/\Below w.heap.size w w5):=⟨hown5,Below.grown HB1.out hgr5 HB1.out.size (fun q hq=>(HO1.out.lt q hq).1)⟩
     clear hown5 hgr5 HO1 HB1 HT1))
 go_ret
 exact⟨_,rfl,X1.out.1,X1.out.2⟩
theorem bG9 (w:World):Calls Tryz.prog 17 #[.int .i64 6] w fun e w'=>∃ u,e=.returned u/\w'.ownsRow w.heap.size 9 1 u 2 (aC [bX,cQ])/\Below w.heap.size w w':=by
 have own0:(w.alloc (.cells #[] 9)).ownsRow w.heap.size 9 1 (.slice (some ⟨w.heap.size,0,none⟩) 0 0) 0 []:=World.ownsRow_made w #[] 0 (Nat.le_refl _) (Nat.zero_le _) rfl;have b0:Below w.heap.size w (w.alloc (.cells #[] 9)):=(Below.refl _ _).alloc (Nat.le_refl _) _;have HO1:=zH (own0.alloc (.cells #[.string ⟨#[115,99,114,105,112,116,45,115,114,99]⟩,.string ⟨#[100,101,102,97,117,108,116,45,115,114,99]⟩] 9));have HB1:=zH (b0.alloc b0.size (.cells #[.string ⟨#[115,99,114,105,112,116,45,115,114,99]⟩,.string ⟨#[100,101,102,97,117,108,116,45,115,114,99]⟩] 9))
 have HT1:Hid (aR ((w.alloc (.cells #[] 9)).alloc (.cells #[.string ⟨#[115,99,114,105,112,116,45,115,114,99]⟩,.string ⟨#[100,101,102,97,117,108,116,45,115,114,99]⟩] 9)) (.slice (some ⟨w.heap.size+1,0,none⟩) 2 2) [bX,cQ]):=zH (by
  have:=cC (w.alloc (.cells #[] 9)) [bX,cQ] #[.string ⟨#[115,99,114,105,112,116,45,115,114,99]⟩,.string ⟨#[100,101,102,97,117,108,116,45,115,114,99]⟩] rfl 2 rfl 2
  rwa [World.size_alloc]at this)
 clear own0 b0
 go_enter Tryz.func17,Tryz.ntmps17
 go_wp2_with (at_builtin;first
  | (refine bE rfl _ _ rfl w.heap.size _ 0 [] rfl HO1.out _ [bX,cQ] rfl HT1.out (by decide) HB1.out.size ?_;intro v1 w5 hown5 hgr5
     have X1:Aside (w5.ownsRow w.heap.size 9 1 v1 2 (aC [bX,cQ])/\Below w.heap.size w w5):=⟨hown5,Below.grown HB1.out hgr5 HB1.out.size (fun q hq=>(HO1.out.lt q hq).1)⟩
     clear hown5 hgr5 HO1 HB1 HT1))
 go_ret
 exact⟨_,rfl,X1.out.1,X1.out.2⟩
theorem aQ6 (k:Int)(n1:(k==1)=false)(n2:(k==2)=false)(n3:(k==3)=false)(n4:(k==4)=false)(n5:(k==5)=false)(n6:(k==6)=false)(w:World):Calls Tryz.prog 17 #[.int .i64 k] w fun e w'=>∃ u,e=.returned u/\w'.ownsRow w.heap.size 9 1 u 0 (aC [])/\Below w.heap.size w w':=by
 have own0:(w.alloc (.cells #[] 9)).ownsRow w.heap.size 9 1 (.slice (some ⟨w.heap.size,0,none⟩) 0 0) 0 []:=World.ownsRow_made w #[] 0 (Nat.le_refl _) (Nat.zero_le _) rfl;have b0:Below w.heap.size w (w.alloc (.cells #[] 9)):=(Below.refl _ _).alloc (Nat.le_refl _) _;have H0:=zH (And.intro own0 b0);clear own0 b0
 go_enter Tryz.func17,Tryz.ntmps17
 go_wp2
 go_ret
 exact⟨_,rfl,H0.out.1,H0.out.2⟩
theorem aE7 (k:Int)(w:World):Calls Tryz.prog 17 #[.int .i64 k] w fun e w'=>∃ u,e=.returned u/\w'.ownsRow w.heap.size 9 1 u (bK k).length (aC (bK k))/\Below w.heap.size w w':=by
 by_cases h1:k=1
 · subst h1;exact bH3 w
 by_cases h2:k=2
 · subst h2;exact bH2 w
 by_cases h3:k=3
 · subst h3;exact vF w
 by_cases h4:k=4
 · subst h4;exact bH1 w
 by_cases h5:k=5
 · subst h5;exact bH0 w
 by_cases h6:k=6
 · subst h6;exact bG9 w
 have e:bK k=[]:=by
  unfold bK;rw[if_neg (by omega),if_neg h3,if_neg (by omega)]
 rw[e];exact aQ6 k (beq_eq_false_iff_ne.2 h1) (beq_eq_false_iff_ne.2 h2) (beq_eq_false_iff_ne.2 h3) (beq_eq_false_iff_ne.2 h4) (beq_eq_false_iff_ne.2 h5) (beq_eq_false_iff_ne.2 h6) w
theorem lE (k:Int):Hid (∀ w,Calls Tryz.prog 17 #[.int .i64 k] w fun e w'=>∃ u,e=.returned u/\w'.ownsRow w.heap.size 9 1 u (bK k).length (aC (bK k))/\Below w.heap.size w w'):=zH fun w=>aE7 k w
end Go.Proofs.YthnogdodlhkldaaGreatDoor
