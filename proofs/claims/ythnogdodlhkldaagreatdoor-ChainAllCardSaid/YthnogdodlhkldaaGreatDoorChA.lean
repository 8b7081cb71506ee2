/- The plain mathematics of chain: what policies say of a request, over lists; what the statements of layer 12 want of it. The names of a kind: the program's. -/
import Derived.Test.YthnogdodlhkldaaGreatDoorFoldZ
set_option maxRecDepth 100000
set_option maxHeartbeats 2000000
namespace Go.Proofs.YthnogdodlhkldaaGreatDoor
def dW:List UInt8:=[115,99,114,105,112,116,45,115,114,99,45,101,108,101,109]
def kL:List UInt8:=[115,99,114,105,112,116,45,115,114,99,45,97,116,116,114]
def bZ:List UInt8:=[115,99,114,105,112,116,45,115,114,99]
def cR:List UInt8:=[100,101,102,97,117,108,116,45,115,114,99]
def bL (k:Int):List (List UInt8):=if k=1\/k=2\/k=4 then [dW,bZ,cR] else if k=3 then [kL,bZ,cR] else if k=5\/k=6 then [bZ,cR] else []
def gW (ds:List D):List (List UInt8)->Option (List (List UInt8) × List UInt8)
 | []=>none
 | n :: ns=>match cN ds n with
   | some ws=>some (ws,n)
   | none=>gW ds ns
structure Rq where
 k:Int
 t:List UInt8
 u:U
 m:Bool
 n:List UInt8
 p:Bool
 v:U
def iO (L:List bI)(r:Rq):Bool:=if r.k=2 then lE L r.u r.v r.m r.n r.p else if r.k=5\/r.k=6 then jH L r.k else cC L r.k r.n r.t
def fQ (ds:List D)(r:Rq):Bool × List UInt8:=match gW ds (bL r.k)with
 | none=>(true,[])
 | some x=>(iO (bF x.1) r,x.2)
structure Brk where
 i:Nat
 n:List UInt8
 r:Bool
deriving DecidableEq
def lL (i:Nat)(p:List D × Bool)(r:Rq):List Brk:=if (fQ p.1 r).1 then [] else [⟨i,(fQ p.1 r).2,p.2⟩]
def fB (i:Nat):List (List D × Bool)->Rq->List Brk
 | [],_=>[]
 | p :: ps,r=>lL i p r++fB (i+1) ps r
def bE (ps:List (List D × Bool))(r:Rq):List Brk:=fB 0 ps r
def rV (ps:List (List D × Bool))(r:Rq):Bool:=(bE ps r).all Brk.r
theorem lS (k:Int):(bL k).length<=3:=by
 unfold bL;split
 · decide
 · split
   · decide
   · split<;>decide
theorem oR (k:Int):∀ n∈bL k,bB n=n/\n.length<=15:=by
 unfold bL;split
 · decide
 · split
   · decide
   · split<;>decide
theorem xN (ds:List D):∀(ns:List (List UInt8)) (i:Nat) (hi:i<ns.length) (ws:List (List UInt8)),(∀ j,(h:j<ns.length)->j<i->cN ds ns[j]=none)->cN ds ns[i]=some ws->gW ds ns=some (ws,ns[i])
 | [],i,hi,_,_,_=>by cases hi
 | n :: ns,0,_,ws,_,h=>by
   unfold gW;rw[List.getElem_cons_zero]at h ⊢;rw[h]
 | n :: ns,i+1,hi,ws,h0,h=>by
   unfold gW;have e:=h0 0 (by simp) (by omega);rw[List.getElem_cons_zero]at e;rw[e,List.getElem_cons_succ]at *;exact xN ds ns i (by simpa using hi) ws (fun j hj hji=>by have:=h0 (j+1) (by simpa using hj) (by omega);rwa [List.getElem_cons_succ]at this) h
theorem nW (ds:List D):∀(ns:List (List UInt8)),(∀ j,(h:j<ns.length)->cN ds ns[j]=none)->gW ds ns=none
 | [],_=>rfl
 | n :: ns,h0=>by
   unfold gW;have e:=h0 0 (by simp);rw[List.getElem_cons_zero]at e;rw[e];exact nW ds ns fun j hj=>by have:=h0 (j+1) (by simpa using hj);rwa [List.getElem_cons_succ]at this
theorem oC (p:List D × Bool)(r:Rq):∀(ps:List (List D × Bool)) (i:Nat),fB i (ps++[p]) r=fB i ps r++lL (i+ps.length) p r
 | [],i=>by simp[fB]
 | q :: ps,i=>by
   rw[List.cons_append,fB,fB,oC p r ps (i+1),List.append_assoc,List.length_cons]
   congr 3
   omega
theorem aF6 (ps:List (List D × Bool))(p:List D × Bool)(r:Rq):bE (ps++[p]) r=bE ps r++lL ps.length p r:=by
 unfold bE;rw[oC,Nat.zero_add]
theorem qH (ps:List (List D × Bool))(r:Rq)(k:Nat)(hk:k<ps.length):bE (ps.take (k+1)) r=bE (ps.take k) r++lL k ps[k] r:=by
 rw[List.take_succ_eq_append_getElem hk,aF6,List.length_take,Nat.min_eq_left (zT hk)]
theorem aV6 (i:Nat)(p:List D × Bool)(r:Rq):(lL i p r).length<=1:=by unfold lL;split<;>simp
theorem mS (ps:List (List D × Bool))(r:Rq):(bE ps r).length<=ps.length:=by
 unfold bE;generalize 0=i
 induction ps generalizing i with
 | nil=>exact zL _
 | cons p ps ih =>
   rw[fB,List.length_append,List.length_cons];have:=ih (i+1);have:=aV6 i p r;omega
end Go.Proofs.YthnogdodlhkldaaGreatDoor
namespace Go.Proofs.YthnogdodlhkldaaGreatDoor
open Go.RowKit
theorem bI6 (w:World):Calls Tryz.prog 17 #[.int .i64 1] w fun e w'=>∃ u,e=.returned u/\w'.ownsRow w.heap.size 9 1 u 3 (aC [dW,bZ,cR])/\Below w.heap.size w w':=by
 have own0:(w.alloc (.cells #[] 9)).ownsRow w.heap.size 9 1 (.slice (some ⟨w.heap.size,0,none⟩) 0 0) 0 []:=World.ownsRow_made w #[] 0 (zL _) (Nat.zero_le _) rfl;have b0:Below w.heap.size w (w.alloc (.cells #[] 9)):=(zB _ _).alloc (zL _) _;have HO1:=zH (own0.alloc (.cells #[.string ⟨#[115,99,114,105,112,116,45,115,114,99,45,101,108,101,109]⟩] 9));have HB1:=zH (b0.alloc b0.size (.cells #[.string ⟨#[115,99,114,105,112,116,45,115,114,99,45,101,108,101,109]⟩] 9))
 have HT1:Hid (aR ((w.alloc (.cells #[] 9)).alloc (.cells #[.string ⟨#[115,99,114,105,112,116,45,115,114,99,45,101,108,101,109]⟩] 9)) (.slice (some ⟨w.heap.size+1,0,none⟩) 1 1) [dW]):=zH (by
  have:=cE (w.alloc (.cells #[] 9)) [dW] #[.string ⟨#[115,99,114,105,112,116,45,115,114,99,45,101,108,101,109]⟩] rfl 1 rfl 1
  rwa [World.size_alloc]at this)
 clear own0 b0
 go_enter Tryz.func17,Tryz.ntmps17
 go_wp2_with (at_builtin;first
  | (refine bG rfl _ _ rfl w.heap.size _ 0 [] rfl HO1.out _ [dW] rfl HT1.out (by decide) HB1.out.size ?_;intro v1 w5 hown5 hgr5
     have X1:Aside (w5.ownsRow w.heap.size 9 1 v1 1 (aC [dW])/\Below w.heap.size w w5):=⟨hown5,Below.grown HB1.out hgr5 HB1.out.size (fun q hq=>(HO1.out.lt q hq).1)⟩
     clear hown5 hgr5 HO1 HB1 HT1)
  | (refine bG rfl _ _ rfl w.heap.size _ 1 _ rfl (X1.out.1.alloc _) _ [bZ,cR] rfl (cE w5 [bZ,cR] _ rfl 2 rfl 2) (by decide) (Nat.le_trans X1.out.2.size (by rw[World.size_alloc];omega)) ?_;intro v2 w6 hown6 hgr6
     have X2:Aside (w6.ownsRow w.heap.size 9 1 v2 3 (aC [dW,bZ,cR])/\Below w.heap.size w w6):=⟨hown6,Below.grown (X1.out.2.alloc X1.out.2.size _) hgr6 (Nat.le_trans X1.out.2.size (by rw[World.size_alloc];omega)) (fun q hq=>(X1.out.1.lt q hq).1)⟩
     clear hown6 hgr6))
 go_ret
 exact⟨_,rfl,X2.out.1,X2.out.2⟩
theorem bI5 (w:World):Calls Tryz.prog 17 #[.int .i64 2] w fun e w'=>∃ u,e=.returned u/\w'.ownsRow w.heap.size 9 1 u 3 (aC [dW,bZ,cR])/\Below w.heap.size w w':=by
 have own0:(w.alloc (.cells #[] 9)).ownsRow w.heap.size 9 1 (.slice (some ⟨w.heap.size,0,none⟩) 0 0) 0 []:=World.ownsRow_made w #[] 0 (zL _) (Nat.zero_le _) rfl;have b0:Below w.heap.size w (w.alloc (.cells #[] 9)):=(zB _ _).alloc (zL _) _;have HO1:=zH (own0.alloc (.cells #[.string ⟨#[115,99,114,105,112,116,45,115,114,99,45,101,108,101,109]⟩] 9));have HB1:=zH (b0.alloc b0.size (.cells #[.string ⟨#[115,99,114,105,112,116,45,115,114,99,45,101,108,101,109]⟩] 9))
 have HT1:Hid (aR ((w.alloc (.cells #[] 9)).alloc (.cells #[.string ⟨#[115,99,114,105,112,116,45,115,114,99,45,101,108,101,109]⟩] 9)) (.slice (some ⟨w.heap.size+1,0,none⟩) 1 1) [dW]):=zH (by
  have:=cE (w.alloc (.cells #[] 9)) [dW] #[.string ⟨#[115,99,114,105,112,116,45,115,114,99,45,101,108,101,109]⟩] rfl 1 rfl 1
  rwa [World.size_alloc]at this)
 clear own0 b0
 go_enter Tryz.func17,Tryz.ntmps17
 go_wp2_with (at_builtin;first
  | (refine bG rfl _ _ rfl w.heap.size _ 0 [] rfl HO1.out _ [dW] rfl HT1.out (by decide) HB1.out.size ?_;intro v1 w5 hown5 hgr5
     have X1:Aside (w5.ownsRow w.heap.size 9 1 v1 1 (aC [dW])/\Below w.heap.size w w5):=⟨hown5,Below.grown HB1.out hgr5 HB1.out.size (fun q hq=>(HO1.out.lt q hq).1)⟩
     clear hown5 hgr5 HO1 HB1 HT1)
  | (refine bG rfl _ _ rfl w.heap.size _ 1 _ rfl (X1.out.1.alloc _) _ [bZ,cR] rfl (cE w5 [bZ,cR] _ rfl 2 rfl 2) (by decide) (Nat.le_trans X1.out.2.size (by rw[World.size_alloc];omega)) ?_;intro v2 w6 hown6 hgr6
     have X2:Aside (w6.ownsRow w.heap.size 9 1 v2 3 (aC [dW,bZ,cR])/\Below w.heap.size w w6):=⟨hown6,Below.grown (X1.out.2.alloc X1.out.2.size _) hgr6 (Nat.le_trans X1.out.2.size (by rw[World.size_alloc];omega)) (fun q hq=>(X1.out.1.lt q hq).1)⟩
     clear hown6 hgr6))
 go_ret
 exact⟨_,rfl,X2.out.1,X2.out.2⟩
theorem vJ (w:World):Calls Tryz.prog 17 #[.int .i64 3] w fun e w'=>∃ u,e=.returned u/\w'.ownsRow w.heap.size 9 1 u 3 (aC [kL,bZ,cR])/\Below w.heap.size w w':=by
 have own0:(w.alloc (.cells #[] 9)).ownsRow w.heap.size 9 1 (.slice (some ⟨w.heap.size,0,none⟩) 0 0) 0 []:=World.ownsRow_made w #[] 0 (zL _) (Nat.zero_le _) rfl;have b0:Below w.heap.size w (w.alloc (.cells #[] 9)):=(zB _ _).alloc (zL _) _;have HO1:=zH (own0.alloc (.cells #[.string ⟨#[115,99,114,105,112,116,45,115,114,99,45,97,116,116,114]⟩] 9));have HB1:=zH (b0.alloc b0.size (.cells #[.string ⟨#[115,99,114,105,112,116,45,115,114,99,45,97,116,116,114]⟩] 9))
 have HT1:Hid (aR ((w.alloc (.cells #[] 9)).alloc (.cells #[.string ⟨#[115,99,114,105,112,116,45,115,114,99,45,97,116,116,114]⟩] 9)) (.slice (some ⟨w.heap.size+1,0,none⟩) 1 1) [kL]):=zH (by
  have:=cE (w.alloc (.cells #[] 9)) [kL] #[.string ⟨#[115,99,114,105,112,116,45,115,114,99,45,97,116,116,114]⟩] rfl 1 rfl 1
  rwa [World.size_alloc]at this)
 clear own0 b0
 go_enter Tryz.func17,Tryz.ntmps17
 go_wp2_with (at_builtin;first
  | (refine bG rfl _ _ rfl w.heap.size _ 0 [] rfl HO1.out _ [kL] rfl HT1.out (by decide) HB1.out.size ?_;intro v1 w5 hown5 hgr5
     have X1:Aside (w5.ownsRow w.heap.size 9 1 v1 1 (aC [kL])/\Below w.heap.size w w5):=⟨hown5,Below.grown HB1.out hgr5 HB1.out.size (fun q hq=>(HO1.out.lt q hq).1)⟩
     clear hown5 hgr5 HO1 HB1 HT1)
  | (refine bG rfl _ _ rfl w.heap.size _ 1 _ rfl (X1.out.1.alloc _) _ [bZ,cR] rfl (cE w5 [bZ,cR] _ rfl 2 rfl 2) (by decide) (Nat.le_trans X1.out.2.size (by rw[World.size_alloc];omega)) ?_;intro v2 w6 hown6 hgr6
     have X2:Aside (w6.ownsRow w.heap.size 9 1 v2 3 (aC [kL,bZ,cR])/\Below w.heap.size w w6):=⟨hown6,Below.grown (X1.out.2.alloc X1.out.2.size _) hgr6 (Nat.le_trans X1.out.2.size (by rw[World.size_alloc];omega)) (fun q hq=>(X1.out.1.lt q hq).1)⟩
     clear hown6 hgr6))
 go_ret
 exact⟨_,rfl,X2.out.1,X2.out.2⟩
theorem bI4 (w:World):Calls Tryz.prog 17 #[.int .i64 4] w fun e w'=>∃ u,e=.returned u/\w'.ownsRow w.heap.size 9 1 u 3 (aC [dW,bZ,cR])/\Below w.heap.size w w':=by
 have own0:(w.alloc (.cells #[] 9)).ownsRow w.heap.size 9 1 (.slice (some ⟨w.heap.size,0,none⟩) 0 0) 0 []:=World.ownsRow_made w #[] 0 (zL _) (Nat.zero_le _) rfl;have b0:Below w.heap.size w (w.alloc (.cells #[] 9)):=(zB _ _).alloc (zL _) _;have HO1:=zH (own0.alloc (.cells #[.string ⟨#[115,99,114,105,112,116,45,115,114,99,45,101,108,101,109]⟩] 9));have HB1:=zH (b0.alloc b0.size (.cells #[.string ⟨#[115,99,114,105,112,116,45,115,114,99,45,101,108,101,109]⟩] 9))
 have HT1:Hid (aR ((w.alloc (.cells #[] 9)).alloc (.cells #[.string ⟨#[115,99,114,105,112,116,45,115,114,99,45,101,108,101,109]⟩] 9)) (.slice (some ⟨w.heap.size+1,0,none⟩) 1 1) [dW]):=zH (by
  have:=cE (w.alloc (.cells #[] 9)) [dW] #[.string ⟨#[115,99,114,105,112,116,45,115,114,99,45,101,108,101,109]⟩] rfl 1 rfl 1
  rwa [World.size_alloc]at this)
 clear own0 b0
 go_enter Tryz.func17,Tryz.ntmps17
 go_wp2_with (at_builtin;first
  | (refine bG rfl _ _ rfl w.heap.size _ 0 [] rfl HO1.out _ [dW] rfl HT1.out (by decide) HB1.out.size ?_;intro v1 w5 hown5 hgr5
     have X1:Aside (w5.ownsRow w.heap.size 9 1 v1 1 (aC [dW])/\Below w.heap.size w w5):=⟨hown5,Below.grown HB1.out hgr5 HB1.out.size (fun q hq=>(HO1.out.lt q hq).1)⟩
     clear hown5 hgr5 HO1 HB1 HT1)
  | (refine bG rfl _ _ rfl w.heap.size _ 1 _ rfl (X1.out.1.alloc _) _ [bZ,cR] rfl (cE w5 [bZ,cR] _ rfl 2 rfl 2) (by decide) (Nat.le_trans X1.out.2.size (by rw[World.size_alloc];omega)) ?_;intro v2 w6 hown6 hgr6
     have X2:Aside (w6.ownsRow w.heap.size 9 1 v2 3 (aC [dW,bZ,cR])/\Below w.heap.size w w6):=⟨hown6,Below.grown (X1.out.2.alloc X1.out.2.size _) hgr6 (Nat.le_trans X1.out.2.size (by rw[World.size_alloc];omega)) (fun q hq=>(X1.out.1.lt q hq).1)⟩
     clear hown6 hgr6))
 go_ret
 exact⟨_,rfl,X2.out.1,X2.out.2⟩
theorem bI3 (w:World):Calls Tryz.prog 17 #[.int .i64 5] w fun e w'=>∃ u,e=.returned u/\w'.ownsRow w.heap.size 9 1 u 2 (aC [bZ,cR])/\Below w.heap.size w w':=by
 have own0:(w.alloc (.cells #[] 9)).ownsRow w.heap.size 9 1 (.slice (some ⟨w.heap.size,0,none⟩) 0 0) 0 []:=World.ownsRow_made w #[] 0 (zL _) (Nat.zero_le _) rfl;have b0:Below w.heap.size w (w.alloc (.cells #[] 9)):=(zB _ _).alloc (zL _) _;have HO1:=zH (own0.alloc (.cells #[.string ⟨#[115,99,114,105,112,116,45,115,114,99]⟩,.string ⟨#[100,101,102,97,117,108,116,45,115,114,99]⟩] 9));have HB1:=zH (b0.alloc b0.size (.cells #[.string ⟨#[115,99,114,105,112,116,45,115,114,99]⟩,.string ⟨#[100,101,102,97,117,108,116,45,115,114,99]⟩] 9))
 have HT1:Hid (aR ((w.alloc (.cells #[] 9)).alloc (.cells #[.string ⟨#[115,99,114,105,112,116,45,115,114,99]⟩,.string ⟨#[100,101,102,97,117,108,116,45,115,114,99]⟩] 9)) (.slice (some ⟨w.heap.size+1,0,none⟩) 2 2) [bZ,cR]):=zH (by
  have:=cE (w.alloc (.cells #[] 9)) [bZ,cR] #[.string ⟨#[115,99,114,105,112,116,45,115,114,99]⟩,.string ⟨#[100,101,102,97,117,108,116,45,115,114,99]⟩] rfl 2 rfl 2
  rwa [World.size_alloc]at this)
 clear own0 b0
 go_enter Tryz.func17,Tryz.ntmps17
 go_wp2_with (at_builtin;first
  | (refine bG rfl _ _ rfl w.heap.size _ 0 [] rfl HO1.out _ [bZ,cR] rfl HT1.out (by decide) HB1.out.size ?_;intro v1 w5 hown5 hgr5
     have X1:Aside (w5.ownsRow w.heap.size 9 1 v1 2 (aC [bZ,cR])/\Below w.heap.size w w5):=⟨hown5,Below.grown HB1.out hgr5 HB1.out.size (fun q hq=>(HO1.out.lt q hq).1)⟩
     clear hown5 hgr5 HO1 HB1 HT1))
 go_ret
 exact⟨_,rfl,X1.out.1,X1.out.2⟩
theorem bI2 (w:World):Calls Tryz.prog 17 #[.int .i64 6] w fun e w'=>∃ u,e=.returned u/\w'.ownsRow w.heap.size 9 1 u 2 (aC [bZ,cR])/\Below w.heap.size w w':=by
 have own0:(w.alloc (.cells #[] 9)).ownsRow w.heap.size 9 1 (.slice (some ⟨w.heap.size,0,none⟩) 0 0) 0 []:=World.ownsRow_made w #[] 0 (zL _) (Nat.zero_le _) rfl;have b0:Below w.heap.size w (w.alloc (.cells #[] 9)):=(zB _ _).alloc (zL _) _;have HO1:=zH (own0.alloc (.cells #[.string ⟨#[115,99,114,105,112,116,45,115,114,99]⟩,.string ⟨#[100,101,102,97,117,108,116,45,115,114,99]⟩] 9));have HB1:=zH (b0.alloc b0.size (.cells #[.string ⟨#[115,99,114,105,112,116,45,115,114,99]⟩,.string ⟨#[100,101,102,97,117,108,116,45,115,114,99]⟩] 9))
 have HT1:Hid (aR ((w.alloc (.cells #[] 9)).alloc (.cells #[.string ⟨#[115,99,114,105,112,116,45,115,114,99]⟩,.string ⟨#[100,101,102,97,117,108,116,45,115,114,99]⟩] 9)) (.slice (some ⟨w.heap.size+1,0,none⟩) 2 2) [bZ,cR]):=zH (by
  have:=cE (w.alloc (.cells #[] 9)) [bZ,cR] #[.string ⟨#[115,99,114,105,112,116,45,115,114,99]⟩,.string ⟨#[100,101,102,97,117,108,116,45,115,114,99]⟩] rfl 2 rfl 2
  rwa [World.size_alloc]at this)
 clear own0 b0
 go_enter Tryz.func17,Tryz.ntmps17
 go_wp2_with (at_builtin;first
  | (refine bG rfl _ _ rfl w.heap.size _ 0 [] rfl HO1.out _ [bZ,cR] rfl HT1.out (by decide) HB1.out.size ?_;intro v1 w5 hown5 hgr5
     have X1:Aside (w5.ownsRow w.heap.size 9 1 v1 2 (aC [bZ,cR])/\Below w.heap.size w w5):=⟨hown5,Below.grown HB1.out hgr5 HB1.out.size (fun q hq=>(HO1.out.lt q hq).1)⟩
     clear hown5 hgr5 HO1 HB1 HT1))
 go_ret
 exact⟨_,rfl,X1.out.1,X1.out.2⟩
theorem aR5 (k:Int)(n1:(k==1)=false)(n2:(k==2)=false)(n3:(k==3)=false)(n4:(k==4)=false)(n5:(k==5)=false)(n6:(k==6)=false)(w:World):Calls Tryz.prog 17 #[.int .i64 k] w fun e w'=>∃ u,e=.returned u/\w'.ownsRow w.heap.size 9 1 u 0 (aC [])/\Below w.heap.size w w':=by
 have own0:(w.alloc (.cells #[] 9)).ownsRow w.heap.size 9 1 (.slice (some ⟨w.heap.size,0,none⟩) 0 0) 0 []:=World.ownsRow_made w #[] 0 (zL _) (Nat.zero_le _) rfl;have b0:Below w.heap.size w (w.alloc (.cells #[] 9)):=(zB _ _).alloc (zL _) _;have H0:=zH (And.intro own0 b0);clear own0 b0
 go_enter Tryz.func17,Tryz.ntmps17
 go_wp2
 go_ret
 exact⟨_,rfl,H0.out.1,H0.out.2⟩
theorem aF3 (k:Int)(w:World):Calls Tryz.prog 17 #[.int .i64 k] w fun e w'=>∃ u,e=.returned u/\w'.ownsRow w.heap.size 9 1 u (bL k).length (aC (bL k))/\Below w.heap.size w w':=by
 by_cases h1:k=1
 · subst h1;exact bI6 w
 by_cases h2:k=2
 · subst h2;exact bI5 w
 by_cases h3:k=3
 · subst h3;exact vJ w
 by_cases h4:k=4
 · subst h4;exact bI4 w
 by_cases h5:k=5
 · subst h5;exact bI3 w
 by_cases h6:k=6
 · subst h6;exact bI2 w
 have e:bL k=[]:=by
  unfold bL;rw[if_neg (by omega),if_neg h3,if_neg (by omega)]
 rw[e];exact aR5 k (beq_eq_false_iff_ne.2 h1) (beq_eq_false_iff_ne.2 h2) (beq_eq_false_iff_ne.2 h3) (beq_eq_false_iff_ne.2 h4) (beq_eq_false_iff_ne.2 h5) (beq_eq_false_iff_ne.2 h6) w
theorem lK (k:Int):Hid (∀ w,Calls Tryz.prog 17 #[.int .i64 k] w fun e w'=>∃ u,e=.returned u/\w'.ownsRow w.heap.size 9 1 u (bL k).length (aC (bL k))/\Below w.heap.size w w'):=zH fun w=>aF3 k w
end Go.Proofs.YthnogdodlhkldaaGreatDoor
