/- The rows' arguments: texts, numbers, policies and rows of them, requests, addresses; the library's and the project's own variables, off the world's shape and the rows' list; a world for the witness, which holds what is listed. -/
import Derived.Test.YthnogdodlhkldaaGreatDoorRows
import Derived.Test.YthnogdodlhkldaaGreatDoorRcA
import Derived.ProofKit
import Derived.OpenShut
import Derived.Carry
import Derived.ChangeMaps5
import Derived.Shelf.Vars
import Derived.Lib.LaidU8
import Derived.Lib.SmallJoins
import Derived.LaidLaws
import Derived.Deep.Slices
import Derived.Deep.SlicePairs
import Derived.SliceStrings
namespace Go.Proofs.YthnogdodlhkldaaGreatDoor
open Go.ChangeShapes Go.WideShapes Go.ChangeAt Go.RowKit
set_option maxRecDepth 100000
theorem own:ownKnob Tryz.prog.godebug=none:=by kernel_rfl
theorem laidOut:laidOutB Tryz.prog=true:=by kernel_rfl
theorem rX {W:World}(h:W.ShapedOpen Tryz.prog):aQ W :=
 cell_of_shapedOpen_int (zero:=#[.int .i64 0]) (t:=3) h (of_decide_eq_true (by kernel_rfl)) (by kernel_rfl) rfl (by kernel_rfl) (by kernel_rfl) Tryz.underlying3
def lists:List (String × DataW Unit):=[("math/bits.deBruijn32tab",Rows.laid_math_bits_deBruijn32tab),("math/bits.deBruijn64tab",Rows.laid_math_bits_deBruijn64tab),("internal/strconv.uint64pow10",Rows.laid_internal_strconv_uint64pow10),("unicode/utf8.acceptRanges",Rows.laid_unicode_utf8_acceptRanges),("strconv.ErrRange",Rows.laid_strconv_ErrRange),("strconv.ErrSyntax",Rows.laid_strconv_ErrSyntax),("pounce/source.keptWords",Rows.laid_pounce_source_keptWords),("unicode/utf8.first",Rows.laid_unicode_utf8_first)]
theorem gPow:Tryz.prog.globalNamed "internal/strconv.uint64pow10" = some 2:=by kernel_rfl
theorem tPow:(Tryz.prog.globals[2]?).map (·.type)=some 219:=by kernel_rfl
theorem aN0:(Rows.laid_internal_strconv_uint64pow10:DataW Unit)=Lib.tabData .u64 Lib.pow10Tab:=by kernel_rfl
theorem sM:Tryz.prog.cellsOf 121=1:=by kernel_rfl
theorem sN:Tryz.prog.cellsOf 219=20:=by kernel_rfl
theorem rC {W:World}(h:laidMet Tryz.prog lists W):aS W:=by
 have h3:Lib.VarReads Tryz.prog W "internal/strconv.uint64pow10" (Lib.tabData .u64 Lib.pow10Tab):=aN0 ▸ Lib.laidMet.reads h (by simp[lists]);obtain⟨g,t,cs,fuel,p,hg,hty,hvar,hd⟩:=h3;obtain rfl:=Option.some.inj (gPow.symm.trans hg);obtain rfl:=Option.some.inj (tPow.symm.trans hty);unfold aS Lib.TabIs;rw[hvar,<- Lib.cells_of_tab Tryz.underlying219 Tryz.underlying121 sM sN hd]
theorem gSyn:Tryz.prog.globalNamed "strconv.ErrSyntax" = some 7:=by kernel_rfl
theorem tSyn:(Tryz.prog.globals[7]?).map (·.type)=some 117:=by kernel_rfl
theorem gRng:Tryz.prog.globalNamed "strconv.ErrRange" = some 8:=by kernel_rfl
theorem tRng:(Tryz.prog.globals[8]?).map (·.type)=some 117:=by kernel_rfl
theorem jI {W:World}{n:String}{nm:String}{d:DataW Unit}{g:Nat}(hn:Tryz.prog.globalNamed n=some g)(ht:(Tryz.prog.globals[g]?).map (·.type)=some 117)(h:Lib.VarReads Tryz.prog W n (.iface nm d)):∃ v,W.cell? ⟨g,0,none⟩=some v/\lN v:=by
 obtain⟨g',t,cs,fuel,p,hg,hty,hvar,hd⟩:=h;obtain rfl:=Option.some.inj (hn.symm.trans hg);obtain rfl:=Option.some.inj (ht.symm.trans hty);obtain⟨f1,u,v,hcs,_,_⟩:=iface_of_trod Tryz.underlying117 hd;have hc:=World.var?_cell hg hvar 0;rw[<- Array.getElem?_toList,hcs]at hc;exact⟨_,hc,.inr ⟨u,v,rfl⟩⟩
theorem gKept:Tryz.prog.globalNamed "pounce/source.keptWords" = some 0:=by kernel_rfl
theorem tKept:(Tryz.prog.globals[0]?).map (·.type)=some 185:=by kernel_rfl
theorem xR:Tryz.prog.cellsOf 184=2:=by kernel_rfl
theorem vP {H:Type} {enc:TypeId × Value->H} {P:Program} {w:World} {base:Nat} {sp:Nat->Bool} {held:Bool} {fuel:Nat} {t:TypeId} {f0 f1:Field} {cs:List Value} {x:List UInt8} {z:Int} {p:List MemPlace} (ht:P.underlying t=some (.struct #[f0,f1])) (h0:P.underlying f0.type=some .string/\f0.offset=0/\P.cellsOf f0.type=1) (h1:P.underlying f1.type=some (.int .i64)/\f1.offset=1/\P.cellsOf f1.type=1)
 (h:DataW.trod enc P w base sp held fuel t cs=some (.agg [.lit (.string x),.lit (.int .i64 z)],p)):cs[0]? = some (.string ⟨x.toArray⟩)/\cs[1]? = some (.int .i64 z):=by
 obtain⟨xs,n,rfl,hx,hl,hxl,hall⟩:=DataW.trod_struct ht h
 have hxs:xs.map (·.1)=[.lit (.string x),.lit (.int .i64 z)]:=by
  have:=congrArg Prod.fst hx
  simpa using this.symm
 obtain⟨y0,y1,rfl⟩:∃ y0 y1,xs=[y0,y1]:=by
  match xs,hxl with
  | [y0,y1],_=>exact⟨y0,y1,rfl⟩
 simp only[List.map_cons,List.map_nil,List.cons.injEq,and_true]at hxs;have k0:=hall 0 f0 rfl;have k1:=hall 1 f1 rfl;rw[h0.2.1,h0.2.2]at k0;rw[h1.2.1,h1.2.2]at k1;obtain⟨s,e0,e1,_⟩:=DataW.trod_string h0.1 k0;obtain⟨m,e2,e3,_⟩:=DataW.trod_int h1.1 k1;have q0:=hxs.1;have q1:=hxs.2;have r0:=congrArg (·[0]?) e0;have r1:=congrArg (·[0]?) e2;subst e1;subst e3;simp only[List.getElem?_take,List.getElem?_drop]at r0 r1;simp only[DataW.lit.injEq,Lit.string.injEq]at q0;simp only[DataW.lit.injEq,Lit.int.injEq,true_and]at q1;constructor
 · rw[<- q0,<- aM (T:=s) rfl]
   simpa using r0
 · rw[<- q1]
   simpa using r1
theorem oW {W:World}(h:laidMet Tryz.prog lists W):fU W:=by
 have h3:Lib.VarReads Tryz.prog W "pounce/source.keptWords" Rows.laid_pounce_source_keptWords:=Lib.laidMet.reads h (by simp[lists]);obtain⟨g,t,cs,fuel,p,hg,hty,hvar,hd⟩:=h3;obtain rfl:=Option.some.inj (gKept.symm.trans hg);obtain rfl:=Option.some.inj (tKept.symm.trans hty)
 have hat:∀ i,i<8->∀ x z,(KEPT.getD i [])=x->(z:Int)=i+1->W.cell? ⟨0,2 * i,none⟩=some (.string ⟨x.toArray⟩)/\W.cell? ⟨0,2 * i+1,none⟩=some (.int .i64 z):=by
  intro i hi x z hx hz;obtain⟨fuel',d,q,hdi,he⟩:=Lib.array_elem Tryz.underlying185 hd i hi
  have hd2:d=.agg [.lit (.string x),.lit (.int .i64 z)]:=by
   subst hx;subst hz;obtain rfl | rfl | rfl | rfl | rfl | rfl | rfl | rfl:i=0\/i=1\/i=2\/i=3\/i=4\/i=5\/i=6\/i=7:=by omega
   all_goals exact(Option.some.inj hdi).symm
  subst hd2;rw[xR]at he;obtain⟨e0,e1⟩:=vP Tryz.underlying184 ⟨Tryz.underlying9,rfl,by kernel_rfl⟩ ⟨Tryz.underlying73,rfl,by kernel_rfl⟩ he;simp only[List.getElem?_take,List.getElem?_drop]at e0 e1;constructor
  · rw[World.var?_cell hg hvar (2 * i),<- Array.getElem?_toList]
    simpa [Nat.mul_comm] using e0
  · rw[World.var?_cell hg hvar (2 * i+1),<- Array.getElem?_toList]
    simpa [Nat.mul_comm] using e1
 intro j hj;have h2:=hat (j / 2) (by omega) _ _ rfl rfl;obtain rfl | rfl | rfl | rfl | rfl | rfl | rfl | rfl | rfl | rfl | rfl | rfl | rfl | rfl | rfl | rfl:j=0\/j=1\/j=2\/j=3\/j=4\/j=5\/j=6\/j=7\/j=8\/j=9\/j=10\/j=11\/j=12\/j=13\/j=14\/j=15:=by omega
 all_goals first | exact h2.1 | exact h2.2
theorem low_of {W:World}(hL:laidMet Tryz.prog lists W)(hS:W.ShapedOpen Tryz.prog):dZ W :=
 ⟨rX hS,rC hL,oW hL,jI gSyn tSyn (Lib.laidMet.reads hL (n := "strconv.ErrSyntax") (d:=Rows.laid_strconv_ErrSyntax) (by simp[lists])),jI gRng tRng (Lib.laidMet.reads hL (n := "strconv.ErrRange") (d:=Rows.laid_strconv_ErrRange) (by simp[lists]))⟩
theorem jN (b off j:Nat):(⟨b,off,none⟩:Addr).add j=⟨b,off+j,none⟩:=by unfold Addr.add;split<;>simp_all
section
open Go.Joins Go.Deep
variable {H:Type} {enc:TypeId × Value->H} {P:Program} {w:World} {base:Nat} {spare:Nat->Bool} {held:Bool}
theorem aT1 {r:Reach} {b0:Nat} {t:TypeId} {f0 f1 f2 f3 f4 f5 f6:Field} {v:Value} {d:DataW H} {p:List MemPlace} (hs:P.underlying t=some (.struct #[f0,f1,f2,f3,f4,f5,f6])) (hone:oneCellFields P #[f0,f1,f2,f3,f4,f5,f6]=true) (hC:P.cellsOf t=7)
 (hv:Value.okWide P w r b0 t v) (h:DataW.Trod enc P w base spare held t v d p) :
 ∃(v0 v1 v2 v3 v4 v5 v6:Value) (y0 y1 y2 y3 y4 y5 y6:DataW H × List MemPlace) (n:Nat),v=.agg #[v0,v1,v2,v3,v4,v5,v6] /\
  DataW.trod enc P w base spare held n f0.type [v0]=some y0/\DataW.trod enc P w base spare held n f1.type [v1]=some y1/\DataW.trod enc P w base spare held n f2.type [v2]=some y2/\DataW.trod enc P w base spare held n f3.type [v3]=some y3/\DataW.trod enc P w base spare held n f4.type [v4]=some y4/\DataW.trod enc P w base spare held n f5.type [v5]=some y5/\DataW.trod enc P w base spare held n f6.type [v6]=some y6:=by
 obtain⟨cs,rfl,hsz⟩:=okWide_struct hs hv;obtain⟨l⟩:=cs
 match l,hsz.trans hC with
 | [c0,c1,c2,c3,c4,c5,c6],_ =>
   obtain⟨fuel,hf⟩:=h;obtain⟨xs,n,_,_,_,hlen,hg⟩:=DataW.trod_struct hs hf;obtain⟨o0,k0⟩:=hone_of hone 0 f0 rfl;obtain⟨o1,k1⟩:=hone_of hone 1 f1 rfl;obtain⟨o2,k2⟩:=hone_of hone 2 f2 rfl;obtain⟨o3,k3⟩:=hone_of hone 3 f3 rfl;obtain⟨o4,k4⟩:=hone_of hone 4 f4 rfl;obtain⟨o5,k5⟩:=hone_of hone 5 f5 rfl;obtain⟨o6,k6⟩:=hone_of hone 6 f6 rfl
   match xs,hlen with
   | [y0,y1,y2,y3,y4,y5,y6],_ =>
     exact⟨c0,c1,c2,c3,c4,c5,c6,y0,y1,y2,y3,y4,y5,y6,n,rfl,by simpa [Value.cells,o0,k0] using hg 0 f0 rfl,by simpa [Value.cells,o1,k1] using hg 1 f1 rfl,by simpa [Value.cells,o2,k2] using hg 2 f2 rfl,by simpa [Value.cells,o3,k3] using hg 3 f3 rfl,by simpa [Value.cells,o4,k4] using hg 4 f4 rfl,by simpa [Value.cells,o5,k5] using hg 5 f5 rfl,by simpa [Value.cells,o6,k6] using hg 6 f6 rfl⟩
end
section
open Go.Joins Go.Deep
variable {H:Type} {enc:TypeId × Value->H} {P:Program} {w:World} {base:Nat} {spare:Nat->Bool} {held:Bool}
theorem aI1 {t:TypeId} {f0 f1 f2 f3 f4 f5:Field} {n:Nat} {c0 c1 c2 c3 c4 c5:Value} {y:DataW H × List MemPlace} (hs:P.underlying t=some (.struct #[f0,f1,f2,f3,f4,f5])) (hone:oneCellFields P #[f0,f1,f2,f3,f4,f5]=true)
 (h:DataW.trod enc P w base spare held n t [c0,c1,c2,c3,c4,c5]=some y) :
 ∃(y0 y1 y2 y3 y4 y5:DataW H × List MemPlace) (m:Nat),DataW.trod enc P w base spare held m f0.type [c0]=some y0/\DataW.trod enc P w base spare held m f1.type [c1]=some y1/\DataW.trod enc P w base spare held m f2.type [c2]=some y2/\DataW.trod enc P w base spare held m f3.type [c3]=some y3/\DataW.trod enc P w base spare held m f4.type [c4]=some y4/\DataW.trod enc P w base spare held m f5.type [c5]=some y5:=by
 obtain⟨xs,m,_,_,_,hlen,hg⟩:=DataW.trod_struct hs h;obtain⟨o0,k0⟩:=hone_of hone 0 f0 rfl;obtain⟨o1,k1⟩:=hone_of hone 1 f1 rfl;obtain⟨o2,k2⟩:=hone_of hone 2 f2 rfl;obtain⟨o3,k3⟩:=hone_of hone 3 f3 rfl;obtain⟨o4,k4⟩:=hone_of hone 4 f4 rfl;obtain⟨o5,k5⟩:=hone_of hone 5 f5 rfl
 match xs,hlen with
 | [y0,y1,y2,y3,y4,y5],_ =>
   exact⟨y0,y1,y2,y3,y4,y5,m,by simpa [o0,k0] using hg 0 f0 rfl,by simpa [o1,k1] using hg 1 f1 rfl,by simpa [o2,k2] using hg 2 f2 rfl,by simpa [o3,k3] using hg 3 f3 rfl,by simpa [o4,k4] using hg 4 f4 rfl,by simpa [o5,k5] using hg 5 f5 rfl⟩
theorem mP {r:Reach} {b0:Nat} {t:TypeId} {f0 f1 f2 f3 f4 f5 f6:Field} {v:Value} {d:DataW H} {p:List MemPlace} (hs:P.underlying t=some (.struct #[f0,f1,f2,f3,f4,f5,f6])) (ho:f0.offset=0/\f1.offset=1/\f2.offset=2/\f3.offset=8/\f4.offset=9/\f5.offset=10/\f6.offset=11) (hc:P.cellsOf f0.type=1/\P.cellsOf f1.type=1/\P.cellsOf f2.type=6/\P.cellsOf f3.type=1/\P.cellsOf f4.type=1/\P.cellsOf f5.type=1/\P.cellsOf f6.type=6) (hC:P.cellsOf t=17)
 (hv:Value.okWide P w r b0 t v) (h:DataW.Trod enc P w base spare held t v d p) :
 ∃(v0 v1 v2 v3 v4 v5 v6 v7 v8 v9 v10 v11 v12 v13 v14 v15 v16:Value) (y0 y1 y2 y3 y4 y5 y6:DataW H × List MemPlace) (n:Nat),v=.agg #[v0,v1,v2,v3,v4,v5,v6,v7,v8,v9,v10,v11,v12,v13,v14,v15,v16]/\DataW.trod enc P w base spare held n f0.type [v0]=some y0/\DataW.trod enc P w base spare held n f1.type [v1]=some y1/\DataW.trod enc P w base spare held n f2.type [v2,v3,v4,v5,v6,v7]=some y2/\DataW.trod enc P w base spare held n f3.type [v8]=some y3/\DataW.trod enc P w base spare held n f4.type [v9]=some y4/\DataW.trod enc P w base spare held n f5.type [v10]=some y5/\DataW.trod enc P w base spare held n f6.type [v11,v12,v13,v14,v15,v16]=some y6:=by
 obtain⟨cs,rfl,hsz⟩:=okWide_struct hs hv;obtain⟨l⟩:=cs;obtain⟨o0,o1,o2,o3,o4,o5,o6⟩:=ho;obtain⟨k0,k1,k2,k3,k4,k5,k6⟩:=hc
 match l,hsz.trans hC with
 | [v0,v1,v2,v3,v4,v5,v6,v7,v8,v9,v10,v11,v12,v13,v14,v15,v16],_ =>
   obtain⟨fuel,hf⟩:=h;obtain⟨xs,n,_,_,_,hlen,hg⟩:=DataW.trod_struct hs hf
   match xs,hlen with
   | [y0,y1,y2,y3,y4,y5,y6],_ =>
     exact⟨v0,v1,v2,v3,v4,v5,v6,v7,v8,v9,v10,v11,v12,v13,v14,v15,v16,y0,y1,y2,y3,y4,y5,y6,n,rfl,by simpa [Value.cells,o0,k0] using hg 0 f0 rfl,by simpa [Value.cells,o1,k1] using hg 1 f1 rfl,by simpa [Value.cells,o2,k2] using hg 2 f2 rfl,by simpa [Value.cells,o3,k3] using hg 3 f3 rfl,by simpa [Value.cells,o4,k4] using hg 4 f4 rfl,by simpa [Value.cells,o5,k5] using hg 5 f5 rfl,by simpa [Value.cells,o6,k6] using hg 6 f6 rfl⟩
end
theorem qZ {H:Type}{enc:TypeId × Value->H}{W:World}{base n:Nat}{spare:Nat->Bool}{held:Bool}{c0 c1 c2 c3 c4 c5:Value}{y:DataW H × List MemPlace}(hu:DataW.trod enc Tryz.prog W base spare held n 40 [c0,c1,c2,c3,c4,c5]=some y) :
 ∃(o:Bool) (s h:ByteArray) (q:Int) (pa qu:ByteArray),c0=.bool o/\c1=.string s/\c2=.string h/\c3=.int .i64 q/\c4=.string pa/\c5=.string qu:=by
 obtain⟨y0,y1,y2,y3,y4,y5,m,h0,h1,h2,h3,h4,h5⟩:=aI1 Tryz.underlying40 (by kernel_rfl) hu;obtain⟨o,e0,_⟩:=DataW.trod_bool Tryz.underlying4 h0;obtain⟨s,e1,_⟩:=DataW.trod_string Tryz.underlying9 h1;obtain⟨h,e2,_⟩:=DataW.trod_string Tryz.underlying9 h2;obtain⟨q,e3,_⟩:=DataW.trod_int Tryz.underlying3 h3;obtain⟨pa,e4,_⟩:=DataW.trod_string Tryz.underlying9 h4;obtain⟨qu,e5,_⟩:=DataW.trod_string Tryz.underlying9 h5
 cases e0;cases e1;cases e2;cases e3;cases e4;cases e5
 exact⟨o,s,h,q,pa,qu,rfl,rfl,rfl,rfl,rfl,rfl⟩
theorem arg_request {H:Type}{enc:TypeId × Value->H}{W:World}{v:Value}{d:DataW H}{p:List MemPlace}{base:Nat}(hok:Value.okWide Tryz.prog W .any base 42 v)(hj:DataW.Trod enc Tryz.prog W 0 (fun _=>true) true 42 v d p):∃ x:Int × ByteArray × Bool × ByteArray × ByteArray × Int × ByteArray × ByteArray × Bool × ByteArray × Bool × Bool × ByteArray × ByteArray × Int × ByteArray × ByteArray,v=bN x.1 x.2.1 x.2.2.1 x.2.2.2.1 x.2.2.2.2.1 x.2.2.2.2.2.1 x.2.2.2.2.2.2.1 x.2.2.2.2.2.2.2.1 x.2.2.2.2.2.2.2.2.1 x.2.2.2.2.2.2.2.2.2.1 x.2.2.2.2.2.2.2.2.2.2.1 x.2.2.2.2.2.2.2.2.2.2.2.1 x.2.2.2.2.2.2.2.2.2.2.2.2.1 x.2.2.2.2.2.2.2.2.2.2.2.2.2.1 x.2.2.2.2.2.2.2.2.2.2.2.2.2.2.1 x.2.2.2.2.2.2.2.2.2.2.2.2.2.2.2.1 x.2.2.2.2.2.2.2.2.2.2.2.2.2.2.2.2:=by
 obtain⟨v0,v1,v2,v3,v4,v5,v6,v7,v8,v9,v10,v11,v12,v13,v14,v15,v16,y0,y1,y2,y3,y4,y5,y6,n,rfl,h0,h1,h2,h3,h4,h5,h6⟩:=mP Tryz.underlying42 ⟨rfl,rfl,rfl,rfl,rfl,rfl,rfl⟩ ⟨by kernel_rfl,by kernel_rfl,by kernel_rfl,by kernel_rfl,by kernel_rfl,by kernel_rfl,by kernel_rfl⟩ (by kernel_rfl) hok hj;obtain⟨k,e0,_⟩:=DataW.trod_int Tryz.underlying25 h0;obtain⟨t,e1,_⟩:=DataW.trod_string Tryz.underlying9 h1;obtain⟨o,s,h,q,pa,qu,rfl,rfl,rfl,rfl,rfl,rfl⟩:=qZ h2;obtain⟨mv,e3,_⟩:=DataW.trod_bool Tryz.underlying4 h3;obtain⟨rn,e4,_⟩:=DataW.trod_string Tryz.underlying9 h4;obtain⟨pr,e5,_⟩:=DataW.trod_bool Tryz.underlying4 h5;obtain⟨o3,s3,h3',q3,pa3,qu3,rfl,rfl,rfl,rfl,rfl,rfl⟩:=qZ h6
 cases e0;cases e1;cases e3;cases e4;cases e5
 exact⟨(k,t,o,s,h,q,pa,qu,mv,rn,pr,o3,s3,h3',q3,pa3,qu3),rfl⟩
theorem lT {α:Type}{P:Nat->α->Prop}:∀(n:Nat),(∀ i,i<n->∃ x,P i x)->∃ l:List α,l.length=n/\∀ i,(h:i<l.length)->P i l[i]
 | 0,_=>⟨[],rfl,fun i h=>by cases h⟩
 | n+1,h=>by
   obtain⟨l,h1,h2⟩:=lT n (fun i hi=>h i (by omega));obtain⟨x,hx⟩:=h n (by omega);refine⟨l++[x],by simp[h1],fun i hi => ?_⟩
   by_cases hlt:i<l.length
   · rw[List.getElem_append_left hlt];exact h2 i hlt
   · have e:i=l.length:=by simp at hi;omega
     subst e;rw[List.getElem_append_right (zL _)]
     simpa [h1] using hx
theorem texts_of {H:Type}{enc:TypeId × Value->H}{W:World}{v:Value}{n:Nat}{y:DataW H × List MemPlace}(hf:DataW.trod enc Tryz.prog W 0 (fun _=>true) true n 34 [v]=some y):∃ q:List (List UInt8),aR W v q/\q.length<=9223372036854775807:=by
 rcases open_strings Tryz.underlying34 Tryz.underlying9 (by kernel_rfl) hf with ⟨hcs,_⟩ | ⟨a,len0,cap0,ss,hcs,_,hl,hm,hz,hx,hcell,_⟩
 · cases hcs
   exact⟨[],.inl ⟨⟨_,_,rfl⟩,rfl⟩,by simp⟩
 · cases hcs
   simp only[if_true]at hz;unfold maxLen at hm
   by_cases h0:len0=0
   · subst h0
     exact⟨[],.inl ⟨⟨_,_,rfl⟩,rfl⟩,by simp⟩
   · obtain⟨b,off,spot⟩:=a
     have hspot:spot=none:=by simpa [Addr.add] using World.cell?_spot (hcell 0 (by omega))
     subst hspot;refine⟨(ss.take len0).map fun t=>t.data.toList,.inr ⟨b,off,cap0,?_,fun j hj => ?_⟩,by simp;omega⟩
     · rw[List.length_map,List.length_take,Nat.min_eq_left (by omega)]
     · have hj':j<len0:=by simp at hj;omega
       have h:=hcell j (by omega);rw[jN]at h;rw[h];have hj2:j<ss.length:=by omega
       simp[dA,List.getD,List.getElem?_eq_getElem hj2]
theorem dirs_of {H:Type}{enc:TypeId × Value->H}{W:World}{v:Value}{n:Nat}{y:DataW H × List MemPlace}(hf:DataW.trod enc Tryz.prog W 0 (fun _=>true) true n 22 [v]=some y):∃ ds:List D,aU W v ds/\ds.length<=9223372036854775807/\∀ d∈ds,d.w.length<=9223372036854775807:=by
 rcases Go.Deep.open_slice_pairs Tryz.underlying22 Tryz.underlying67 (by kernel_rfl) rfl rfl (by kernel_rfl) (by kernel_rfl) hf with ⟨hcs,_⟩ | ⟨a,len,cap,m,k,V0,V1,D0,D1,P0,P1,hcs,_,hl,hm,hmm,_,hi⟩
 · cases hcs
   exact⟨[],.inl ⟨⟨_,_,rfl⟩,rfl⟩,by simp,by simp⟩
 · cases hcs
   simp only[if_true]at hmm;unfold maxLen at hm
   by_cases h0:len=0
   · subst h0
     exact⟨[],.inl ⟨⟨_,_,rfl⟩,rfl⟩,by simp,by simp⟩
   · obtain⟨b,off,spot⟩:=a
     have hspot:spot=none:=by simpa [Addr.add] using World.cell?_spot (hi 0 (by omega)).1
     subst hspot
     obtain⟨ds,h1,h2⟩:=lT (α:=D) (P:=fun i d=>V0 i=dA d.n/\aR W (V1 i) d.w/\d.w.length<=9223372036854775807) len (fun i hlt=>by
      obtain⟨_,_,k2,k3⟩:=hi i (by omega);obtain⟨s,e,_⟩:=DataW.trod_string Tryz.underlying9 k2;obtain⟨q,hq,hq2⟩:=texts_of k3
      exact⟨⟨s.data.toList,q⟩,by have:=(List.cons.inj e).1;rw[this];rfl,hq,hq2⟩)
     refine⟨ds,.inr ⟨b,off,cap,by rw[h1],fun j hj => ?_⟩,by omega,fun d hd => ?_⟩
     · obtain⟨k0,k1,_⟩:=hi j (by omega)
       rw[jN]at k0 k1;obtain⟨e1,e2,_⟩:=h2 j hj;exact⟨by rw[k0,e1],V1 j,by rw[Nat.add_assoc];exact k1,e2⟩
     · obtain⟨j,hj,rfl⟩:=List.getElem_of_mem hd
       exact(h2 j hj).2.2
def aV7 (W:World)(v:Value)(x:List (List D × Bool) × Option Addr × Nat):Prop:=v=.slice x.2.1 x.1.length x.2.2/\bM W v x.1/\aS5 x.1
theorem pols_of {H:Type}{enc:TypeId × Value->H}{W:World}{v:Value}{n:Nat}{y:DataW H × List MemPlace}(hf:DataW.trod enc Tryz.prog W 0 (fun _=>true) true n 27 [v]=some y):∃ x,aV7 W v x:=by
 rcases Go.Deep.open_slice_pairs Tryz.underlying27 Tryz.underlying24 (by kernel_rfl) rfl rfl (by kernel_rfl) (by kernel_rfl) hf with ⟨hcs,_⟩ | ⟨a,len,cap,m,k,V0,V1,D0,D1,P0,P1,hcs,_,hl,hm,hmm,_,hi⟩
 · cases hcs
   exact⟨([],none,0),rfl,.inl ⟨⟨_,_,rfl⟩,rfl⟩,by simp,fun p hp=>by cases hp⟩
 · cases hcs
   simp only[if_true]at hmm;unfold maxLen at hm
   by_cases h0:len=0
   · subst h0
     exact⟨([],_,_),rfl,.inl ⟨⟨_,_,rfl⟩,rfl⟩,by simp,fun p hp=>by cases hp⟩
   · obtain⟨b,off,spot⟩:=a
     have hspot:spot=none:=by simpa [Addr.add] using World.cell?_spot (hi 0 (by omega)).1
     subst hspot
     obtain⟨ps,h1,h2⟩:=lT (α:=List D × Bool) (P:=fun i p=>V1 i=.bool p.2/\aU W (V0 i) p.1/\p.1.length<=9223372036854775807/\∀ d∈p.1,d.w.length<=9223372036854775807) len (fun i hlt=>by
      obtain⟨_,_,k2,k3⟩:=hi i (by omega);obtain⟨r,e,_⟩:=DataW.trod_bool Tryz.underlying4 k3;obtain⟨ds,j1,j2,j3⟩:=dirs_of k2
      exact⟨(ds,r),(List.cons.inj e).1,j1,j2,j3⟩)
     refine⟨(ps,some ⟨b,off,none⟩,cap),by rw[h1],.inr ⟨b,off,cap,by rw[h1],fun j hj => ?_⟩,(by rw[h1];omega:ps.length<=9223372036854775807),fun p hp => ?_⟩
     · have hj2:j<ps.length:=hj
       obtain⟨k0,k1,_⟩:=hi j (by omega);rw[jN]at k0 k1;obtain⟨e1,e2,_⟩:=h2 j hj2;exact⟨⟨V0 j,k0,e2⟩,by rw[Nat.add_assoc,k1,e1]⟩
     · obtain⟨j,hj,rfl⟩:=List.getElem_of_mem hp
       exact(h2 j hj).2.2
theorem arg_pols {H:Type}{enc:TypeId × Value->H}{W:World}{v:Value}{d:DataW H}{p:List MemPlace}{base:Nat}(hok:Value.okWide Tryz.prog W .any base 27 v)(hj:DataW.Trod enc Tryz.prog W 0 (fun _=>true) true 27 v d p):∃ x:{x // aV7 W v x},v=.slice x.1.2.1 x.1.1.length x.1.2.2:=by
 obtain⟨a0,len0,cap0,rfl⟩:=okWide_slice Tryz.underlying27 hok;obtain⟨fuel,hf⟩:=hj;obtain⟨x,hx⟩:=pols_of hf;exact⟨⟨x,hx⟩,hx.1⟩
def kT (C:Array Value):Obj->Obj
 | .cells _ t frozen => .cells C t frozen
 | o=>o
def tab32:List Nat:=[0,1,28,2,29,14,24,3,30,22,20,15,25,17,4,8,31,27,13,23,21,19,16,7,26,12,18,6,11,5,10,9]
def tab64:List Nat:=[0,1,56,2,57,49,28,3,61,58,42,50,38,29,17,4,62,47,59,36,45,43,51,22,53,39,33,30,24,18,12,5,63,55,48,27,60,41,37,16,46,35,44,21,52,32,23,11,54,26,40,15,34,20,31,10,25,14,19,9,13,8,7,6]
def synS:ByteArray:=⟨#[105,110,118,97,108,105,100,32,115,121,110,116,97,120]⟩
def rngS:ByteArray:=⟨#[118,97,108,117,101,32,111,117,116,32,111,102,32,114,97,110,103,101]⟩
noncomputable def low0:Nat:=(World.holding Tryz.prog default ⟨#[],#[],[]⟩).heap.size
noncomputable def laidWorld (os:Os):World :=
 { World.holding Tryz.prog os ⟨#[.cells #[.string synS] 243,.cells #[.string rngS] 243],#[],[]⟩with heap:=((((((((World.holding Tryz.prog os ⟨#[.cells #[.string synS] 243,.cells #[.string rngS] 243],#[],[]⟩).heap.modify 3 (kT (Go.Pinned.utf8FirstZ.map fun(n:Nat)=>Value.int .u8 n).toArray)).modify 4 (kT ((List.range 16).flatMap fun i=>[Value.int .u8 (Lib.accLo i),Value.int .u8 (Lib.accHi i)]).toArray)).modify 2 (kT (Lib.pow10Tab.map fun(z:Int)=>Value.int .u64 z).toArray)).modify 5 (kT (tab32.map fun(n:Nat)=>Value.int .u8 n).toArray)).modify 6 (kT (tab64.map fun(n:Nat)=>Value.int .u8 n).toArray)).modify 0 (kT KA)).modify 7 (kT #[.iface 241 (.pointer (some ⟨low0,0,none⟩))])).modify 8 (kT #[.iface 241 (.pointer (some ⟨low0+1,0,none⟩))]) }
end Go.Proofs.YthnogdodlhkldaaGreatDoor
