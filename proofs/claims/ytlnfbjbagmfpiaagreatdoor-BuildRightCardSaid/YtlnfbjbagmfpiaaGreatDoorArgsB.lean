/- The rows' arguments: texts; the library's and the project's own variables, off the world's shape and the rows' list; a world for the witness, which holds what is listed. -/
import Derived.Test.YtlnfbjbagmfpiaaGreatDoorRows
import Derived.ChangeMaps5
import Derived.Shelf.Vars
import Derived.Lib.LaidU8
import Derived.LaidLaws
import Derived.Lib.ItoaNum
import Derived.Deep.Slices
import Derived.Test.YtlnfbjbagmfpiaaGreatDoorBpZG
import Derived.Test.YtlnfbjbagmfpiaaGreatDoorTokZBD
namespace Go.Proofs.YtlnfbjbagmfpiaaGreatDoor
open Go.ChangeShapes Go.WideShapes Go.ChangeAt Go.RowKit
set_option maxRecDepth 100000
theorem own:ownKnob Tryz.prog.godebug=none:=by kernel_rfl
theorem laidOut:laidOutB Tryz.prog=true:=by kernel_rfl
theorem maxIn_of {W:World}(h:W.ShapedOpen Tryz.prog):MaxIn W :=
 cell_of_shapedOpen_int (zero:=#[.int .i64 0]) (t:=3) h (of_decide_eq_true (by kernel_rfl)) (by kernel_rfl) rfl (by kernel_rfl) (by kernel_rfl) Tryz.underlying3
def lists:List (String × DataW Unit):=[("math/bits.deBruijn32tab",Rows.laid_math_bits_deBruijn32tab),("math/bits.deBruijn64tab",Rows.laid_math_bits_deBruijn64tab),("internal/strconv.uint64pow10",Rows.laid_internal_strconv_uint64pow10),("unicode/utf8.acceptRanges",Rows.laid_unicode_utf8_acceptRanges),("strconv.ErrRange",Rows.laid_strconv_ErrRange),("strconv.ErrSyntax",Rows.laid_strconv_ErrSyntax),("pounce/entity.signs",Rows.laid_pounce_entity_signs),("unicode/utf8.first",Rows.laid_unicode_utf8_first)]
theorem gSyn:Tryz.prog.globalNamed "strconv.ErrSyntax" = some 4:=by kernel_rfl
theorem tSyn:(Tryz.prog.globals[4]?).map (·.type)=some 110:=by kernel_rfl
theorem errVar_of {W:World}{n:String}{nm:String}{d:DataW Unit}{g:Nat}(hn:Tryz.prog.globalNamed n=some g)(ht:(Tryz.prog.globals[g]?).map (·.type)=some 110)(h:Lib.VarReads Tryz.prog W n (.iface nm d)):∃ v,W.cell? ⟨g,0,none⟩=some v/\IfaceV v:=by
 obtain⟨g',t,cs,fuel,p,hg,hty,hvar,hd⟩:=h;obtain rfl:=Option.some.inj (hn.symm.trans hg);obtain rfl:=Option.some.inj (ht.symm.trans hty);obtain⟨f1,u,v,hcs,_,_⟩:=iface_of_trod Tryz.underlying110 hd;have hc:=World.var?_cell hg hvar 0;rw[<- Array.getElem?_toList,hcs]at hc;exact⟨_,hc,.inr ⟨u,v,rfl⟩⟩
theorem gSig:Tryz.prog.globalNamed "pounce/entity.signs" = some 0:=by kernel_rfl
theorem tSig:(Tryz.prog.globals[0]?).map (·.type)=some 117:=by kernel_rfl
theorem cellsSig:Tryz.prog.cellsOf 116=3:=by kernel_rfl
theorem sign_of {H:Type} {enc:TypeId × Value->H} {P:Program} {w:World} {base:Nat} {sp:Nat->Bool} {held:Bool} {fuel:Nat} {t:TypeId} {f0 f1 f2:Field} {cs:List Value} {x y:List UInt8} {z:Bool} {p:List MemPlace} (ht:P.underlying t=some (.struct #[f0,f1,f2])) (h0:P.underlying f0.type=some .string/\f0.offset=0/\P.cellsOf f0.type=1) (h1:P.underlying f1.type=some .string/\f1.offset=1/\P.cellsOf f1.type=1) (h2:P.underlying f2.type=some .bool/\f2.offset=2/\P.cellsOf f2.type=1)
 (h:DataW.trod enc P w base sp held fuel t cs=some (.agg [.lit (.string x),.lit (.string y),.lit (.bool z)],p)):cs[0]? = some (.string ⟨x.toArray⟩)/\cs[1]? = some (.string ⟨y.toArray⟩)/\cs[2]? = some (.bool z):=by
 obtain⟨xs,n,rfl,hx,hl,hxl,hall⟩:=DataW.trod_struct ht h
 have hxs:xs.map (·.1)=[.lit (.string x),.lit (.string y),.lit (.bool z)]:=by
  have:=congrArg Prod.fst hx
  simpa using this.symm
 obtain⟨y0,y1,y2,rfl⟩:∃ y0 y1 y2,xs=[y0,y1,y2]:=by
  match xs,hxl with
  | [y0,y1,y2],_=>exact⟨y0,y1,y2,rfl⟩
 simp only[List.map_cons,List.map_nil,List.cons.injEq,and_true]at hxs;have k0:=hall 0 f0 rfl;have k1:=hall 1 f1 rfl;have k2:=hall 2 f2 rfl;rw[h0.2.1,h0.2.2]at k0;rw[h1.2.1,h1.2.2]at k1;rw[h2.2.1,h2.2.2]at k2;obtain⟨s,e0,e1,_⟩:=DataW.trod_string h0.1 k0;obtain⟨u,e2,e3,_⟩:=DataW.trod_string h1.1 k1;obtain⟨b,e4,e5⟩:=DataW.trod_bool h2.1 k2;have q0:=hxs.1;have q1:=hxs.2.1;have q2:=hxs.2.2;have r0:=congrArg (·[0]?) e0;have r1:=congrArg (·[0]?) e2;have r2:=congrArg (·[0]?) e4;subst e1;subst e3;subst e5;simp only[List.getElem?_take,List.getElem?_drop]at r0 r1 r2;simp only[DataW.lit.injEq,Lit.string.injEq]at q0 q1;simp only[DataW.lit.injEq,Lit.bool.injEq]at q2;refine⟨?_,?_,?_⟩
 · rw[<- q0,<- text_is (T:=s) rfl]
   simpa using r0
 · rw[<- q1,<- text_is (T:=u) rfl]
   simpa using r1
 · rw[<- q2]
   simpa using r2
theorem signsIn_of {W:World}(h:laidMet Tryz.prog lists W):SignsIn W:=by
 have h3:Lib.VarReads Tryz.prog W "pounce/entity.signs" Rows.laid_pounce_entity_signs:=Lib.laidMet.reads h (by simp[lists]);obtain⟨g,t,cs,fuel,p,hg,hty,hvar,hd⟩:=h3;obtain rfl:=Option.some.inj (gSig.symm.trans hg);obtain rfl:=Option.some.inj (tSig.symm.trans hty)
 have hat:∀ i,i<10->∀ e,tabM[i]? = some e->W.cell? ⟨0,3 * i,none⟩=some (.string ⟨e.1.toArray⟩)/\W.cell? ⟨0,3 * i+1,none⟩=some (.string ⟨e.2.1.toArray⟩)/\W.cell? ⟨0,3 * i+2,none⟩=some (.bool e.2.2):=by
  intro i hi e he;obtain⟨fuel',d,q,hdi,hel⟩:=Lib.array_elem Tryz.underlying117 hd i hi
  have hd2:d=.agg [.lit (.string e.1),.lit (.string e.2.1),.lit (.bool e.2.2)]:=by
   obtain rfl | rfl | rfl | rfl | rfl | rfl | rfl | rfl | rfl | rfl:i=0\/i=1\/i=2\/i=3\/i=4\/i=5\/i=6\/i=7\/i=8\/i=9:=by omega
   all_goals (obtain rfl:=Option.some.inj he;exact(Option.some.inj hdi).symm)
  subst hd2;rw[cellsSig]at hel;obtain⟨e0,e1,e2⟩:=sign_of Tryz.underlying116 ⟨Tryz.underlying9,rfl,by kernel_rfl⟩ ⟨Tryz.underlying9,rfl,by kernel_rfl⟩ ⟨Tryz.underlying4,rfl,by kernel_rfl⟩ hel;simp only[List.getElem?_take,List.getElem?_drop]at e0 e1 e2;refine⟨?_,?_,?_⟩
  · rw[World.var?_cell hg hvar (3 * i),<- Array.getElem?_toList]
    simpa [Nat.mul_comm] using e0
  · rw[World.var?_cell hg hvar (3 * i+1),<- Array.getElem?_toList]
    simpa [Nat.mul_comm] using e1
  · rw[World.var?_cell hg hvar (3 * i+2),<- Array.getElem?_toList]
    simpa [Nat.mul_comm] using e2
 intro j hj;have h2:=hat (j / 3) (by omega);obtain rfl | rfl | rfl | rfl | rfl | rfl | rfl | rfl | rfl | rfl | rfl | rfl | rfl | rfl | rfl | rfl | rfl | rfl | rfl | rfl | rfl | rfl | rfl | rfl | rfl | rfl | rfl | rfl | rfl | rfl:j=0\/j=1\/j=2\/j=3\/j=4\/j=5\/j=6\/j=7\/j=8\/j=9\/j=10\/j=11\/j=12\/j=13\/j=14\/j=15\/j=16\/j=17\/j=18\/j=19\/j=20\/j=21\/j=22\/j=23\/j=24\/j=25\/j=26\/j=27\/j=28\/j=29:=by omega
 all_goals first | exact(h2 _ rfl).1 | exact(h2 _ rfl).2.1 | exact(h2 _ rfl).2.2
theorem arg_int {H:Type}{enc:TypeId × Value->H}{W:World}{v:Value}{d:DataW H}{p:List MemPlace}{base:Nat}(hok:Value.okWide Tryz.prog W .any base 3 v)(hj:DataW.Trod enc Tryz.prog W 0 (fun _=>true) true 3 v d p):∃ n:Int,v=.int .i64 n:=by
 obtain⟨n,rfl,_,_,hw⟩:=open_int Tryz.underlying3 hok hj;exact⟨n,rfl⟩
theorem arg_bool {H:Type}{enc:TypeId × Value->H}{W:World}{v:Value}{d:DataW H}{p:List MemPlace}{base:Nat}(hok:Value.okWide Tryz.prog W .any base 4 v)(_:DataW.Trod enc Tryz.prog W 0 (fun _=>true) true 4 v d p):∃ b:Bool,v=.bool b :=
 okWide_bool Tryz.underlying4 hok
theorem low_of {W:World}(hL:laidMet Tryz.prog lists W)(hS:W.ShapedOpen Tryz.prog):Low W :=
 ⟨maxIn_of hS,signsIn_of hL,errVar_of gSyn tSyn (Lib.laidMet.reads hL (n := "strconv.ErrSyntax") (d:=Rows.laid_strconv_ErrSyntax) (by simp[lists]))⟩
theorem arg_string {H:Type}{enc:TypeId × Value->H}{W:World}{v:Value}{d:DataW H}{p:List MemPlace}{base:Nat}(hok:Value.okWide Tryz.prog W .any base 9 v)(_:DataW.Trod enc Tryz.prog W 0 (fun _=>true) true 9 v d p):∃ s:ByteArray,v=.string s :=
 okWide_string Tryz.underlying9 hok
def ArgTok (W:World)(v:Value)(L:List Tk):Prop:=TokIn W v L/\L.length<=9223372036854775807/\(∀ t∈L,t.a.length<=9223372036854775807)
theorem add_none (b off j:Nat):(⟨b,off,none⟩:Addr).add j=⟨b,off+j,none⟩:=by unfold Addr.add;split<;>simp_all
theorem list_of {α:Type}{P:Nat->α->Prop}:∀(n:Nat),(∀ i,i<n->∃ x,P i x)->∃ l:List α,l.length=n/\∀ i,(h:i<l.length)->P i l[i]
 | 0,_=>⟨[],rfl,fun i h=>by cases h⟩
 | n+1,h=>by
   obtain⟨l,h1,h2⟩:=list_of n (fun i hi=>h i (by omega));obtain⟨x,hx⟩:=h n (by omega);refine⟨l++[x],by simp[h1],fun i hi => ?_⟩
   by_cases hlt:i<l.length
   · rw[List.getElem_append_left hlt];exact h2 i hlt
   · have e:i=l.length:=by simp at hi;omega
     subst e;rw[List.getElem_append_right (Nat.le_refl _)]
     simpa [h1] using hx
theorem AtIn.told {W:World}{b cap:Nat}:∀(A:List (List UInt8 × List UInt8)) (off:Nat),(∀ i,(h:i<A.length)->W.cell? ⟨b,off+i * 2,none⟩=some (strV A[i].1)/\W.cell? ⟨b,off+i * 2+1,none⟩=some (strV A[i].2))->∀ j v,(atC A)[j]? = some v->W.cell? ⟨b,off+j,none⟩=some v
 | [],_,_,j,v,hj=>by cases hj
 | y :: A,off,h,j,v,hj=>by
   have h0:=h 0 (by simp);rw[Nat.zero_mul,Nat.add_zero]at h0
   match j with
   | 0=>rw[<- Option.some.inj hj];exact h0.1
   | 1=>rw[<- Option.some.inj hj];exact h0.2
   | j+2 =>
     have:=AtIn.told (b:=b) (cap:=cap) A (off+2) (fun i hi=>by
      have:=h (i+1) (by simpa using hi);rw[show off+(i+1) * 2=off+2+i * 2 by omega]at this
      exact this) j v hj
     rw[show off+(j+2)=off+2+j by omega];exact this
theorem TokIn.told {W:World}{b:Nat}:∀(L:List Tk) (off:Nat),(∀ i,(h:i<L.length)->∃ av,W.cell? ⟨b,off+i * 5,none⟩=some (.int .i64 L[i].k)/\W.cell? ⟨b,off+i * 5+1,none⟩=some (strV L[i].n)/\W.cell? ⟨b,off+i * 5+2,none⟩=some (strV L[i].d)/\W.cell? ⟨b,off+i * 5+3,none⟩=some av/\W.cell? ⟨b,off+i * 5+4,none⟩=some (.bool L[i].c)/\AtIn W av L[i].a)->∃ cs,TkCs W L cs/\∀ j v,cs[j]? = some v->W.cell? ⟨b,off+j,none⟩=some v
 | [],_,_=>⟨[],rfl,fun j v hj=>by cases hj⟩
 | t :: L,off,h=>by
   obtain⟨av,e0,e1,e2,e3,e4,e5⟩:=h 0 (by simp);rw[Nat.zero_mul,Nat.add_zero]at e0 e1 e2 e3 e4
   obtain⟨cs,h1,h2⟩:=TokIn.told (b:=b) L (off+5) (fun i hi=>by
    have:=h (i+1) (by simpa using hi);rw[show off+(i+1) * 5=off+5+i * 5 by omega]at this
    exact this)
   refine⟨tkC t av++cs,⟨av,cs,rfl,e5,h1⟩,fun j v hj => ?_⟩
   match j with
   | 0=>rw[<- Option.some.inj hj];exact e0
   | 1=>rw[<- Option.some.inj hj];exact e1
   | 2=>rw[<- Option.some.inj hj];exact e2
   | 3=>rw[<- Option.some.inj hj];exact e3
   | 4=>rw[<- Option.some.inj hj];exact e4
   | j+5 =>
     have:=h2 j v hj;rw[show off+(j+5)=off+5+j by omega];exact this
section
open Go.Joins Go.Deep
variable {H:Type} {enc:TypeId × Value->H} {P:Program} {w:World} {base:Nat} {spare:Nat->Bool} {held:Bool}
theorem two_of {t:TypeId} {f0 f1:Field} {n:Nat} {c0 c1:Value} {y:DataW H × List MemPlace} (hs:P.underlying t=some (.struct #[f0,f1])) (hone:oneCellFields P #[f0,f1]=true)
 (h:DataW.trod enc P w base spare held n t [c0,c1]=some y) :
 ∃(y0 y1:DataW H × List MemPlace) (m:Nat),DataW.trod enc P w base spare held m f0.type [c0]=some y0/\DataW.trod enc P w base spare held m f1.type [c1]=some y1:=by
 obtain⟨xs,m,_,_,_,hlen,hg⟩:=DataW.trod_struct hs h;obtain⟨o0,k0⟩:=hone_of hone 0 f0 rfl;obtain⟨o1,k1⟩:=hone_of hone 1 f1 rfl
 match xs,hlen with
 | [y0,y1],_=>exact⟨y0,y1,m,by simpa [o0,k0] using hg 0 f0 rfl,by simpa [o1,k1] using hg 1 f1 rfl⟩
theorem five_of {t:TypeId} {f0 f1 f2 f3 f4:Field} {n:Nat} {c0 c1 c2 c3 c4:Value} {y:DataW H × List MemPlace} (hs:P.underlying t=some (.struct #[f0,f1,f2,f3,f4])) (hone:oneCellFields P #[f0,f1,f2,f3,f4]=true)
 (h:DataW.trod enc P w base spare held n t [c0,c1,c2,c3,c4]=some y) :
 ∃(y0 y1 y2 y3 y4:DataW H × List MemPlace) (m:Nat),DataW.trod enc P w base spare held m f0.type [c0]=some y0/\DataW.trod enc P w base spare held m f1.type [c1]=some y1/\DataW.trod enc P w base spare held m f2.type [c2]=some y2/\DataW.trod enc P w base spare held m f3.type [c3]=some y3/\DataW.trod enc P w base spare held m f4.type [c4]=some y4:=by
 obtain⟨xs,m,_,_,_,hlen,hg⟩:=DataW.trod_struct hs h;obtain⟨o0,k0⟩:=hone_of hone 0 f0 rfl;obtain⟨o1,k1⟩:=hone_of hone 1 f1 rfl;obtain⟨o2,k2⟩:=hone_of hone 2 f2 rfl;obtain⟨o3,k3⟩:=hone_of hone 3 f3 rfl;obtain⟨o4,k4⟩:=hone_of hone 4 f4 rfl
 match xs,hlen with
 | [y0,y1,y2,y3,y4],_=>exact⟨y0,y1,y2,y3,y4,m,by simpa [o0,k0] using hg 0 f0 rfl,by simpa [o1,k1] using hg 1 f1 rfl,by simpa [o2,k2] using hg 2 f2 rfl,by simpa [o3,k3] using hg 3 f3 rfl,by simpa [o4,k4] using hg 4 f4 rfl⟩
end
theorem attrs_of {H:Type}{enc:TypeId × Value->H}{W:World}{v:Value}{n:Nat}{y:DataW H × List MemPlace}(hf:DataW.trod enc Tryz.prog W 0 (fun _=>true) true n 36 [v]=some y):∃ A,AtIn W v A/\A.length<=9223372036854775807:=by
 rcases Go.Deep.open_slice Tryz.underlying36 hf with ⟨hcs,_⟩ | ⟨a,len,cap,m,k,D,Pl,hcs,_,hl,hm,hmm,_,hi⟩
 · cases hcs
   exact⟨[],AtIn.nil _ _ _,by simp⟩
 · cases hcs
   simp only[if_true]at hmm;unfold maxLen at hm
   by_cases h0:len=0
   · subst h0
     exact⟨[],AtIn.nil _ _ _,by simp⟩
   · have hce:Tryz.prog.cellsOf 41=2:=by kernel_rfl
     obtain⟨b,off,spot⟩:=a
     have hspot:spot=none:=by
      obtain⟨cs',h1,_⟩:=hi 0 (by omega);rw[hce]at h1;obtain⟨_,hlen,hcell⟩:=World.cells?_some h1;have h2:=hcell 0 (by omega);rw[List.getElem?_eq_getElem (by omega)]at h2
      simpa [Addr.add] using World.cell?_spot h2
     subst hspot
     obtain⟨A,h1,h2⟩:=list_of (α:=List UInt8 × List UInt8) (P:=fun i x=>W.cell? ⟨b,off+i * 2,none⟩=some (strV x.1)/\W.cell? ⟨b,off+i * 2+1,none⟩=some (strV x.2)) len (fun i hlt=>by
      obtain⟨cs',k1,k2⟩:=hi i (by omega);rw[hce]at k1;obtain⟨_,hlen,hcell⟩:=World.cells?_some k1
      match cs',hlen with
      | [c0,c1],_ =>
        obtain⟨y0,y1,m,h0,h1⟩:=two_of Tryz.underlying41 (by kernel_rfl) k2;obtain⟨t,e0,_⟩:=DataW.trod_string Tryz.underlying9 h0;obtain⟨s,e1,_⟩:=DataW.trod_string Tryz.underlying9 h1
        cases e0;cases e1
        have g0:=hcell 0 (by decide);have g1:=hcell 1 (by decide);rw[add_none,add_none]at g0 g1
        exact⟨(t.data.toList,s.data.toList),by rw[strV_of (T:=t) rfl];exact g0,by rw[strV_of (T:=s) rfl];exact g1⟩)
     exact⟨A,⟨atC_length A,atC_one A,.inr ⟨b,off,cap,by rw[h1],AtIn.told (b:=b) (cap:=cap) A off h2⟩⟩,by omega⟩
theorem toks_of {H:Type}{enc:TypeId × Value->H}{W:World}{v:Value}{n:Nat}{y:DataW H × List MemPlace}(hf:DataW.trod enc Tryz.prog W 0 (fun _=>true) true n 25 [v]=some y):∃ L,ArgTok W v L:=by
 rcases Go.Deep.open_slice Tryz.underlying25 hf with ⟨hcs,_⟩ | ⟨a,len,cap,m,k,D,Pl,hcs,_,hl,hm,hmm,_,hi⟩
 · cases hcs
   exact⟨[],TokIn.nil _ _ _,by simp,fun t ht=>by cases ht⟩
 · cases hcs
   simp only[if_true]at hmm;unfold maxLen at hm
   by_cases h0:len=0
   · subst h0
     exact⟨[],TokIn.nil _ _ _,by simp,fun t ht=>by cases ht⟩
   · have hce:Tryz.prog.cellsOf 57=5:=by kernel_rfl
     obtain⟨b,off,spot⟩:=a
     have hspot:spot=none:=by
      obtain⟨cs',h1,_⟩:=hi 0 (by omega);rw[hce]at h1;obtain⟨_,hlen,hcell⟩:=World.cells?_some h1;have h2:=hcell 0 (by omega);rw[List.getElem?_eq_getElem (by omega)]at h2
      simpa [Addr.add] using World.cell?_spot h2
     subst hspot
     obtain⟨L,h1,h2⟩:=list_of (α:=Tk) (P:=fun i x=>(∃ av,W.cell? ⟨b,off+i * 5,none⟩=some (.int .i64 x.k)/\W.cell? ⟨b,off+i * 5+1,none⟩=some (strV x.n)/\W.cell? ⟨b,off+i * 5+2,none⟩=some (strV x.d)/\W.cell? ⟨b,off+i * 5+3,none⟩=some av/\W.cell? ⟨b,off+i * 5+4,none⟩=some (.bool x.c)/\AtIn W av x.a)/\x.a.length<=9223372036854775807) len (fun i hlt=>by
      obtain⟨cs',k1,k2⟩:=hi i (by omega);rw[hce]at k1;obtain⟨_,hlen,hcell⟩:=World.cells?_some k1
      match cs',hlen with
      | [c0,c1,c2,c3,c4],_ =>
        obtain⟨y0,y1,y2,y3,y4,m,h0,h1,h2,h3,h4⟩:=five_of Tryz.underlying57 (by kernel_rfl) k2;obtain⟨kk,e0,_⟩:=DataW.trod_int Tryz.underlying55 h0;obtain⟨t,e1,_⟩:=DataW.trod_string Tryz.underlying9 h1;obtain⟨s,e2,_⟩:=DataW.trod_string Tryz.underlying9 h2;obtain⟨A,ha,hal⟩:=attrs_of h3;obtain⟨bb,e4,_⟩:=DataW.trod_bool Tryz.underlying4 h4
        cases e0;cases e1;cases e2;cases e4
        have g0:=hcell 0 (by decide);have g1:=hcell 1 (by decide);have g2:=hcell 2 (by decide);have g3:=hcell 3 (by decide);have g4:=hcell 4 (by decide);rw[add_none,add_none]at g0 g1 g2 g3 g4
        exact⟨⟨kk,t.data.toList,s.data.toList,A,bb⟩,⟨c3,g0,by rw[strV_of (T:=t) rfl];exact g1,by rw[strV_of (T:=s) rfl];exact g2,g3,g4,ha⟩,hal⟩)
     obtain⟨cs,t1,t2⟩:=TokIn.told (b:=b) L off fun i hi'=>(h2 i hi').1;exact⟨L,⟨cs,⟨t1.len,t1.one,.inr ⟨b,off,cap,by rw[h1],t2⟩⟩,t1⟩,by omega,fun t ht=>by obtain⟨i,hi',rfl⟩:=List.getElem_of_mem ht;exact(h2 i hi').2⟩
theorem arg_toks {H:Type}{enc:TypeId × Value->H}{W:World}{v:Value}{d:DataW H}{p:List MemPlace}{base:Nat}(hok:Value.okWide Tryz.prog W .any base 25 v)(hj:DataW.Trod enc Tryz.prog W 0 (fun _=>true) true 25 v d p):∃ L:List Tk,ArgTok W v L:=by
 obtain⟨a0,len0,cap0,rfl⟩:=okWide_slice Tryz.underlying25 hok;obtain⟨fuel,hf⟩:=hj;exact toks_of hf
def setC (C:Array Value):Obj->Obj
 | .cells _ t frozen => .cells C t frozen
 | o=>o
def tab32:List Nat:=[0,1,28,2,29,14,24,3,30,22,20,15,25,17,4,8,31,27,13,23,21,19,16,7,26,12,18,6,11,5,10,9]
def tab64:List Nat:=[0,1,56,2,57,49,28,3,61,58,42,50,38,29,17,4,62,47,59,36,45,43,51,22,53,39,33,30,24,18,12,5,63,55,48,27,60,41,37,16,46,35,44,21,52,32,23,11,54,26,40,15,34,20,31,10,25,14,19,9,13,8,7,6]
def synS:ByteArray:=⟨#[105,110,118,97,108,105,100,32,115,121,110,116,97,120]⟩
def rngS:ByteArray:=⟨#[118,97,108,117,101,32,111,117,116,32,111,102,32,114,97,110,103,101]⟩
noncomputable def low0:Nat:=(World.holding Tryz.prog default ⟨#[],#[],[]⟩).heap.size
noncomputable def laidWorld (os:Os):World :=
 { World.holding Tryz.prog os ⟨#[.cells #[.string synS] 265,.cells #[.string rngS] 265],#[],[]⟩with heap:=((((((((World.holding Tryz.prog os ⟨#[.cells #[.string synS] 265,.cells #[.string rngS] 265],#[],[]⟩).heap.modify 1 (setC (Go.Pinned.utf8FirstZ.map fun(n:Nat)=>Value.int .u8 n).toArray)).modify 2 (setC ((List.range 16).flatMap fun i=>[Value.int .u8 (Lib.accLo i),Value.int .u8 (Lib.accHi i)]).toArray)).modify 6 (setC (Lib.pow10Tab.map fun(z:Int)=>Value.int .u64 z).toArray)).modify 7 (setC (tab32.map fun(n:Nat)=>Value.int .u8 n).toArray)).modify 8 (setC (tab64.map fun(n:Nat)=>Value.int .u8 n).toArray)).modify 0 (setC SL.toArray)).modify 4 (setC #[.iface 263 (.pointer (some ⟨low0,0,none⟩))])).modify 5 (setC #[.iface 263 (.pointer (some ⟨low0+1,0,none⟩))]) }
namespace Dm
abbrev Nv:=Nd × Value × Value
def fA:List Nv->Nat->Value
 | [],_ => .bool true
 | t :: _,0=>t.2.1
 | _ :: L,i+1=>fA L i
def fK:List Nv->Nat->Value
 | [],_ => .bool true
 | t :: _,0=>t.2.2
 | _ :: L,i+1=>fK L i
theorem fA_at:∀(L:List Nv) (i:Nat) (h:i<L.length),fA L i=L[i].2.1
 | _ :: _,0,_=>rfl
 | _ :: L,i+1,h=>fA_at L i (by simpa using h)
theorem fK_at:∀(L:List Nv) (i:Nat) (h:i<L.length),fK L i=L[i].2.2
 | _ :: _,0,_=>rfl
 | _ :: L,i+1,h=>fK_at L i (by simpa using h)
def NdAt (W:World)(b o:Nat)(t:Nv):Prop:=∀ j v,(ndC t.1 t.2.1 t.2.2)[j]? = some v->W.cell? ⟨b,o+j,none⟩=some v
theorem nds_told {W:World}{b:Nat}:∀(L:List Nv) (off:Nat),(∀ i (h:i<L.length),NdAt W b (off+i * 8) L[i])->∀ j v,(ndsC (L.map (·.1)) (fA L) (fK L))[j]? = some v->W.cell? ⟨b,off+j,none⟩=some v
 | [],_,_,j,v,hj=>by cases hj
 | t :: L,off,h,j,v,hj=>by
   have hj':(ndC t.1 t.2.1 t.2.2++ndsC (L.map (·.1)) (fA L) (fK L))[j]? = some v:=hj;have hlen:(ndC t.1 t.2.1 t.2.2).length=8:=rfl
   by_cases hlt:j<8
   · rw[List.getElem?_append_left (by omega)]at hj'
     have:=h 0 (by simp) j v hj';rw[Nat.zero_mul,Nat.add_zero]at this;exact this
   · rw[List.getElem?_append_right (by omega),hlen]at hj'
     have:=nds_told (b:=b) L (off+8) (fun i hi=>by
      have:=h (i+1) (by simpa using hi);rw[show off+(i+1) * 8=off+8+i * 8 by omega]at this
      exact this) (j - 8) v hj'
     rw[show off+8+(j - 8)=off+j by omega]at this;exact this
section
open Go.Joins Go.Deep
variable {H:Type} {enc:TypeId × Value->H} {P:Program} {w:World} {base:Nat} {spare:Nat->Bool} {held:Bool}
theorem eight_of {t:TypeId} {f0 f1 f2 f3 f4 f5 f6 f7:Field} {n:Nat} {c0 c1 c2 c3 c4 c5 c6 c7:Value} {y:DataW H × List MemPlace} (hs:P.underlying t=some (.struct #[f0,f1,f2,f3,f4,f5,f6,f7])) (hone:oneCellFields P #[f0,f1,f2,f3,f4,f5,f6,f7]=true)
 (h:DataW.trod enc P w base spare held n t [c0,c1,c2,c3,c4,c5,c6,c7]=some y) :
 ∃(y0 y1 y2 y3 y4 y5 y6 y7:DataW H × List MemPlace) (m:Nat),DataW.trod enc P w base spare held m f0.type [c0]=some y0/\DataW.trod enc P w base spare held m f1.type [c1]=some y1/\DataW.trod enc P w base spare held m f2.type [c2]=some y2/\DataW.trod enc P w base spare held m f3.type [c3]=some y3/\DataW.trod enc P w base spare held m f4.type [c4]=some y4/\DataW.trod enc P w base spare held m f5.type [c5]=some y5/\DataW.trod enc P w base spare held m f6.type [c6]=some y6/\DataW.trod enc P w base spare held m f7.type [c7]=some y7:=by
 obtain⟨xs,m,_,_,_,hlen,hg⟩:=DataW.trod_struct hs h;obtain⟨o0,k0⟩:=hone_of hone 0 f0 rfl;obtain⟨o1,k1⟩:=hone_of hone 1 f1 rfl;obtain⟨o2,k2⟩:=hone_of hone 2 f2 rfl;obtain⟨o3,k3⟩:=hone_of hone 3 f3 rfl;obtain⟨o4,k4⟩:=hone_of hone 4 f4 rfl;obtain⟨o5,k5⟩:=hone_of hone 5 f5 rfl;obtain⟨o6,k6⟩:=hone_of hone 6 f6 rfl;obtain⟨o7,k7⟩:=hone_of hone 7 f7 rfl
 match xs,hlen with
 | [y0,y1,y2,y3,y4,y5,y6,y7],_=>exact⟨y0,y1,y2,y3,y4,y5,y6,y7,m,by simpa [o0,k0] using hg 0 f0 rfl,by simpa [o1,k1] using hg 1 f1 rfl,by simpa [o2,k2] using hg 2 f2 rfl,by simpa [o3,k3] using hg 3 f3 rfl,by simpa [o4,k4] using hg 4 f4 rfl,by simpa [o5,k5] using hg 5 f5 rfl,by simpa [o6,k6] using hg 6 f6 rfl,by simpa [o7,k7] using hg 7 f7 rfl⟩
end
theorem attrs_of {H:Type}{enc:TypeId × Value->H}{W:World}{v:Value}{n:Nat}{y:DataW H × List MemPlace}(hf:DataW.trod enc Tryz.prog W 0 (fun _=>true) true n 36 [v]=some y):∃ A,AtIn W v A/\A.length<=9223372036854775807/\CapV v:=by
 rcases Go.Deep.open_slice Tryz.underlying36 hf with ⟨hcs,_⟩ | ⟨a,len,cap,m,k,D,Pl,hcs,_,hl,hm,hmm,_,hi⟩
 · cases hcs
   exact⟨[],AtIn.nil _ _ _,by simp,Nat.zero_le _⟩
 · cases hcs
   simp only[if_true]at hmm;unfold maxLen at hm
   by_cases h0:len=0
   · subst h0
     exact⟨[],AtIn.nil _ _ _,by simp,Nat.zero_le _⟩
   · have hce:Tryz.prog.cellsOf 41=2:=by kernel_rfl
     obtain⟨b,off,spot⟩:=a
     have hspot:spot=none:=by
      obtain⟨cs',h1,_⟩:=hi 0 (by omega);rw[hce]at h1;obtain⟨_,hlen,hcell⟩:=World.cells?_some h1;have h2:=hcell 0 (by omega);rw[List.getElem?_eq_getElem (by omega)]at h2
      simpa [Addr.add] using World.cell?_spot h2
     subst hspot
     obtain⟨A,h1,h2⟩:=list_of (α:=List UInt8 × List UInt8) (P:=fun i x=>W.cell? ⟨b,off+i * 2,none⟩=some (strV x.1)/\W.cell? ⟨b,off+i * 2+1,none⟩=some (strV x.2)) len (fun i hlt=>by
      obtain⟨cs',k1,k2⟩:=hi i (by omega);rw[hce]at k1;obtain⟨_,hlen,hcell⟩:=World.cells?_some k1
      match cs',hlen with
      | [c0,c1],_ =>
        obtain⟨y0,y1,m,h0,h1⟩:=two_of Tryz.underlying41 (by kernel_rfl) k2;obtain⟨t,e0,_⟩:=DataW.trod_string Tryz.underlying9 h0;obtain⟨s,e1,_⟩:=DataW.trod_string Tryz.underlying9 h1
        cases e0;cases e1
        have g0:=hcell 0 (by decide);have g1:=hcell 1 (by decide);rw[add_none,add_none]at g0 g1
        exact⟨(t.data.toList,s.data.toList),by rw[strV_of (T:=t) rfl];exact g0,by rw[strV_of (T:=s) rfl];exact g1⟩)
     exact⟨A,⟨atC_length A,atC_one A,.inr ⟨b,off,cap,by rw[h1],AtIn.told (b:=b) (cap:=cap) A off h2⟩⟩,by omega,hl⟩
theorem ints_of {H:Type}{enc:TypeId × Value->H}{W:World}{v:Value}{n:Nat}{y:DataW H × List MemPlace}(hf:DataW.trod enc Tryz.prog W 0 (fun _=>true) true n 37 [v]=some y):∃ C,IntIn W v C/\C.length<=9223372036854775807:=by
 rcases Go.Deep.open_slice1 Tryz.underlying37 (by kernel_rfl) hf with ⟨hcs,_⟩ | ⟨a,len,cap,m,k,V,D,Pl,hcs,_,hl,hm,hmm,_,hi⟩
 · cases hcs
   exact⟨[],IntIn.nil _ _ _,by simp⟩
 · cases hcs
   simp only[if_true]at hmm;unfold maxLen at hm
   by_cases h0:len=0
   · subst h0
     exact⟨[],IntIn.nil _ _ _,by simp⟩
   · obtain⟨b,off,spot⟩:=a
     have hspot:spot=none:=by simpa [Addr.add] using World.cell?_spot (hi 0 (by omega)).1
     subst hspot
     obtain⟨C,h1,h2⟩:=list_of (α:=Int) (P:=fun i x=>W.cell? ⟨b,off+i,none⟩=some (.int .i64 x)) len (fun i hlt=>by
      obtain⟨k1,k2⟩:=hi i (by omega);obtain⟨z,e0,_⟩:=DataW.trod_int Tryz.underlying3 k2;rw[add_none]at k1;rw[(List.cons.inj e0).1]at k1
      exact⟨z,k1⟩)
     exact⟨C,⟨inC_length C,inC_one C,.inr ⟨b,off,cap,by rw[h1],fun j v hj=>by
      unfold inC at hj;rw[List.getElem?_map]at hj;obtain⟨z,hz,rfl⟩:=Option.map_eq_some_iff.1 hj;obtain⟨hj',rfl⟩:=List.getElem?_eq_some_iff.1 hz
      exact h2 j hj'⟩⟩,by omega⟩
def LenD (D:List Nd):Prop:=D.length<=9223372036854775807/\∀ x∈D,x.a.length<=9223372036854775807/\x.c.length<=9223372036854775807
theorem node_of {H:Type}{enc:TypeId × Value->H}{W:World}{n:Nat}{y:DataW H × List MemPlace}{cs':List Value}(hlen:cs'.length=8)(k2:DataW.trod enc Tryz.prog W 0 (fun _=>true) true n 39 cs'=some y):∃ t:Nv,cs'=ndC t.1 t.2.1 t.2.2/\AtIn W t.2.1 t.1.a/\IntIn W t.2.2 t.1.c/\CapV t.2.1/\t.1.a.length<=9223372036854775807/\t.1.c.length<=9223372036854775807:=by
 match cs',hlen with
 | [c0,c1,c2,c3,c4,c5,c6,c7],_ =>
   obtain⟨y0,y1,y2,y3,y4,y5,y6,y7,m,h0,h1,h2,h3,h4,h5,h6,h7⟩:=eight_of Tryz.underlying39 (by kernel_rfl) k2;obtain⟨kk,e0,_⟩:=DataW.trod_int Tryz.underlying35 h0;obtain⟨t,e1,_⟩:=DataW.trod_string Tryz.underlying9 h1;obtain⟨s,e2,_⟩:=DataW.trod_string Tryz.underlying9 h2;obtain⟨A,ha,hal,hac⟩:=attrs_of h3;obtain⟨pp,e4,_⟩:=DataW.trod_int Tryz.underlying3 h4;obtain⟨C,hc,hcl⟩:=ints_of h5;obtain⟨b6,e6,_⟩:=DataW.trod_bool Tryz.underlying4 h6;obtain⟨b7,e7,_⟩:=DataW.trod_bool Tryz.underlying4 h7
   cases e0;cases e1;cases e2;cases e4;cases e6;cases e7
   refine⟨⟨⟨kk,t.data.toList,s.data.toList,A,pp,C,b6,b7⟩,c3,c5⟩,?_,ha,hc,hac,hal,hcl⟩;show _=[_,_,_,_,_,_,_,_];rw[strV_of (T:=t) rfl,strV_of (T:=s) rfl]
theorem nodes_of {H:Type}{enc:TypeId × Value->H}{W:World}{v:Value}{n:Nat}{y:DataW H × List MemPlace}(hf:DataW.trod enc Tryz.prog W 0 (fun _=>true) true n 22 [v]=some y):∃ D,DocG W v D/\LenD D:=by
 have nil:∀ a c,∃ D,DocG W (.slice a 0 c) D/\LenD D:=fun a c=>⟨[],⟨fun _ => .bool true,fun _ => .bool true,⟨⟨rfl,(fun _ h=>by cases h),.inl ⟨⟨a,c,rfl⟩,rfl⟩⟩,fun i h=>absurd h (Nat.not_lt_zero _),fun i h=>absurd h (Nat.not_lt_zero _)⟩,fun i h=>absurd h (Nat.not_lt_zero _)⟩,by simp,fun x h=>by cases h⟩;rcases Go.Deep.open_slice Tryz.underlying22 hf with ⟨hcs,_⟩ | ⟨a,len,cap,m,k,D,Pl,hcs,_,hl,hm,hmm,_,hi⟩
 · cases hcs
   exact nil _ _
 · cases hcs
   simp only[if_true]at hmm;unfold maxLen at hm
   by_cases h0:len=0
   · subst h0
     exact nil _ _
   · have hce:Tryz.prog.cellsOf 39=8:=by kernel_rfl
     obtain⟨b,off,spot⟩:=a
     have hspot:spot=none:=by
      obtain⟨cs',h1,_⟩:=hi 0 (by omega);rw[hce]at h1;obtain⟨_,hlen,hcell⟩:=World.cells?_some h1;have h2:=hcell 0 (by omega);rw[List.getElem?_eq_getElem (by omega)]at h2
      simpa [Addr.add] using World.cell?_spot h2
     subst hspot
     obtain⟨L,h1,h2⟩:=list_of (α:=Nv) (P:=fun i t=>NdAt W b (off+i * 8) t/\AtIn W t.2.1 t.1.a/\IntIn W t.2.2 t.1.c/\CapV t.2.1/\t.1.a.length<=9223372036854775807/\t.1.c.length<=9223372036854775807) len (fun i hlt=>by
      obtain⟨cs',k1,k2⟩:=hi i (by omega);rw[hce]at k1;obtain⟨_,hlen,hcell⟩:=World.cells?_some k1;obtain⟨t,rfl,h3⟩:=node_of hlen k2;refine⟨t,fun j v hj => ?_,h3⟩
      have hj8:j<8:=by
       have:=(List.getElem?_eq_some_iff.1 hj).1;exact this
      have g:=hcell j hj8;rw[add_none,add_none]at g;rw[g]
      exact hj)
     have hm1:(L.map (·.1)).length=len:=by simp[h1]
     refine⟨L.map (·.1),⟨fA L,fK L,⟨⟨?_,?_,.inr ⟨b,off,cap,by rw[hm1],nds_told L off fun i hi'=>(h2 i hi').1⟩⟩,fun i hi' => ?_,fun i hi' => ?_⟩,fun i hi' => ?_⟩,by omega,fun x hx => ?_⟩
     · rw[ndsC_length]
     · refine ndsC_one _ _ _ fun i hi' => ?_
       have hi2:i<L.length:=by simpa using hi'
       rw[fA_at L i hi2,fK_at L i hi2];obtain⟨_,ha,hc,_⟩:=h2 i hi2;obtain⟨_,_,e1⟩:=ha.form;obtain⟨_,_,e2⟩:=hc.form;rw[e1,e2];exact⟨rfl,rfl⟩
     · have hi2:i<L.length:=by simpa using hi'
       rw[fA_at L i hi2,List.getElem_map];exact(h2 i hi2).2.1
     · have hi2:i<L.length:=by simpa using hi'
       rw[fK_at L i hi2,List.getElem_map];exact(h2 i hi2).2.2.1
     · have hi2:i<L.length:=by simpa using hi'
       rw[fA_at L i hi2];exact(h2 i hi2).2.2.2.1
     · obtain⟨i,hi',rfl⟩:=List.getElem_of_mem hx
       have hi2:i<L.length:=by simpa using hi'
       rw[List.getElem_map];exact(h2 i hi2).2.2.2.2
def ArgDoc (W:World)(v:Value)(D:List Nd):Prop:=∃ sl,v=.agg #[sl]/\DocG W sl D/\LenD D
end Dm
open Dm
theorem arg_doc {H:Type}{enc:TypeId × Value->H}{W:World}{v:Value}{d:DataW H}{p:List MemPlace}{base:Nat}(hok:Value.okWide Tryz.prog W .any base 24 v)(hj:DataW.Trod enc Tryz.prog W 0 (fun _=>true) true 24 v d p):∃ D:List Nd,ArgDoc W v D:=by
 obtain⟨cs,rfl,hsz⟩:=okWide_struct Tryz.underlying24 hok;have hce:Tryz.prog.cellsOf 24=1:=by kernel_rfl
 rw[hce]at hsz;obtain⟨fuel,hf⟩:=hj;obtain⟨l⟩:=cs
 match l,hsz with
 | [c0],_ =>
   obtain⟨y0,m,_,_,h0⟩:=trod_struct1 Tryz.underlying24 hf;obtain⟨D,h1,h2⟩:=nodes_of h0;exact⟨D,c0,rfl,h1,h2⟩
end Go.Proofs.YtlnfbjbagmfpiaaGreatDoor
