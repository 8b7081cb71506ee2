/- The program's builder: a Fail more; which node is open under what name. The program's builder: what it holds; an end tag; the end. The program's builder: an end tag; the end. The program's builder: a node is made, and put into the last open element; the end. The program's builder: what lays a token of each kind. The program's builder: a start tag. -/
import Derived.Test.YtlnfbjbagmfpiaaGreatDoorBpZA
import Derived.Test.YtlnfbjbagmfpiaaGreatDoorBrZD
set_option maxRecDepth 100000
set_option maxHeartbeats 8000000
namespace Go.Proofs.YtlnfbjbagmfpiaaGreatDoor.Dm
open Go.RowKit
theorem failB_hid (F:List Fl)(c:Int)(at_:Nat)(hl:F.length<=1000000)(B:Nat):Hid (∀ W Q dv ov p fv,BX W Q dv ov p fv->B<=Q->W.ownsRow B 93 2 fv F.length (flD F)->Calls Tryz.prog 81 #[.pointer (some ⟨Q,0,none⟩),.int .i64 c,.int .i64 (at_:Int)] W fun e w'=>e=.returned (.tuple #[])/\∃ fv',BX w' Q dv ov p fv'/\w'.ownsRow B 93 2 fv' (F++[(c,at_)]).length (flD (F++[(c,at_)]))/\Kp (PBf B) W w'):=Lib.hid fun w Q dv ov p fv hX hBQ hO=>by
 obtain⟨i0,hi3,hz0,hz1,hz2⟩:=info_parts TinfoFl;obtain⟨fa,fc,rfl⟩:=row_form hO;have al:=(Below.refl w.heap.size w).alloc (Nat.le_refl _) (.cells #[.int .i64 c,.int .i64 (at_:Int)] 93);have hro:=RowIn.made w #[.int .i64 c,.int .i64 (at_:Int)] 93 1 2 rfl (fun x hx=>by simp at hx;rcases hx with rfl | rfl<;>rfl);have hX1:=hX.below al;have e3:=hX.c3;have f3:=hX1.free 3;have hQ:=hX.lt;have hs1:=al.size;have hws:B<=(w.alloc (.cells #[.int .i64 c,.int .i64 (at_:Int)] 93)).heap.size:=by omega
 have H1:=Lib.hid (And.intro hro (And.intro (row_below hO al) (And.intro hX1 al)));clear hO hX hX1 al hro
 go_enter Tryz.func81,Tryz.ntmps81
 go_wp2_with (at_builtin
              refine wpList_append_rowG rfl _ _ 29 93 i0 (.agg #[.int .i64 0,.int .i64 0]) 2 16 Tryz.underlying29 hi3 hz0 hz1 hz2 rfl (by decide) rfl B _ _ _ rfl H1.out.2.1 _ 1 _ rfl H1.out.1 (by unfold maxLen;omega) (by omega) hws ?_;intro v6 w6 hown6 hgrow6 hat6
              have k6:Kp (PBf B) (w.alloc (.cells #[.int .i64 c,.int .i64 (at_:Int)] 93)) w6:=Kp.of_grown hgrow6 (fun j c t fr hj hc=>by
               obtain⟨cur,e,hb,_⟩:=row_block H1.out.2.1 hj;rw[hc]at e
               cases e
               exact⟨.inr rfl,hb⟩) fun j hj=>by
               obtain⟨cur,e,_⟩:=row_block H1.out.2.1 hj;exact⟨_,_,_,e⟩
              have x6:BX w6 Q dv ov p (.slice fa F.length fc):=(hgrow6.block Q H1.out.2.2.1.lt (fun e=>row_ne H1.out.2.1 H1.out.2.2.1 (by decide) e.symm)).trans H1.out.2.2.1;have f6:=x6.free 3;have d6:=x6.c3;have hn6:w6.ownsRow B 93 2 v6 (F++[(c,at_)]).length (flD (F++[(c,at_)])):=by rw[List.length_append,flD_snoc];exact hown6
              have HE:Hid (BX (w6.setCell ⟨Q,3,none⟩ v6) Q dv ov p v6/\(w6.setCell ⟨Q,3,none⟩ v6).ownsRow B 93 2 v6 (F++[(c,at_)]).length (flD (F++[(c,at_)]))/\Kp (PBf B) w (w6.setCell ⟨Q,3,none⟩ v6)):=Lib.hid ⟨x6.set3 v6,(x6.kset 3 v6).row hn6 fun j hj _ e=>row_ne hn6 x6 (by decide) (by rw[hj];exact congrArg _ e),(Kp.of_below H1.out.2.2.2).trans (k6.trans (Kp.of_set x6 v6 ⟨.inl rfl,hBQ⟩))⟩;obtain⟨va,vc,rfl⟩:=row_form hown6
              clear hown6 hgrow6 hat6 k6 x6 hn6)
 go_end0
 exact⟨rfl,_,HE.out.1,by have h:=HE.out.2.1;rw[List.length_append]at h;exact h,HE.out.2.2⟩
structure NmE (D:List Nd) (o:List Nat) (E:List OE):Prop where
 o:E.reverse.map (·.1)=o
 z:∀ y,E[0]? = some y->y.2=[]
 n:∀ i y,0<i->E[i]? = some y->nameN D y.1=y.2
theorem NmE.len {D:List Nd}{o:List Nat}{E:List OE}(h:NmE D o E):E.length=o.length:=by rw[<- h.o];simp
theorem NmE.at {D:List Nd}{o:List Nat}{E:List OE}(h:NmE D o E){s:Nat}(hs:s<E.length):o[s]? = some (E[E.length - 1 - s]'(by omega)).1:=by
 rw[<- h.o,List.getElem?_map,List.getElem?_reverse hs,List.getElem?_eq_getElem (by omega)];rfl
theorem NmE.mem {D:List Nd}{o:List Nat}{E:List OE}(h:NmE D o E){y:OE}(hy:y∈E):y.1∈o:=by
 rw[<- h.o];exact List.mem_map.2 ⟨y,by simpa using hy,rfl⟩
theorem NmE.same {D D':List Nd}{o:List Nat}{E:List OE}(h:NmE D o E)(hn:∀ a∈o,nameN D' a=nameN D a):NmE D' o E:=⟨h.o,h.z,fun i y hi hy=>by rw[hn _ (h.mem (List.mem_of_getElem? hy))];exact h.n i y hi hy⟩
theorem NmE.push {D:List Nd}{o:List Nat}{E:List OE}(h:NmE D o E)(h0:0<E.length){y:OE}(hy:nameN D y.1=y.2):NmE D (y.1 :: o) (E++[y]):=⟨by rw[List.reverse_append];simp[h.o],fun z hz=>by rw[List.getElem?_append_left h0]at hz;exact h.z z hz,fun i z hi hz=>by
 by_cases e:i<E.length
 · rw[List.getElem?_append_left e]at hz
   exact h.n i z hi hz
 · rw[List.getElem?_append_right (by omega)]at hz
   have:i - E.length=0:=by
    have:=(List.getElem?_eq_some_iff.1 hz).1;simp at this;omega
   rw[this]at hz;simp at hz;subst hz
   exact hy⟩
theorem NmE.take {D:List Nd}{o:List Nat}{E:List OE}(h:NmE D o E)(i:Nat):NmE D (o.drop (E.length - i)) (E.take i):=by
 refine⟨?_,fun y hy => ?_,fun j y hj hy => ?_⟩
 · rw[<- h.o,List.reverse_take,<- List.map_drop]
 · rw[List.getElem?_take]at hy
   split at hy
   · exact h.z y hy
   · cases hy
 · rw[List.getElem?_take]at hy
   split at hy
   · exact h.n j y hj hy
   · cases hy
theorem findP_spec {E:List OE}{nm:List UInt8}:∀ k,k<=E.length->(findP E nm k = -1/\∀ i (h:i<E.length),i<k->E[i].2≠nm)\/∃ i,∃ h:i<E.length,i<k/\findP E nm k=(i:Int)/\E[i].2=nm/\∀ j (h:j<E.length),i<j->j<k->E[j].2≠nm
 | 0,_ => .inl ⟨rfl,fun i _ h=>by omega⟩
 | k+1,hk=>by
   rw[findP_succ (by omega)]
   by_cases e:E[k].2=nm
   · rw[if_pos e]
     exact .inr ⟨k,by omega,by omega,rfl,e,fun j _ h1 h2=>by omega⟩
   · rw[if_neg e]
     rcases findP_spec (E:=E) (nm:=nm) k (by omega)with ⟨h1,h2⟩ | ⟨i,hi,h1,h2,h3,h4⟩
     · refine .inl ⟨h1,fun i hi hik => ?_⟩
       by_cases e2:i=k
       · subst e2;exact e
       · exact h2 i hi (by omega)
     · refine .inr ⟨i,hi,by omega,h2,h3,fun j hj h5 h6 => ?_⟩
       by_cases e2:j=k
       · subst e2;exact e
       · exact h4 j hj h5 (by omega)
theorem NmE.find {k:Wk}{E:List OE}(h:NmE k.D k.o E)(h0:0<E.length)(nm:List UInt8):(findP E nm E.length<1/\¬ placeW k nm<k.o.dropLast.length)\/∃ s,s+1<E.length/\findP E nm E.length=((E.length - 1 - s:Nat):Int)/\placeW k nm=s/\s<k.o.dropLast.length:=by
 have hl:=h.len
 have none:(∀ i (hi:i<E.length),0<i->E[i].2≠nm)->¬ placeW k nm<k.o.dropLast.length:=fun hn=>place_none fun j b hj hb=>by
  rw[List.length_dropLast]at hj;rw[h.at (by omega)]at hb
  cases hb
  rw[h.n (E.length - 1 - j) _ (by omega) (List.getElem?_eq_getElem (by omega))];exact hn _ _ (by omega)
 rcases findP_spec (E:=E) (nm:=nm) E.length (Nat.le_refl _)with ⟨h1,h2⟩ | ⟨i,hi,-,h2,h3,h4⟩
 · exact .inl ⟨by omega,none fun i hi _=>h2 i hi hi⟩
 · by_cases e:i=0
   · subst e
     exact .inl ⟨by omega,none fun i hi h5=>h4 i hi h5 hi⟩
   · have hs:E.length - 1 - i<k.o.dropLast.length:=by rw[List.length_dropLast];omega
     refine .inr ⟨E.length - 1 - i,by omega,by rw[h2];omega,?_,hs⟩;have ha:=h.at (s:=E.length - 1 - i) (by omega);have e2:E.length - 1 - (E.length - 1 - i)=i:=by omega
     simp only[e2]at ha;refine place_here ha hs (fun j b hj hb => ?_) ?_
     · rw[h.at (by omega)]at hb
       cases hb
       rw[h.n (E.length - 1 - j) _ (by omega) (List.getElem?_eq_getElem (by omega))];exact h4 _ _ (by omega) (by omega)
     · rw[h.n i _ (by omega) (List.getElem?_eq_getElem hi)]
       exact h3
end Go.Proofs.YtlnfbjbagmfpiaaGreatDoor.Dm
namespace Go.Proofs.YtlnfbjbagmfpiaaGreatDoor.Dm
open Go.RowKit
structure PkO (w:World) (B:Nat) (k:Wk) (E:List OE) (dv ov fv:Value):Prop where
 d:OwnX w B dv k.D
 o:w.ownsRow B 131 2 ov E.length (opC E)
 f:w.ownsRow B 93 2 fv k.f.length (flD k.f)
def PkI (w:World)(Q B:Nat)(k:Wk)(E:List OE)(p:Bool):Prop:=B<=Q/\∃ dv ov fv,BX w Q dv ov p fv/\PkO w B k E dv ov fv
theorem OwnX.kpB {w w':World}{B B':Nat}{sl:Value}{D:List Nd}(h:OwnX w B sl D)(k:Kp (PB B') w w'):OwnX w' B sl D:=by
 obtain⟨A,K,h1⟩:=h;exact⟨A,K,h1.kp2 k (fun _=>PB.no8) (fun _=>PB.no2) (fun _=>PB.no3)⟩
theorem OwnX.belowB {w w':World}{B:Nat}{sl:Value}{D:List Nd}(h:OwnX w B sl D)(b:Below w.heap.size w w'):OwnX w' B sl D:=by
 obtain⟨A,K,h1⟩:=h;exact⟨A,K,h1.below b⟩
theorem PkO.below {w w':World}{B:Nat}{k:Wk}{E:List OE}{dv ov fv:Value}(h:PkO w B k E dv ov fv)(b:Below w.heap.size w w'):PkO w' B k E dv ov fv:=⟨h.d.belowB b,row_below h.o b,row_below h.f b⟩
theorem PkI.below {w w':World}{Q B:Nat}{k:Wk}{E:List OE}{p:Bool}(h:PkI w Q B k E p)(b:Below w.heap.size w w'):PkI w' Q B k E p:=by
 obtain⟨h1,dv,ov,fv,h2,h3⟩:=h;exact⟨h1,dv,ov,fv,h2.below b,h3.below b⟩
end Go.Proofs.YtlnfbjbagmfpiaaGreatDoor.Dm
namespace Go.Proofs.YtlnfbjbagmfpiaaGreatDoor.Dm
open Go.RowKit
theorem PkO.fail {w w':World}{B:Nat}{k:Wk}{E:List OE}{dv ov fv fv':Value}{F:List Fl}(h:PkO w B k E dv ov fv)(kp:Kp (PBf B) w w')(hf:w'.ownsRow B 93 2 fv' F.length (flD F)):PkO w' B { k with f:=F } E dv ov fv' :=
 ⟨h.d.kpB (PBf.pb kp),kp.row h.o fun j _ _ e=>by rcases e.1 with e | e<;>exact absurd e (by decide),hf⟩
theorem PkO.open' {w w':World}{B:Nat}{k:Wk}{E E':List OE}{dv ov fv ov':Value}{o:List Nat}(h:PkO w B k E dv ov fv)(kp:Kp (PBo B) w w')(ho:w'.ownsRow B 131 2 ov' E'.length (opC E')):PkO w' B { k with o:=o } E' dv ov' fv :=
 ⟨h.d.kpB (PBo.pb kp),ho,kp.row h.f fun j _ _ e=>by rcases e.1 with e | e<;>exact absurd e (by decide)⟩
theorem endB_hid (k:Wk)(p:Bool)(E:List OE)(Q B:Nat)(t:Tk)(at_:Nat)(hE:NmE k.D k.o E)(h0:0<E.length)(hl:E.length<=1000)(hf:k.f.length<=1000000):Hid (∀ W av,PkI W Q B k E p->Calls Tryz.prog 78 #[.pointer (some ⟨Q,0,none⟩),tokV t av,.int .i64 (at_:Int)] W fun e w'=>e=.returned (.int .i64 0)/\(∃ E',NmE (endW k t.n at_).D (endW k t.n at_).o E'/\PkI w' Q B (endW k t.n at_) E' p)/\Below B W w'):=Lib.hid fun w av h=>by
 obtain⟨hBQ,dv,ov,fv,hX,hO⟩:=h;obtain⟨N,hN⟩:=text_of t.n;obtain⟨Dt,hDt⟩:=text_of t.d;obtain⟨va,vc,rfl⟩:=row_form hO.o;have hQ:=hX.lt;have al:=(Below.refl w.heap.size w).alloc (Nat.le_refl _) (.cells #[.int .i64 t.k,.string N,.string Dt,av,.bool t.c] 57);have hb:=new_block w (.cells #[.int .i64 t.k,.string N,.string Dt,av,.bool t.c] 57);have hs1:(w.alloc (.cells #[.int .i64 t.k,.string N,.string Dt,av,.bool t.c] 57)).heap.size=w.heap.size+1:=by simp
 generalize hw1:w.alloc (.cells #[.int .i64 t.k,.string N,.string Dt,av,.bool t.c] 57)=w1 at al hb hs1;have x1:=hX.below al;have o1:=hO.below al;have CF:=find_hidB E (by omega) N B;have CF1:=failB_hid k.f 160 at_ hf B;have CF2:=failB_hid k.f 162 at_ hf B;have CN:=count_hid;have H1:=Lib.hid (And.intro x1 (And.intro o1 (And.intro hb al)));have hfind:=hE.find h0 t.n;rw[<- hN]at hfind;have HE:=Lib.hid hE;unfold tokV;rw[strV_of hN,strV_of hDt,<- hN];replace hN:=Lib.hid hN;have hmf:∀(fn:Fn) (first cap:Array Value) (w:World),(Instr.makeFunc fn first cap).run Tryz.prog w=.ok (.func fn first cap) w:=fun _ _ _ _=>rfl;clear hX hO x1 o1 al hb hE hs1
 go_enter Tryz.func78,Tryz.ntmps78
 go_wp2_with fail
 (refine(CF.out _ _ _ _ _ _ _ _ _ _ _ H1.out.1 H1.out.2.1.o H1.out.2.2.1).mono ?_)
 rintro e w2 ⟨rfl,b2⟩;clear hw1;have x2:=H1.out.1.below b2;have o2:=H1.out.2.1.below b2;have hw2:w.heap.size<=w2.heap.size:=Nat.le_trans H1.out.2.2.2.size b2.size;have bb2:Below w.heap.size w w2:=H1.out.2.2.2.trans (b2.mono H1.out.2.2.2.size);have H2:=Lib.hid (And.intro x2 (And.intro o2 bb2));clear b2 x2 o2 bb2 H1 CF;have hQ2:=H2.out.1.lt;rcases hfind with ⟨h1,h2⟩ | ⟨s,hs,h1,h2,h3⟩
 · generalize findP E N.data.toList E.length=u at *
   have HQ:Hid (endW k N.data.toList at_={ k with f:=k.f++[(160,at_)] }):=Lib.hid (by unfold endW;rw[if_neg h2]);clear h2
   go_wp2_with fail
   (refine(CF1.out _ _ _ _ _ _ H2.out.1 hBQ H2.out.2.1.f).mono ?_)
   rintro e w3 ⟨rfl,fv3,x3,f3,k3⟩
   have HF:Hid ((∃ E',NmE (endW k N.data.toList at_).D (endW k N.data.toList at_).o E'/\PkI w3 Q B (endW k N.data.toList at_) E' p)/\Below B w w3):=Lib.hid (by
    rw[HQ.out]
    exact⟨⟨E,HE.out,hBQ,_,_,_,x3,H2.out.2.1.fail k3 f3⟩,(H2.out.2.2.mono (by omega)).trans (PB.kp (PBf.pb k3) (by omega))⟩)
   clear x3 f3 k3
   go_wp2
   go_ret
   exact⟨rfl,HF.out⟩
 · rw[h1]
   obtain⟨u,hu⟩:∃ u,E.length - 1 - s=u:=⟨_,rfl⟩;rw[hu];have zu:¬ ((u:Int)<1):=by omega
   obtain⟨M,hM⟩:∃ M,E.length=M:=⟨_,rfl⟩;have hcut:=HE.out.take u;have hdrop:E.length - u=s+1:=by omega
   rw[hdrop]at hcut
   by_cases hs0:s=0
   · have HQ:Hid (endW k N.data.toList at_={ k with o:=k.o.drop (s+1) }):=Lib.hid (by
      unfold endW
      rw[h2,if_pos h3,if_neg (by omega)])
     have CU:=cut_hidB E h0 u (by omega) B;have CN2:=CN.out w2 Q dv va E.length vc p fv H2.out.1;have zlt:¬ ((u:Int)+1<(E.length:Int)):=by omega
     have HCut:=Lib.hid hcut;clear h2 h3 hcut h1
     go_wp2_with fail
     refine CN2.mono ?_;rintro e w3 ⟨rfl,rfl⟩;clear CN2
     go_wp2_with fail
     (refine(CU.out _ _ _ _ _ _ H2.out.1 hBQ H2.out.2.1.o).mono ?_)
     rintro e w3 ⟨rfl,ov3,x3,o3,k3⟩
     have HF:Hid ((∃ E',NmE (endW k N.data.toList at_).D (endW k N.data.toList at_).o E'/\PkI w3 Q B (endW k N.data.toList at_) E' p)/\Below B w w3):=Lib.hid (by
      rw[HQ.out]
      exact⟨⟨_,HCut.out,hBQ,_,_,_,x3,H2.out.2.1.open' k3 o3⟩,(H2.out.2.2.mono (by omega)).trans (PB.kp (PBo.pb k3) (by omega))⟩)
     clear x3 o3 k3
     go_wp2
     go_ret
     exact⟨rfl,HF.out⟩
   · have HQ:Hid (endW k N.data.toList at_={ k with o:=k.o.drop (s+1),f:=k.f++[(162,at_)] }):=Lib.hid (by
      unfold endW
      rw[h2,if_pos h3,if_pos (by omega)])
     have CU:=cut_hidB E h0 u (by omega) B;have CN2:=CN.out w2 Q dv va E.length vc p fv H2.out.1;have zlt:(u:Int)+1<(E.length:Int):=by omega
     have HCut:=Lib.hid hcut;clear h2 h3 hcut h1
     go_wp2_with fail
     refine CN2.mono ?_;rintro e w3 ⟨rfl,rfl⟩;clear CN2
     go_wp2_with fail
     (refine(CF2.out _ _ _ _ _ _ H2.out.1 hBQ H2.out.2.1.f).mono ?_)
     rintro e w3 ⟨rfl,fv3,x3,f3,k3⟩;have H3:=Lib.hid (And.intro x3 (And.intro (H2.out.2.1.fail k3 f3) ((H2.out.2.2.mono (show B<=w.heap.size by omega)).trans (PB.kp (PBf.pb k3) (by omega)))));have hs3:=k3.size;clear x3 f3 k3
     go_wp2_with fail
     (refine(CU.out _ _ _ _ _ _ H3.out.1 hBQ H3.out.2.1.o).mono ?_)
     rintro e w4 ⟨rfl,ov4,x4,o4,k4⟩
     have HF:Hid ((∃ E',NmE (endW k N.data.toList at_).D (endW k N.data.toList at_).o E'/\PkI w4 Q B (endW k N.data.toList at_) E' p)/\Below B w w4):=Lib.hid (by
      rw[HQ.out]
      exact⟨⟨_,HCut.out,hBQ,_,_,_,x4,H3.out.2.1.open' k4 o4⟩,H3.out.2.2.trans (PB.kp (PBo.pb k4) (by omega))⟩)
     clear x4 o4 k4
     go_wp2
     go_ret
     exact⟨rfl,HF.out⟩
end Go.Proofs.YtlnfbjbagmfpiaaGreatDoor.Dm
namespace Go.Proofs.YtlnfbjbagmfpiaaGreatDoor.Dm
open Go.RowKit
theorem lay_put {n:Nat}{w:Wk}(h:Snd n w){x:Nd}{t:Nat}{r:List Nat}(ho:w.o=t :: r)(hm:(makeR w.D x).2.2=0):(putR (makeR w.D x).1 (t:Int) (makeR w.D x).2.1).2=0:=by
 have hc:=h.c;rw[ho]at hc;have R:=h.R;have ht:=hc.top;obtain⟨_,h1,h2,h3,h4⟩:=makeR_inv hm;have hu:=lay_up R (x:=x) (q:=t) h1 h2 h3 ht.1;have hp:=putR_ok (D:=makeM w.D x) (q:=t) (n:=w.D.length) (check_right.2 (R.make h1 h2 h3)) ⟨by omega,by rw[make_len];omega,by have:=R.one;omega,by rw[make_len];omega,by rw[Int.toNat_natCast,make_holds ht.1];exact ht.2⟩ hu;rw[h4,hp]
theorem field0 (t:Int)(Y:ByteArray):∀ W,(Instr.field 131 (.agg #[.int .i64 t,.string Y]) 0).run Tryz.prog W=.ok (.int .i64 t) W:=fun _=>rfl
theorem NmE.top {D:List Nd}{o:List Nat}{E:List OE}(h:NmE D o E){y:OE}(hy:E.getLast? = some y):∃ r,o=y.1 :: r:=by
 obtain⟨l,rfl⟩:∃ l,E=l++[y]:=by
  have hne:E≠[]:=fun e=>by rw[e]at hy;cases hy
  rw[List.getLast?_eq_some_getLast hne]at hy;exact⟨E.dropLast,by rw[<- Option.some.inj hy,List.dropLast_concat_getLast]⟩
 exact⟨(l.reverse.map (·.1)),by rw[<- h.o];simp⟩
theorem putB_hid (n:Nat)(k:Wk)(p:Bool)(E:List OE)(Q B:Nat)(x:Nd)(hf:FitD k.D)(hx:FitN x)(hS:Snd n k)(y:OE)(hy:E.getLast? = some y)(hE:NmE k.D k.o E)(hl:E.length<=1000):Hid (∀ W av kv,PkI W Q B k E p->AtIn W av x.a->IntIn W kv x.c->Calls Tryz.prog 114 #[.pointer (some ⟨Q,0,none⟩),nodeV x av kv] W fun e w'=>e=.returned (.tuple #[.int .i64 ((layW k x).2:Int),.int .i64 (layW k x).1.b])/\((layW k x).1.b=0->PkI w' Q B (layW k x).1 E p)/\Below B W w'/\Kp (fun j _=>j=Q) W w'/\w'.cell? ⟨Q,2,none⟩=some (.bool p)):=Lib.hid fun w av kv h hat hkd=>by
 obtain⟨hBQ,dv,ov,fv,hX,hO⟩:=h;have CM:=(gMake hf x hx).out;obtain⟨r,ho⟩:=hE.top hy;obtain⟨t,ht⟩:∃ t,y.1=t:=⟨_,rfl⟩;rw[ht]at ho;obtain⟨aa,ac,rfl⟩:=hat.form;obtain⟨ka,kc,rfl⟩:=hkd.form;obtain⟨N,hN⟩:=text_of x.n;obtain⟨D,hD⟩:=text_of x.d;unfold nodeV at CM ⊢;rw[strV_of hN,strV_of hD]at CM ⊢;replace CM:=Lib.hid CM;have hQ:=hX.lt;have hb:=hS.b;have hL:∃ E i c,makeR k.D x=(E,i,c):=⟨_,_,_,rfl⟩;obtain⟨E1,i1,c1,he⟩:=hL;have hf1:=fitMake0 hf hx;have CP:=fun n=>(gPut (D:=E1) (by rw[he]at hf1;exact hf1) (t:Int) n).out;have CM2:=CM.out;rw[he]at CM2;clear CM;have CM:=Lib.hid CM2;clear CM2;have HE1:Hid (c1≠0->layW k x=({ k with b:=c1 },0)):=Lib.hid fun h=>by unfold layW;rw[if_neg (by simp[hb]),he,if_pos h]
 have HE2:Hid (c1=0->layW k x=({ k with D:=(putR E1 (t:Int) i1).1 },i1.toNat)/\(putR E1 (t:Int) i1).2=0):=Lib.hid fun h=>by
  refine⟨?_,?_⟩
  · unfold layW topW
    rw[if_neg (by simp[hb]),he,if_neg (by simp[h]),ho];rfl
  · have:=lay_put hS ho (x:=x) (by rw[he];exact h)
    rw[he]at this;exact this
 have HI:Hid (c1=0->0<=i1):=Lib.hid fun h=>by
  obtain⟨_,_,_,_,h5⟩:=makeR_inv (D:=k.D) (x:=x) (by rw[he];exact h);rw[he]at h5
  cases h5
  omega
 have al:=(Below.refl w.heap.size w).alloc (Nat.le_refl _) (.cells #[.int .i64 x.k,.string N,.string D,.slice aa x.a.length ac,.int .i64 x.p,.slice ka x.c.length kc,.bool x.b,.bool x.s] 39);have nb:=new_block w (.cells #[.int .i64 x.k,.string N,.string D,.slice aa x.a.length ac,.int .i64 x.p,.slice ka x.c.length kc,.bool x.b,.bool x.s] 39);have hs1:=al.size;have hX1:=hX.below al;have hO1:=hO.below al;have ha1:=AtIn.below hat al;have hk1:=hkd.below al;generalize hw1:w.alloc (.cells #[.int .i64 x.k,.string N,.string D,.slice aa x.a.length ac,.int .i64 x.p,.slice ka x.c.length kc,.bool x.b,.bool x.s] 39)=w1 at al nb hs1 hX1 hO1 ha1 hk1;have n0:=cell_of nb 0;have n1:=cell_of nb 1;have n2:=cell_of nb 2;have n3:=cell_of nb 3;have n4:=cell_of nb 4;have n5:=cell_of nb 5;have n6:=cell_of nb 6;have n7:=cell_of nb 7;have e0:=hX1.c0;have H1:=Lib.hid (And.intro hX1 (And.intro hO1 (And.intro ha1 (And.intro hk1 al))));obtain⟨da,dc,rfl⟩:=hO.d.form;clear hX hO hat hkd hX1 hO1 ha1 hk1 al nb he hf1 hN hD;replace CP:=Lib.hid CP;have CT:=top_hid E y hy (by omega) B;unfold oeV at CT;rw[ht]at CT;obtain⟨Y,hY⟩:=text_of y.2;rw[strV_of hY]at CT
 go_enter Tryz.func114,Tryz.ntmps114
 go_wp2_with fail
 have CMB:Hid (∀ w',Below w1.heap.size w1 w'->Calls Tryz.prog 143 #[.agg #[.slice da k.D.length dc],.agg #[.int .i64 x.k,.string N,.string D,.slice aa x.a.length ac,.int .i64 x.p,.slice ka x.c.length kc,.bool x.b,.bool x.s]] w' fun e w2=>∃ a1 d1,e=.returned (.tuple #[.agg #[.slice a1 E1.length d1],.int .i64 i1,.int .i64 c1])/\OwnX w2 w1.heap.size (.slice a1 E1.length d1) E1/\Below w1.heap.size w1 w2/\Below w'.heap.size w' w2):=Lib.hid fun w' b=>(CM.out _ _ _ _ (H1.out.2.1.below b).d.g (AtIn.below H1.out.2.2.1 b) (H1.out.2.2.2.1.below b)).mono fun e w2 ⟨a1,d1,h1,⟨A1,K1,h2⟩,h3⟩=>by
  exact⟨a1,d1,h1,⟨A1,K1,h2.low b.size⟩,b.trans (h3.mono b.size),h3⟩
 have hRd:=H1.out.2.2.2.2;obtain⟨R,hR⟩:∃ R,w.heap.size=R:=⟨_,rfl⟩;rw[hR]at n0 n1 n2 n3 n4 n5 n6 n7 ⊢
 have HS:Hid (∀ w',Below w1.heap.size w1 w'->(w'.cell? ⟨Q,0,none⟩=some (.slice da k.D.length dc)/\w'.cell? ⟨R,0,none⟩=some (.int .i64 x.k)/\w'.cell? ⟨R,1,none⟩=some (.string N)/\w'.cell? ⟨R,2,none⟩=some (.string D)/\w'.cell? ⟨R,3,none⟩=some (.slice aa x.a.length ac)/\w'.cell? ⟨R,4,none⟩=some (.int .i64 x.p)/\w'.cell? ⟨R,5,none⟩=some (.slice ka x.c.length kc)/\w'.cell? ⟨R,6,none⟩=some (.bool x.b)/\w'.cell? ⟨R,7,none⟩=some (.bool x.s)/\Below w1.heap.size w1 w')):=Lib.hid fun w' b=>by
  have h:=fun(j:Nat) (v:Value) (e:w1.cell? ⟨R,j,none⟩=some v)=>(b.cell (lt_of_cell e)).trans e;exact⟨(b.cell (lt_of_cell e0)).trans e0,h 0 _ n0,h 1 _ n1,h 2 _ n2,h 3 _ n3,h 4 _ n4,h 5 _ n5,h 6 _ n6,h 7 _ n7,b⟩
 have B1:=Below.refl w1.heap.size w1;have S0:=HS.out _ ((Below.refl w1.heap.size w1).drew)
 go_region_held3 (fun w'=>w'.cell? ⟨Q,0,none⟩=some (.slice da k.D.length dc)/\w'.cell? ⟨R,0,none⟩=some (.int .i64 x.k)/\w'.cell? ⟨R,1,none⟩=some (.string N)/\w'.cell? ⟨R,2,none⟩=some (.string D)/\w'.cell? ⟨R,3,none⟩=some (.slice aa x.a.length ac)/\w'.cell? ⟨R,4,none⟩=some (.int .i64 x.p)/\w'.cell? ⟨R,5,none⟩=some (.slice ka x.c.length kc)/\w'.cell? ⟨R,6,none⟩=some (.bool x.b)/\w'.cell? ⟨R,7,none⟩=some (.bool x.s)/\Below w1.heap.size w1 w') (first | assumption | (refine HS.out _ ?_;go_split_ands;repeat' (first | assumption | refine Below.drew ?_ | refine bel_alloc ?_ _ | refine bel_set ?_ ?_ _ | exact Nat.le_refl _ | exact Below.size (by assumption)))) (first
  | (go_at_call 143
     (with_reducible refine(CMB.out _ ?_).mono ?_)
     · (go_split_ands;assumption)
     rintro e w2 ⟨a1,d1,rfl,o2,b2,b3⟩
     try (have x2:=(b3.block w1.heap.size (lt_of_block (show(w1.alloc (.cells #[.slice none 0 0] 24)).drew.heap[w1.heap.size]? = some (.cells #[.slice none 0 0] 24 (0,0))from new_block _ _))).trans (show(w1.alloc (.cells #[.slice none 0 0] 24)).drew.heap[w1.heap.size]? = some (.cells #[.slice none 0 0] 24 (0,0))from new_block _ _)
          have z2:=cell_of x2 0
          have y2:=open_of x2 0)
     clear b3))
 all_goals
  first
  | (have HV:Hid ((w2.setCell ⟨w1.heap.size,0,none⟩ (.slice a1 E1.length d1)).heap[w1.heap.size]? = some (.cells #[.slice a1 E1.length d1] 24 (0,0))/\OwnX (w2.setCell ⟨w1.heap.size,0,none⟩ (.slice a1 E1.length d1)) w1.heap.size (.slice a1 E1.length d1) E1/\Below w1.heap.size w1 (w2.setCell ⟨w1.heap.size,0,none⟩ (.slice a1 E1.length d1))/\w1.heap.size<=w1.heap.size):=Lib.hid ⟨heap_setCell_same w2 w1.heap.size 0 _ _ _ (.slice a1 E1.length d1) x2,(by obtain⟨A1,K1,o3⟩:=o2;exact⟨A1,K1,o3.setDoc x2⟩),bel_set b2 (Nat.le_refl _) _,Nat.le_refl _⟩
     generalize w2.setCell ⟨w1.heap.size,0,none⟩ (.slice a1 E1.length d1)=w3 at HV ⊢;obtain⟨R2,hR2⟩:∃ R2,R2=w1.heap.size:=⟨_,rfl⟩;have HV2:Hid (w3.heap[R2]? = some (.cells #[.slice a1 E1.length d1] 24 (0,0))/\OwnX w3 w1.heap.size (.slice a1 E1.length d1) E1/\Below w1.heap.size w1 w3/\w1.heap.size<=R2):=Lib.hid (by rw[hR2];exact HV.out);clear HV;have HV:=HV2;clear HV2;rw[<- hR2]
     replace hR2:=Lib.hid hR2)
  | (have HV:Hid ((w2.alloc (.cells #[.slice a1 E1.length d1] 24)).heap[w2.heap.size]? = some (.cells #[.slice a1 E1.length d1] 24 (0,0))/\OwnX (w2.alloc (.cells #[.slice a1 E1.length d1] 24)) w1.heap.size (.slice a1 E1.length d1) E1/\Below w1.heap.size w1 (w2.alloc (.cells #[.slice a1 E1.length d1] 24))/\w1.heap.size<=w2.heap.size):=Lib.hid ⟨new_block _ _,o2.below ((Below.refl _ _).alloc (Nat.le_refl _) _),bel_alloc b2 _,b2.size⟩
     generalize w2.alloc (.cells #[.slice a1 E1.length d1] 24)=w3 at HV ⊢
     generalize w2.heap.size=R2 at HV ⊢)
 all_goals
  have hX3:=H1.out.1.below HV.out.2.2.1;have hO3:=H1.out.2.1.below HV.out.2.2.1;have hBw0:Below w.heap.size w w3:=H1.out.2.2.2.2.trans (HV.out.2.2.1.mono H1.out.2.2.2.2.size);have hBw:Below B w w3:=hBw0.mono (by omega);have hs3:=hX3.lt
 all_goals
  by_cases hc:c1=0
  case neg =>
   have g2:(c1 != 0)=true:=by rw[bne_iff_ne];exact hc
   have HE:Hid ((layW k x).2=0/\(layW k x).1.b=c1/\Below B w w3/\Kp (fun j _=>j=Q) w w3/\w3.cell? ⟨Q,2,none⟩=some (.bool p)):=Lib.hid (by
    rw[HE1.out hc]
    exact⟨rfl,rfl,hBw,Kp.of_below hBw0,hX3.c2⟩)
   clear HE1 HE2 HI hX3 hO3 hBw hBw0 CP CT
   go_wp2
   go_ret2
   exact⟨by rw[HE.out.1,HE.out.2.1];rfl,fun h=>absurd (HE.out.2.1.symm.trans h) hc,HE.out.2.2⟩
  subst hc;have HI2:=HI.out rfl;obtain⟨HE3,hz⟩:=HE2.out rfl;obtain⟨E2,z2,he2⟩:∃ E z,putR E1 (t:Int) i1=(E,z):=⟨_,_,rfl⟩;have CP2:=CP.out i1;rw[he2]at CP2 HE3 hz;replace HE3:=Lib.hid HE3;have hz0:z2=0:=hz;subst hz0;have hV0:=cell_of HV.out.1 0
  have CPB:Hid (∀ w',Below w3.heap.size w3 w'->Calls Tryz.prog 144 #[.agg #[.slice a1 E1.length d1],.int .i64 (t:Int),.int .i64 i1] w' fun e w5=>∃ a2 d2,e=.returned (.tuple #[.agg #[.slice a2 E2.length d2],.int .i64 0])/\OwnX w5 w3.heap.size (.slice a2 E2.length d2) E2/\Below w3.heap.size w3 w5/\Below w'.heap.size w' w5):=Lib.hid fun w' b=>by
   obtain⟨A1,K1,o3⟩:=HV.out.2.1
   exact(CP2 _ _ (OwnX.g ⟨A1,K1,o3.below b⟩)).mono fun e w5 ⟨a2,d2,h1,⟨A2,K2,h2⟩,h3⟩=>by
    exact⟨a2,d2,h1,⟨A2,K2,h2.low b.size⟩,b.trans (h3.mono b.size),h3⟩
  have CTB:Hid (∀ w',Below w3.heap.size w3 w'->Calls Tryz.prog 145 #[.pointer (some ⟨Q,1,none⟩)] w' fun e w5=>e=.returned (.agg #[.int .i64 (t:Int),.string Y])/\Below w3.heap.size w3 w5/\Below w'.heap.size w' w5):=Lib.hid fun w' b=>(CT.out _ _ _ _ _ _ (hX3.below b) (hO3.below b).o).mono fun e w5 ⟨h1,h2⟩=>⟨h1,b.trans (h2.mono b.size),h2⟩;have hfz:∀ w',Below w3.heap.size w3 w'->w'.frozen? ⟨Q,0,none⟩=false/\w'.cell? ⟨Q,0,none⟩=some (.slice da k.D.length dc):=fun w' b=>⟨(hX3.below b).free 0,(hX3.below b).c0⟩
  have HS2:Hid (∀ w',Below w3.heap.size w3 w'->(w'.cell? ⟨R2,0,none⟩=some (.slice a1 E1.length d1)/\w'.frozen? ⟨Q,0,none⟩=false/\w'.cell? ⟨Q,0,none⟩=some (.slice da k.D.length dc)/\Below w3.heap.size w3 w')):=Lib.hid fun w' b =>
   ⟨(b.cell (lt_of_cell hV0)).trans hV0,(hfz w' b).1,(hfz w' b).2,b⟩
  have hQR:R2≠Q:=by have:=H1.out.1.lt;have:=HV.out.2.2.2;omega
  have HS3:Hid (∀ w',Below w3.heap.size w3 w'->∀ v,(w'.setCell ⟨Q,0,none⟩ v).cell? ⟨R2,0,none⟩=some (.slice a1 E1.length d1)):=Lib.hid fun w' b v=>by
   rw[cell_of ((heap_setCell_ne w' ⟨Q,0,none⟩ v hQR).trans ((b.block _ (lt_of_block HV.out.1)).trans HV.out.1))];rfl
  have B3:=Below.refl w3.heap.size w3;have S3:=HS2.out _ ((Below.refl w3.heap.size w3).drew);replace S3:=S3.1;clear hV0 hfz CP2 he2 HE1 HE2 HI CP CMB HS n0 n1 n2 n3 n4 n5 n6 n7 o2 b2 hz;replace hX3:=Lib.hid hX3;replace hO3:=Lib.hid hO3;replace hBw:=Lib.hid (And.intro hBw hBw0);clear hBw0;have hfl:=field0 (t:Int) Y
  go_wp2_with fail
  go_region_held3 (fun w'=>w'.cell? ⟨R2,0,none⟩=some (.slice a1 E1.length d1)) (first | assumption | (exact HS3.out _ (by assumption) _) | (refine(HS2.out _ ?_).1;repeat' (first | assumption | refine Below.drew ?_ | refine bel_alloc ?_ _))) (first
   | (go_at_call 145
      (with_reducible refine(CTB.out _ ?_).mono ?_)
      · (repeat' (first | assumption | refine Below.drew ?_ | refine bel_alloc ?_ _))
      rintro e w4 ⟨rfl,b4,b4'⟩
      clear b4')
   | (go_at_call 144
      (with_reducible refine(CPB.out _ ?_).mono ?_)
      · (repeat' (first | assumption | refine Below.drew ?_ | refine bel_alloc ?_ _))
      rintro e w5 ⟨a2,d2,rfl,o5,b5,b6⟩;have z5:=(HS2.out _ b5).2.1;have y5:=(HS2.out _ b5).2.2.1
      clear b6))
  all_goals
   have x5:=hX3.out.below b5;have hp5:PkO w5 B { k with D:=E2 } E (.slice a2 E2.length d2) ov fv:=⟨by obtain⟨A2,K2,h2⟩:=o5;exact⟨A2,K2,h2.low (by have:=hs3;omega)⟩,row_below hO3.out.o b5,row_below hO3.out.f b5⟩;have kq:Kp (PB B) w5 (w5.setCell ⟨Q,0,none⟩ (.slice a2 E2.length d2)):=Kp.of_set x5 _ ⟨.inl rfl,hBQ⟩
   have HF:Hid ((layW k x).2=i1.toNat/\(layW k x).1.b=0/\PkI (w5.setCell ⟨Q,0,none⟩ (.slice a2 E2.length d2)) Q B (layW k x).1 E p/\Below B w (w5.setCell ⟨Q,0,none⟩ (.slice a2 E2.length d2))/\Kp (fun j _=>j=Q) w (w5.setCell ⟨Q,0,none⟩ (.slice a2 E2.length d2))/\(w5.setCell ⟨Q,0,none⟩ (.slice a2 E2.length d2)).cell? ⟨Q,2,none⟩=some (.bool p)):=Lib.hid (by
    rw[HE3.out];have kq2:=x5.kset 0 (.slice a2 E2.length d2);refine⟨rfl,hb,⟨hBQ,_,_,_,x5.set0 _,⟨hp5.d.kpB kq,kq2.row hp5.o fun j hj _ e=>row_ne hp5.o x5 (by decide) (by rw[hj];exact congrArg _ e),kq2.row hp5.f fun j hj _ e=>row_ne hp5.f x5 (by decide) (by rw[hj];exact congrArg _ e)⟩⟩,?_⟩;have hsz:B<=w3.heap.size:=by omega
    exact⟨(hBw.out.1.trans (b5.mono hsz)).trans (PB.kp kq (Nat.le_trans hsz b5.size)),(Kp.of_below (hBw.out.2.trans (b5.mono hBw.out.2.size))).trans kq2,(x5.set0 _).c2⟩)
   clear x5 hp5 kq o5 b5
   go_wp2
   go_ret2
   exact⟨by rw[HF.out.1,HF.out.2.1,Int.toNat_of_nonneg HI2];rfl,fun _=>HF.out.2.2.1,HF.out.2.2.2⟩
end Go.Proofs.YtlnfbjbagmfpiaaGreatDoor.Dm
namespace Go.Proofs.YtlnfbjbagmfpiaaGreatDoor.Dm
open Go.RowKit
theorem NmE.lay {n:Nat}{k:Wk}{E:List OE}(hS:Snd n k)(hE:NmE k.D k.o E){x:Nd}(hb:(layW k x).1.b=0):NmE (layW k x).1.D (layW k x).1.o E:=by
 obtain⟨t,r,ho⟩:=hS.top;have hc:=hS.c;rw[ho]at hc;obtain⟨h1,_⟩:=lay_ok ho hS.R hc hS.b hb;rw[h1];exact hE.same fun a ha=>lay_name hS.R (hc.lt a (by rw[<- ho];exact ha)).1
theorem NmE.laid {n:Nat}{k:Wk}{E:List OE}(hS:Snd n k)(hE:NmE k.D k.o E){x:Nd}(hb:(layW k x).1.b=0):NmE (layW k x).1.D ((layW k x).2 :: k.o) (E++[((layW k x).2,x.n)]):=by
 have h1:=hE.lay hS hb;obtain⟨t,r,ho⟩:=hS.top;have hc:=hS.c;rw[ho]at hc;obtain⟨h2,_⟩:=lay_ok ho hS.R hc hS.b hb;have ho1:=(lay_o k x).1;rw[ho1]at h1;refine h1.push (y:=((layW k x).2,x.n)) (by have:=hE.len;rw[ho]at this;simp at this;omega) ?_;rw[h2];exact lay_name_last hc.top.1
structure PkC (n:Nat) (k:Wk) (E:List OE):Prop where
 s:Snd n k
 e:NmE k.D k.o E
 f:FitD k.D
 l:k.f.length<=1000000
theorem PkC.len {n:Nat}{k:Wk}{E:List OE}(h:PkC n k E):0<E.length/\E.length<=30/\E.length=k.o.length:=by
 obtain⟨t,r,ho⟩:=h.s.top;have h1:=h.e.len;have h2:=h.s.d;rw[ho]at h1 h2;simp at h1 h2;exact⟨by omega,by omega,h.e.len⟩
theorem PkC.last {n:Nat}{k:Wk}{E:List OE}(h:PkC n k E):∃ y,E.getLast? = some y:=by
 have:=h.len.1
 cases e:E.getLast? with
 | none=>rw[List.getLast?_eq_none_iff]at e;rw[e]at this;simp at this
 | some y=>exact⟨y,rfl⟩
def StepE (p:Bool)(k:Wk)(Q B:Nat)(t:Tk)(at_:Nat)(W:World)(e:Ending)(w':World):Prop:=e=.returned (.int .i64 (tokW p k t at_).b)/\((tokW p k t at_).b=0->∃ E',NmE (tokW p k t at_).D (tokW p k t at_).o E'/\PkI w' Q B (tokW p k t at_) E' p)/\Below B W w'
def StepC (f:Nat)(p:Bool)(k:Wk)(E:List OE)(Q B:Nat)(t:Tk)(at_:Nat):Prop:=∀ W av,PkI W Q B k E p->AtIn W av t.a->Calls Tryz.prog f #[.pointer (some ⟨Q,0,none⟩),tokV t av,.int .i64 (at_:Int)] W (StepE p k Q B t at_ W)
theorem text_step {n:Nat}{k:Wk}{E:List OE}(hC:PkC n k E)(p:Bool)(Q B:Nat)(t:Tk)(at_:Nat)(ht:FitK t)(k1:t.k=1):Hid (StepC 75 p k E Q B t at_):=Lib.hid fun w av h hat=>by
 obtain⟨X,hX⟩:=text_of t.n;obtain⟨D,hD⟩:=text_of t.d;obtain⟨y,hy⟩:=hC.last;have e0:strV []=.string ⟨#[]⟩:=rfl;have HQ:Hid (tokW p k t at_=(layW k (textNd t.d)).1):=Lib.hid (by unfold tokW;rw[if_pos k1]);have c:=(putB_hid n k p E Q B (textNd t.d) hC.f ht.text hC.s y hy hC.e (by have:=hC.len;omega)).out;unfold nodeV at c;rw[show strV (textNd t.d).n=.string ⟨#[]⟩from e0,show strV (textNd t.d).d=.string D from strV_of hD]at c;have HN:Hid ((layW k (textNd t.d)).1.b=0->NmE (layW k (textNd t.d)).1.D (layW k (textNd t.d)).1.o E):=Lib.hid fun hb=>hC.e.lay hC.s hb;have C1:=Lib.hid c;clear c;unfold tokV StepE;rw[strV_of hX,strV_of hD,HQ.out];generalize hk':layW k (textNd t.d)=k' at *;have al:=(Below.refl w.heap.size w).alloc (Nat.le_refl _) (.cells #[.int .i64 t.k,.string X,.string D,av,.bool t.c] 57);have nb:=new_block w (.cells #[.int .i64 t.k,.string X,.string D,av,.bool t.c] 57)
 have hBw:B<=w.heap.size:=by
  obtain⟨hBQ,_,_,_,hx,_⟩:=h;have:=hx.lt;omega
 have h1:=h.below al;have n2:=cell_of nb 2;have H1:=Lib.hid (And.intro h1 (al.mono hBw));clear h hat hX hD e0 al nb h1 hk' HQ k1
 go_enter Tryz.func75,Tryz.ntmps75
 go_wp2_with fail
 (refine(C1.out _ _ _ H1.out.1 (AtIn.nil _ none 0) (IntIn.nil _ none 0)).mono ?_)
 rintro e w2 ⟨rfl,h2,b2,-,-⟩;have HF:Hid ((k'.1.b=0->∃ E',NmE k'.1.D k'.1.o E'/\PkI w2 Q B k'.1 E' p)/\Below B w w2):=Lib.hid ⟨fun hb=>⟨E,HN.out hb,h2 hb⟩,H1.out.2.trans b2⟩;clear h2 b2
 go_wp2
 go_ret
 exact⟨rfl,HF.out.1,HF.out.2⟩
theorem note_step {n:Nat}{k:Wk}{E:List OE}(hC:PkC n k E)(p:Bool)(Q B:Nat)(t:Tk)(at_:Nat)(ht:FitK t)(k1:t.k=4):Hid (StepC 76 p k E Q B t at_):=Lib.hid fun w av h hat=>by
 obtain⟨X,hX⟩:=text_of t.n;obtain⟨D,hD⟩:=text_of t.d;obtain⟨y,hy⟩:=hC.last;have e0:strV []=.string ⟨#[]⟩:=rfl;have HQ:Hid (tokW p k t at_=(layW k (noteN t.d)).1):=Lib.hid (by unfold tokW;rw[if_neg (by omega),if_pos k1]);have c:=(putB_hid n k p E Q B (noteN t.d) hC.f ht.note hC.s y hy hC.e (by have:=hC.len;omega)).out;unfold nodeV at c;rw[show strV (noteN t.d).n=.string ⟨#[]⟩from e0,show strV (noteN t.d).d=.string D from strV_of hD]at c;have HN:Hid ((layW k (noteN t.d)).1.b=0->NmE (layW k (noteN t.d)).1.D (layW k (noteN t.d)).1.o E):=Lib.hid fun hb=>hC.e.lay hC.s hb;have C1:=Lib.hid c;clear c;unfold tokV StepE;rw[strV_of hX,strV_of hD,HQ.out];generalize hk':layW k (noteN t.d)=k' at *;have al:=(Below.refl w.heap.size w).alloc (Nat.le_refl _) (.cells #[.int .i64 t.k,.string X,.string D,av,.bool t.c] 57);have nb:=new_block w (.cells #[.int .i64 t.k,.string X,.string D,av,.bool t.c] 57)
 have hBw:B<=w.heap.size:=by
  obtain⟨hBQ,_,_,_,hx,_⟩:=h;have:=hx.lt;omega
 have h1:=h.below al;have n2:=cell_of nb 2;have H1:=Lib.hid (And.intro h1 (al.mono hBw));clear h hat hX hD e0 al nb h1 hk' HQ k1
 go_enter Tryz.func76,Tryz.ntmps76
 go_wp2_with fail
 (refine(C1.out _ _ _ H1.out.1 (AtIn.nil _ none 0) (IntIn.nil _ none 0)).mono ?_)
 rintro e w2 ⟨rfl,h2,b2,-,-⟩;have HF:Hid ((k'.1.b=0->∃ E',NmE k'.1.D k'.1.o E'/\PkI w2 Q B k'.1 E' p)/\Below B w w2):=Lib.hid ⟨fun hb=>⟨E,HN.out hb,h2 hb⟩,H1.out.2.trans b2⟩;clear h2 b2
 go_wp2
 go_ret
 exact⟨rfl,HF.out.1,HF.out.2⟩
theorem none_step {n:Nat}{k:Wk}{E:List OE}(hC:PkC n k E)(p:Bool)(Q B:Nat)(t:Tk)(at_:Nat)(h1:t.k≠1)(h4:t.k≠4)(h2:t.k≠2)(h3:t.k≠3):Hid (StepC 79 p k E Q B t at_):=Lib.hid fun w av h _=>by
 obtain⟨X,hX⟩:=text_of t.n;obtain⟨D,hD⟩:=text_of t.d;have HQ:tokW p k t at_=k:=by unfold tokW;rw[if_neg h1,if_neg h4,if_neg h2,if_neg h3]
 unfold tokV StepE;rw[strV_of hX,strV_of hD,HQ];have al:=(Below.refl w.heap.size w).alloc (Nat.le_refl _) (.cells #[.int .i64 t.k,.string X,.string D,av,.bool t.c] 57)
 have hBw:B<=w.heap.size:=by
  obtain⟨hBQ,_,_,_,hx,_⟩:=h;have:=hx.lt;omega
 have H1:Hid ((∃ E',NmE k.D k.o E'/\PkI (w.alloc (.cells #[.int .i64 t.k,.string X,.string D,av,.bool t.c] 57)) Q B k E' p)/\Below B w (w.alloc (.cells #[.int .i64 t.k,.string X,.string D,av,.bool t.c] 57))):=Lib.hid ⟨⟨E,hC.e,h.below al⟩,al.mono hBw⟩;have hb:=hC.s.b;rw[hb];clear h hX hD al HQ h1 h2 h3 h4
 go_enter Tryz.func79,Tryz.ntmps79
 go_wp2
 go_ret
 exact⟨rfl,fun _=>H1.out.1,H1.out.2⟩
theorem end_step {n:Nat}{k:Wk}{E:List OE}(hC:PkC n k E)(p:Bool)(Q B:Nat)(t:Tk)(at_:Nat)(h3:t.k=3):Hid (StepC 78 p k E Q B t at_):=Lib.hid fun w av h _=>by
 have HQ:tokW p k t at_=endW k t.n at_:=by unfold tokW;rw[if_neg (by omega),if_neg (by omega),if_neg (by omega),if_pos h3]
 have hb:(endW k t.n at_).b=0:=by
  have:=(hC.s.end t.n at_).b;exact this
 refine((endB_hid k p E Q B t at_ hC.e hC.len.1 (by have:=hC.len;omega) hC.l).out w av h).mono ?_;rintro e w' ⟨h1,h2,h4⟩;unfold StepE;rw[HQ,hb];exact⟨h1,fun _=>h2,h4⟩
theorem way_any (Q:Nat)(kd:Int)(w:World):∃ f,(f=if kd=1 then 75 else if kd=4 then 76 else if kd=2 then 77 else if kd=3 then 78 else 79)/\Calls Tryz.prog 48 #[.pointer (some ⟨Q,0,none⟩),.int .i64 kd] w fun e w'=>e=.returned (.func (.func f) #[.pointer (some ⟨Q,0,none⟩)] #[])/\w'=w:=by
 have hmf:∀(fn:Fn) (first cap:Array Value) (w:World),(Instr.makeFunc fn first cap).run Tryz.prog w=.ok (.func fn first cap) w:=fun _ _ _ _=>rfl;refine⟨_,rfl,?_⟩
 by_cases h1:kd=1
 · subst h1
   go_enter Tryz.func48,Tryz.ntmps48
   go_wp2
   go_ret
   exact⟨rfl,rfl⟩
 by_cases h4:kd=4
 · subst h4
   go_enter Tryz.func48,Tryz.ntmps48
   go_wp2
   go_ret
   exact⟨rfl,rfl⟩
 by_cases h2:kd=2
 · subst h2
   go_enter Tryz.func48,Tryz.ntmps48
   go_wp2
   go_ret
   exact⟨rfl,rfl⟩
 by_cases h3:kd=3
 · subst h3
   go_enter Tryz.func48,Tryz.ntmps48
   go_wp2
   go_ret
   exact⟨rfl,rfl⟩
 rw[if_neg h1,if_neg h4,if_neg h2,if_neg h3];have g1:(kd==1)=false:=by simpa using h1
 have g2:(kd==2)=false:=by simpa using h2
 have g3:(kd==3)=false:=by simpa using h3
 have g4:(kd==4)=false:=by simpa using h4
 go_enter Tryz.func48,Tryz.ntmps48
 go_wp2
 go_ret
 exact⟨rfl,rfl⟩
end Go.Proofs.YtlnfbjbagmfpiaaGreatDoor.Dm
namespace Go.Proofs.YtlnfbjbagmfpiaaGreatDoor.Dm
open Go.RowKit
theorem start_step {n:Nat}{k:Wk}{E:List OE}(hC:PkC n k E)(p:Bool)(Q B:Nat)(t:Tk)(at_:Nat)(ht:FitK t)(k2:t.k=2):Hid (StepC 77 p k E Q B t at_):=Lib.hid fun w av h hat=>by
 obtain⟨X,hX⟩:=text_of t.n;obtain⟨D,hD⟩:=text_of t.d;obtain⟨y,hy⟩:=hC.last;obtain⟨aa,ac,rfl⟩:=hat.form;have e0:strV []=.string ⟨#[]⟩:=rfl;have c:=(putB_hid n k p E Q B (elemN p t.n t.a) hC.f (ht.elem p) hC.s y hy hC.e (by have:=hC.len;omega)).out;unfold nodeV at c;rw[show strV (elemN p t.n t.a).n=.string X from strV_of hX,show strV (elemN p t.n t.a).d=.string ⟨#[]⟩from e0]at c;have HN:Hid ((layW k (elemN p t.n t.a)).1.b=0->NmE (layW k (elemN p t.n t.a)).1.D (layW k (elemN p t.n t.a)).1.o E/\NmE (layW k (elemN p t.n t.a)).1.D ((layW k (elemN p t.n t.a)).2 :: k.o) (E++[((layW k (elemN p t.n t.a)).2,t.n)])):=Lib.hid fun hb=>⟨hC.e.lay hC.s hb,hC.e.laid hC.s hb⟩;have HL:=lay_o k (elemN p t.n t.a);have HQ:Hid (tokW p k t at_=if (layW k (elemN p t.n t.a)).1.b≠0\/t.c=true\/voidM t.n=true then (layW k (elemN p t.n t.a)).1 else if 30<=k.o.length then { (layW k (elemN p t.n t.a)).1 with f:=k.f++[(161,at_)] } else { (layW k (elemN p t.n t.a)).1 with o:=(layW k (elemN p t.n t.a)).2 :: k.o }):=Lib.hid (by unfold tokW;rw[if_neg (by omega),if_neg (by omega),if_pos k2]);have C2:Hid (∀ W av kv,PkI W Q B k E p->AtIn W av t.a->IntIn W kv []->Calls Tryz.prog 114 #[.pointer (some ⟨Q,0,none⟩),.agg #[.int .i64 2,.string X,.string ⟨#[]⟩,av,.int .i64 0,kv,.bool p,.bool false]] W fun e w'=>e=.returned (.tuple #[.int .i64 ((layW k (elemN p t.n t.a)).2:Int),.int .i64 (layW k (elemN p t.n t.a)).1.b])/\((layW k (elemN p t.n t.a)).1.b=0->PkI w' Q B (layW k (elemN p t.n t.a)).1 E p)/\Below B W w'/\Kp (fun j _=>j=Q) W w'/\w'.cell? ⟨Q,2,none⟩=some (.bool p)):=Lib.hid c;clear c;have hlen:=hC.len;have hfl:=hC.l;obtain⟨k',hk'⟩:∃ k',(layW k (elemN p t.n t.a)).1=k':=⟨_,rfl⟩;obtain⟨id,hid⟩:∃ id,(layW k (elemN p t.n t.a)).2=id:=⟨_,rfl⟩;rw[hk']at HL HQ C2 HN;rw[hid]at HQ C2 HN;clear hk' hid;obtain⟨b0,hb0⟩:=(show ∃ b0,voidM t.n=b0 from⟨_,rfl⟩);have CV:=void_hid X b0 (by rw[hX];exact hb0);rw[hb0]at HQ;unfold StepE tokV;rw[strV_of hX,strV_of hD];have HXn:=Lib.hid hX
 have c2:w.cell? ⟨Q,2,none⟩=some (.bool p):=by
  obtain⟨_,_,_,_,hx,_⟩:=h;exact hx.c2
 have hQR:Q<w.heap.size/\B<=Q:=by
  obtain⟨hBQ,_,_,_,hx,_⟩:=h;exact⟨hx.lt,hBQ⟩
 have al:=(Below.refl w.heap.size w).alloc (Nat.le_refl _) (.cells #[.int .i64 t.k,.string X,.string D,.slice aa t.a.length ac,.bool t.c] 57);have nb:=new_block w (.cells #[.int .i64 t.k,.string X,.string D,.slice aa t.a.length ac,.bool t.c] 57);have h1:=h.below al;have ha1:=AtIn.below hat al;have c2':=(al.cell (lt_of_cell c2)).trans c2;obtain⟨R,hR⟩:∃ R,w.heap.size=R:=⟨_,rfl⟩;generalize hw1:w.alloc (.cells #[.int .i64 t.k,.string X,.string D,.slice aa t.a.length ac,.bool t.c] 57)=w1 at al nb h1 ha1 c2';rw[hR]at nb;have n1:=cell_of nb 1;have n3:=cell_of nb 3;have hd:=h1.below (Below.refl w1.heap.size w1).drew;have ha:=AtIn.below ha1 (Below.refl w1.heap.size w1).drew;have nbd:w1.drew.heap[R]? = some (.cells #[.int .i64 t.k,.string X,.string D,.slice aa t.a.length ac,.bool t.c] 57 (0,0)):=nb;have HK:=Lib.hid (And.intro hd (And.intro ha (And.intro nbd (al.mono (show B<=w.heap.size by omega)).drew)));have hQ:=hQR.1;clear h hat hX hD e0 al nb h1 ha1 hd ha nbd c2 hC hy k2;rw[hR]at hQR hQ;have hf2:=HL.2;have ho2:=HL.1;replace HL:=Lib.hid HL
 go_enter Tryz.func77,Tryz.ntmps77
 go_wp2_with fail
 clear hw1;replace hR:=Lib.hid hR;have S0:w1.drew.cell? ⟨R,1,none⟩=some (.string X)/\w1.drew.cell? ⟨R,3,none⟩=some (.slice aa t.a.length ac)/\w1.drew.cell? ⟨Q,2,none⟩=some (.bool p):=⟨n1,n3,c2'⟩
 go_region_held3 (fun w'=>w'.cell? ⟨R,1,none⟩=some (.string X)/\w'.cell? ⟨R,3,none⟩=some (.slice aa t.a.length ac)/\w'.cell? ⟨Q,2,none⟩=some (.bool p)) (first | assumption | fail) (first
  | (go_at_call 114
     (with_reducible refine(C2.out _ _ _ HK.out.1 HK.out.2.1 (IntIn.nil _ none 0)).mono ?_)
     rintro e w2 ⟨rfl,h2,b2,kq,q2⟩;have nb2:=kq.cells HK.out.2.2.1 (fun e=>by have e1:R=Q:=e;omega);have S2:w2.cell? ⟨R,1,none⟩=some (.string X)/\w2.cell? ⟨R,3,none⟩=some (.slice aa t.a.length ac)/\w2.cell? ⟨Q,2,none⟩=some (.bool p):=⟨cell_of nb2 1,cell_of nb2 3,q2⟩
     clear kq q2))
 have m1:=cell_of nb2 1;have m4:=cell_of nb2 4;have HB2:Hid (Below B w w2):=Lib.hid (HK.out.2.2.2.trans b2);have H2:=Lib.hid h2;have NB2:=Lib.hid nb2;clear S0 S2 nb2 b2 h2 n1 n3 c2' C2
 have HP:Hid (k'.b≠0\/t.c=true\/b0=true->StepE p k Q B t at_ w (.returned (.int .i64 k'.b)) w2):=Lib.hid fun h=>by
  unfold StepE;rw[HQ.out,if_pos h];exact⟨rfl,fun hb=>⟨E,(HN.out hb).1,H2.out hb⟩,HB2.out⟩
 generalize htc:t.c=tc at m4 HQ HP NB2 ⊢;replace htc:=Lib.hid htc
 by_cases hb:k'.b=0
 case neg =>
  have g1:(k'.b != 0)=true:=by rw[bne_iff_ne];exact hb
  have HF:=Lib.hid (HP.out (.inl hb));clear HP HQ
  go_wp2
  go_ret
  exact HF.out
 have HX2:=H2.out hb;have HNs:=Lib.hid (HN.out hb);rw[hb]at HP ⊢;clear H2 HN
 cases tc with
 | true =>
   have HF:=Lib.hid (HP.out (.inr (.inl rfl)));clear HP HQ
   go_wp2
   go_ret
   exact HF.out
 | false =>
   cases b0 with
   | true =>
     have HF:=Lib.hid (HP.out (.inr (.inr rfl)));clear HP HQ
     go_wp2_with fail
     (refine(CV.out _).mono ?_)
     rintro e w3 ⟨rfl,hw3⟩;rw[hw3];clear hw3
     go_wp2
     go_ret
     exact HF.out
   | false =>
     clear HP;have HQ2:=HQ.out;rw[if_neg (by simp[hb])]at HQ2;replace HQ2:=Lib.hid HQ2;clear HQ;obtain⟨hBQ,dv2,ov2,fv2,x2,o2⟩:=HX2;obtain⟨va,vc,rfl⟩:=row_form o2.o;have CN2:=count_hid.out w2 Q dv2 va E.length vc p fv2 x2;have hQl:=x2.lt;have HI:=Lib.hid (And.intro x2 o2);have e1:=x2.c1;clear x2 o2;have hEk:E.length=k.o.length:=hlen.2.2;have CF:=failB_hid k.f 161 at_ hfl B;have CP:=push_hid E (id,t.n) (by omega) B;unfold oeV at CP;rw[strV_of HXn.out]at CP
     go_wp2_with fail
     (refine(CV.out _).mono ?_)
     rintro e w3 ⟨rfl,hw3⟩;rw[hw3];clear hw3
     go_wp2_with fail
     refine CN2.mono ?_;rintro e w3 ⟨rfl,hw3⟩;rw[hw3];clear hw3 CN2
     by_cases h30:E.length=30
     · have z30:((E.length:Int)==30)=true:=by rw[h30];rfl
       have z31:(E.length:Int)=30:=by omega
       have h30':30<=k.o.length:=by omega
       have HQ3:=HQ2.out;rw[if_pos h30']at HQ3;replace HQ3:=Lib.hid HQ3;replace h30:=Lib.hid h30;replace z31:=Lib.hid z31;clear HQ2 h30' hlen hEk;have hf3:=HI.out.2.f;rw[hf2]at hf3;replace hf3:=Lib.hid hf3
       go_wp2_with fail
       (refine(CF.out _ _ _ _ _ _ HI.out.1 hBQ hf3.out).mono ?_)
       rintro e w4 ⟨rfl,fv4,x4,f4,k4⟩
       have HF:Hid (StepE p k Q B t at_ w (.returned (.int .i64 0)) w4):=Lib.hid (by
        unfold StepE;rw[HQ3.out]
        exact⟨by rw[hb],fun _=>⟨E,HNs.out.1,hBQ,_,_,_,x4,HI.out.2.fail k4 f4⟩,HB2.out.trans (PB.kp (PBf.pb k4) (by omega))⟩)
       clear x4 f4 k4 HQ3
       go_wp2
       go_ret
       exact HF.out
     · have z30:((E.length:Int)==30)=false:=beq_eq_false_iff_ne.2 (by omega)
       have h30':¬ 30<=k.o.length:=by omega
       have HQ3:=HQ2.out;rw[if_neg h30']at HQ3;replace HQ3:=Lib.hid HQ3;have S0:w2.drew.cell? ⟨R,1,none⟩=some (.string X):=m1;clear HQ2 h30' h30 hlen hEk
       go_wp2_with fail
       go_region_held3 (fun w'=>w'.cell? ⟨R,1,none⟩=some (.string X)) (first | assumption | fail) (first
        | (go_at_call 74
           (with_reducible refine(CP.out _ _ _ _ _ _ (HI.out.1.below (Below.refl _ _).drew) hBQ (HI.out.2.below (Below.refl _ _).drew).o).mono ?_)
           rintro e w4 ⟨rfl,ov4,x4,o4,k4⟩
           have S4:w4.cell? ⟨R,1,none⟩=some (.string X):=by
            rw[cell_of (k4.cells (show w2.drew.heap[R]? = _ from NB2.out) (fun e=>by rcases e.1 with e | e<;>exact absurd e (by decide)))]
            rfl))
       all_goals
        have HF:Hid (StepE p k Q B t at_ w (.returned (.int .i64 0)) w4):=Lib.hid (by
         unfold StepE;rw[HQ3.out]
         exact⟨by rw[hb],fun _=>⟨_,HNs.out.2,hBQ,_,_,_,x4,(HI.out.2.below (Below.refl _ _).drew).open' k4 o4⟩,(HB2.out.drew).trans (PB.kp (PBo.pb k4) (by show B<=w2.heap.size;omega))⟩)
        clear x4 o4 k4 HQ3
        go_wp2
        go_ret
        exact HF.out
end Go.Proofs.YtlnfbjbagmfpiaaGreatDoor.Dm
