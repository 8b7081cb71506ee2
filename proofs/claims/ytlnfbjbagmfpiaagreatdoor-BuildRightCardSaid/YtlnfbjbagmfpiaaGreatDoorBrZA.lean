/- The document's own builder: its block; void names; a Fail more. The document's own builder: a node is laid. The document's own builder: an end tag. -/
import Derived.IntWalk
import Derived.Test.YtlnfbjbagmfpiaaGreatDoorBdZA
set_option maxRecDepth 100000
set_option maxHeartbeats 8000000
namespace Go.Proofs.YtlnfbjbagmfpiaaGreatDoor.Dm
open Go.RowKit
theorem refVoid_any (x:ByteArray)(w:World):Calls Tryz.prog 25 #[.string x] w fun e w'=>e=.returned (.bool (voidM x.data.toList))/\w'=w:=by
 obtain⟨b0,h0⟩:∃ b,decide (x.data.toList=[98,114])=b:=⟨_,rfl⟩;obtain⟨b1,h1⟩:∃ b,decide (x.data.toList=[104,114])=b:=⟨_,rfl⟩;obtain⟨b2,h2⟩:∃ b,decide (x.data.toList=[105,109,103])=b:=⟨_,rfl⟩;obtain⟨b3,h3⟩:∃ b,decide (x.data.toList=[105,110,112,117,116])=b:=⟨_,rfl⟩;obtain⟨b4,h4⟩:∃ b,decide (x.data.toList=[108,105,110,107])=b:=⟨_,rfl⟩;obtain⟨b5,h5⟩:∃ b,decide (x.data.toList=[109,101,116,97])=b:=⟨_,rfl⟩
 have hv:voidM x.data.toList=(b0 || b1 || b2 || b3 || b4 || b5):=by
  unfold voidM;rw[h0,h1,h2,h3,h4,h5]
 rw[hv];have g0:(x.toList==[98,114])=b0:=by rw[text_lit];exact h0
 have g1:(x.toList==[104,114])=b1:=by rw[text_lit];exact h1
 have g2:(x.toList==[105,109,103])=b2:=by rw[text_lit];exact h2
 have g3:(x.toList==[105,110,112,117,116])=b3:=by rw[text_lit];exact h3
 have g4:(x.toList==[108,105,110,107])=b4:=by rw[text_lit];exact h4
 have g5:(x.toList==[109,101,116,97])=b5:=by rw[text_lit];exact h5
 clear h0 h1 h2 h3 h4 h5 hv
 cases b0
 case true =>
  go_enter Tryz.func25,Tryz.ntmps25
  go_wp2
  go_ret
  exact⟨rfl,rfl⟩
 cases b1
 case true =>
  go_enter Tryz.func25,Tryz.ntmps25
  go_wp2
  go_ret
  exact⟨rfl,rfl⟩
 cases b2
 case true =>
  go_enter Tryz.func25,Tryz.ntmps25
  go_wp2
  go_ret
  exact⟨rfl,rfl⟩
 cases b3
 case true =>
  go_enter Tryz.func25,Tryz.ntmps25
  go_wp2
  go_ret
  exact⟨rfl,rfl⟩
 cases b4
 case true =>
  go_enter Tryz.func25,Tryz.ntmps25
  go_wp2
  go_ret
  exact⟨rfl,rfl⟩
 cases b5
 case true =>
  go_enter Tryz.func25,Tryz.ntmps25
  go_wp2
  go_ret
  exact⟨rfl,rfl⟩
 go_enter Tryz.func25,Tryz.ntmps25
 go_wp2
 go_ret
 exact⟨rfl,rfl⟩
def WX (w:World)(Q:Nat)(dv ov fv:Value)(b:Int)(p:Bool):Prop:=w.heap[Q]? = some (.cells #[dv,ov,fv,.int .i64 b,.bool p] 89 (0,0))
section
variable {w w':World} {Q:Nat} {dv ov fv:Value} {b:Int} {p:Bool}
theorem WX.lt (a:WX w Q dv ov fv b p):Q<w.heap.size:=lt_of_block a
theorem WX.below (a:WX w Q dv ov fv b p)(hb:Below w.heap.size w w'):WX w' Q dv ov fv b p:=(hb.block _ a.lt).trans a
theorem WX.kp {P:Nat->TypeId->Prop}(a:WX w Q dv ov fv b p)(k:Kp P w w')(hn:¬ P Q 89):WX w' Q dv ov fv b p:=k.cells a hn
theorem WX.free (a:WX w Q dv ov fv b p)(j:Nat):w.frozen? ⟨Q,j,none⟩=false:=open_of a j
theorem WX.c0 (a:WX w Q dv ov fv b p):w.cell? ⟨Q,0,none⟩=some dv:=by rw[cell_of a];rfl
theorem WX.c1 (a:WX w Q dv ov fv b p):w.cell? ⟨Q,1,none⟩=some ov:=by rw[cell_of a];rfl
theorem WX.c2 (a:WX w Q dv ov fv b p):w.cell? ⟨Q,2,none⟩=some fv:=by rw[cell_of a];rfl
theorem WX.c3 (a:WX w Q dv ov fv b p):w.cell? ⟨Q,3,none⟩=some (.int .i64 b):=by rw[cell_of a];rfl
theorem WX.c4 (a:WX w Q dv ov fv b p):w.cell? ⟨Q,4,none⟩=some (.bool p):=by rw[cell_of a];rfl
theorem WX.set0 (a:WX w Q dv ov fv b p)(u:Value):WX (w.setCell ⟨Q,0,none⟩ u) Q u ov fv b p:=by unfold WX at *;rw[heap_setCell_same _ _ _ _ _ _ _ a];rfl
theorem WX.set1 (a:WX w Q dv ov fv b p)(u:Value):WX (w.setCell ⟨Q,1,none⟩ u) Q dv u fv b p:=by unfold WX at *;rw[heap_setCell_same _ _ _ _ _ _ _ a];rfl
theorem WX.set2 (a:WX w Q dv ov fv b p)(u:Value):WX (w.setCell ⟨Q,2,none⟩ u) Q dv ov u b p:=by unfold WX at *;rw[heap_setCell_same _ _ _ _ _ _ _ a];rfl
theorem WX.set3 (a:WX w Q dv ov fv b p)(c:Int):WX (w.setCell ⟨Q,3,none⟩ (.int .i64 c)) Q dv ov fv c p:=by unfold WX at *;rw[heap_setCell_same _ _ _ _ _ _ _ a];rfl
theorem WX.kset (a:WX w Q dv ov fv b p)(j:Nat)(u:Value):Kp (fun i _=>i=Q) w (w.setCell ⟨Q,j,none⟩ u):=Kp.of_set a u rfl
end
def flD (F:List Fl):List Value:=F.flatMap fun y=>[.int .i64 y.1,.int .i64 (y.2:Int)]
theorem flD_snoc (F:List Fl)(y:Fl):flD (F++[y])=flD F++[.int .i64 y.1,.int .i64 (y.2:Int)]:=by simp[flD]
theorem TinfoFl:(Tryz.prog.info? 93).map (fun i=>(i.zero,i.size,i.bytes))=some (some (.agg #[.int .i64 0,.int .i64 0]),2,16):=by kernel_rfl
structure WkO (w:World) (B:Nat) (k:Wk) (dv ov fv:Value) (A K:Nat->Value) (L T:Nat):Prop where
 d:OwnD w L dv k.D A K
 t:BlkT T k.D.length dv A K
 o:w.ownsRow B 3 1 ov k.o.length (inC (natsI k.o.reverse))
 f:w.ownsRow B 93 2 fv k.f.length (flD k.f)
 s:∀ g,ov.ownBlock=some g->g<L\/T<=g
 l:B<=L
 h:T<=w.heap.size
def WkE (w:World)(Q B:Nat)(k:Wk)(p:Bool)(dv ov:Value)(A K:Nat->Value)(L T:Nat):Prop:=B<=Q/\∃ fv,WX w Q dv ov fv k.b p/\WkO w B k dv ov fv A K L T
def WkI (w:World)(Q B:Nat)(k:Wk)(p:Bool):Prop:=B<=Q/\∃ dv ov fv A K L T,WX w Q dv ov fv k.b p/\WkO w B k dv ov fv A K L T
theorem OwnD.kp2 {P:Nat->TypeId->Prop}{w w':World}{B:Nat}{sl:Value}{D:List Nd}{A K:Nat->Value}(h:OwnD w B sl D A K)(k:Kp P w w')(h1:∀ j,¬ P j 39)(h2:∀ j,¬ P j 41)(h3:∀ j,¬ P j 3):OwnD w' B sl D A K :=
 ⟨k.row h.row fun j _ _=>h1 j,fun i hi=>k.row (h.at' i hi) fun j _ _=>h2 j,fun i hi=>k.row (h.kd i hi) fun j _ _=>h3 j,h.na,h.nk⟩
def PF (B:Nat)(j:Nat)(t:TypeId):Prop:=(t=93\/t=89)/\B<=j
theorem PF.kp {B:Nat}{w w':World}(k:Kp (PF B) w w')(hB:B<=w.heap.size):Below B w w':=k.below (fun _ _ e=>e.2) hB
theorem WkO.kf {w w':World}{B L T:Nat}{k:Wk}{dv ov fv fv':Value}{F:List Fl}{A K:Nat->Value}(h:WkO w B k dv ov fv A K L T)(kp:Kp (PF B) w w')(hf:w'.ownsRow B 93 2 fv' F.length (flD F)):WkO w' B { k with f:=F } dv ov fv' A K L T :=
 ⟨h.d.kp2 kp (fun j e=>by rcases e.1 with e | e<;>exact absurd e (by decide)) (fun j e=>by rcases e.1 with e | e<;>exact absurd e (by decide)) (fun j e=>by rcases e.1 with e | e<;>exact absurd e (by decide)),h.t,kp.row h.o fun j _ _ e=>by rcases e.1 with e | e<;>exact absurd e (by decide),hf,h.s,h.l,Nat.le_trans h.h kp.size⟩
theorem WkO.below {w w':World}{B L T:Nat}{k:Wk}{dv ov fv:Value}{A K:Nat->Value}(h:WkO w B k dv ov fv A K L T)(b:Below w.heap.size w w'):WkO w' B k dv ov fv A K L T :=
 ⟨h.d.below b,h.t,row_below h.o b,row_below h.f b,h.s,h.l,Nat.le_trans h.h b.size⟩
theorem WkO.setQ {w:World}{B L T Q j:Nat}{k:Wk}{dv ov fv v1 v2 v3 u:Value}{b:Int}{p:Bool}{A K:Nat->Value}(h:WkO w B k dv ov fv A K L T)(x:WX w Q v1 v2 v3 b p):WkO (w.setCell ⟨Q,j,none⟩ u) B k dv ov fv A K L T:=by
 have kp:Kp (fun i t=>i=Q/\t=89) w (w.setCell ⟨Q,j,none⟩ u):=Kp.of_set x u ⟨rfl,rfl⟩;exact⟨h.d.kp2 kp (fun j e=>absurd e.2 (by decide)) (fun j e=>absurd e.2 (by decide)) (fun j e=>absurd e.2 (by decide)),h.t,kp.row h.o fun j _ _ e=>absurd e.2 (by decide),kp.row h.f fun j _ _ e=>absurd e.2 (by decide),h.s,h.l,Nat.le_trans h.h kp.size⟩
theorem WX.bel {w:World}{Q B j:Nat}{v1 v2 v3 u:Value}{b:Int}{p:Bool}(x:WX w Q v1 v2 v3 b p)(hB:B<=Q):Below B w (w.setCell ⟨Q,j,none⟩ u):=(x.kset j u).below (fun i t e=>by have e1:i=Q:=e;omega) (by have:=x.lt;omega)
theorem WkO.bad {w:World}{B L T:Nat}{k:Wk}{dv ov fv:Value}{A K:Nat->Value}(h:WkO w B k dv ov fv A K L T)(c:Int):WkO w B { k with b:=c } dv ov fv A K L T:=⟨h.d,h.t,h.o,h.f,h.s,h.l,h.h⟩
theorem WkO.doc {w w6:World}{B L L' T:Nat}{k:Wk}{dv dv' ov fv:Value}{A K A' K':Nat->Value}{E:List Nd}(h:WkO w B k dv ov fv A K L T)(b:Below w.heap.size w w6)(o:OwnD w6 L' dv' E A' K')(hL:w.heap.size<=L')(hB:B<=w.heap.size):WkO w6 B { k with D:=E } dv' ov fv A' K' L' w6.heap.size :=
 ⟨o,o.blk,row_below h.o b,row_below h.f b,fun g hg => .inl (by obtain⟨_,_,_,h3⟩:=row_block h.o hg;omega),by omega,Nat.le_refl _⟩
theorem failE_hid (k:Wk)(p:Bool)(Q B:Nat)(c:Int)(at_:Nat)(hl:k.f.length<=1000000)(dv ov:Value)(A K:Nat->Value)(L T:Nat):Hid (∀ W,WkE W Q B k p dv ov A K L T->Calls Tryz.prog 52 #[.pointer (some ⟨Q,0,none⟩),.int .i64 c,.int .i64 (at_:Int)] W fun e w'=>e=.returned (.tuple #[])/\WkE w' Q B { k with f:=k.f++[(c,at_)] } p dv ov A K L T/\Below B W w'):=Lib.hid fun w h=>by
 obtain⟨hBQ,fv,hX,hO⟩:=h;obtain⟨i0,hi3,hz0,hz1,hz2⟩:=info_parts TinfoFl;obtain⟨fa,fc,rfl⟩:=row_form hO.f;have al:=(Below.refl w.heap.size w).alloc (Nat.le_refl _) (.cells #[.int .i64 c,.int .i64 (at_:Int)] 93);have hro:=RowIn.made w #[.int .i64 c,.int .i64 (at_:Int)] 93 1 2 rfl (fun x hx=>by simp at hx;rcases hx with rfl | rfl<;>rfl);have hX1:=hX.below al;have e2:=hX.c2;have f2:=hX1.free 2;have hQ:=hX.lt;have hs1:=al.size;have hws:B<=(w.alloc (.cells #[.int .i64 c,.int .i64 (at_:Int)] 93)).heap.size:=by omega
 have H1:=Lib.hid (And.intro hro (And.intro (row_below hO.f al) (And.intro hO (And.intro hX1 al))));clear hO hX hX1 al hro
 go_enter Tryz.func52,Tryz.ntmps52
 go_wp2_with (at_builtin
              refine wpList_append_rowG rfl _ _ 29 93 i0 (.agg #[.int .i64 0,.int .i64 0]) 2 16 Tryz.underlying29 hi3 hz0 hz1 hz2 rfl (by decide) rfl B _ _ _ rfl H1.out.2.1 _ 1 _ rfl H1.out.1 (by unfold maxLen;omega) (by omega) hws ?_;intro v6 w6 hown6 hgrow6 hat6
              have k6:Kp (fun j t=>t=93/\B<=j) (w.alloc (.cells #[.int .i64 c,.int .i64 (at_:Int)] 93)) w6:=Kp.of_grown hgrow6 (fun j c t fr hj hc=>by
               obtain⟨cur,e,hb,_⟩:=row_block H1.out.2.1 hj;rw[hc]at e
               cases e
               exact⟨rfl,hb⟩) fun j hj=>by
               obtain⟨cur,e,_⟩:=row_block H1.out.2.1 hj;exact⟨_,_,_,e⟩
              have x6:=H1.out.2.2.2.1.kp k6 (fun e=>absurd e.1 (by decide));have f6:=x6.free 2;have d6:=x6.c2;have hn6:w6.ownsRow B 93 2 v6 (k.f++[(c,at_)]).length (flD (k.f++[(c,at_)])):=by rw[List.length_append,flD_snoc];exact hown6
              have HE:Hid (WkE (w6.setCell ⟨Q,2,none⟩ v6) Q B { k with f:=k.f++[(c,at_)] } p dv ov A K L T/\Below B w (w6.setCell ⟨Q,2,none⟩ v6)):=Lib.hid (by
               have kS:Kp (PF B) w6 (w6.setCell ⟨Q,2,none⟩ v6):=Kp.of_set x6 v6 ⟨.inr rfl,hBQ⟩;have kT:=((Kp.of_below H1.out.2.2.2.2).trans (k6.mono fun _ _ _ _ _ e=>(⟨.inl e.1,e.2⟩:PF B _ _))).trans kS
               exact⟨⟨hBQ,v6,x6.set2 v6,H1.out.2.2.1.kf kT ((x6.kset 2 v6).row hn6 fun j hj _ e=>row_ne hn6 x6 (by decide) (by rw[hj];exact congrArg _ e))⟩,PF.kp kT (by omega)⟩)
              obtain⟨va,vc,rfl⟩:=row_form hown6
              clear hown6 hgrow6 hat6 k6 x6 hn6)
 go_end0
 exact⟨rfl,HE.out.1,HE.out.2⟩
theorem WkE.i {w:World}{Q B L T:Nat}{k:Wk}{p:Bool}{dv ov:Value}{A K:Nat->Value}(h:WkE w Q B k p dv ov A K L T):WkI w Q B k p:=by
 obtain⟨h1,fv,h2,h3⟩:=h;exact⟨h1,dv,ov,fv,A,K,L,T,h2,h3⟩
theorem WkE.below {w w':World}{Q B L T:Nat}{k:Wk}{p:Bool}{dv ov:Value}{A K:Nat->Value}(h:WkE w Q B k p dv ov A K L T)(b:Below w.heap.size w w'):WkE w' Q B k p dv ov A K L T:=by
 obtain⟨h1,fv,h2,h3⟩:=h;exact⟨h1,fv,h2.below b,h3.below b⟩
theorem WkI.below {w w':World}{Q B:Nat}{k:Wk}{p:Bool}(h:WkI w Q B k p)(b:Below w.heap.size w w'):WkI w' Q B k p:=by
 obtain⟨h1,dv,ov,fv,A,K,L,T,h2,h3⟩:=h;exact⟨h1,dv,ov,fv,A,K,L,T,h2.below b,h3.below b⟩
end Go.Proofs.YtlnfbjbagmfpiaaGreatDoor.Dm
namespace Go.Proofs.YtlnfbjbagmfpiaaGreatDoor.Dm
open Go.RowKit
theorem bel_alloc {W w:World}(h:Below W.heap.size W w)(o:Obj):Below W.heap.size W (w.alloc o):=h.alloc h.size o
theorem bel_set {W w:World}{j:Nat}(h:Below W.heap.size W w)(hj:W.heap.size<=j)(v:Value):Below W.heap.size W (w.setCell ⟨j,0,none⟩ v):=h.setCell hj v
theorem fitCut0 {D:List Nd}(hf:FitD D)(q n:Int):FitD (putR D q n).1:=by
 by_cases h:(putR D q n).2=0
 · obtain⟨p,m,_,_,R,h0,h1,h2,h3,h4,h5⟩:=putR_inv h
   rw[h5];exact(R.put h0 h1 h2 h3 h4).fit (hf.txt.put p m)
 · have e:(putR D q n).1=[]:=by
    revert h;unfold putR;split
    · simp
    · split
      · simp
      · split<;>simp
   rw[e];exact⟨by simp,fun x h=>by cases h⟩
theorem fitMake0 {D:List Nd}(hf:FitD D){x:Nd}(hx:FitN x):FitD (makeR D x).1:=by
 by_cases h:(makeR D x).2.2=0
 · obtain⟨R,h1,h2,h3,h4⟩:=makeR_inv h
   rw[h4];exact(R.make h1 h2 h3).fit (hf.txt.make ⟨hx.1,hx.2.1,hx.2.2.1,hx.2.2.2.2⟩)
 · have e:(makeR D x).1=[]:=by
    revert h;unfold makeR;split
    · simp
    · split
      · simp
      · split<;>simp
   rw[e];exact⟨by simp,fun x h=>by cases h⟩
theorem fitLay {k:Wk}(hf:FitD k.D){x:Nd}(hx:FitN x):FitD (layW k x).1.D:=by
 unfold layW;split
 · exact hf
 · split
   · exact hf
   · exact fitCut0 (fitMake0 hf hx) _ _
theorem laidW_hid (k:Wk)(p:Bool)(Q B:Nat)(x:Nd)(hf:FitD k.D)(hx:FitN x)(t:Nat)(r:List Nat)(ho:k.o=t :: r)(hr:r.length<=1000):Hid (∀ W av kv,WkI W Q B k p->AtIn W av x.a->IntIn W kv x.c->Calls Tryz.prog 86 #[.pointer (some ⟨Q,0,none⟩),nodeV x av kv] W fun e w'=>e=.returned (.int .i64 ((layW k x).2:Int))/\WkI w' Q B (layW k x).1 p/\Below B W w'/\Kp (fun j _=>j=Q) W w'):=Lib.hid fun w av kv h hat hkd=>by
 obtain⟨hBQ,dv,ov,fv,A,K,L,T,hX,hO⟩:=h;have CM:=(make_hid k.D hf x hx).out;obtain⟨aa,ac,rfl⟩:=hat.form;obtain⟨ka,kc,rfl⟩:=hkd.form;obtain⟨N,hN⟩:=text_of x.n;obtain⟨D,hD⟩:=text_of x.d;unfold nodeV at CM ⊢;rw[strV_of hN,strV_of hD]at CM ⊢;replace CM:=Lib.hid CM;have HN:=Lib.hid (And.intro hN hD);have hQ:=hX.lt
 by_cases hb:k.b=0
 case neg =>
  have e3:=hX.c3;have HE:Hid (layW k x=(k,0)):=Lib.hid (by unfold layW;rw[if_pos hb]);have g1:(k.b != 0)=true:=by rw[bne_iff_ne];exact hb
  have H0:Hid ((WkI (w.alloc (.cells #[.int .i64 x.k,.string N,.string D,.slice aa x.a.length ac,.int .i64 x.p,.slice ka x.c.length kc,.bool x.b,.bool x.s] 39)) Q B k p/\Below B w (w.alloc (.cells #[.int .i64 x.k,.string N,.string D,.slice aa x.a.length ac,.int .i64 x.p,.slice ka x.c.length kc,.bool x.b,.bool x.s] 39)))/\Kp (fun j _=>j=Q) w (w.alloc (.cells #[.int .i64 x.k,.string N,.string D,.slice aa x.a.length ac,.int .i64 x.p,.slice ka x.c.length kc,.bool x.b,.bool x.s] 39))):=Lib.hid (by
   have al:=(Below.refl w.heap.size w).alloc (Nat.le_refl _) (.cells #[.int .i64 x.k,.string N,.string D,.slice aa x.a.length ac,.int .i64 x.p,.slice ka x.c.length kc,.bool x.b,.bool x.s] 39)
   exact⟨⟨⟨hBQ,dv,_,fv,A,K,L,T,hX.below al,hO.below al⟩,al.mono (by omega)⟩,Kp.of_below al⟩)
  clear CM hX hO hat hkd hN hD
  go_enter Tryz.func86,Tryz.ntmps86
  go_wp2
  go_ret
  exact⟨by rw[HE.out];rfl,by rw[HE.out];exact H0.out.1.1,H0.out.1.2,H0.out.2⟩
 have hL:∃ E i c,makeR k.D x=(E,i,c):=⟨_,_,_,rfl⟩;obtain⟨E1,i1,c1,he⟩:=hL;have hf1:=fitMake0 hf hx;have CP:=fun n=>(put_hid E1 (by rw[he]at hf1;exact hf1) (t:Int) n).out;have CM2:=CM.out;rw[he]at CM2;clear CM;have CM:=Lib.hid CM2;clear CM2;have HE1:Hid (c1≠0->layW k x=({ k with b:=c1 },0)):=Lib.hid fun h=>by unfold layW;rw[if_neg (by simp[hb]),he,if_pos h]
 have HE2:Hid (c1=0->layW k x=({ k with D:=(putR E1 (t:Int) i1).1 },i1.toNat)):=Lib.hid fun h=>by
  unfold layW topW;rw[if_neg (by simp[hb]),he,if_neg (by simp[h]),ho];rfl
 have HI:Hid (c1=0->0<=i1):=Lib.hid fun h=>by
  obtain⟨_,_,_,_,h5⟩:=makeR_inv (D:=k.D) (x:=x) (by rw[he];exact h);rw[he]at h5
  cases h5
  omega
 have al:=(Below.refl w.heap.size w).alloc (Nat.le_refl _) (.cells #[.int .i64 x.k,.string N,.string D,.slice aa x.a.length ac,.int .i64 x.p,.slice ka x.c.length kc,.bool x.b,.bool x.s] 39);have nb:=new_block w (.cells #[.int .i64 x.k,.string N,.string D,.slice aa x.a.length ac,.int .i64 x.p,.slice ka x.c.length kc,.bool x.b,.bool x.s] 39);have hs1:=al.size;have hX1:=hX.below al;have hO1:=hO.below al;have ha1:=AtIn.below hat al;have hk1:=hkd.below al;generalize hw1:w.alloc (.cells #[.int .i64 x.k,.string N,.string D,.slice aa x.a.length ac,.int .i64 x.p,.slice ka x.c.length kc,.bool x.b,.bool x.s] 39)=w1 at al nb hs1 hX1 hO1 ha1 hk1;have n0:=cell_of nb 0;have n1:=cell_of nb 1;have n2:=cell_of nb 2;have n3:=cell_of nb 3;have n4:=cell_of nb 4;have n5:=cell_of nb 5;have n6:=cell_of nb 6;have n7:=cell_of nb 7;have e0:=hX1.c0;have e3:=hX1.c3;rw[hb]at e3;have H1:=Lib.hid (And.intro hX1 (And.intro hO1 (And.intro ha1 (And.intro hk1 al))));obtain⟨da,dc,rfl⟩:=hO.d.form;clear hX hO hat hkd hX1 hO1 ha1 hk1 al nb he hf1 hN hD;replace CP:=Lib.hid CP
 obtain⟨go,oc,hov⟩:∃ go oc,ov=.slice (some ⟨go,0,none⟩) (r.length+1) oc:=by
  have h1:=H1.out.2.1.o;rw[ho]at h1;rcases rowForms h1 with ⟨_,e⟩ | ⟨g,c,e⟩
  · simp at e
  · exact⟨g,c,e⟩
 subst hov
 have HT:Hid (w1.cell? ⟨go,r.length,none⟩=some (.int .i64 (t:Int))):=Lib.hid (by
  have h1:=H1.out.2.1.o;rw[ho]at h1;have h2:=h1.cellAt r.length (by simp);rw[h2]
  simp[inC,natsI])
 have e1:=H1.out.1.c1;obtain⟨m,hm⟩:∃ m,r.length=m:=⟨_,rfl⟩;rw[hm]at hr;obtain⟨M,hM⟩:∃ M,m+1=M:=⟨_,rfl⟩;rw[hm,hM]at e1;have zW:IntKind.i64.wrap ((M:Int) - 1)=(m:Int):=by rw[IntWalk.i64_in _ (by omega)];omega
 have zm:(m:Int)<(M:Int):=by omega
 have zm0:(0:Int)<=(m:Int):=by omega
 rw[hm]at HT H1;rw[hM]at H1;replace hM:=Lib.hid hM;replace hm:=Lib.hid hm
 go_enter Tryz.func86,Tryz.ntmps86
 go_wp2_with fail
 have CMB:Hid (∀ w',Below w1.heap.size w1 w'->Calls Tryz.prog 121 #[.agg #[.slice da k.D.length dc],.agg #[.int .i64 x.k,.string N,.string D,.slice aa x.a.length ac,.int .i64 x.p,.slice ka x.c.length kc,.bool x.b,.bool x.s]] w' fun e w2=>∃ a1 d1,e=.returned (.tuple #[.agg #[.slice a1 E1.length d1],.int .i64 i1,.int .i64 c1])/\OwnX w2 w1.heap.size (.slice a1 E1.length d1) E1/\Below w1.heap.size w1 w2/\Below w'.heap.size w' w2):=Lib.hid fun w' b=>(CM.out _ _ _ _ _ _ (H1.out.2.1.below b).d.doc (AtIn.below H1.out.2.2.1 b) (H1.out.2.2.2.1.below b)).mono fun e w2 ⟨sl',h1,⟨A1,K1,h2⟩,h3⟩=>by
  obtain⟨a1,d1,rfl⟩:=h2.form;exact⟨a1,d1,h1,⟨A1,K1,h2.low b.size⟩,b.trans (h3.mono b.size),h3⟩
 have hRd:=H1.out.2.2.2.2;obtain⟨R,hR⟩:∃ R,w.heap.size=R:=⟨_,rfl⟩;rw[hR]at n0 n1 n2 n3 n4 n5 n6 n7 ⊢
 have HS:Hid (∀ w',Below w1.heap.size w1 w'->(w'.cell? ⟨Q,0,none⟩=some (.slice da k.D.length dc)/\w'.cell? ⟨R,0,none⟩=some (.int .i64 x.k)/\w'.cell? ⟨R,1,none⟩=some (.string N)/\w'.cell? ⟨R,2,none⟩=some (.string D)/\w'.cell? ⟨R,3,none⟩=some (.slice aa x.a.length ac)/\w'.cell? ⟨R,4,none⟩=some (.int .i64 x.p)/\w'.cell? ⟨R,5,none⟩=some (.slice ka x.c.length kc)/\w'.cell? ⟨R,6,none⟩=some (.bool x.b)/\w'.cell? ⟨R,7,none⟩=some (.bool x.s)/\Below w1.heap.size w1 w')):=Lib.hid fun w' b=>by
  have h:=fun(j:Nat) (v:Value) (e:w1.cell? ⟨R,j,none⟩=some v)=>(b.cell (lt_of_cell e)).trans e;exact⟨(b.cell (lt_of_cell e0)).trans e0,h 0 _ n0,h 1 _ n1,h 2 _ n2,h 3 _ n3,h 4 _ n4,h 5 _ n5,h 6 _ n6,h 7 _ n7,b⟩
 have B1:=Below.refl w1.heap.size w1;have S0:=HS.out _ ((Below.refl w1.heap.size w1).drew)
 go_region_held3 (fun w'=>w'.cell? ⟨Q,0,none⟩=some (.slice da k.D.length dc)/\w'.cell? ⟨R,0,none⟩=some (.int .i64 x.k)/\w'.cell? ⟨R,1,none⟩=some (.string N)/\w'.cell? ⟨R,2,none⟩=some (.string D)/\w'.cell? ⟨R,3,none⟩=some (.slice aa x.a.length ac)/\w'.cell? ⟨R,4,none⟩=some (.int .i64 x.p)/\w'.cell? ⟨R,5,none⟩=some (.slice ka x.c.length kc)/\w'.cell? ⟨R,6,none⟩=some (.bool x.b)/\w'.cell? ⟨R,7,none⟩=some (.bool x.s)/\Below w1.heap.size w1 w') (first | assumption | (refine HS.out _ ?_;go_split_ands;repeat' (first | assumption | refine Below.drew ?_ | refine bel_alloc ?_ _ | refine bel_set ?_ ?_ _ | exact Nat.le_refl _ | exact Below.size (by assumption)))) (first
  | (go_at_call 121
     (with_reducible refine(CMB.out _ ?_).mono ?_)
     · (go_split_ands;assumption)
     rintro e w2 ⟨a1,d1,rfl,o2,b2,b3⟩
     try (have x2:=(b3.block w1.heap.size (lt_of_block (show(w1.alloc (.cells #[.slice none 0 0] 24)).drew.heap[w1.heap.size]? = some (.cells #[.slice none 0 0] 24 (0,0))from new_block _ _))).trans (show(w1.alloc (.cells #[.slice none 0 0] 24)).drew.heap[w1.heap.size]? = some (.cells #[.slice none 0 0] 24 (0,0))from new_block _ _)
          have z2:=cell_of x2 0
          have y2:=open_of x2 0)
     clear b3))
 all_goals
  first
  | (have HV:Hid ((w2.setCell ⟨w1.heap.size,0,none⟩ (.slice a1 E1.length d1)).heap[w1.heap.size]? = some (.cells #[.slice a1 E1.length d1] 24 (0,0))/\OwnX (w2.setCell ⟨w1.heap.size,0,none⟩ (.slice a1 E1.length d1)) w1.heap.size (.slice a1 E1.length d1) E1/\Below w1.heap.size w1 (w2.setCell ⟨w1.heap.size,0,none⟩ (.slice a1 E1.length d1))/\w1.heap.size<=w1.heap.size):=Lib.hid ⟨heap_setCell_same w2 w1.heap.size 0 _ _ _ (.slice a1 E1.length d1) x2,(by obtain⟨A1,K1,o3⟩:=o2;exact⟨A1,K1,o3.setDoc x2⟩),bel_set b2 (Nat.le_refl _) _,Nat.le_refl _⟩
     generalize w2.setCell ⟨w1.heap.size,0,none⟩ (.slice a1 E1.length d1)=w3 at HV ⊢;obtain⟨R2,hR2⟩:∃ R2,R2=w1.heap.size:=⟨_,rfl⟩;have HV2:Hid (w3.heap[R2]? = some (.cells #[.slice a1 E1.length d1] 24 (0,0))/\OwnX w3 w1.heap.size (.slice a1 E1.length d1) E1/\Below w1.heap.size w1 w3/\w1.heap.size<=R2):=Lib.hid (by rw[hR2];exact HV.out);clear HV;have HV:=HV2;clear HV2;rw[<- hR2]
     replace hR2:=Lib.hid hR2)
  | (have HV:Hid ((w2.alloc (.cells #[.slice a1 E1.length d1] 24)).heap[w2.heap.size]? = some (.cells #[.slice a1 E1.length d1] 24 (0,0))/\OwnX (w2.alloc (.cells #[.slice a1 E1.length d1] 24)) w1.heap.size (.slice a1 E1.length d1) E1/\Below w1.heap.size w1 (w2.alloc (.cells #[.slice a1 E1.length d1] 24))/\w1.heap.size<=w2.heap.size):=Lib.hid ⟨new_block _ _,o2.below ((Below.refl _ _).alloc (Nat.le_refl _) _),bel_alloc b2 _,b2.size⟩
     generalize w2.alloc (.cells #[.slice a1 E1.length d1] 24)=w3 at HV ⊢
     generalize w2.heap.size=R2 at HV ⊢)
 all_goals
  have hX3:=H1.out.1.below HV.out.2.2.1;have hO3:=H1.out.2.1.below HV.out.2.2.1;have hBw:Below B w w3:=(H1.out.2.2.2.2.mono (by omega)).trans (HV.out.2.2.1.mono (by have:=H1.out.2.2.2.2.size;omega));have hs3:=hX3.lt
 all_goals
  by_cases hc:c1=0
  case neg =>
   have g2:(c1 != 0)=true:=by rw[bne_iff_ne];exact hc
   have f3:=hX3.free 3;have q3:=hX3.c3
   have HE:Hid ((layW k x).2=0/\WkI (w3.setCell ⟨Q,3,none⟩ (.int .i64 c1)) Q B (layW k x).1 p/\Below B w (w3.setCell ⟨Q,3,none⟩ (.int .i64 c1))/\Kp (fun j _=>j=Q) w (w3.setCell ⟨Q,3,none⟩ (.int .i64 c1))):=Lib.hid (by
    rw[HE1.out hc]
    exact⟨rfl,⟨hBQ,_,_,_,A,K,L,T,hX3.set3 c1,(hO3.setQ hX3).bad c1⟩,hBw.trans (hX3.bel hBQ),((Kp.of_below H1.out.2.2.2.2).trans (Kp.of_below HV.out.2.2.1)).trans (hX3.kset 3 _)⟩)
   clear HE1 HE2 HI hX3 hO3 hBw CP
   go_wp2
   go_ret
   exact⟨by rw[HE.out.1];rfl,HE.out.2.1,HE.out.2.2⟩
  subst hc;have HI2:=HI.out rfl;have HE3:=HE2.out rfl;obtain⟨E2,z2,he2⟩:∃ E z,putR E1 (t:Int) i1=(E,z):=⟨_,_,rfl⟩;have CP2:=CP.out i1;rw[he2]at CP2 HE3;replace HE3:=Lib.hid HE3;have hT3:w3.cell? ⟨go,m,none⟩=some (.int .i64 (t:Int)):=(HV.out.2.2.1.cell (lt_of_cell HT.out)).trans HT.out;have hV0:=cell_of HV.out.1 0;have hQ1:=hX3.c1
  have CPB:Hid (∀ w',Below w3.heap.size w3 w'->Calls Tryz.prog 122 #[.agg #[.slice a1 E1.length d1],.int .i64 (t:Int),.int .i64 i1] w' fun e w5=>∃ a2 d2,e=.returned (.tuple #[.agg #[.slice a2 E2.length d2],.int .i64 z2])/\OwnX w5 w3.heap.size (.slice a2 E2.length d2) E2/\Below w3.heap.size w3 w5/\Below w'.heap.size w' w5):=Lib.hid fun w' b=>by
   obtain⟨A1,K1,o3⟩:=HV.out.2.1
   exact(CP2 _ _ _ _ (o3.doc.below b)).mono fun e w5 ⟨sl',h1,⟨A2,K2,h2⟩,h3⟩=>by
    obtain⟨a2,d2,rfl⟩:=h2.form;exact⟨a2,d2,h1,⟨A2,K2,h2.low b.size⟩,b.trans (h3.mono b.size),h3⟩
  have HS2:Hid (∀ w',Below w3.heap.size w3 w'->(w'.cell? ⟨R2,0,none⟩=some (.slice a1 E1.length d1)/\w'.cell? ⟨Q,1,none⟩=some (.slice (some ⟨go,0,none⟩) M oc)/\w'.cell? ⟨go,m,none⟩=some (.int .i64 (t:Int))/\Below w3.heap.size w3 w')):=Lib.hid fun w' b =>
   ⟨(b.cell (lt_of_cell hV0)).trans hV0,(b.cell (lt_of_cell hQ1)).trans hQ1,(b.cell (lt_of_cell hT3)).trans hT3,b⟩
  have B3:=Below.refl w3.heap.size w3;have S3:=HS2.out _ ((Below.refl w3.heap.size w3).drew);clear hV0 hQ1 hT3 CP2 he2 HE1 HE2 HI CP CMB HS n0 n1 n2 n3 n4 n5 n6 n7 o2 b2;replace hX3:=Lib.hid hX3;replace hO3:=Lib.hid hO3;replace hBw:=Lib.hid hBw
  go_wp2_with fail
  go_region_held3 (fun w'=>w'.cell? ⟨R2,0,none⟩=some (.slice a1 E1.length d1)/\w'.cell? ⟨Q,1,none⟩=some (.slice (some ⟨go,0,none⟩) M oc)/\w'.cell? ⟨go,m,none⟩=some (.int .i64 (t:Int))/\Below w3.heap.size w3 w') (first | assumption | (refine HS2.out _ ?_;go_split_ands;repeat' (first | assumption | refine Below.drew ?_ | refine bel_alloc ?_ _ | refine bel_set ?_ ?_ _ | exact Nat.le_refl _ | exact Below.size (by assumption)))) (first
   | (go_at_call 122
      (with_reducible refine(CPB.out _ ?_).mono ?_)
      · (go_split_ands;assumption)
      rintro e w5 ⟨a2,d2,rfl,o5,b5,b6⟩
      try (have x5:=(b6.block w3.heap.size (lt_of_block (show(w3.alloc (.cells #[.slice none 0 0] 24)).drew.heap[w3.heap.size]? = some (.cells #[.slice none 0 0] 24 (0,0))from new_block _ _))).trans (show(w3.alloc (.cells #[.slice none 0 0] 24)).drew.heap[w3.heap.size]? = some (.cells #[.slice none 0 0] 24 (0,0))from new_block _ _)
           have z5:=cell_of x5 0
           have y5:=open_of x5 0)
      clear b6))
 all_goals
  first
  | (have HW:Hid ((w5.setCell ⟨w3.heap.size,0,none⟩ (.slice a2 E2.length d2)).heap[w3.heap.size]? = some (.cells #[.slice a2 E2.length d2] 24 (0,0))/\OwnX (w5.setCell ⟨w3.heap.size,0,none⟩ (.slice a2 E2.length d2)) w3.heap.size (.slice a2 E2.length d2) E2/\Below w3.heap.size w3 (w5.setCell ⟨w3.heap.size,0,none⟩ (.slice a2 E2.length d2))):=Lib.hid ⟨heap_setCell_same w5 w3.heap.size 0 _ _ _ (.slice a2 E2.length d2) x5,(by obtain⟨A1,K1,o7⟩:=o5;exact⟨A1,K1,o7.setDoc x5⟩),bel_set b5 (Nat.le_refl _) _⟩
     generalize w5.setCell ⟨w3.heap.size,0,none⟩ (.slice a2 E2.length d2)=w6 at HW ⊢;obtain⟨R4,hR4⟩:∃ R4,R4=w3.heap.size:=⟨_,rfl⟩;have HW2:Hid (w6.heap[R4]? = some (.cells #[.slice a2 E2.length d2] 24 (0,0))/\OwnX w6 w3.heap.size (.slice a2 E2.length d2) E2/\Below w3.heap.size w3 w6):=Lib.hid (by rw[hR4];exact HW.out);clear HW;have HW:=HW2;clear HW2;rw[<- hR4]
     replace hR4:=Lib.hid hR4)
  | (have HW:Hid ((w5.alloc (.cells #[.slice a2 E2.length d2] 24)).heap[w5.heap.size]? = some (.cells #[.slice a2 E2.length d2] 24 (0,0))/\OwnX (w5.alloc (.cells #[.slice a2 E2.length d2] 24)) w3.heap.size (.slice a2 E2.length d2) E2/\Below w3.heap.size w3 (w5.alloc (.cells #[.slice a2 E2.length d2] 24))):=Lib.hid ⟨new_block _ _,o5.below ((Below.refl _ _).alloc (Nat.le_refl _) _),bel_alloc b5 _⟩
     generalize w5.alloc (.cells #[.slice a2 E2.length d2] 24)=w6 at HW ⊢
     generalize w5.heap.size=R4 at HW ⊢)
 all_goals
  have hX6:=hX3.out.below HW.out.2.2;have f6:=hX6.free 0;have q6:=hX6.c0;have v6:=cell_of HW.out.1 0
  have HE:Hid ((layW k x).2=i1.toNat/\WkI (w6.setCell ⟨Q,0,none⟩ (.slice a2 E2.length d2)) Q B (layW k x).1 p/\Below B w (w6.setCell ⟨Q,0,none⟩ (.slice a2 E2.length d2))/\Kp (fun j _=>j=Q) w (w6.setCell ⟨Q,0,none⟩ (.slice a2 E2.length d2))):=Lib.hid (by
   rw[HE3.out];obtain⟨A6,K6,o6⟩:=HW.out.2.1
   exact⟨rfl,⟨hBQ,_,_,_,A6,K6,_,_,hX6.set0 _,(hO3.out.doc HW.out.2.2 o6 (Nat.le_refl _) (by omega)).setQ hX6⟩,(hBw.out.trans (HW.out.2.2.mono (by omega))).trans (hX6.bel hBQ),(((Kp.of_below H1.out.2.2.2.2).trans (Kp.of_below HV.out.2.2.1)).trans (Kp.of_below HW.out.2.2)).trans (hX6.kset 0 _)⟩)
  have HI3:Hid ((i1.toNat:Int)=i1):=Lib.hid (Int.toNat_of_nonneg HI2);clear hX6 HE3 hX3 hO3 hBw HI2 zW zm zm0
  go_wp2
  go_ret
  exact⟨by rw[HE.out.1,HI3.out];rfl,HE.out.2.1,HE.out.2.2⟩
end Go.Proofs.YtlnfbjbagmfpiaaGreatDoor.Dm
namespace Go.Proofs.YtlnfbjbagmfpiaaGreatDoor.Dm
open Go.RowKit
theorem row_cut {w:World}{B:Nat}{e:TypeId}{size n g cap:Nat}{xs:List Value}(h:w.ownsRow B e size (.slice (some ⟨g,0,none⟩) n cap) n xs){i:Nat}(hi:i<=n):w.ownsRow B e size (.slice (some ⟨g,0,none⟩) i cap) i (xs.take (i * size)):=by
 have hl:=h.1;refine⟨by rw[List.length_take,hl];exact Nat.min_eq_left (Nat.mul_le_mul_right _ hi),?_⟩;rcases h.2 with ⟨e1,_⟩ | ⟨g',cap',cur,a1,a2,a3,a4,a5,a6,a7⟩
 · cases e1
 · injection a1 with a1 _ a8
   injection a1 with a1
   injection a1 with a1
   subst a1 a8;refine .inr ⟨g,cap,cur,rfl,a2,a3,by omega,a5,a6,?_⟩;rw[<- a7,List.take_take,Nat.min_eq_left (Nat.mul_le_mul_right _ hi)]
theorem cap_row {w:World}{B size n:Nat}{e:TypeId}{a:Option Addr}{c:Nat}{xs:List Value}(h:w.ownsRow B e size (.slice a n c) n xs):n<=c:=by
 rcases h.2 with ⟨e1,e2⟩ | ⟨g,cap,cur,e1,-,-,h1,-⟩
 · omega
 · cases e1
   exact h1
theorem slice_upto (g n c i:Nat)(hi:i<=c):∀ W,(Instr.slice 37 (.slice (some ⟨g,0,none⟩) n c) none (some (.int .i64 (i:Int))) none).run Tryz.prog W=.ok (.slice (some ⟨g,0,none⟩) i c) W:=fun W=>by
 obtain⟨i0,hi0,hz0,hz1,hz2⟩:=info_parts Tinfo3
 have hb:∀ W,(Instr.sliceBound (.int .i64 (i:Int)) c .sliceAcap).run Tryz.prog W=.ok i W:=fun W=>by
  have:=Go.run_sliceBound (P:=Tryz.prog) (w:=W) .i64 (i:Int) c .sliceAcap (by omega) (by omega)
  simpa using this
 simp[Instr.slice,run_underlying Tryz.underlying37,Instr.sliceBounds,hb,Addr.add]
theorem WkO.cut {w:World}{B L T g c:Nat}{k:Wk}{dv fv:Value}{A K:Nat->Value}{s:Nat}(h:WkO w B k dv (.slice (some ⟨g,0,none⟩) k.o.length c) fv A K L T):WkO w B { k with o:=k.o.drop s } dv (.slice (some ⟨g,0,none⟩) (k.o.drop s).length c) fv A K L T:=by
 have h1:=row_cut h.o (i:=(k.o.drop s).length) (by rw[List.length_drop];omega);refine⟨h.d,h.t,?_,h.f,fun g' hg=>h.s g' hg,h.l,h.h⟩;rw[show inC (natsI (k.o.drop s).reverse)=(inC (natsI k.o.reverse)).take ((k.o.drop s).length * 1)from ?_]
 · exact h1
 · unfold inC natsI
   rw[<- List.map_take,<- List.map_take,List.length_drop,Nat.mul_one,List.reverse_drop]
theorem place_here {k:Wk}{nm:List UInt8}{s a:Nat}(hs:k.o[s]? = some a)(hl:s<k.o.dropLast.length)(hn:∀ j b,j<s->k.o[j]? = some b->nameN k.D b≠nm)(he:nameN k.D a=nm):placeW k nm=s:=by
 unfold placeW;rw[List.findIdx_eq hl];have hl2:=hl;rw[List.length_dropLast]at hl2;constructor
 · rw[List.getElem_dropLast]
   have:k.o[s]'(by omega)=a:=(List.getElem?_eq_some_iff.1 hs).2;rw[this,he];simp
 · intro j hj
   rw[List.getElem_dropLast];have:=hn j _ hj (List.getElem?_eq_getElem (by omega))
   simpa using this
theorem place_none {k:Wk}{nm:List UInt8}(hn:∀ j b,j<k.o.dropLast.length->k.o[j]? = some b->nameN k.D b≠nm):¬ placeW k nm<k.o.dropLast.length:=by
 unfold placeW;rw[List.findIdx_lt_length];rintro⟨x,hx,he⟩;obtain⟨j,hj,rfl⟩:=List.getElem_of_mem hx;rw[List.getElem_dropLast]at he;have:=hn j _ hj (List.getElem?_eq_getElem (by rw[List.length_dropLast]at hj;omega));exact this (by simpa using he)
theorem end_hid (k:Wk)(p:Bool)(Q B:Nat)(nm:ByteArray)(at_:Nat)(hl:k.f.length<=1000000)(ho0:0<k.o.length)(ho1:k.o.length<=1000)(hlt:∀ a∈k.o,a<k.D.length)(_hD:k.D.length<=400):Hid (∀ W,WkI W Q B k p->Calls Tryz.prog 87 #[.pointer (some ⟨Q,0,none⟩),.string nm,.int .i64 (at_:Int)] W fun e w'=>e=.returned (.tuple #[])/\WkI w' Q B (endW k nm.data.toList at_) p/\Below B W w'):=Lib.hid fun w h=>by
 obtain⟨hBQ,dv,ov,fv,A,K,L,T,hX,hO⟩:=h
 obtain⟨go,oc,rfl⟩:∃ go oc,ov=.slice (some ⟨go,0,none⟩) k.o.length oc:=by
  rcases rowForms hO.o with ⟨_,e⟩ | ⟨g,c,e⟩
  · omega
  · exact⟨g,c,e⟩
 obtain⟨t0,ht0⟩:∃ t0,k.o[0]? = some t0:=⟨_,List.getElem?_eq_getElem ho0⟩;have ht1:=hlt t0 (List.mem_of_getElem? ht0)
 obtain⟨gd,dc,rfl⟩:∃ gd dc,dv=.slice (some ⟨gd,0,none⟩) k.D.length dc:=by
  rcases rowForms hO.d.row with ⟨_,e⟩ | ⟨g,c,e⟩
  · omega
  · exact⟨g,c,e⟩
 have hcap:k.o.length<=oc:=cap_row hO.o
 have hcell:∀(s a:Nat),k.o[s]? = some a->w.cell? ⟨go,k.o.length - 1 - s,none⟩=some (.int .i64 (a:Int)):=fun s a hs=>by
  have hsl:=(List.getElem?_eq_some_iff.1 hs).1;have h1:=hO.o.cellAt (k.o.length - 1 - s) (by omega);rw[h1];simp only[inC,natsI,List.getElem?_map];rw[List.getElem?_reverse (by omega),show k.o.length - 1 - (k.o.length - 1 - s)=s by omega,hs];rfl
 have hname:∀ a:Nat,a<k.D.length->∃ X:ByteArray,X.data.toList=nameN k.D a/\w.cell? ⟨gd,a * 8+1,none⟩=some (.string X):=fun a ha=>by
  obtain⟨B',off',hB,-,c1,-⟩:=hO.d.doc.node ha
  cases hB
  obtain⟨X,hX⟩:=text_of k.D[a].n;rw[strV_of hX,Nat.zero_add]at c1;refine⟨X,?_,c1⟩;unfold nameN;rw[List.getElem?_eq_getElem ha,hX]
 have CF1:=failE_hid k p Q B 160 at_ hl (.slice (some ⟨gd,0,none⟩) k.D.length dc) (.slice (some ⟨go,0,none⟩) k.o.length oc) A K L T;have CF2:=failE_hid k p Q B 162 at_ hl (.slice (some ⟨gd,0,none⟩) k.D.length dc) (.slice (some ⟨go,0,none⟩) k.o.length oc) A K L T;have HE:=Lib.hid (show WkE w Q B k p (.slice (some ⟨gd,0,none⟩) k.D.length dc) (.slice (some ⟨go,0,none⟩) k.o.length oc) A K L T from⟨hBQ,fv,hX,hO⟩);obtain⟨M,hM⟩:∃ M,k.o.length=M:=⟨_,rfl⟩;have HX:=Lib.hid hX;have HO:=Lib.hid hO;have e0:=hX.c0;have e1:=hX.c1;have f1:=hX.free 1;rw[hM]at e1 hcell hcap ho0 ho1;replace hcell:=Lib.hid hcell;replace hname:=Lib.hid hname;replace hlt:=Lib.hid hlt;have hQl:=hX.lt;have zW:IntKind.i64.wrap ((M:Int) - 1)=((M - 1:Nat):Int):=by rw[IntWalk.i64_in _ (by omega)];omega
 replace hM:=Lib.hid hM;clear hX hO ht0 ht1
 go_enter Tryz.func87,Tryz.ntmps87
 go_wp2
 go_loopw [6] (fun i wr=>∃ s u n:Nat,i=.int .i64 (u:Int)/\s+u+1=M/\Hid (∀ j b,j<s->k.o[j]? = some b->nameN k.D b≠nm.data.toList)/\wr=w.drewN n) (fun i _=>(intOf i).toNat)
 case atStart=>exact⟨0,M - 1,0,rfl,by omega,Lib.hid (fun j b h=>by omega),rfl⟩
 case round =>
  obtain⟨s,u,n,rfl,hsu,HS,rfl⟩:=hrel
  by_cases hu:1<=u
  · obtain⟨v,rfl⟩:∃ v,u=v+1:=⟨u - 1,by omega⟩
    obtain⟨a,ha⟩:∃ a,k.o[s]? = some a:=⟨_,List.getElem?_eq_getElem (by have:=hM.out;omega)⟩;have hal:=hlt.out a (List.mem_of_getElem? ha);have c1:=hcell.out s a ha;rw[show M - 1 - s=v+1 by omega]at c1;obtain⟨X,hX,c2⟩:=hname.out a hal;have za:(a:Int)<(k.D.length:Int):=by omega
    have za0:(0:Int)<=(a:Int):=by omega
    have zu:(v:Int)+1<(M:Int):=by omega
    replace ha:=Lib.hid ha
    by_cases he:X=nm
    · subst he
      have ze:(X.toList==X.toList)=true:=by simp
      have hpl:placeW k X.data.toList=s:=place_here ha.out (by rw[List.length_dropLast];have:=hM.out;omega) HS.out hX.symm;have hpd:s<k.o.dropLast.length:=by rw[List.length_dropLast];have:=hM.out;omega
      have hdl:(k.o.drop (s+1)).length=v+1:=by rw[List.length_drop];have:=hM.out;omega
      have HR:=slice_upto go M oc (v+1) (by omega);rw[show((v+1:Nat):Int)=(v:Int)+1 by omega]at HR
      by_cases hs0:s=0
      · subst hs0
        have HQ:Hid (endW k X.data.toList at_={ k with o:=k.o.drop 1 }):=Lib.hid (by
         unfold endW
         rw[hpl,if_pos hpd,if_neg (by omega)])
        have zlt2:¬ (v+1<M - 1):=by omega
        have zlt:¬ ((v:Int)+1<((M - 1:Nat):Int)):=by omega
        have HF:Hid (∀ q,WkI ((w.drewN q).setCell ⟨Q,1,none⟩ (.slice (some ⟨go,0,none⟩) (v+1) oc)) Q B (endW k X.data.toList at_) p/\Below B w ((w.drewN q).setCell ⟨Q,1,none⟩ (.slice (some ⟨go,0,none⟩) (v+1) oc))):=Lib.hid fun q=>by
         have bq:Below w.heap.size w (w.drewN q):=belowN (Below.refl _ _) q;have hXq:=HX.out.below bq;have hOq:=(HO.out.below bq).cut (s:=1);rw[hdl]at hOq;rw[HQ.out];exact⟨⟨hBQ,_,_,_,A,K,L,T,hXq.set1 _,hOq.setQ hXq⟩,(bq.mono (by omega)).trans (hXq.bel hBQ)⟩
        clear hpl hpd hX HS
        go_wp2_with fail
        go_quiet (fail)
        go_wp2
        exact bodyPost_ret (v := .tuple #[]) (by simp[results,Tryz.results87,go_sem]) rfl ⟨rfl,(HF.out _).1,(HF.out _).2⟩
      · have HQ:Hid (endW k X.data.toList at_={ k with o:=k.o.drop (s+1),f:=k.f++[(162,at_)] }):=Lib.hid (by
         unfold endW
         rw[hpl,if_pos hpd,if_pos (by omega)])
        have zlt2:v+1<M - 1:=by omega
        have zlt:(v:Int)+1<((M - 1:Nat):Int):=by omega
        replace hdl:=Lib.hid hdl;replace hsu:=Lib.hid hsu;clear hpl hpd hX HS
        go_wp2_with fail
        go_quiet (fail)
        go_wp2_with fail
        (refine(CF2.out _ (HE.out.below (belowN (Below.refl _ _) _))).mono ?_)
        rintro e w2 ⟨rfl,h2,b2⟩;obtain⟨-,fv2,hX2,hO2⟩:=h2;have e1':=hX2.c1;have f1':=hX2.free 1;rw[hM.out]at e1'
        have HF:Hid (WkI (w2.setCell ⟨Q,1,none⟩ (.slice (some ⟨go,0,none⟩) (v+1) oc)) Q B (endW k X.data.toList at_) p/\Below B w (w2.setCell ⟨Q,1,none⟩ (.slice (some ⟨go,0,none⟩) (v+1) oc))):=Lib.hid (by
         have hO3:=WkO.cut (s:=s+1) hO2;rw[hdl.out]at hO3;rw[HQ.out]
         exact⟨⟨hBQ,_,_,_,A,K,L,T,hX2.set1 _,hO3.setQ hX2⟩,(((belowN (Below.refl w.heap.size w) _).mono (by omega)).trans b2).trans (hX2.bel hBQ)⟩)
        clear hX2 hO2 b2
        go_wp2
        exact bodyPost_ret (v := .tuple #[]) (by simp[results,Tryz.results87,go_sem]) rfl ⟨rfl,HF.out.1,HF.out.2⟩
    · have ze:(X.toList==nm.toList)=false:=by
       rw[text_lit];exact decide_eq_false fun h=>he (text_ext (h.trans (ByteArray.toList_eq nm)))
      have HS2:Hid (∀ j b,j<s+1->k.o[j]? = some b->nameN k.D b≠nm.data.toList):=Lib.hid fun j b hj hb=>by
       by_cases e:j=s
       · subst e
         rw[ha.out]at hb
         cases hb
         rw[<- hX];exact fun h=>he (text_ext h)
       · exact HS.out j b (by omega) hb
      clear he hX HS
      go_wp2_with fail
      go_quiet (fail)
      go_wp2
      go_roundw
      case rel=>exact⟨s+1,v,_,by go_num,by omega,HS2,rfl⟩
      case measure=>simp[intOf]
  · obtain rfl:u=0:=by omega
    have hb:=(Below.refl w.heap.size w);have b1:Below w.heap.size w (w.drewN n):=belowN hb n
    have HQ:Hid (endW k nm.data.toList at_={ k with f:=k.f++[(160,at_)] }):=Lib.hid (by
     unfold endW
     rw[if_neg (place_none fun j b hj hb=>HS.out j b (by rw[List.length_dropLast]at hj;have:=hM.out;omega) hb)])
    have h1:=HE.out.below b1;replace b1:=Lib.hid b1;clear HS hb
    go_wp2_with fail
    (refine(CF1.out _ h1).mono ?_)
    rintro e w2 ⟨rfl,h2,b2⟩;have HF:Hid (WkI w2 Q B (endW k nm.data.toList at_) p/\Below B w w2):=Lib.hid ⟨by rw[HQ.out];exact h2.i,(b1.out.mono (by omega)).trans b2⟩;clear h1 h2 b2 b1
    go_wp2
    go_end0
    exact⟨rfl,HF.out.1,HF.out.2⟩
end Go.Proofs.YtlnfbjbagmfpiaaGreatDoor.Dm
