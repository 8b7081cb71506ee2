/- Documents that can be read, and the program's functions over them. Plain mathematics of documents as nodes (no program in this text): what a change's end tells, and what comes out fits. The law's own: what needs no document's answer. The document's own over documents that can be read; variables, and regions that draw their order. The law's own: all that can be written in a document is written over. Variables that hold documents of one's own; what the changes come to fits; smudge over a variable. -/
import Derived.BigRegion
import Derived.Test.YtlnfbjbagmfpiaaGreatDoorPeZB
namespace Go.Proofs.YtlnfbjbagmfpiaaGreatDoor.Dm
open Go.RowKit
def DocG (w:World)(sl:Value)(D:List Nd):Prop:=∃ A K,DocIn w sl D A K/\Capd D A
theorem DocG.below {w w':World}{sl:Value}{D:List Nd}(h:DocG w sl D)(b:Below w.heap.size w w'):DocG w' sl D:=by
 obtain⟨A,K,h1,h2⟩:=h;exact⟨A,K,h1.below b,h2⟩
theorem DocG.form {w:World}{sl:Value}{D:List Nd}(h:DocG w sl D):∃ a c,sl=.slice a D.length c:=by
 obtain⟨A,K,h1,h2⟩:=h;exact h1.form
theorem OwnX.g {w:World}{B:Nat}{sl:Value}{D:List Nd}(h:OwnX w B sl D):DocG w sl D:=by
 obtain⟨A,K,h⟩:=h;refine⟨A,K,h.doc,fun i hi => ?_⟩;obtain⟨a,c,e⟩:=row_form (h.at' i hi);rw[e];have:=h.at' i hi;rw[e]at this;exact cap_of this
def DocE (E:List Nd)(k:Int)(W:World)(e:Ending)(w':World):Prop:=∃ a c,e=.returned (.tuple #[.agg #[.slice a E.length c],.int .i64 k])/\OwnX w' W.heap.size (.slice a E.length c) E/\Below W.heap.size W w'
def DocE2 (E:List Nd)(i k:Int)(W:World)(e:Ending)(w':World):Prop:=∃ a c,e=.returned (.tuple #[.agg #[.slice a E.length c],.int .i64 i,.int .i64 k])/\OwnX w' W.heap.size (.slice a E.length c) E/\Below W.heap.size W w'
section
variable {D:List Nd} (hf:FitD D)
include hf
theorem gCheck:Hid (∀ W sl,DocG W sl D->Calls Tryz.prog 29 #[.agg #[sl]] W fun e w'=>e=.returned (.int .i64 (checkM D))/\Below W.heap.size W w'):=Lib.hid fun W sl ⟨A,K,h,hc⟩=>(checkP_hid D hf).out W sl A K h hc
theorem gText (n:Int):Hid (∀ W sl,DocG W sl D->Calls Tryz.prog 32 #[.agg #[sl],.int .i64 n] W fun e w'=>e=.returned (strV (textsM D n))/\Below W.heap.size W w'):=Lib.hid fun W sl ⟨A,K,h,hc⟩=>(textP_hid D hf n).out W sl A K h hc
theorem gBelow (n:Int):Hid (∀ W sl,DocG W sl D->Calls Tryz.prog 34 #[.agg #[sl],.int .i64 n] W fun e w'=>∃ v,e=.returned v/\OwnI w' W.heap.size v (belowM D n)/\Below W.heap.size W w'):=Lib.hid fun W sl ⟨A,K,h,hc⟩=>(belowP_hid D hf n).out W sl A K h hc
theorem gPut (q n:Int):Hid (∀ W sl,DocG W sl D->Calls Tryz.prog 144 #[.agg #[sl],.int .i64 q,.int .i64 n] W (DocE (putR D q n).1 (putR D q n).2 W)):=Lib.hid fun W sl ⟨A,K,h,hc⟩=>((putP_hid D hf q n).out W sl A K h hc).mono fun e w' ⟨sl',h1,h2,h3⟩=>by
 obtain⟨a,c,rfl⟩:=h2.form;exact⟨a,c,h1,h2,h3⟩
theorem gMake (x:Nd)(hx:FitN x):Hid (∀ W sl av kv,DocG W sl D->AtIn W av x.a->IntIn W kv x.c->Calls Tryz.prog 143 #[.agg #[sl],nodeV x av kv] W (DocE2 (makeR D x).1 (makeR D x).2.1 (makeR D x).2.2 W)):=Lib.hid fun W sl av kv ⟨A,K,h,hc⟩ ha hk=>((makeP_hid D hf x hx).out W sl A K av kv h hc ha hk).mono fun e w' ⟨sl',h1,h2,h3⟩=>by
 obtain⟨a,c,rfl⟩:=h2.form;exact⟨a,c,h1,h2,h3⟩
theorem gSame:Hid (∀ W sl sl',DocG W sl D->DocG W sl' D->Calls Tryz.prog 17 #[.agg #[sl],.agg #[sl']] W fun e w'=>e=.returned (.bool true)/\Below W.heap.size W w'):=Lib.hid fun W sl sl' ⟨A,K,h,_⟩ ⟨A',K',h',_⟩=>(same_hid D hf).out W sl A K sl' A' K' h h'
end
theorem fit_nil:FitD []:=⟨by simp,fun x h=>by cases h⟩
end Go.Proofs.YtlnfbjbagmfpiaaGreatDoor.Dm
namespace Go.Proofs.YtlnfbjbagmfpiaaGreatDoor.Dm
theorem putR_inv {D:List Nd}{q n:Int}(h:(putR D q n).2=0):∃ p m:Nat,q=(p:Int)/\n=(m:Int)/\Right D/\0<m/\m<D.length/\p<D.length/\holds D p=true/\upM D m p=false/\putR D q n=(putM D p m,0):=by
 by_cases hc:checkM D=0
 · by_cases h1:putOk D q n
   · obtain⟨p,rfl⟩:∃ m:Nat,q=(m:Int):=⟨q.toNat,by have:=h1.1;omega⟩
     obtain⟨m,rfl⟩:∃ m:Nat,n=(m:Int):=⟨n.toNat,by have:=h1.2.2.1;omega⟩
     cases hu:upM D m p with
     | true=>rw[putR_e3 hc h1 hu]at h;exact absurd h (by decide)
     | false =>
       have h2:=h1;obtain⟨_,a2,a3,a4,a5⟩:=h1;rw[Int.toNat_natCast]at a5;exact⟨p,m,rfl,rfl,check_right.1 hc,by omega,by omega,by omega,a5,hu,putR_ok hc h2 hu⟩
   · rw[putR_e2 hc h1]at h
     exact absurd h (by decide)
 · rw[putR_e1 hc]at h
   exact absurd h hc
theorem makeR_inv {D:List Nd}{x:Nd}(h:(makeR D x).2.2=0):Right D/\mayM x=true/\x.k≠1/\D.length<300/\makeR D x=(makeM D x,(D.length:Int),0):=by
 by_cases hc:checkM D=0
 · by_cases h1:mayM x=false\/x.k=1
   · rw[make_e2 hc h1]at h
     exact absurd h (by decide)
   · have h2:mayM x=true:=by cases e:mayM x with | true=>rfl | false=>exact absurd (.inl e) h1
     have h3:x.k≠1:=fun e=>h1 (.inr e)
     by_cases h4:300<=D.length
     · rw[make_e3 hc h2 h3 h4]at h
       exact absurd h (by decide)
     · exact⟨check_right.1 hc,h2,h3,by omega,make_ok hc h2 h3 (by omega)⟩
 · rw[make_e1 hc]at h
   exact absurd h hc
def TxtN (x:Nd):Prop:=x.n.length<=1000/\x.d.length<=10000/\x.a.length<=1000/\∀ y∈x.a,y.1.length<=10000/\y.2.length<=10000
def TxtD (D:List Nd):Prop:=∀ x∈D,TxtN x
theorem Right.fit {D:List Nd}(R:Right D)(h:TxtD D):FitD D:=by
 refine⟨by have:=R.len;omega,fun x hx => ?_⟩;obtain⟨i,hi,rfl⟩:=List.getElem_of_mem hx;have h1:=h _ hx;have h2:=R.kidLen i;have h3:=R.len;rw[kid_some (List.getElem?_eq_getElem hi)]at h2;exact⟨h1.1,h1.2.1,h1.2.2.1,by omega,h1.2.2.2⟩
theorem FitD.txt {D:List Nd}(h:FitD D):TxtD D:=fun x hx=>⟨(h.2 x hx).1,(h.2 x hx).2.1,(h.2 x hx).2.2.1,(h.2 x hx).2.2.2.2⟩
theorem TxtD.put {D:List Nd}(h:TxtD D)(q n:Nat):TxtD (putM D q n):=fun x hx=>by
 unfold putM at hx;rw[List.mem_mapIdx]at hx;obtain⟨i,hi,rfl⟩:=hx;have h1:TxtN D[i]:=h _ (List.getElem_mem hi);exact h1
theorem TxtD.make {D:List Nd}(h:TxtD D){x:Nd}(hx:TxtN x):TxtD (makeM D x):=fun y hy=>by
 unfold makeM at hy;rw[List.mem_append,List.mem_singleton]at hy;rcases hy with h1 | rfl
 · exact h y h1
 · exact hx
end Go.Proofs.YtlnfbjbagmfpiaaGreatDoor.Dm
namespace Go.Proofs.YtlnfbjbagmfpiaaGreatDoor.Dm
open Go.RowKit
theorem gBig {D:List Nd}(hl:D.length<=9223372036854775807)(hk:∀ x∈D,x.a.length<=9223372036854775807/\x.c.length<=9223372036854775807):Hid (∀ W sl,DocG W sl D->Calls Tryz.prog 26 #[.agg #[sl]] W (BigR (FitT D) W)):=Lib.hid fun W sl ⟨A,K,h,_⟩=>(big_hid D hl hk).out W sl A K h
end Go.Proofs.YtlnfbjbagmfpiaaGreatDoor.Dm
namespace Go.Proofs.YtlnfbjbagmfpiaaGreatDoor.Dm
open Go.RowKit
def VX (w:World)(R:Nat)(a:Option Addr)(c:Nat)(D:List Nd):Prop:=w.heap[R]? = some (.cells #[.slice a D.length c] 24 (0,0))/\DocG w (.slice a D.length c) D
theorem VX.below {w w':World}{R:Nat}{a:Option Addr}{c:Nat}{D:List Nd}(h:VX w R a c D)(b:Below w.heap.size w w'):VX w' R a c D:=⟨(b.block _ (lt_of_block h.1)).trans h.1,h.2.below b⟩
theorem VX.g {w:World}{R:Nat}{a:Option Addr}{c:Nat}{D:List Nd}(h:VX w R a c D):DocG w (.slice a D.length c) D:=h.2
theorem VX.c0 {w:World}{R:Nat}{a:Option Addr}{c:Nat}{D:List Nd}(h:VX w R a c D):w.cell? ⟨R,0,none⟩=some (.slice a D.length c):=cell_of h.1 0
theorem region_class {P:Program} {id:Nat} {Q:Exit->Act->World->Prop} {a:Act} {w:World} {l:List Oper} (C:World->Prop) (hm:P.follows .mixedOrders=true) (hB:Region.lexB .any l.toArray=true) (hC:C w.drew)
 (h:wpQuiet P l.toArray C (fun a'=>∀ w',C w'->Q .normal a' w') l a):(Code.region id l.toArray true).wp P Q a w :=
 wp_region_quiet (C:=C) hm hB hC (by simpa using h)
theorem gOwn {D:List Nd}(hf:FitD D):Hid (∀ W sl,DocG W sl D->Calls Tryz.prog 13 #[.agg #[sl]] W fun e w'=>∃ a c,e=.returned (.agg #[.slice a D.length c])/\OwnX w' W.heap.size (.slice a D.length c) D/\Below W.heap.size W w'):=Lib.hid fun W sl ⟨A,K,h,_⟩=>((own_hid D hf).out W sl A K h).mono fun e w' ⟨sl',h1,h2,h3⟩=>by
 obtain⟨a,c,rfl⟩:=h2.form;exact⟨a,c,h1,h2,h3⟩
theorem gInts {C:List Int}(hC:C.length<=9223372036854775807):Hid (∀ W u v,IntIn W u C->IntIn W v C->Calls Tryz.prog 33 #[u,v] W fun e w'=>e=.returned (.bool true)/\Below W.heap.size W w'):=Lib.hid fun W u v h1 h2=>(U1.ints_any C C u v W h1.u1 h2.u1 hC hC).mono fun e w' ⟨he,n,hw⟩=>⟨by rw[he];unfold U1.eqL;rw[decide_eq_true rfl],by rw[hw];exact belowN (Below.refl _ _) n⟩
end Go.Proofs.YtlnfbjbagmfpiaaGreatDoor.Dm
namespace Go.Proofs.YtlnfbjbagmfpiaaGreatDoor.Dm
open Go.RowKit
theorem OwnD.setKc {w:World}{B g cap gk ck:Nat}{D:List Nd}{A K:Nat->Value}(h:OwnD w B (.slice (some ⟨g,0,none⟩) D.length cap) D A K){i:Nat}(hi:i<D.length)(hK:K i=.slice (some ⟨gk,0,none⟩) D[i].c.length ck)(m:Nat)(y:Int) :
 OwnD (w.setCell ⟨gk,m,none⟩ (.int .i64 y)) B (.slice (some ⟨g,0,none⟩) D.length cap) (D.set i { D[i]with c:=D[i].c.set m y }) A K/\Kp (fun j _=>j=gk) w (w.setCell ⟨gk,m,none⟩ (.int .i64 y))/\B<=gk/\∃ c,w.heap[gk]? = some (.cells c 3 (0,0)):=by
 have hr:=h.kd i hi;rw[hK]at hr;obtain⟨cur,hcur,hB⟩:=row_open hr;have k:Kp (fun j _=>j=gk) w (w.setCell ⟨gk,m,none⟩ (.int .i64 y)):=Kp.of_set hcur _ rfl;refine⟨⟨?_,fun j hj => ?_,fun j hj => ?_,fun j l hj hl=>h.na j l (by simpa using hj) (by simpa using hl),fun j l hj hl=>h.nk j l (by simpa using hj) (by simpa using hl)⟩,k,hB,cur,hcur⟩
 · have h1:=k.row h.row fun j hj _ e=>row_ne h.row hcur (by decide) (by rw[hj,e])
   rw[set_kinds hi (y:={ D[i]with c:=D[i].c.set m y }) ⟨rfl,rfl,rfl,rfl,rfl,rfl⟩]
   simpa using h1
 · have hj':j<D.length:=by simpa using hj
   have h1:=k.row (h.at' j hj') fun l hl _ e=>row_ne (h.at' j hj') hcur (by decide) (by rw[hl,e]);rw[get_set hj]
   by_cases e:i=j
   · subst e
     rw[if_pos rfl];exact h1
   · rw[if_neg e]
     exact h1
 · have hj':j<D.length:=by simpa using hj
   rw[get_set hj]
   by_cases e:i=j
   · subst e
     rw[if_pos rfl];have h2:=ownsRow_set hr m (.int .i64 y);rw[show(inC D[i].c).set m (.int .i64 y)=inC (D[i].c.set m y) by unfold inC;rw[List.map_set]]at h2;simp only[List.length_set];rw[hK];exact h2
   · rw[if_neg e]
     exact k.row (h.kd j hj') fun l hl _ e2=>by
      subst e2;exact h.nk j i hj' hi (fun h=>e h.symm) _ hl (by rw[hK];rfl)
def Short (E:List Nd):Prop:=E.length<=100000/\∀ x∈E,x.a.length<=100000/\x.c.length<=100000
theorem FitD.short {E:List Nd}(h:FitD E):Short E:=⟨by have:=h.1;omega,fun x hx=>by have:=h.2 x hx;unfold FitN at this;omega⟩
theorem Short.set {E:List Nd}(h:Short E){i:Nat}(y:Nd)(ha:y.a.length<=100000)(hc:y.c.length<=100000):Short (E.set i y):=⟨by rw[List.length_set];exact h.1,fun x hx=>by
 rcases List.mem_or_eq_of_mem_set hx with h1 | rfl
 · exact h.2 x h1
 · exact⟨ha,hc⟩⟩
def tB (B T:Nat)(j:Nat)(_:TypeId):Prop:=B<=j/\j<T
def SmW (w1:World)(B T R n:Nat)(sl:Value)(A K:Nat->Value)(wr:World):Prop:=(∃ E,E.length=n/\Short E/\OwnD wr B sl E A K)/\wr.heap[R]? = some (.cells #[sl] 24 (0,0))/\Kp (tB B T) w1 wr
def SmN (w1:World)(B T R n i na nk:Nat)(sl:Value)(A K:Nat->Value)(wr:World):Prop:=(∃ E,E.length=n/\Short E/\OwnD wr B sl E A K/\∃ h:i<E.length,E[i].a.length=na/\E[i].c.length=nk)/\wr.heap[R]? = some (.cells #[sl] 24 (0,0))/\Kp (tB B T) w1 wr
section
variable {w1 wr:World} {B T R n i na nk:Nat} {sl:Value} {A K:Nat->Value}
theorem SmN.w (h:SmN w1 B T R n i na nk sl A K wr):SmW w1 B T R n sl A K wr:=by
 obtain⟨⟨E,h1,h2,h3,_⟩,h4,h5⟩:=h;exact⟨⟨E,h1,h2,h3⟩,h4,h5⟩
theorem SmW.node (h:SmW w1 B T R n sl A K wr)(hi:i<n):∃ na nk,na<=100000/\nk<=100000/\SmN w1 B T R n i na nk sl A K wr:=by
 obtain⟨⟨E,h1,h2,h3⟩,h4,h5⟩:=h;have hi':i<E.length:=by omega
 exact⟨_,_,(h2.2 _ (List.getElem_mem hi')).1,(h2.2 _ (List.getElem_mem hi')).2,⟨E,h1,h2,h3,hi',rfl,rfl⟩,h4,h5⟩
theorem SmN.cells {g cap:Nat}(h:SmN w1 B T R n i na nk (.slice (some ⟨g,0,none⟩) n cap) A K wr):wr.cell? ⟨R,0,none⟩=some (.slice (some ⟨g,0,none⟩) n cap)/\wr.cell? ⟨g,i * 8+3,none⟩=some (A i)/\wr.cell? ⟨g,i * 8+5,none⟩=some (K i)/\(∃ a c,A i=.slice a na c)/\(∃ a c,K i=.slice a nk c):=by
 obtain⟨⟨E,h1,h2,h3,hi,ha,hc⟩,h4,h5⟩:=h;subst h1;obtain⟨B',off',hB',-,-,-,c3,-,c5,-⟩:=h3.doc.node hi
 cases hB'
 simp only[Nat.zero_add]at c3 c5;obtain⟨aa,ac,e1⟩:=(h3.doc.at' i hi).form;obtain⟨ka,kc,e2⟩:=(h3.doc.kd i hi).form;exact⟨cell_of h4 0,c3,c5,⟨aa,ac,by rw[e1,ha]⟩,⟨ka,kc,by rw[e2,hc]⟩⟩
theorem SmN.attr {g cap:Nat}(h:SmN w1 B T R n i na nk (.slice (some ⟨g,0,none⟩) n cap) A K wr)(hT:BlkT T n (.slice (some ⟨g,0,none⟩) n cap) A K){v:Nat}(hv:v<na)(s:List UInt8):∃ ga ca,A i=.slice (some ⟨ga,0,none⟩) na ca/\(∃ x,wr.cell? ⟨ga,v * 2+1,none⟩=some x)/\wr.frozen? ⟨ga,v * 2+1,none⟩=false/\SmN w1 B T R n i na nk (.slice (some ⟨g,0,none⟩) n cap) A K (wr.setCell ⟨ga,v * 2+1,none⟩ (strV s)):=by
 obtain⟨⟨E,h1,h2,h3,hi,ha,hc⟩,h4,h5⟩:=h;subst h1
 obtain⟨ga,ca,e⟩:∃ ga ca,A i=.slice (some ⟨ga,0,none⟩) na ca:=by
  rcases rowForms (h3.at' i hi)with ⟨_,e⟩ | ⟨g,c,e⟩
  · omega
  · exact⟨g,c,by rw[e,ha]⟩
 have hv':v<E[i].a.length:=by omega
 obtain⟨o,k,hB,c,hcur⟩:=h3.setV hi (ga:=ga) (ca:=ca) (by rw[e,ha]) hv' s;have hga:ga<T:=(hT.2 i hi).1 ga (by rw[e];rfl);have hr:=h3.at' i hi;rw[show A i=.slice (some ⟨ga,0,none⟩) E[i].a.length ca by rw[e,ha]]at hr;have hcell:=hr.cellAt (v * 2+1) (by omega);refine⟨ga,ca,e,⟨_,hcell.trans (List.getElem?_eq_getElem (by rw[atC_length];omega))⟩,open_of hcur _,⟨E.set i { E[i]with a:=E[i].a.set v (E[i].a[v].1,s) },?_,?_,?_,?_⟩,k.cells h4 (fun e2 => ?_),h5.trans (k.mono fun j _ _ _ _ e2 => ?_)⟩
 · simp
 · exact h2.set _ (by simp only[List.length_set];exact(h2.2 _ (List.getElem_mem hi)).1) (h2.2 _ (List.getElem_mem hi)).2
 · simpa using o
 · refine⟨by simpa using hi,?_⟩
   rw[get_set,if_pos rfl];simp only[List.length_set];exact⟨ha,hc⟩
 · have e3:R=ga:=e2
   rw[<- e3,h4]at hcur
   cases hcur
 · have e3:j=ga:=e2
   exact⟨by omega,by omega⟩
theorem SmN.kid {g cap:Nat}(h:SmN w1 B T R n i na nk (.slice (some ⟨g,0,none⟩) n cap) A K wr)(hT:BlkT T n (.slice (some ⟨g,0,none⟩) n cap) A K){v:Nat}(hv:v<nk)(y:Int):∃ ga ca,K i=.slice (some ⟨ga,0,none⟩) nk ca/\(∃ x,wr.cell? ⟨ga,v,none⟩=some x)/\wr.frozen? ⟨ga,v,none⟩=false/\SmN w1 B T R n i na nk (.slice (some ⟨g,0,none⟩) n cap) A K (wr.setCell ⟨ga,v,none⟩ (.int .i64 y)):=by
 obtain⟨⟨E,h1,h2,h3,hi,ha,hc⟩,h4,h5⟩:=h;subst h1
 obtain⟨ga,ca,e⟩:∃ ga ca,K i=.slice (some ⟨ga,0,none⟩) nk ca:=by
  rcases rowForms (h3.kd i hi)with ⟨_,e⟩ | ⟨g,c,e⟩
  · omega
  · exact⟨g,c,by rw[e,hc]⟩
 obtain⟨o,k,hB,c,hcur⟩:=h3.setKc hi (gk:=ga) (ck:=ca) (by rw[e,hc]) v y;have hga:ga<T:=(hT.2 i hi).2 ga (by rw[e];rfl);have hr:=h3.kd i hi;rw[show K i=.slice (some ⟨ga,0,none⟩) E[i].c.length ca by rw[e,hc]]at hr;have hcell:=hr.cellAt v (by omega);refine⟨ga,ca,e,⟨_,hcell.trans (List.getElem?_eq_getElem (by rw[inC_length];omega))⟩,open_of hcur _,⟨E.set i { E[i]with c:=E[i].c.set v y },?_,?_,?_,?_⟩,k.cells h4 (fun e2 => ?_),h5.trans (k.mono fun j _ _ _ _ e2 => ?_)⟩
 · simp
 · exact h2.set _ (h2.2 _ (List.getElem_mem hi)).1 (by simp only[List.length_set];exact(h2.2 _ (List.getElem_mem hi)).2)
 · simpa using o
 · refine⟨by simpa using hi,?_⟩
   rw[get_set,if_pos rfl];simp only[List.length_set];exact⟨ha,hc⟩
 · have e3:R=ga:=e2
   rw[<- e3,h4]at hcur
   cases hcur
 · have e3:j=ga:=e2
   exact⟨by omega,by omega⟩
end
end Go.Proofs.YtlnfbjbagmfpiaaGreatDoor.Dm
namespace Go.Proofs.YtlnfbjbagmfpiaaGreatDoor.Dm
open Go.RowKit
def VOX (w:World)(R B:Nat)(a:Option Addr)(c:Nat)(E:List Nd):Prop:=w.heap[R]? = some (.cells #[.slice a E.length c] 24 (0,0))/\∃ A K,OwnD w B (.slice a E.length c) E A K/\BlkT R E.length (.slice a E.length c) A K
section
variable {w w':World} {R B:Nat} {a:Option Addr} {c:Nat} {E:List Nd}
theorem VOX.below (h:VOX w R B a c E)(b:Below w.heap.size w w'):VOX w' R B a c E:=by
 obtain⟨h1,A,K,h2,h3⟩:=h;exact⟨(b.block _ (lt_of_block h1)).trans h1,A,K,h2.below b,h3⟩
theorem VOX.vx (h:VOX w R B a c E):VX w R a c E:=by
 obtain⟨h1,A,K,h2,h3⟩:=h;exact⟨h1,OwnX.g ⟨A,K,h2⟩⟩
theorem VOX.g (h:VOX w R B a c E):DocG w (.slice a E.length c) E:=h.vx.g
theorem VOX.c0 (h:VOX w R B a c E):w.cell? ⟨R,0,none⟩=some (.slice a E.length c):=h.vx.c0
end
def Bel (W w:World):Prop:=Below W.heap.size W w
theorem Bel.b {W w:World}(h:Bel W w):Below W.heap.size W w:=h
theorem Bel.below {W w w':World}(h:Bel W w)(b:Below w.heap.size w w'):Bel W w':=h.b.trans (b.mono h.b.size)
section
variable {D:List Nd} (hf:FitD D)
include hf
end
end Go.Proofs.YtlnfbjbagmfpiaaGreatDoor.Dm
