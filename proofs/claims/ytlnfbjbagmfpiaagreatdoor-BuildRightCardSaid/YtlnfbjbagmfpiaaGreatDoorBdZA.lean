/- A node that is laid: made, and put last into another one. Tokens as nodes: what is laid, which nodes are open, what is told. Tokens as nodes: what follows (texts, order, depth, what stays). Tokens as nodes: void elements, depth; what was there stays. Nodes as a text. Nodes as a text: how long it is. -/
import Derived.Test.YtlnfbjbagmfpiaaGreatDoorLwZA
import Derived.Test.YtlnfbjbagmfpiaaGreatDoorTkZK
namespace Go.Proofs.YtlnfbjbagmfpiaaGreatDoor.Dm
def laidM (d:List Nd)(q:Nat)(x:Nd):List Nd:=putM (makeM d x) q d.length
theorem lay_len (d:List Nd)(q:Nat)(x:Nd):(laidM d q x).length=d.length+1:=by unfold laidM;rw[put_len,make_len]
section
variable {d:List Nd} {q:Nat} {x:Nd}
theorem Right.kidLt (R:Right d){i:Nat}{y:Int}(h:y∈kid d i):y≠(d.length:Int):=by
 obtain⟨t,h1,h2,_⟩:=kid_pos R h;omega
theorem lay_get (R:Right d){i:Nat}(h:i<d.length):(laidM d q x)[i]? = d[i]?.map fun z=>{ z with c:=z.c++if i=q then [(d.length:Int)] else [] }:=by
 unfold laidM;rw[put_get,make_get h];rw[List.getElem?_eq_getElem h];simp only[Option.map_some,Option.some.injEq];have hk:noN d.length d[i].c=d[i].c:=noN_none fun hm=>R.kidLt (i:=i) (y:=(d.length:Int)) (by rw[kid_some (List.getElem?_eq_getElem h)];exact hm) rfl;rw[if_neg (by omega),hk]
theorem lay_last (hq:q<d.length):(laidM d q x)[d.length]? = some { x with p:=(q:Int),c:=[] }:=by
 unfold laidM;rw[put_get,make_last];simp[noN,show ¬ d.length=q by omega]
theorem lay_kid (R:Right d){i:Nat}(h:i<d.length):kid (laidM d q x) i=kid d i++if i=q then [(d.length:Int)] else []:=by
 rw[kid_some (x:={ d[i]with c:=d[i].c++if i=q then [(d.length:Int)] else [] }) (by rw[lay_get R h,List.getElem?_eq_getElem h];rfl),kid_some (List.getElem?_eq_getElem h)]
theorem lay_kid_last (hq:q<d.length):kid (laidM d q x) d.length=[]:=kid_some (lay_last hq)
theorem lay_par (R:Right d){i:Nat}(h:i<d.length):par (laidM d q x) i=par d i:=by
 rw[par_some (x:={ d[i]with c:=d[i].c++if i=q then [(d.length:Int)] else [] }) (by rw[lay_get R h,List.getElem?_eq_getElem h];rfl),par_some (List.getElem?_eq_getElem h)]
theorem lay_par_last (hq:q<d.length):par (laidM d q x) d.length=(q:Int):=par_some (lay_last hq)
theorem lay_holds (R:Right d){i:Nat}(h:i<d.length):holds (laidM d q x) i=holds d i:=by
 rw[holds_some (x:={ d[i]with c:=d[i].c++if i=q then [(d.length:Int)] else [] }) (by rw[lay_get R h,List.getElem?_eq_getElem h];rfl),holds_some (List.getElem?_eq_getElem h)];rfl
theorem lay_up (R:Right d)(hx:mayM { x with p := -1,c:=[] }=true)(hk:x.k≠1)(hl:d.length<300)(hq:q<d.length):upM (makeM d x) d.length q=false:=by
 have RE:=R.make hx hk hl
 cases h:upM (makeM d x) d.length q with
 | false=>rfl
 | true =>
   have h1:=(mem_down RE d.length (by rw[make_len];omega) q).2 ⟨by rw[make_len];omega,h⟩;rw[downM_eq RE (by rw[make_len];omega),make_kid,kid_none (Nat.le_refl _)]at h1;simp at h1;omega
theorem Right.lay (R:Right d)(hx:mayM { x with p := -1,c:=[] }=true)(hk:x.k≠1)(hl:d.length<300)(hq:q<d.length)(hh:holds d q=true):Right (laidM d q x) :=
 (R.make hx hk hl).put (by omega) (by rw[make_len];omega) (by rw[make_len];omega) (by rw[make_holds hq];exact hh) (lay_up R hx hk hl hq)
theorem lay_data (R:Right d){i:Nat}(h:i<d.length):dataM (laidM d q x) i=dataM d i:=by
 unfold dataM;rw[lay_get R h,List.getElem?_eq_getElem h];rfl
theorem lay_data_last (hq:q<d.length):dataM (laidM d q x) d.length=if x.k=3 then x.d else []:=by
 unfold dataM;rw[lay_last hq]
theorem lay_off (R:Right d)(RL:Right (laidM d q x)){y:Nat}(hy:y<d.length)(hu:upM d y q=false):downM (laidM d q x) y=downM d y:=by
 obtain⟨k,hk⟩:=R.dep y hy;obtain⟨m,hm⟩:=RL.dep y (by rw[lay_len];omega);unfold downM;rw[lay_len,down_fuel RL (d.length+1) d.length m y hm (by rw[lay_len];omega) (by rw[lay_len];omega)];refine downF_same R _ k y hk fun z hz hzl => ?_;rw[lay_kid R hzl,if_neg (fun e=>by rw[e,hu]at hz;cases hz),List.append_nil]
end
inductive RP (d:List Nd):Nat->Nat->Prop where
 | here (a:Nat):RP d a a
 | step {a b t:Nat} {ks:List Int}:kid d a=ks++[(b:Int)]->RP d b t->RP d a t
section
variable {d:List Nd} {x:Nd}
theorem RP.up (R:Right d){a t:Nat}(h:RP d a t)(ht:t<d.length):upM d a t=true:=by
 induction h with
 | here=>exact upM_self _ _
 | @step a b t ks hk hr ih =>
   have h1:=R.up (q:=a) (i:=b) (by rw[hk];simp);refine up_trans R ht (ih ht) ?_;rw[upM_eq R h1.2.2.1,h1.1];rw[Int.toNat_natCast,upM_self];simp
theorem RP.trans {a b t:Nat}(h:RP d a b)(k:RP d b t):RP d a t:=by
 induction h with
 | here=>exact k
 | step hk _ ih=>exact .step hk (ih k)
theorem flat_last {α β:Type}(f:α->List β)(l:List α)(y:α):(l++[y]).flatMap f=l.flatMap f++f y:=by simp
theorem lay_down (R:Right d){a t:Nat}(RL:Right (laidM d t x))(h:RP d a t)(ht:t<d.length):downM (laidM d t x) a=downM d a++[d.length]:=by
 induction h with
 | here a =>
   rw[downM_eq RL (by rw[lay_len];omega),downM_eq R ht,lay_kid R ht,if_pos rfl,flat_last,List.cons_append,Int.toNat_natCast,downM_eq RL (i:=d.length) (by rw[lay_len];omega),lay_kid_last ht];refine congrArg _ (congrArg (· ++ _) (flatMap_same fun y hy => ?_));obtain⟨z,rfl,hz,hp⟩:=kid_pos R hy;rw[Int.toNat_natCast];exact lay_off R RL hz (up_anti R hz hp)
 | @step a b t ks hk hr ih =>
   have hb:=R.up (q:=a) (i:=b) (by rw[hk];simp)
   have hat:a≠t:=fun e=>by
    have h1:=hr.up R ht;rw[<- e,up_anti R hb.2.2.1 hb.1]at h1
    cases h1
   have ha:a<d.length:=hb.2.2.2.1;rw[downM_eq RL (by rw[lay_len];omega),downM_eq R ha,lay_kid R ha,if_neg hat,List.append_nil,hk,flat_last,flat_last,Int.toNat_natCast,ih RL ht,List.cons_append,List.append_assoc];refine congrArg _ (congrArg (· ++ _) (flatMap_same fun y hy => ?_));obtain⟨z,rfl,hz,hp⟩:=kid_pos R (i:=a) (y:=y) (by rw[hk];simp[hy]);rw[Int.toNat_natCast];refine lay_off R RL hz ?_
   cases hu:upM d z t with
   | false=>rfl
   | true =>
     have hzb:z≠b:=fun e=>by
      have h1:=hb.2.2.2.2;rw[hk,List.count_append]at h1;have h2:0<ks.count (b:Int):=List.count_pos_iff.2 (by rw[<- e];exact hy);have h3:([(b:Int)]:List Int).count (b:Int)=1:=by simp
      omega
     have one:∀ u v:Nat,u<d.length->v<d.length->par d u=(a:Int)->par d v=(a:Int)->u≠v->upM d u v=true->False:=fun u v hu hv pu pv huv h=>by
      rw[upM_eq R hv,pv,Int.toNat_natCast,up_anti R hu pu]at h;simp at h;omega
     rcases up_two R t ht hu (hr.up R ht)with h1 | h1
     · exact(one z b hz hb.2.2.1 hp hb.1 hzb h1).elim
     · exact(one b z hb.2.2.1 hz hb.1 hp (fun e=>hzb e.symm) h1).elim
end
end Go.Proofs.YtlnfbjbagmfpiaaGreatDoor.Dm
namespace Go.Proofs.YtlnfbjbagmfpiaaGreatDoor.Dm
def voidM (x:List UInt8):Bool:=decide (x=[98,114]) || decide (x=[104,114]) || decide (x=[105,109,103]) || decide (x=[105,110,112,117,116]) || decide (x=[108,105,110,107]) || decide (x=[109,101,116,97])
structure Wk where
 D:List Nd
 o:List Nat
 f:List Fl
 b:Int
def topW (w:Wk):Nat:=w.o.headD 0
noncomputable def layW (w:Wk) (x:Nd):Wk × Nat :=
 if w.b≠0 then (w,0)
 else if (makeR w.D x).2.2≠0 then ({ w with b:=(makeR w.D x).2.2 },0)
 else ({ w with D:=(putR (makeR w.D x).1 (topW w:Int) (makeR w.D x).2.1).1 },(makeR w.D x).2.1.toNat)
def textNd (d:List UInt8):Nd:=⟨3,[],d,[],0,[],false,false⟩
def noteN (d:List UInt8):Nd:=⟨4,[],d,[],0,[],false,false⟩
def elemN (p:Bool)(n:List UInt8)(a:List (List UInt8 × List UInt8)):Nd:=⟨2,n,[],a,0,[],p,false⟩
def nameN (d:List Nd)(i:Nat):List UInt8:=match d[i]? with | some x=>x.n | none=>[]
def placeW (w:Wk)(nm:List UInt8):Nat:=w.o.dropLast.findIdx fun i=>nameN w.D i==nm
def endW (w:Wk)(nm:List UInt8)(at_:Nat):Wk :=
 if placeW w nm<w.o.dropLast.length then { w with o:=w.o.drop (placeW w nm+1),f:=if 0<placeW w nm then w.f++[(162,at_)] else w.f }
 else { w with f:=w.f++[(160,at_)] }
noncomputable def tokW (p:Bool) (w:Wk) (t:Tk) (at_:Nat):Wk :=
 if t.k=1 then (layW w (textNd t.d)).1
 else if t.k=4 then (layW w (noteN t.d)).1
 else if t.k=2 then
  if (layW w (elemN p t.n t.a)).1.b≠0\/t.c=true\/voidM t.n=true then (layW w (elemN p t.n t.a)).1
  else if 30<=w.o.length then { (layW w (elemN p t.n t.a)).1 with f:=w.f++[(161,at_)] }
  else { (layW w (elemN p t.n t.a)).1 with o:=(layW w (elemN p t.n t.a)).2 :: w.o }
 else if t.k=3 then endW w t.n at_
 else w
noncomputable def runW (p:Bool):Wk->List Tk->Nat->Wk
 | w,[],_=>w
 | w,t :: l,n=>if w.b≠0 then w else runW p (tokW p w t n) l (n+1)
noncomputable def intoM (d:List Nd) (n:Int) (l:List Tk) (p:Bool):List Nd × List Fl × Int :=
 if checkM d≠0 then ([],[],checkM d)
 else if ¬ (0<=n/\n<(d.length:Int)/\holds d n.toNat=true) then ([],[],170)
 else if (runW p ⟨d,[n.toNat],[],0⟩ l 0).b≠0 then ([],[],(runW p ⟨d,[n.toNat],[],0⟩ l 0).b)
 else ((runW p ⟨d,[n.toNat],[],0⟩ l 0).D,(runW p ⟨d,[n.toNat],[],0⟩ l 0).f++if 1<(runW p ⟨d,[n.toNat],[],0⟩ l 0).o.length then [(162,l.length)] else [],0)
noncomputable def pageM (l:List Tk):List Nd × List Fl × Int:=intoM newM 0 l true
def Chn (d:List Nd):List Nat->Prop
 | []=>False
 | [a]=>a<d.length/\holds d a=true
 | b :: a :: r=>b<d.length/\holds d b=true/\(∃ ks,kid d a=ks++[(b:Int)])/\Chn d (a :: r)
theorem Chn.top {d:List Nd}{b:Nat}{r:List Nat}(h:Chn d (b :: r)):b<d.length/\holds d b=true:=by
 cases r with
 | nil=>exact h
 | cons a r=>exact⟨h.1,h.2.1⟩
theorem Chn.tail {d:List Nd}{b a:Nat}{r:List Nat}(h:Chn d (b :: a :: r)):Chn d (a :: r):=h.2.2.2
theorem Chn.rp {d:List Nd}:∀ {r:List Nat} {b:Nat},Chn d (b :: r)->∀ a∈b :: r,RP d a b
 | [],b,_,a,ha=>by
   have:a=b:=by simpa using ha
   rw[this];exact .here b
 | c :: r,b,h,a,ha=>by
   rcases List.mem_cons.1 ha with rfl | ha
   · exact .here a
   · obtain⟨ks,hk⟩:=h.2.2.1
     exact(Chn.rp h.tail a ha).trans (.step hk (.here b))
theorem Chn.lt {d:List Nd}:∀ {r:List Nat} {b:Nat},Chn d (b :: r)->∀ a∈b :: r,a<d.length/\holds d a=true
 | [],b,h,a,ha=>by
   have:a=b:=by simpa using ha
   rw[this];exact h
 | c :: r,b,h,a,ha=>by
   rcases List.mem_cons.1 ha with rfl | ha
   · exact h.top
   · exact Chn.lt h.tail a ha
theorem Chn.ne {d:List Nd}(R:Right d){b:Nat}{r:List Nat}(h:Chn d (b :: r)):b ∉ r:=fun hm=>by
 cases r with
 | nil=>cases hm
 | cons a r =>
   obtain⟨ks,hk⟩:=h.2.2.1;have hb:=R.up (q:=a) (i:=b) (by rw[hk];simp);have h1:=(h.tail.rp b hm).up R hb.2.2.2.1;rw[up_anti R hb.2.2.1 hb.1]at h1
   cases h1
theorem Chn.lay {d:List Nd}(R:Right d){x:Nd}{t:Nat}:∀ {r:List Nat},(∀ a∈r,a≠t)->∀ {b:Nat},Chn d (b :: r)->Chn (laidM d t x) (b :: r)
 | [],_,b,h=>⟨by rw[lay_len];have:=h.1;omega,by rw[lay_holds R h.1];exact h.2⟩
 | a :: r,hne,b,h=>by
   obtain⟨ks,hk⟩:=h.2.2.1;have ha:=h.tail.top;refine⟨by rw[lay_len];have:=h.1;omega,by rw[lay_holds R h.1];exact h.2.1,⟨ks,?_⟩,Chn.lay R (fun y hy=>hne y (List.mem_cons_of_mem _ hy)) h.tail⟩;rw[lay_kid R ha.1,if_neg (hne a (List.mem_cons_self ..)),List.append_nil,hk]
theorem Chn.push {d:List Nd}(R:Right d){x:Nd}{t:Nat}{r:List Nat}(h:Chn d (t :: r))(hx:holdM x=true):Chn (laidM d t x) (d.length :: t :: r):=by
 have ht:=h.top;refine⟨by rw[lay_len];omega,by rw[holds_some (lay_last ht.1)];exact hx,⟨kid d t,by rw[lay_kid R ht.1,if_pos rfl]⟩,h.lay R (fun a ha e => ?_)⟩;subst e;exact h.ne R ha
theorem Chn.drop {d:List Nd}:∀ {o:List Nat} (k:Nat),Chn d o->k<o.length->Chn d (o.drop k)
 | o,0,h,_=>h
 | [_],k+1,_,hk=>by simp at hk
 | b :: a :: r,k+1,h,hk=>Chn.drop k h.tail (by simpa using hk)
 | [],_,h,_=>h.elim
theorem lay_ok {w:Wk}{x:Nd}{t:Nat}{r:List Nat}(ho:w.o=t :: r)(R:Right w.D)(hc:Chn w.D (t :: r))(hb:w.b=0)(h:(layW w x).1.b=0):layW w x=({ w with D:=laidM w.D t x },w.D.length)/\mayM x=true/\x.k≠1/\w.D.length<300/\Right (laidM w.D t x):=by
 have ht:=hc.top
 have hm:(makeR w.D x).2.2=0:=by
  unfold layW at h;rw[if_neg (by simp[hb])]at h
  by_cases e:(makeR w.D x).2.2=0
  · exact e
  · rw[if_pos e]at h
    exact absurd h e
 obtain⟨_,h1,h2,h3,h4⟩:=makeR_inv hm;have hu:=lay_up R (x:=x) (q:=t) h1 h2 h3 ht.1;have RL:Right (laidM w.D t x):=R.lay h1 h2 h3 ht.1 ht.2;refine⟨?_,h1,h2,h3,RL⟩;unfold layW;rw[if_neg (by simp[hb]),if_neg (by simp[hm]),h4];have htp:topW w=t:=by unfold topW;rw[ho];rfl
 have hp:=putR_ok (D:=makeM w.D x) (q:=t) (n:=w.D.length) (check_right.2 (R.make h1 h2 h3)) ⟨by omega,by rw[make_len];omega,by have:=R.one;omega,by rw[make_len];omega,by rw[Int.toNat_natCast,make_holds ht.1];exact ht.2⟩ hu;simp only[htp,hp];rfl
structure Snd (n:Nat) (w:Wk):Prop where
 R:Right w.D
 c:Chn w.D w.o
 l:w.o.getLast? = some n
 b:w.b=0
 d:w.o.length<=30
theorem Snd.top {n:Nat}{w:Wk}(h:Snd n w):∃ t r,w.o=t :: r:=by
 cases e:w.o with
 | nil=>have:=h.c;rw[e]at this;exact this.elim
 | cons t r=>exact⟨t,r,rfl⟩
theorem drop_last {α:Type}{o:List α}{n:α}(h:o.getLast? = some n){k:Nat}(hk:k<o.length):(o.drop k).getLast? = some n:=by
 rw[List.getLast?_drop,if_neg (by omega)];exact h
theorem Snd.end {n:Nat}{w:Wk}(h:Snd n w)(nm:List UInt8)(at_:Nat):Snd n (endW w nm at_):=by
 unfold endW;split
 · next hp =>
   have hl:placeW w nm+1<w.o.length:=by rw[List.length_dropLast]at hp;omega
   exact⟨h.R,h.c.drop _ hl,drop_last h.l hl,h.b,by have:=h.d;rw[List.length_drop];omega⟩
 · exact⟨h.R,h.c,h.l,h.b,h.d⟩
theorem Snd.lay {n:Nat}{w:Wk}(h:Snd n w){x:Nd}{t:Nat}{r:List Nat}(ho:w.o=t :: r)(hb:(layW w x).1.b=0):Snd n (layW w x).1:=by
 have hc:=h.c;rw[ho]at hc;obtain⟨h1,h2,h3,h4,h5⟩:=lay_ok ho h.R hc h.b hb;rw[h1];refine⟨h5,?_,h.l,h.b,h.d⟩;show Chn (laidM w.D t x) w.o;rw[ho]
 exact hc.lay h.R fun a ha e=>by
  subst e;exact hc.ne h.R ha
theorem Snd.push {n:Nat}{w:Wk}(h:Snd n w){x:Nd}{t:Nat}{r:List Nat}(ho:w.o=t :: r)(hb:(layW w x).1.b=0)(hx:holdM x=true)(hd:¬ 30<=w.o.length):Snd n { (layW w x).1 with o:=(layW w x).2 :: w.o }:=by
 have hc:=h.c;rw[ho]at hc;obtain⟨h1,h2,h3,h4,h5⟩:=lay_ok ho h.R hc h.b hb;rw[h1];refine⟨h5,?_,?_,h.b,by simp;omega⟩
 · show Chn (laidM w.D t x) (w.D.length :: w.o)
   rw[ho];exact hc.push h.R hx
 · show(w.D.length :: w.o).getLast? = some n
   rw[ho,List.getLast?_cons_cons,<- ho];exact h.l
theorem Snd.tok {n:Nat}{w:Wk}(h:Snd n w)(p:Bool)(t:Tk)(at_:Nat)(hb:(tokW p w t at_).b=0):Snd n (tokW p w t at_):=by
 obtain⟨tp,r,ho⟩:=h.top;unfold tokW at hb ⊢
 by_cases h1:t.k=1
 · rw[if_pos h1]at hb ⊢
   exact h.lay ho hb
 rw[if_neg h1]at hb ⊢
 by_cases h4:t.k=4
 · rw[if_pos h4]at hb ⊢
   exact h.lay ho hb
 rw[if_neg h4]at hb ⊢
 by_cases h2:t.k=2
 · rw[if_pos h2]at hb ⊢
   by_cases h5:(layW w (elemN p t.n t.a)).1.b≠0\/t.c=true\/voidM t.n=true
   · rw[if_pos h5]at hb ⊢
     exact h.lay ho hb
   · rw[if_neg h5]at hb ⊢
     have hb2:(layW w (elemN p t.n t.a)).1.b=0:=Classical.not_not.1 fun e=>h5 (.inl e)
     by_cases h6:30<=w.o.length
     · rw[if_pos h6]
       have:=h.lay ho hb2;exact⟨this.R,this.c,this.l,this.b,this.d⟩
     · rw[if_neg h6]
       exact h.push ho hb2 rfl h6
 rw[if_neg h2]at hb ⊢
 by_cases h3:t.k=3
 · rw[if_pos h3]
   exact h.end t.n at_
 · rw[if_neg h3]
   exact h
theorem run_bad (p:Bool):∀(l:List Tk) (w:Wk) (n:Nat),w.b≠0->runW p w l n=w
 | [],_,_,_=>rfl
 | t :: l,w,n,h=>by unfold runW;rw[if_pos h]
theorem run_ind {n:Nat}(p:Bool)(P:Wk->Nat->Prop)(K:List Tk)(hs:∀ w i t,K[i]? = some t->Snd n w->P w i->(tokW p w t i).b=0->P (tokW p w t i) (i+1)):∀(l:List Tk) (w:Wk) (i:Nat),(∀ j,l[j]? = K[i+j]?)->Snd n w->P w i->(runW p w l i).b=0->Snd n (runW p w l i)/\P (runW p w l i) (i+l.length)
 | [],w,i,_,h,hp,_=>⟨h,hp⟩
 | t :: l,w,i,hK,h,hp,hb=>by
   have hr:runW p w (t :: l) i=runW p (tokW p w t i) l (i+1):=by
    rw[runW,if_neg (by simp[h.b])]
   rw[hr]at hb ⊢;have hb2:(tokW p w t i).b=0:=Classical.not_not.1 fun e=>by rw[run_bad p l _ _ e]at hb;exact e hb
   have ht:K[i]? = some t:=by rw[<- Nat.add_zero i,<- hK 0];rfl
   have:=run_ind p P K hs l (tokW p w t i) (i+1) (fun j=>by rw[Nat.add_assoc,Nat.add_comm 1 j,<- hK (j+1)];rfl) (h.tok p t i hb2) (hs w i t ht h hp hb2) hb;rw[List.length_cons,Nat.add_comm l.length 1,<- Nat.add_assoc];exact this
end Go.Proofs.YtlnfbjbagmfpiaaGreatDoor.Dm
namespace Go.Proofs.YtlnfbjbagmfpiaaGreatDoor.Dm
def laysK (t:Tk):Bool:=decide (t.k=1) || decide (t.k=4) || decide (t.k=2)
def nodeK (p:Bool)(t:Tk):Nd:=if t.k=1 then textNd t.d else if t.k=4 then noteN t.d else elemN p t.n t.a
theorem tok_cases {n:Nat}{w:Wk}(h:Snd n w)(p:Bool)(t:Tk)(i:Nat)(hb:(tokW p w t i).b=0){tp:Nat}{r:List Nat}(ho:w.o=tp :: r) :
 if laysK t then (tokW p w t i).D=laidM w.D tp (nodeK p t)/\mayM (nodeK p t)=true/\w.D.length<300/\Right (laidM w.D tp (nodeK p t))/\((tokW p w t i).o=w.o\/((tokW p w t i).o=w.D.length :: w.o/\t.k=2/\voidM t.n=false/\w.o.length<30))
 else (tokW p w t i).D=w.D/\∃ k,k<w.o.length/\(tokW p w t i).o=w.o.drop k:=by
 have hc:=h.c;rw[ho]at hc
 have key:∀ x:Nd,(layW w x).1.b=0->(layW w x).1.D=laidM w.D tp x/\(layW w x).1.o=w.o/\(layW w x).2=w.D.length/\mayM x=true/\w.D.length<300/\Right (laidM w.D tp x):=fun x hx=>by
  obtain⟨h1,h2,h3,h4,h5⟩:=lay_ok ho h.R hc h.b hx;rw[h1];exact⟨rfl,rfl,rfl,h2,h4,h5⟩
 by_cases h1:t.k=1
 · have e:laysK t=true:=by simp[laysK,h1]
   rw[if_pos e];have hn:nodeK p t=textNd t.d:=by unfold nodeK;rw[if_pos h1]
   unfold tokW at hb ⊢;rw[if_pos h1]at hb ⊢;obtain⟨a1,a2,_,a4,a5,a6⟩:=key _ hb;rw[hn];exact⟨a1,a4,a5,a6,.inl a2⟩
 by_cases h4:t.k=4
 · have e:laysK t=true:=by simp[laysK,h4]
   rw[if_pos e];have hn:nodeK p t=noteN t.d:=by unfold nodeK;rw[if_neg h1,if_pos h4]
   unfold tokW at hb ⊢;rw[if_neg h1,if_pos h4]at hb ⊢;obtain⟨a1,a2,_,a4,a5,a6⟩:=key _ hb;rw[hn];exact⟨a1,a4,a5,a6,.inl a2⟩
 by_cases h2:t.k=2
 · have e:laysK t=true:=by simp[laysK,h2]
   rw[if_pos e];have hn:nodeK p t=elemN p t.n t.a:=by unfold nodeK;rw[if_neg h1,if_neg h4]
   unfold tokW at hb ⊢;rw[if_neg h1,if_neg h4,if_pos h2]at hb ⊢;rw[hn]
   by_cases h5:(layW w (elemN p t.n t.a)).1.b≠0\/t.c=true\/voidM t.n=true
   · rw[if_pos h5]at hb ⊢
     obtain⟨a1,a2,_,a4,a5,a6⟩:=key _ hb;exact⟨a1,a4,a5,a6,.inl a2⟩
   · rw[if_neg h5]at hb ⊢
     obtain⟨a1,a2,a3,a4,a5,a6⟩:=key _ (Classical.not_not.1 fun e=>h5 (.inl e))
     by_cases h6:30<=w.o.length
     · rw[if_pos h6]
       exact⟨a1,a4,a5,a6,.inl a2⟩
     · rw[if_neg h6]
       refine⟨a1,a4,a5,a6,.inr ⟨?_,h2,?_,by omega⟩⟩
       · show(layW w (elemN p t.n t.a)).2 :: w.o=_
         rw[a3]
       · cases e:voidM t.n with
         | false=>rfl
         | true=>exact absurd (.inr (.inr e)) h5
 have e:laysK t=false:=by simp[laysK,h1,h2,h4]
 rw[if_neg (by simp[e])];unfold tokW;rw[if_neg h1,if_neg h4,if_neg h2]
 by_cases h3:t.k=3
 · rw[if_pos h3]
   unfold endW;split
   · next hp=>exact⟨rfl,placeW w t.n+1,by rw[List.length_dropLast]at hp;omega,rfl⟩
   · exact⟨rfl,0,by rw[ho];simp,rfl⟩
 · rw[if_neg h3]
   exact⟨rfl,0,by rw[ho];simp,rfl⟩
theorem Snd.mem {n:Nat}{w:Wk}(h:Snd n w):n∈w.o:=List.mem_of_getLast? h.l
theorem Snd.nlt {n:Nat}{w:Wk}(h:Snd n w):n<w.D.length:=by
 obtain⟨t,r,ho⟩:=h.top;have hc:=h.c;rw[ho]at hc;exact(hc.lt n (by rw[<- ho];exact h.mem)).1
theorem Snd.down {n:Nat}{w:Wk}(h:Snd n w){tp:Nat}{r:List Nat}(ho:w.o=tp :: r){x:Nd}(RL:Right (laidM w.D tp x)):downM (laidM w.D tp x) n=downM w.D n++[w.D.length]:=by
 have hc:=h.c;rw[ho]at hc;exact lay_down h.R RL (hc.rp n (by rw[<- ho];exact h.mem)) hc.top.1
def textB (d:List Nd)(i:Nat):List UInt8:=(downM d i).flatMap (dataM d)
theorem flatMap_old {n:Nat}{w:Wk}(h:Snd n w){tp:Nat}{x:Nd}:(downM w.D n).flatMap (dataM (laidM w.D tp x))=textB w.D n:=by
 unfold textB;exact flatMap_same fun y hy=>lay_data h.R (down_lt h.R h.nlt hy)
def wordsK (K:List Tk):List UInt8:=K.flatMap fun t=>if t.k=1 then t.d else []
theorem take_more {K:List Tk}{i:Nat}{t:Tk}(h:K[i]? = some t):K.take (i+1)=K.take i++[t]:=by
 rw[List.take_add_one,h];rfl
theorem step_text {n:Nat}(p:Bool)(K:List Tk)(T0:List UInt8):∀ w i t,K[i]? = some t->Snd n w->textB w.D n=T0++wordsK (K.take i)->(tokW p w t i).b=0->textB (tokW p w t i).D n=T0++wordsK (K.take (i+1)):=fun w i t ht h hp hb=>by
 obtain⟨tp,r,ho⟩:=h.top;have hc:=h.c;rw[ho]at hc;have hk:=tok_cases h p t i hb ho;rw[take_more ht];unfold wordsK;rw[flat_last]
 by_cases e:laysK t=true
 · rw[if_pos e]at hk
   rw[hk.1];unfold textB;rw[h.down ho hk.2.2.2.1,flat_last,flatMap_old h,lay_data_last hc.top.1,hp,List.append_assoc];refine congrArg _ (congrArg _ ?_);unfold nodeK
   by_cases h1:t.k=1
   · rw[if_pos h1,if_pos h1]
     rfl
   · rw[if_neg h1,if_neg h1]
     split
     · rfl
     · rfl
 · rw[if_neg e]at hk
   rw[hk.1,hp];have h1:t.k≠1:=fun h1=>e (by simp[laysK,h1]);rw[if_neg h1,List.append_nil];rfl
def cntK (K:List Tk)(i:Nat):Nat:=((K.take i).filter laysK).length
theorem cnt_more {K:List Tk}{i:Nat}{t:Tk}(h:K[i]? = some t):cntK K (i+1)=cntK K i+if laysK t then 1 else 0:=by
 unfold cntK;rw[take_more h,List.filter_append,List.length_append]
 cases e:laysK t<;>simp[e]
theorem lay_name {d:List Nd}(R:Right d){q:Nat}{x:Nd}{i:Nat}(h:i<d.length):nameN (laidM d q x) i=nameN d i:=by
 unfold nameN;rw[lay_get R h,List.getElem?_eq_getElem h];rfl
theorem lay_name_last {d:List Nd}{q:Nat}{x:Nd}(hq:q<d.length):nameN (laidM d q x) d.length=x.n:=by
 unfold nameN;rw[lay_last hq]
def Ord (K:List Tk)(w:Wk)(i:Nat):Prop:=downM w.D 0=List.range w.D.length/\w.D.length=1+cntK K i/\∀ j t,j<i->K[j]? = some t->t.k=2->nameN w.D (1+cntK K j)=t.n
theorem cnt_mono (K:List Tk){i j:Nat}(h:i<=j):cntK K i<=cntK K j:=by
 unfold cntK;exact((((List.take_prefix_take_left h).sublist).filter _)).length_le
theorem step_ord (p:Bool)(K:List Tk):∀ w i t,K[i]? = some t->Snd 0 w->Ord K w i->(tokW p w t i).b=0->Ord K (tokW p w t i) (i+1):=fun w i t ht h hp hb=>by
 obtain⟨tp,r,ho⟩:=h.top;have hc:=h.c;rw[ho]at hc;have hk:=tok_cases h p t i hb ho;obtain⟨p1,p2,p3⟩:=hp;unfold Ord;rw[cnt_more ht]
 by_cases e:laysK t=true
 · rw[if_pos e]at hk ⊢
   rw[hk.1,lay_len,h.down ho hk.2.2.2.1,p1,List.range_succ];refine⟨rfl,by omega,fun j u hj hu hu2 => ?_⟩
   by_cases hji:j=i
   · subst hji
     rw[ht]at hu
     cases hu
     rw[<- p2,lay_name_last hc.top.1];unfold nodeK;rw[if_neg (by omega),if_neg (by omega)];rfl
   · have hlt:1+cntK K j<w.D.length:=by
      have h1:=cnt_more hu;have h2:laysK u=true:=by simp[laysK,hu2]
      rw[if_pos h2]at h1;have h3:=cnt_mono K (i:=j+1) (j:=i) (by omega);omega
     rw[lay_name h.R hlt];exact p3 j u (by omega) hu hu2
 · rw[if_neg e]at hk ⊢
   rw[hk.1];refine⟨p1,by omega,fun j u hj hu hu2 => ?_⟩
   by_cases hji:j=i
   · subst hji
     rw[ht]at hu
     cases hu
     exact absurd (by simp[laysK,hu2]) e
   · exact p3 j u (by omega) hu hu2
end Go.Proofs.YtlnfbjbagmfpiaaGreatDoor.Dm
namespace Go.Proofs.YtlnfbjbagmfpiaaGreatDoor.Dm
theorem lay_dep {d:List Nd}(R:Right d){q:Nat}{x:Nd}:∀ {k i:Nat},DepP d k i->DepP (laidM d q x) k i
 | 0,i,h=>⟨by rw[lay_len];have:=h.1;omega,by rw[lay_par R h.1];exact h.2⟩
 | k+1,i,h=>by
   obtain⟨h1,r,h2,h3⟩:=h;exact⟨by rw[lay_len];omega,r,by rw[lay_par R h1];exact h2,lay_dep R h3⟩
theorem lay_dep_last {d:List Nd}(R:Right d){q k:Nat}{x:Nd}(h:DepP d k q):DepP (laidM d q x) (k+1) d.length:=⟨by rw[lay_len];omega,q,lay_par_last h.lt,lay_dep R h⟩
def Dps (d:List Nd):List Nat->Prop
 | []=>True
 | a :: r=>DepP d r.length a/\Dps d r
theorem Dps.lay {d:List Nd}(R:Right d){q:Nat}{x:Nd}:∀ {o:List Nat},Dps d o->Dps (laidM d q x) o
 | [],_=>trivial
 | _ :: _,h=>⟨lay_dep R h.1,h.2.lay R⟩
theorem Dps.drop {d:List Nd}:∀ {o:List Nat} (k:Nat),Dps d o->Dps d (o.drop k)
 | _,0,h=>h
 | [],_+1,_=>trivial
 | _ :: _,k+1,h=>Dps.drop k h.2
structure Vds (w:Wk):Prop where
 v:∀ i x,i≠0->w.D[i]? = some x->x.c≠[]->x.k=2/\voidM x.n=false
 o:∀ a∈w.o,a=0\/∃ x,w.D[a]? = some x/\x.k=2/\voidM x.n=false
 p:Dps w.D w.o
 d:∀ i,i<w.D.length->∃ k,k<=30/\DepP w.D k i
theorem step_vds (p:Bool)(K:List Tk):∀ w i t,K[i]? = some t->Snd 0 w->Vds w->(tokW p w t i).b=0->Vds (tokW p w t i):=fun w i t ht h hv hb=>by
 obtain⟨tp,r,ho⟩:=h.top;have hc:=h.c;rw[ho]at hc;have htp:=hc.top;have hk:=tok_cases h p t i hb ho
 by_cases e:laysK t=true
 · rw[if_pos e]at hk
   obtain⟨k1,k2,k3,k4,k5⟩:=hk;have hD:∀ a,a<w.D.length->(∃ x,w.D[a]? = some x/\x.k=2/\voidM x.n=false)->∃ x,(laidM w.D tp (nodeK p t))[a]? = some x/\x.k=2/\voidM x.n=false:=fun a ha ⟨x,h1,h2,h3⟩=>⟨{ x with c:=x.c++if a=tp then [(w.D.length:Int)] else [] },by rw[lay_get h.R ha,h1];rfl,h2,h3⟩;have hO:∀ a∈w.o,a=0\/∃ x,(laidM w.D tp (nodeK p t))[a]? = some x/\x.k=2/\voidM x.n=false:=fun a ha=>(hv.o a ha).imp id (hD a (hc.lt a (by rw[<- ho];exact ha)).1);have hP:=hv.p.lay h.R (q:=tp) (x:=nodeK p t)
   have hl:DepP w.D r.length tp:=by
    have:=hv.p;rw[ho]at this;exact this.1
   have hor:w.o.length=r.length+1:=by rw[ho];rfl
   have hd30:=h.d;refine⟨fun i x hi hx hxc => ?_,?_,?_,fun i hi => ?_⟩
   · rw[k1]at hx
     by_cases hil:i<w.D.length
     · rw[lay_get h.R hil,List.getElem?_eq_getElem hil]at hx
       cases hx
       by_cases hit:i=tp
       · rcases hv.o i (by rw[ho,hit];simp)with h0 | ⟨y,h1,h2,h3⟩
         · exact absurd h0 hi
         · rw[List.getElem?_eq_getElem hil]at h1
           cases h1
           exact⟨h2,h3⟩
       · refine hv.v i w.D[i] hi (List.getElem?_eq_getElem hil) fun h0=>hxc ?_
         show w.D[i].c++_=[];rw[if_neg hit,h0];rfl
     · have hil2:i=w.D.length:=by
        have:=lt_of_some hx;rw[lay_len]at this;omega
       rw[hil2,lay_last htp.1]at hx
       cases hx
       exact absurd rfl hxc
   · rcases k5 with k5 | ⟨k5,k6,k7,k8⟩
     · rw[k5,k1]
       exact hO
     · rw[k5,k1]
       intro a ha;rcases List.mem_cons.1 ha with rfl | ha
       · refine .inr ⟨_,lay_last htp.1,?_,?_⟩
         · unfold nodeK
           rw[if_neg (by omega),if_neg (by omega)];rfl
         · unfold nodeK
           rw[if_neg (by omega),if_neg (by omega)];exact k7
       · exact hO a ha
   · rcases k5 with k5 | ⟨k5,k6,k7,k8⟩
     · rw[k5,k1]
       exact hP
     · rw[k5,k1]
       refine⟨?_,hP⟩;rw[hor];exact lay_dep_last h.R hl
   · rw[k1]at hi ⊢
     rw[lay_len]at hi
     by_cases hil:i<w.D.length
     · obtain⟨k,h1,h2⟩:=hv.d i hil
       exact⟨k,h1,lay_dep h.R h2⟩
     · obtain rfl:i=w.D.length:=by omega
       exact⟨_,by omega,lay_dep_last h.R hl⟩
 · rw[if_neg e]at hk
   obtain⟨k1,k,k2,k3⟩:=hk;refine⟨by rw[k1];exact hv.v,?_,?_,by rw[k1];exact hv.d⟩
   · rw[k1,k3]
     exact fun a ha=>hv.o a (List.mem_of_mem_drop ha)
   · rw[k1,k3]
     exact hv.p.drop k
structure Sty (d:List Nd) (n:Nat) (p:Bool) (w:Wk):Prop where
 l:d.length<=w.D.length
 s:∀ i x,d[i]? = some x->∃ ks,w.D[i]? = some { x with c:=x.c++ks }/\(i≠n->ks=[])
 nw:∀ i x,d.length<=i->w.D[i]? = some x->(x.k=2->x.b=p)/\i∈downM w.D n
 o:∀ a∈w.o,a=n\/d.length<=a
theorem step_sty {n:Nat}(d:List Nd)(p:Bool)(K:List Tk):∀ w i t,K[i]? = some t->Snd n w->Sty d n p w->(tokW p w t i).b=0->Sty d n p (tokW p w t i):=fun w i t ht h hv hb=>by
 obtain⟨tp,r,ho⟩:=h.top;have hc:=h.c;rw[ho]at hc;have htp:=hc.top;have hk:=tok_cases h p t i hb ho
 by_cases e:laysK t=true
 · rw[if_pos e]at hk
   obtain⟨k1,k2,k3,k4,k5⟩:=hk;have hl:=hv.l;refine⟨by rw[k1,lay_len];omega,fun i x hx => ?_,fun i x hi hx => ?_,?_⟩
   · have hil:i<w.D.length:=by have:=lt_of_some hx;omega
     obtain⟨ks,h1,h2⟩:=hv.s i x hx;refine⟨ks++if i=tp then [(w.D.length:Int)] else [],?_,fun hin => ?_⟩
     · rw[k1,lay_get h.R hil,h1,Option.map_some,List.append_assoc]
     · have hit:i≠tp:=fun e2=>by
        rcases hv.o tp (by rw[ho];simp)with h3 | h3
        · exact hin (e2.trans h3)
        · have:=lt_of_some hx
          omega
       rw[h2 hin,if_neg hit];rfl
   · rw[k1]at hx ⊢
     rw[h.down ho k4]
     by_cases hil:i<w.D.length
     · rw[lay_get h.R hil,List.getElem?_eq_getElem hil]at hx
       cases hx
       have:=hv.nw i _ hi (List.getElem?_eq_getElem hil);exact⟨this.1,List.mem_append_left _ this.2⟩
     · have hil2:i=w.D.length:=by
        have:=lt_of_some hx;rw[lay_len]at this;omega
       rw[hil2]at hx ⊢;rw[lay_last htp.1]at hx
       cases hx
       refine⟨?_,by simp⟩;unfold nodeK;split
       · intro h2;exact absurd h2 (by show ¬ (3:Int)=2;decide)
       · split
         · intro h2;exact absurd h2 (by show ¬ (4:Int)=2;decide)
         · intro _;rfl
   · rcases k5 with k5 | ⟨k5,-,-,-⟩
     · rw[k5]
       exact hv.o
     · rw[k5]
       intro a ha;rcases List.mem_cons.1 ha with rfl | ha
       · exact .inr hl
       · exact hv.o a ha
 · rw[if_neg e]at hk
   obtain⟨k1,k,k2,k3⟩:=hk;exact⟨by rw[k1];exact hv.l,by rw[k1];exact hv.s,by rw[k1];exact hv.nw,by rw[k3];exact fun a ha=>hv.o a (List.mem_of_mem_drop ha)⟩
theorem start_snd {d:List Nd}(R:Right d){n:Nat}(hn:n<d.length)(hh:holds d n=true):Snd n ⟨d,[n],[],0⟩:=⟨R,⟨hn,hh⟩,rfl,rfl,by simp⟩
theorem into_cases (d:List Nd)(n:Int)(l:List Tk)(p:Bool):(intoM d n l p).2.2≠0/\(intoM d n l p).1=[]/\(intoM d n l p).2.1=[]\/∃ m:Nat,n=(m:Int)/\Right d/\m<d.length/\holds d m=true/\(runW p ⟨d,[m],[],0⟩ l 0).b=0/\intoM d n l p=((runW p ⟨d,[m],[],0⟩ l 0).D,(runW p ⟨d,[m],[],0⟩ l 0).f++if 1<(runW p ⟨d,[m],[],0⟩ l 0).o.length then [(162,l.length)] else [],0):=by
 by_cases hc:checkM d=0
 case neg =>
  have e:intoM d n l p=([],[],checkM d):=by unfold intoM;rw[if_pos hc]
  rw[e];exact .inl ⟨hc,rfl,rfl⟩
 by_cases hn:0<=n/\n<(d.length:Int)/\holds d n.toNat=true
 case neg =>
  have e:intoM d n l p=([],[],170):=by unfold intoM;rw[if_neg (by simp[hc]),if_pos hn]
  rw[e];exact .inl ⟨by show(170:Int)≠0;decide,rfl,rfl⟩
 obtain⟨m,rfl⟩:∃ m:Nat,n=(m:Int):=⟨n.toNat,by omega⟩
 by_cases hb:(runW p ⟨d,[m],[],0⟩ l 0).b=0
 · refine .inr ⟨m,rfl,check_right.1 hc,by omega,by rw[Int.toNat_natCast]at hn;exact hn.2.2,hb,?_⟩
   unfold intoM;rw[if_neg (by simp[hc]),if_neg (fun h=>h hn),Int.toNat_natCast,if_neg (by simp[hb])]
 · have e:intoM d (m:Int) l p=([],[],(runW p ⟨d,[m],[],0⟩ l 0).b):=by
    unfold intoM;rw[if_neg (by simp[hc]),if_neg (fun h=>h hn),Int.toNat_natCast,if_pos hb]
   rw[e];exact .inl ⟨hb,rfl,rfl⟩
theorem into_right {d:List Nd}{n:Int}{l:List Tk}{p:Bool}(h:(intoM d n l p).2.2=0):∃ m:Nat,n=(m:Int)/\m<d.length/\Right (intoM d n l p).1/\d.length<=(intoM d n l p).1.length/\(∀ i x,d[i]? = some x->∃ ks,(intoM d n l p).1[i]? = some { x with c:=x.c++ks }/\(i≠m->ks=[]))/\∀ i x,d.length<=i->(intoM d n l p).1[i]? = some x->(x.k=2->x.b=p)/\i∈downM (intoM d n l p).1 m:=by
 rcases into_cases d n l p with h1 | ⟨m,h1,R,hm,hh,hb,he⟩
 · exact absurd h h1.1
 · have h0:Sty d m p ⟨d,[m],[],0⟩:=⟨Nat.le_refl _,fun i x hx=>⟨[],by rw[List.append_nil];exact hx,fun _=>rfl⟩,fun i x hi hx=>by have e1:i<d.length:=lt_of_some hx;omega,fun a ha => .inl (by simpa using ha)⟩
   obtain⟨hs,hp⟩:=run_ind p (fun w _=>Sty d m p w) l (step_sty d p l) l ⟨d,[m],[],0⟩ 0 (fun j=>by rw[Nat.zero_add]) (start_snd R hm hh) h0 hb;rw[he];exact⟨m,h1,hm,hs.R,hp.l,hp.s,hp.nw⟩
theorem newM_right:Right newM:=check_right.1 (by decide)
theorem page_run {l:List Tk}(h:(pageM l).2.2=0):(runW true ⟨newM,[0],[],0⟩ l 0).b=0/\(pageM l).1=(runW true ⟨newM,[0],[],0⟩ l 0).D:=by
 unfold pageM at h ⊢;rcases into_cases newM 0 l true with h1 | ⟨m,h1,R,hm,hh,hb,he⟩
 · exact absurd h h1.1
 · obtain rfl:m=0:=by omega
   rw[he];exact⟨hb,rfl⟩
theorem start_page:Snd 0 ⟨newM,[0],[],0⟩:=start_snd newM_right (by simp[newM]) rfl
theorem page_text {l:List Tk}(h:(pageM l).2.2=0):textB (pageM l).1 0=wordsK l:=by
 obtain⟨hb,he⟩:=page_run h;have:=(run_ind true (fun w i=>textB w.D 0=[]++wordsK (l.take i)) l (step_text true l []) l ⟨newM,[0],[],0⟩ 0 (fun j=>by rw[Nat.zero_add]) start_page rfl hb).2;rw[he,this,Nat.zero_add,List.take_length,List.nil_append]
theorem page_ord {l:List Tk}(h:(pageM l).2.2=0):Right (pageM l).1/\downM (pageM l).1 0=List.range (pageM l).1.length/\(pageM l).1.length=1+cntK l l.length/\∀ j t,l[j]? = some t->t.k=2->nameN (pageM l).1 (1+cntK l j)=t.n:=by
 obtain⟨hb,he⟩:=page_run h;obtain⟨hs,h1,h2,h3⟩:=run_ind true (Ord l) l (step_ord true l) l ⟨newM,[0],[],0⟩ 0 (fun j=>by rw[Nat.zero_add]) start_page ⟨rfl,rfl,fun j t hj=>by omega⟩ hb;rw[he];rw[Nat.zero_add]at h2 h3;exact⟨hs.R,h1,h2,fun j t ht=>h3 j t (List.getElem?_eq_some_iff.1 ht).1 ht⟩
theorem page_vds {l:List Tk}(h:(pageM l).2.2=0):Right (pageM l).1/\(∀ i x,i≠0->(pageM l).1[i]? = some x->x.c≠[]->x.k=2/\voidM x.n=false)/\∀ i,i<(pageM l).1.length->∃ k,k<=30/\DepP (pageM l).1 k i:=by
 obtain⟨hb,he⟩:=page_run h
 have h0:Vds ⟨newM,[0],[],0⟩:=⟨fun i x hi hx=>by
  have e1:=lt_of_some hx;simp[newM]at e1;omega,fun a ha => .inl (by simpa using ha),⟨⟨by simp[newM],rfl⟩,trivial⟩,fun i hi=>by
  simp[newM]at hi;subst hi
  exact⟨0,by omega,by simp[newM],rfl⟩⟩
 obtain⟨hs,hp⟩:=run_ind true (fun w _=>Vds w) l (step_vds true l) l ⟨newM,[0],[],0⟩ 0 (fun j=>by rw[Nat.zero_add]) start_page h0 hb;rw[he];exact⟨hs.R,hp.v,hp.d⟩
end Go.Proofs.YtlnfbjbagmfpiaaGreatDoor.Dm
namespace Go.Proofs.YtlnfbjbagmfpiaaGreatDoor.Dm
def codeM (d:List Nd)(n:Int):Bool:=decide (0<=n)&&(decide (nameN d n.toNat=scriptN) || decide (nameN d n.toNat=styleN))
def wrapM (d:List Nd)(i:Nat)(inn:List UInt8):List UInt8:=match d[i]? with
 | none=>inn
 | some x=>if x.k=3 then (if codeM d x.p then x.d else encT x.d) else if x.k=4 then [60,33,45,45]++x.d++[45,45,62] else if x.k=2 then startT ⟨2,x.n,[],x.a,false⟩++(if voidM x.n then [] else inn++([60,47]++x.n++[62])) else inn
def prF (d:List Nd):Nat->Nat->List UInt8
 | 0,i=>wrapM d i []
 | f+1,i=>wrapM d i ((kid d i).flatMap fun y=>prF d f y.toNat)
def printD (d:List Nd)(i:Nat):List UInt8:=prF d d.length i
theorem pr_fuel {d:List Nd}(R:Right d):∀(f g k i:Nat),DepP d k i->d.length<=k+f+1->d.length<=k+g+1->prF d f i=prF d g i
 | 0,0,_,_,_,_,_=>rfl
 | 0,g+1,k,i,h,h1,_=>by
   unfold prF
   have e:kid d i=[]:=by
    apply List.eq_nil_iff_forall_not_mem.2
    intro y hy;have:=(R.kidDep h hy).less;omega
   rw[e];rfl
 | f+1,0,k,i,h,_,h2=>by
   unfold prF
   have e:kid d i=[]:=by
    apply List.eq_nil_iff_forall_not_mem.2
    intro y hy;have:=(R.kidDep h hy).less;omega
   rw[e];rfl
 | f+1,g+1,k,i,h,h1,h2=>by
   unfold prF;rw[flatMap_same fun y hy=>pr_fuel R f g (k+1) y.toNat (R.kidDep h hy) (by omega) (by omega)]
theorem printD_eq {d:List Nd}(R:Right d){i:Nat}(hi:i<d.length):printD d i=wrapM d i ((kid d i).flatMap fun y=>printD d y.toNat):=by
 obtain⟨k,hk⟩:=R.dep i hi;have e:=pr_fuel R d.length (d.length+1) k i hk (by omega) (by omega);unfold printD;rw[e];rfl
def printR (d:List Nd)(n:Int):List UInt8:=if checkM d=0/\0<=n/\n<(d.length:Int) then printD d n.toNat else []
end Go.Proofs.YtlnfbjbagmfpiaaGreatDoor.Dm
namespace Go.Proofs.YtlnfbjbagmfpiaaGreatDoor.Dm
def wAd (A:List (List UInt8 × List UInt8)):Nat:=(A.map fun y=>y.1.length+y.2.length+5).sum
def PrD (D:List Nd):Prop:=∀ x∈D,wAd x.a<=95000
theorem flat_le {α β:Type}{L:List α}{f:α->List β}{b:Nat}(h:∀ x∈L,(f x).length<=b):(L.flatMap f).length<=L.length * b:=by
 induction L with
 | nil=>simp
 | cons x L ih =>
   have h1:=ih fun y hy=>h y (List.mem_cons_of_mem _ hy);have h2:=h x (List.mem_cons_self ..);rw[List.flatMap_cons,List.length_append,List.length_cons,Nat.add_mul];omega
theorem encB_le (c:UInt8):(encB c).length<=6:=by
 unfold encB
 repeat' split
 all_goals simp
theorem encT_le (l:List UInt8):(encT l).length<=l.length * 6:=flat_le fun c _=>encB_le c
theorem wrap_le {d:List Nd}(hf:FitD d)(i:Nat)(inn:List UInt8):(wrapM d i inn).length<=100000000+inn.length:=by
 unfold wrapM;split
 · omega
 · next x hx =>
   obtain⟨h1,h2,h3,-,h4⟩:=hf.2 x (List.mem_of_getElem? hx);split
   · split
     · omega
     · have:=encT_le x.d;omega
   · split
     · simp;omega
     · split
       · have hs:(startT ⟨2,x.n,[],x.a,false⟩).length<=70010000:=by
          rw[show startT ⟨2,x.n,[],x.a,false⟩=60 :: x.n++x.a.flatMap attrT++[62]from rfl]
          have ha:(x.a.flatMap attrT).length<=x.a.length * 70004:=flat_le fun y hy=>by
           have h5:=h4 y hy;have h6:=encT_le y.2;unfold attrT;simp;omega
          simp only[List.length_cons,List.length_append,List.length_nil];have:x.a.length * 70004<=1000 * 70004:=Nat.mul_le_mul_right _ h3;omega
         rw[List.length_append];split
         · simp;omega
         · simp;omega
       · omega
theorem pr_len {d:List Nd}(hf:FitD d):∀(f i:Nat),(prF d f i).length<=100000000 * (downF d f i).length
 | 0,i=>by
   have:=wrap_le hf i [];unfold prF downF
   simpa using this
 | f+1,i=>by
   have h1:=wrap_le hf i ((kid d i).flatMap fun y=>prF d f y.toNat)
   have h2:∀ L:List Int,(L.flatMap fun y=>prF d f y.toNat).length<=100000000 * (L.flatMap fun y=>downF d f y.toNat).length:=fun L=>by
    induction L with
    | nil=>simp
    | cons y L ih =>
      have:=pr_len hf f y.toNat;rw[List.flatMap_cons,List.flatMap_cons,List.length_append,List.length_append];omega
   have h3:=h2 (kid d i);unfold prF downF;rw[List.length_cons];omega
theorem printD_len {d:List Nd}(hf:FitD d)(R:Right d){i:Nat}(hi:i<d.length):(printD d i).length<=30000000000:=by
 have h1:=pr_len hf d.length i;have h2:=down_len R hi;have h3:=R.len;unfold downM at h2;unfold printD;omega
def innM (d:List Nd)(C:List Int)(v:Nat):List UInt8:=(C.take v).flatMap fun y=>printD d y.toNat
theorem inn_step {d:List Nd}{C:List Int}{v:Nat}(h:v<C.length):innM d C (v+1)=innM d C v++printD d C[v].toNat:=by
 unfold innM;rw[List.take_add_one,List.getElem?_eq_getElem h,List.flatMap_append];simp
theorem inn_len {d:List Nd}(hf:FitD d)(R:Right d){i:Nat}(hi:i<d.length)(v:Nat):(innM d d[i].c v).length<=30000000000000:=by
 have h1:(innM d d[i].c v).length<=(d[i].c.take v).length * 30000000000:=flat_le fun y hy=>by
  obtain⟨t,rfl,ht,_⟩:=kid_pos R (i:=i) (y:=y) (by rw[kid_some (List.getElem?_eq_getElem hi)];exact List.mem_of_mem_take hy);rw[Int.toNat_natCast];exact printD_len hf R ht
 have h2:=(hf.2 _ (List.getElem_mem hi)).2.2.2.1;have h3:(d[i].c.take v).length<=d[i].c.length:=List.length_take_le' _ _;have h4:(d[i].c.take v).length * 30000000000<=1000 * 30000000000:=Nat.mul_le_mul_right _ (by omega);omega
theorem par_lt {d:List Nd}(R:Right d){i:Nat}(hi:i<d.length):d[i].p<(d.length:Int):=by
 have h1:=R.neg hi;rw[par_some (List.getElem?_eq_getElem hi)]at h1;rcases h1 with h1 | ⟨q,h1,h2⟩<;>omega
end Go.Proofs.YtlnfbjbagmfpiaaGreatDoor.Dm
