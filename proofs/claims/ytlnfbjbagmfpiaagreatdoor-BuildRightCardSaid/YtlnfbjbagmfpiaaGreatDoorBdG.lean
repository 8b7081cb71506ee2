/- Tokens as nodes, reckoned; the document's rows; what a page's nodes fit. -/
import Derived.Test.YtlnfbjbagmfpiaaGreatDoorBrZD
namespace Go.Proofs.YtlnfbjbagmfpiaaGreatDoor.Dm
def canL (D:List Nd)(x:Nd):Bool:=mayM x&&decide (x.k≠1)&&decide (D.length<300)
theorem lay_can {n:Nat}{w:Wk}(h:Snd n w){x:Nd}{t:Nat}{r:List Nat}(ho:w.o=t :: r)(hc:canL w.D x=true):layW w x=({ w with D:=laidM w.D t x },w.D.length):=by
 unfold canL at hc;simp only[Bool.and_eq_true,decide_eq_true_eq]at hc;obtain⟨⟨h1,h2⟩,h3⟩:=hc;have hm:=make_ok (check_right.2 h.R) h1 h2 h3
 have hb:(layW w x).1.b=0:=by
  unfold layW;rw[if_neg (by simp[h.b]),hm,if_neg (by simp)];exact h.b
 have hcn:=h.c;rw[ho]at hcn;exact(lay_ok ho h.R hcn h.b hb).1
def tokC (p:Bool)(s:List Nd × List Nat × List Fl)(t:Tk)(at_:Nat):Option (List Nd × List Nat × List Fl) :=
 if t.k=1 then (if canL s.1 (textNd t.d) then some (laidM s.1 (s.2.1.headD 0) (textNd t.d),s.2.1,s.2.2) else none)
 else if t.k=4 then (if canL s.1 (noteN t.d) then some (laidM s.1 (s.2.1.headD 0) (noteN t.d),s.2.1,s.2.2) else none)
 else if t.k=2 then (if canL s.1 (elemN p t.n t.a) then
  (if t.c=true\/voidM t.n=true then some (laidM s.1 (s.2.1.headD 0) (elemN p t.n t.a),s.2.1,s.2.2)
   else if 30<=s.2.1.length then some (laidM s.1 (s.2.1.headD 0) (elemN p t.n t.a),s.2.1,s.2.2++[(161,at_)])
   else some (laidM s.1 (s.2.1.headD 0) (elemN p t.n t.a),s.1.length :: s.2.1,s.2.2)) else none)
 else if t.k=3 then some ((endW ⟨s.1,s.2.1,s.2.2,0⟩ t.n at_).D,(endW ⟨s.1,s.2.1,s.2.2,0⟩ t.n at_).o,(endW ⟨s.1,s.2.1,s.2.2,0⟩ t.n at_).f)
 else some s
theorem tokC_is {n:Nat}{p:Bool}{s s':List Nd × List Nat × List Fl}{t:Tk}{at_:Nat}(h:Snd n ⟨s.1,s.2.1,s.2.2,0⟩)(hc:tokC p s t at_=some s'):tokW p ⟨s.1,s.2.1,s.2.2,0⟩ t at_=⟨s'.1,s'.2.1,s'.2.2,0⟩:=by
 obtain⟨D,o,f⟩:=s;obtain⟨D',o',f'⟩:=s';obtain⟨tp,r,ho⟩:=h.top;simp only at h ho hc;subst ho;have key:∀ x,canL D x=true->layW ⟨D,tp :: r,f,0⟩ x=(⟨laidM D tp x,tp :: r,f,0⟩,D.length):=fun x hx=>lay_can h rfl hx;unfold tokC at hc;unfold tokW;simp only[List.headD_cons]at hc
 by_cases h1:t.k=1
 · rw[if_pos h1]at hc ⊢
   split at hc
   · next hx =>
     rw[key _ hx]
     injection hc with hc
     injection hc with e1 hc
     injection hc with e2 e3
     subst e1 e2 e3;rfl
   · cases hc
 rw[if_neg h1]at hc ⊢
 by_cases h4:t.k=4
 · rw[if_pos h4]at hc ⊢
   split at hc
   · next hx =>
     rw[key _ hx]
     injection hc with hc
     injection hc with e1 hc
     injection hc with e2 e3
     subst e1 e2 e3;rfl
   · cases hc
 rw[if_neg h4]at hc ⊢
 by_cases h2:t.k=2
 · rw[if_pos h2]at hc ⊢
   split at hc
   · next hx =>
     rw[key _ hx]
     by_cases h5:t.c=true\/voidM t.n=true
     · rw[if_pos h5]at hc
       rw[if_pos (.inr h5)]
       injection hc with hc
       injection hc with e1 hc
       injection hc with e2 e3
       subst e1 e2 e3;rfl
     · rw[if_neg h5]at hc
       rw[if_neg (fun h=>h.elim (fun h=>h rfl) h5)]
       by_cases h6:30<=(tp :: r).length
       · rw[if_pos h6]at hc ⊢
         injection hc with hc
         injection hc with e1 hc
         injection hc with e2 e3
         subst e1 e2 e3;rfl
       · rw[if_neg h6]at hc ⊢
         injection hc with hc
         injection hc with e1 hc
         injection hc with e2 e3
         subst e1 e2 e3;rfl
   · cases hc
 rw[if_neg h2]at hc ⊢
 by_cases h3:t.k=3
 · rw[if_pos h3]at hc ⊢
   injection hc with hc
   injection hc with e1 hc
   injection hc with e2 e3
   subst e1 e2 e3;unfold endW;split<;>rfl
 · rw[if_neg h3]at hc ⊢
   injection hc with hc
   injection hc with e1 hc
   injection hc with e2 e3
   subst e1 e2 e3;rfl
def runC (p:Bool):List Nd × List Nat × List Fl->List Tk->Nat->Option (List Nd × List Nat × List Fl)
 | s,[],_=>some s
 | s,t :: l,i=>match tokC p s t i with
   | some s'=>runC p s' l (i+1)
   | none=>none
theorem runC_is {n:Nat}{p:Bool}:∀(l:List Tk) (s s':List Nd × List Nat × List Fl) (i:Nat),Snd n ⟨s.1,s.2.1,s.2.2,0⟩->runC p s l i=some s'->runW p ⟨s.1,s.2.1,s.2.2,0⟩ l i=⟨s'.1,s'.2.1,s'.2.2,0⟩
 | [],s,s',i,_,h=>by
   injection h with h
   subst h;rfl
 | t :: l,s,s',i,hs,h=>by
   rw[runC]at h
   cases e:tokC p s t i with
   | none=>rw[e]at h;cases h
   | some s1 =>
     rw[e]at h;have h1:=tokC_is hs e
     have h2:Snd n ⟨s1.1,s1.2.1,s1.2.2,0⟩:=by
      have:=hs.tok p t i (by rw[h1]);rw[h1]at this;exact this
     rw[runW,if_neg (by simp),h1];exact runC_is l s1 s' (i+1) h2 h
theorem page_is {l:List Tk}{D:List Nd}{o:List Nat}{f:List Fl}(h:runC true (newM,[0],[]) l 0=some (D,o,f)):pageM l=(D,f++(if 1<o.length then [(162,l.length)] else []),0):=by
 have h1:=runC_is (n:=0) l (newM,[0],[]) (D,o,f) 0 start_page h;have h2:=into_run (d:=newM) (n:=0) (l:=l) (p:=true) (k:=⟨D,o,f,0⟩) (by decide) (by simp[newM]) rfl h1;rw[if_neg (by simp)]at h2;exact h2
theorem laid_fit {P:Nd->Prop}(hP:∀(x:Nd) (q:Int) (ks:List Int),P x->P { x with p:=q,c:=ks }){d:List Nd}(R:Right d){q:Nat}{x:Nd}(hq:q<d.length)(hd:∀ y∈d,P y)(hx:P x):∀ y∈laidM d q x,P y:=fun y hy=>by
 obtain⟨i,hi,rfl⟩:=List.getElem_of_mem hy;rw[lay_len]at hi
 by_cases e:i<d.length
 · have h1:=lay_get (q:=q) (x:=x) R e
   rw[List.getElem?_eq_getElem (by rw[lay_len];omega),List.getElem?_eq_getElem e]at h1;have h2:=Option.some.inj h1;rw[h2];exact hP d[i] _ _ (hd _ (List.getElem_mem e))
 · obtain rfl:i=d.length:=by omega
   have h1:=lay_last (x:=x) hq;rw[List.getElem?_eq_getElem (by rw[lay_len];omega)]at h1;rw[Option.some.inj h1];exact hP x _ _ hx
theorem step_all {P:Nd->Prop}(hP:∀(x:Nd) (q:Int) (ks:List Int),P x->P { x with p:=q,c:=ks }){n:Nat}(p:Bool)(K:List Tk)(hK:∀ t∈K,P (nodeK p t)):∀ w i t,K[i]? = some t->Snd n w->(∀ y∈w.D,P y)->(tokW p w t i).b=0->∀ y∈(tokW p w t i).D,P y:=fun w i t ht h hp hb=>by
 obtain⟨tp,r,ho⟩:=h.top;have hc:=tok_cases h p t i hb ho;split at hc
 · rw[hc.1]
   have hcn:=h.c;rw[ho]at hcn;exact laid_fit hP h.R hcn.top.1 hp (hK t (List.mem_of_getElem? ht))
 · rw[hc.1]
   exact hp
theorem into_all {P:Nd->Prop}(hP:∀(x:Nd) (q:Int) (ks:List Int),P x->P { x with p:=q,c:=ks }){d:List Nd}{n:Int}{l:List Tk}{p:Bool}(hd:∀ y∈d,P y)(hl:∀ t∈l,P (nodeK p t)):∀ y∈(intoM d n l p).1,P y:=by
 rcases into_cases d n l p with h1 | ⟨m,-,R,hm,hh,hb,he⟩
 · rw[h1.2.1]
   exact fun y hy=>by cases hy
 · rw[he]
   exact(run_ind p (fun w _=>∀ y∈w.D,P y) l (step_all hP p l hl) l ⟨d,[m],[],0⟩ 0 (fun j=>by rw[Nat.zero_add]) (start_snd R hm hh) hd hb).2
end Go.Proofs.YtlnfbjbagmfpiaaGreatDoor.Dm
