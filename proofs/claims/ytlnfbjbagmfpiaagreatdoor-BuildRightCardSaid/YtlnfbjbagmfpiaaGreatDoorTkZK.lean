/- Plain mathematics of documents as tokens (no program in this text): what the document's reader makes of a text, by places; what tokens' text is. Plain mathematics of documents as tokens (no program in this text): a tag's text is read as the tag. Plain mathematics of documents as tokens (no program in this text): tokens that are as a reader tells them are read again off their text. Plain mathematics of documents as tokens (no program in this text): tokens as a reader tells them are those of their text, without a Fail. Plain mathematics of documents as tokens (no program in this text): what the reader's steps give is as tokens are. Plain mathematics of documents as tokens (no program in this text): the steps of a reader that finds no Fail. Plain mathematics of documents as tokens (no program in this text): the reader's steps as a cursor goes them. Plain mathematics of documents as tokens (no program in this text): a round of the program's reader, and what it is to the document's. Plain mathematics of documents as tokens (no program in this text): a round of the program's reader at a tag. -/
import Derived.Test.YtlnfbjbagmfpiaaGreatDoorPureZ
namespace Go.Proofs.YtlnfbjbagmfpiaaGreatDoor
structure Tk where
 k:Int
 n:List UInt8
 d:List UInt8
 a:List (List UInt8 × List UInt8)
 c:Bool
abbrev Fl:=Int × Nat
def letB (c:UInt8):Bool:=decide (97<=c.toNat/\c.toNat<=122) || decide (65<=c.toNat/\c.toNat<=90)
def scriptN:List UInt8:=[115,99,114,105,112,116]
def styleN:List UInt8:=[115,116,121,108,101]
def areaN:List UInt8:=[116,101,120,116,97,114,101,97]
def titleN:List UInt8:=[116,105,116,108,101]
def rawM (l:List UInt8):Bool:=decide (l=scriptN) || decide (l=styleN) || decide (l=areaN) || decide (l=titleN)
def softM (l:List UInt8):Bool:=decide (l=areaN) || decide (l=titleN)
def findT (t:List UInt8):List UInt8->Option Nat
 | []=>if t=[] then some 0 else none
 | c :: r=>if t.isPrefixOf (c :: r) then some 0 else (findT t r).map (· + 1)
theorem findT_le (t:List UInt8):∀(l:List UInt8) (k:Nat),findT t l=some k->k+t.length<=l.length
 | [],k,h=>by
   unfold findT at h;split at h
   · rename_i ht
     subst ht
     cases h
     simp
   · cases h
 | c :: r,k,h=>by
   unfold findT at h;split at h
   · rename_i hp
     cases h
     have:=(List.isPrefixOf_iff_prefix.1 hp).length_le
     simpa using this
   · cases hf:findT t r with
     | none=>rw[hf]at h;cases h
     | some m =>
       rw[hf]at h
       cases h
       have:=findT_le t r m hf;simp;omega
def nameE (c:UInt8):Bool:=blk c || c==47 || c==62
def attrE (c:UInt8):Bool:=nameE c || c==61
def wordE (c:UInt8):Bool:=blk c || c==62
def decL (n:Nat)(l:List UInt8):List UInt8 × List Fl:=((decT n l).1,(decT n l).2.map fun i=>((130:Int),i))
def valueM (n:Nat)(l:List UInt8):Option ((List UInt8 × List Fl) × Nat) :=
 match l with
 | q :: r=>if q=34\/q=39 then (if r.findIdx (· == q)<r.length then some (decL (n+1) (r.take (r.findIdx (· == q))),r.findIdx (· == q)+2) else none)
   else some (decL n (l.take (l.findIdx wordE)),l.findIdx wordE)
 | []=>some (([],[]),0)
def attrM (n:Nat)(l:List UInt8):Option (List UInt8 × (List UInt8 × List Fl) × Nat) :=
 let e:=1+(l.drop 1).findIdx attrE
 let b:=(l.drop e).findIdx fun c => !blk c
 let r:=l.drop (e+b)
 if r.head? = some 61 then
  let z:=(r.drop 1).findIdx fun c => !blk c
  (valueM (n+(e+b+1+z)) (r.drop (1+z))).map fun(v,k)=>(low (l.take e),v,e+b+1+z+k)
 else some (low (l.take e),([],[]),e)
def takeM (st:Bool)(as:List (List UInt8 × List UInt8))(n:Nat)(x v:List UInt8):List (List UInt8 × List UInt8) × List Fl :=
 if st then
  if as.any (fun y=>y.1==x) then (as,[(142,n)])
  else if 30<=as.length then (as,[(2,n)])
  else (as++[(x,v)],[])
 else (as,[])
def insideF:Nat->Bool->Nat->List UInt8->List (List UInt8 × List UInt8)->List Fl->Bool->Option (List (List UInt8 × List UInt8) × List Fl × Bool × Nat)
 | 0,_,_,_,_,_,_=>none
 | f+1,st,n,l,as,fl,sl =>
   match l with
   | []=>none
   | c :: r =>
     if c=62 then some (as,fl,sl,n)
     else if c=47\/blk c=true then insideF f st (n+1) r as fl (c==47)
     else
      match attrM n (c :: r)with
      | none=>none
      | some (x,v,k)=>insideF f st (n+k) ((c :: r).drop k) (takeM st as n x v.1).1 (fl++(takeM st as n x v.1).2++v.2) false
structure Step where
 t:Option Tk
 f:List Fl
 k:Nat
 r:List UInt8
def tagM (st:Bool)(d n:Nat)(l:List UInt8):Step :=
 let e:=d+(l.drop d).findIdx nameE
 match insideF (l.length+1) st (n+e) (l.drop e) [] [] false with
 | none=>⟨none,[(140,n)],l.length,[]⟩
 | some (as,fl,sl,p)=>⟨some ⟨if st then 2 else 3,low ((l.drop d).take ((l.drop d).findIdx nameE)),[],as,st&&sl⟩,fl,p+1 - n,if st&&rawM (low ((l.drop d).take ((l.drop d).findIdx nameE))) then low ((l.drop d).take ((l.drop d).findIdx nameE)) else []⟩
def noteM (k:Int)(d n:Nat)(z l:List UInt8):Step :=
 match findT z (l.drop d)with
 | none=>⟨some ⟨k,[],if k=5 then trim (l.drop d) else l.drop d,[],false⟩,[(140,n)],l.length,[]⟩
 | some m=>⟨some ⟨k,[],if k=5 then trim ((l.drop d).take m) else (l.drop d).take m,[],false⟩,[],d+m+z.length,[]⟩
def beginsM (t l:List UInt8):Bool:=decide (t.length<=l.length)&&decide (low (l.take t.length)=t)
def textT (d:List UInt8):Tk:=⟨1,[],d,[],false⟩
def signS (n:Nat)(l:List UInt8):Step :=
 let c1:=l.getD 1 0
 let c2:=l.getD 2 0
 if 2<=l.length/\letB c1=true then tagM true 1 n l
 else if 3<=l.length/\c1=47/\letB c2=true then tagM false 2 n l
 else if beginsM [60,33,45,45] l=true then noteM 4 4 n [45,45,62] l
 else if beginsM [60,33,100,111,99,116,121,112,101] l=true then noteM 5 9 n [62] l
 else if 2<=l.length/\(c1=33\/c1=63\/c1=47) then { noteM 4 2 n [62] l with f:=(141,n) :: (noteM 4 2 n [62] l).f }
 else ⟨some (textT [60]),[(141,n)],1,[]⟩
def endM (x:List UInt8):List UInt8->Nat
 | []=>0
 | c :: r=>if beginsM (60 :: 47 :: x) (c :: r)=true/\(((c :: r)[2+x.length]?).any fun y=>nameE y)=true then 0 else endM x r+1
theorem endM_le (x:List UInt8):∀ l:List UInt8,endM x l<=l.length
 | []=>Nat.le_refl _
 | c :: r=>by
   unfold endM;split
   · exact Nat.zero_le _
   · have:=endM_le x r
     simp;omega
def rawS (x:List UInt8)(n:Nat)(l:List UInt8):Step :=
 let e:=endM x l
 let v:=if softM x then decL n (l.take e) else (l.take e,[])
 ⟨some (textT v.1),v.2++(if e=l.length then [(140,n)] else []),e,[]⟩
def stepM (x:List UInt8)(n:Nat)(l:List UInt8):Step :=
 if x≠[] then rawS x n l
 else if l.head? = some 60 then signS n l
 else ⟨some (textT (decL n (l.take (l.findIdx (· == 60)))).1),(decL n (l.take (l.findIdx (· == 60)))).2,l.findIdx (· == 60),[]⟩
def pushM (L:List Tk):Option Tk->List Tk
 | none=>L
 | some t =>
   if t.k=1 then
    if t.d=[] then L
    else match L.getLast? with
     | some u=>if u.k=1 then L.dropLast++[{ u with d:=u.d++t.d }] else L++[t]
     | none=>L++[t]
   else L++[t]
def readF:Nat->List UInt8->Nat->List UInt8->List Tk->List Fl->List Tk × List Fl
 | 0,_,_,_,L,F=>(L,F)
 | f+1,x,n,l,L,F =>
   if l=[]/\x=[] then (L,F)
   else readF f (stepM x n l).r (n+(stepM x n l).k) (l.drop (stepM x n l).k) (pushM L (stepM x n l).t) (F++(stepM x n l).f)
def readM (l:List UInt8):List Tk × List Fl:=readF (l.length+2) [] 0 l [] []
def attrT (y:List UInt8 × List UInt8):List UInt8:=32 :: y.1++[61,34]++encT y.2++[34]
def startT (t:Tk):List UInt8:=60 :: t.n++t.a.flatMap attrT++(if t.c then [47,62] else [62])
def hardM (t:Option Tk):Bool:=t.any fun u=>decide (u.k=2)&&(decide (u.n=scriptN) || decide (u.n=styleN))
def printT (hard:Bool)(t:Tk):List UInt8 :=
 if t.k=1 then (if hard then t.d else encT t.d)
 else if t.k=2 then startT t
 else if t.k=3 then 60 :: 47 :: t.n++[62]
 else if t.k=4 then [60,33,45,45]++t.d++[45,45,62]
 else if t.k=5 then [60,33,100,111,99,116,121,112,101,32]++t.d++[62]
 else []
def printF (b:Option Tk):List Tk->List UInt8
 | []=>[]
 | t :: L=>printT (hardM b) t++printF (some t) L
def printM (L:List Tk):List UInt8:=printF none L
end Go.Proofs.YtlnfbjbagmfpiaaGreatDoor
namespace Go.Proofs.YtlnfbjbagmfpiaaGreatDoor
theorem idx_at (p:UInt8->Bool):∀(a:List UInt8) (c:UInt8) (r:List UInt8),(∀ b∈a,p b=false)->p c=true->(a++c :: r).findIdx p=a.length
 | [],c,r,_,hc=>by simp[List.findIdx_cons,hc]
 | b :: a,c,r,ha,hc=>by
   rw[List.cons_append,List.findIdx_cons,ha b (by simp),idx_at p a c r (fun x hx=>ha x (by simp[hx])) hc];rfl
theorem idx_none (p:UInt8->Bool):∀(a:List UInt8),(∀ b∈a,p b=false)->a.findIdx p=a.length
 | [],_=>rfl
 | b :: a,ha=>by
   rw[List.findIdx_cons,ha b (by simp),idx_none p a (fun x hx=>ha x (by simp[hx]))];rfl
theorem decL_enc (n:Nat)(l:List UInt8):decL n (encT l)=(l,[]):=by
 unfold decL;rw[dec_enc];rfl
def AttrOk (x:List UInt8):Prop:=∃ c r,x=c :: r/\nameE c=false/\(∀ b∈r,attrE b=false)/\low x=x
def NameOk (x:List UInt8):Prop:=∃ c r,x=c :: r/\97<=c.toNat/\c.toNat<=122/\(∀ b∈c :: r,nameE b=false)/\low x=x
theorem flat_len:∀ bs:List (List UInt8 × List UInt8),2 * bs.length<=(bs.flatMap attrT).length
 | []=>Nat.zero_le _
 | y :: bs=>by
   have:=flat_len bs;rw[List.flatMap_cons,List.length_append]
   have h:2<=(attrT y).length:=by
    unfold attrT;simp only[List.length_append,List.length_cons,List.length_nil];omega
   simp only[List.length_cons];omega
end Go.Proofs.YtlnfbjbagmfpiaaGreatDoor
namespace Go.Proofs.YtlnfbjbagmfpiaaGreatDoor
theorem low_of_ok {x:List UInt8}(h:low x=x):low (60 :: 47 :: x)=60 :: 47 :: x:=by
 have:low (60 :: 47 :: x)=60 :: 47 :: low x:=rfl;rw[this,h]
def TextOk (t:Tk):Prop:=t.k=1/\t.n=[]/\t.a=[]/\t.c=false/\t.d≠[]
theorem push_other (L:List Tk)(t:Tk)(h:t.k≠1):pushM L (some t)=L++[t]:=by
 unfold pushM;simp only[h,if_false]
theorem push_text (L:List Tk)(t:Tk)(h1:t.k=1)(h:t.d≠[])(hl:∀ u,L.getLast? = some u->u.k≠1):pushM L (some t)=L++[t]:=by
 unfold pushM;simp only[h1,if_true,h,if_false]
 cases hg:L.getLast? with
 | none=>rfl
 | some u=>simp only[hl u hg,if_false]
theorem push_empty (L:List Tk):pushM L (some (textT []))=L:=by
 unfold pushM textT;simp
end Go.Proofs.YtlnfbjbagmfpiaaGreatDoor
namespace Go.Proofs.YtlnfbjbagmfpiaaGreatDoor
theorem readF_step (f:Nat)(x:List UInt8)(n:Nat)(l:List UInt8)(L:List Tk)(F:List Fl)(h:¬ (l=[]/\x=[])):readF (f+1) x n l L F=readF f (stepM x n l).r (n+(stepM x n l).k) (l.drop (stepM x n l).k) (pushM L (stepM x n l).t) (F++(stepM x n l).f):=by
 rw[readF,if_neg h]
end Go.Proofs.YtlnfbjbagmfpiaaGreatDoor
namespace Go.Proofs.YtlnfbjbagmfpiaaGreatDoor
theorem nameE_low (c:UInt8):nameE (lowB c)=nameE c:=by
 unfold lowB;split
 · rename_i h
   have h1:nameE c=false:=by
    unfold nameE blk;simp only[Bool.or_eq_false_iff,beq_eq_false_iff_ne,List.contains_eq_mem,decide_eq_false_iff_not,List.mem_cons,List.not_mem_nil,or_false,not_or];refine⟨⟨⟨?_,?_,?_,?_,?_⟩,?_⟩,?_⟩<;>(intro e;subst e;revert h;decide)
   have h2:nameE (c+32)=false:=by
    have hn:(c+32).toNat=c.toNat+32:=by
     rw[UInt8.toNat_add];simp;omega
    have hb:∀ z:UInt8,z.toNat<97->c+32≠z:=fun z hz e=>by rw[e]at hn;omega
    unfold nameE blk;simp only[Bool.or_eq_false_iff,beq_eq_false_iff_ne,List.contains_eq_mem,decide_eq_false_iff_not,List.mem_cons,List.not_mem_nil,or_false,not_or];exact⟨⟨⟨hb _ (by decide),hb _ (by decide),hb _ (by decide),hb _ (by decide),hb _ (by decide)⟩,hb _ (by decide)⟩,hb _ (by decide)⟩
   rw[h1,h2]
 · rfl
theorem attrE_low (c:UInt8):attrE (lowB c)=attrE c:=by
 unfold attrE;rw[nameE_low]
 congr 1
 unfold lowB;split
 · rename_i h
   have hn:(c+32).toNat=c.toNat+32:=by
    rw[UInt8.toNat_add];simp;omega
   have h1:c+32≠61:=fun e=>by rw[e]at hn;simp at hn;omega
   have h2:c≠61:=fun e=>by subst e;simp at h
   rw[beq_eq_false_iff_ne.2 h1,beq_eq_false_iff_ne.2 h2]
 · rfl
theorem idx_before (p:UInt8->Bool):∀(l:List UInt8),∀ b∈l.take (l.findIdx p),p b=false
 | [],b,hb=>by simp at hb
 | c :: l,b,hb=>by
   rw[List.findIdx_cons]at hb
   cases hc:p c with
   | true=>rw[hc]at hb;simp at hb
   | false =>
     rw[hc]at hb;simp only[cond_false,List.take_succ_cons,List.mem_cons]at hb;rcases hb with rfl | hb
     · exact hc
     · exact idx_before p l b hb
theorem idx_le (p:UInt8->Bool)(l:List UInt8):l.findIdx p<=l.length:=List.findIdx_le_length
theorem low_mem {l:List UInt8}{p:UInt8->Bool}(hp:∀ c,p (lowB c)=p c)(h:∀ b∈l,p b=false):∀ b∈low l,p b=false:=fun b hb=>by
 unfold low at hb;obtain⟨c,hc,rfl⟩:=List.mem_map.1 hb;rw[hp];exact h c hc
theorem value_len {n:Nat}{l:List UInt8}{v:List UInt8 × List Fl}{k:Nat}(h:valueM n l=some (v,k)):k<=l.length:=by
 unfold valueM at h
 cases l with
 | nil=>cases h;exact Nat.le_refl _
 | cons q r =>
   dsimp only at h;split at h
   · split at h
     · cases h
       simp;omega
     · cases h
   · cases h
     exact idx_le _ _
theorem attr_ok {n:Nat}{c:UInt8}{r x:List UInt8}{v:List UInt8 × List Fl}{k:Nat}(hc:nameE c=false)(h:attrM n (c :: r)=some (x,v,k)):AttrOk x/\1<=k/\k<=(c :: r).length:=by
 have hle:=idx_le attrE r
 have hx:AttrOk (low ((c :: r).take (1+r.findIdx attrE))):=by
  refine⟨lowB c,low (r.take (r.findIdx attrE)),?_,?_,?_,low_low _⟩
  · rw[Nat.add_comm,List.take_succ_cons]
    rfl
  · rw[nameE_low];exact hc
  · exact low_mem attrE_low (idx_before attrE r)
 unfold attrM at h;simp only[List.drop_succ_cons,List.drop_zero]at h;split at h
 · rename_i hq
   have hlt:1+r.findIdx attrE+((c :: r).drop (1+r.findIdx attrE)).findIdx (fun c => !blk c)<(c :: r).length:=by
    rw[List.head?_drop]at hq;exact(List.getElem?_eq_some_iff.1 hq).1
   cases hv:valueM (n+(1+r.findIdx attrE+((c :: r).drop (1+r.findIdx attrE)).findIdx (fun c => !blk c)+1+(((c :: r).drop (1+r.findIdx attrE+((c :: r).drop (1+r.findIdx attrE)).findIdx (fun c => !blk c))).drop 1).findIdx (fun c => !blk c))) (((c :: r).drop (1+r.findIdx attrE+((c :: r).drop (1+r.findIdx attrE)).findIdx (fun c => !blk c))).drop (1+(((c :: r).drop (1+r.findIdx attrE+((c :: r).drop (1+r.findIdx attrE)).findIdx (fun c => !blk c))).drop 1).findIdx (fun c => !blk c)))with
   | none=>rw[hv]at h;cases h
   | some y =>
     obtain⟨u,m⟩:=y;rw[hv]at h;have hm:=value_len hv;have h3:=idx_le (fun c => !blk c) (((c :: r).drop (1+r.findIdx attrE+((c :: r).drop (1+r.findIdx attrE)).findIdx (fun c => !blk c))).drop 1);simp only[List.length_drop]at hm h3
     cases h
     exact⟨hx,by omega,by omega⟩
 · cases h
   exact⟨hx,by omega,by simp;omega⟩
end Go.Proofs.YtlnfbjbagmfpiaaGreatDoor
namespace Go.Proofs.YtlnfbjbagmfpiaaGreatDoor
theorem low_back {c z:UInt8}(h:lowB c=z)(hz:z.toNat<97):c=z:=by
 unfold lowB at h;split at h
 · rename_i hh
   exfalso
   have:=congrArg UInt8.toNat h;rw[UInt8.toNat_add]at this;simp at this;omega
 · exact h
theorem raw_names {x:List UInt8}(h:rawM x=true):NameOk x:=by
 unfold rawM at h;simp only[Bool.or_eq_true,decide_eq_true_eq]at h;rcases h with ((rfl | rfl) | rfl) | rfl
 · exact⟨_,_,rfl,by decide,by decide,by decide,by decide⟩
 · exact⟨_,_,rfl,by decide,by decide,by decide,by decide⟩
 · exact⟨_,_,rfl,by decide,by decide,by decide,by decide⟩
 · exact⟨_,_,rfl,by decide,by decide,by decide,by decide⟩
def condM (x l:List UInt8):Prop:=beginsM (60 :: 47 :: x) l=true/\((l[2+x.length]?).any fun y=>nameE y)=true
end Go.Proofs.YtlnfbjbagmfpiaaGreatDoor
namespace Go.Proofs.YtlnfbjbagmfpiaaGreatDoor
theorem blk62:blk 62=false:=by decide
theorem nameE_no {c:UInt8}(h1:c≠62)(h2:¬ (c=47\/blk c=true)):nameE c=false:=by
 unfold nameE;simp only[not_or,Bool.not_eq_true]at h2;simp[h1,h2.1,h2.2]
theorem inside_fuel (st:Bool):∀(f g n:Nat) (l:List UInt8) (as:List (List UInt8 × List UInt8)) (fl:List Fl) (sl:Bool),l.length<f->l.length<g->insideF f st n l as fl sl=insideF g st n l as fl sl
 | 0,_,_,_,_,_,_,h,_=>by omega
 | _+1,0,_,_,_,_,_,_,h=>by omega
 | f+1,g+1,n,l,as,fl,sl,h1,h2=>by
   cases l with
   | nil=>rfl
   | cons c r =>
     unfold insideF;dsimp only
     by_cases h62:c=62
     · rw[if_pos h62,if_pos h62]
     · rw[if_neg h62,if_neg h62]
       by_cases hs:c=47\/blk c=true
       · rw[if_pos hs,if_pos hs]
         exact inside_fuel st f g _ r _ _ _ (by simp at h1;omega) (by simp at h2;omega)
       · rw[if_neg hs,if_neg hs]
         cases ha:attrM n (c :: r)with
         | none=>rfl
         | some y =>
           obtain⟨x,v,k⟩:=y;obtain⟨_,h3,h4⟩:=attr_ok (nameE_no h62 hs) ha;dsimp only;exact inside_fuel st f g _ _ _ _ _ (by rw[List.length_drop];omega) (by rw[List.length_drop];omega)
def insG (st:Bool)(n:Nat)(l:List UInt8)(as:List (List UInt8 × List UInt8))(fl:List Fl)(sl:Bool):=insideF (l.length+1) st n l as fl sl
theorem insG_of {f:Nat}(st:Bool)(n:Nat)(l:List UInt8)(as:List (List UInt8 × List UInt8))(fl:List Fl)(sl:Bool)(h:l.length<f):insideF f st n l as fl sl=insG st n l as fl sl:=inside_fuel st _ _ _ _ _ _ _ h (Nat.lt_succ_self _)
theorem insG_nil (st:Bool)(n:Nat)(as:List (List UInt8 × List UInt8))(fl:List Fl)(sl:Bool):insG st n [] as fl sl=none:=rfl
theorem insG_end (st:Bool)(n:Nat)(r:List UInt8)(as:List (List UInt8 × List UInt8))(fl:List Fl)(sl:Bool):insG st n (62 :: r) as fl sl=some (as,fl,sl,n):=by
 unfold insG insideF;dsimp only;rw[if_pos rfl]
theorem insG_skip (st:Bool)(n:Nat)(c:UInt8)(r:List UInt8)(as:List (List UInt8 × List UInt8))(fl:List Fl)(sl:Bool)(h:c=47\/blk c=true):insG st n (c :: r) as fl sl=insG st (n+1) r as fl (c==47):=by
 have h62:c≠62:=by
  rintro rfl;rcases h with h | h
  · exact absurd h (by decide)
  · rw[blk62]at h;cases h
 unfold insG;rw[List.length_cons]
 conv=>lhs;unfold insideF
 dsimp only;rw[if_neg h62,if_pos h]
theorem insG_attr (st:Bool)(n:Nat)(c:UInt8)(r:List UInt8)(as:List (List UInt8 × List UInt8))(fl:List Fl)(sl:Bool)(h1:c≠62)(h2:¬ (c=47\/blk c=true)):insG st n (c :: r) as fl sl=match attrM n (c :: r)with
 | none=>none
 | some (x,v,k)=>insG st (n+k) ((c :: r).drop k) (takeM st as n x v.1).1 (fl++(takeM st as n x v.1).2++v.2) false:=by
 unfold insG;rw[List.length_cons]
 conv=>lhs;unfold insideF
 dsimp only;rw[if_neg h1,if_neg h2]
 cases ha:attrM n (c :: r)with
 | none=>rfl
 | some y =>
   obtain⟨x,v,k⟩:=y;obtain⟨_,h3,h4⟩:=attr_ok (nameE_no h1 h2) ha;dsimp only;refine inside_fuel st _ _ _ _ _ _ _ ?_ (Nat.lt_succ_self _);rw[List.length_drop];simp at h4 ⊢;omega
theorem insG_run (st:Bool):∀(a rest:List UInt8) (n:Nat) (as:List (List UInt8 × List UInt8)) (fl:List Fl) (sl:Bool),(∀ b∈a,b=47\/blk b=true)->insG st n (a++rest) as fl sl=insG st (n+a.length) rest as fl (if a=[] then sl else decide (a.getLast? = some 47))
 | [],rest,n,as,fl,sl,_=>by rw[if_pos rfl];rfl
 | c :: a,rest,n,as,fl,sl,h=>by
   have ih:=insG_run st a rest (n+1) as fl (c==47) fun b hb=>h b (by simp[hb]);rw[List.cons_append,insG_skip st n c (a++rest) as fl sl (h c (by simp)),ih,List.length_cons,show n+1+a.length=n+(a.length+1) by omega]
   congr 1
   rw[if_neg (List.cons_ne_nil c a)]
   cases a with
   | nil =>
     rw[if_pos rfl,Bool.eq_iff_iff];simp only[beq_iff_eq,decide_eq_true_eq,List.getLast?_singleton,Option.some.injEq]
   | cons d a=>rw[if_neg (List.cons_ne_nil d a),List.getLast?_cons_cons]
def gapE (c:UInt8):Bool := !(blk c || c==47)
theorem gap_take (l:List UInt8):∀ b∈l.take (l.findIdx gapE),b=47\/blk b=true:=fun b hb=>by
 have h:=idx_before gapE l b hb;unfold gapE at h;simp only[Bool.not_eq_false',Bool.or_eq_true,beq_iff_eq]at h;exact h.symm
theorem insG_gap (st:Bool)(n:Nat)(l:List UInt8)(as:List (List UInt8 × List UInt8))(fl:List Fl):insG st n l as fl false=insG st (n+l.findIdx gapE) (l.drop (l.findIdx gapE)) as fl (decide ((l.take (l.findIdx gapE)).getLast? = some 47)):=by
 have h:=insG_run st (l.take (l.findIdx gapE)) (l.drop (l.findIdx gapE)) n as fl false (gap_take l);rw[List.take_append_drop,List.length_take,Nat.min_eq_left (idx_le gapE l)]at h;rw[h]
 congr 1
 by_cases ha:l.take (l.findIdx gapE)=[]
 · rw[if_pos ha,ha];rfl
 · rw[if_neg ha]
theorem insG_blanks (st:Bool)(n j:Nat)(l:List UInt8)(as:List (List UInt8 × List UInt8))(fl:List Fl)(hj:j<=l.length)(h:∀ b∈l.take j,blk b=true):insG st n l as fl false=insG st (n+j) (l.drop j) as fl false:=by
 have h2:=insG_run st (l.take j) (l.drop j) n as fl false fun b hb => .inr (h b hb);rw[List.take_append_drop,List.length_take,Nat.min_eq_left hj]at h2;rw[h2]
 congr 1
 by_cases ha:l.take j=[]
 · rw[if_pos ha]
 · rw[if_neg ha]
   rw[decide_eq_false_iff_not];intro hh;have:=h 47 (List.mem_of_getLast? hh);exact absurd this (by decide)
def blkE (c:UInt8):Bool := !blk c
def valP (n:Nat)(l:List UInt8):(List UInt8 × List Fl) × Nat × Bool :=
 let b:=l.findIdx blkE
 let r:=l.drop b
 if r.head? = some 61 then
  let z:=(r.drop 1).findIdx blkE
  match valueM (n+(b+1+z)) (r.drop (1+z))with
  | some (v,k)=>(v,b+1+z+k,true)
  | none=>(decL (n+(b+1+z)+1) ((r.drop (1+z)).drop 1),l.length,false)
 else (([],[]),b,true)
theorem val_attr (n:Nat)(l:List UInt8) :
 ((valP (n+(1+(l.drop 1).findIdx attrE)) (l.drop (1+(l.drop 1).findIdx attrE))).2.2=true->∃ k j,attrM n l=some (low (l.take (1+(l.drop 1).findIdx attrE)),(valP (n+(1+(l.drop 1).findIdx attrE)) (l.drop (1+(l.drop 1).findIdx attrE))).1,k)/\1+(l.drop 1).findIdx attrE+(valP (n+(1+(l.drop 1).findIdx attrE)) (l.drop (1+(l.drop 1).findIdx attrE))).2.1=k+j/\∀ b∈(l.drop k).take j,blk b=true) /\
 ((valP (n+(1+(l.drop 1).findIdx attrE)) (l.drop (1+(l.drop 1).findIdx attrE))).2.2=false->attrM n l=none/\(valP (n+(1+(l.drop 1).findIdx attrE)) (l.drop (1+(l.drop 1).findIdx attrE))).2.1=(l.drop (1+(l.drop 1).findIdx attrE)).length):=by
 generalize he:1+(l.drop 1).findIdx attrE=e
 have hA:attrM n l=(let b:=(l.drop e).findIdx blkE
  let r:=l.drop (e+b)
  if r.head? = some 61 then
   let z:=(r.drop 1).findIdx blkE
   (valueM (n+(e+b+1+z)) (r.drop (1+z))).map fun(v,k)=>(low (l.take e),v,e+b+1+z+k)
  else some (low (l.take e),([],[]),e)):=by
  unfold attrM;rw[he];rfl
 dsimp only at hA;unfold valP;dsimp only;rw[List.drop_drop];generalize hb:(l.drop e).findIdx blkE=b at hA ⊢
 by_cases h61:(l.drop (e+b)).head? = some 61
 · rw[if_pos h61]at hA ⊢
   generalize hz:((l.drop (e+b)).drop 1).findIdx blkE=z at hA ⊢;rw[show n+e+(b+1+z)=n+(e+b+1+z) by omega]
   cases hv:valueM (n+(e+b+1+z)) ((l.drop (e+b)).drop (1+z))with
   | some y =>
     obtain⟨v,k⟩:=y;rw[hv]at hA;refine⟨fun _=>⟨e+b+1+z+k,0,hA,by dsimp only;omega,fun c hc=>by simp at hc⟩,fun hh=>by cases hh⟩
   | none =>
     rw[hv]at hA;exact⟨fun hh=>(by cases hh),fun _=>⟨hA,rfl⟩⟩
 · rw[if_neg h61]at hA ⊢
   refine⟨fun _=>⟨e,b,hA,rfl,fun c hc => ?_⟩,fun hh=>by cases hh⟩;rw[<- hb]at hc;have:=idx_before blkE (l.drop e) c hc;unfold blkE at this
   simpa using this
theorem val_len (n:Nat)(l:List UInt8):(valP n l).2.1<=l.length:=by
 unfold valP;dsimp only;have h1:=idx_le blkE l;generalize l.findIdx blkE=b at h1 ⊢
 by_cases h61:(l.drop b).head? = some 61
 · rw[if_pos h61]
   have h0:1<=(l.drop b).length:=by
    cases hh:l.drop b with
    | nil=>rw[hh]at h61;cases h61
    | cons=>simp
   have h2:=idx_le blkE ((l.drop b).drop 1);generalize((l.drop b).drop 1).findIdx blkE=z at h2 ⊢
   cases hv:valueM (n+(b+1+z)) ((l.drop b).drop (1+z))with
   | none=>exact Nat.le_refl _
   | some y =>
     obtain⟨v,k⟩:=y;have:=value_len hv;rw[List.length_drop,List.length_drop]at this;rw[List.length_drop]at h0 h2;rw[List.length_drop]at h2;dsimp only;omega
 · rw[if_neg h61]
   exact h1
theorem decL_len (n:Nat)(l:List UInt8):(decL n l).2.length<=l.length:=by
 unfold decL;simp only[List.length_map];exact(decT_len n l).2
theorem value_fails {n:Nat}{l:List UInt8}{v:List UInt8 × List Fl}{k:Nat}(h:valueM n l=some (v,k)):v.2.length<=k:=by
 unfold valueM at h
 cases l with
 | nil=>cases h;exact Nat.le_refl _
 | cons q r =>
   simp only at h;split at h
   · split at h
     · cases h
       have:=decL_len (n+1) (r.take (r.findIdx (· == q)));rw[List.length_take]at this;omega
     · cases h
   · cases h
     have:=decL_len n ((q :: r).take ((q :: r).findIdx wordE));rw[List.length_take]at this;omega
theorem val_fails (n:Nat)(l:List UInt8):(valP n l).1.2.length<=(valP n l).2.1:=by
 unfold valP;dsimp only;generalize l.findIdx blkE=b
 by_cases h61:(l.drop b).head? = some 61
 · rw[if_pos h61]
   generalize((l.drop b).drop 1).findIdx blkE=z
   cases hv:valueM (n+(b+1+z)) ((l.drop b).drop (1+z))with
   | none =>
     have:=decL_len (n+(b+1+z)+1) (((l.drop b).drop (1+z)).drop 1);simp only[List.length_drop]at this;dsimp only;omega
   | some y =>
     obtain⟨v,k⟩:=y;have:=value_fails hv;dsimp only;omega
 · rw[if_neg h61]
   exact Nat.zero_le _
theorem find_hit {P:UInt8->Bool}{l:List UInt8}{q u:Nat}{c:UInt8}(hu:(l.drop q).findIdx P=u)(hc:l[q+u]? = some c):P c=true:=by
 have h1:(l.drop q)[u]? = some c:=by rw[List.getElem?_drop];exact hc
 subst hu;obtain⟨h2,h3⟩:=List.getElem?_eq_some_iff.1 h1;have:=List.findIdx_getElem (w:=h2);rw[h3]at this;exact this
theorem index_find (z:List UInt8):∀ l:List UInt8,Lib.index l z=match findT z l with | some k=>(k:Int) | none => -1
 | []=>by
   unfold Lib.index findT
   cases z with
   | nil=>rfl
   | cons=>rfl
 | c :: r=>by
   unfold Lib.index findT
   by_cases h:z.isPrefixOf (c :: r)=true
   · rw[if_pos h,if_pos h];rfl
   · rw[if_neg h,if_neg h]
     have ih:=index_find z r
     cases hf:findT z r with
     | none=>rw[hf]at ih;rw[ih];rfl
     | some k =>
       rw[hf]at ih;simp only at ih;rw[ih];simp only[Option.map_some];have hk:((k:Int) == -1)=false:=by rw[beq_eq_false_iff_ne];omega
       rw[hk];simp
theorem find_single (c:UInt8):∀ l:List UInt8,findT [c] l=if l.findIdx (· == c)<l.length then some (l.findIdx (· == c)) else none
 | []=>rfl
 | b :: r=>by
   unfold findT;rw[isPrefixOf_one]
   by_cases h:b=c
   · subst h
     simp[List.findIdx_cons]
   · have h1:(c==b)=false:=by rw[beq_eq_false_iff_ne];exact fun e=>h e.symm
     have h2:(b==c)=false:=by rw[beq_eq_false_iff_ne];exact h
     rw[h1,if_neg (by simp),find_single c r,List.findIdx_cons,h2];simp only[cond_false,List.length_cons];split
     · rw[if_pos (by omega)];rfl
     · rw[if_neg (by omega)];rfl
theorem find_at (z:List UInt8):∀(l:List UInt8) (m:Nat),findT z l=some m->z.isPrefixOf (l.drop m)=true
 | [],m,h=>by
   unfold findT at h;split at h
   · rename_i e
     subst e
     cases h
     rfl
   · cases h
 | c :: r,m,h=>by
   unfold findT at h;split at h
   · rename_i e
     cases h
     exact e
   · cases hf:findT z r with
     | none=>rw[hf]at h;cases h
     | some k =>
       rw[hf]at h
       cases h
       exact find_at z r k hf
theorem decL_shift (n:Nat)(l:List UInt8):decL n l=((decT 0 l).1,(decT 0 l).2.map fun i=>((130:Int),n+i)):=by
 unfold decL;have h:=decT_shift 0 n l;rw[Nat.zero_add]at h;rw[h];simp only[List.map_map]
 congr 1
 apply List.map_congr_left
 intro i _;simp only[Function.comp];rw[Nat.add_comm]
theorem decL_sign (n:Nat)(r:List UInt8):decL n (60 :: r)=(60 :: (decL (n+1) r).1,(decL (n+1) r).2):=by
 unfold decL;rw[decT_plain n 60 r (first_plain 60 r (by decide))]
def txtH (H:List UInt8):List Tk:=if H=[] then [] else [textT H]
theorem txtH_nil:txtH []=[]:=rfl
theorem txtH_some {H:List UInt8}(h:H≠[]):txtH H=[textT H]:=if_neg h
def NoText (T:List Tk):Prop:=∀ u,T.getLast? = some u->u.k≠1
theorem noText_nil:NoText []:=fun u h=>by cases h
theorem noText_snoc (T:List Tk){t:Tk}(h:t.k≠1):NoText (T++[t]):=fun u hu=>by
 rw[List.getLast?_append]at hu;simp at hu;rw[<- hu];exact h
theorem push_held {T:List Tk}(h:NoText T)(H d:List UInt8):pushM (T++txtH H) (some (textT d))=T++txtH (H++d):=by
 by_cases hd:d=[]
 · subst hd
   rw[push_empty,List.append_nil]
 · by_cases hH:H=[]
   · subst hH
     rw[txtH_nil,List.append_nil,List.nil_append,txtH_some hd];exact push_text T (textT d) rfl hd h
   · rw[txtH_some hH,txtH_some (by simp[hH])]
     unfold pushM;simp only[textT,if_true,hd,if_false];rw[List.getLast?_append];simp
theorem push_tell (T:List Tk)(H:List UInt8){t:Tk}(h:t.k≠1):pushM (T++txtH H) (some t)=(T++txtH H)++[t]:=push_other _ t h
end Go.Proofs.YtlnfbjbagmfpiaaGreatDoor
namespace Go.Proofs.YtlnfbjbagmfpiaaGreatDoor
def failM (place:Nat)(p:List Nat):List Fl:=p.map fun i=>((130:Int),place+i)
theorem decL_fail {p:Nat}{l D:List UInt8}{q:List Nat}(h:decT 0 l=(D,q)):decL p l=(D,failM p q):=by
 rw[decL_shift,h];rfl
def Rd (s:List UInt8)(n:Nat)(H:List UInt8)(T:List Tk)(F:List Fl)(n':Nat)(H':List UInt8)(T':List Tk)(F':List Fl):Prop :=
 ∀ f,s.length - n<f->∃ f',s.length - n'<f'/\readF f [] n (s.drop n) (T++txtH H) F=readF f' [] n' (s.drop n') (T'++txtH H') F'
theorem ne_and {l:List UInt8}(h:l≠[])(x:List UInt8):¬ (l=[]/\x=[]):=fun e=>h e.1
theorem drop_ne {s:List UInt8}{n:Nat}(h:n<s.length):s.drop n≠[]:=fun e=>by
 have:=congrArg List.length e;rw[List.length_drop]at this;simp at this;omega
theorem rd_one {s:List UInt8}{n:Nat}{H:List UInt8}{T:List Tk}{F:List Fl}{H':List UInt8}{T':List Tk}(hn:n<s.length){S:Step}(hs:stepM [] n (s.drop n)=S)(hr:S.r=[])(hk:1<=S.k)(ht:pushM (T++txtH H) S.t=T'++txtH H'):Rd s n H T F (n+S.k) H' T' (F++S.f):=fun f hf=>by
 obtain⟨f,rfl⟩:∃ g,f=g+1:=⟨f - 1,by omega⟩;refine⟨f,by omega,?_⟩;rw[readF_step f [] n _ _ _ (ne_and (drop_ne hn) _),hs,hr,ht,List.drop_drop]
theorem rd_two {s:List UInt8}{n:Nat}{H:List UInt8}{T:List Tk}{F:List Fl}{H':List UInt8}{T1 T':List Tk}(hn:n<s.length){S S2:Step}(hs:stepM [] n (s.drop n)=S)(ht:pushM (T++txtH H) S.t=T1)(h0:S.r≠[]\/n+S.k<s.length)(hs2:stepM S.r (n+S.k) (s.drop (n+S.k))=S2)(hr:S2.r=[])(hk2:n+2<=n+S.k+S2.k)(ht2:pushM T1 S2.t=T'++txtH H')(hle:n+S.k+S2.k<=s.length):Rd s n H T F (n+S.k+S2.k) H' T' (F++S.f++S2.f):=fun f hf=>by
 obtain⟨f,rfl⟩:∃ g,f=g+2:=⟨f - 2,by omega⟩;refine⟨f,by omega,?_⟩
 rw[readF_step (f+1) [] n _ _ _ (ne_and (drop_ne hn) _),hs,ht,List.drop_drop,readF_step f S.r (n+S.k) _ _ _ (by
  rintro⟨e1,e2⟩;rcases h0 with h0 | h0
  · exact h0 e2
  · exact drop_ne h0 e1),hs2,hr,ht2,List.drop_drop]
theorem Rd.cast {s:List UInt8}{n:Nat}{H:List UInt8}{T:List Tk}{F:List Fl}{n1 n2:Nat}{H1 H2:List UInt8}{T1 T2:List Tk}{F1 F2:List Fl}(h:Rd s n H T F n1 H1 T1 F1)(e1:n1=n2)(e2:H1=H2)(e3:T1=T2)(e4:F1=F2):Rd s n H T F n2 H2 T2 F2:=by subst e1 e2 e3 e4;exact h
theorem head_get {l:List UInt8}:l.head? = l[0]? :=by cases l<;>rfl
theorem text_find {l:List UInt8}(hl:l≠[])(h:l.head? ≠ some 60):l.findIdx (· == 60)=1+(l.drop 1).findIdx (· == 60):=by
 cases l with
 | nil=>exact absurd rfl hl
 | cons c r =>
   have hc:(c==60)=false:=by
    rw[beq_eq_false_iff_ne];rintro rfl;exact h rfl
   rw[List.findIdx_cons,hc];simp only[cond_false,List.drop_succ_cons,List.drop_zero];omega
theorem rd_text {s:List UInt8}{n k:Nat}{H:List UInt8}{T:List Tk}{F:List Fl}{D:List UInt8}{q:List Nat}(hn:n<s.length)(hT:NoText T)(h:(s.drop n).head? ≠ some 60)(hk:k=1+((s.drop n).drop 1).findIdx (· == 60))(hd:decT 0 ((s.drop n).take k)=(D,q)):Rd s n H T F (n+k) (H++D) T (F++failM n q):=by
 have hi:=text_find (drop_ne hn) h;rw[<- hk]at hi
 have hs:stepM [] n (s.drop n)=⟨some (textT D),failM n q,k,[]⟩:=by
  unfold stepM;rw[if_neg (by simp),if_neg h,hi,decL_fail hd]
 exact rd_one (H:=H) (F:=F) (T':=T) (H':=H++D) hn hs rfl (by show 1<=k;omega) (push_held hT H D)
theorem rd_open {s:List UInt8}{n k:Nat}{H:List UInt8}{T:List Tk}{F:List Fl}{D:List UInt8}{q:List Nat}(hT:NoText T)(h:(s.drop n).head? = some 60)(hsg:signS n (s.drop n)=⟨some (textT [60]),[(141,n)],1,[]⟩)(hk:k=1+((s.drop n).drop 1).findIdx (· == 60))(hd:decT 0 ((s.drop n).take k)=(D,q)):Rd s n H T F (n+k) (H++D) T ((F++[((141:Int),n)])++failM n q):=by
 obtain⟨r,hr⟩:∃ r,s.drop n=60 :: r:=by
  cases hl:s.drop n with
  | nil=>rw[hl]at h;cases h
  | cons c r =>
    rw[hl]at h
    cases h
    exact⟨r,rfl⟩
 have hn:n<s.length:=by
  have:=congrArg List.length hr;rw[List.length_drop]at this;simp at this;omega
 have hs:stepM [] n (s.drop n)=⟨some (textT [60]),[(141,n)],1,[]⟩:=by
  unfold stepM;rw[if_neg (by simp),if_pos h];exact hsg
 have hrd:s.drop (n+1)=r:=by rw[<- List.drop_drop,hr];rfl
 have hp1:pushM (T++txtH H) (some (textT [60]))=T++txtH (H++[60]):=push_held hT H [60];rw[hr]at hk hd;simp only[List.drop_succ_cons,List.drop_zero]at hk;have hd2:=decL_fail (p:=n) hd;rw[hk,Nat.add_comm,List.take_succ_cons,decL_sign]at hd2
 injection hd2 with e1 e2
 by_cases h2:r.findIdx (· == 60)=0
 ·
  rw[h2]at hk e1 e2;subst hk;have e1':D=[60]:=by rw[<- e1];rfl
  have e2':failM n q=[]:=by rw[<- e2];rfl
  rw[e1',e2',List.append_nil];exact rd_one (H:=H) (F:=F) (T':=T) (H':=H++[60]) hn hs rfl (Nat.le_refl 1) hp1
 · have hrne:r≠[]:=fun e=>h2 (by rw[e];rfl)
   have hr60:r.head? ≠ some 60:=fun e=>h2 (by
    cases r with
    | nil=>rfl
    | cons c t=>cases e;rfl)
   have hs2:stepM [] (n+1) (s.drop (n+1))=⟨some (textT (decL (n+1) (r.take (r.findIdx (· == 60)))).1),(decL (n+1) (r.take (r.findIdx (· == 60)))).2,r.findIdx (· == 60),[]⟩:=by
    rw[hrd];unfold stepM;rw[if_neg (by simp),if_neg hr60]
   have hlr:r.length=s.length - (n+1):=by rw[<- hrd,List.length_drop]
   have hle:=idx_le (· == (60:UInt8)) r
   have h0:n+1<s.length:=by
    have:r.length≠0:=fun e=>hrne (List.length_eq_zero_iff.1 e);omega
   refine(rd_two (H:=H) (F:=F) (T1:=T++txtH (H++[60])) (T':=T) (H':=(H++[60])++(decL (n+1) (r.take (r.findIdx (· == 60)))).1) hn hs hp1 (.inr h0) hs2 rfl ?_ (push_held hT (H++[60]) _) ?_).cast ?_ ?_ rfl ?_
   · show n+2<=n+1+r.findIdx (· == 60);omega
   · show n+1+r.findIdx (· == 60)<=s.length;omega
   · show n+1+r.findIdx (· == 60)=n+k;omega
   · rw[<- e1];simp
   · rw[<- e2]
theorem begins_first {z:UInt8}(hz:z.toNat<97)(hl:lowB z=z)(l:List UInt8):beginsM [z] l=decide (l[0]? = some z):=by
 unfold beginsM
 cases l with
 | nil=>simp
 | cons c r =>
   rw[Bool.eq_iff_iff];simp only[List.length_cons,List.length_nil,List.take_succ_cons,List.take_zero,low,List.map_cons,List.map_nil,Bool.and_eq_true,decide_eq_true_eq,List.cons.injEq,and_true,List.getElem?_cons_zero,Option.some.injEq];constructor
   · rintro⟨_,h⟩
     exact low_back h hz
   · rintro rfl
     exact⟨by omega,hl⟩
theorem begins_pair {y z:UInt8}(hy:y.toNat<97)(hly:lowB y=y)(hz:z.toNat<97)(hl:lowB z=z)(l:List UInt8):beginsM [y,z] l=(decide (l[0]? = some y)&&decide (l[1]? = some z)):=by
 unfold beginsM
 cases l with
 | nil=>simp
 | cons c r =>
   cases r with
   | nil=>simp
   | cons d t =>
     rw[Bool.eq_iff_iff];simp only[List.length_cons,List.length_nil,List.take_succ_cons,List.take_zero,low,List.map_cons,List.map_nil,Bool.and_eq_true,decide_eq_true_eq,List.cons.injEq,and_true,List.getElem?_cons_zero,List.getElem?_cons_succ,Option.some.injEq];constructor
     · rintro⟨_,h1,h2⟩
       exact⟨low_back h1 hy,low_back h2 hz⟩
     · rintro⟨rfl,rfl⟩
       exact⟨by omega,hly,hl⟩
theorem signS_is (n:Nat)(l:List UInt8):signS n l =
 if (l[1]?).any letB=true then tagM true 1 n l
 else if l[1]? = some 47/\(l[2]?).any letB=true then tagM false 2 n l
 else if beginsM [60,33,45,45] l=true then noteM 4 4 n [45,45,62] l
 else if beginsM [60,33,100,111,99,116,121,112,101] l=true then noteM 5 9 n [62] l
 else if l[1]? = some 33\/l[1]? = some 63\/l[1]? = some 47 then { noteM 4 2 n [62] l with f:=(141,n) :: (noteM 4 2 n [62] l).f }
 else ⟨some (textT [60]),[(141,n)],1,[]⟩:=by
 have g:∀ k,l[k]? = none\/∃ c,l[k]? = some c/\l.getD k 0=c/\k+1<=l.length:=fun k=>by
  cases h:l[k]? with
  | none=>exact .inl rfl
  | some c=>exact .inr ⟨c,rfl,by simp[List.getD,h],(List.getElem?_eq_some_iff.1 h).1⟩
 have g2:∀ k,l[k]? = none->l.length<=k:=fun k h=>List.getElem?_eq_none_iff.1 h;unfold signS;dsimp only;rcases g 1 with h1 | ⟨c1,h1,e1,l1⟩
 · have:=g2 1 h1
   rw[if_neg (by omega),if_neg (by omega),h1];simp only[Option.any_none,Bool.false_eq_true,if_false,reduceCtorEq,false_and,or_self];rw[if_neg (show ¬ (2<=l.length/\(l.getD 1 0=33\/l.getD 1 0=63\/l.getD 1 0=47)) by omega)]
 · rw[e1,h1]
   simp only[Option.any_some,Option.some.injEq];have el:(2<=l.length/\letB c1=true)↔letB c1=true:=⟨fun h=>h.2,fun h=>⟨l1,h⟩⟩;have em:(2<=l.length/\(c1=33\/c1=63\/c1=47))↔(c1=33\/c1=63\/c1=47):=⟨fun h=>h.2,fun h=>⟨l1,h⟩⟩;simp only[el,em];rcases g 2 with h2 | ⟨c2,h2,e2,l2⟩
   · have:=g2 2 h2
     rw[h2];have en:¬ (3<=l.length/\c1=47/\letB (l.getD 2 0)=true):=by omega
     simp only[en,Option.any_none,Bool.false_eq_true,and_false]
   · rw[e2,h2]
     have en:(3<=l.length/\c1=47/\letB c2=true)↔(c1=47/\letB c2=true):=⟨fun h=>h.2,fun h=>⟨l2,h⟩⟩;simp only[en,Option.any_some]
theorem rd_note {s:List UInt8}{n:Nat}{H:List UInt8}{T:List Tk}{F:List Fl}(h:(s.drop n).head? = some 60){S:Step}(hs:signS n (s.drop n)=S)(hr:S.r=[])(hk:1<=S.k){t:Tk}(ht:S.t=some t)(h1:t.k≠1):Rd s n H T F (n+S.k) [] (T++txtH H++[t]) (F++S.f):=by
 have hn:n<s.length:=by
  cases hl:s.drop n with
  | nil=>rw[hl]at h;cases h
  | cons c r =>
    have:=congrArg List.length hl;rw[List.length_drop]at this;simp at this;omega
 have hs':stepM [] n (s.drop n)=S:=by
  unfold stepM;rw[if_neg (by simp),if_pos h];exact hs
 exact rd_one (H:=H) (F:=F) (T':=T++txtH H++[t]) (H':=[]) hn hs' hr hk (by rw[ht,push_tell T H h1,txtH_nil,List.append_nil])
end Go.Proofs.YtlnfbjbagmfpiaaGreatDoor
namespace Go.Proofs.YtlnfbjbagmfpiaaGreatDoor
def nameT (d:Nat)(l:List UInt8):List UInt8:=low ((l.drop d).take ((l.drop d).findIdx nameE))
def insT (st:Bool)(d n:Nat)(l:List UInt8):=insG st (n+(d+(l.drop d).findIdx nameE)) (l.drop (d+(l.drop d).findIdx nameE)) [] [] false
theorem tagM_none {st:Bool}{d n:Nat}{l:List UInt8}(h:insT st d n l=none):tagM st d n l=⟨none,[(140,n)],l.length,[]⟩:=by
 unfold tagM;dsimp only;rw[insG_of st _ _ _ _ _ (by rw[List.length_drop];omega)];unfold insT at h;rw[h]
theorem tagM_some {st:Bool}{d n:Nat}{l:List UInt8}{as:List (List UInt8 × List UInt8)}{fl:List Fl}{sl:Bool}{p:Nat}(h:insT st d n l=some (as,fl,sl,p)):tagM st d n l=⟨some ⟨if st then 2 else 3,nameT d l,[],as,st&&sl⟩,fl,p+1 - n,if st&&rawM (nameT d l) then nameT d l else []⟩:=by
 unfold tagM;dsimp only;rw[insG_of st _ _ _ _ _ (by rw[List.length_drop];omega)];unfold insT at h;rw[h];rfl
theorem head_lt {s:List UInt8}{n:Nat}{c:UInt8}(h:(s.drop n).head? = some c):n<s.length:=by
 cases hl:s.drop n with
 | nil=>rw[hl]at h;cases h
 | cons c r =>
   have:=congrArg List.length hl;rw[List.length_drop]at this;simp at this;omega
theorem step_sign {l:List UInt8}(n:Nat)(h:l.head? = some 60):stepM [] n l=signS n l:=by
 unfold stepM;rw[if_neg (by simp),if_pos h]
theorem rd_cut {s:List UInt8}{n d:Nat}{H:List UInt8}{T:List Tk}{F:List Fl}{st:Bool}(h:(s.drop n).head? = some 60)(hs:signS n (s.drop n)=tagM st d n (s.drop n))(hi:insT st d n (s.drop n)=none):Rd s n H T F s.length H T (F++[((140:Int),n)]):=by
 have hn:=head_lt h;have hl:(s.drop n).length=s.length - n:=List.length_drop;refine(rd_one (H:=H) (F:=F) (T':=T) (H':=H) hn ((step_sign n h).trans (hs.trans (tagM_none hi))) rfl (by show 1<=(s.drop n).length;omega) rfl).cast ?_ rfl rfl rfl;show n+(s.drop n).length=s.length;omega
theorem rd_tag {s:List UInt8}{n d:Nat}{H:List UInt8}{T:List Tk}{F:List Fl}{st:Bool}{as:List (List UInt8 × List UInt8)}{fl:List Fl}{sl:Bool}{p:Nat}(h:(s.drop n).head? = some 60)(hs:signS n (s.drop n)=tagM st d n (s.drop n))(hi:insT st d n (s.drop n)=some (as,fl,sl,p))(hp:n<=p)(hr:(st&&rawM (nameT d (s.drop n)))=false):Rd s n H T F (p+1) [] (T++txtH H++[⟨if st then 2 else 3,nameT d (s.drop n),[],as,st&&sl⟩]) (F++fl):=by
 have hn:=head_lt h;have ht:tagM st d n (s.drop n)=⟨some ⟨if st then 2 else 3,nameT d (s.drop n),[],as,st&&sl⟩,fl,p+1 - n,[]⟩:=by rw[tagM_some hi,hr];rfl
 have h1:(if st=true then (2:Int) else 3)≠1:=by cases st<;>simp
 refine(rd_one (H:=H) (F:=F) (T':=T++txtH H++[⟨if st then 2 else 3,nameT d (s.drop n),[],as,st&&sl⟩]) (H':=[]) hn ((step_sign n h).trans (hs.trans ht)) rfl (by show 1<=p+1 - n;omega) ?_).cast ?_ rfl rfl rfl
 · show pushM (T++txtH H) (some _)=_
   rw[push_tell T H h1,txtH_nil,List.append_nil]
 · show n+(p+1 - n)=p+1
   omega
def rawF (x:List UInt8)(n:Nat)(l:List UInt8):List Fl:=(rawS x n l).f
theorem rd_raw {s:List UInt8} {n d:Nat} {H:List UInt8} {T:List Tk} {F:List Fl} {as:List (List UInt8 × List UInt8)} {fl:List Fl} {sl:Bool} {p:Nat} {D:List UInt8} (h:(s.drop n).head? = some 60) (hs:signS n (s.drop n)=tagM true d n (s.drop n)) (hi:insT true d n (s.drop n)=some (as,fl,sl,p)) (hp:n<p) (hps:p+1<=s.length) (hr:rawM (nameT d (s.drop n))=true)
 (hD:D=if softM (nameT d (s.drop n)) then (decL (p+1) ((s.drop (p+1)).take (endM (nameT d (s.drop n)) (s.drop (p+1))))).1 else (s.drop (p+1)).take (endM (nameT d (s.drop n)) (s.drop (p+1)))):Rd s n H T F (p+1+endM (nameT d (s.drop n)) (s.drop (p+1))) D (T++txtH H++[⟨2,nameT d (s.drop n),[],as,sl⟩]) (F++fl++rawF (nameT d (s.drop n)) (p+1) (s.drop (p+1))):=by
 have hn:=head_lt h;obtain⟨x,hx⟩:∃ x,nameT d (s.drop n)=x:=⟨_,rfl⟩
 have ht:tagM true d n (s.drop n)=⟨some ⟨2,nameT d (s.drop n),[],as,sl⟩,fl,p+1 - n,nameT d (s.drop n)⟩:=by
  rw[tagM_some hi];simp only[Bool.true_and,hr,if_true]
 rw[hx]at hr hD ht ⊢;have hne:x≠[]:=fun e=>by rw[e]at hr;exact absurd hr (by decide)
 have he:=endM_le x (s.drop (p+1));rw[List.length_drop]at he;have hk:n+(p+1 - n)=p+1:=by omega
 have hs2:stepM x (n+(p+1 - n)) (s.drop (n+(p+1 - n)))=rawS x (p+1) (s.drop (p+1)):=by
  rw[hk];unfold stepM;rw[if_pos hne]
 refine(rd_two (H:=H) (F:=F) (T1:=T++txtH H++[⟨2,x,[],as,sl⟩]) (T':=T++txtH H++[⟨2,x,[],as,sl⟩]) (H':=D) hn ((step_sign n h).trans (hs.trans ht)) (push_tell T H (by show(2:Int)≠1;decide)) (.inl hne) hs2 rfl ?_ ?_ ?_).cast ?_ rfl rfl rfl
 · show n+2<=n+(p+1 - n)+endM x (s.drop (p+1));omega
 · show pushM _ (some (textT _))=_
   have:=push_held (T:=T++txtH H++[⟨2,x,[],as,sl⟩]) (noText_snoc (t:=⟨2,x,[],as,sl⟩) _ (by show(2:Int)≠1;decide)) [] D;rw[txtH_nil,List.append_nil,List.nil_append]at this;rw[<- this,hD]
   congr 3
   cases softM x<;>rfl
 · show n+(p+1 - n)+endM x (s.drop (p+1))<=s.length;omega
 · show n+(p+1 - n)+endM x (s.drop (p+1))=_;omega
end Go.Proofs.YtlnfbjbagmfpiaaGreatDoor
