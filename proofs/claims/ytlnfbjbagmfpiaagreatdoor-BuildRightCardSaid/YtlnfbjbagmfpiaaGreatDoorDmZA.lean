/- Plain mathematics of documents as nodes (no program in this text): what a document is, when it is right, depth. Plain mathematics of documents as nodes (no program in this text): what stands below a node; from a node up to another one. Plain mathematics of documents as nodes (no program in this text): a node is cut, put, made, an attribute is set; what comes out is right. Plain mathematics of documents as nodes (no program in this text): where what was put, or cut, stands; texts; twice. Plain mathematics of documents as nodes (no program in this text): the checks that say whether a document is right. Plain mathematics of documents as nodes (no program in this text): no node stands twice below one. Plain mathematics of documents as nodes (no program in this text): kids marked one by one; nodes reached row by row. Plain mathematics of documents as nodes (no program in this text): what Put and Set answer. -/
namespace Go.Proofs.YtlnfbjbagmfpiaaGreatDoor.Dm
structure Nd where
 k:Int
 n:List UInt8
 d:List UInt8
 a:List (List UInt8 × List UInt8)
 p:Int
 c:List Int
 b:Bool
 s:Bool
def bareM (x:Nd):Bool:=decide (x.a=[]) && !x.b && !x.s&&decide (x.n=[])
def mayM (x:Nd):Bool :=
 if x.k=1 then bareM x&&decide (x.d=[]) else if x.k=3\/x.k=4 then bareM x
 else if x.k=2 then decide ((x.a.map Prod.fst).Nodup)&&decide (x.n≠[])&&decide (x.d=[])&&decide (x.a.length<=30) else false
def holdM (x:Nd):Bool:=decide (x.k=1) || decide (x.k=2)
def par (d:List Nd)(i:Nat):Int:=match d[i]? with | some x=>x.p | none => -1
def kid (d:List Nd)(i:Nat):List Int:=match d[i]? with | some x=>x.c | none=>[]
def holds (d:List Nd)(i:Nat):Bool:=match d[i]? with | some x=>holdM x | none=>false
theorem par_some {d:List Nd}{i:Nat}{x:Nd}(h:d[i]? = some x):par d i=x.p:=by unfold par;rw[h]
theorem kid_some {d:List Nd}{i:Nat}{x:Nd}(h:d[i]? = some x):kid d i=x.c:=by unfold kid;rw[h]
theorem holds_some {d:List Nd}{i:Nat}{x:Nd}(h:d[i]? = some x):holds d i=holdM x:=by unfold holds;rw[h]
theorem some_of_lt {d:List Nd}{i:Nat}(h:i<d.length):∃ x,d[i]? = some x:=⟨d[i],List.getElem?_eq_getElem h⟩
theorem lt_of_some {d:List Nd}{i:Nat}{x:Nd}(h:d[i]? = some x):i<d.length:=(List.getElem?_eq_some_iff.1 h).1
theorem kid_none {d:List Nd}{i:Nat}(h:d.length<=i):kid d i=[]:=by unfold kid;rw[List.getElem?_eq_none h]
def DepP (d:List Nd):Nat->Nat->Prop
 | 0,i=>i<d.length/\par d i = -1
 | k+1,i=>i<d.length/\∃ q:Nat,par d i=q/\DepP d k q
structure Right (d:List Nd):Prop where
 one:1<=d.length
 len:d.length<=300
 may:∀(i:Nat) (x:Nd),d[i]? = some x->mayM x=true
 rt:∀(i:Nat) (x:Nd),d[i]? = some x->(x.k=1↔i=0)
 kh:∀(i:Nat) (x:Nd),d[i]? = some x->x.c≠[]->holdM x=true
 kr:∀ i y,y∈kid d i->1<=y/\y<d.length
 pl:∀ i,i<d.length->(par d i = -1/\∀ q,(i:Int) ∉ kid d q)\/(0<i/\∃ q:Nat,par d i=q/\q<d.length/\holds d q=true/\(kid d q).count (i:Int)=1/\∀ r,r≠q->(i:Int) ∉ kid d r)
 dep:∀ i,i<d.length->∃ k,DepP d k i
theorem DepP.lt {d:List Nd}:∀ {k i:Nat},DepP d k i->i<d.length
 | 0,_,h=>h.1
 | _+1,_,h=>h.1
theorem DepP.eq {d:List Nd}:∀ {k m i:Nat},DepP d k i->DepP d m i->k=m
 | 0,0,_,_,_=>rfl
 | 0,m+1,i,h,g=>by
   obtain⟨_,q,hq,_⟩:=g;have:=h.2;omega
 | k+1,0,i,h,g=>by
   obtain⟨_,q,hq,_⟩:=h;have:=g.2;omega
 | k+1,m+1,i,h,g=>by
   obtain⟨_,q,hq,hk⟩:=h;obtain⟨_,r,hr,hm⟩:=g;obtain rfl:q=r:=by omega
   rw[DepP.eq hk hm]
theorem nodup_le:∀(n:Nat) (l:List Nat),l.Nodup->(∀ x∈l,x<n)->l.length<=n
 | 0,[],_,_=>Nat.le_refl _
 | 0,x :: l,_,h=>by have:=h x (List.mem_cons_self);omega
 | n+1,l,hn,h=>by
   have h1:=nodup_le n (l.erase n) (hn.erase n) (fun x hx=>by
    have h2:=(hn.mem_erase_iff.1 hx);have:=h x h2.2;have:=h2.1
    omega)
   have h2:=List.length_erase (a:=n) (l:=l);split at h2<;>omega
def chain (d:List Nd):Nat->Nat->List Nat
 | 0,i=>[i]
 | k+1,i=>i :: chain d k (par d i).toNat
theorem chain_len (d:List Nd):∀(k i:Nat),(chain d k i).length=k+1
 | 0,_=>rfl
 | k+1,i=>by unfold chain;rw[List.length_cons,chain_len d k]
theorem chain_dep {d:List Nd}:∀ {k i:Nat},DepP d k i->∀ x∈chain d k i,∃ m,m<=k/\DepP d m x
 | 0,i,h,x,hx=>by
   simp[chain]at hx;subst hx;exact⟨0,Nat.le_refl _,h⟩
 | k+1,i,h,x,hx=>by
   have h':=h;obtain⟨_,q,hq,hk⟩:=h;rcases List.mem_cons.1 hx with rfl | hx
   · exact⟨k+1,Nat.le_refl _,h'⟩
   · rw[hq,Int.toNat_natCast]at hx
     obtain⟨m,hm,g⟩:=chain_dep hk x hx;exact⟨m,by omega,g⟩
theorem chain_nodup {d:List Nd}:∀ {k i:Nat},DepP d k i->(chain d k i).Nodup
 | 0,i,_=>by simp[chain]
 | k+1,i,h=>by
   have h':=h;obtain⟨_,q,hq,hk⟩:=h;unfold chain;rw[hq,Int.toNat_natCast,List.nodup_cons];refine⟨fun hm => ?_,chain_nodup hk⟩;obtain⟨m,hm,g⟩:=chain_dep hk i hm;have:=DepP.eq h' g;omega
theorem DepP.less {d:List Nd}{k i:Nat}(h:DepP d k i):k<d.length:=by
 have h1:=nodup_le d.length _ (chain_nodup h) (fun x hx=>by obtain⟨m,_,g⟩:=chain_dep h x hx;exact g.lt);rw[chain_len]at h1;omega
theorem Right.up {d:List Nd}(R:Right d){q i:Nat}(h:(i:Int)∈kid d q):par d i=q/\0<i/\i<d.length/\q<d.length/\(kid d q).count (i:Int)=1:=by
 have h1:=R.kr q i h;have hi:i<d.length:=by omega
 rcases R.pl i hi with ⟨_,h2⟩ | ⟨h0,r,h2,h3,_,h4,h5⟩
 · exact absurd h (h2 q)
 · by_cases e:q=r
   · subst e;exact⟨h2,h0,hi,h3,h4⟩
   · exact absurd h (h5 q e)
theorem Right.down {d:List Nd}(R:Right d){q i:Nat}(hi:i<d.length)(h:par d i=q):(i:Int)∈kid d q/\q<d.length/\holds d q=true:=by
 rcases R.pl i hi with ⟨h1,_⟩ | ⟨_,r,h2,h3,h4,h5,_⟩
 · omega
 · obtain rfl:q=r:=by omega
   refine⟨?_,h3,h4⟩
   apply List.count_pos_iff.1
   omega
theorem Right.neg {d:List Nd}(R:Right d){i:Nat}(hi:i<d.length):par d i = -1\/∃ q:Nat,par d i=q/\q<d.length:=by
 rcases R.pl i hi with ⟨h1,_⟩ | ⟨_,r,h2,h3,_⟩
 · exact .inl h1
 · exact .inr ⟨r,h2,h3⟩
theorem Right.root {d:List Nd}(R:Right d):par d 0 = -1:=by
 rcases R.pl 0 R.one with ⟨h1,_⟩ | ⟨h0,_⟩
 · exact h1
 · omega
theorem Right.kidNodup {d:List Nd}(R:Right d)(q:Nat):(kid d q).Nodup:=by
 rw[List.nodup_iff_count];intro y
 by_cases h:y∈kid d q
 · have h1:=R.kr q y h
   have e:y=((y.toNat:Nat):Int):=by omega
   rw[e]at h ⊢;exact Nat.le_of_eq (R.up h).2.2.2.2
 · rw[List.count_eq_zero.2 h];omega
theorem Right.kidLen {d:List Nd}(R:Right d)(q:Nat):(kid d q).length<d.length:=by
 have h1:=nodup_le d.length (0 :: (kid d q).map Int.toNat) (by
  rw[List.nodup_cons];constructor
  · intro h
    obtain⟨y,hy,e⟩:=List.mem_map.1 h;have:=R.kr q y hy;omega
  · rw[List.nodup_iff_pairwise_ne,List.pairwise_map]
    refine List.Pairwise.imp_of_mem ?_ (List.nodup_iff_pairwise_ne.1 (R.kidNodup q));intro a b ha hb hab e;have:=R.kr q a ha;have:=R.kr q b hb;omega) (fun x hx=>by
  rcases List.mem_cons.1 hx with rfl | hx
  · have:=R.one;omega
  · obtain⟨y,hy,rfl⟩:=List.mem_map.1 hx
    have:=R.kr q y hy
    omega)
 simp at h1;omega
end Go.Proofs.YtlnfbjbagmfpiaaGreatDoor.Dm
namespace Go.Proofs.YtlnfbjbagmfpiaaGreatDoor.Dm
def downF (d:List Nd):Nat->Nat->List Nat
 | 0,i=>[i]
 | f+1,i=>i :: (kid d i).flatMap fun y=>downF d f y.toNat
def downM (d:List Nd)(i:Nat):List Nat:=downF d d.length i
def upF (d:List Nd)(t:Nat):Nat->Nat->Bool
 | 0,i=>decide (i=t)
 | f+1,i=>decide (i=t) || (decide (0<=par d i)&&upF d t f (par d i).toNat)
def upM (d:List Nd)(t i:Nat):Bool:=upF d t d.length i
theorem flatMap_same {α β:Type}{l:List α}{f g:α->List β}(h:∀ x∈l,f x=g x):l.flatMap f=l.flatMap g:=by
 induction l with
 | nil=>rfl
 | cons a r ih=>rw[List.flatMap_cons,List.flatMap_cons,h a (List.mem_cons_self),ih fun x hx=>h x (List.mem_cons_of_mem _ hx)]
theorem Right.kidDep {d:List Nd}(R:Right d){k i:Nat}{y:Int}(h:DepP d k i)(hy:y∈kid d i):DepP d (k+1) y.toNat:=by
 have h1:=R.kr i y hy;have e:y=((y.toNat:Nat):Int):=by omega
 rw[e]at hy;obtain⟨h2,_,h3,_⟩:=R.up hy;exact⟨h3,i,h2,h⟩
theorem down_fuel {d:List Nd}(R:Right d):∀(f g k i:Nat),DepP d k i->d.length<=k+f+1->d.length<=k+g+1->downF d f i=downF d g i
 | 0,0,_,_,_,_,_=>rfl
 | 0,g+1,k,i,h,h1,_=>by
   unfold downF
   have e:kid d i=[]:=by
    apply List.eq_nil_iff_forall_not_mem.2
    intro y hy;have:=(R.kidDep h hy).less;omega
   rw[e];rfl
 | f+1,0,k,i,h,_,h2=>by
   unfold downF
   have e:kid d i=[]:=by
    apply List.eq_nil_iff_forall_not_mem.2
    intro y hy;have:=(R.kidDep h hy).less;omega
   rw[e];rfl
 | f+1,g+1,k,i,h,h1,h2=>by
   unfold downF;rw[flatMap_same fun y hy=>down_fuel R f g (k+1) y.toNat (R.kidDep h hy) (by omega) (by omega)]
theorem downM_eq {d:List Nd}(R:Right d){i:Nat}(hi:i<d.length):downM d i=i :: (kid d i).flatMap fun y=>downM d y.toNat:=by
 obtain⟨k,hk⟩:=R.dep i hi;have e:=down_fuel R d.length (d.length+1) k i hk (by omega) (by omega);unfold downM;rw[e];rfl
theorem downM_self (d:List Nd)(i:Nat):i∈downM d i:=by
 unfold downM
 cases d.length<;>simp[downF]
theorem up_fuel {d:List Nd}{t:Nat}:∀(f g k i:Nat),DepP d k i->k<=f->k<=g->upF d t f i=upF d t g i
 | 0,0,_,_,_,_,_=>rfl
 | 0,g+1,k,i,h,h1,_=>by
   obtain rfl:k=0:=by omega
   unfold upF;rw[h.2];simp
 | f+1,0,k,i,h,_,h2=>by
   obtain rfl:k=0:=by omega
   unfold upF;rw[h.2];simp
 | f+1,g+1,0,i,h,_,_=>by unfold upF;rw[h.2];simp
 | f+1,g+1,k+1,i,h,h1,h2=>by
   obtain⟨_,q,hq,hk⟩:=h;unfold upF;rw[hq,Int.toNat_natCast,up_fuel f g k q hk (by omega) (by omega)]
theorem upM_eq {d:List Nd}(R:Right d){t i:Nat}(hi:i<d.length):upM d t i=(decide (i=t) || (decide (0<=par d i)&&upM d t (par d i).toNat)):=by
 obtain⟨k,hk⟩:=R.dep i hi;have:=hk.less;have e:=up_fuel (t:=t) d.length (d.length+1) k i hk (by omega) (by omega);unfold upM;rw[e];rfl
theorem upM_self (d:List Nd)(t:Nat):upM d t t=true:=by
 unfold upM
 cases d.length<;>simp[upF]
theorem Right.ind {d:List Nd}(R:Right d)(P:Nat->Prop)(h0:∀ i,i<d.length->par d i = -1->P i)(h1:∀ i q,i<d.length->q<d.length->par d i=(q:Nat)->P q->P i)(i:Nat)(hi:i<d.length):P i:=by
 obtain⟨k,hk⟩:=R.dep i hi;clear hi
 induction k generalizing i with
 | zero=>exact h0 i hk.1 hk.2
 | succ k ih =>
   obtain⟨hi,q,hq,g⟩:=hk;exact h1 i q hi g.lt hq (ih q g)
theorem Right.indDown {d:List Nd}(R:Right d)(P:Nat->Prop)(h:∀ i,i<d.length->(∀ y∈kid d i,P y.toNat)->P i)(i:Nat)(hi:i<d.length):P i:=by
 obtain⟨k,hk⟩:=R.dep i hi;clear hi;generalize hm:d.length - k=m
 induction m generalizing i k with
 | zero=>have:=hk.less;omega
 | succ m ih=>exact h i hk.lt fun y hy=>ih y.toNat (k+1) (R.kidDep hk hy) (by omega)
theorem mem_down {d:List Nd}(R:Right d)(t:Nat)(ht:t<d.length)(x:Nat):x∈downM d t↔x<d.length/\upM d t x=true:=by
 constructor
 · intro h
   have key:∀(i:Nat),i<d.length->∀ t,upM d t i=true->∀ x,x∈downM d i->x<d.length/\upM d t x=true:=by
    intro i hi;refine R.indDown (fun i=>∀ t,upM d t i=true->∀ x,x∈downM d i->x<d.length/\upM d t x=true) ?_ i hi;intro i hi ih t ht x hx;rw[downM_eq R hi]at hx;rcases List.mem_cons.1 hx with rfl | hx
    · exact⟨hi,ht⟩
    · obtain⟨y,hy,hx⟩:=List.mem_flatMap.1 hx
      have h1:=R.kr i y hy;have e:y=((y.toNat:Nat):Int):=by omega
      have hy':=hy;rw[e]at hy';obtain⟨h2,_,h3,_⟩:=R.up hy';refine ih y hy t ?_ x hx;rw[upM_eq R h3,h2];simp[ht]
   exact key t ht t (upM_self d t) x h
 · rintro⟨hx,h⟩
   refine R.ind (fun x=>upM d t x=true->x∈downM d t) ?_ ?_ x hx h
   · intro i hi hp h
     rw[upM_eq R hi,hp]at h;simp at h;subst h;exact downM_self d i
   · intro i q hi hq hp ih h
     rw[upM_eq R hi,hp]at h
     by_cases e:i=t
     · subst e;exact downM_self d i
     · simp[e]at h
       have h2:=ih h
       have key:∀(j:Nat),j<d.length->q∈downM d j->i∈downM d j:=by
        intro j hj;refine R.indDown (fun j=>q∈downM d j->i∈downM d j) ?_ j hj;intro j hj ihj hq2;rw[downM_eq R hj]at hq2 ⊢;rcases List.mem_cons.1 hq2 with rfl | hq2
        · refine List.mem_cons_of_mem _ (List.mem_flatMap.2 ⟨(i:Int),(R.down hi hp).1,?_⟩)
          rw[Int.toNat_natCast];exact downM_self d i
        · obtain⟨y,hy,hq2⟩:=List.mem_flatMap.1 hq2
          exact List.mem_cons_of_mem _ (List.mem_flatMap.2 ⟨y,hy,ihj y hy hq2⟩)
       exact key t ht h2
theorem down_lt {d:List Nd}(R:Right d){t x:Nat}(ht:t<d.length)(h:x∈downM d t):x<d.length:=((mem_down R t ht x).1 h).1
theorem up_anti {d:List Nd}(R:Right d){t q:Nat}(ht:t<d.length)(hq:par d t=(q:Nat)):upM d t q=false:=by
 cases h:upM d t q with
 | false=>rfl
 | true =>
   exfalso
   obtain⟨k,hk⟩:=R.dep t ht;have hk':=hk
   cases k with
   | zero=>have:=hk.2;omega
   | succ k =>
     obtain⟨_,r,hr,hkr⟩:=hk;obtain rfl:q=r:=by omega
     have key:∀(k i:Nat),DepP d k i->upM d t i=true->∃ m,m<=k/\DepP d m t:=by
      intro k
      induction k with
      | zero =>
        intro i hi hu;rw[upM_eq R hi.lt,hi.2]at hu;simp at hu;subst hu;exact⟨0,Nat.le_refl _,hi⟩
      | succ k ih =>
        intro i hi hu;rw[upM_eq R hi.lt]at hu
        by_cases e:i=t
        · subst e;exact⟨k+1,Nat.le_refl _,hi⟩
        · obtain⟨_,r,hr,hkr⟩:=hi
          rw[hr]at hu;simp[e]at hu;obtain⟨m,hm,g⟩:=ih r hkr hu;exact⟨m,by omega,g⟩
     obtain⟨m,hm,g⟩:=key k q hkr h;have:=DepP.eq hk' g;omega
theorem up_trans {d:List Nd}(R:Right d){s t i:Nat}(hi:i<d.length)(h1:upM d t i=true)(h2:upM d s t=true):upM d s i=true:=by
 refine R.ind (fun i=>upM d t i=true->upM d s i=true) ?_ ?_ i hi h1
 · intro i hi hp h
   rw[upM_eq R hi,hp]at h;simp at h;subst h;exact h2
 · intro i q hi hq hp ih h
   by_cases e:i=t
   · subst e;exact h2
   · rw[upM_eq R hi,hp]at h ⊢
     simp[e]at h;simp[ih h]
theorem downF_same {d e:List Nd}(R:Right d):∀(f k i:Nat),DepP d k i->(∀ x,upM d i x=true->x<d.length->kid e x=kid d x)->downF e f i=downF d f i
 | 0,_,_,_,_=>rfl
 | f+1,k,i,h,hs=>by
   unfold downF;rw[hs i (upM_self d i) h.lt]
   congr 1
   refine flatMap_same fun y hy => ?_;have h1:=R.kr i y hy;have e0:y=((y.toNat:Nat):Int):=by omega
   have hy':=hy;rw[e0]at hy';obtain⟨h2,_,h3,_⟩:=R.up hy';refine downF_same R f (k+1) y.toNat (R.kidDep h hy) fun x hx hl=>hs x (up_trans R hl hx ?_) hl;rw[upM_eq R h3,h2];simp[upM_self]
end Go.Proofs.YtlnfbjbagmfpiaaGreatDoor.Dm
namespace Go.Proofs.YtlnfbjbagmfpiaaGreatDoor.Dm
def noN (n:Nat)(l:List Int):List Int:=l.filter fun y=>decide (y≠(n:Int))
def cutM (d:List Nd)(n:Nat):List Nd:=d.mapIdx fun i x=>{ x with p:=if i=n then -1 else x.p,c:=noN n x.c }
def putM (d:List Nd)(q n:Nat):List Nd:=d.mapIdx fun i x=>{ x with p:=if i=n then (q:Int) else x.p,c:=noN n x.c++if i=q then [(n:Int)] else [] }
def findA (name:List UInt8):List (List UInt8 × List UInt8)->Option (List UInt8)
 | []=>none
 | (k,v) :: r=>if k=name then some v else findA name r
def makeM (d:List Nd)(x:Nd):List Nd:=d++[{ x with p := -1,c:=[] }]
theorem cut_len (d:List Nd)(n:Nat):(cutM d n).length=d.length:=by simp[cutM]
theorem put_len (d:List Nd)(q n:Nat):(putM d q n).length=d.length:=by simp[putM]
theorem make_len (d:List Nd)(x:Nd):(makeM d x).length=d.length+1:=by simp[makeM]
theorem cut_get (d:List Nd)(n i:Nat):(cutM d n)[i]? = d[i]?.map fun x=>{ x with p:=if i=n then -1 else x.p,c:=noN n x.c }:=by simp[cutM]
theorem put_get (d:List Nd)(q n i:Nat):(putM d q n)[i]? = d[i]?.map fun x=>{ x with p:=if i=n then (q:Int) else x.p,c:=noN n x.c++if i=q then [(n:Int)] else [] }:=by simp[putM]
theorem cut_kid (d:List Nd)(n i:Nat):kid (cutM d n) i=noN n (kid d i):=by
 unfold kid;rw[cut_get]
 cases d[i]? <;> rfl
theorem put_par {d:List Nd}{q n i:Nat}(hi:i<d.length):par (putM d q n) i=if i=n then (q:Int) else par d i:=by
 obtain⟨x,hx⟩:=some_of_lt hi;unfold par;rw[put_get,hx];rfl
theorem put_kid {d:List Nd}{q n i:Nat}(hi:i<d.length):kid (putM d q n) i=noN n (kid d i)++if i=q then [(n:Int)] else []:=by
 obtain⟨x,hx⟩:=some_of_lt hi;unfold kid;rw[put_get,hx];rfl
theorem put_holds (d:List Nd)(q n i:Nat):holds (putM d q n) i=holds d i:=by
 unfold holds;rw[put_get]
 cases d[i]? <;> rfl
theorem mem_noN {n:Nat}{l:List Int}{y:Int}:y∈noN n l↔y∈l/\y≠(n:Int):=by simp[noN]
theorem count_noN {n i:Nat}{l:List Int}(h:i≠n):(noN n l).count (i:Int)=l.count (i:Int):=by
 unfold noN;rw[List.count_filter];simp;omega
theorem noN_none {n:Nat}{l:List Int}(h:(n:Int) ∉ l):noN n l=l:=by
 unfold noN;rw[List.filter_eq_self];intro y hy;simp;intro e;exact h (e ▸ hy)
theorem put_dep0 {d:List Nd}(R:Right d)(q n:Nat):∀(k i:Nat),DepP d k i->upM d n i=false->DepP (putM d q n) k i:=by
 intro k
 induction k with
 | zero =>
   intro i h hu;have e:i≠n:=fun e=>by subst e;rw[upM_self]at hu;cases hu
   exact⟨by rw[put_len];exact h.1,by rw[put_par h.1,if_neg e];exact h.2⟩
 | succ k ih =>
   intro i h hu;have hl:=h.lt;have e:i≠n:=fun e=>by subst e;rw[upM_self]at hu;cases hu
   obtain⟨_,r,hr,g⟩:=h;rw[upM_eq R hl,hr]at hu;simp at hu;exact⟨by rw[put_len];exact hl,r,by rw[put_par hl,if_neg e];exact hr,ih r g hu.2⟩
theorem put_dep {d:List Nd}(R:Right d){q n:Nat}(hq:q<d.length)(hu:upM d n q=false):∀(k i:Nat),DepP d k i->∃ m,DepP (putM d q n) m i:=by
 intro k
 induction k with
 | zero =>
   intro i h
   by_cases e:i=n
   · obtain⟨k,hk⟩:=R.dep q hq
     exact⟨k+1,by rw[put_len];exact h.1,q,by rw[put_par h.1,if_pos e],put_dep0 R q n k q hk hu⟩
   · exact⟨0,by rw[put_len];exact h.1,by rw[put_par h.1,if_neg e];exact h.2⟩
 | succ k ih =>
   intro i h;have hl:=h.lt
   by_cases e:i=n
   · obtain⟨k,hk⟩:=R.dep q hq
     exact⟨k+1,by rw[put_len];exact hl,q,by rw[put_par hl,if_pos e],put_dep0 R q n k q hk hu⟩
   · obtain⟨_,r,hr,g⟩:=h
     obtain⟨m,hm⟩:=ih r g;exact⟨m+1,by rw[put_len];exact hl,r,by rw[put_par hl,if_neg e];exact hr,hm⟩
theorem Right.put {d:List Nd}(R:Right d){q n:Nat}(hn:0<n)(hnl:n<d.length)(hq:q<d.length)(hh:holds d q=true)(hu:upM d n q=false):Right (putM d q n) where
 one:=by rw[put_len];exact R.one
 len:=by rw[put_len];exact R.len
 may:=fun i x h=>by
  rw[put_get]at h;obtain⟨y,hy,rfl⟩:=Option.map_eq_some_iff.1 h;exact R.may i y hy
 rt:=fun i x h=>by
  rw[put_get]at h;obtain⟨y,hy,rfl⟩:=Option.map_eq_some_iff.1 h;exact R.rt i y hy
 kh:=fun i x h hc=>by
  rw[put_get]at h;obtain⟨y,hy,rfl⟩:=Option.map_eq_some_iff.1 h
  by_cases e:i=q
  · subst e
    rw[holds_some hy]at hh;exact hh
  · refine R.kh i y hy fun e2=>hc ?_
    simp[e,e2,noN]
 kr:=fun i y hy=>by
  by_cases hi:i<d.length
  · rw[put_kid hi]at hy
    rw[put_len];rcases List.mem_append.1 hy with hy | hy
    · exact R.kr i y (mem_noN.1 hy).1
    · split at hy
      · simp at hy
        omega
      · simp at hy
  · rw[kid_none (by rw[put_len];omega)]at hy
    simp at hy
 pl:=fun i hi=>by
  rw[put_len]at hi
  have hk:∀ r,(i:Int)∈kid (putM d q n) r->r<d.length:=fun r h=>by
   apply Nat.lt_of_not_le
   intro hr;rw[kid_none (by rw[put_len];exact hr)]at h;simp at h
  rw[put_par hi]
  by_cases e:i=n
  · subst e
    refine .inr ⟨hn,q,if_pos rfl,by rw[put_len];exact hq,by rw[put_holds];exact hh,?_,fun r hr h => ?_⟩
    · rw[put_kid hq,List.count_append]
      have:(noN i (kid d q)).count (i:Int)=0:=List.count_eq_zero.2 fun h=>(mem_noN.1 h).2 rfl;simp[this]
    · have hrl:=hk r h
      rw[put_kid hrl,if_neg hr,List.append_nil]at h;exact(mem_noN.1 h).2 rfl
  · rw[if_neg e]
    have ho:∀ r,r<d.length->((i:Int)∈kid (putM d q n) r->(i:Int)∈kid d r):=fun r hr h=>by
     rw[put_kid hr]at h;rcases List.mem_append.1 h with h | h
     · exact(mem_noN.1 h).1
     · split at h
       · simp at h;omega
       · simp at h
    rcases R.pl i hi with ⟨h1,h2⟩ | ⟨h0,r,h1,h2,h3,h4,h5⟩
    · exact .inl ⟨h1,fun r h=>h2 r (ho r (hk r h) h)⟩
    · refine .inr ⟨h0,r,h1,by rw[put_len];exact h2,by rw[put_holds];exact h3,?_,fun s hs h=>h5 s hs (ho s (hk s h) h)⟩
      rw[put_kid h2,List.count_append,count_noN e,h4]
      have:(if r=q then [(n:Int)] else []).count (i:Int)=0:=by
       rw[List.count_eq_zero];split
       · simp;omega
       · simp
      rw[this]
 dep:=fun i hi=>by
  rw[put_len]at hi;obtain⟨k,hk⟩:=R.dep i hi;exact put_dep R hq hu k i hk
theorem find_none {name:List UInt8}:∀ {a:List (List UInt8 × List UInt8)},findA name a=none↔name ∉ a.map Prod.fst
 | []=>by simp[findA]
 | (k,v) :: r=>by
   unfold findA
   by_cases e:k=name
   · simp[e]
   · simp[e,find_none (a:=r)]
     exact fun _ h=>e h.symm
theorem make_get {d:List Nd}{x:Nd}{i:Nat}(h:i<d.length):(makeM d x)[i]? = d[i]? :=by
 unfold makeM;rw[List.getElem?_append_left h]
theorem make_last (d:List Nd)(x:Nd):(makeM d x)[d.length]? = some { x with p := -1,c:=[] }:=by simp[makeM]
theorem make_kid (d:List Nd)(x:Nd)(i:Nat):kid (makeM d x) i=kid d i:=by
 by_cases h:i<d.length
 · unfold kid;rw[make_get h]
 · rw[kid_none (d:=d) (by omega)]
   by_cases e:i=d.length
   · subst e
     unfold kid;rw[make_last]
   · exact kid_none (by rw[make_len];omega)
theorem make_par {d:List Nd}{x:Nd}{i:Nat}(h:i<d.length):par (makeM d x) i=par d i:=by unfold par;rw[make_get h]
theorem make_holds {d:List Nd}{x:Nd}{i:Nat}(h:i<d.length):holds (makeM d x) i=holds d i:=by unfold holds;rw[make_get h]
theorem Right.make {d:List Nd}(R:Right d){x:Nd}(hx:mayM { x with p := -1,c:=[] }=true)(hk:x.k≠1)(hl:d.length<300):Right (makeM d x) where
 one:=by rw[make_len];omega
 len:=by rw[make_len];omega
 may:=fun i y h=>by
  by_cases hi:i<d.length
  · rw[make_get hi]at h;exact R.may i y h
  · have:=lt_of_some h
    rw[make_len]at this;obtain rfl:i=d.length:=by omega
    rw[make_last]at h;obtain rfl:=Option.some.inj h;exact hx
 rt:=fun i y h=>by
  by_cases hi:i<d.length
  · rw[make_get hi]at h;exact R.rt i y h
  · have:=lt_of_some h
    have h1:=R.one;rw[make_len]at this;obtain rfl:i=d.length:=by omega
    rw[make_last]at h;obtain rfl:=Option.some.inj h;simp only;constructor
    · exact fun e=>absurd e hk
    · exact fun e=>by omega
 kh:=fun i y h hc=>by
  by_cases hi:i<d.length
  · rw[make_get hi]at h;exact R.kh i y h hc
  · have:=lt_of_some h
    rw[make_len]at this;obtain rfl:i=d.length:=by omega
    rw[make_last]at h;obtain rfl:=Option.some.inj h;simp at hc
 kr:=fun i y hy=>by
  rw[make_kid]at hy;rw[make_len];have:=R.kr i y hy;omega
 pl:=fun i hi=>by
  rw[make_len]at hi
  by_cases h:i<d.length
  · simp only[make_par h,make_kid]
    rcases R.pl i h with ⟨h1,h2⟩ | ⟨h0,q,h1,h2,h3,h4,h5⟩
    · exact .inl ⟨h1,h2⟩
    · exact .inr ⟨h0,q,h1,by rw[make_len];omega,by rw[make_holds h2];exact h3,h4,h5⟩
  · obtain rfl:i=d.length:=by omega
    refine .inl ⟨by rw[par_some (make_last d x)],fun q h => ?_⟩;rw[make_kid]at h;have:=R.kr q _ h;omega
 dep:=fun i hi=>by
  rw[make_len]at hi
  by_cases h:i<d.length
  · obtain⟨k,hk⟩:=R.dep i h
    refine⟨k,?_⟩;clear h hi
    induction k generalizing i with
    | zero=>exact⟨by rw[make_len];have:=hk.1;omega,by rw[make_par hk.1];exact hk.2⟩
    | succ k ih =>
      obtain⟨h1,q,h2,h3⟩:=hk;exact⟨by rw[make_len];omega,q,by rw[make_par h1];exact h2,ih q h3⟩
  · obtain rfl:i=d.length:=by omega
    exact⟨0,by rw[make_len];omega,by rw[par_some (make_last d x)]⟩
end Go.Proofs.YtlnfbjbagmfpiaaGreatDoor.Dm
namespace Go.Proofs.YtlnfbjbagmfpiaaGreatDoor.Dm
def dataM (d:List Nd)(i:Nat):List UInt8:=match d[i]? with | some x=>if x.k=3 then x.d else [] | none=>[]
end Go.Proofs.YtlnfbjbagmfpiaaGreatDoor.Dm
namespace Go.Proofs.YtlnfbjbagmfpiaaGreatDoor.Dm
def timesM (d:List Nd)(i:Nat):Nat:=(d.flatMap (·.c)).count (i:Int)
theorem times_zero {d:List Nd}{i:Nat}:timesM d i=0↔∀ q,(i:Int) ∉ kid d q:=by
 unfold timesM;rw[List.count_eq_zero];constructor
 · intro h q hq
   by_cases hl:q<d.length
   · obtain⟨x,hx⟩:=some_of_lt hl
     rw[kid_some hx]at hq;exact h (List.mem_flatMap.2 ⟨x,List.mem_of_getElem? hx,hq⟩)
   · rw[kid_none (by omega)]at hq;simp at hq
 · intro h hm
   obtain⟨x,hx,hc⟩:=List.mem_flatMap.1 hm;obtain⟨q,hq⟩:=List.getElem?_of_mem hx;exact h q (by rw[kid_some hq];exact hc)
theorem kid_app1 (a:List Nd)(x:Nd)(b:List Nd):kid (a++x :: b) a.length=x.c:=by unfold kid;simp
theorem times_app (a:List Nd)(x:Nd)(b:List Nd)(i:Nat):timesM (a++x :: b) i=timesM a i+(x.c.count (i:Int)+timesM b i):=by
 simp[timesM,List.flatMap_append,List.count_append]
theorem kid_app0 {a:List Nd}(b:List Nd){r:Nat}(h:r<a.length):kid (a++b) r=kid a r:=by unfold kid;rw[List.getElem?_append_left h]
theorem kid_app2 (a:List Nd)(x:Nd)(b:List Nd)(r:Nat):kid (a++x :: b) (a.length+1+r)=kid b r:=by
 unfold kid;rw[List.getElem?_append_right (by omega),show a.length+1+r - a.length=r+1 by omega,List.getElem?_cons_succ]
theorem times_one {d:List Nd}{i q:Nat}(hq:q<d.length):((i:Int)∈kid d q/\timesM d i=1)↔((kid d q).count (i:Int)=1/\∀ r,r≠q->(i:Int) ∉ kid d r):=by
 obtain⟨x,hx⟩:=some_of_lt hq
 obtain⟨a,b,rfl,rfl⟩:∃ a b,d=a++x :: b/\a.length=q:=by
  refine⟨d.take q,d.drop (q+1),?_,by simp;omega⟩;have hx2:d[q]=x:=by rw[List.getElem?_eq_getElem hq]at hx;exact Option.some.inj hx
  rw[<- hx2,List.getElem_cons_drop,List.take_append_drop]
 rw[kid_app1,times_app];constructor
 · rintro⟨h1,h2⟩
   have h3:0<x.c.count (i:Int):=List.count_pos_iff.2 h1;refine⟨by omega,fun r hr hm => ?_⟩;rcases Nat.lt_or_gt_of_ne hr with hr | hr
   · rw[kid_app0 _ hr]at hm
     have:=(times_zero (d:=a) (i:=i)).1 (by omega) r;exact this hm
   · obtain⟨s,rfl⟩:∃ s,r=a.length+1+s:=⟨r - (a.length+1),by omega⟩
     rw[kid_app2]at hm;exact(times_zero (d:=b) (i:=i)).1 (by omega) s hm
 · rintro⟨h1,h2⟩
   refine⟨List.count_pos_iff.1 (by omega),?_⟩
   have h3:timesM a i=0:=times_zero.2 fun r hm=>by
    by_cases hr:r<a.length
    · exact h2 r (by omega) (by rw[kid_app0 _ hr];exact hm)
    · rw[kid_none (by omega)]at hm;simp at hm
   have h4:timesM b i=0:=times_zero.2 fun r hm=>h2 (a.length+1+r) (by omega) (by rw[kid_app2];exact hm);omega
def kidsB (d:List Nd)(x:Nd):Bool:=(decide (x.c=[]) || holdM x)&&decide (x.c.length<=d.length)&&x.c.all fun y=>decide (1<=y)&&decide (y<(d.length:Int))
def nodeB (d:List Nd)(i:Nat)(x:Nd):Bool:=mayM x&&(decide (x.k=1)==decide (i=0))&&kidsB d x
def placedB (d:List Nd)(i:Nat):Bool :=
 if par d i = -1 then decide (timesM d i=0)
 else decide (0<i)&&decide (0<=par d i)&&decide (par d i<(d.length:Int))&&holds d (par d i).toNat&&decide ((i:Int)∈kid d (par d i).toNat)&&decide (timesM d i=1)
def endF (d:List Nd):Nat->Nat->Bool
 | 0,_=>false
 | f+1,i=>decide (par d i = -1) || endF d f (par d i).toNat
def formB (d:List Nd):Bool :=
 decide (1<=d.length)&&decide (par d 0 = -1)&&((List.range d.length).all fun i=>match d[i]? with | some x=>nodeB d i x | none=>false)&&((List.range d.length).all (placedB d))&&((List.range d.length).all (endF d (d.length+1)))
def checkM (d:List Nd):Int:=if 300<d.length then 2 else if formB d then 0 else 171
theorem end_dep {d:List Nd}(hp:∀ i,i<d.length->par d i = -1\/∃ q:Nat,par d i=q/\q<d.length):∀(f i:Nat),i<d.length->(endF d f i=true↔∃ k,k<f/\DepP d k i)
 | 0,i,_=>by simp[endF]
 | f+1,i,hi=>by
   unfold endF;rcases hp i hi with h | ⟨q,h,hq⟩
   · simp[h]
     exact⟨0,by omega,hi,h⟩
   · have ih:=end_dep hp f q hq
     rw[h,Int.toNat_natCast];simp only[show ¬ ((q:Int) = -1) by omega,decide_false,Bool.false_or,ih];constructor
     · rintro⟨k,hk,g⟩
       exact⟨k+1,by omega,hi,q,h,g⟩
     · rintro⟨k,hk,g⟩
       cases k with
       | zero=>have:=g.2;omega
       | succ k =>
         obtain⟨_,r,hr,g⟩:=g;obtain rfl:q=r:=by omega
         exact⟨k,by omega,g⟩
theorem form_right {d:List Nd}(hl:d.length<=300):formB d=true↔Right d:=by
 constructor
 · intro h
   simp only[formB,Bool.and_eq_true,decide_eq_true_eq,List.all_eq_true,List.mem_range]at h;obtain⟨⟨⟨⟨h1,h2⟩,h3⟩,h4⟩,h5⟩:=h;have hn:∀ i x,d[i]? = some x->nodeB d i x=true:=fun i x hx=>by have:=h3 i (lt_of_some hx);rw[hx]at this;exact this
   have hpl:∀ i,i<d.length->(par d i = -1/\∀ q,(i:Int) ∉ kid d q)\/(0<i/\∃ q:Nat,par d i=q/\q<d.length/\holds d q=true/\(kid d q).count (i:Int)=1/\∀ r,r≠q->(i:Int) ∉ kid d r):=fun i hi=>by
    have h:=h4 i hi;unfold placedB at h;split at h
    · rename_i hp
      exact .inl ⟨hp,times_zero.1 (by simpa using h)⟩
    · simp only[Bool.and_eq_true,decide_eq_true_eq]at h
      obtain⟨⟨⟨⟨⟨g1,g2⟩,g3⟩,g4⟩,g5⟩,g6⟩:=h;have hq:(par d i).toNat<d.length:=by omega
      obtain⟨g7,g8⟩:=(times_one hq).1 ⟨g5,g6⟩;exact .inr ⟨g1,(par d i).toNat,by omega,hq,g4,g7,g8⟩
   refine⟨h1,hl,fun i x hx => ?_,fun i x hx => ?_,fun i x hx hc => ?_,fun i y hy => ?_,hpl,fun i hi => ?_⟩
   · have:=hn i x hx
     simp only[nodeB,Bool.and_eq_true]at this;exact this.1.1
   · have:=hn i x hx
     simp only[nodeB,Bool.and_eq_true,beq_iff_eq,decide_eq_decide]at this;exact this.1.2
   · have:=hn i x hx
     simp only[nodeB,kidsB,Bool.and_eq_true,Bool.or_eq_true,decide_eq_true_eq]at this;exact this.2.1.1.resolve_left hc
   · by_cases hi:i<d.length
     · obtain⟨x,hx⟩:=some_of_lt hi
       rw[kid_some hx]at hy;have:=hn i x hx;simp only[nodeB,kidsB,Bool.and_eq_true,List.all_eq_true,decide_eq_true_eq]at this;exact this.2.2 y hy
     · rw[kid_none (by omega)]at hy;simp at hy
   · obtain⟨k,_,hk⟩:=(end_dep (fun i hi=>by
      rcases hpl i hi with ⟨h,_⟩ | ⟨_,q,h,hq,_⟩
      · exact .inl h
      · exact .inr ⟨q,h,hq⟩) _ i hi).1 (h5 i hi)
     exact⟨k,hk⟩
 · intro R
   simp only[formB,Bool.and_eq_true,decide_eq_true_eq,List.all_eq_true,List.mem_range];refine⟨⟨⟨⟨R.one,R.root⟩,fun i hi => ?_⟩,fun i hi => ?_⟩,fun i hi => ?_⟩
   · obtain⟨x,hx⟩:=some_of_lt hi
     rw[hx];simp only[nodeB,kidsB,Bool.and_eq_true,beq_iff_eq,decide_eq_decide,Bool.or_eq_true,decide_eq_true_eq,List.all_eq_true];refine⟨⟨R.may i x hx,R.rt i x hx⟩,⟨?_,?_⟩,fun y hy=>R.kr i y (by rw[kid_some hx];exact hy)⟩
     · by_cases hc:x.c=[]
       · exact .inl hc
       · exact .inr (R.kh i x hx hc)
     · have:=R.kidLen i
       rw[kid_some hx]at this;omega
   · unfold placedB
     rcases R.pl i hi with ⟨h1,h2⟩ | ⟨h0,q,h1,h2,h3,h4,h5⟩
     · rw[if_pos h1]
       simpa using times_zero.2 h2
     · rw[if_neg (by omega),h1,Int.toNat_natCast]
       obtain⟨g1,g2⟩:=(times_one h2).2 ⟨h4,h5⟩;simp only[Bool.and_eq_true,decide_eq_true_eq];exact⟨⟨⟨⟨⟨h0,by omega⟩,by omega⟩,h3⟩,g1⟩,g2⟩
   · obtain⟨k,hk⟩:=R.dep i hi
     exact(end_dep (fun i hi=>R.neg hi) _ i hi).2 ⟨k,by have:=hk.less;omega,hk⟩
theorem check_right {d:List Nd}:checkM d=0↔Right d:=by
 unfold checkM
 by_cases h:300<d.length
 · rw[if_pos h]
   constructor
   · intro h;omega
   · intro R;have:=R.len;omega
 · rw[if_neg h,<- form_right (by omega)]
   cases formB d<;>simp
theorem check_two {d:List Nd}:checkM d=2↔300<d.length:=by
 unfold checkM;split
 · simp_all
 · split<;>simp_all
theorem check_form {d:List Nd}(h:d.length<=300)(hr:¬ Right d):checkM d=171:=by
 unfold checkM;rw[if_neg (by omega),if_neg (by rw[form_right h];exact hr)]
end Go.Proofs.YtlnfbjbagmfpiaaGreatDoor.Dm
namespace Go.Proofs.YtlnfbjbagmfpiaaGreatDoor.Dm
theorem up_two {d:List Nd}(R:Right d){a b:Nat}(x:Nat)(hx:x<d.length):upM d a x=true->upM d b x=true->upM d a b=true\/upM d b a=true:=by
 refine R.ind (fun x=>upM d a x=true->upM d b x=true->upM d a b=true\/upM d b a=true) (fun i hi hp h1 h2 => ?_) (fun i q hi hq hp ih h1 h2 => ?_) x hx
 · rw[upM_eq R hi]at h1 h2
   rw[hp]at h1 h2;simp only[Bool.or_eq_true,decide_eq_true_eq,Bool.and_eq_true]at h1 h2;rcases h1 with h1 | h1
   · subst h1
     exact .inr (by rw[upM_eq R hi,hp];simpa using h2)
   · omega
 · rw[upM_eq R hi]at h1 h2
   rw[hp]at h1 h2;simp only[Bool.or_eq_true,decide_eq_true_eq,Bool.and_eq_true,Int.toNat_natCast]at h1 h2;rcases h1 with h1 | h1
   · subst h1
     exact .inr (by rw[upM_eq R hi,hp];simpa using h2)
   · rcases h2 with h2 | h2
     · subst h2
       exact .inl (by rw[upM_eq R hi,hp];simp[h1.2])
     · exact ih h1.2 h2.2
theorem kid_pos {d:List Nd}(R:Right d){i:Nat}{y:Int}(h:y∈kid d i):∃ t:Nat,y=t/\t<d.length/\par d t=i:=by
 obtain⟨h1,h2⟩:=R.kr i y h;refine⟨y.toNat,by omega,by omega,?_⟩;have h3:((y.toNat:Nat):Int)∈kid d i:=by rw[show((y.toNat:Nat):Int)=y by omega];exact h
 exact(R.up h3).1
theorem down_nodup {d:List Nd}(R:Right d)(i:Nat)(hi:i<d.length):(downM d i).Nodup:=by
 refine R.indDown (fun i=>i<d.length->(downM d i).Nodup) (fun i hi ih _ => ?_) i hi hi;rw[downM_eq R hi,List.nodup_cons];constructor
 · intro h
   obtain⟨y,hy,hm⟩:=List.mem_flatMap.1 h;obtain⟨t,rfl,ht,hp⟩:=kid_pos R hy;rw[Int.toNat_natCast]at hm;have h1:=((mem_down R t ht i).1 hm).2;rw[up_anti R ht hp]at h1
   cases h1
 · unfold List.Nodup
   rw[List.pairwise_flatMap];refine⟨fun y hy => ?_,?_⟩
   · obtain⟨t,rfl,ht,hp⟩:=kid_pos R hy
     exact ih _ hy (by rw[Int.toNat_natCast];exact ht)
   · have hn:=R.kidNodup i
     refine List.Pairwise.imp_of_mem (fun {y z} hy hz hne x hx x2 hx2 e => ?_) hn;subst e;obtain⟨t,rfl,ht,hp⟩:=kid_pos R hy;obtain⟨s,rfl,hs,hq⟩:=kid_pos R hz;rw[Int.toNat_natCast]at hx hx2;have h1:=(mem_down R t ht x).1 hx;have h2:=(mem_down R s hs x).1 hx2;have hts:t≠s:=fun e=>hne (by rw[e]);rcases up_two R x h1.1 h1.2 h2.2 with h | h
     · rw[upM_eq R hs,decide_eq_false (fun e=>hts e.symm),Bool.false_or,hq,Int.toNat_natCast,up_anti R ht hp,Bool.and_false]at h
       cases h
     · rw[upM_eq R ht,decide_eq_false hts,Bool.false_or,hp,Int.toNat_natCast,up_anti R hs hq,Bool.and_false]at h
       cases h
theorem down_len {d:List Nd}(R:Right d){i:Nat}(hi:i<d.length):(downM d i).length<=d.length:=nodup_le _ _ (down_nodup R i hi) fun _ hx=>down_lt R hi hx
end Go.Proofs.YtlnfbjbagmfpiaaGreatDoor.Dm
namespace Go.Proofs.YtlnfbjbagmfpiaaGreatDoor.Dm
def allK (d:List Nd):List Int:=d.flatMap (·.c)
structure Pl (d:List Nd):Prop where
 kp:∀ q y,y∈kid d q->0<=y/\y<d.length/\par d y.toNat=q
 nd:(allK d).Nodup
 st:∀ i,i<d.length->par d i ≠ -1->(i:Int)∈allK d
theorem mem_allK {d:List Nd}{y:Int}:y∈allK d↔∃ q,q<d.length/\y∈kid d q:=by
 unfold allK;rw[List.mem_flatMap];constructor
 · rintro⟨x,hx,hy⟩
   obtain⟨q,hq,e⟩:=List.mem_iff_getElem.1 hx;exact⟨q,hq,by rw[kid_some (x:=x) (by rw[List.getElem?_eq_getElem hq,e])];exact hy⟩
 · rintro⟨q,hq,hy⟩
   rw[kid_some (List.getElem?_eq_getElem hq)]at hy;exact⟨_,List.getElem_mem hq,hy⟩
theorem allK_at {d:List Nd}{i:Nat}(h:i<d.length):allK d=allK (d.take i)++(kid d i++allK (d.drop (i+1))):=by
 unfold allK
 conv=>lhs;rw[<- List.take_append_drop i d]
 rw[List.flatMap_append,List.drop_eq_getElem_cons h,List.flatMap_cons,kid_some (List.getElem?_eq_getElem h)]
theorem kid_count_le (d:List Nd)(q:Nat)(y:Int):(kid d q).count y<=(allK d).count y:=by
 by_cases hq:q<d.length
 · rw[allK_at hq,List.count_append,List.count_append]
   omega
 · rw[kid_none (by omega)];simp
theorem Pl.kidNodup {d:List Nd}(h:Pl d)(q:Nat):(kid d q).Nodup:=by
 rw[List.nodup_iff_count];intro y;have:=kid_count_le d q y;have:=(List.nodup_iff_count.1 h.nd) y;omega
theorem Pl.of_right {d:List Nd}(R:Right d):Pl d:=by
 refine⟨fun q y hy => ?_,?_,fun i hi hp => ?_⟩
 · have h1:=R.kr q y hy
   obtain⟨i,rfl⟩:∃ i:Nat,y=i:=⟨y.toNat,by omega⟩;have:=R.up hy;exact⟨by omega,by omega,by rw[Int.toNat_natCast];exact this.1⟩
 · rw[List.nodup_iff_count]
   intro y
   by_cases hy:y∈allK d
   · obtain⟨q,hq,hy⟩:=mem_allK.1 hy
     have h1:=R.kr q y hy;obtain⟨i,rfl⟩:∃ i:Nat,y=i:=⟨y.toNat,by omega⟩;have h2:=R.up hy;rcases R.pl i h2.2.2.1 with ⟨_,h3⟩ | ⟨_,r,h3,h4,_,h5,h6⟩
     · exact absurd hy (h3 q)
     · obtain rfl:r=q:=by have:=h2.1;omega
       have h7:=((times_one h4).2 ⟨h5,h6⟩).2;unfold timesM at h7;unfold allK;omega
   · rw[List.count_eq_zero_of_not_mem hy];omega
 · rcases R.neg hi with h | ⟨q,h,hq⟩
   · exact absurd h hp
   · exact mem_allK.2 ⟨q,hq,(R.down hi h).1⟩
theorem map_nodup {α β:Type}{f:α->β}:∀ {l:List α},l.Nodup->(∀ x∈l,∀ y∈l,f x=f y->x=y)->(l.map f).Nodup
 | [],_,_=>List.nodup_nil
 | x :: l,hn,h=>by
   rw[List.map_cons,List.nodup_cons];rw[List.nodup_cons]at hn;refine⟨fun hx => ?_,map_nodup hn.2 fun a ha b hb=>h a (List.mem_cons_of_mem _ ha) b (List.mem_cons_of_mem _ hb)⟩;obtain⟨y,hy,e⟩:=List.mem_map.1 hx;rw[h y (List.mem_cons_of_mem _ hy) x List.mem_cons_self e]at hy;exact hn.1 hy
theorem nodup_inj {l:List Nat}(hn:l.Nodup){i j:Nat}(hi:i<l.length)(hj:j<l.length)(e:l[i]=l[j]):i=j:=by
 have h:=List.pairwise_iff_getElem.1 hn;rcases Nat.lt_trichotomy i j with h1 | h1 | h1
 · exact absurd e (h i j hi hj h1)
 · exact h1
 · exact absurd e.symm (h j i hj hi h1)
theorem full_le {n:Nat}{l:List Nat}(h:∀ i,i<n->i∈l):n<=l.length:=by
 induction n generalizing l with
 | zero=>omega
 | succ n ih =>
   have h1:=ih (l:=l.erase n) (fun i hi=>(List.mem_erase_of_ne (by omega)).2 (h i (by omega)));have h2:=List.length_erase_of_mem (h n (by omega));have h3:=List.length_pos_of_mem (h n (by omega));omega
def seenK (d:List Nd)(i j:Nat):List Int:=allK (d.take i)++(kid d i).take j
theorem seenK_zero (d:List Nd):seenK d 0 0=[]:=by simp[seenK,allK]
theorem seenK_next {d:List Nd}{i:Nat}(h:i<d.length):seenK d i (kid d i).length=seenK d (i+1) 0:=by
 unfold seenK allK;rw[List.take_succ_eq_append_getElem h,List.flatMap_append,kid_some (List.getElem?_eq_getElem h)];simp
theorem seenK_step {d:List Nd}{i j:Nat}(hj:j<(kid d i).length):seenK d i (j+1)=seenK d i j++[(kid d i)[j]]:=by
 unfold seenK;rw[List.take_succ_eq_append_getElem hj,List.append_assoc]
theorem seenK_end (d:List Nd):seenK d d.length 0=allK d:=by simp[seenK]
theorem seen_sub {d:List Nd}{i j:Nat}(h:i<d.length):(seenK d i j).Sublist (allK d):=by
 rw[allK_at h];exact(List.Sublist.refl _).append ((List.take_sublist _ _).trans (List.sublist_append_left _ _))
structure SeenP (d:List Nd) (i j:Nat):Prop where
 kp:∀ q y,q<i->y∈kid d q->0<=y/\y<d.length/\par d y.toNat=q
 kj:∀ y,y∈(kid d i).take j->0<=y/\y<d.length/\par d y.toNat=i
 nd:(seenK d i j).Nodup
theorem SeenP.zero (d:List Nd):SeenP d 0 0:=⟨fun q y h=>by omega,fun y h=>by simp at h,by rw[seenK_zero];exact List.nodup_nil⟩
theorem SeenP.next {d:List Nd}{i:Nat}(h:SeenP d i (kid d i).length)(hi:i<d.length):SeenP d (i+1) 0:=by
 refine⟨fun q y hq hy => ?_,fun y hy=>by simp at hy,by rw[<- seenK_next hi];exact h.nd⟩
 by_cases e:q=i
 · subst e
   exact h.kj y (by rw[List.take_length];exact hy)
 · exact h.kp q y (by omega) hy
theorem SeenP.step {d:List Nd}{i j:Nat}(h:SeenP d i j)(hj:j<(kid d i).length)(h0:0<=(kid d i)[j]/\(kid d i)[j]<d.length/\par d (kid d i)[j].toNat=i)(hn:(kid d i)[j] ∉ seenK d i j):SeenP d i (j+1):=by
 refine⟨h.kp,fun y hy => ?_,?_⟩
 · rw[List.take_succ_eq_append_getElem hj,List.mem_append,List.mem_singleton]at hy
   rcases hy with hy | rfl
   · exact h.kj y hy
   · exact h0
 · rw[seenK_step hj]
   exact List.nodup_append.2 ⟨h.nd,by simp,fun a ha b hb=>by rw[List.mem_singleton]at hb;subst hb;rintro rfl;exact hn ha⟩
theorem SeenP.end' {d:List Nd}(h:SeenP d d.length 0)(hs:∀ i,i<d.length->par d i ≠ -1->(i:Int)∈allK d):Pl d:=by
 refine⟨fun q y hy => ?_,by rw[<- seenK_end];exact h.nd,hs⟩
 by_cases hq:q<d.length
 · exact h.kp q y hq hy
 · rw[kid_none (by omega)]at hy;simp at hy
theorem not_pl_kid {d:List Nd}{i j:Nat}(hj:j<(kid d i).length)(h:¬ (0<=(kid d i)[j]/\(kid d i)[j]<d.length/\par d (kid d i)[j].toNat=i)):¬ Pl d:=fun P=>h (P.kp i _ (List.getElem_mem hj))
theorem not_pl_twice {d:List Nd}{i j:Nat}(hi:i<d.length)(hj:j<(kid d i).length)(h:(kid d i)[j]∈seenK d i j):¬ Pl d:=fun P=>by
 have h1:=P.nd.sublist (seen_sub (j:=j+1) hi);rw[seenK_step hj]at h1;exact(List.nodup_append.1 h1).2.2 _ h _ (by simp) rfl
theorem not_pl_st {d:List Nd}{i:Nat}(hi:i<d.length)(hp:par d i ≠ -1)(h:(i:Int) ∉ allK d):¬ Pl d:=fun P=>h (P.st i hi hp)
def marksM (d:List Nd)(i j:Nat):List Bool:=(List.range d.length).map fun(y:Nat)=>decide ((y:Int)∈seenK d i j)
theorem marks_len (d:List Nd)(i j:Nat):(marksM d i j).length=d.length:=by simp[marksM]
theorem marks_zero (d:List Nd):marksM d 0 0=List.replicate d.length false:=by
 unfold marksM;rw[seenK_zero]
 apply List.ext_getElem
 · simp
 · intro i h1 h2;simp
theorem marks_get {d:List Nd}{i j y:Nat}(h:y<(marksM d i j).length):(marksM d i j)[y]=decide ((y:Int)∈seenK d i j):=by simp[marksM]
theorem marks_next {d:List Nd}{i:Nat}(h:i<d.length):marksM d i (kid d i).length=marksM d (i+1) 0:=by unfold marksM;rw[seenK_next h]
theorem marks_step {d:List Nd}{i j y:Nat}(hj:j<(kid d i).length)(hy:(kid d i)[j]=(y:Int)):marksM d i (j+1)=(marksM d i j).set y true:=by
 apply List.ext_getElem
 · simp[marksM]
 · intro k h1 h2
   rw[marks_get,List.getElem_set]
   by_cases e:y=k
   · rw[if_pos e,decide_eq_true_eq,seenK_step hj,hy,e];simp
   · rw[if_neg e,marks_get]
     refine decide_eq_decide.2 ?_;rw[seenK_step hj,hy,List.mem_append,List.mem_singleton];have:¬ ((k:Int)=(y:Int)):=by omega
     simp[this]
def rootsM (d:List Nd)(n:Nat):List Nat:=(List.range n).filter fun i=>decide (par d i = -1)
theorem roots_step (d:List Nd)(n:Nat):rootsM d (n+1)=rootsM d n++if par d n = -1 then [n] else []:=by
 unfold rootsM;rw[List.range_succ,List.filter_append]
 congr 1
 by_cases h:par d n = -1<;>simp[h]
theorem roots_len (d:List Nd)(n:Nat):(rootsM d n).length<=n:=by
 have:=List.length_filter_le (fun i=>decide (par d i = -1)) (List.range n);rw[List.length_range]at this;exact this
def kidN (d:List Nd)(i:Nat):List Nat:=(kid d i).map Int.toNat
structure RowP (d:List Nd) (row:List Nat) (t:Nat):Prop where
 eq:row=rootsM d d.length++(row.take t).flatMap (kidN d)
 nd:row.Nodup
 dp:∀ x∈row,x<d.length/\∃ k,DepP d k x
theorem RowP.start (d:List Nd):RowP d (rootsM d d.length) 0:=by
 refine⟨by simp,List.nodup_range.filter _,fun x hx => ?_⟩;unfold rootsM at hx;rw[List.mem_filter,List.mem_range,decide_eq_true_eq]at hx;exact⟨hx.1,0,hx.1,hx.2⟩
theorem RowP.len {d:List Nd}{row:List Nat}{t:Nat}(h:RowP d row t):row.length<=d.length:=nodup_le _ _ h.nd fun x hx=>(h.dp x hx).1
theorem RowP.step {d:List Nd}(P:Pl d){row:List Nat}{t:Nat}(h:RowP d row t)(ht:t<row.length):RowP d (row++kidN d row[t]) (t+1):=by
 have e1:(row++kidN d row[t]).take (t+1)=row.take t++[row[t]]:=by
  rw[List.take_append_of_le_length (by omega),List.take_succ_eq_append_getElem ht]
 have hk:∀ y∈kidN d row[t],y<d.length/\par d y=row[t]:=fun y hy=>by
  unfold kidN at hy;obtain⟨z,hz,rfl⟩:=List.mem_map.1 hy;have:=P.kp _ _ hz;exact⟨by omega,this.2.2⟩
 refine⟨?_,?_,fun x hx => ?_⟩
 · rw[e1,List.flatMap_append,<- List.append_assoc,<- h.eq]
   simp
 · refine List.nodup_append.2 ⟨h.nd,?_,fun a ha b hb => ?_⟩
   · unfold kidN
     refine map_nodup (P.kidNodup _) (fun x hx y hy e => ?_);have:=P.kp _ _ hx;have:=P.kp _ _ hy;omega
   · rintro rfl
     have h2:=hk a hb;rw[h.eq,List.mem_append]at ha;rcases ha with ha | ha
     · unfold rootsM at ha
       rw[List.mem_filter,decide_eq_true_eq]at ha;have:=ha.2;omega
     · obtain⟨x,hx,hax⟩:=List.mem_flatMap.1 ha
       unfold kidN at hax;obtain⟨z,hz,rfl⟩:=List.mem_map.1 hax;have h3:=(P.kp _ _ hz).2.2;obtain rfl:x=row[t]:=by omega
       obtain⟨j,hj,e⟩:=List.mem_iff_getElem.1 hx;rw[List.getElem_take]at e;simp at hj;have:=nodup_inj h.nd (by omega) ht e;omega
 · rw[List.mem_append]at hx
   rcases hx with hx | hx
   · exact h.dp x hx
   · have h2:=hk x hx
     obtain⟨_,k,hd⟩:=h.dp row[t] (List.getElem_mem ht);exact⟨h2.1,k+1,h2.1,row[t],h2.2,hd⟩
theorem RowP.all {d:List Nd}(P:Pl d){row:List Nat}(h:RowP d row row.length):row.length=d.length↔∀ i,i<d.length->∃ k,DepP d k i:=by
 have hin:∀(k i:Nat),DepP d k i->i∈row:=fun k=>by
  induction k with
  | zero =>
    intro i hi;rw[h.eq,List.mem_append];exact .inl (by unfold rootsM;rw[List.mem_filter,List.mem_range,decide_eq_true_eq];exact hi)
  | succ k ih =>
    intro i hi;obtain⟨hl,q,hq,hd⟩:=hi;have h1:=P.st i hl (by omega);obtain⟨r,hr,h2⟩:=mem_allK.1 h1;have h3:=(P.kp _ _ h2).2.2;rw[Int.toNat_natCast]at h3;obtain rfl:r=q:=by omega
    rw[h.eq,List.mem_append,List.take_length];exact .inr (List.mem_flatMap.2 ⟨r,ih r hd,by unfold kidN;exact List.mem_map.2 ⟨_,h2,Int.toNat_natCast i⟩⟩)
 constructor
 · intro e i hi
   have hi2:i∈row:=by
    by_cases hm:i∈row
    · exact hm
    · have h1:=nodup_le d.length (i :: row) (List.nodup_cons.2 ⟨hm,h.nd⟩) (fun x hx=>by
       rcases List.mem_cons.1 hx with rfl | hx
       · exact hi
       · exact(h.dp x hx).1)
      simp at h1;omega
   exact(h.dp i hi2).2
 · intro hd
   have h1:=h.len
   have h2:=full_le (n:=d.length) (l:=row) (fun i hi=>by
    obtain⟨k,hk⟩:=hd i hi
    exact hin k i hk)
   omega
def mayN (x:Nd):Bool:=mayM x&&(decide (x.c=[]) || holdM x)
def rightB (d:List Nd):Prop:=(∀(i:Nat) (x:Nd),d[i]? = some x->mayN x=true/\(x.k=1↔i=0))/\1<=d.length/\par d 0 = -1/\Pl d/\∀ i,i<d.length->∃ k,DepP d k i
theorem right_iff {d:List Nd}(hl:d.length<=300):rightB d↔Right d:=by
 constructor
 · rintro⟨h1,h2,h3,P,h5⟩
   have hm:∀(i:Nat) (x:Nd),d[i]? = some x->mayM x=true/\(x.c≠[]->holdM x=true):=fun i x hx=>by
    have:=(h1 i x hx).1;unfold mayN at this;rw[Bool.and_eq_true,Bool.or_eq_true,decide_eq_true_eq]at this;exact⟨this.1,fun h=>this.2.resolve_left h⟩
   have hkr:∀ i y,y∈kid d i->1<=y/\y<d.length:=fun i y hy=>by
    have h:=P.kp i y hy;refine⟨?_,h.2.1⟩
    by_cases e:y=0
    · subst e
      have:par d (0:Int).toNat=par d 0:=rfl;omega
    · omega
   refine⟨h2,hl,fun i x hx=>(hm i x hx).1,fun i x hx=>(h1 i x hx).2,fun i x hx hc=>(hm i x hx).2 hc,hkr,fun i hi => ?_,h5⟩
   by_cases hp:par d i = -1
   · refine .inl ⟨hp,fun q hq => ?_⟩
     have:=(P.kp q _ hq).2.2;rw[Int.toNat_natCast]at this;omega
   · obtain⟨q,hq,hy⟩:=mem_allK.1 (P.st i hi hp)
     have h6:=(P.kp q _ hy).2.2;rw[Int.toNat_natCast]at h6;refine .inr ⟨?_,q,h6,hq,?_,?_,fun r hr hy2 => ?_⟩
     · have:=(hkr q _ hy).1;omega
     · rw[holds_some (List.getElem?_eq_getElem hq)]
       refine(hm q _ (List.getElem?_eq_getElem hq)).2 fun e => ?_;rw[kid_some (List.getElem?_eq_getElem hq),e]at hy;simp at hy
     · have h7:=(List.nodup_iff_count.1 (P.kidNodup q)) (i:Int)
       have h8:=List.count_pos_iff.2 hy;omega
     · have h9:=(P.kp r _ hy2).2.2
       rw[Int.toNat_natCast]at h9;omega
 · intro R
   refine⟨fun i x hx=>⟨?_,R.rt i x hx⟩,R.one,R.root,Pl.of_right R,R.dep⟩;unfold mayN;rw[Bool.and_eq_true,Bool.or_eq_true,decide_eq_true_eq];refine⟨R.may i x hx,?_⟩
   by_cases hc:x.c=[]
   · exact .inl hc
   · exact .inr (R.kh i x hx hc)
end Go.Proofs.YtlnfbjbagmfpiaaGreatDoor.Dm
namespace Go.Proofs.YtlnfbjbagmfpiaaGreatDoor.Dm
def putOk (D:List Nd)(q n:Int):Prop:=0<=q/\q<(D.length:Int)/\1<=n/\n<(D.length:Int)/\holds D q.toNat=true
open Classical in
noncomputable def putR (D:List Nd) (q n:Int):List Nd × Int:=if checkM D≠0 then ([],checkM D) else if ¬ putOk D q n then ([],170) else if upM D n.toNat q.toNat=true then ([],172) else (putM D q.toNat n.toNat,0)
theorem putR_e1 {D:List Nd}{q n:Int}(h:checkM D≠0):putR D q n=([],checkM D):=by unfold putR;rw[if_pos h]
theorem putR_e2 {D:List Nd}{q n:Int}(h:checkM D=0)(h2:¬ putOk D q n):putR D q n=([],170):=by unfold putR;rw[if_neg (by simp[h]),if_pos h2]
theorem putR_e3 {D:List Nd}{q n:Nat}(h:checkM D=0)(h2:putOk D q n)(h3:upM D n q=true):putR D (q:Int) (n:Int)=([],172):=by unfold putR;rw[if_neg (by simp[h]),if_neg (fun h=>h h2),Int.toNat_natCast,Int.toNat_natCast,if_pos h3]
theorem putR_ok {D:List Nd}{q n:Nat}(h:checkM D=0)(h2:putOk D q n)(h3:upM D n q=false):putR D (q:Int) (n:Int)=(putM D q n,0):=by unfold putR;rw[if_neg (by simp[h]),if_neg (fun h=>h h2),Int.toNat_natCast,Int.toNat_natCast,if_neg (by rw[h3];decide)]
end Go.Proofs.YtlnfbjbagmfpiaaGreatDoor.Dm
