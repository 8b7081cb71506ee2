/- Documents as they lie in memory: nodes of eight cells, their attributes and their kids in rows of their own. Documents of one's own: what is written in them. The document's own: may a node have kids; how often is a node among all kids; is it among another one's. The document's own: is a node among another one's kids; may a node be. The document's own: may a node be. The document's own: May for every node; are a node's kids nodes; does one come to one that stands nowhere. -/
import Derived.Test.YtlnfbjbagmfpiaaGreatDoorBas
import Derived.Test.YtlnfbjbagmfpiaaGreatDoorDmZA
set_option maxRecDepth 100000
set_option maxHeartbeats 8000000
namespace Go.Proofs.YtlnfbjbagmfpiaaGreatDoor.Dm
open Go.RowKit
def inC (p:List Int):List Value:=p.map (Value.int .i64)
theorem inC_length (p:List Int):(inC p).length=p.length * 1:=by simp[inC]
theorem inC_one (p:List Int):∀ v∈inC p,v.oneCell'=true:=fun v hv=>by
 unfold inC at hv;rw[List.mem_map]at hv;obtain⟨y,_,rfl⟩:=hv;rfl
def IntIn (w:World)(v:Value)(p:List Int):Prop:=RowIn w v p.length 1 (inC p)
section
variable {w w':World} {v:Value} {p:List Int}
theorem IntIn.below (h:IntIn w v p)(hb:Below w.heap.size w w'):IntIn w' v p:=RowIn.below h hb
theorem IntIn.form (h:IntIn w v p):∃ a c,v=.slice a p.length c:=RowIn.form h
theorem IntIn.nil (w:World)(a:Option Addr)(c:Nat):IntIn w (.slice a 0 c) []:=⟨rfl,(fun _ h=>by cases h),.inl ⟨⟨a,c,rfl⟩,rfl⟩⟩
theorem IntIn.of {base:Nat}(h:w.ownsRow base 3 1 v p.length (inC p)):IntIn w v p:=RowIn.of_own h (inC_one p)
theorem IntIn.at {a:Option Addr}{c:Nat}(h:IntIn w (.slice a p.length c) p){k:Nat}(hk:k<p.length):∃ B off,a=some ⟨B,off,none⟩/\w.cell? ⟨B,off+k,none⟩=some (.int .i64 p[k]):=by
 obtain⟨B,off,h1,h2⟩:=RowIn.at (j:=0) (v := .int .i64 p[k]) h hk (by simp[inC,hk]);exact⟨B,off,h1,by simpa using h2⟩
theorem IntIn.u1 (h:IntIn w v p):U1.IntsIn w v p:=by
 rcases h.2.2 with ⟨⟨a,c,rfl⟩,e⟩ | ⟨B,off,cap,rfl,h2⟩
 · have e0:p=[]:=List.eq_nil_of_length_eq_zero e
   subst e0;exact .inl ⟨⟨a,c,rfl⟩,rfl⟩
 · exact .inr ⟨B,off,cap,rfl,fun j hj=>h2 j _ (by simp[inC,hj])⟩
end
def ndC (x:Nd)(av kv:Value):List Value:=[.int .i64 x.k,strV x.n,strV x.d,av,.int .i64 x.p,kv,.bool x.b,.bool x.s]
def ndsC:List Nd->(Nat->Value)->(Nat->Value)->List Value
 | [],_,_=>[]
 | x :: D,A,K=>ndC x (A 0) (K 0)++ndsC D (fun i=>A (i+1)) (fun i=>K (i+1))
theorem ndsC_length:∀(D:List Nd) (A K:Nat->Value),(ndsC D A K).length=D.length * 8
 | [],_,_=>rfl
 | x :: D,A,K=>by
   show(ndC x _ _++ndsC D _ _).length=_;rw[List.length_append,ndsC_length D,List.length_cons];show 8+_=_;omega
theorem ndsC_at:∀(D:List Nd) (A K:Nat->Value) (i j:Nat) (h:i<D.length),j<8->(ndsC D A K)[i * 8+j]? = (ndC D[i] (A i) (K i))[j]?
 | x :: D,A,K,0,j,_,hj=>by
   show(ndC x _ _++ndsC D _ _)[0 * 8+j]? = _;rw[Nat.zero_mul,Nat.zero_add,List.getElem?_append_left (by show j<8;exact hj)];rfl
 | x :: D,A,K,i+1,j,h,hj=>by
   show(ndC x _ _++ndsC D _ _)[(i+1) * 8+j]? = _;rw[List.getElem?_append_right (by show 8<=_;omega),show(i+1) * 8+j - (ndC x (A 0) (K 0)).length=i * 8+j by show(i+1) * 8+j - 8=_;omega];exact ndsC_at D _ _ i j (by simpa using h) hj
theorem ndsC_one:∀(D:List Nd) (A K:Nat->Value),(∀ i,i<D.length->(A i).oneCell'=true/\(K i).oneCell'=true)->∀ v∈ndsC D A K,v.oneCell'=true
 | [],_,_,_,v,hv=>by cases hv
 | x :: D,A,K,h,v,hv=>by
   have hv':v∈ndC x (A 0) (K 0)++ndsC D (fun i=>A (i+1)) (fun i=>K (i+1)):=hv;rcases List.mem_append.1 hv' with h1 | h1
   · have h0:=h 0 (by simp)
     unfold ndC at h1;simp only[List.mem_cons,List.not_mem_nil,or_false]at h1;rcases h1 with rfl | rfl | rfl | rfl | rfl | rfl | rfl | rfl
     · rfl
     · rfl
     · rfl
     · exact h0.1
     · rfl
     · exact h0.2
     · rfl
     · rfl
   · exact ndsC_one D _ _ (fun i hi=>h (i+1) (by simpa using hi)) v h1
theorem ndsC_app:∀(D E:List Nd) (A K:Nat->Value),ndsC (D++E) A K=ndsC D A K++ndsC E (fun i=>A (i+D.length)) (fun i=>K (i+D.length))
 | [],E,A,K=>rfl
 | x :: D,E,A,K=>by
   show ndC x _ _++ndsC (D++E) _ _=(ndC x _ _++ndsC D _ _)++_;rw[ndsC_app D E,List.append_assoc];simp only[List.length_cons,Nat.add_assoc]
theorem ndsC_same:∀(D:List Nd) (A K A' K':Nat->Value),(∀ i,i<D.length->A i=A' i/\K i=K' i)->ndsC D A K=ndsC D A' K'
 | [],_,_,_,_,_=>rfl
 | x :: D,A,K,A',K',h=>by
   show ndC x _ _++ndsC D _ _=ndC x _ _++ndsC D _ _;rw[(h 0 (by simp)).1,(h 0 (by simp)).2,ndsC_same D _ _ _ _ (fun i hi=>h (i+1) (by simpa using hi))]
structure DocIn (w:World) (sl:Value) (D:List Nd) (A K:Nat->Value):Prop where
 row:RowIn w sl D.length 8 (ndsC D A K)
 at':∀ i (h:i<D.length),AtIn w (A i) D[i].a
 kd:∀ i (h:i<D.length),IntIn w (K i) D[i].c
section
variable {w w':World} {sl:Value} {D:List Nd} {A K:Nat->Value}
theorem DocIn.below (h:DocIn w sl D A K)(hb:Below w.heap.size w w'):DocIn w' sl D A K:=⟨h.row.below hb,fun i hi=>(h.at' i hi).below hb,fun i hi=>(h.kd i hi).below hb⟩
theorem DocIn.form (h:DocIn w sl D A K):∃ a c,sl=.slice a D.length c:=h.row.form
theorem DocIn.node {a:Option Addr}{c:Nat}(h:DocIn w (.slice a D.length c) D A K){i:Nat}(hi:i<D.length):∃ B off,a=some ⟨B,off,none⟩/\w.cell? ⟨B,off+i * 8,none⟩=some (.int .i64 D[i].k)/\w.cell? ⟨B,off+i * 8+1,none⟩=some (strV D[i].n)/\w.cell? ⟨B,off+i * 8+2,none⟩=some (strV D[i].d)/\w.cell? ⟨B,off+i * 8+3,none⟩=some (A i)/\w.cell? ⟨B,off+i * 8+4,none⟩=some (.int .i64 D[i].p)/\w.cell? ⟨B,off+i * 8+5,none⟩=some (K i)/\w.cell? ⟨B,off+i * 8+6,none⟩=some (.bool D[i].b)/\w.cell? ⟨B,off+i * 8+7,none⟩=some (.bool D[i].s):=by
 rcases h.row.2.2 with ⟨_,e⟩ | ⟨B,off,cap,e1,e2⟩
 · omega
 · cases e1
   have g:∀ j v,(ndC D[i] (A i) (K i))[j]? = some v->j<8->w.cell? ⟨B,off+(i * 8+j),none⟩=some v:=fun j v hv hj=>e2 _ _ (by rw[ndsC_at D A K i j hi hj];exact hv);exact⟨B,off,rfl,g 0 _ rfl (by decide),by rw[Nat.add_assoc];exact g 1 _ rfl (by decide),by rw[Nat.add_assoc];exact g 2 _ rfl (by decide),by rw[Nat.add_assoc];exact g 3 _ rfl (by decide),by rw[Nat.add_assoc];exact g 4 _ rfl (by decide),by rw[Nat.add_assoc];exact g 5 _ rfl (by decide),by rw[Nat.add_assoc];exact g 6 _ rfl (by decide),by rw[Nat.add_assoc];exact g 7 _ rfl (by decide)⟩
end
end Go.Proofs.YtlnfbjbagmfpiaaGreatDoor.Dm
namespace Go.Proofs.YtlnfbjbagmfpiaaGreatDoor.Dm
open Go.RowKit
def upd (f:Nat->Value)(n:Nat)(v:Value):Nat->Value:=fun i=>if i=n then v else f i
theorem upd_self (f:Nat->Value)(n:Nat)(v:Value):upd f n v n=v:=if_pos rfl
theorem upd_ne {f:Nat->Value}{n i:Nat}{v:Value}(h:i≠n):upd f n v i=f i:=if_neg h
structure OwnD (w:World) (B:Nat) (sl:Value) (D:List Nd) (A K:Nat->Value):Prop where
 row:w.ownsRow B 39 8 sl D.length (ndsC D A K)
 at':∀ i (h:i<D.length),w.ownsRow B 41 2 (A i) D[i].a.length (atC D[i].a)
 kd:∀ i (h:i<D.length),w.ownsRow B 3 1 (K i) D[i].c.length (inC D[i].c)
 na:∀ i j,i<D.length->j<D.length->i≠j->∀ k,(A i).ownBlock=some k->(A j).ownBlock≠some k
 nk:∀ i j,i<D.length->j<D.length->i≠j->∀ k,(K i).ownBlock=some k->(K j).ownBlock≠some k
def OwnX (w:World)(B:Nat)(sl:Value)(D:List Nd):Prop:=∃ A K,OwnD w B sl D A K
theorem row_form {w:World}{B size n:Nat}{e:TypeId}{v:Value}{xs:List Value}(h:w.ownsRow B e size v n xs):∃ a c,v=.slice a n c:=by
 rcases rowForms h with ⟨rfl,rfl⟩ | ⟨g,c,rfl⟩
 · exact⟨_,_,rfl⟩
 · exact⟨_,_,rfl⟩
theorem one_of_row {w:World}{B size n:Nat}{e:TypeId}{v:Value}{xs:List Value}(h:w.ownsRow B e size v n xs):v.oneCell'=true:=by
 rcases rowForms h with ⟨rfl,_⟩ | ⟨g,c,rfl⟩<;>rfl
section
variable {w w':World} {B:Nat} {sl:Value} {D:List Nd} {A K:Nat->Value}
theorem OwnD.doc (h:OwnD w B sl D A K):DocIn w sl D A K :=
 ⟨RowIn.of_own h.row (ndsC_one D A K fun i hi=>⟨one_of_row (h.at' i hi),one_of_row (h.kd i hi)⟩),fun i hi=>RowIn.of_own (h.at' i hi) (atC_one _),fun i hi=>IntIn.of (h.kd i hi)⟩
theorem OwnD.nil (w:World)(B:Nat)(A K:Nat->Value):OwnD w B (.slice none 0 0) [] A K:=⟨World.ownsRow_nil _ _ _ _,fun i h=>(by cases h),fun i h=>(by cases h),fun i j h=>(by cases h),fun i j h=>(by cases h)⟩
theorem OwnD.form (h:OwnD w B sl D A K):∃ a c,sl=.slice a D.length c:=h.doc.form
theorem OwnD.below (h:OwnD w B sl D A K)(hb:Below w.heap.size w w'):OwnD w' B sl D A K :=
 ⟨(Kp.of_below (P:=fun _ _=>False) hb).row h.row fun _ _ _=>id,fun i hi=>(Kp.of_below (P:=fun _ _=>False) hb).row (h.at' i hi) fun _ _ _=>id,fun i hi=>(Kp.of_below (P:=fun _ _=>False) hb).row (h.kd i hi) fun _ _ _=>id,h.na,h.nk⟩
end
theorem OwnX.below {w w':World}{B:Nat}{sl:Value}{D:List Nd}(h:OwnX w B sl D)(hb:Below w.heap.size w w'):OwnX w' B sl D:=by
 obtain⟨A,K,h⟩:=h;exact⟨A,K,h.below hb⟩
theorem OwnX.form {w:World}{B:Nat}{sl:Value}{D:List Nd}(h:OwnX w B sl D):∃ a c,sl=.slice a D.length c:=by
 obtain⟨A,K,h⟩:=h;exact h.form
theorem OwnD.grow {w w':World} {B:Nat} {sl sl':Value} {D:List Nd} {A K:Nat->Value} {x:Nd} {av kv:Value} (h:OwnD w B sl D A K) (k:Kp (fun j t=>t=39/\B<=j) w w')
 (hrow:w'.ownsRow B 39 8 sl' (D.length+1) (ndsC D A K++ndC x av kv)) (ha:w'.ownsRow B 41 2 av x.a.length (atC x.a)) (hk:w'.ownsRow B 3 1 kv x.c.length (inC x.c))
 (na:∀ i,i<D.length->∀ j,(A i).ownBlock=some j->av.ownBlock≠some j) (nk:∀ i,i<D.length->∀ j,(K i).ownBlock=some j->kv.ownBlock≠some j):OwnD w' B sl' (D++[x]) (upd A D.length av) (upd K D.length kv):=by
 have e:ndsC (D++[x]) (upd A D.length av) (upd K D.length kv)=ndsC D A K++ndC x av kv:=by
  rw[ndsC_app,ndsC_same D (upd A D.length av) (upd K D.length kv) A K (fun i hi=>⟨upd_ne (by omega),upd_ne (by omega)⟩)];show _++(ndC x (upd A D.length av (0+D.length)) (upd K D.length kv (0+D.length))++[])=_;rw[Nat.zero_add,upd_self,upd_self,List.append_nil]
 refine⟨by rw[e,List.length_append];exact hrow,fun i hi => ?_,fun i hi => ?_,fun i j hi hj hij q hq => ?_,fun i j hi hj hij q hq => ?_⟩
 · by_cases hlt:i<D.length
   · rw[upd_ne (by omega),List.getElem_append_left hlt]
     exact k.row (h.at' i hlt) fun j _ _ hp=>absurd hp.1 (by decide)
   · have e2:i=D.length:=by simp at hi;omega
     subst e2;rw[upd_self,List.getElem_append_right (Nat.le_refl _)]
     simpa using ha
 · by_cases hlt:i<D.length
   · rw[upd_ne (by omega),List.getElem_append_left hlt]
     exact k.row (h.kd i hlt) fun j _ _ hp=>absurd hp.1 (by decide)
   · have e2:i=D.length:=by simp at hi;omega
     subst e2;rw[upd_self,List.getElem_append_right (Nat.le_refl _)]
     simpa using hk
 · simp only[List.length_append,List.length_cons,List.length_nil]at hi hj
   by_cases h1:i=D.length
   · subst h1
     rw[upd_self]at hq;rw[upd_ne (by omega)];exact fun h2=>na j (by omega) q h2 hq
   · rw[upd_ne h1]at hq
     by_cases h2:j=D.length
     · subst h2
       rw[upd_self];exact na i (by omega) q hq
     · rw[upd_ne h2]
       exact h.na i j (by omega) (by omega) hij q hq
 · simp only[List.length_append,List.length_cons,List.length_nil]at hi hj
   by_cases h1:i=D.length
   · subst h1
     rw[upd_self]at hq;rw[upd_ne (by omega)];exact fun h2=>nk j (by omega) q h2 hq
   · rw[upd_ne h1]at hq
     by_cases h2:j=D.length
     · subst h2
       rw[upd_self];exact nk i (by omega) q hq
     · rw[upd_ne h2]
       exact h.nk i j (by omega) (by omega) hij q hq
theorem OwnD.setDoc {w:World}{B g j:Nat}{sl v:Value}{D:List Nd}{A K:Nat->Value}{c:Array Value}(h:OwnD w B sl D A K)(hg:w.heap[g]? = some (.cells c 24 (0,0))):OwnD (w.setCell ⟨g,j,none⟩ v) B sl D A K:=by
 have kS:Kp (fun k _=>k=g) w (w.setCell ⟨g,j,none⟩ v):=Kp.of_set hg _ rfl;exact⟨kS.row h.row fun k hk _ e=>row_ne h.row hg (by decide) (by rw[hk,e]),fun i hi=>kS.row (h.at' i hi) fun k hk _ e=>row_ne (h.at' i hi) hg (by decide) (by rw[hk,e]),fun i hi=>kS.row (h.kd i hi) fun k hk _ e=>row_ne (h.kd i hi) hg (by decide) (by rw[hk,e]),h.na,h.nk⟩
theorem row_low {w:World}{B B' size n:Nat}{e:TypeId}{v:Value}{xs:List Value}(h:w.ownsRow B e size v n xs)(hB:B'<=B):w.ownsRow B' e size v n xs:=by
 obtain⟨h1,h2⟩:=h;refine⟨h1,?_⟩;rcases h2 with h2 | ⟨g,cap,cur,a,b,c⟩
 · exact .inl h2
 · exact .inr ⟨g,cap,cur,a,Nat.le_trans hB b,c⟩
theorem OwnD.low {w:World}{B B':Nat}{sl:Value}{D:List Nd}{A K:Nat->Value}(h:OwnD w B sl D A K)(hB:B'<=B):OwnD w B' sl D A K:=⟨row_low h.row hB,fun i hi=>row_low (h.at' i hi) hB,fun i hi=>row_low (h.kd i hi) hB,h.na,h.nk⟩
theorem row_below {w w':World}{B size n:Nat}{e:TypeId}{v:Value}{xs:List Value}(h:w.ownsRow B e size v n xs)(b:Below w.heap.size w w'):w'.ownsRow B e size v n xs:=(Kp.of_below (P:=fun _ _=>False) b).row h fun _ _ _=>id
theorem OwnD.grown {w5 w6:World}{B:Nat}{sl:Value}{D:List Nd}{A K:Nat->Value}(h5:OwnD w5 B sl D A K)(hg:w5.grownBy w6 sl.ownBlock):Kp (fun j t=>t=39/\B<=j) w5 w6:=by
 have k0:Kp (fun j _=>sl.ownBlock=some j) w5 w6:=Kp.of_grown hg (fun k c t fr hk _=>hk) fun k hk=>by
  obtain⟨cur,e,_⟩:=row_block h5.row hk;exact⟨_,_,_,e⟩
 exact k0.mono fun k c t fr hk hp=>by
  obtain⟨cur,e,hb,_⟩:=row_block h5.row hp;rw[hk]at e
  cases e
  exact⟨rfl,hb⟩
theorem OwnD.more {wr w3 w5 w6:World} {B:Nat} {sl sl' av kv:Value} {D:List Nd} {A K:Nat->Value} {x:Nd} (h:OwnD wr B sl D A K) (ra:w3.ownsRow wr.heap.size 41 2 av x.a.length (atC x.a)) (rk:w3.ownsRow wr.heap.size 3 1 kv x.c.length (inC x.c)) (b3:Below wr.heap.size wr w3) (b5:Below w3.heap.size w3 w5) (hB:B<=wr.heap.size)
 (hown:w6.ownsRow B 39 8 sl' (D.length+1) (ndsC D A K++ndC x av kv)) (hg:w5.grownBy w6 sl.ownBlock):OwnD w6 B sl' (D++[x]) (upd A D.length av) (upd K D.length kv):=by
 have h5:=(h.below b3).below b5;have k:=h5.grown hg;refine h5.grow k hown (k.row (row_low (row_below ra b5) hB) fun j _ _ e=>absurd e.1 (by decide)) (k.row (row_low (row_below rk b5) hB) fun j _ _ e=>absurd e.1 (by decide)) (fun i hi j hj e => ?_) (fun i hi j hj e => ?_)
 · have h1:=(row_block (h.at' i hi) hj).choose_spec.2.2
   have h2:=(ra.lt j e).1;omega
 · have h1:=(row_block (h.kd i hi) hj).choose_spec.2.2
   have h2:=(rk.lt j e).1;omega
theorem ndsC_setP:∀(D:List Nd) (A K:Nat->Value) (i:Nat) (h:i<D.length) (p:Int),(ndsC D A K).set (i * 8+4) (.int .i64 p)=ndsC (D.set i { D[i]with p:=p }) A K
 | x :: D,A,K,0,_,p=>rfl
 | x :: D,A,K,i+1,h,p=>by
   show(ndC x _ _++ndsC D _ _).set _ _=ndC x _ _++ndsC (D.set i _) _ _;rw[show(i+1) * 8+4=(ndC x (A 0) (K 0)).length+(i * 8+4) by show _=8+_;omega,List.set_append_right _ _ (by omega)];rw[Nat.add_sub_cancel_left];exact congrArg _ (ndsC_setP D _ _ i (by simpa using h) p)
theorem ndsC_setK:∀(D:List Nd) (A K:Nat->Value) (i:Nat) (_:i<D.length) (kv:Value),(ndsC D A K).set (i * 8+5) kv=ndsC D A (upd K i kv)
 | x :: D,A,K,0,_,kv=>by
   show ndC x (A 0) kv++ndsC D _ _=ndC x (A 0) (upd K 0 kv 0)++ndsC D _ _;rw[upd_self];exact congrArg _ (ndsC_same D _ _ _ _ fun i _=>⟨rfl,(upd_ne (by omega)).symm⟩)
 | x :: D,A,K,i+1,h,kv=>by
   show(ndC x _ _++ndsC D _ _).set _ _=ndC x (A 0) (upd K (i+1) kv 0)++ndsC D _ _;rw[upd_ne (by omega),show(i+1) * 8+5=(ndC x (A 0) (K 0)).length+(i * 8+5) by show _=8+_;omega,List.set_append_right _ _ (by omega),Nat.add_sub_cancel_left];have:=ndsC_setK D (fun i=>A (i+1)) (fun i=>K (i+1)) i (by simpa using h) kv;rw[this];exact congrArg _ (ndsC_same D _ _ _ _ fun j _=>⟨rfl,by unfold upd;simp⟩)
theorem ndsC_setA:∀(D:List Nd) (A K:Nat->Value) (i:Nat) (_:i<D.length) (av:Value),(ndsC D A K).set (i * 8+3) av=ndsC D (upd A i av) K
 | x :: D,A,K,0,_,av=>by
   show ndC x av (K 0)++ndsC D _ _=ndC x (upd A 0 av 0) (K 0)++ndsC D _ _;rw[upd_self];exact congrArg _ (ndsC_same D _ _ _ _ fun i _=>⟨(upd_ne (by omega)).symm,rfl⟩)
 | x :: D,A,K,i+1,h,av=>by
   show(ndC x _ _++ndsC D _ _).set _ _=ndC x (upd A (i+1) av 0) (K 0)++ndsC D _ _;rw[upd_ne (by omega),show(i+1) * 8+3=(ndC x (A 0) (K 0)).length+(i * 8+3) by show _=8+_;omega,List.set_append_right _ _ (by omega),Nat.add_sub_cancel_left];have:=ndsC_setA D (fun i=>A (i+1)) (fun i=>K (i+1)) i (by simpa using h) av;rw[this];exact congrArg _ (ndsC_same D _ _ _ _ fun j _=>⟨by unfold upd;simp,rfl⟩)
theorem ndsC_same2:∀(D E:List Nd) (A K:Nat->Value),D.length=E.length->(∀(i:Nat) (x y:Nd),D[i]? = some x->E[i]? = some y->x.k=y.k/\x.n=y.n/\x.d=y.d/\x.p=y.p/\x.b=y.b/\x.s=y.s)->ndsC D A K=ndsC E A K
 | [],[],_,_,_,_=>rfl
 | x :: D,y :: E,A,K,h,g=>by
   obtain⟨e1,e2,e3,e4,e5,e6⟩:=g 0 x y rfl rfl;show ndC x _ _++ndsC D _ _=ndC y _ _++ndsC E _ _;rw[ndsC_same2 D E _ _ (by simpa using h) (fun i x' y' hx hy=>g (i+1) x' y' hx hy)];unfold ndC;rw[e1,e2,e3,e4,e5,e6]
def BlkT (T:Nat)(n:Nat)(sl:Value)(A K:Nat->Value):Prop:=(∀ k,sl.ownBlock=some k->k<T)/\∀ i,i<n->(∀ k,(A i).ownBlock=some k->k<T)/\(∀ k,(K i).ownBlock=some k->k<T)
theorem OwnD.blk {w:World}{B:Nat}{sl:Value}{D:List Nd}{A K:Nat->Value}(h:OwnD w B sl D A K):BlkT w.heap.size D.length sl A K:=by
 refine⟨fun k hk=>(row_block h.row hk).elim fun _ e=>e.2.2,fun i hi=>⟨fun k hk=>(row_block (h.at' i hi) hk).elim fun _ e=>e.2.2,fun k hk=>(row_block (h.kd i hi) hk).elim fun _ e=>e.2.2⟩⟩
end Go.Proofs.YtlnfbjbagmfpiaaGreatDoor.Dm
namespace Go.Proofs.YtlnfbjbagmfpiaaGreatDoor.Dm
open Go.RowKit
theorem holds_hid (k:Int)(N D:ByteArray)(p:Int)(b s:Bool):Hid (∀ W av kv,Calls Tryz.prog 118 #[.agg #[.int .i64 k,.string N,.string D,av,.int .i64 p,kv,.bool b,.bool s]] W fun e w'=>e=.returned (.bool (decide (k=1) || decide (k=2)))/\Below W.heap.size W w'):=Lib.hid fun w av kv=>by
 have al:=(Below.refl w.heap.size w).alloc (Nat.le_refl _) (.cells #[.int .i64 k,.string N,.string D,av,.int .i64 p,kv,.bool b,.bool s] 39);have hbx:=new_block w (.cells #[.int .i64 k,.string N,.string D,av,.int .i64 p,kv,.bool b,.bool s] 39);have e0:=cell_of hbx 0;have HB:=Lib.hid al;clear al hbx
 by_cases h1:k=1
 · subst h1
   go_enter Tryz.func118,Tryz.ntmps118
   go_wp2
   go_ret
   exact⟨rfl,HB.out⟩
 · have z1:decide (k=1)=false:=decide_eq_false h1
   by_cases h2:k=2
   · subst h2
     go_enter Tryz.func118,Tryz.ntmps118
     go_wp2
     go_ret
     exact⟨rfl,HB.out⟩
   · have z2:decide (k=2)=false:=decide_eq_false h2
     go_enter Tryz.func118,Tryz.ntmps118
     go_wp2
     go_ret
     exact⟨by simp[h1,h2],HB.out⟩
theorem docBox (w:World){sl:Value}{D:List Nd}{A K:Nat->Value}(h:DocIn w sl D A K):DocIn (w.alloc (.cells #[sl] 24)) sl D A K/\(w.alloc (.cells #[sl] 24)).heap[w.heap.size]? = some (.cells #[sl] 24 (0,0))/\Below w.heap.size w (w.alloc (.cells #[sl] 24)):=by
 have al:=(Below.refl w.heap.size w).alloc (Nat.le_refl _) (.cells #[sl] 24);exact⟨h.below al,new_block w _,al⟩
def cntU (D:List Nd)(n:Int)(i j:Nat):Nat:=((D.take i).flatMap (·.c)).count n+((match D[i]? with | some x=>x.c | none=>[]).take j).count n
theorem cntU_zero (D:List Nd)(n:Int):cntU D n 0 0=0:=by simp[cntU]
theorem cntU_next {D:List Nd}{n:Int}{i:Nat}(h:i<D.length):cntU D n i D[i].c.length=cntU D n (i+1) 0:=by
 unfold cntU;rw[List.getElem?_eq_getElem h,List.take_add_one,List.getElem?_eq_getElem h,List.flatMap_append,List.count_append];simp
theorem cntU_step {D:List Nd}{n:Int}{i j:Nat}(h:i<D.length)(hj:j<D[i].c.length):cntU D n i (j+1)=cntU D n i j+if D[i].c[j]=n then 1 else 0:=by
 unfold cntU;rw[List.getElem?_eq_getElem h];simp only[List.take_add_one,List.getElem?_eq_getElem hj,Option.toList_some,List.count_append,List.count_singleton,beq_iff_eq];omega
theorem cntU_end (D:List Nd)(n:Nat):cntU D (n:Int) D.length 0=timesM D n:=by simp[cntU,timesM]
def FitN (x:Nd):Prop:=x.n.length<=1000/\x.d.length<=10000/\x.a.length<=1000/\x.c.length<=1000/\∀ y∈x.a,y.1.length<=10000/\y.2.length<=10000
def FitD (D:List Nd):Prop:=D.length<=400/\∀ x∈D,FitN x
theorem flat_len {D:List Nd}(h:∀ x∈D,FitN x):(D.flatMap (·.c)).length<=D.length * 1000:=by
 induction D with
 | nil=>simp
 | cons x D ih =>
   have h1:=ih fun y hy=>h y (List.mem_cons_of_mem _ hy);have h2:=(h x (List.mem_cons_self ..)).2.2.2.1;rw[List.flatMap_cons,List.length_append,List.length_cons];omega
theorem cntU_le {D:List Nd}(h:FitD D)(n:Int)(i j:Nat):cntU D n i j<=401000:=by
 unfold cntU;have h1:=List.count_le_length (a:=n) (l:=(D.take i).flatMap (·.c));have h2:=flat_len (D:=D.take i) fun x hx=>h.2 x (List.mem_of_mem_take hx);have h3:=h.1;have h4:(D.take i).length<=D.length:=List.length_take_le' _ _
 have h5:((match D[i]? with | some x=>x.c | none=>[]).take j).count n<=1000:=by
  refine Nat.le_trans (List.count_le_length ..) (Nat.le_trans (List.length_take_le' _ _) ?_);split
  · rename_i x hx
    exact(h.2 x (List.mem_of_getElem? hx)).2.2.2.1
  · exact Nat.zero_le _
 omega
theorem times_hid (D:List Nd)(hf:FitD D)(m:Nat):Hid (∀ W sl A K,DocIn W sl D A K->Calls Tryz.prog 119 #[.agg #[sl],.int .i64 (m:Int)] W fun e w'=>e=.returned (.int .i64 (timesM D m:Int))/\Below W.heap.size W w'):=Lib.hid fun w sl A K hd=>by
 obtain⟨a,c,rfl⟩:=hd.form;obtain⟨d1,b1,l1⟩:=docBox w hd;have hfl:=hf.1;have HF:=Lib.hid hf;generalize hw1:w.alloc (.cells #[.slice a D.length c] 24)=w1 at d1 b1 l1;have e0:=cell_of b1 0;have H1:=Lib.hid (And.intro d1 l1);clear hd d1 b1 l1 hf
 go_enter Tryz.func119,Tryz.ntmps119
 go_wp2
 clear hw1;generalize w.heap.size=R at e0 ⊢
 go_loopw [5,6] (fun k i wr=>∃(u:Nat),i=.int .i64 u/\u<=D.length/\k=.int .i64 (cntU D (m:Int) u 0:Nat)/\wr=w1) (fun _ i _=>D.length - (intOf i).toNat)
 case atStart=>exact⟨0,rfl,Nat.zero_le _,by rw[cntU_zero];rfl,rfl⟩
 case round =>
  obtain⟨u,rfl,hu,rfl,rfl⟩:=hrel
  by_cases hlt:u<D.length
  · obtain⟨B,off,rfl,c0,c1,c2,c3,c4,c5,c6,c7⟩:=H1.out.1.node hlt
    obtain⟨ka,kc,hk⟩:=(H1.out.1.kd u hlt).form;rw[hk]at c5;have HK:Hid (IntIn wr (.slice ka D[u].c.length kc) D[u].c):=Lib.hid (by rw[<- hk];exact H1.out.1.kd u hlt);have zu:(u:Int)<(D.length:Int):=by omega
    clear hk c0 c1 c2 c3 c4 c6 c7;have hlen:D[u].c.length<=1000:=(HF.out.2 _ (List.getElem_mem hlt)).2.2.2.1;have HST:Hid (∀ j,(h:j<D[u].c.length)->cntU D (m:Int) u (j+1)=cntU D (m:Int) u j+if D[u].c[j]=(m:Int) then 1 else 0):=Lib.hid fun j h=>cntU_step hlt h;have HNX:Hid (cntU D (m:Int) u D[u].c.length=cntU D (m:Int) (u+1) 0):=Lib.hid (cntU_next hlt);generalize hC:D[u].c=C at HK HST HNX hlen c5;clear hC;obtain⟨w2,rfl⟩:∃ w2:World,w2=wr:=⟨_,rfl⟩
    go_wp2
    go_hide hQ
    go_loopw [5,7] (fun k j wr=>∃(v:Nat),j=.int .i64 v/\v<=C.length/\k=.int .i64 (cntU D (m:Int) u v:Nat)/\wr=w2) (fun _ j _=>C.length - (intOf j).toNat)
    case atStart=>exact⟨0,rfl,Nat.zero_le _,rfl,rfl⟩
    case round =>
     obtain⟨v,rfl,hv,rfl,rfl⟩:=hrel;have hcl:=cntU_le HF.out (m:Int) u v
     by_cases hlv:v<C.length
     · obtain⟨B2,off2,rfl,k0⟩:=HK.out.at hlv
       have zv:(v:Int)<(C.length:Int):=by omega
       have hst:=HST.out v hlv;generalize hq:cntU D (m:Int) u v=q at hcl hst ⊢;clear hq;generalize C[v]=y at k0 hst
       by_cases hy:y=(m:Int)
       · have zy:(y==(m:Int))=true:=by simp[hy]
         rw[if_pos hy]at hst;have HS2:=Lib.hid hst;clear hy hst
         go_wp2
         go_roundw
         case rel=>exact⟨v+1,by go_num,by omega,by rw[HS2.out];go_num,trivial⟩
         case measure=>simp[intOf];omega
       · have zy:(y==(m:Int))=false:=by simp[hy]
         rw[if_neg hy,Nat.add_zero]at hst;have HS2:=Lib.hid hst;clear hst
         go_wp2
         go_roundw
         case rel=>exact⟨v+1,by go_num,by omega,by rw[HS2.out];rfl,trivial⟩
         case measure=>simp[intOf];omega
     · obtain rfl:v=C.length:=by omega
       have zv:¬ (C.length:Int)<(C.length:Int):=by omega
       rw[HNX.out]
       go_wp2_with fail
       subst hQ
       go_wp2
       go_roundw
       case rel=>exact⟨u+1,by go_num,by omega,rfl,trivial⟩
       case measure=>simp[intOf];omega
  · obtain rfl:u=D.length:=by omega
    rw[cntU_end]
    go_wp2
    go_ret
    exact⟨rfl,H1.out.2⟩
end Go.Proofs.YtlnfbjbagmfpiaaGreatDoor.Dm
namespace Go.Proofs.YtlnfbjbagmfpiaaGreatDoor.Dm
open Go.RowKit
theorem mem_take_succ {C:List Int}{n:Int}{v:Nat}(h:v<C.length)(hn:n ∉ C.take v)(hy:C[v]≠n):n ∉ C.take (v+1):=by
 rw[List.take_add_one,List.getElem?_eq_getElem h];simp only[Option.toList_some,List.mem_append,List.mem_singleton,not_or];exact⟨hn,fun e=>hy e.symm⟩
theorem has_hid (D:List Nd)(hf:FitD D)(q:Nat)(n:Int)(hq:q<D.length):Hid (∀ W sl A K,DocIn W sl D A K->Calls Tryz.prog 120 #[.agg #[sl],.int .i64 (q:Int),.int .i64 n] W fun e w'=>e=.returned (.bool (decide (n∈D[q].c)))/\Below W.heap.size W w'):=Lib.hid fun w sl A K hd=>by
 obtain⟨a,c,rfl⟩:=hd.form;obtain⟨d1,b1,l1⟩:=docBox w hd;have hfl:=hf.1;generalize hw1:w.alloc (.cells #[.slice a D.length c] 24)=w1 at d1 b1 l1;have e0:=cell_of b1 0;obtain⟨B,off,rfl,c0,c1,c2,c3,c4,c5,c6,c7⟩:=d1.node hq;obtain⟨ka,kc,hk⟩:=(d1.kd q hq).form;rw[hk]at c5;have HK:Hid (IntIn w1 (.slice ka D[q].c.length kc) D[q].c):=Lib.hid (by rw[<- hk];exact d1.kd q hq);have H1:=Lib.hid l1;have hlen:D[q].c.length<=1000:=(hf.2 _ (List.getElem_mem hq)).2.2.2.1;have zq:(q:Int)<(D.length:Int):=by omega
 clear hd d1 b1 l1 hf hk c0 c1 c2 c3 c4 c6 c7;generalize hC:D[q].c=C at HK hlen c5 ⊢;clear hC
 go_enter Tryz.func120,Tryz.ntmps120
 go_wp2
 clear hw1;generalize w.heap.size=R at e0 ⊢
 go_loopw [7] (fun j wr=>∃(v:Nat),j=.int .i64 v/\v<=C.length/\Hid (n ∉ C.take v)/\wr=w1) (fun j _=>C.length - (intOf j).toNat)
 case atStart=>exact⟨0,rfl,Nat.zero_le _,Lib.hid (by simp),rfl⟩
 case round =>
  obtain⟨v,rfl,hv,HN,rfl⟩:=hrel
  by_cases hlv:v<C.length
  · obtain⟨B2,off2,rfl,k0⟩:=HK.out.at hlv
    have zv:(v:Int)<(C.length:Int):=by omega
    obtain⟨y,hy0⟩:∃ y,C[v]=y:=⟨_,rfl⟩;rw[hy0]at k0
    by_cases hy:y=n
    · have zy:(y==n)=true:=by simp[hy]
      have hm:decide (n∈C)=true:=decide_eq_true (by rw[<- hy,<- hy0];exact List.getElem_mem hlv);clear hy hy0
      go_wp2
      go_ret
      exact⟨by rw[hm];rfl,H1.out⟩
    · have zy:(y==n)=false:=by simp[hy]
      have HN2:=Lib.hid (mem_take_succ hlv HN.out (by rw[hy0];exact hy));clear hy hy0 HN
      go_wp2
      go_roundw
      case rel=>exact⟨v+1,by go_num,by omega,HN2,trivial⟩
      case measure=>simp[intOf];omega
  · obtain rfl:v=C.length:=by omega
    have hm:decide (n∈C)=false:=decide_eq_false (by have:=HN.out;rw[List.take_length]at this;exact this);clear HN
    go_wp2
    go_ret
    exact⟨by rw[hm];rfl,H1.out⟩
def Unlike (A:List (List UInt8 × List UInt8))(i:Nat):Prop:=∀(p q:Nat) (hq:q<A.length),q<i->(hp:p<q)->(A[p]'(by omega)).1≠A[q].1
theorem unlike_nodup {A:List (List UInt8 × List UInt8)}(h:Unlike A A.length):(A.map Prod.fst).Nodup:=by
 rw[List.nodup_iff_pairwise_ne,List.pairwise_iff_getElem];intro i j hi hj hij;simp only[List.length_map]at hi hj;simp only[List.getElem_map];exact h i j hj hj hij
theorem like_nodup {A:List (List UInt8 × List UInt8)}{p q:Nat}(hq:q<A.length)(hp:p<q)(h:(A[p]'(by omega)).1=A[q].1):¬ (A.map Prod.fst).Nodup:=by
 rw[List.nodup_iff_pairwise_ne,List.pairwise_iff_getElem];intro g;have:=g p q (by simp;omega) (by simpa using hq) hp;simp only[List.getElem_map]at this;exact this h
end Go.Proofs.YtlnfbjbagmfpiaaGreatDoor.Dm
namespace Go.Proofs.YtlnfbjbagmfpiaaGreatDoor.Dm
open Go.RowKit
theorem arr_empty (x:Array UInt8):x.isEmpty=decide (x=#[]):=by
 cases h:x.isEmpty
 · symm
   rw[decide_eq_false_iff_not];intro e;rw[e]at h
   cases h
 · symm
   rw[decide_eq_true_eq];exact Array.isEmpty_iff.1 h
theorem text_ext {X Y:ByteArray}(h:X.data.toList=Y.data.toList):X=Y:=ByteArray.ext (Array.toList_inj.1 h)
theorem may_one (N D:ByteArray)(p:Int)(b s:Bool)(A:List (List UInt8 × List UInt8))(a:Option Addr)(c:Nat)(kv:Value)(w:World):Calls Tryz.prog 82 #[.agg #[.int .i64 1,.string N,.string D,.slice a A.length c,.int .i64 p,kv,.bool b,.bool s]] w fun e w'=>e=.returned (.bool (decide (A.length=0) && !b && !s&&decide (N.data.toList=[])&&decide (D.data.toList=[])))/\Below w.heap.size w w':=by
 have al:=(Below.refl w.heap.size w).alloc (Nat.le_refl _) (.cells #[.int .i64 1,.string N,.string D,.slice a A.length c,.int .i64 p,kv,.bool b,.bool s] 39);have hbx:=new_block w (.cells #[.int .i64 1,.string N,.string D,.slice a A.length c,.int .i64 p,kv,.bool b,.bool s] 39);generalize hw1:w.alloc (.cells #[.int .i64 1,.string N,.string D,.slice a A.length c,.int .i64 p,kv,.bool b,.bool s] 39)=w1 at al hbx;have e0:=cell_of hbx 0;have e1:=cell_of hbx 1;have e2:=cell_of hbx 2;have e3:=cell_of hbx 3;have e6:=cell_of hbx 6;have e7:=cell_of hbx 7;have HB:=Lib.hid al;clear al hbx
 go_enter Tryz.func82,Tryz.ntmps82
 go_wp2
 all_goals go_ret
 all_goals refine⟨?_,HB.out⟩
 all_goals clear hw1 e0 e1 e2 e3 e6 e7
 all_goals simp_all [ByteArray.toList_eq]
 all_goals first | done | exact arr_empty _
theorem may_three (N D:ByteArray)(p:Int)(b s:Bool)(A:List (List UInt8 × List UInt8))(a:Option Addr)(c:Nat)(kv:Value)(w:World):Calls Tryz.prog 82 #[.agg #[.int .i64 3,.string N,.string D,.slice a A.length c,.int .i64 p,kv,.bool b,.bool s]] w fun e w'=>e=.returned (.bool (decide (A.length=0) && !b && !s&&decide (N.data.toList=[])))/\Below w.heap.size w w':=by
 have al:=(Below.refl w.heap.size w).alloc (Nat.le_refl _) (.cells #[.int .i64 3,.string N,.string D,.slice a A.length c,.int .i64 p,kv,.bool b,.bool s] 39);have hbx:=new_block w (.cells #[.int .i64 3,.string N,.string D,.slice a A.length c,.int .i64 p,kv,.bool b,.bool s] 39);generalize hw1:w.alloc (.cells #[.int .i64 3,.string N,.string D,.slice a A.length c,.int .i64 p,kv,.bool b,.bool s] 39)=w1 at al hbx;have e0:=cell_of hbx 0;have e1:=cell_of hbx 1;have e2:=cell_of hbx 2;have e3:=cell_of hbx 3;have e6:=cell_of hbx 6;have e7:=cell_of hbx 7;have HB:=Lib.hid al;clear al hbx
 go_enter Tryz.func82,Tryz.ntmps82
 go_wp2
 all_goals go_ret
 all_goals refine⟨?_,HB.out⟩
 all_goals clear hw1 e0 e1 e2 e3 e6 e7
 all_goals simp_all [ByteArray.toList_eq]
 all_goals first | done | exact arr_empty _
theorem may_four (N D:ByteArray)(p:Int)(b s:Bool)(A:List (List UInt8 × List UInt8))(a:Option Addr)(c:Nat)(kv:Value)(w:World):Calls Tryz.prog 82 #[.agg #[.int .i64 4,.string N,.string D,.slice a A.length c,.int .i64 p,kv,.bool b,.bool s]] w fun e w'=>e=.returned (.bool (decide (A.length=0) && !b && !s&&decide (N.data.toList=[])))/\Below w.heap.size w w':=by
 have al:=(Below.refl w.heap.size w).alloc (Nat.le_refl _) (.cells #[.int .i64 4,.string N,.string D,.slice a A.length c,.int .i64 p,kv,.bool b,.bool s] 39);have hbx:=new_block w (.cells #[.int .i64 4,.string N,.string D,.slice a A.length c,.int .i64 p,kv,.bool b,.bool s] 39);generalize hw1:w.alloc (.cells #[.int .i64 4,.string N,.string D,.slice a A.length c,.int .i64 p,kv,.bool b,.bool s] 39)=w1 at al hbx;have e0:=cell_of hbx 0;have e1:=cell_of hbx 1;have e2:=cell_of hbx 2;have e3:=cell_of hbx 3;have e6:=cell_of hbx 6;have e7:=cell_of hbx 7;have HB:=Lib.hid al;clear al hbx
 go_enter Tryz.func82,Tryz.ntmps82
 go_wp2
 all_goals go_ret
 all_goals refine⟨?_,HB.out⟩
 all_goals clear hw1 e0 e1 e2 e3 e6 e7
 all_goals simp_all [ByteArray.toList_eq]
 all_goals first | done | exact arr_empty _
theorem may_none (N D:ByteArray)(p:Int)(b s:Bool)(A:List (List UInt8 × List UInt8))(a:Option Addr)(c:Nat)(kv:Value)(w:World)(k:Int)(h1:k≠1)(h2:k≠2)(h3:k≠3)(h4:k≠4):Calls Tryz.prog 82 #[.agg #[.int .i64 k,.string N,.string D,.slice a A.length c,.int .i64 p,kv,.bool b,.bool s]] w fun e w'=>e=.returned (.bool (false))/\Below w.heap.size w w':=by
 have g1:(k==1)=false:=by simp[h1]
 have g2:(k==2)=false:=by simp[h2]
 have g3:(k==3)=false:=by simp[h3]
 have g4:(k==4)=false:=by simp[h4]
 have al:=(Below.refl w.heap.size w).alloc (Nat.le_refl _) (.cells #[.int .i64 k,.string N,.string D,.slice a A.length c,.int .i64 p,kv,.bool b,.bool s] 39);have hbx:=new_block w (.cells #[.int .i64 k,.string N,.string D,.slice a A.length c,.int .i64 p,kv,.bool b,.bool s] 39);generalize hw1:w.alloc (.cells #[.int .i64 k,.string N,.string D,.slice a A.length c,.int .i64 p,kv,.bool b,.bool s] 39)=w1 at al hbx;have e0:=cell_of hbx 0;have e1:=cell_of hbx 1;have e2:=cell_of hbx 2;have e3:=cell_of hbx 3;have e6:=cell_of hbx 6;have e7:=cell_of hbx 7;have HB:=Lib.hid al;clear al hbx
 go_enter Tryz.func82,Tryz.ntmps82
 go_wp2
 all_goals go_ret
 all_goals refine⟨?_,HB.out⟩
 all_goals clear hw1 e0 e1 e2 e3 e6 e7
 all_goals rfl
theorem may_two0 (N D:ByteArray)(p:Int)(b s:Bool)(A:List (List UInt8 × List UInt8))(a:Option Addr)(c:Nat)(kv:Value)(w:World)(hA:A=[]):Calls Tryz.prog 82 #[.agg #[.int .i64 2,.string N,.string D,.slice a A.length c,.int .i64 p,kv,.bool b,.bool s]] w fun e w'=>e=.returned (.bool (decide (A.map Prod.fst).Nodup&&decide (N.data.toList≠[])&&decide (D.data.toList=[])&&decide (A.length<=30)))/\Below w.heap.size w w':=by
 subst hA;rw[List.length_nil];have al:=(Below.refl w.heap.size w).alloc (Nat.le_refl _) (.cells #[.int .i64 2,.string N,.string D,.slice a 0 c,.int .i64 p,kv,.bool b,.bool s] 39);have hbx:=new_block w (.cells #[.int .i64 2,.string N,.string D,.slice a 0 c,.int .i64 p,kv,.bool b,.bool s] 39);generalize hw1:w.alloc (.cells #[.int .i64 2,.string N,.string D,.slice a 0 c,.int .i64 p,kv,.bool b,.bool s] 39)=w1 at al hbx;have e0:=cell_of hbx 0;have e1:=cell_of hbx 1;have e2:=cell_of hbx 2;have e3:=cell_of hbx 3;have e6:=cell_of hbx 6;have e7:=cell_of hbx 7;have HB:=Lib.hid al;clear al hbx
 go_enter Tryz.func82,Tryz.ntmps82
 go_wp2
 all_goals refine wp_loop_rounds 1 ?_
 all_goals rw[rounds_succ]
 all_goals go_wp2
 all_goals go_ret
 all_goals refine⟨?_,HB.out⟩
 all_goals clear hw1 e0 e1 e2 e3 e6 e7
 all_goals simp_all [ByteArray.toList_eq]
 all_goals first | done | exact arr_empty _
theorem may_two (N D:ByteArray)(p:Int)(b s:Bool)(A:List (List UInt8 × List UInt8))(a:Option Addr)(c:Nat)(kv:Value)(w:World)(ha:AtIn w (.slice a A.length c) A)(hl:A.length<=1000)(h0:A≠[]):Calls Tryz.prog 82 #[.agg #[.int .i64 2,.string N,.string D,.slice a A.length c,.int .i64 p,kv,.bool b,.bool s]] w fun e w'=>e=.returned (.bool (decide (A.map Prod.fst).Nodup&&decide (N.data.toList≠[])&&decide (D.data.toList=[])&&decide (A.length<=30)))/\Below w.heap.size w w':=by
 have al:=(Below.refl w.heap.size w).alloc (Nat.le_refl _) (.cells #[.int .i64 2,.string N,.string D,.slice a A.length c,.int .i64 p,kv,.bool b,.bool s] 39);have hbx:=new_block w (.cells #[.int .i64 2,.string N,.string D,.slice a A.length c,.int .i64 p,kv,.bool b,.bool s] 39);generalize hw1:w.alloc (.cells #[.int .i64 2,.string N,.string D,.slice a A.length c,.int .i64 p,kv,.bool b,.bool s] 39)=w1 at al hbx;have e0:=cell_of hbx 0;have e1:=cell_of hbx 1;have e2:=cell_of hbx 2;have e3:=cell_of hbx 3;have e6:=cell_of hbx 6;have e7:=cell_of hbx 7;have HA:=Lib.hid (ha.below al);have H1:=Lib.hid al
 have g0:¬ ((A.length:Int)=0):=by
  have:=List.length_pos_iff.2 h0;omega
 have g00:((A.length:Int)==0)=false:=by simp;exact h0
 have z30:decide ((A.length:Int)<=30)=decide (A.length<=30):=by
  by_cases h:A.length<=30
  · rw[decide_eq_true h,decide_eq_true (by omega)]
  · rw[decide_eq_false h,decide_eq_false (by omega)]
 have HZ:=Lib.hid z30;clear al hbx ha z30
 go_enter Tryz.func82,Tryz.ntmps82
 go_wp2
 go_loopw [4] (fun i wr=>∃ u n:Nat,i=.int .i64 u/\u<=A.length/\Hid (Unlike A u)/\wr=w1.drewN n) (fun i _=>A.length - (intOf i).toNat)
 case atStart=>exact⟨0,0,rfl,Nat.zero_le _,Lib.hid (fun p q hq h=>absurd h (Nat.not_lt_zero _)),rfl⟩
 case round =>
  obtain⟨u,n,rfl,hu,HU,rfl⟩:=hrel
  by_cases hlt:u<A.length
  · obtain⟨B,off,rfl,c0,-⟩:=HA.out.at hlt
    obtain⟨X,hX⟩:=text_of A[u].1;rw[strV_of hX]at c0;have zu:(u:Int)<(A.length:Int):=by omega
    have HX:=Lib.hid hX;clear hX
    go_wp2
    go_hide hQ
    go_loopw [5] (fun j wr=>∃ v n:Nat,j=.int .i64 v/\v<=u/\Hid (∀ q (h:q<A.length),q<v->A[q].1≠A[u].1)/\wr=w1.drewN n) (fun j _=>u - (intOf j).toNat)
    case atStart=>exact⟨0,n,rfl,Nat.zero_le _,Lib.hid (fun q _ h=>absurd h (Nat.not_lt_zero _)),rfl⟩
    case round =>
     obtain⟨v,n,rfl,hv,HV,rfl⟩:=hrel
     by_cases hlv:v<u
     · obtain⟨B',off',hB,d0,-⟩:=HA.out.at (show v<A.length by omega)
       cases hB
       obtain⟨Y,hY⟩:=text_of A[v].1;rw[strV_of hY]at d0;have zv:(v:Int)<(u:Int):=by omega
       have zv2:(v:Int)<(A.length:Int):=by omega
       by_cases he:X=Y
       · have HN:Hid (¬ (A.map Prod.fst).Nodup):=Lib.hid (like_nodup hlt hlv (by rw[<- hY,<- HX.out,he]))
         subst he;have ze:(X.toList==X.toList)=true:=by simp
         clear hY
         go_wp2_with fail
         go_quiet (fail)
         go_wp2
         subst hQ
         go_wp2
         go_ret
         exact⟨by rw[decide_eq_false HN.out];rfl,belowN (belowN H1.out _) _⟩
       · have ze:(X.toList==Y.toList)=false:=by
          rw[text_lit];exact decide_eq_false fun h=>he (text_ext (h.trans (ByteArray.toList_eq Y)))
         have HV2:Hid (∀ q (h:q<A.length),q<v+1->A[q].1≠A[u].1):=Lib.hid fun q h hq=>by
          by_cases e:q=v
          · subst e
            rw[<- hY,<- HX.out];intro h;exact he (text_ext h.symm)
          · exact HV.out q h (by omega)
         clear he hY HV
         go_wp2_with fail
         go_quiet (fail)
         go_wp2
         go_roundw
         case rel=>exact⟨v+1,n+nq,by go_num,by omega,HV2,rfl⟩
         case measure=>simp[intOf];omega
     · obtain rfl:v=u:=by omega
       have zv:¬ (v:Int)<(v:Int):=by omega
       have HU2:Hid (Unlike A (v+1)):=Lib.hid fun p q hq h hp=>by
        by_cases e:q=v
        · subst e;exact HV.out p (by omega) hp
        · exact HU.out p q hq (by omega) hp
       clear HU HV
       go_wp2_with fail
       subst hQ
       go_wp2
       go_roundw
       case rel=>exact⟨v+1,n,by go_num,by omega,HU2,rfl⟩
       case measure=>simp[intOf];omega
  · obtain rfl:u=A.length:=by omega
    have hnd:decide (A.map Prod.fst).Nodup=true:=decide_eq_true (unlike_nodup HU.out);clear HU
    go_wp2
    all_goals go_ret
    all_goals refine⟨?_,belowN H1.out _⟩
    all_goals rw[hnd]
    all_goals have hz:=HZ.out
    all_goals clear hw1 e0 e1 e2 e3 e6 e7 hnd HZ g0 g00
    all_goals simp_all [ByteArray.toList_eq,arr_empty]
end Go.Proofs.YtlnfbjbagmfpiaaGreatDoor.Dm
namespace Go.Proofs.YtlnfbjbagmfpiaaGreatDoor.Dm
open Go.RowKit
def nodeV (x:Nd)(av kv:Value):Value := .agg #[.int .i64 x.k,strV x.n,strV x.d,av,.int .i64 x.p,kv,.bool x.b,.bool x.s]
theorem may_hid (x:Nd)(hl:x.a.length<=1000):Hid (∀ W av kv,AtIn W av x.a->Calls Tryz.prog 82 #[nodeV x av kv] W fun e w'=>e=.returned (.bool (mayM x))/\Below W.heap.size W w'):=Lib.hid fun w av kv ha=>by
 obtain⟨a,c,rfl⟩:=ha.form;obtain⟨N,hN⟩:=text_of x.n;obtain⟨D,hD⟩:=text_of x.d;unfold nodeV;rw[strV_of hN,strV_of hD];unfold mayM bareM;rw[<- hN,<- hD]
 have e0:decide (x.a=[])=decide (x.a.length=0):=by
  by_cases h:x.a=[]
  · rw[h];rfl
  · rw[decide_eq_false h,decide_eq_false (by have:=List.length_pos_iff.2 h;omega)]
 rw[e0]
 by_cases h1:x.k=1
 · rw[if_pos h1,h1]
   exact may_one N D x.p x.b x.s x.a a c kv w
 rw[if_neg h1]
 by_cases h3:x.k=3
 · rw[if_pos (.inl h3),h3]
   exact may_three N D x.p x.b x.s x.a a c kv w
 by_cases h4:x.k=4
 · rw[if_pos (.inr h4),h4]
   exact may_four N D x.p x.b x.s x.a a c kv w
 rw[if_neg (by omega)]
 by_cases h2:x.k=2
 · rw[if_pos h2,h2]
   by_cases h0:x.a=[]
   · exact may_two0 N D x.p x.b x.s x.a a c kv w h0
   · exact may_two N D x.p x.b x.s x.a a c kv w ha hl h0
 · rw[if_neg h2]
   exact may_none N D x.p x.b x.s x.a a c kv w x.k h1 h2 h3 h4
theorem holdsV_hid (x:Nd):Hid (∀ W av kv,Calls Tryz.prog 118 #[nodeV x av kv] W fun e w'=>e=.returned (.bool (holdM x))/\Below W.heap.size W w'):=Lib.hid fun w av kv=>by
 obtain⟨N,hN⟩:=text_of x.n;obtain⟨D,hD⟩:=text_of x.d;unfold nodeV;rw[strV_of hN,strV_of hD];exact(holds_hid x.k N D x.p x.b x.s).out w av kv
theorem all_step {p:Int->Bool}{C:List Int}{v:Nat}(h:v<C.length)(h1:(C.take v).all p=true)(h2:p C[v]=true):(C.take (v+1)).all p=true:=by
 rw[List.take_add_one,List.getElem?_eq_getElem h,List.all_append,h1];simp[h2]
theorem all_stop {p:Int->Bool}{C:List Int}{v:Nat}(h:v<C.length)(h2:p C[v]=false):C.all p=false:=by
 rw[List.all_eq_false];exact⟨_,List.getElem_mem h,by rw[h2];simp⟩
def inB (n:Nat)(y:Int):Bool:=decide (1<=y)&&decide (y<(n:Int))
theorem kids_hid (D:List Nd)(hf:FitD D)(i:Nat)(hi:i<D.length):Hid (∀ W sl A K,DocIn W sl D A K->Calls Tryz.prog 83 #[.agg #[sl],.int .i64 (i:Int)] W fun e w'=>e=.returned (.bool (kidsB D D[i]))/\Below W.heap.size W w'):=Lib.hid fun w sl A K hd=>by
 obtain⟨a,c,rfl⟩:=hd.form;obtain⟨d1,b1,l1⟩:=docBox w hd;have hfl:=hf.1;generalize hw1:w.alloc (.cells #[.slice a D.length c] 24)=w1 at d1 b1 l1;obtain⟨R,hR⟩:∃ R,w.heap.size=R:=⟨_,rfl⟩;have b1':=b1;rw[hR]at b1';have e0:=cell_of b1' 0;obtain⟨B,off,rfl,c0,c1,c2,c3,c4,c5,c6,c7⟩:=d1.node hi;obtain⟨ka,kc,hk⟩:=(d1.kd i hi).form;have CH:=holdsV_hid D[i];obtain⟨N,hN⟩:=text_of D[i].n;obtain⟨T,hT⟩:=text_of D[i].d;unfold nodeV at CH;rw[strV_of hN,strV_of hT]at CH;rw[strV_of hN]at c1;rw[strV_of hT]at c2;rw[hk]at c5;have hB:kidsB D D[i]=((decide (D[i].c=[]) || holdM D[i])&&decide (D[i].c.length<=D.length)&&D[i].c.all (inB D.length)):=rfl;have hlen:D[i].c.length<=1000:=(hf.2 _ (List.getElem_mem hi)).2.2.2.1;have zi:(i:Int)<(D.length:Int):=by omega
 have H1:=Lib.hid (And.intro b1' (And.intro l1 (show IntIn w1 (.slice ka D[i].c.length kc) D[i].c by rw[<- hk];exact d1.kd i hi)))
 have hn:D[i].c=[]\/¬ ((D[i].c.length:Int)<=0):=by
  by_cases h:D[i].c=[]
  · exact .inl h
  · exact .inr (by have:=List.length_pos_iff.2 h;omega)
 rw[hB];generalize hC:D[i].c=C at H1 hlen c5 hn ⊢;generalize holdM D[i]=hm at CH ⊢;generalize hxk:D[i].k=xk at c0;generalize hxp:D[i].p=xp at c4;generalize hxb:D[i].b=xb at c6;generalize hxs:D[i].s=xs at c7;rw[hxk,hxp,hxb,hxs]at CH;clear hd d1 b1 l1 hf hk hN hT hC hB b1' hxk hxp hxb hxs;generalize D.length=m at *;rcases hn with rfl | hn
 · simp only[List.length_nil]at *
   go_enter Tryz.func83,Tryz.ntmps83
   go_wp2
   refine wp_loop_rounds 1 ?_;rw[rounds_succ]
   go_wp2
   go_ret
   exact⟨by simp,H1.out.2.1⟩
 · have hne:decide (C=[])=false:=decide_eq_false fun h=>hn (by rw[h];simp)
   have hn2:(0:Int)<(C.length:Int):=by omega
   rw[hne,Bool.false_or];clear hn
   go_enter Tryz.func83,Tryz.ntmps83
   go_wp2_with fail
   clear hw1
   (refine(CH.out _ _ _).mono ?_)
   rintro e w2 ⟨rfl,b2⟩;have H2:Hid (w2.heap[R]? = some (.cells #[.slice (some ⟨B,off,none⟩) m c] 24 (0,0))/\Below w.heap.size w w2/\IntIn w2 (.slice ka C.length kc) C):=Lib.hid ⟨(b2.block _ (lt_of_block H1.out.1)).trans H1.out.1,H1.out.2.1.trans (b2.mono H1.out.2.1.size),H1.out.2.2.below b2⟩;have e0:=cell_of H2.out.1 0;clear b2 H1 CH c0 c1 c2 c3 c4 c5 c6 c7
   cases hm with
   | false =>
     go_wp2
     go_ret
     exact⟨by simp,H2.out.2.1⟩
   | true =>
     by_cases hcm:(C.length:Int)<=(m:Int)
     · have hcd:decide (C.length<=m)=true:=decide_eq_true (by omega)
       have HCD:=Lib.hid hcd;have hc3:decide (m<C.length)=false:=by simp;omega
       clear hcd
       go_wp2
       go_loopw [6] (fun j wr=>∃ v n:Nat,j=.int .i64 v/\v<=C.length/\Hid ((C.take v).all (inB m)=true)/\wr=w2.drewN n) (fun j _=>C.length - (intOf j).toNat)
       case atStart=>exact⟨0,0,rfl,Nat.zero_le _,Lib.hid (by simp),rfl⟩
       case round =>
        obtain⟨v,n,rfl,hv,HV,rfl⟩:=hrel
        by_cases hlv:v<C.length
        · obtain⟨B2,off2,rfl,k0⟩:=H2.out.2.2.at hlv
          have zv:(v:Int)<(C.length:Int):=by omega
          obtain⟨y,hy0⟩:∃ y,C[v]=y:=⟨_,rfl⟩;rw[hy0]at k0
          by_cases h1:y<1
          · have hfin:C.all (inB m)=false:=all_stop hlv (by rw[hy0];unfold inB;rw[decide_eq_false (by omega),Bool.false_and])
            clear hy0 HV
            go_wp2_with fail
            go_quiet (fail)
            go_wp2
            go_ret
            exact⟨by rw[HCD.out,hfin];rfl,belowN (belowN H2.out.2.1 _) _⟩
          · by_cases h2:(m:Int)<=y
            · have hfin:C.all (inB m)=false:=all_stop hlv (by rw[hy0];unfold inB;rw[decide_eq_false (show ¬ y<(m:Int) by omega),Bool.and_false])
              clear hy0 HV
              go_wp2_with fail
              go_quiet (fail)
              go_wp2
              go_ret
              exact⟨by rw[HCD.out,hfin];rfl,belowN (belowN H2.out.2.1 _) _⟩
            · have HV2:=Lib.hid (all_step hlv HV.out (by rw[hy0];unfold inB;rw[decide_eq_true (by omega),decide_eq_true (by omega)];rfl))
              clear hy0 HV
              go_wp2_with fail
              go_quiet (fail)
              go_wp2
              go_roundw
              case rel=>exact⟨v+1,n+nq,by go_num,by omega,HV2,rfl⟩
              case measure=>simp[intOf];omega
        · obtain rfl:v=C.length:=by omega
          have hfin:C.all (inB m)=true:=by have:=HV.out;rw[List.take_length]at this;exact this
          go_wp2
          go_ret
          exact⟨by rw[HCD.out,hfin];rfl,belowN H2.out.2.1 _⟩
     · have hcd:decide (C.length<=m)=false:=decide_eq_false (by omega)
       have HCD:=Lib.hid hcd;clear hcd
       go_wp2
       go_ret
       exact⟨by rw[HCD.out];rfl,H2.out.2.1⟩
end Go.Proofs.YtlnfbjbagmfpiaaGreatDoor.Dm
