/- Policies of a text: the program's. A directive found by its name: the program's. The rows that every law asks first. -/
import Derived.Test.YthnogdodlhkldaaGreatDoorHdZ
import Derived.Laws.EntriesVeiled
set_option maxRecDepth 100000
set_option maxHeartbeats 8000000
namespace Go.Proofs.YthnogdodlhkldaaGreatDoor
open Go.RowKit Go.Shelf
attribute [local go_sem] Oper.semAt_some
def eK (lo:Nat)(W:World):List Deferred->Prop
 | []=>True
 | d :: ds=>∃ Db,d.target=.collected Db/\lo<=Db/\W.heap[Db]? = some (.deferred (some []))/\(∀ e∈ds,e.target ≠ .collected Db)/\eK lo W ds
theorem eK.below {lo:Nat}{A B:World}(hb:Below A.heap.size A B):∀ {ds:List Deferred},eK lo A ds->eK lo B ds
 | [],_=>trivial
 | _ :: _,⟨Db,h1,h2,h3,h4,h5⟩=>⟨Db,h1,h2,(hb.block _ (aD h3)).trans h3,h4,h5.below hb⟩
theorem eK.low {lo n:Nat}{A B:World}(hb:Below n A B)(hn:A.heap.size<=n):∀ {ds:List Deferred},eK lo A ds->eK lo B ds
 | [],_=>trivial
 | _ :: _,⟨Db,h1,h2,h3,h4,h5⟩=>⟨Db,h1,h2,(hb.block _ (Nat.lt_of_lt_of_le (aD h3) hn)).trans h3,h4,eK.low hb hn h5⟩
theorem eK.lt {lo:Nat}{A:World}:∀ {ds:List Deferred},eK lo A ds->∀ e∈ds,∀ Db,e.target=.collected Db->Db<A.heap.size
 | [],_,e,he,_,_=>by cases he
 | d :: ds,⟨Db,h1,h2,h3,h4,h5⟩,e,he,Db',h=>by
   rcases List.mem_cons.1 he with rfl | he
   · rw[h1]at h;cases h;exact aD h3
   · exact eK.lt h5 e he Db' h
theorem eK.put {lo Db:Nat}{A:World}{o:Obj}:∀ {ds:List Deferred},eK lo A ds->(∀ e∈ds,e.target ≠ .collected Db)->eK lo (A.putObj Db o) ds
 | [],_,_=>trivial
 | d :: ds,⟨D1,h1,h2,h3,h4,h5⟩,hne=>⟨D1,h1,h2,by rw[World.putObj_heap_other (fun e=>hne d (by simp) (by rw[h1,e]))];exact h3,h4,h5.put (fun e he=>hne e (by simp[he]))⟩
theorem jX {fn:Func}{tmps:Array Value}{R:Ending->World->Prop}{lo:Nat}:∀(ds:List Deferred) (W:World),eK lo W ds->(∀ W',bX lo W W'->LeavesIn Fence.wide 0 Tryz.prog fn tmps R [] .returning W')->LeavesInM Fence.wide 0 Tryz.prog fn tmps R ds .returning W
 | [],W,_,h=>h W ⟨rfl,rfl,rfl,zL _,fun _ _ hk _=>hk⟩
 | d :: ds,W,⟨Db,h1,h2,h3,h4,h5⟩,h=>by
   refine⟨by simp,.inl ⟨Db,_,h1,run_takeDeferred h3,?_⟩⟩;refine jX ds _ (h5.put h4) (fun W' k=>h W' ?_);have k1:bX lo W (W.putObj Db (.deferred none)):=bX.putObj h3 rfl h2 _;exact⟨k.os.trans k1.os,k.tape.trans k1.tape,k.output.trans k1.output,Nat.le_trans k1.size k.size,fun j o hj hx=>k.same j o (k1.same j o hj hx) hx⟩
def cB (r:Bool)(L:List (List UInt8)):List (List D × Bool):=((L.map iI).filter (fun p => !p.isEmpty)).map (fun p=>(p,r))
theorem aB3 (r:Bool)(L:List (List UInt8))(x:List UInt8):cB r (L++[x])=if (iI x).isEmpty=true then cB r L else cB r L++[(iI x,r)]:=by
 unfold cB;rw[List.map_append,List.filter_append,List.map_append]
 cases h:(iI x).isEmpty
 · simp[h]
 · simp[h]
theorem rS (r:Bool)(s:List UInt8):cB r (parts s 44)=(allH s).map (fun p=>(p,r)):=rfl
theorem tN (r:Bool)(L:List (List UInt8))(k:Nat):∃ M,cB r L=cB r (L.take k)++M:=by
 refine⟨cB r (L.drop k),?_⟩;unfold cB;rw[<- List.map_append,<- List.filter_append,<- List.map_append,List.take_append_drop]
def gG (r:Bool)(s:List UInt8):List (List D × Bool):=(wZ s).map (fun p=>(p,r))
theorem bB6 (r:Bool)(s:List UInt8)(k:Nat)(h:(cB r ((parts s 44).take k)).length=10):cB r ((parts s 44).take k)=gG r s:=by
 obtain⟨M,hM⟩:=tN r (parts s 44) k;unfold gG wZ;rw[List.map_take,<- rS,hM,List.take_append_of_le_length (by omega)];exact(List.take_of_length_le (by omega)).symm
theorem bB7 (r:Bool)(s:List UInt8)(h:(cB r (parts s 44)).length<=10):cB r (parts s 44)=gG r s:=by
 unfold gG wZ;rw[List.map_take,<- rS,List.take_of_length_le h]
theorem polM_len (s:List UInt8):(iI s).length<=s.length+1:=by
 have h:∀(L:List (List UInt8)) (ds:List D),(L.foldl yB ds).length<=ds.length+L.length:=by
  intro L
  induction L with
  | nil=>intro ds;exact zL _
  | cons x L ih =>
    intro ds;have h1:=ih (yB ds x)
    have h2:(yB ds x).length<=ds.length+1:=by
     unfold yB;split
     · omega
     · split
       · omega
       · simp
    rw[List.foldl_cons,List.length_cons];omega
 have h1:=h (parts s 59) [];have h2:=eU (· == (59:UInt8)) s;have h3:=dU (· == (59:UInt8)) s;have h4:(parts s 59).length=(cut (· == (59:UInt8)) s).length:=by unfold parts;rw[List.length_map]
 rw[List.length_nil]at h1;have h5:iI s=(parts s 59).foldl yB []:=rfl;rw[h5];omega
def iK (pre:List El):List D:=(pre.map elM).foldl kJ []
theorem vD (pre:List El)(x:El):iK (pre++[x])=kJ (iK pre) (elM x):=by unfold iK;rw[List.map_append,List.foldl_append];rfl
theorem aX3 (ds:List D)(x:List UInt8 × List (List UInt8)):(kJ ds x).length<=ds.length+1:=by
 unfold kJ;split
 · simp
 · omega
theorem dsOf_len (pre:List El):(iK pre).length<=pre.length:=by
 have h:∀(L:List (List UInt8 × List (List UInt8))) (ds:List D),(L.foldl kJ ds).length<=ds.length+L.length:=by
  intro L
  induction L with
  | nil=>intro ds;exact zL _
  | cons x L ih =>
    intro ds;have h1:=ih (kJ ds x);have h2:=aX3 ds x;rw[List.foldl_cons,List.length_cons];omega
 have:=h (pre.map elM) [];unfold iK
 simpa using this
theorem qO.keepsFrom {Pb M n:Nat}{ob:Option Nat}{A B:World}(t:qO Pb M ob A B)(hP:Pb<n)(hM:M<n)(hob:∀ k,ob=some k->∃ cs t fr,A.heap[k]? = some (.cells cs t fr)/\t≠9):KeepsFrom n A B :=
 ⟨t.size,fun k o hk ho hc=>(t.block k (aD ho) (by omega) (by omega) (fun e=>by
   obtain⟨cs,ty,fr,h1,_⟩:=hob k e.symm;rw[ho]at h1
   cases h1
   cases hc)).trans ho⟩
theorem qO.strs {Pb M:Nat}{ob:Option Nat}{A B:World}(t:qO Pb M ob A B){c:Array Value}{ty:TypeId}{fr:Nat × Nat}(hP:A.heap[Pb]? = some (.cells c ty fr))(hty:ty≠9)(hM:∃ es clock,A.heap[M]? = some (.map es clock))(hob:∀ k,ob=some k->∃ cs t fr,A.heap[k]? = some (.cells cs t fr)/\t≠9):jO A B :=
 ⟨t.size,fun k cs fr hk=>(t.block k (aD hk) (fun e=>by subst e;rw[hk]at hP;cases hP;exact hty rfl) (fun e=>by obtain⟨es,clock,h1⟩:=hM;subst e;rw[hk]at h1;cases h1) (fun e=>by
   obtain⟨cs2,t2,fr2,h1,h2⟩:=hob k e.symm;rw[hk]at h1
   cases h1
   exact h2 rfl)).trans hk⟩
theorem aH2 {A B:World}{ob:Option Nat}(g:A.grownBy B ob)(hob:∀ k,ob=some k->∃ cs t fr,A.heap[k]? = some (.cells cs t fr)/\t≠9):jO A B :=
 ⟨g.size,fun k cs fr hk=>(g.block k (aD hk) (fun e=>by
   obtain⟨cs2,t2,fr2,h1,h2⟩:=hob k e.symm;rw[hk]at h1
   cases h1
   exact h2 rfl)).trans hk⟩
theorem eK.grown {lo:Nat}{A B:World}{ob:Option Nat}(g:A.grownBy B ob)(hob:∀ k,ob=some k->∃ cs t fr,A.heap[k]? = some (.cells cs t fr)/\t≠9):∀ {ds:List Deferred},eK lo A ds->eK lo B ds
 | [],_=>trivial
 | _ :: _,⟨Db,h1,h2,h3,h4,h5⟩=>⟨Db,h1,h2,(g.block _ (aD h3) (fun e=>by
     obtain⟨cs2,t2,fr2,k1,_⟩:=hob Db e.symm;rw[h3]at k1
     cases k1)).trans h3,h4,eK.grown g hob h5⟩
theorem zJ {A:World}{base size n:Nat}{e:TypeId}{v:Value}{xs:List Value}(h:A.ownsRow base e size v n xs)(he:e≠9):∀ k,v.ownBlock=some k->∃ cs t fr,A.heap[k]? = some (.cells cs t fr)/\t≠9:=fun k hk=>by
 rcases h.2 with ⟨h1,_⟩ | ⟨g,cap,cur,h1,_,h6,_⟩
 · rw[h1]at hk;cases hk
 · rw[h1]at hk
   cases hk
   exact⟨_,_,_,h6,he⟩
def kI (P0:Nat):Value := .func (.func 98) #[] #[.pointer (some ⟨P0+1+2,0,none⟩),.pointer (some ⟨P0+1,0,none⟩)]
def eP (wr:World)(P0:Nat)(r:Bool)(pre:List El)(W:World):Prop :=
 (∃ v cs,vO W (P0+1) P0 (P0+6) r ((iK pre).map D.n) v cs/\gM W (P0+6) v.ownBlock (iK pre) cs)/\Below P0 wr W/\W.heap[P0+4]? = some (.cells #[kI P0] 84 (0,0))/\P0+6<=W.heap.size
theorem eP.keeps {wr A B:World}{P0:Nat}{r:Bool}{pre:List El}(h:eP wr P0 r pre A)(k:bX (P0+6) A B):eP wr P0 r pre B:=by
 obtain⟨⟨v,cs,h1,h2⟩,h3,h4,h5⟩:=h;exact⟨⟨v,cs,h1.keeps k (by omega),h2.keeps k⟩,k.low h3 (by omega) (by omega),k.same _ _ h4 (.inr rfl),by have:=k.size;omega⟩
theorem eP.no {wr A B:World}{P0:Nat}{r:Bool}{pre:List El}(h:eP wr P0 r pre A)(x:El)(hno:eM x.nm.data.toList=false\/(eM x.nm.data.toList=true/\x.nm.data.toList∈(iK pre).map D.n))(hb:Below A.heap.size A B):eP wr P0 r (pre++[x]) B:=by
 have e:iK (pre++[x])=iK pre:=by
  rw[vD];unfold kJ elM;rw[if_neg];rintro⟨h1,h2⟩;rcases hno with h3 | ⟨_,h3⟩
  · rw[h3]at h1;cases h1
  · exact h2 h3
 have:=h.keeps (bX.of_below hb);unfold eP at this ⊢;rw[e];exact this
theorem eP.yes {wr A B:World} {P0:Nat} {r:Bool} {pre:List El} {v v':Value} {cs:List Value} (x:El) (G:vO A (P0+1) P0 (P0+6) r ((iK pre).map D.n) v cs) (hd:gM A (P0+6) v.ownBlock (iK pre) cs) (h3:Below P0 wr A) (h4:A.heap[P0+4]? = some (.cells #[kI P0] 84 (0,0))) (h5:P0+6<=A.heap.size)
 {base:Nat} (hb:P0+6<=base) (hx:A.ownsRow base 9 1 (.slice x.ua x.ws.length x.uc) x.ws.length (aC x.ws)) (hn:eM x.nm.data.toList=true) (hni:¬ x.nm.data.toList∈(iK pre).map D.n)
 (G':vO B (P0+1) P0 (P0+6) r ((iK pre).map D.n++[x.nm.data.toList]) v' (cs++[.string x.nm,.slice x.ua x.ws.length x.uc])) (t:qO P0 (P0+1+1) v.ownBlock A B) (ho:v'.ownBlock=v.ownBlock\/∃ k,v'.ownBlock=some k/\A.heap.size<=k):eP wr P0 r (pre++[x]) B:=by
 have e:iK (pre++[x])=iK pre++[⟨x.nm.data.toList,x.ws⟩]:=by
  rw[vD];unfold kJ elM;rw[if_pos ⟨hn,hni⟩]
 have hob:∀ k,v.ownBlock=some k->∃ cs t fr,A.heap[k]? = some (.cells cs t fr)/\t≠9:=fun k hk=>by
  rcases G.row.2 with ⟨h1,_⟩ | ⟨g,cap,cur,h1,_,h6,_⟩
  · rw[h1]at hk;cases hk
  · rw[h1]at hk
    cases hk
    exact⟨_,_,_,h6,by decide⟩
 have hob2:=G.row.lt;have hs:dA x.nm.data.toList=.string x.nm:=by unfold dA;rfl
 have d1:=hd.snoc ⟨x.nm.data.toList,x.ws⟩ _ (bO.of_own hx hb hob);rw[hs]at d1;refine⟨⟨v',_,by rw[e,List.map_append];exact G',by rw[e];exact d1.turn t (by omega) (by omega) ho⟩,h3.trans (t.below (by omega) (zL _) (by omega) (fun k hk=>by have:=(hob2 k hk).1;omega)),?_,by have:=t.size;omega⟩;rw[t.block _ (by omega) (by omega) (by omega) (fun h=>by have:=(hob2 _ h.symm).1;omega)];exact h4
theorem eP.done {wr A:World}{P0:Nat}{r:Bool}{xs:List El}{s:List UInt8}(h:eP wr P0 r xs A)(hs:xs.map elM=yP s):∃ v,A.heap[P0]? = some (.cells #[v,.bool r] 24 (0,0))/\jA A (P0+6) v (iI s):=by
 obtain⟨⟨v,cs,h1,h2⟩,_⟩:=h;have e:iK xs=iI s:=by unfold iK;rw[hs,bB8]
 rw[e]at h1 h2;exact⟨v,h1.pol,cs,by have:=h1.row;rw[List.length_map]at this;exact this,h2⟩
theorem bC5 (s:ByteArray)(hs:s.size<=1000000000)(r:Bool)(w:World)(hm:aQ w) :
 Calls Tryz.prog 40 #[.string s,.bool r] w fun e w'=>∃ v,e=.returned v/\gQ w' w.heap.size v (gG r s.data.toList)/\Below w.heap.size w w':=by
 have CP:=uO s 44 (w.alloc (.cells #[] 24)) hs (hm.below ((zB _ _).alloc (zL _) _));rw[show(((44:UInt8).toNat:Nat):Int)=44 from rfl]at CP
 have hlen:∀ x∈parts s.data.toList 44,x.length<=1000000000:=fun x hx=>by
  unfold parts at hx;obtain⟨y,hy,rfl⟩:=List.mem_map.1 hx;have h1:=nX _ _ y hy;have h2:=pN y;rw[aE]at h1;omega
 have hcnt:(parts s.data.toList 44).length<=1000000001:=by
  have h1:=eU (· == (44:UInt8)) s.data.toList;have h2:=dU (· == (44:UInt8)) s.data.toList;have h3:=aE s;have h4:(parts s.data.toList 44).length=(cut (· == (44:UInt8)) s.data.toList).length:=by unfold parts;rw[List.length_map]
  omega
 have HTEN:Hid (∀ k,(cB r ((parts s.data.toList 44).take k)).length=10->cB r ((parts s.data.toList 44).take k)=gG r s.data.toList):=zH (bB6 r s.data.toList);have HALL:Hid ((cB r (parts s.data.toList 44)).length<=10->cB r (parts s.data.toList 44)=gG r s.data.toList):=zH (bB7 r s.data.toList);generalize parts s.data.toList 44=L at CP hlen hcnt HTEN HALL ⊢;generalize gG r s.data.toList=ps at HTEN HALL ⊢;have HCP:=zH CP;have HLEN:=zH hlen;clear CP hlen;refine(callsIn_wide (n:=0)).1 ?_;refine callsIn_of_wp_marks Tryz.func40 rfl trivial ?_ rfl;simp only[Tryz.ntmps40,List.size_toArray,List.length_cons,List.length_nil,Nat.reduceAdd,Nat.reduceSub,Array.replicate_succ,Array.replicate_zero,List.push_toArray,List.append_toArray,List.nil_append,List.cons_append]
 gi_wp2_with (refine⟨trivial,rfl,?_⟩;gi_at_call 63;(with_reducible refine(callsIn_wide.2 HCP.out).mono ?_);rintro e w2 ⟨v,rfl,own2,b2⟩
              obtain⟨va,vc,rfl⟩:=(aR.of_row own2).form;have H2:Aside (w2.ownsRow ((w.alloc (.cells #[] 24)).heap.size+1) 9 1 (.slice va L.length vc) L.length (aC L)/\Below (w.alloc (.cells #[] 24)).heap.size (w.alloc (.cells #[] 24)) w2):=⟨own2,b2⟩
              clear own2 b2)
 have hsz0:(w.alloc (.cells #[] 24)).heap.size=w.heap.size+1:=by show(w.heap.push _).size=_;simp
 have own0:(w.alloc (.cells #[] 24)).ownsRow w.heap.size 24 2 (.slice (some ⟨w.heap.size,0,none⟩) 0 0) 0 []:=World.ownsRow_made w #[] 0 (zL _) (Nat.zero_le _) rfl;have hb0:Below w.heap.size w (w.alloc (.cells #[] 24)):=(zB _ _).alloc (zL _) _
 refine wpIn_loop (fun a' wr=>∃ u5 u7 u8 u9 u10 u16 u17 u18 u19 u20 u21 u22 u23 u24 u25 u26 u27 u28 u29 u30 u31 u32 u33 u34 u35 u36 u37 u38 u39:Value,∃(k:Nat) (ds:List Deferred),
  (k<=L.length/\Hid (gQ wr w.heap.size u5 (cB r (L.take k)))/\(cB r (L.take k)).length<10/\Hid (eK w.heap.size wr ds)/\Hid (Below w.heap.size w wr)/\Hid (wr.ownsRow ((w.alloc (.cells #[] 24)).heap.size+1) 9 1 (.slice va L.length vc) L.length (aC L)) ) /\
  a'={ tmps:=#[.string s,.bool r,undef,undef,.slice none 0 0,u5,undef,u7,u8,u9,u10,.slice (some ⟨w.heap.size,0,none⟩) 0 0,.string s,.slice va L.length vc,.int .i64 (L.length:Int),.int .i64 (k:Int),u16,u17,u18,u19,u20,u21,u22,u23,u24,u25,u26,u27,u28,u29,u30,u31,u32,u33,u34,u35,u36,u37,u38,u39,undef],defers:=ds }) (fun a' _=>L.length - (intOf (a'.tmps.getD 15 undef)).toNat) ?_ ?_
 · exact⟨_,_,_,_,_,_,_,_,_,_,_,_,_,_,_,_,_,_,_,_,_,_,_,_,_,_,_,_,_,0,[],⟨Nat.zero_le _,zH ⟨[],aX own0 (by rw[hsz0];rw[hsz0]at H2;exact H2.out.2),jP.nil _ _ _⟩,by simp[cB],zH trivial,zH (hb0.trans (H2.out.2.mono (by omega))),zH H2.out.1⟩,rfl⟩
 clear own0 hb0 H2;intro a' wr hinv;obtain⟨u5,u7,u8,u9,u10,u16,u17,u18,u19,u20,u21,u22,u23,u24,u25,u26,u27,u28,u29,u30,u31,u32,u33,u34,u35,u36,u37,u38,u39,k,ds,⟨hk,HOP,hten,HMK,HBW,HOW⟩,rfl⟩:=hinv
 by_cases hlt:k<L.length
 · obtain⟨B,off,rfl,kc⟩:=(aR.of_row HOW.out).at hlt
   have hxl:=HLEN.out _ (List.getElem_mem hlt);have hxl2:=hxl;have HPT:Hid (cB r (L.take (k+1))=if (iI L[k]).isEmpty=true then cB r (L.take k) else cB r (L.take k)++[(iI L[k],r)]):=zH (by rw[List.take_succ_eq_append_getElem hlt,aB3]);generalize L[k]=x at *;unfold dA at kc;obtain⟨X,hX⟩:∃ X:ByteArray,X=⟨x.toArray⟩:=⟨_,rfl⟩;rw[<- hX]at kc;have hXx:X.data.toList=x:=by rw[hX]
   have hXs:X.size<=1000000000:=by rw[<- aE,hXx];exact hxl
   have HXX:=zH hXx;have x1:=aW wr (.cells #[.slice none 0 0,.bool r] 24);have b1:Below wr.heap.size wr (wr.alloc (.cells #[.slice none 0 0,.bool r] 24)):=(zB _ _).alloc (zL _) _;have s1:(wr.alloc (.cells #[.slice none 0 0,.bool r] 24)).heap.size=wr.heap.size+1:=by show(wr.heap.push _).size=_;simp
   have CG:=aQ2 wr.heap.size r _ x1;rw[s1]at CG;have HCG:=zH CG;have H1:=zH (And.intro b1 s1);clear hX hXx x1 b1 s1 CG hxl2
   gi_wp2_with fail
   generalize hw1:wr.alloc (.cells #[.slice none 0 0,.bool r] 24)=w1 at H1 HCG ⊢;clear hw1
   gi_wp2_with (first
    | (refine⟨trivial,rfl,?_⟩;gi_at_call 64;(with_reducible refine(callsIn_wide.2 HCG.out).mono ?_);rintro e w2 ⟨rfl,G2,B2,S2⟩
       have H2:Aside (vO w2 (wr.heap.size+1) wr.heap.size (wr.heap.size+1+3) r [] (.slice none 0 0) []/\Below wr.heap.size wr w2/\w2.heap.size=wr.heap.size+4):=⟨G2,H1.out.1.trans (B2.mono (by omega)),by omega⟩
       clear G2 B2 S2)
    | (refine⟨trivial,rfl,?_⟩;gi_at_call 65;(with_reducible refine(callsIn_wide.2 (sL X _)).mono ?_);rintro e w4 ⟨rfl,rfl⟩))
   rw[H2.out.2.2];have hbl:Below w2.heap.size w2 ((w2.alloc (.cells #[kI wr.heap.size] 84)).alloc (.cells #[.string X] 9)):=((zB _ _).alloc (zL _) _).alloc (by simp) _
   have hsl:((w2.alloc (.cells #[kI wr.heap.size] 84)).alloc (.cells #[.string X] 9)).heap.size=wr.heap.size+6:=by
    show((w2.alloc _).heap.push _).size=_;rw[Array.size_push];show(w2.heap.push _).size+1=_;rw[Array.size_push,H2.out.2.2]
   have htl:((w2.alloc (.cells #[kI wr.heap.size] 84)).alloc (.cells #[.string X] 9)).heap[wr.heap.size+4]? = some (.cells #[kI wr.heap.size] 84 (0,0)):=by
    rw[Below.heap_alloc _ _ _ (by simp;have:=H2.out.2.2;omega),<- H2.out.2.2];exact aW _ _
   have hxl:((w2.alloc (.cells #[kI wr.heap.size] 84)).alloc (.cells #[.string X] 9)).heap[wr.heap.size+4+1]? = some (.cells #[.string X] 9 (0,0)):=by
    have:=aW (w2.alloc (.cells #[kI wr.heap.size] 84)) (.cells #[.string X] 9);rw[World.size_alloc,H2.out.2.2]at this;exact this
   have hgl:=(H2.out.1.keep hbl).up (lo':=wr.heap.size+6) (by omega);have hwl:=H2.out.2.1.trans (hbl.mono (by have:=H2.out.2.2;omega));change Code.wpIn _ _ _ _ _ _ ((w2.alloc (.cells #[kI wr.heap.size] 84)).alloc (.cells #[.string X] 9));generalize(w2.alloc (.cells #[kI wr.heap.size] 84)).alloc (.cells #[.string X] 9)=wl at hbl hsl htl hxl hgl hwl ⊢;have hin:eP wr wr.heap.size r [] wl:=⟨⟨_,[],hgl,gM.nil _ _ _⟩,hwl,htl,by omega⟩;have hmx:=(hm.below HBW.out).below hwl;refine aM5 (w:=wl) rfl (enters_of Tryz.func100 (by kernel_rfl) rfl) (encs:=elV) (fun x=>rfl) (aP2 X hXs (wr.heap.size+4+1) wl hxl hmx) (eP wr wr.heap.size r) (fun pre A B h hb=>h.keeps (bX.of_below hb)) (fun pre A l o o' h hl ho hc=>h.keeps (bX.putObj ho hc (by omega) o')) hin ?round ?done
   case round =>
    rintro l pre ⟨nm,ua,uc,ws⟩ W hl ⟨rec,hrec⟩ hI ⟨hE,hns⟩ hcnt;dsimp only at hE hns;have HI:=zH hI;have HE:=zH hE;clear hI hE;dsimp only[elV]
    gi_wp2
    refine⟨(KeepsOthers.alloc _ _).from _,fun r' => ?_⟩;have ba:Below W.heap.size W (W.alloc (.cells #[.string nm,.slice ua ws.length uc] 67)):=(zB _ _).alloc (zL _) _;have xa:=aW W (.cells #[.string nm,.slice ua ws.length uc] 67);have ra:(W.alloc (.cells #[.string nm,.slice ua ws.length uc] 67)).heap[l]? = some (.loop rec):=(ba.block _ (aD hrec)).trans hrec;have hlW:l≠W.heap.size:=by have:=aD hrec;omega
    have k2:bX (wr.heap.size+6) W ((W.alloc (.cells #[.string nm,.slice ua ws.length uc] 67)).putObj l (.loop r')):=by
     have h1:bX (wr.heap.size+6) W (W.alloc (.cells #[.string nm,.slice ua ws.length uc] 67)):=bX.of_below ba;have h2:bX (wr.heap.size+6) (W.alloc (.cells #[.string nm,.slice ua ws.length uc] 67)) ((W.alloc (.cells #[.string nm,.slice ua ws.length uc] 67)).putObj l (.loop r')):=bX.putObj ra rfl (by omega) _;exact⟨h2.os.trans h1.os,h2.tape.trans h1.tape,h2.output.trans h1.output,Nat.le_trans h1.size h2.size,fun j o hj hx=>h2.same j o (h1.same j o hj hx) hx⟩
    have st2:jO W ((W.alloc (.cells #[.string nm,.slice ua ws.length uc] 67)).putObj l (.loop r')):=(jO.of_below ba).putObj ra rfl _;have x2:((W.alloc (.cells #[.string nm,.slice ua ws.length uc] 67)).putObj l (.loop r')).heap[W.heap.size]? = some (.cells #[.string nm,.slice ua ws.length uc] 67 (0,0)):=(World.putObj_heap_other (fun e=>hlW e.symm)).trans xa;generalize(W.alloc (.cells #[.string nm,.slice ua ws.length uc] 67)).putObj l (.loop r')=W2 at k2 st2 x2 ⊢;obtain⟨⟨v,cs,G,hd⟩,h3,h4,h5⟩:=HI.out.keeps k2;have own2:=k2.row HE.out;have q0:W2.cell? ⟨wr.heap.size+4,0,none⟩=some (kI wr.heap.size):=by rw[aG h4];rfl
    unfold kI at q0;have q1:W2.cell? ⟨W.heap.size,0,none⟩=some (.string nm):=by rw[aG x2];rfl
    have q2:W2.cell? ⟨W.heap.size,1,none⟩=some (.slice ua ws.length uc):=by rw[aG x2];rfl
    have hnl:((iK pre).map D.n).length<=1000000000:=by rw[List.length_map];have:=dsOf_len pre;omega
    have HI2:=zH (show eP wr wr.heap.size r pre W2 from⟨⟨v,cs,G,hd⟩,h3,h4,h5⟩)
    by_cases hno:eM nm.data.toList=false\/(eM nm.data.toList=true/\nm.data.toList∈(iK pre).map D.n)
    · have CT:=zH (take_no nm hns ua ws.length uc W2 _ _ _ r _ v cs G hno)
      have HNO:Hid (∀ B,Below W2.heap.size W2 B->eP wr wr.heap.size r (pre++[⟨nm,ua,uc,ws⟩]) B):=zH (fun B hb=>HI2.out.no ⟨nm,ua,uc,ws⟩ hno hb);clear hno G hd h3 h4 own2 k2 ba xa ra x2 hrec hnl
      gi_wp2_with (refine⟨trivial,rfl,?_⟩;gi_at_call 98;(with_reducible refine(CallsIn.inRound l (callsIn_wide.2 CT.out)).mono ?_);rintro e w5 ⟨rfl,b5⟩)
      exact⟨⟨b5.size,fun k o _ ho _=>(b5.block _ (aD ho)).trans ho⟩,st2.trans (jO.of_below b5),HNO.out _ b5⟩
    · have hnm:eM nm.data.toList=true:=by
       cases h:eM nm.data.toList
       · exact absurd (.inl h) hno
       · rfl
      have hni:¬ nm.data.toList∈(iK pre).map D.n:=fun h=>hno (.inr ⟨hnm,h⟩);have CT:=zH (take_yes nm hns ua ws.length uc W2 _ _ _ r _ v cs G hnm hni h5 hnl);have hob:=zJ G.row (by decide)
      have HYS:Hid (∀ B v',vO B (wr.heap.size+1) wr.heap.size (wr.heap.size+6) r ((iK pre).map D.n++[nm.data.toList]) v' (cs++[.string nm,.slice ua ws.length uc])->qO wr.heap.size (wr.heap.size+1+1) v.ownBlock W2 B->(v'.ownBlock=v.ownBlock\/∃ k,v'.ownBlock=some k/\W2.heap.size<=k)->KeepsFrom (wr.heap.size+6) W2 B/\jO W B/\eP wr wr.heap.size r (pre++[⟨nm,ua,uc,ws⟩]) B):=zH (fun B v' G' t ho =>
       ⟨t.keepsFrom (by omega) (by omega) hob,st2.trans (t.strs G.pol (by decide) G.seen.isMap hob),eP.yes ⟨nm,ua,uc,ws⟩ G hd h3 h4 h5 (by omega) own2 hnm hni G' t ho⟩)
      clear hno G hd h3 h4 own2 k2 ba xa ra x2 hrec hnl hnm hni hob st2
      gi_wp2_with (refine⟨trivial,rfl,?_⟩;gi_at_call 98;(with_reducible refine(CallsIn.inRound l (callsIn_wide.2 CT.out)).mono ?_);rintro e w5 ⟨rfl,v5,g5,t5,o5⟩)
      exact HYS.out _ _ g5 t5 o5
   case done =>
    intro D0 xs W hD hxs hI hdef;obtain⟨v5,hp5,hod⟩:=hI.done (s:=x) (by rw[<- HXX.out];exact hxs);have hbW:Below wr.heap.size wr W:=hI.2.1;obtain⟨a5,c5,rfl⟩:=hod.in.form;have q5:W.cell? ⟨wr.heap.size,0,none⟩=some (.slice a5 (iI x).length c5):=by rw[aG hp5];rfl
    have q6:W.cell? ⟨wr.heap.size,1,none⟩=some (.bool r):=by rw[aG hp5];rfl
    obtain⟨m,hm5⟩:∃ m,(iI x).length=m:=⟨_,rfl⟩;rw[hm5]at q5 hod
    have hemp:(iI x).isEmpty=decide (m=0):=by
     rw[<- hm5]
     cases iI x with
     | nil=>rfl
     | cons=>rfl
    have hmb:m<=1000000001:=by
     have h1:=polM_len x;omega
    have HOW5:=zH (aX HOW.out hbW);have HMK5:Hid (eK w.heap.size W ({ target := .collected D0,args:=#[] } :: ds)):=zH ⟨D0,rfl,by have:=HBW.out.size;omega,hdef,fun e he h=>by have:=HMK.out.lt e he D0 h;omega,eK.low hbW (zL _) HMK.out⟩;have HBW5:Hid (Below w.heap.size w W):=zH (HBW.out.trans (hbW.mono HBW.out.size));have HOP5:=zH (HOP.out.below hbW);have HZ6:Hid (w.heap.size<=wr.heap.size):=zH HBW.out.size;have HOB:Hid (∀ q,u5.ownBlock=some q->w.heap.size<=q/\q<wr.heap.size):=zH (by obtain⟨_,h1,_⟩:=HOP.out;exact h1.lt);have HOD:=zH hod;obtain⟨n5,hn5⟩:∃ n5,(cB r (L.take k)).length=n5:=⟨_,rfl⟩
    obtain⟨au,cu,rfl⟩:∃ au cu,u5=.slice au n5 cu:=by
     obtain⟨au,cu,h⟩:=HOP.out.in.form;exact⟨au,cu,by rw[h,hn5]⟩
    rw[hn5]at hten;have HN5:=zH hn5;clear hn5 hod hp5 hI hdef hxs HOW HMK HBW HOP hmx hin hwl htl hxl hgl hbl hsl hD
    by_cases hm0:m=0
    · subst hm0
      have HPT2:Hid (cB r (L.take (k+1))=cB r (L.take k)):=zH (by rw[HPT.out,hemp];rfl);have hn10:((n5:Int)==10)=false:=by rw[beq_eq_false_iff_ne];omega
      clear hemp hm5
      gi_wp2
      refine⟨⟨_,_,_,_,_,_,_,_,_,_,_,_,_,_,_,_,_,_,_,_,_,_,_,_,_,_,_,_,_,k+1,_,⟨by omega,by rw[HPT2.out];exact HOP5,by rw[HPT2.out,HN5.out];exact hten,HMK5,HBW5,HOW5⟩,rfl⟩,?_⟩;simp[intOf];omega
    · have hne:(iI x).isEmpty=false:=by rw[hemp,decide_eq_false hm0]
      have HPT2:Hid (cB r (L.take (k+1))=cB r (L.take k)++[(iI x,r)]):=zH (by rw[HPT.out,hne];rfl);have hz:(0:Int)<(m:Int):=by omega
      have hz2:0<m:=by omega
      obtain⟨i0,hi,hz0,hz1,hz3⟩:=info_parts oH;obtain⟨csP,hrow,hpr⟩:=HOP5.out;rw[HN5.out]at hrow;have HR5:=zH hrow;have HPR:=zH hpr;have hszW:w.heap.size<=W.heap.size:=HBW5.out.size;have HZ5:Hid (wr.heap.size<=W.heap.size):=zH hbW.size;clear hemp hne hrow hpr hbW
      gi_wp2_with (gi_at_builtin;refine wpListIn_append_own_at _ rfl _ _ 27 rfl w.heap.size 24 i0 (.agg #[.slice none 0 0,.bool false]) 2 32 Tryz.underlying27 hi hz0 hz1 hz3 rfl (by decide) _ _ _ rfl (HR5.out.alloc _) ⟨W.heap.size,0,none⟩ 1 1 [.slice a5 m c5,.bool r] rfl rfl (cell_two_new' _ _ _ _) (by intro u hu;simp at hu;rcases hu with rfl | rfl<;>rfl) (by unfold maxLen;omega) (by omega) (by simp;omega) ?_;intro v6 w6 hown6 hgrow6 hnil6 hat6
                   have bA:Below W.heap.size W (W.alloc (.cells #[.slice a5 m c5,.bool r] 24)):=(zB _ _).alloc (zL _) _;have n9:=zJ (HR5.out.alloc (.cells #[.slice a5 m c5,.bool r] 24)) (by decide);have hobl:=HOB.out;have odA:=HOD.out.below bA;have dby:eY (W.alloc (.cells #[.slice a5 m c5,.bool r] 24)) w.heap.size (Value.slice au n5 cu).ownBlock (.slice a5 m c5) (iI x):=odA.by (by have:=HZ6.out;omega) (fun q hq=>by have:=(hobl q hq).2;omega);have op6:gQ w6 w.heap.size v6 (cB r (L.take k)++[(iI x,r)]):=gQ.grow (iI x,r) (.slice a5 m c5) (HPR.out.keeps (bX.of_below (lo:=0) bA)) dby (by rw[HN5.out];exact hown6) hgrow6 hat6
                   have X6:Aside (gQ w6 w.heap.size v6 (cB r (L.take (k+1)))/\eK w.heap.size w6 ({ target := .collected D0,args:=#[] } :: ds)/\Below w.heap.size w w6/\w6.ownsRow ((w.alloc (.cells #[] 24)).heap.size+1) 9 1 (.slice (some ⟨B,off,none⟩) L.length vc) L.length (aC L)) :=
                    ⟨by rw[HPT2.out];exact op6,(HMK5.out.below bA).grown hgrow6 n9,Below.grown (HBW5.out.trans (bA.mono hszW)) hgrow6 (by simp;omega) (fun q hq=>(hobl q hq).1),(aH2 hgrow6 n9).row (aX HOW5.out bA)⟩
                   obtain⟨a6,c6,rfl⟩:∃ a6 c6,v6=.slice a6 (n5+1) c6:=by
                    rcases bS hown6 with ⟨_,h⟩ | ⟨g,cap,h⟩
                    · omega
                    · exact⟨_,_,h⟩
                   clear hown6 hgrow6 hnil6 hat6 bA n9 hobl odA dby op6)
      · have HE:Hid (cB r (L.take (k+1))=ps):=zH (HTEN.out (k+1) (by
         rw[HPT2.out,List.length_append,HN5.out];have := ‹((n5:Int)+1==10)=true›;rw[beq_iff_eq]at this;simp
         omega))
        have HFIN:Hid (gQ w6 w.heap.size (.slice a6 (n5+1) c6) ps):=zH (by rw[<- HE.out];exact X6.out.1);refine jX _ w6 X6.out.2.1 (fun W' kp=>⟨_,results_tmp (t:=4) rfl _ _ _,_,rfl,HFIN.out.keeps kp,kp.low X6.out.2.2.1 (zL _) X6.out.2.2.1.size⟩)
      · refine⟨⟨_,_,_,_,_,_,_,_,_,_,_,_,_,_,_,_,_,_,_,_,_,_,_,_,_,_,_,_,_,k+1,_,⟨by omega,zH X6.out.1,?_,zH X6.out.2.1,zH X6.out.2.2.1,zH X6.out.2.2.2⟩,rfl⟩,?_⟩
        · rw[HPT2.out,List.length_append,HN5.out]
          have := ‹((n5:Int)+1==10)=false›;rw[beq_eq_false_iff_ne]at this;simp;omega
        · simp[intOf];omega
 · obtain rfl:k=L.length:=by omega
   have HFIN:Hid (gQ wr w.heap.size u5 ps):=zH (by
    have h1:=HOP.out;rw[List.take_length]at h1 hten;rw[HALL.out (by omega)]at h1
    exact h1)
   clear HOP hten
   gi_wp2
   refine jX ds wr HMK.out (fun W' kp=>⟨_,results_tmp (t:=4) rfl _ _ _,_,rfl,HFIN.out.keeps kp,kp.low HBW.out (zL _) HBW.out.size⟩)
end Go.Proofs.YthnogdodlhkldaaGreatDoor
namespace Go.Proofs.YthnogdodlhkldaaGreatDoor
open Go.RowKit
theorem bD6 (N S:ByteArray)(a:Option Addr)(m c:Nat)(Sb:Nat)(w:World)(hx:w.cell? ⟨Sb,0,none⟩=some (.string S)) :
 Calls Tryz.prog 50 #[.agg #[.string N,.slice a m c],.pointer (some ⟨Sb,0,none⟩)] w fun e w'=>e=.returned (.bool (decide (N.data.toList=S.data.toList)))/\Below w.heap.size w w':=by
 have g1:=fZ N S;obtain⟨b,hb⟩:∃ b,decide (N.data.toList=S.data.toList)=b:=⟨_,rfl⟩;rw[hb]at g1 ⊢;have B1:Below w.heap.size w (w.alloc (.cells #[.string N,.slice a m c] 67)):=(zB _ _).alloc (zL _) _;have x1:=aW w (.cells #[.string N,.slice a m c] 67);have q1:(w.alloc (.cells #[.string N,.slice a m c] 67)).cell? ⟨w.heap.size,0,none⟩=some (.string N):=by rw[aG x1];rfl
 have q2:(w.alloc (.cells #[.string N,.slice a m c] 67)).cell? ⟨Sb,0,none⟩=some (.string S):=by rw[B1.cell (aH hx)];exact hx
 have HB:=zH B1;clear B1 x1 hx hb
 go_enter Tryz.func50,Tryz.ntmps50
 go_wp2_with fail
 generalize w.alloc (.cells #[.string N,.slice a m c] 67)=w1 at HB q1 q2 ⊢
 go_wp2
 go_ret
 exact⟨rfl,HB.out⟩
def yE (ds:List D)(t:List UInt8)(z:Int):Prop:=(∃ k:Nat,z=(k:Int)/\∃ h:k<ds.length,ds[k].n=t/\∀ j,(h:j<ds.length)->j<k->ds[j].n≠t)\/(z = -1/\∀ j,(h:j<ds.length)->ds[j].n≠t)
theorem bF9 (ds:List D)(dv:Value)(S:ByteArray)(Sb:Nat)(w:World)(hd:aU w dv ds)(hl:ds.length<=1000000)(hx:w.cell? ⟨Sb,0,none⟩=some (.string S)) :
 Calls Tryz.prog 49 #[dv,.func (.func 50) #[] #[.pointer (some ⟨Sb,0,none⟩)]] w fun e w'=>(∃ z,e=.returned (.int .i64 z)/\yE ds S.data.toList z)/\Below w.heap.size w w':=by
 obtain⟨a,c,rfl⟩:=hd.form;have HD:=zH hd;have HX:=zH hx;clear hd hx
 go_enter Tryz.func49,Tryz.ntmps49
 go_wp2
 go_loopw [8] (fun i wr=>∃ k:Nat,k<=ds.length/\i=.int .i64 k/\Hid (∀ j,(h:j<ds.length)->j<k->ds[j].n≠S.data.toList)/\Below w.heap.size w wr) (fun i _=>ds.length - (intOf i).toNat)
 case atStart=>exact⟨0,Nat.zero_le _,rfl,fun j _ h=>absurd h (Nat.not_lt_zero _),zB _ _⟩
 case round =>
  obtain⟨k,hk,rfl,HS,hb⟩:=hrel
  by_cases hlt:k<ds.length
  · obtain⟨B,off,u,rfl,k1,k2,k3⟩:=(HD.out.below hb).at hlt
    obtain⟨ua,uc,rfl⟩:=k3.form;have HF:Hid (ds[k].n=S.data.toList->yE ds S.data.toList (k:Int)):=zH fun h => .inl ⟨k,rfl,hlt,h,HS.out⟩
    have HN:Hid (ds[k].n≠S.data.toList->∀ j,(h:j<ds.length)->j<k+1->ds[j].n≠S.data.toList):=zH fun h j hj hjk=>by
     by_cases e:j=k
     · subst e;exact h
     · exact HS.out j hj (by omega)
    unfold dA at k1;generalize ds[k]=d at *;obtain⟨X,hX⟩:∃ X:ByteArray,X=⟨d.n.toArray⟩:=⟨_,rfl⟩;rw[<- hX]at k1;have hXd:X.data.toList=d.n:=by rw[hX]
    have CN:Hid (∀ W,Below w.heap.size w W->Calls Tryz.prog 50 #[.agg #[.string X,.slice ua d.w.length uc],.pointer (some ⟨Sb,0,none⟩)] W fun e w'=>e=.returned (.bool (decide (X.data.toList=S.data.toList)))/\Below W.heap.size W w'):=zH fun W hW=>bD6 X S ua d.w.length uc Sb W (by rw[hW.cell (aH HX.out)];exact HX.out);rw[hXd]at CN;have HB:=zH hb;clear HS hX hXd k3 hb
    by_cases he:d.n=S.data.toList
    · have HG:=zH (HF.out he)
      rw[decide_eq_true he]at CN;clear HF HN he
      go_wp2_with (go_at_call 50;(with_reducible refine(CN.out _ HB.out).mono ?_);rintro e w5 ⟨rfl,b5⟩
                   have H5:Aside (Below w.heap.size w w5):=HB.out.trans (b5.mono HB.out.size)
                   clear b5)
      go_ret
      exact⟨⟨_,rfl,HG.out⟩,H5.out⟩
    · have HM:=zH (HN.out he)
      rw[decide_eq_false he]at CN;clear HF HN he
      go_wp2_with (go_at_call 50;(with_reducible refine(CN.out _ HB.out).mono ?_);rintro e w5 ⟨rfl,b5⟩
                   have H5:Aside (Below w.heap.size w w5):=HB.out.trans (b5.mono HB.out.size)
                   clear b5)
      go_roundw
      case rel=>exact⟨k+1,by omega,by go_num,HM,H5.out⟩
      case measure=>simp[intOf];omega
  · obtain rfl:k=ds.length:=by omega
    have HG:Hid (yE ds S.data.toList (-1)):=zH (.inr ⟨rfl,fun j hj=>HS.out j hj hj⟩);clear HS
    go_wp2
    go_ret
    exact⟨⟨_,rfl,HG.out⟩,hb⟩
def FindPost (ds:List D)(name:List UInt8)(w:World)(e:Ending)(w':World):Prop:=Below w.heap.size w w'/\((cN ds name=none/\e=.returned (.tuple #[.slice none 0 0,.bool false]))\/∃ ws v,cN ds name=some ws/\e=.returned (.tuple #[v,.bool true])/\w'.ownsRow w.heap.size 9 1 v ws.length (aC ws))
theorem sJ (ds:List D)(dv:Value)(r:Bool)(name:ByteArray)(w:World)(hd:aU w dv ds)(hl:ds.length<=1000000)(hws:∀ d∈ds,d.w.length<=1000000)(hn:name.size<=1099511627776) :
 Calls Tryz.prog 28 #[dX dv r,.string name] w (FindPost ds name.data.toList w):=by
 have hmf:∀(fn:Fn) (first cap:Array Value) (w:World),(Instr.makeFunc fn first cap).run Tryz.prog w=.ok (.func fn first cap) w:=fun _ _ _ _=>rfl;obtain⟨T,hT⟩:=aO (bB name.data.toList);have CL:=dM name T hT hn;have HF:Hid (cN ds name.data.toList=(ds.find? (fun d=>d.n==T.data.toList)).map D.w):=zH (by unfold cN;rw[hT]);obtain⟨a,c,rfl⟩:=hd.form;unfold dX;have HDW:=zH hd;have x1:=aW w (.cells #[.slice a ds.length c,.bool r] 24);have B1:Below w.heap.size w (w.alloc (.cells #[.slice a ds.length c,.bool r] 24)):=(zB _ _).alloc (zL _) _;have H1:=zH (And.intro x1 B1);clear hT hd x1 B1
 go_enter Tryz.func28,Tryz.ntmps28
 go_wp2_with fail
 generalize w.alloc (.cells #[.slice a ds.length c,.bool r] 24)=w1 at H1 ⊢;refine(CL.out _).mono ?_;rintro e w2 ⟨rfl,b2⟩;have x2:w2.heap[w.heap.size]? = some (.cells #[.slice a ds.length c,.bool r] 24 (0,0)):=by rw[b2.block _ (aD H1.out.1)];exact H1.out.1
 have B2:=H1.out.2.trans (b2.mono (zT (aD H1.out.1)));have b3:Below w2.heap.size w2 (w2.alloc (.cells #[.string T] 9)):=(zB _ _).alloc (zL _) _;have x3:=aW w2 (.cells #[.string T] 9);have q3:(w2.alloc (.cells #[.string T] 9)).cell? ⟨w2.heap.size,0,none⟩=some (.string T):=by rw[aG x3];rfl
 have y3:(w2.alloc (.cells #[.string T] 9)).heap[w.heap.size]? = some (.cells #[.slice a ds.length c,.bool r] 24 (0,0)):=by rw[b3.block _ (aD x2)];exact x2
 have B3:Below w.heap.size w (w2.alloc (.cells #[.string T] 9)):=B2.trans (b3.mono B2.size);have c0:(w2.alloc (.cells #[.string T] 9)).cell? ⟨w.heap.size,0,none⟩=some (.slice a ds.length c):=by rw[aG y3];rfl
 have CI:=bF9 ds (.slice a ds.length c) T w2.heap.size (w2.alloc (.cells #[.string T] 9)) (HDW.out.below B3) hl q3;have HCI:=zH CI;have H3:=zH (And.intro y3 B3);clear b2 x2 B2 b3 x3 y3 B3 q3 CI CL H1
 go_wp2_with fail
 generalize w2.alloc (.cells #[.string T] 9)=w3 at HCI H3 c0 ⊢
 go_wp2_with fail
 refine HCI.out.mono ?_;rintro e w4 ⟨⟨z,rfl,hz⟩,b4⟩;have y4:w4.heap[w.heap.size]? = some (.cells #[.slice a ds.length c,.bool r] 24 (0,0)):=by rw[b4.block _ (aD H3.out.1)];exact H3.out.1
 have B4:Below w.heap.size w w4:=H3.out.2.trans (b4.mono H3.out.2.size);have c4:w4.cell? ⟨w.heap.size,0,none⟩=some (.slice a ds.length c):=by rw[aG y4];rfl
 have H4:=zH B4;rcases hz with ⟨k,rfl,hlt,h1,h2⟩ | ⟨rfl,h1⟩
 · obtain⟨B,off,u,rfl,k1,k2,k3⟩:=(HDW.out.below B4).at hlt
   have HG:Hid (cN ds name.data.toList=some ds[k].w):=zH (by rw[HF.out,aV0 hlt h2 h1];rfl);have hw:=hws _ (List.getElem_mem hlt);generalize ds[k]=d at *;have hz0:¬ ((k:Int)<0):=by omega
   have bA:Below w4.heap.size w4 (w4.alloc (.cells #[] 9)):=(zB _ _).alloc (zL _) _;have own0:(w4.alloc (.cells #[] 9)).ownsRow w.heap.size 9 1 (.slice (some ⟨w4.heap.size,0,none⟩) 0 0) 0 []:=World.ownsRow_made w4 #[] 0 B4.size (Nat.zero_le _) rfl;have HO:=zH own0;have HK:=zH (k3.below bA);have HB:=zH (B4.trans (bA.mono B4.size));have k2':(w4.alloc (.cells #[] 9)).cell? ⟨B,off+k * 2+1,none⟩=some u:=by rw[bA.cell (aH k2)];exact k2
   have c5:(w4.alloc (.cells #[] 9)).cell? ⟨w.heap.size,0,none⟩=some (.slice (some ⟨B,off,none⟩) ds.length c):=by rw[bA.cell (aH c4)];exact c4
   have hsz:w.heap.size<=(w4.alloc (.cells #[] 9)).heap.size:=HB.out.size;obtain⟨ua,uc,rfl⟩:=k3.form;clear HF h1 h2 y4 B4 b4 k1 k3 own0 bA HCI H3 c0
   go_wp2_with (at_builtin;refine bG rfl _ _ rfl w.heap.size _ 0 [] rfl HO.out _ d.w rfl HK.out (by omega) hsz ?_;intro v1 w5 hown5 hgr5
                have X:Aside (w5.ownsRow w.heap.size 9 1 v1 d.w.length (aC d.w)/\Below w.heap.size w w5):=⟨by rw[Nat.zero_add]at hown5;exact hown5,Below.grown HB.out hgr5 hsz (fun q hq=>(HO.out.lt q hq).1)⟩
                clear hown5 hgr5)
   go_ret2
   exact⟨X.out.2,.inr ⟨d.w,v1,HG.out,rfl,X.out.1⟩⟩
 · have HG:Hid (cN ds name.data.toList=none):=zH (by
    rw[HF.out,List.find?_eq_none.2 (fun x hx => ?_)]
    · rfl
    · obtain⟨j,hj,rfl⟩:=List.getElem_of_mem hx
      simpa using h1 j hj)
   clear HF h1 y4 B4 b4 HCI H3 c0
   go_wp2
   go_ret2
   exact⟨H4.out,.inl ⟨HG.out,rfl⟩⟩
end Go.Proofs.YthnogdodlhkldaaGreatDoor
namespace Go.Proofs.YthnogdodlhkldaaGreatDoor
open Go.RowKit
def tB:List UInt8:=[97,32,49,59,32,65,32,50,59,59,32,44,32,44,98]
end Go.Proofs.YthnogdodlhkldaaGreatDoor
