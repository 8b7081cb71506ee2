/- A range over the library's iterator over a row of policies: the law of it, and what the iterator tells. -/
import Derived.Test.YthnogdodlhkldaaGreatDoorHdZ
import Derived.Test.YthnogdodlhkldaaGreatDoorChA
set_option maxRecDepth 100000
set_option maxHeartbeats 8000000
namespace Go.Proofs.YthnogdodlhkldaaGreatDoor
open Go.RowKit Go.Shelf
attribute [local go_sem] Oper.semAt_some
def TellsB {α:Type}(P:Program)(gf:Nat)(lb:Array Value)(encs:α->Array Value)(E:α->World->Prop)(S:List α->Prop)(N n₀:Nat)(w0:World):Prop :=
 ∀(l:Nat) (J:List α->World->Prop) (W:World),Below w0.heap.size w0 W->(∀ s A B,J s A->Below A.heap.size A B->J s B) ->
  (∀ pre x W1,J pre W1->E x W1->pre.length<N->YieldAt Fence.wide 0 P l (encs x) W1 fun e W'=>e=.returned (.bool true)/\J (pre++[x]) W'/\Below n₀ W1 W') ->
  J [] W->CallsIn Fence.wide 0 P gf (#[.func (.yield l) #[] #[]]++lb) W fun e W'=>(∃ v,e=.returned v)/\∃ xs,S xs/\J xs W'
theorem aB2 {α:Type} {P:Program} {g:Operand} {ps:Array Tmp} {assign body:Code} {Q:Exit->Act->World->Prop} {a:Act} {w:World}
 {gf:Nat} {lb:Array Value} (hg:a.eval g=.func (.func gf) #[] lb) (eg:∀ args w,(callFunc gf args).run P w=.ok (.enter gf args) w)
 {encs:α->Array Value} (hps:∀ x,(encs x).size=ps.size) {E:α->World->Prop} {S:List α->Prop} {N n₀:Nat} (hn:n₀<=w.heap.size) (hseq:TellsB P gf lb encs E S N n₀ w)
 (I:List α->World->Prop) (hI:∀ s A B,I s A->Below A.heap.size A B->I s B) (hIl:∀ s A l o o',I s A->w.heap.size<=l->A.heap[l]? = some o->o.isCells=false->I s (A.putObj l o')) (h0:I [] w)
 (hround:∀(l:Nat) (pre:List α) (x:α) (W:World),w.heap.size<=l->(∃ r,W.heap[l]? = some (.loop r))->I pre W->E x W->pre.length<N ->
   assign.wpIn (Fence.wide.inRound l) 0 P (Exit.then (fun a₁ W₁=>KeepsFrom w.heap.size W W₁/\∀ r',body.wpIn (Fence.wide.inRound l) 0 P (fun e _ W'=>e=.normal/\KeepsFrom w.heap.size (W₁.putObj l (.loop r')) W'/\Below n₀ W W'/\I (pre++[x]) W') a₁ (W₁.putObj l (.loop r'))) (fun _ _ _=>False))
    { tmps:=(ps.zip (encs x)).foldl (fun t (p,v)=>t.setIfInBounds p v) a.tmps,defers:=[] } W)
 (hdone:∀(D:Nat) (xs:List α) (W:World),w.heap.size<=D->S xs->I xs W->W.heap[D]? = some (.deferred (some []))->Q .normal { a with defers:={ target := .collected D,args:=#[] } :: a.defers } W) :
 (Code.rangeFunc g ps assign body).wpIn Fence.wide 0 P Q a w:=by
 refine wpIn_rangeFunc (fun fn hfn => ?_)
 let rc:LoopState->Loop:=fun st=>{ state:=st,pending:=none,fn,tmps:=a.tmps,params:=ps,assign,body,defers:=w.heap.size }
 let W1:World:=(w.alloc (.deferred (some []))).alloc (.loop (rc .ready))
 have b1:Below w.heap.size w W1:=((zB _ w).alloc (zL _) _).alloc (by simp) _;have s1:W1.heap.size=w.heap.size+2:=by simp[W1]
 have hl1:W1.heap[w.heap.size+1]? = some (.loop (rc .ready)):=by
  have:=World.alloc_heap_new (w.alloc (.deferred (some []))) (.loop (rc .ready));rwa [World.size_alloc]at this
 have hd1:W1.heap[w.heap.size]? = some (.deferred (some [])):=(Below.heap_alloc _ _ _ (by simp)).trans (World.alloc_heap_new w _);refine⟨w.heap.size+1,[{ target := .collected w.heap.size,args:=#[] }],W1,{ target := .fn (.func gf) lb,args:=#[.func (.yield (w.heap.size+1)) #[] #[]] },W1,gf,#[.func (.yield (w.heap.size+1)) #[] #[]]++lb,W1,?_,?_,?_,?_,(fun h=>by cases h),?_⟩
 · exact run_enterLoop_outer fn a.tmps ps assign body
 · simp only[resolve,hg]
   simp[go_sem]
 · intro f' _;trivial
 · simp[invoke,go_sem,eg]
 have call:=hseq (w.heap.size+1) (fun pre W=>I pre W/\W.heap[w.heap.size+1]? = some (.loop (rc .ready))/\W.heap[w.heap.size]? = some (.deferred (some []))) W1 b1
  (fun s A B hs hb=>⟨hI s A B hs.1 hb,by rw[hb.block _ (aD hs.2.1)];exact hs.2.1,by rw[hb.block _ (aD hs.2.2)];exact hs.2.2⟩) ?_ ⟨hI _ _ _ h0 b1,hl1,hd1⟩
 · refine call.mono ?_
   rintro e W2 ⟨⟨v,rfl⟩,xs,hS,hi,hl,hd⟩;refine⟨none,_,run_endLoop hl (by simp[rc]),?_⟩;exact hdone _ xs _ (zL _) hS (hIl _ _ _ _ _ hi (Nat.le_succ _) hl rfl) ((World.putObj_heap_other (by omega)).trans hd)
 · rintro pre x W ⟨hi,hl,hd⟩ hE hlen
   refine⟨fn,_,assign,body,run_yield hl (by simpa [rc] using hps x),roundIn_of_wpIn hfn ?_⟩;refine wpIn_mono (hround (w.heap.size+1) pre x W (Nat.le_succ _) ⟨_,hl⟩ hi hE hlen) ?_;rintro e a₁ W3 hp
   cases e with
   | normal =>
     obtain⟨hk3,hb3⟩:=hp;have hl3:=hk3.same _ _ (by omega) hl rfl;have hd3:=hk3.same _ _ (zL _) hd rfl;refine⟨_,run_beginRound hl3 rfl,?_⟩;refine wpIn_mono (hb3 _) ?_;rintro e a₂ W5 ⟨rfl,hk5,hbw,hi5⟩;have hl5:=hk5.same _ _ (by omega) (World.putObj_heap_same (aD hl3)) rfl;have hd5:=hk5.same _ _ (zL _) ((World.putObj_heap_other (by omega)).trans hd3) rfl;refine⟨_,_,run_endRound none hl5,rfl,⟨hIl _ _ _ _ _ hi5 (Nat.le_succ _) hl5 rfl,World.putObj_heap_same (aD hl5),(World.putObj_heap_other (by omega)).trans hd5⟩,?_⟩;exact hbw.grown (grownBy_putObj' W5 _ _) (by have:=aD hl5;omega) (fun k e=>by cases e;omega)
   | _=>exact hp.elim
structure vN where
 i:Nat
 ds:List D
 r:Bool
 a:Option Addr
 c:Nat
def pelV (x:vN):Array Value:=#[.int .i64 (x.i:Int),.agg #[.slice x.a x.ds.length x.c,.bool x.r]]
def vN.k (x:vN):List D × Bool:=(x.ds,x.r)
def pelE (ps:List (List D × Bool))(x:vN)(W:World):Prop:=aU W (.slice x.a x.ds.length x.c) x.ds/\x.k∈ps
def pelS (ps:List (List D × Bool))(xs:List vN):Prop:=xs.map vN.k=ps/\∀ i,(h:i<xs.length)->xs[i].i=i
theorem aY5 (a:Option Addr)(n c:Nat)(w:World):Calls Tryz.prog 47 #[.slice a n c] w fun e w'=>e=.returned (.func (.func 75) #[] #[.pointer (some ⟨w.heap.size,0,none⟩)])/\w'=w.alloc (.cells #[.slice a n c] 27):=by
 have hmf:∀(fn:Fn) (first cap:Array Value) (w:World),(Instr.makeFunc fn first cap).run Tryz.prog w=.ok (.func fn first cap) w:=fun _ _ _ _=>rfl
 go_enter Tryz.func47,Tryz.ntmps47
 go_wp2
 go_ret
 exact⟨rfl,rfl⟩
theorem zE (ps:List (List D × Bool))(hl:ps.length<=1000000)(pv:Value)(w00 w:World)(hp:bM w00 pv ps)(hB:Below w00.heap.size w00 w)(Bs:Nat)(hx:w.heap[Bs]? = some (.cells #[pv] 27 (0,0))) :
 TellsB Tryz.prog 75 #[.pointer (some ⟨Bs,0,none⟩)] pelV (pelE ps) (pelS ps) ps.length w00.heap.size w:=by
 intro l J W hW hJ hY h0;obtain⟨pa,pc,rfl⟩:=hp.form;have x1:W.heap[Bs]? = some (.cells #[.slice pa ps.length pc] 27 (0,0)):=by rw[hW.block _ (aD hx)];exact hx
 have q0:W.cell? ⟨Bs,0,none⟩=some (.slice pa ps.length pc):=by rw[aG x1];rfl
 have B0:Below w00.heap.size w00 W:=hB.trans (hW.mono hB.size);have HJ:=zH hJ;have HY:=zH hY;have HP:=zH hp;clear hW hx x1 hJ hY hp hB;refine callsIn_of_wp Tryz.func75 rfl trivial ?_ rfl;simp only[Tryz.ntmps75,List.size_toArray,List.length_cons,List.length_nil,Nat.reduceAdd,Nat.reduceSub,Array.replicate_succ,Array.replicate_zero,List.push_toArray,List.append_toArray,List.nil_append,List.cons_append]
 gi_wp2
 have H0:=zH h0;clear h0 q0
 gi_loopw [7] (fun i wr=>∃(k:Nat) (pre:List vN),k<=ps.length/\i=.int .i64 k/\Hid (J pre wr)/\Hid (pre.map vN.k=ps.take k/\∀ i,(h:i<pre.length)->pre[i].i=i)/\pre.length=k/\Below w00.heap.size w00 wr) (fun i _=>ps.length - (intOf i).toNat)
 case atStart=>exact⟨0,[],Nat.zero_le _,rfl,H0,zH ⟨by simp,fun i h=>by cases h⟩,rfl,B0⟩
 case round =>
  clear B0 H0;obtain⟨k,pre,hk,rfl,HJs,HS,hpl,hb⟩:=hrel
  by_cases hlt:k<ps.length
  · obtain⟨B,off,u,rfl,k1,k2,k3⟩:=(HP.out.below hb).at hlt
    obtain⟨ua,uc,rfl⟩:=k3.form;have HTK:Hid (ps.take (k+1)=ps.take k++[ps[k]]):=zH (List.take_succ_eq_append_getElem hlt);have hmem:=List.getElem_mem hlt;generalize ps[k]=p at *;have ba:Below wr.heap.size wr (wr.alloc (.cells #[.slice ua p.1.length uc,.bool p.2] 24)):=(zB _ _).alloc (zL _) _;obtain⟨fn,tmps,assign,body,hy,hR⟩:=HY.out pre ⟨k,p.1,p.2,ua,uc⟩ _ (HJ.out _ _ _ HJs.out ba) ⟨k3.below ba,hmem⟩ (by omega);dsimp only[pelV]at hy;have HR:=zH hR;have HBa:=zH (hb.alloc hb.size (.cells #[.slice ua p.1.length uc,.bool p.2] 24))
    have HS2:Hid ((pre++[(⟨k,p.1,p.2,ua,uc⟩:vN)]).map vN.k=ps.take (k+1)/\∀ i,(h:i<(pre++[(⟨k,p.1,p.2,ua,uc⟩:vN)]).length)->(pre++[(⟨k,p.1,p.2,ua,uc⟩:vN)])[i].i=i):=zH (by
     refine⟨by rw[List.map_append,HS.out.1,HTK.out];rfl,fun i h => ?_⟩
     by_cases e:i<pre.length
     · rw[List.getElem_append_left e];exact HS.out.2 i e
     · have e2:i=pre.length:=by simp at h;omega
       subst e2;rw[List.getElem_append_right (zL _)]
       simp[hpl])
    clear hR HJs HS HTK hmem ba k3 hb
    gi_wp2_with (refine⟨rfl,?_⟩;refine HR.out.mono ?_;rintro e w6 ⟨rfl,j6,b6⟩
                 have H6:Aside (J (pre++[⟨k,p.1,p.2,ua,uc⟩]) w6/\Below w00.heap.size w00 w6):=⟨j6,HBa.out.trans b6⟩
                 clear j6 b6)
    clear hy HR
    go_roundw
    case rel=>exact⟨k+1,_,by omega,by go_num,zH H6.out.1,HS2,by rw[List.length_append];simp;omega,H6.out.2⟩
    case measure=>simp[intOf];omega
  · obtain rfl:k=ps.length:=by omega
    gi_wp2
    go_end0
    exact⟨⟨_,rfl⟩,pre,⟨by rw[HS.out.1,List.take_length],HS.out.2⟩,HJs.out⟩
def iG (xs:List vN)(r:Rq):List Brk:=xs.flatMap fun x=>lL x.i x.k r
theorem aR6 (xs:List vN)(x:vN)(r:Rq):iG (xs++[x]) r=iG xs r++lL x.i x.k r:=by simp[iG]
theorem bI9 (xs:List vN)(r:Rq):(iG xs r).length<=xs.length:=by
 induction xs with
 | nil=>exact zL _
 | cons x xs ih =>
   have:=aV6 x.i x.k r;unfold iG at *;rw[List.flatMap_cons,List.length_append,List.length_cons];omega
theorem sR (r:Rq):∀(xs:List vN) (n:Nat),(∀ i,(h:i<xs.length)->xs[i].i=n+i)->iG xs r=fB n (xs.map vN.k) r
 | [],_,_=>rfl
 | x :: xs,n,h=>by
   have e:=h 0 (by simp);rw[List.getElem_cons_zero]at e;unfold iG at *;rw[List.flatMap_cons,List.map_cons,fB];have ih:=sR r xs (n+1) (fun i hi=>by have:=h (i+1) (by simpa using hi);rw[List.getElem_cons_succ]at this;omega);unfold iG at ih;rw[ih,e];rfl
theorem bJ0 {ps:List (List D × Bool)}{xs:List vN}(h:pelS ps xs)(r:Rq):iG xs r=bE ps r:=by
 rw[sR r xs 0 (fun i hi=>by rw[h.2 i hi];omega),h.1];rfl
end Go.Proofs.YthnogdodlhkldaaGreatDoor
