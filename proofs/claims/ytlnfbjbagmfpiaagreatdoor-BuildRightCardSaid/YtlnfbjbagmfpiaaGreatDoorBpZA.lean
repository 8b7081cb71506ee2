/- The program's void names; a node that is there; one that takes kids. A range over an iterator whose elements are of any kind: what its consumer promises, the law of it. The program's builder in its block; its stack: how many, the last one, one more, fewer. The program's stack: the library's iterator from the end; what is sought in it. The program's stack: what is sought, from the end. -/
import Derived.Test.YtlnfbjbagmfpiaaGreatDoorBrZA
set_option maxRecDepth 100000
set_option maxHeartbeats 4000000
namespace Go.Proofs.YtlnfbjbagmfpiaaGreatDoor.Dm
open Go.RowKit
theorem void_any (x:ByteArray)(w:World):Calls Tryz.prog 24 #[.string x] w fun e w'=>e=.returned (.bool (voidM x.data.toList))/\w'=w:=by
 obtain⟨b0,h0⟩:∃ b,decide (x.data.toList=[98,114])=b:=⟨_,rfl⟩;obtain⟨b1,h1⟩:∃ b,decide (x.data.toList=[104,114])=b:=⟨_,rfl⟩;obtain⟨b2,h2⟩:∃ b,decide (x.data.toList=[105,109,103])=b:=⟨_,rfl⟩;obtain⟨b3,h3⟩:∃ b,decide (x.data.toList=[105,110,112,117,116])=b:=⟨_,rfl⟩;obtain⟨b4,h4⟩:∃ b,decide (x.data.toList=[108,105,110,107])=b:=⟨_,rfl⟩;obtain⟨b5,h5⟩:∃ b,decide (x.data.toList=[109,101,116,97])=b:=⟨_,rfl⟩
 have hv:voidM x.data.toList=(b0 || b1 || b2 || b3 || b4 || b5):=by
  unfold voidM;rw[h0,h1,h2,h3,h4,h5]
 rw[hv];have g0:(x.toList==[98,114])=b0:=by rw[text_lit];exact h0
 have g1:(x.toList==[104,114])=b1:=by rw[text_lit];exact h1
 have g2:(x.toList==[105,109,103])=b2:=by rw[text_lit];exact h2
 have g3:(x.toList==[105,110,112,117,116])=b3:=by rw[text_lit];exact h3
 have g4:(x.toList==[108,105,110,107])=b4:=by rw[text_lit];exact h4
 have g5:(x.toList==[109,101,116,97])=b5:=by rw[text_lit];exact h5
 clear h0 h1 h2 h3 h4 h5 hv
 cases b0
 case true =>
  go_enter Tryz.func24,Tryz.ntmps24
  go_wp2
  go_ret
  exact⟨rfl,rfl⟩
 cases b1
 case true =>
  go_enter Tryz.func24,Tryz.ntmps24
  go_wp2
  go_ret
  exact⟨rfl,rfl⟩
 cases b2
 case true =>
  go_enter Tryz.func24,Tryz.ntmps24
  go_wp2
  go_ret
  exact⟨rfl,rfl⟩
 cases b3
 case true =>
  go_enter Tryz.func24,Tryz.ntmps24
  go_wp2
  go_ret
  exact⟨rfl,rfl⟩
 cases b4
 case true =>
  go_enter Tryz.func24,Tryz.ntmps24
  go_wp2
  go_ret
  exact⟨rfl,rfl⟩
 cases b5
 case true =>
  go_enter Tryz.func24,Tryz.ntmps24
  go_wp2
  go_ret
  exact⟨rfl,rfl⟩
 go_enter Tryz.func24,Tryz.ntmps24
 go_wp2
 go_ret
 exact⟨rfl,rfl⟩
theorem void_hid (x:ByteArray)(b:Bool)(h:voidM x.data.toList=b):Hid (∀ W,Calls Tryz.prog 24 #[.string x] W fun e w'=>e=.returned (.bool b)/\w'=W):=Lib.hid fun W=>by rw[<- h];exact void_any x W
theorem isNodeB_any (a:Option Addr)(n c:Nat)(y:Int)(w:World):Calls Tryz.prog 45 #[.slice a n c,.int .i64 y] w fun e w'=>e=.returned (.bool (decide (0<=y)&&decide (y<(n:Int))))/\w'=w:=by
 by_cases h1:0<=y
 · by_cases h2:y<(n:Int)
   · rw[decide_eq_true h1,decide_eq_true h2]
     go_enter Tryz.func45,Tryz.ntmps45
     go_wp2
     go_ret
     exact⟨rfl,rfl⟩
   · rw[decide_eq_true h1,decide_eq_false h2]
     go_enter Tryz.func45,Tryz.ntmps45
     go_wp2
     go_ret
     exact⟨rfl,rfl⟩
 · rw[decide_eq_false h1]
   go_enter Tryz.func45,Tryz.ntmps45
   go_wp2
   go_ret
   exact⟨rfl,rfl⟩
theorem takesB_hid (k:Int)(N D:ByteArray)(p:Int)(b s:Bool):Hid (∀ W av kv,Calls Tryz.prog 46 #[.agg #[.int .i64 k,.string N,.string D,av,.int .i64 p,kv,.bool b,.bool s]] W fun e w'=>e=.returned (.bool (decide (k=1) || decide (k=2)))/\Below W.heap.size W w'):=Lib.hid fun w av kv=>by
 have al:=(Below.refl w.heap.size w).alloc (Nat.le_refl _) (.cells #[.int .i64 k,.string N,.string D,av,.int .i64 p,kv,.bool b,.bool s] 39);have hbx:=new_block w (.cells #[.int .i64 k,.string N,.string D,av,.int .i64 p,kv,.bool b,.bool s] 39);have e0:=cell_of hbx 0;have HB:=Lib.hid al;clear al hbx
 by_cases h1:k=1
 · subst h1
   go_enter Tryz.func46,Tryz.ntmps46
   go_wp2
   go_ret
   exact⟨rfl,HB.out⟩
 · have z1:decide (k=1)=false:=decide_eq_false h1
   by_cases h2:k=2
   · subst h2
     go_enter Tryz.func46,Tryz.ntmps46
     go_wp2
     go_ret
     exact⟨rfl,HB.out⟩
   · have z2:decide (k=2)=false:=decide_eq_false h2
     go_enter Tryz.func46,Tryz.ntmps46
     go_wp2
     go_ret
     exact⟨by simp[h1,h2],HB.out⟩
theorem takesBV_hid (x:Nd):Hid (∀ W av kv,Calls Tryz.prog 46 #[nodeV x av kv] W fun e w'=>e=.returned (.bool (holdM x))/\Below W.heap.size W w'):=Lib.hid fun w av kv=>by
 obtain⟨N,hN⟩:=text_of x.n;obtain⟨D,hD⟩:=text_of x.d;unfold nodeV;rw[strV_of hN,strV_of hD];exact(takesB_hid x.k N D x.p x.b x.s).out w av kv
end Go.Proofs.YtlnfbjbagmfpiaaGreatDoor.Dm
namespace Go.Proofs.YtlnfbjbagmfpiaaGreatDoor.Dm
open Go.RowKit Go.Shelf
attribute [local go_sem] Oper.semAt_some
structure EatsG {α:Type} (encs:α->Array Value) (L:List α) (n₁ l:Nat) (Y:Nat->Prop) (J Jx:(Nat->Prop)->List α->World->Prop):Prop where
 lt:∀ T s A,J T s A->∀ k,T k->k<A.heap.size
 stay:∀ T s A B,J T s A->As n₁ T A B->J T s B
 stayx:∀ T s A B,Jx T s A->As n₁ T A B->Jx T s B
 eat:∀ T s (x:α) W,J T s W->s++[x] <+: L->YieldAt Fence.wide 0 Tryz.prog l (encs x) W fun e W'=>(e=.returned (.bool true)/\∃ T',J T' (s++[x]) W'/\Fr T W T' W')\/(e=.returned (.bool false)/\∃ T',Jx T' (s++[x]) W'/\Fr (fun k=>T k\/Y k) W T' W')
def EndG {α:Type}(L:List α)(Y:Nat->Prop)(J Jx:(Nat->Prop)->List α->World->Prop)(T:Nat->Prop)(W:World)(e:Ending)(W':World):Prop :=
 (∃ v,e=.returned v)/\∃ T',(J T' L W'/\Fr T W T' W')\/∃ q,q <+: L/\Jx T' q W'/\Fr (fun k=>T k\/Y k) W T' W'
def roundG {α:Type}(X:Nat->Prop)(I Ix:(Nat->Prop)->List α->World->Prop)(T:Nat->Prop)(s:List α)(W0:World):Exit->Act->World->Prop
 | .normal,_,W'=>∃ T',I T' s W'/\Fr T W0 T' W'
 | .ret,_,W'=>∃ T',Ix T' s W'/\Fr (fun k=>T k\/X k) W0 T' W'
 | _,_,_=>False
theorem range_frG {α:Type} {encs:α->Array Value} {g:Operand} {ps:Array Tmp} {assign body:Code} {Q:Exit->Act->World->Prop} {a:Act} {w:World}
 {gf:Nat} {lb:Array Value} (hg:a.eval g=.func (.func gf) #[] lb) (eg:∀ args w,(callFunc gf args).run Tryz.prog w=.ok (.enter gf args) w) (hps:∀ x,(encs x).size=ps.size)
 (L:List α) (X:Nat->Prop) (hX:∀ k,X k->k<w.heap.size) (I Ix:(Nat->Prop)->List α->World->Prop) (T:Nat->Prop)
 (hlt:∀ T s A,I T s A->∀ k,T k->k<A.heap.size) (has:∀ T s A B,I T s A->As w.heap.size T A B->I T s B) (hasx:∀ T s A B,Ix T s A->As w.heap.size T A B->Ix T s B) (h0:I T [] w)
 (hgo:∀(l:Nat) (Y:Nat->Prop) (J Jx:(Nat->Prop)->List α->World->Prop) (W:World),EatsG encs L W.heap.size l Y J Jx->(∀ k,Y k->k<W.heap.size)->Below w.heap.size w W->J T [] W->CallsIn Fence.wide 0 Tryz.prog gf (#[.func (.yield l) #[] #[]]++lb) W (EndG L Y J Jx T W))
 (hround:∀(l:Nat) (T:Nat->Prop) (s:List α) (x:α) (W:World),w.heap.size<=l->(∃ r,W.heap[l]? = some (.loop r))->¬ T l->I T s W->s++[x] <+: L ->
   assign.wpIn (Fence.wide.inRound l) 0 Tryz.prog (Exit.then (fun a₁ W₁=>Below W.heap.size W W₁/\∀ r',body.wpIn (Fence.wide.inRound l) 0 Tryz.prog (roundG X I Ix T (s++[x]) (W.putObj l (.loop r'))) a₁ (W₁.putObj l (.loop r'))) (fun _ _ _=>False))
    { tmps:=(ps.zip (encs x)).foldl (fun t (p,v)=>t.setIfInBounds p v) a.tmps,defers:=[] } W)
 (hdone:∀(T':Nat->Prop) (W:World),I T' L W->Fr T w T' W->¬ T' w.heap.size->W.heap[w.heap.size]? = some (.deferred (some []))->Q .normal { a with defers:={ target := .collected w.heap.size,args:=#[] } :: a.defers } W)
 (hstop:∀(T':Nat->Prop) (q:List α) (W:World),q <+: L->Ix T' q W->Fr (fun k=>T k\/X k) w T' W->¬ T' w.heap.size->W.heap[w.heap.size]? = some (.deferred (some []))->Code.ret.wpIn Fence.wide 0 Tryz.prog Q { a with defers:={ target := .collected w.heap.size,args:=#[] } :: a.defers } W) :
 (Code.rangeFunc g ps assign body).wpIn Fence.wide 0 Tryz.prog Q a w:=by
 refine wpIn_rangeFunc (fun fn hfn => ?_)
 let rc:LoopState->Option Code->Loop:=fun st pe=>{ state:=st,pending:=pe,fn,tmps:=a.tmps,params:=ps,assign,body,defers:=w.heap.size }
 obtain⟨W1,hW1⟩:∃ W1,(w.alloc (.deferred (some []))).alloc (.loop (rc .ready none))=W1:=⟨_,rfl⟩;have b1:Below w.heap.size w W1:=by rw[<- hW1];exact((Below.refl _ w).alloc (Nat.le_refl _) _).alloc (by simp) _
 have s1:W1.heap.size=w.heap.size+2:=by rw[<- hW1];simp
 have hl1:W1.heap[w.heap.size+1]? = some (.loop (rc .ready none)):=by
  rw[<- hW1];have:=World.alloc_heap_new (w.alloc (.deferred (some []))) (.loop (rc .ready none));rwa [World.size_alloc]at this
 have hd1:W1.heap[w.heap.size]? = some (.deferred (some [])):=by rw[<- hW1];exact(Below.heap_alloc _ _ _ (by simp)).trans (World.alloc_heap_new w _)
 have hTl:¬ T (w.heap.size+1):=fun h=>by have:=hlt _ _ _ h0 _ h;omega
 have hTd:¬ T w.heap.size:=fun h=>by have:=hlt _ _ _ h0 _ h;omega
 refine⟨w.heap.size+1,[{ target := .collected w.heap.size,args:=#[] }],W1,{ target := .fn (.func gf) lb,args:=#[.func (.yield (w.heap.size+1)) #[] #[]] },W1,gf,#[.func (.yield (w.heap.size+1)) #[] #[]]++lb,W1,?_,?_,?_,?_,(fun h=>by cases h),?_⟩
 · rw[<- hW1];exact run_enterLoop_outer fn a.tmps ps assign body
 · simp only[resolve,hg]
   simp[go_sem]
 · intro f' _;trivial
 · simp[invoke,go_sem,eg]
 have call:=hgo (w.heap.size+1) (fun k=>X k\/k=w.heap.size+1)
  (fun T s W=>I T s W/\W.heap[w.heap.size+1]? = some (.loop (rc .ready none))/\W.heap[w.heap.size]? = some (.deferred (some []))/\¬ T (w.heap.size+1)/\¬ T w.heap.size)
  (fun T s W=>Ix T s W/\W.heap[w.heap.size+1]? = some (.loop (rc .done (some .ret)))/\W.heap[w.heap.size]? = some (.deferred (some []))/\¬ T (w.heap.size+1)/\¬ T w.heap.size)
  W1 ?_ (fun k hk=>by rcases hk with hk | hk;exact Nat.lt_of_lt_of_le (hX k hk) b1.size;omega) b1 ⟨has _ _ _ _ h0 (As.of_below b1),hl1,hd1,hTl,hTd⟩
 · refine call.mono ?_
   rintro e W2 ⟨⟨v,rfl⟩,T',⟨⟨hi,hl,hd,n1,n2⟩,fr⟩ | ⟨q,hq,⟨hi,hl,hd,n1,n2⟩,fr⟩⟩
   · have ha:As w.heap.size T' W2 (W2.putObj (w.heap.size+1) (.loop (rc .exhausted none))):=As.putObj _ (Nat.le_succ _) n1
     have f2:Fr T w T' (W2.putObj (w.heap.size+1) (.loop (rc .exhausted none))):=((Fr.of_below b1).trans fr).put _ (Nat.le_succ _);exact⟨none,_,run_endLoop hl (by simp[rc]),hdone T' _ (has _ _ _ _ hi ha) f2 n2 ((World.putObj_heap_other (by omega)).trans hd)⟩
   · have ha:As w.heap.size T' W2 (W2.putObj (w.heap.size+1) (.loop (rc .exhausted (some .ret)))):=As.putObj _ (Nat.le_succ _) n1
     have f2:Fr (fun k=>T k\/X k) w T' (W2.putObj (w.heap.size+1) (.loop (rc .exhausted (some .ret)))):=(Fr.cut b1 fr (fun k hk h=>by rcases h with h | h | h;exact .inl h;exact .inr h;omega)).put _ (Nat.le_succ _);exact⟨some .ret,_,run_endLoop hl (by simp[rc]),hstop T' q _ hq (hasx _ _ _ _ hi ha) f2 n2 ((World.putObj_heap_other (by omega)).trans hd)⟩
 · refine⟨fun T s A h=>hlt T s A h.1,fun T s A B h hA => ?_,fun T s A B h hA => ?_,?_⟩
   · obtain⟨h1,h2,h3,h4,h5⟩:=h
     exact⟨has _ _ _ _ h1 (hA.mono (by omega)),hA.at h2 (.inl (by omega)),hA.at h3 (.inl (by omega)),h4,h5⟩
   · obtain⟨h1,h2,h3,h4,h5⟩:=h
     exact⟨hasx _ _ _ _ h1 (hA.mono (by omega)),hA.at h2 (.inl (by omega)),hA.at h3 (.inl (by omega)),h4,h5⟩
   · rintro T s x W ⟨hi,hl,hd,n1,n2⟩ hx
     refine⟨fn,_,assign,body,run_yield hl (by simpa [rc] using hps x),roundIn_of_wpIn hfn ?_⟩;refine wpIn_mono (hround (w.heap.size+1) T s x W (Nat.le_succ _) ⟨_,hl⟩ n1 hi hx) ?_;rintro e a₁ W3 hp
     cases e with
     | normal =>
       obtain⟨b3,hb⟩:=hp;have hl3:=(b3.block _ (lt_of_block hl)).trans hl;refine⟨_,run_beginRound hl3 rfl,?_⟩;refine wpIn_mono (hb _) ?_;have hlb:(W.putObj (w.heap.size+1) (.loop (rc .busy none))).heap[w.heap.size+1]? = some (.loop (rc .busy none)):=World.putObj_heap_same (lt_of_block hl);have hdb:(W.putObj (w.heap.size+1) (.loop (rc .busy none))).heap[w.heap.size]? = some (.deferred (some [])):=(World.putObj_heap_other (by omega)).trans hd;have fin:∀(T':Nat->Prop) (W':World) (o:Obj),Fr T (W.putObj (w.heap.size+1) (.loop (rc .busy none))) T' W'->(∀ k,k≠w.heap.size+1->(W'.putObj (w.heap.size+1) o).heap[k]? = W'.heap[k]?):=fun T' W' o _ k hk=>World.putObj_heap_other (by omega);rintro e a₂ W5 hp5
       cases e with
       | normal =>
         obtain⟨T',hi5,f5⟩:=hp5;have hl5:=f5.at hlb n1;have hd5:=f5.at hdb n2;have n1':=f5.no (lt_of_block hlb) n1;have n2':=f5.no (lt_of_block hdb) n2;refine⟨_,_,run_endRound none hl5,.inl ⟨rfl,T',⟨has _ _ _ _ hi5 (As.putObj _ (Nat.le_succ _) n1'),World.putObj_heap_same (lt_of_block hl5),(World.putObj_heap_other (by omega)).trans hd5,n1',n2'⟩,⟨f5.os,f5.tape,f5.output,?_,fun k hk hT => ?_,fun k hk=>f5.less k (by simpa [World.putObj] using hk)⟩⟩⟩
         · have:=f5.size
           simpa [World.putObj] using this
         · by_cases e:k=w.heap.size+1
           · subst e
             rw[World.putObj_heap_same (lt_of_block hl5),hl];rfl
           · rw[World.putObj_heap_other (by omega),f5.same k (by simpa [World.putObj] using hk) hT,World.putObj_heap_other (by omega)]
       | ret =>
         obtain⟨T',hi5,f5⟩:=hp5
         have m1:¬ (T (w.heap.size+1)\/X (w.heap.size+1)):=fun h=>by
          rcases h with h | h
          · exact n1 h
          · have:=hX _ h;omega
         have m2:¬ (T w.heap.size\/X w.heap.size):=fun h=>by
          rcases h with h | h
          · exact n2 h
          · have:=hX _ h;omega
         have hl5:=f5.at hlb m1;have hd5:=f5.at hdb m2;have n1':=f5.no (lt_of_block hlb) m1;have n2':=f5.no (lt_of_block hdb) m2;refine⟨_,_,run_endRound (some .ret) hl5,.inr ⟨rfl,T',⟨hasx _ _ _ _ hi5 (As.putObj _ (Nat.le_succ _) n1'),World.putObj_heap_same (lt_of_block hl5),(World.putObj_heap_other (by omega)).trans hd5,n1',n2'⟩,⟨f5.os,f5.tape,f5.output,?_,fun k hk hT => ?_,fun k hk h=>(f5.less k (by simpa [World.putObj] using hk) h).imp id .inl⟩⟩⟩
         · have:=f5.size
           simpa [World.putObj] using this
         · have e:k≠w.heap.size+1:=fun e=>hT (.inr (.inr e))
           rw[World.putObj_heap_other (by omega),f5.same k (by simpa [World.putObj] using hk) (fun h=>hT (h.imp id .inl)),World.putObj_heap_other (by omega)]
       | _=>exact hp5.elim
     | _=>exact hp.elim
end Go.Proofs.YtlnfbjbagmfpiaaGreatDoor.Dm
namespace Go.Proofs.YtlnfbjbagmfpiaaGreatDoor.Dm
open Go.RowKit
abbrev OE:=Nat × List UInt8
def opC (E:List OE):List Value:=E.flatMap fun y=>[.int .i64 (y.1:Int),strV y.2]
def oeV (y:OE):Value := .agg #[.int .i64 (y.1:Int),strV y.2]
theorem opC_snoc (E:List OE)(y:OE):opC (E++[y])=opC E++[.int .i64 (y.1:Int),strV y.2]:=by simp[opC]
theorem opC_at:∀(A:List OE) (i:Nat) (h:i<A.length),(opC A)[i * 2]? = some (.int .i64 (A[i].1:Int))/\(opC A)[i * 2+1]? = some (strV A[i].2)
 | y :: r,0,_=>⟨rfl,rfl⟩
 | y :: r,i+1,h=>by
   have:=opC_at r i (by simpa using h);rw[show opC (y :: r)=[.int .i64 (y.1:Int),strV y.2]++opC r from rfl];rw[List.getElem?_append_right (by simp;omega),List.getElem?_append_right (by simp;omega)];simp only[List.length_cons,List.length_nil,List.getElem_cons_succ];rw[show(i+1) * 2 - (0+1+1)=i * 2 by omega,show(i+1) * 2+1 - (0+1+1)=i * 2+1 by omega];exact this
theorem opC_one:∀(A:List OE),∀ v∈opC A,v.oneCell'=true:=fun A v hv=>by
 unfold opC at hv;obtain⟨y,_,h⟩:=List.mem_flatMap.1 hv;simp at h;rcases h with rfl | rfl<;>rfl
theorem opC_take:∀(E:List OE) (i:Nat),opC (E.take i)=(opC E).take (i * 2)
 | [],i=>by simp[opC]
 | y :: r,0=>rfl
 | y :: r,i+1=>by
   rw[List.take_succ_cons,show opC (y :: r)=[.int .i64 (y.1:Int),strV y.2]++opC r from rfl,show opC (y :: r.take i)=[.int .i64 (y.1:Int),strV y.2]++opC (r.take i)from rfl,opC_take r i,Nat.succ_mul];rfl
theorem TinfoOE:(Tryz.prog.info? 131).map (fun i=>(i.zero,i.size,i.bytes))=some (some (.agg #[.int .i64 0,.string ⟨#[]⟩]),2,24):=by kernel_rfl
def BX (w:World)(Q:Nat)(dv ov:Value)(p:Bool)(fv:Value):Prop:=w.heap[Q]? = some (.cells #[dv,ov,.bool p,fv] 86 (0,0))
section
variable {w w':World} {Q:Nat} {dv ov fv:Value} {p:Bool}
theorem BX.lt (a:BX w Q dv ov p fv):Q<w.heap.size:=lt_of_block a
theorem BX.below (a:BX w Q dv ov p fv)(hb:Below w.heap.size w w'):BX w' Q dv ov p fv:=(hb.block _ a.lt).trans a
theorem BX.free (a:BX w Q dv ov p fv)(j:Nat):w.frozen? ⟨Q,j,none⟩=false:=open_of a j
theorem BX.c0 (a:BX w Q dv ov p fv):w.cell? ⟨Q,0,none⟩=some dv:=by rw[cell_of a];rfl
theorem BX.c1 (a:BX w Q dv ov p fv):w.cell? ⟨Q,1,none⟩=some ov:=by rw[cell_of a];rfl
theorem BX.c2 (a:BX w Q dv ov p fv):w.cell? ⟨Q,2,none⟩=some (.bool p):=by rw[cell_of a];rfl
theorem BX.c3 (a:BX w Q dv ov p fv):w.cell? ⟨Q,3,none⟩=some fv:=by rw[cell_of a];rfl
theorem BX.set0 (a:BX w Q dv ov p fv)(u:Value):BX (w.setCell ⟨Q,0,none⟩ u) Q u ov p fv:=by unfold BX at *;rw[heap_setCell_same _ _ _ _ _ _ _ a];rfl
theorem BX.set1 (a:BX w Q dv ov p fv)(u:Value):BX (w.setCell ⟨Q,1,none⟩ u) Q dv u p fv:=by unfold BX at *;rw[heap_setCell_same _ _ _ _ _ _ _ a];rfl
theorem BX.set3 (a:BX w Q dv ov p fv)(u:Value):BX (w.setCell ⟨Q,3,none⟩ u) Q dv ov p u:=by unfold BX at *;rw[heap_setCell_same _ _ _ _ _ _ _ a];rfl
theorem BX.kset (a:BX w Q dv ov p fv)(j:Nat)(u:Value):Kp (fun i _=>i=Q) w (w.setCell ⟨Q,j,none⟩ u):=Kp.of_set a u rfl
end
def PB (B:Nat)(j:Nat)(t:TypeId):Prop:=(t=86\/t=131\/t=93)/\B<=j
theorem PB.kp {B:Nat}{w w':World}(k:Kp (PB B) w w')(hB:B<=w.heap.size):Below B w w':=k.below (fun _ _ e=>e.2) hB
theorem PB.no8 {B j:Nat}:¬ PB B j 39:=fun e=>by rcases e.1 with e | e | e<;>exact absurd e (by decide)
theorem PB.no2 {B j:Nat}:¬ PB B j 41:=fun e=>by rcases e.1 with e | e | e<;>exact absurd e (by decide)
theorem PB.no3 {B j:Nat}:¬ PB B j 3:=fun e=>by rcases e.1 with e | e | e<;>exact absurd e (by decide)
def PBf (B:Nat)(j:Nat)(t:TypeId):Prop:=(t=86\/t=93)/\B<=j
def PBo (B:Nat)(j:Nat)(t:TypeId):Prop:=(t=86\/t=131)/\B<=j
theorem PBf.pb {B:Nat}{w w':World}(k:Kp (PBf B) w w'):Kp (PB B) w w':=k.mono fun _ _ _ _ _ e=>⟨e.1.imp id .inr,e.2⟩
theorem PBo.pb {B:Nat}{w w':World}(k:Kp (PBo B) w w'):Kp (PB B) w w':=k.mono fun _ _ _ _ _ e=>⟨e.1.imp id .inl,e.2⟩
theorem count_hid:Hid (∀ W Q dv a n c p fv,BX W Q dv (.slice a n c) p fv->Calls Tryz.prog 80 #[.pointer (some ⟨Q,1,none⟩)] W fun e w'=>e=.returned (.int .i64 (n:Int))/\w'=W):=Lib.hid fun w Q dv a n c p fv hX=>by
 have e1:=hX.c1;clear hX
 go_enter Tryz.func80,Tryz.ntmps80
 go_wp2
 go_ret
 exact⟨rfl,rfl⟩
theorem top_hid (E:List OE)(y:OE)(hy:E.getLast? = some y)(hl:E.length<=100000)(B:Nat):Hid (∀ W Q dv ov p fv,BX W Q dv ov p fv->W.ownsRow B 131 2 ov E.length (opC E)->Calls Tryz.prog 145 #[.pointer (some ⟨Q,1,none⟩)] W fun e w'=>e=.returned (oeV y)/\Below W.heap.size W w'):=Lib.hid fun w Q dv ov p fv hX hO=>by
 have h0:0<E.length:=by
  cases E with
  | nil=>cases hy
  | cons a r=>simp
 obtain⟨g,c,rfl⟩:∃ g c,ov=.slice (some ⟨g,0,none⟩) E.length c:=by
  rcases rowForms hO with ⟨_,e⟩ | h
  · omega
  · exact h
 have hyl:E[E.length - 1]'(by omega)=y:=by
  rw[List.getLast?_eq_getElem?,List.getElem?_eq_getElem (by omega)]at hy;exact Option.some.inj hy
 obtain⟨k0,k1⟩:=opC_at E (E.length - 1) (by omega);rw[hyl]at k0 k1;obtain⟨N,hN⟩:=text_of y.2;rw[strV_of hN]at k1;have d0:=(hO.cellAt ((E.length - 1) * 2) (by omega)).trans k0;have d1:=(hO.cellAt ((E.length - 1) * 2+1) (by omega)).trans k1;have al:=(Below.refl w.heap.size w).alloc (Nat.le_refl _) (.cells #[.int .i64 0,.string ⟨#[]⟩] 131);have hb:=new_block w (.cells #[.int .i64 0,.string ⟨#[]⟩] 131);have e1:=(hX.below al).c1;have d0':=(al.cell (lt_of_cell d0)).trans d0;have d1':=(al.cell (lt_of_cell d1)).trans d1;have zl:((E.length - 1:Nat):Int)=(E.length:Int) - 1:=by omega
 have HB:=Lib.hid (And.intro al (And.intro hb zl));clear hX hO d0 d1 k0 k1 al hyl hy zl;unfold oeV;rw[strV_of hN];obtain⟨m,hm⟩:∃ m,E.length=m+1:=⟨E.length - 1,by omega⟩;rw[hm]at e1 d0' d1';rw[Nat.add_sub_cancel]at d0' d1';generalize hw1:w.alloc (.cells #[.int .i64 0,.string ⟨#[]⟩] 131)=w1 at *;have o0:=open_of HB.out.2.1 0;have o1:=open_of HB.out.2.1 1;have q0:=cell_of HB.out.2.1 0;have q1:=cell_of HB.out.2.1 1;have s1:=heap_setCell_same w1 w.heap.size 0 _ _ _ (.int .i64 (y.1:Int)) HB.out.2.1;have s2:=heap_setCell_same _ w.heap.size 1 _ _ _ (.string N) s1
 have c0:((w1.setCell ⟨w.heap.size,0,none⟩ (.int .i64 (y.1:Int))).setCell ⟨w.heap.size,1,none⟩ (.string N)).drew.cell? ⟨w.heap.size,0,none⟩=some (.int .i64 (y.1:Int)):=by
  have:((w1.setCell ⟨w.heap.size,0,none⟩ (.int .i64 (y.1:Int))).setCell ⟨w.heap.size,1,none⟩ (.string N)).cell? ⟨w.heap.size,0,none⟩=some (.int .i64 (y.1:Int)):=by rw[cell_of s2];rfl
  exact this
 have c1:((w1.setCell ⟨w.heap.size,0,none⟩ (.int .i64 (y.1:Int))).setCell ⟨w.heap.size,1,none⟩ (.string N)).drew.cell? ⟨w.heap.size,1,none⟩=some (.string N):=by
  have:((w1.setCell ⟨w.heap.size,0,none⟩ (.int .i64 (y.1:Int))).setCell ⟨w.heap.size,1,none⟩ (.string N)).cell? ⟨w.heap.size,1,none⟩=some (.string N):=by rw[cell_of s2];rfl
  exact this
 have HC:=Lib.hid (And.intro c0 c1);have HF:Hid (Below w.heap.size w ((w1.setCell ⟨w.heap.size,0,none⟩ (.int .i64 (y.1:Int))).setCell ⟨w.heap.size,1,none⟩ (.string N)).drew):=Lib.hid ((HB.out.1.setCell (p:=⟨w.heap.size,0,none⟩) (Nat.le_refl _) _).setCell (p:=⟨w.heap.size,1,none⟩) (Nat.le_refl _) _).drew;have hml:m<100000:=by omega
 clear s1 s2 c0 c1 hm hb
 go_enter Tryz.func145,Tryz.ntmps145
 go_wp2
 go_region
 all_goals
  go_wp2
  exact bodyPost_ret (v := .agg #[.int .i64 (y.1:Int),.string N]) (by simp[results,Tryz.results145,go_sem,HC.out.1,HC.out.2]) rfl ⟨rfl,HF.out⟩
theorem push_hid (E:List OE)(y:OE)(hl:E.length<=100000)(B:Nat):Hid (∀ W Q dv ov p fv,BX W Q dv ov p fv->B<=Q->W.ownsRow B 131 2 ov E.length (opC E)->Calls Tryz.prog 74 #[.pointer (some ⟨Q,1,none⟩),oeV y] W fun e w'=>e=.returned (.tuple #[])/\∃ ov',BX w' Q dv ov' p fv/\w'.ownsRow B 131 2 ov' (E++[y]).length (opC (E++[y]))/\Kp (PBo B) W w'):=Lib.hid fun w Q dv ov p fv hX hBQ hO=>by
 obtain⟨i0,hi,hz0,hz1,hz2⟩:=info_parts TinfoOE;obtain⟨va,vc,rfl⟩:=row_form hO;obtain⟨N,hN⟩:=text_of y.2;have hQ:=hX.lt;unfold oeV;rw[opC_snoc,strV_of hN];have al:=(Below.refl w.heap.size w).alloc (Nat.le_refl _) (.cells #[.int .i64 (y.1:Int),.string N] 131);have hb:=new_block w (.cells #[.int .i64 (y.1:Int),.string N] 131);have hs1:(w.alloc (.cells #[.int .i64 (y.1:Int),.string N] 131)).heap.size=w.heap.size+1:=by simp
 generalize hw1:w.alloc (.cells #[.int .i64 (y.1:Int),.string N] 131)=w1 at *;have e0:=cell_of hb 0;have e1:=cell_of hb 1;have x1:=hX.below al;have O1:=Lib.hid (row_below hO al);have q1:=x1.c1;have q1':(w1.alloc (.cells #[.int .i64 (y.1:Int),.string N] 131)).cell? ⟨Q,1,none⟩=some (.slice va E.length vc):=by rw[World.cell?_of_block (Below.heap_alloc w1 _ Q (lt_of_cell q1))];exact q1
 have HX:=Lib.hid x1;have HAL:=Lib.hid al;have hsz:B<=w1.drew.heap.size:=by show B<=w1.heap.size;omega
 clear hX hO x1 al hb hs1
 go_enter Tryz.func74,Tryz.ntmps74
 go_wp2_with fail
 go_region_law ((refine step_append_lies _ (by rfl) (.tmp 8) (.tmp 10) 82 (by rfl) B 131 i0 (.agg #[.int .i64 0,.string ⟨#[]⟩]) 2 24 Tryz.underlying82 hi hz0 hz1 hz2 rfl (by decide) _ _ _ (by rfl) (O1.out.alloc _) ⟨w1.heap.size,0,none⟩ 1 1 [.int .i64 (y.1:Int),.string N] (by rfl) rfl (World.news_of_block (new_block _ _)) (by intro u hu;simp at hu;rcases hu with rfl | rfl<;>rfl) (by decide) (by unfold maxLen;omega) (by omega) (by have:=hsz;simp at this ⊢;omega) _ rfl ?_
                 intro g cap6 w6 hown6 hgrow6 hat6 hlt6;have b6:Below w1.heap.size w1 (w1.drew.alloc (.cells #[.int .i64 (y.1:Int),.string N] 131)):=((Below.refl w1.heap.size w1).drew).alloc (Nat.le_refl _) _
                 have k6:Kp (PBo B) w1 w6:=(Kp.of_below b6).trans (Kp.of_grown hgrow6 (fun j c t fr hj hc=>by
                  obtain⟨cur,e,hb,_⟩:=row_block (O1.out.alloc (.cells #[.int .i64 (y.1:Int),.string N] 131)) hj
                  cases hc.symm.trans e
                  exact⟨.inr rfl,hb⟩) fun j hj=>by
                  obtain⟨cur,e,_⟩:=row_block (O1.out.alloc (.cells #[.int .i64 (y.1:Int),.string N] 131)) hj
                  exact⟨_,_,_,e⟩)
                 have y6:BX w6 Q dv (.slice va E.length vc) p fv:=(hgrow6.block Q (by have:=HX.out.lt;simp;omega) (fun e=>row_ne O1.out HX.out (by decide) e.symm)).trans ((b6.block Q HX.out.lt).trans HX.out);have s6:=y6.c1
                 have t6:=y6.free 1))
 all_goals
  have z6:=y6.set1 (.slice (some ⟨g,0,none⟩) (E.length+1) cap6);have hk:Kp (PBo B) w (w6.setCell ⟨Q,1,none⟩ (.slice (some ⟨g,0,none⟩) (E.length+1) cap6)):=(Kp.of_below HAL.out).trans (k6.trans (Kp.of_set y6 _ ⟨.inl rfl,hBQ⟩));have hrow:=(y6.kset 1 (.slice (some ⟨g,0,none⟩) (E.length+1) cap6)).row hown6 (fun j hj _ e=>row_ne hown6 y6 (by decide) (by rw[hj];exact congrArg _ e))
  go_end0
  exact⟨rfl,_,z6,by rw[List.length_append];exact hrow,hk⟩
theorem slice_uptoB (g n c i:Nat)(hi:i<=c):∀ W,(Instr.slice 82 (.slice (some ⟨g,0,none⟩) n c) none (some (.int .i64 (i:Int))) none).run Tryz.prog W=.ok (.slice (some ⟨g,0,none⟩) i c) W:=fun W=>by
 obtain⟨i0,hi0,hz0,hz1,hz2⟩:=info_parts Tinfo3
 have hb:∀ W,(Instr.sliceBound (.int .i64 (i:Int)) c .sliceAcap).run Tryz.prog W=.ok i W:=fun W=>by
  have:=Go.run_sliceBound (P:=Tryz.prog) (w:=W) .i64 (i:Int) c .sliceAcap (by omega) (by omega)
  simpa using this
 simp[Instr.slice,run_underlying Tryz.underlying82,Instr.sliceBounds,hb,Addr.add]
theorem cut_hidB (E:List OE)(h0:0<E.length)(i:Nat)(hi:i<=E.length)(B:Nat):Hid (∀ W Q dv ov p fv,BX W Q dv ov p fv->B<=Q->W.ownsRow B 131 2 ov E.length (opC E)->Calls Tryz.prog 117 #[.pointer (some ⟨Q,1,none⟩),.int .i64 (i:Int)] W fun e w'=>e=.returned (.tuple #[])/\∃ ov',BX w' Q dv ov' p fv/\w'.ownsRow B 131 2 ov' (E.take i).length (opC (E.take i))/\Kp (PBo B) W w'):=Lib.hid fun w Q dv ov p fv hX hBQ hO=>by
 obtain⟨g,c,rfl⟩:∃ g c,ov=.slice (some ⟨g,0,none⟩) E.length c:=by
  rcases rowForms hO with ⟨_,e⟩ | h
  · omega
  · exact h
 have hc:=cap_row hO;have SL:=slice_uptoB g E.length c i (by omega);have e1:=hX.c1;have f1:=hX.free 1;have z6:=hX.set1 (.slice (some ⟨g,0,none⟩) i c);have hk:Kp (PBo B) w (w.setCell ⟨Q,1,none⟩ (.slice (some ⟨g,0,none⟩) i c)):=Kp.of_set hX _ ⟨.inl rfl,hBQ⟩;have h1:=row_cut hO hi;rw[<- opC_take]at h1;have hrow:=(hX.kset 1 (.slice (some ⟨g,0,none⟩) i c)).row h1 (fun j hj _ e=>row_ne h1 hX (by decide) (by rw[hj];exact congrArg _ e));have HE:=Lib.hid (And.intro z6 (And.intro hrow hk));clear hX hO z6 hk h1 hrow hc
 go_enter Tryz.func117,Tryz.ntmps117
 go_wp2
 go_end0
 exact⟨rfl,_,HE.out.1,by rw[List.length_take_of_le hi];exact HE.out.2.1,HE.out.2.2⟩
end Go.Proofs.YtlnfbjbagmfpiaaGreatDoor.Dm
namespace Go.Proofs.YtlnfbjbagmfpiaaGreatDoor.Dm
open Go.RowKit Go.Shelf
attribute [local go_sem] Oper.semAt_some
def bwV (x:Nat × OE):Array Value:=#[.int .i64 (x.1:Int),oeV x.2]
def bwF (E:List OE):Nat->List (Nat × OE)
 | 0=>[]
 | k+1=>match E[k]? with
   | some y=>(k,y) :: bwF E k
   | none=>bwF E k
theorem bwF_succ {E:List OE}{k:Nat}(h:k<E.length):bwF E (k+1)=(k,E[k]) :: bwF E k:=by
 rw[bwF,List.getElem?_eq_getElem h]
theorem back_any (a:Option Addr)(n c:Nat)(w:World):Calls Tryz.prog 146 #[.slice a n c] w fun e w'=>e=.returned (.func (.func 184) #[] #[.pointer (some ⟨w.heap.size,0,none⟩)])/\w'=w.alloc (.cells #[.slice a n c] 82):=by
 have hmf:∀(fn:Fn) (first cap:Array Value) (w:World),(Instr.makeFunc fn first cap).run Tryz.prog w=.ok (.func fn first cap) w:=fun _ _ _ _=>rfl
 go_enter Tryz.func146,Tryz.ntmps146
 go_wp2
 go_ret
 exact⟨rfl,rfl⟩
structure BackI (L:List (Nat × OE)) (J:(Nat->Prop)->List (Nat × OE)->World->Prop) (T:Nat->Prop) (W:World) (rest:List (Nat × OE)) (wr:World):Prop where
 j:∃ Tv pre,J Tv pre wr/\Fr T W Tv wr/\pre++rest=L
theorem back_goes (E:List OE) (hl:E.length<=100000) (w0:World) (sl:Value) (hd:RowIn w0 sl E.length 2 (opC E)) (n₁ l:Nat) (Y:Nat->Prop) (J Jx:(Nat->Prop)->List (Nat × OE)->World->Prop) (hE:EatsG bwV (bwF E E.length) n₁ l Y J Jx) (T:Nat->Prop) (W:World) (Bs:Nat) (hJ:J T [] W) (hb0:Below w0.heap.size w0 W) (hT:∀ k,T k->w0.heap.size<=k)
 (hbs:W.heap[Bs]? = some (.cells #[sl] 82 (0,0))) (hTs:¬ T Bs):CallsIn Fence.wide 0 Tryz.prog 184 #[.func (.yield l) #[] #[],.pointer (some ⟨Bs,0,none⟩)] W (EndG (bwF E E.length) Y J Jx T W):=by
 obtain⟨a,c,rfl⟩:=hd.form;have e1:=cell_of hbs 0;have HD:=Lib.hid hd;have H0:Hid (BackI (bwF E E.length) J T W (bwF E E.length) W):=Lib.hid ⟨T,[],hJ,Fr.refl _ _,rfl⟩;have HE:=Lib.hid hE;have HB:=Lib.hid (And.intro hb0 (And.intro hT hb0.size));clear hJ hE hb0;refine callsIn_of_wp Tryz.func184 rfl trivial ?_ rfl;simp only[Tryz.ntmps184,List.size_toArray,List.length_cons,List.length_nil,Nat.reduceAdd,Nat.reduceSub,Array.replicate_succ,Array.replicate_zero,List.push_toArray,List.append_toArray,List.nil_append,List.cons_append]
 gi_wp2
 gi_loopw [3] (fun i wr=>∃ k:Nat,k<=E.length/\i=.int .i64 ((k:Int) - 1)/\Hid (BackI (bwF E E.length) J T W (bwF E k) wr)) (fun i _=>(intOf i+1).toNat)
 case atStart=>exact⟨E.length,Nat.le_refl _,by go_num,H0⟩
 case round =>
  clear H0;obtain⟨k,hk,rfl,HX⟩:=hrel;have hnot:∀ k':Nat,BackI (bwF E E.length) J T W (bwF E k') wr->Below w0.heap.size w0 wr/\wr.heap[Bs]? = some (.cells #[.slice a E.length c] 82 (0,0)):=fun k' ⟨Tv,pre,_,hf,_⟩=>⟨HB.out.1.trans (hf.below HB.out.2.1 HB.out.2.2),hf.at hbs hTs⟩
  cases k with
  | zero =>
    have HF:Hid (∀ v,EndG (bwF E E.length) Y J Jx T W (.returned v) wr):=Lib.hid fun v=>by
     obtain⟨Tv,pre,h1,h2,h3⟩:=HX.out.j;rw[show bwF E 0=[]from rfl,List.append_nil]at h3;subst h3;exact⟨⟨v,rfl⟩,Tv,.inl ⟨h1,h2⟩⟩
    clear HX e1
    gi_wp2
    go_end0
    exact HF.out _
  | succ m =>
    have hm:m<E.length:=by omega
    obtain⟨hb,hx⟩:=hnot _ HX.out;obtain⟨k0,k1⟩:=opC_at E m hm;obtain⟨N,hN⟩:=text_of E[m].2;rw[strV_of hN]at k1;obtain⟨B,off,rfl,d0⟩:=(HD.out.below hb).at (j:=0) hm k0;obtain⟨B',off',hB,d1⟩:=(HD.out.below hb).at (j:=1) hm k1
    cases hB
    replace d0:wr.cell? ⟨B,off+m * 2,none⟩=some (.int .i64 (E[m].1:Int)):=d0;replace d1:wr.cell? ⟨B,off+m * 2+1,none⟩=some (.string N):=d1;have e2:=cell_of hx 0;obtain⟨Tv,pre,h1,h2,h3⟩:=HX.out.j;rw[bwF_succ hm]at h3;have hpre:pre++[(m,E[m])] <+: bwF E E.length:=⟨bwF E m,by rw[<- h3];simp⟩;obtain⟨fn,tmps,assign,body,hy,hR⟩:=HE.out.eat Tv pre (m,E[m]) wr h1 hpre;have hy2:=hy;unfold bwV oeV at hy2;rw[strV_of hN]at hy2;dsimp only at hy2;have HR:=Lib.hid hR;have H3:=Lib.hid (And.intro h2 (And.intro h3 hpre));have zm:((m+1:Nat):Int) - 1=(m:Int):=by omega
    rw[zm];have zl:(m:Int)<(E.length:Int):=by omega
    clear hR hy hnot hb hx h1 h2 h3 hpre k0 k1 HX e1 hk
    gi_wp2_with fail
    refine⟨rfl,?_⟩;refine HR.out.mono ?_;rintro e W2 (⟨rfl,T2,hJ2,f2⟩ | ⟨rfl,T2,hJ2,f2⟩)
    · have HS:Hid (BackI (bwF E E.length) J T W (bwF E m) W2):=Lib.hid ⟨T2,_,hJ2,H3.out.1.trans f2,by rw[<- H3.out.2.1];simp⟩
      clear hy2 HR hJ2 f2
      gi_wp2
      go_roundw
      case rel=>exact⟨m,by omega,by go_num,HS⟩
      case measure=>simp[intOf]
    · have HF:Hid (∀ v,EndG (bwF E E.length) Y J Jx T W (.returned v) W2):=Lib.hid fun v=>⟨⟨v,rfl⟩,T2,.inr ⟨_,H3.out.2.2,hJ2,(H3.out.1.wide Y).trans f2⟩⟩
      clear hy2 HR hJ2 f2
      gi_wp2
      go_end0
      exact HF.out _
def findP (E:List OE)(nm:List UInt8):Nat->Int
 | 0 => -1
 | k+1=>match E[k]? with
   | some y=>if y.2=nm then (k:Int) else findP E nm k
   | none=>findP E nm k
theorem findP_succ {E:List OE}{nm:List UInt8}{k:Nat}(h:k<E.length):findP E nm (k+1)=if E[k].2=nm then (k:Int) else findP E nm k:=by
 rw[findP,List.getElem?_eq_getElem h]
theorem findP_none {E:List OE}{nm:List UInt8}:∀ k,k<=E.length->(∀ x∈bwF E k,x.2.2≠nm)->findP E nm k = -1
 | 0,_,_=>rfl
 | k+1,h,hn=>by
   rw[bwF_succ (by omega)]at hn;rw[findP_succ (by omega),if_neg (hn _ (List.mem_cons_self ..))];exact findP_none k (by omega) fun x hx=>hn x (List.mem_cons_of_mem _ hx)
theorem findP_here {E:List OE}{nm:List UInt8}:∀ k,k<=E.length->∀(s:List (Nat × OE)) (x:Nat × OE),s++[x] <+: bwF E k->(∀ y∈s,y.2.2≠nm)->x.2.2=nm->findP E nm k=(x.1:Int)
 | 0,_,s,x,hp,_,_=>by
   have:=hp.length_le;simp[bwF]at this
 | k+1,h,s,x,hp,hn,hx=>by
   rw[bwF_succ (by omega)]at hp;rw[findP_succ (by omega)]
   cases s with
   | nil =>
     have:x=(k,E[k]):=by
      obtain⟨r,hr⟩:=hp;simp at hr;exact hr.1
     subst this;rw[if_pos hx]
   | cons y r =>
     obtain⟨q,hq⟩:=hp;simp at hq;obtain⟨h1,h2⟩:=hq;have h3:=hn y (List.mem_cons_self ..);rw[h1]at h3;rw[if_neg h3];exact findP_here k (by omega) r x ⟨q,by simpa using h2⟩ (fun z hz=>hn z (List.mem_cons_of_mem _ hz)) hx
end Go.Proofs.YtlnfbjbagmfpiaaGreatDoor.Dm
namespace Go.Proofs.YtlnfbjbagmfpiaaGreatDoor.Dm
open Go.RowKit Go.Shelf
attribute [local go_sem] Oper.semAt_some
theorem below_put {A B:World}(b:Below A.heap.size A B){l:Nat}(o:Obj)(hl:l<A.heap.size):Below (A.putObj l o).heap.size (A.putObj l o) (B.putObj l o) :=
 ⟨b.os,b.tape,b.output,by simpa [World.putObj] using b.size,fun k hk=>by
   have hk2:k<A.heap.size:=by simpa [World.putObj] using hk
   by_cases e:k=l
   · subst e
     rw[World.putObj_heap_same hl,World.putObj_heap_same (Nat.lt_of_lt_of_le hl b.size)]
   · rw[World.putObj_heap_other e,World.putObj_heap_other e,b.block k hk2]⟩
theorem sought_hid (nm:ByteArray)(y:OE)(b:Bool)(hy:decide (y.2=nm.data.toList)=b):Hid (∀ W tb k D av c,W.heap[tb]? = some (.cells #[k,.string nm,D,av,c] 57 (0,0))->Calls Tryz.prog 116 #[oeV y,.pointer (some ⟨tb,0,none⟩)] W fun e w'=>e=.returned (.bool b)/\Below W.heap.size W w'):=Lib.hid fun w tb k D av c hb=>by
 obtain⟨N,hN⟩:=text_of y.2;have al:=(Below.refl w.heap.size w).alloc (Nat.le_refl _) (.cells #[.int .i64 (y.1:Int),.string N] 131);have hx:=new_block w (.cells #[.int .i64 (y.1:Int),.string N] 131);have e0:=cell_of hx 1;have e1:=cell_of ((al.block _ (lt_of_block hb)).trans hb) 1
 have ze:(N.toList==nm.toList)=b:=by
  rw[<- hy]
  by_cases h:y.2=nm.data.toList
  · obtain rfl:N=nm:=text_ext (hN.trans h)
    simp[h]
  · rw[decide_eq_false h,text_lit]
    exact decide_eq_false fun hh=>h (hN.symm.trans (hh.trans (ByteArray.toList_eq nm)))
 have HAL:=Lib.hid al;unfold oeV;rw[strV_of hN];clear al hx hb hy hN
 go_enter Tryz.func116,Tryz.ntmps116
 go_wp2
 go_ret
 exact⟨rfl,HAL.out⟩
structure FindI (w:World) (nm:List UInt8) (fv:Value) (T:Nat->Prop) (s:List (Nat × OE)) (A:World):Prop where
 no:∀ k,¬ T k
 fb:A.heap[w.heap.size]? = some (.cells #[fv] 164 (0,0))
 rb:A.heap[w.heap.size+1]? = some (.cells #[.int .i64 0] 3 (0,0))
 bl:Below w.heap.size w A
 ns:∀ x∈s,x.2.2≠nm
structure FindX (w:World) (nm:List UInt8) (T:Nat->Prop) (s:List (Nat × OE)) (A:World):Prop where
 no:∀ k,¬ T k
 rb:∃ q x,s=q++[x]/\(∀ y∈q,y.2.2≠nm)/\x.2.2=nm/\A.heap[w.heap.size+1]? = some (.cells #[.int .i64 (x.1:Int)] 3 (0,0))
 bl:Below w.heap.size w A
theorem FindI.stay {w:World}{nm:List UInt8}{fv:Value}{n₁:Nat}{T:Nat->Prop}{s:List (Nat × OE)}{A B:World}(h:FindI w nm fv T s A)(hA:As n₁ T A B)(hn:w.heap.size+2<=n₁):FindI w nm fv T s B:=⟨h.no,hA.at h.fb (.inl (by omega)),hA.at h.rb (.inl (by omega)),hA.below h.bl (by omega) (Nat.le_refl _),h.ns⟩
theorem FindX.stay {w:World}{nm:List UInt8}{n₁:Nat}{T:Nat->Prop}{s:List (Nat × OE)}{A B:World}(h:FindX w nm T s A)(hA:As n₁ T A B)(hn:w.heap.size+2<=n₁):FindX w nm T s B:=by
 obtain⟨q,x,h1,h2,h3,h4⟩:=h.rb;exact⟨h.no,⟨q,x,h1,h2,h3,hA.at h4 (.inl (by omega))⟩,hA.below h.bl (by omega) (Nat.le_refl _)⟩
theorem find_hidB (E:List OE)(hl:E.length<=100000)(nm:ByteArray)(B:Nat):Hid (∀ W Q dv ov p fv tb k D av c,BX W Q dv ov p fv->W.ownsRow B 131 2 ov E.length (opC E)->W.heap[tb]? = some (.cells #[k,.string nm,D,av,c] 57 (0,0))->Calls Tryz.prog 115 #[.pointer (some ⟨Q,1,none⟩),.func (.func 116) #[] #[.pointer (some ⟨tb,0,none⟩)]] W fun e w'=>e=.returned (.int .i64 (findP E nm.data.toList E.length))/\Below W.heap.size W w'):=Lib.hid fun w Q dv ov p fv tb k D av c hX hO htb=>by
 obtain⟨va,vc,rfl⟩:=row_form hO;have hro:=RowIn.of_own hO (opC_one E);have al1:=(Below.refl w.heap.size w).alloc (Nat.le_refl _) (.cells #[.func (.func 116) #[] #[.pointer (some ⟨tb,0,none⟩)]] 164);have ho:=new_block w (.cells #[.func (.func 116) #[] #[.pointer (some ⟨tb,0,none⟩)]] 164);generalize hw1:w.alloc (.cells #[.func (.func 116) #[] #[.pointer (some ⟨tb,0,none⟩)]] 164)=w1 at al1 ho;have hs1:w1.heap.size=w.heap.size+1:=by rw[<- hw1];simp
 have al2:=(Below.refl w1.heap.size w1).alloc (Nat.le_refl _) (.cells #[.int .i64 0] 3);have hr:=new_block w1 (.cells #[.int .i64 0] 3);rw[hs1]at hr;generalize hw2:w1.alloc (.cells #[.int .i64 0] 3)=w2 at al2 hr;have hs2:w2.heap.size=w.heap.size+2:=by rw[<- hw2];simp[hs1]
 have ho2:=(al2.block _ (lt_of_block ho)).trans ho;have b2:Below w.heap.size w w2:=al1.trans (al2.mono (by omega));have CB:=back_any va E.length vc w2;obtain⟨w5,hw5⟩:∃ w5,w2.alloc (.cells #[.slice va E.length vc] 82)=w5:=⟨_,rfl⟩;have b5:Below w2.heap.size w2 w5:=by rw[<- hw5];exact(Below.refl _ _).alloc (Nat.le_refl _) _
 have x0:w5.heap[w2.heap.size]? = some (.cells #[.slice va E.length vc] 82 (0,0)):=by rw[<- hw5];exact new_block w2 (.cells #[.slice va E.length vc] 82)
 have s5:w5.heap.size=w.heap.size+3:=by rw[<- hw5];simp[hs2]
 rw[hw5]at CB;rw[hs2]at x0 CB;have hr5:=(b5.block _ (lt_of_block hr)).trans hr;have ho5:=(b5.block _ (lt_of_block ho2)).trans ho2;have bw5:Below w.heap.size w w5:=b2.trans (b5.mono b2.size);have e1:=(hX.below b2).c1;have HRo:=Lib.hid hro;have HTb:=Lib.hid htb;have CS:=fun y b h=>sought_hid nm y b h;have hTB:=lt_of_block htb;clear hX hO hro htb al1 al2 ho hr ho2;refine(callsIn_wide (n:=0)).1 ?_;refine callsIn_of_wp_marks Tryz.func115 rfl trivial ?_ rfl;simp only[Tryz.ntmps115,List.size_toArray,List.length_cons,List.length_nil,Nat.reduceAdd,Nat.reduceSub,Array.replicate_succ,Array.replicate_zero,List.push_toArray,List.append_toArray,List.nil_append,List.cons_append]
 gi_wp2_with fail
 refine⟨trivial,rfl,?_⟩;refine((callsIn_wide (n:=0)).2 CB).mono ?_;rintro e w6 ⟨rfl,hw6⟩;rw[hw6];clear hw6;clear hw5 CB hw1 hw2 e1;have hn5:w.heap.size+2<=w5.heap.size:=by omega
 gi_wp2
 refine range_frG (encs:=bwV) (w:=w5) (gf:=184) (lb:=#[.pointer (some ⟨w.heap.size+2,0,none⟩)]) rfl (enters_of Tryz.func184 (by kernel_rfl) rfl) (fun _=>rfl) (bwF E E.length) (fun k=>k=w.heap.size+1) (fun k hk=>by omega)
  (FindI w nm.data.toList (.func (.func 116) #[] #[.pointer (some ⟨tb,0,none⟩)])) (FindX w nm.data.toList) (fun _=>False)
  (fun T s A h k hk=>absurd hk (h.no k)) (fun T s A B h hA=>h.stay hA hn5) (fun T s A B h hA=>h.stay hA hn5) ⟨fun _ h=>h,ho5,hr5,bw5,fun _ h=>by cases h⟩
  (fun l' Y' J' Jx' W' hE' hY' hb' hJ'=>back_goes E hl w _ HRo.out W'.heap.size l' Y' J' Jx' hE' (fun _=>False) W' (w.heap.size+2) hJ' (bw5.trans (hb'.mono bw5.size)) (fun k h=>h.elim) ((hb'.block _ (lt_of_block x0)).trans x0) id)
  ?hround ?hdone ?hstop
 case hround =>
  rintro l' T' s x W' hl' ⟨r,hr'⟩ hTl' ⟨hT0,hob,hrb,hbw,hns⟩ hs;obtain⟨N,hN⟩:=text_of x.2.2;obtain⟨W1,hW1⟩:∃ W1,W'.alloc (.cells #[.int .i64 (x.2.1:Int),.string N] 131)=W1:=⟨_,rfl⟩;have bW1:Below W'.heap.size W' W1:=by rw[<- hW1];exact(Below.refl _ _).alloc (Nat.le_refl _) _
  have s2:W1.heap[W'.heap.size]? = some (.cells #[.int .i64 (x.2.1:Int),.string N] 131 (0,0)):=by rw[<- hW1];exact new_block _ _
  have hlW:=lt_of_block hr';have s3:=lt_of_block s2;have hwW:=hbw.size;have hwl:w.heap.size+3<=l':=by omega
  unfold bwV oeV;rw[strV_of hN];have HS2:=Lib.hid s2;have HBW:=Lib.hid bW1;clear s2 bW1
  gi_wp2
  refine⟨HBW.out,fun r' => ?_⟩;have bp:=below_put HBW.out (.loop r') hlW;have hone:(W1.putObj l' (.loop r')).heap[W'.heap.size]? = some (.cells #[.int .i64 (x.2.1:Int),.string N] 131 (0,0)):=(World.putObj_heap_other (by omega)).trans HS2.out;have hob2:(W1.putObj l' (.loop r')).heap[w.heap.size]? = _:=(World.putObj_heap_other (by omega)).trans ((HBW.out.block _ (lt_of_block hob)).trans hob);have hrb2:(W1.putObj l' (.loop r')).heap[w.heap.size+1]? = _:=(World.putObj_heap_other (by omega)).trans ((HBW.out.block _ (lt_of_block hrb)).trans hrb);have hbw2:Below w.heap.size w (W1.putObj l' (.loop r')):=(As.putObj (n₁:=w.heap.size) (T:=fun _=>False) (A:=W1) (.loop r') (by omega) id).below (hbw.trans (HBW.out.mono hwW)) (Nat.le_refl _) (Nat.le_refl _);generalize W1.putObj l' (.loop r')=W3 at bp hone hob2 hrb2 hbw2;generalize W'.putObj l' (.loop r')=W0 at bp;clear hW1 hob hrb;have htb3:=(hbw2.block _ hTB).trans HTb.out;obtain⟨b,hbn⟩:∃ b,decide (x.2.2=nm.data.toList)=b:=⟨_,rfl⟩;have CC:=Lib.hid ((CS x.2 b hbn).out W3 tb k D av c htb3);unfold oeV at CC;rw[strV_of hN]at CC;have eo:=cell_of hob2 0;have e0:=cell_of hone 0;have e1:=cell_of hone 1;have H3:=Lib.hid (And.intro bp (And.intro hob2 (And.intro hrb2 hbw2)));clear bp hob2 hrb2 hbw2 hone htb3
  gi_wp2_with fail
  refine⟨trivial,rfl,?_⟩;refine(CallsIn.inRound l' ((callsIn_wide (n:=0)).2 CC.out)).mono ?_;rintro e W4 ⟨rfl,b4⟩;have hob4:=(b4.block _ (lt_of_block H3.out.2.1)).trans H3.out.2.1;have hrb4:=(b4.block _ (lt_of_block H3.out.2.2.1)).trans H3.out.2.2.1;have hbw4:Below w.heap.size w W4:=H3.out.2.2.2.trans (b4.mono H3.out.2.2.2.size);have bt:Below W0.heap.size W0 W4:=H3.out.1.trans (b4.mono H3.out.1.size);have er:=open_of hrb4 0;have er2:=cell_of hrb4 0
  cases b with
  | true =>
    have hx2:x.2.2=nm.data.toList:=of_decide_eq_true hbn
    have HF:Hid (roundG (fun k=>k=w.heap.size+1) (FindI w nm.data.toList (.func (.func 116) #[] #[.pointer (some ⟨tb,0,none⟩)])) (FindX w nm.data.toList) T' (s++[x]) W0 .ret { tmps:=#[],defers:=[] } (W4.setCell ⟨w.heap.size+1,0,none⟩ (.int .i64 (x.1:Int)))):=Lib.hid (by
     refine⟨T',⟨hT0,⟨s,x,rfl,hns,hx2,heap_setCell_same _ _ _ _ _ _ _ hrb4⟩,hbw4.setCell (p:=⟨w.heap.size+1,0,none⟩) (by simp) _⟩,?_⟩
     exact⟨bt.os,bt.tape,bt.output,by simpa using bt.size,fun k hk hT=>(heap_setCell_ne _ _ _ (fun e=>hT (.inr e))).trans (bt.block _ hk),fun k _ h => .inl h⟩)
    clear hob4 hrb4 hbw4 bt b4 H3 CC CS eo e0 e1
    gi_wp2
    exact HF.out
  | false =>
    have hx2:x.2.2≠nm.data.toList:=of_decide_eq_false hbn
    have HF:Hid (roundG (fun k=>k=w.heap.size+1) (FindI w nm.data.toList (.func (.func 116) #[] #[.pointer (some ⟨tb,0,none⟩)])) (FindX w nm.data.toList) T' (s++[x]) W0 .normal { tmps:=#[],defers:=[] } W4):=Lib.hid ⟨T',⟨hT0,hob4,hrb4,hbw4,fun y hy=>by
     rcases List.mem_append.1 hy with h | h
     · exact hns y h
     · rw[List.mem_singleton]at h
       rw[h]
       exact hx2⟩,Fr.of_below bt⟩
    clear hob4 hrb4 hbw4 bt b4 H3 CC CS eo e0 e1
    gi_wp2
    exact HF.out
 case hdone =>
  rintro T' W' ⟨hT0,hob,hrb,hbw,hns⟩ hf hd0 hdd;have er:=open_of hrb 0;have er2:=cell_of hrb 0;have HE:Hid (findP E nm.data.toList E.length = -1):=Lib.hid (findP_none _ (Nat.le_refl _) hns);have hw5:w.heap.size+2<=w5.heap.size:=by omega
  have q2:=heap_setCell_same W' (w.heap.size+1) 0 _ _ _ (.int .i64 (-1)) hrb;have qd:(W'.setCell ⟨w.heap.size+1,0,none⟩ (.int .i64 (-1))).heap[w5.heap.size]? = some (.deferred (some [])):=(heap_setCell_ne _ _ _ (by simp;omega)).trans hdd
  have qs:(shut [w5.heap.size] (W'.setCell ⟨w.heap.size+1,0,none⟩ (.int .i64 (-1)))).cell? ⟨w.heap.size+1,0,none⟩=some (.int .i64 (-1)):=by
   have h1:(shut [w5.heap.size] (W'.setCell ⟨w.heap.size+1,0,none⟩ (.int .i64 (-1)))).heap[w.heap.size+1]? = _:=(World.putObj_heap_other (by omega)).trans q2;rw[cell_of h1];rfl
  have HB:Hid (Below w.heap.size w (shut [w5.heap.size] (W'.setCell ⟨w.heap.size+1,0,none⟩ (.int .i64 (-1))))):=Lib.hid ((As.shut (n₁:=w.heap.size) (T:=fun _=>False) [w5.heap.size] _ (fun E hE=>by simp at hE;subst hE;exact⟨by omega,id⟩)).below (hbw.setCell (p:=⟨w.heap.size+1,0,none⟩) (by simp) _) (Nat.le_refl _) (Nat.le_refl _));have HQ:=Lib.hid (And.intro qd qs);clear hrb hbw hob hns hf hdd q2 qd qs
  gi_wp2
  exact leave_marks [w5.heap.size] _ (by simp) (fun E hE2=>by simp at hE2;subst hE2;exact HQ.out.1) ⟨.int .i64 (-1),by simp[results,Tryz.results115,go_sem,HQ.out.2],by rw[HE.out];exact⟨rfl,HB.out⟩⟩
 case hstop =>
  rintro T' q W' hq ⟨hT0,⟨q2,x,rfl,hn2,hx2,hrb⟩,hbw⟩ hf hd0 hdd;have HE:Hid (findP E nm.data.toList E.length=(x.1:Int)):=Lib.hid (findP_here _ (Nat.le_refl _) q2 x hq hn2 hx2);have hw5:w.heap.size+2<=w5.heap.size:=by omega
  have qs:(shut [w5.heap.size] W').cell? ⟨w.heap.size+1,0,none⟩=some (.int .i64 (x.1:Int)):=by
   have h1:(shut [w5.heap.size] W').heap[w.heap.size+1]? = _:=(World.putObj_heap_other (by omega)).trans hrb;rw[cell_of h1];rfl
  have HB:Hid (Below w.heap.size w (shut [w5.heap.size] W')):=Lib.hid ((As.shut (n₁:=w.heap.size) (T:=fun _=>False) [w5.heap.size] _ (fun E hE=>by simp at hE;subst hE;exact⟨by omega,id⟩)).below hbw (Nat.le_refl _) (Nat.le_refl _));have HQ:=Lib.hid (And.intro hdd qs);clear hrb hbw hf hdd qs hn2 hx2 hq
  gi_wp2
  exact leave_marks [w5.heap.size] _ (by simp) (fun E hE2=>by simp at hE2;subst hE2;exact HQ.out.1) ⟨.int .i64 (x.1:Int),by simp[results,Tryz.results115,go_sem,HQ.out.2],by rw[HE.out];exact⟨rfl,HB.out⟩⟩
end Go.Proofs.YtlnfbjbagmfpiaaGreatDoor.Dm
