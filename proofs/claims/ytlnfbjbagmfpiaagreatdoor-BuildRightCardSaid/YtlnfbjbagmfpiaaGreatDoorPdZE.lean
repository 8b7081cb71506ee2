/- The program's nodes: is a document right (right, Check); is a node there. Ranges over an iterator that calls itself: what a round may touch, what a consumer promises, the law of such a range; marks left behind. The program's walk: a node and all below it, one by one, to whatever consumer. Who goes through the program's walk: is a node below another one. -/
import Derived.RangeFuncNested
import Derived.RangeFuncBound
import Derived.RangeFuncCalls
import Derived.RangeFuncLeaves
import Derived.Shelf.Abstract
import Derived.Shelf.RegionOpen
import Derived.OwnWalkIn
import Derived.TacticsInMore
import Derived.LoopNIn
import Derived.LoopIn
import Derived.Test.YtlnfbjbagmfpiaaGreatDoorPdZA
set_option maxRecDepth 100000
set_option maxHeartbeats 16000000
namespace Go.Proofs.YtlnfbjbagmfpiaaGreatDoor.Dm
open Go.RowKit
def Capd (D:List Nd)(A:Nat->Value):Prop:=∀ i,i<D.length->CapV (A i)
def frontB (D:List Nd)(u:Nat):Prop:=∀(i:Nat) (x:Nd),i<u->D[i]? = some x->mayN x=true/\(x.k=1↔i=0)
theorem front_all {D:List Nd}(h:frontB D D.length):∀(i:Nat) (x:Nd),D[i]? = some x->mayN x=true/\(x.k=1↔i=0):=fun i x hx=>h i x (lt_of_some hx) hx
theorem front_step {D:List Nd}{u:Nat}(h:frontB D u)(hu:u<D.length)(h1:mayN D[u]=true)(h2:D[u].k=1↔u=0):frontB D (u+1):=fun i x hi hx=>by
 by_cases e:i=u
 · subst e
   rw[List.getElem?_eq_getElem hu]at hx
   cases hx
   exact⟨h1,h2⟩
 · exact h i x (by omega) hx
theorem rightP_hid (D:List Nd)(hf:FitD D):Hid (∀ W sl A K,DocIn W sl D A K->Capd D A->Calls Tryz.prog 62 #[sl] W (BoolR (rightB D) W)):=Lib.hid fun w sl A K hd hcap=>by
 obtain⟨a,c,rfl⟩:=hd.form;have hfl:=hf.1;have HD:=Lib.hid hd;have HF:=Lib.hid hf;have HC:=Lib.hid hcap;clear hd hf hcap
 go_enter Tryz.func62,Tryz.ntmps62
 go_wp2
 go_loopw [7] (fun i wr=>∃ u:Nat,i=.int .i64 u/\u<=D.length/\Hid (frontB D u/\Below w.heap.size w wr)) (fun i _=>D.length - (intOf i).toNat)
 case atStart=>exact⟨0,rfl,Nat.zero_le _,Lib.hid ⟨fun i x h=>by omega,Below.refl _ _⟩⟩
 case round =>
  obtain⟨u,rfl,hu,HX⟩:=hrel
  by_cases hlt:u<D.length
  · have zu:(u:Int)<(D.length:Int):=by omega
    obtain⟨B',off',rfl,c0,c1,c2,c3,c4,c5,c6,c7⟩:=(HD.out.below HX.out.2).node hlt;have CM:=mayBe_hid D[u] (HF.out.2 _ (List.getElem_mem hlt)).2.2.1;obtain⟨N,hN⟩:=text_of D[u].n;obtain⟨T,hT⟩:=text_of D[u].d;unfold nodeV at CM;rw[strV_of hN,strV_of hT]at CM;rw[strV_of hN]at c1;rw[strV_of hT]at c2;obtain⟨aa,ac,ha⟩:=(HD.out.at' u hlt).form;obtain⟨ka,kc,hk⟩:=(HD.out.kd u hlt).form;have hat:=HD.out.at' u hlt;have hkd:=HD.out.kd u hlt;have hcv:=HC.out u hlt;rw[ha]at c3 hat hcv;rw[hk]at c5 hkd
    have CM2:Hid (∀ W,Below wr.heap.size wr W->Calls Tryz.prog 95 #[.agg #[.int .i64 D[u].k,.string N,.string T,.slice aa D[u].a.length ac,.int .i64 D[u].p,.slice ka D[u].c.length kc,.bool D[u].b,.bool D[u].s]] W fun e w'=>e=.returned (.bool (mayN D[u]))/\Below W.heap.size W w'):=Lib.hid fun W b =>
     CM.out W _ _ ((hat.below HX.out.2).below b) ((hkd.below HX.out.2).below b) hcv
    have hst:=front_step (D:=D) (u:=u);have hst2:=fun h1 h2=>hst HX.out.1 hlt h1 h2;have hno:¬ (mayN D[u]=true/\(D[u].k=1↔u=0))->¬ rightB D:=fun h hr=>h (hr.1 u D[u] (List.getElem?_eq_getElem hlt));have HB:=Lib.hid HX.out.2;clear hN hT ha hk CM hat hkd hcv hst HX;generalize D[u].k=xk at c0 CM2 hst2 hno;generalize D[u].a.length=al at c3 CM2;generalize D[u].p=xp at c4 CM2;generalize D[u].b=xb at c6 CM2;generalize D[u].s=xs at c7 CM2;generalize D[u].c.length=cl at c5 CM2;generalize mayN D[u]=mb at CM2 hst2 hno;have HS:=Lib.hid (And.intro hst2 hno);clear hst2 hno;have hal:=(Below.refl wr.heap.size wr).alloc (Nat.le_refl _) (.cells #[.int .i64 xk,.string N,.string T,.slice aa al ac,.int .i64 xp,.slice ka cl kc,.bool xb,.bool xs] 39);have hbx:=new_block wr (.cells #[.int .i64 xk,.string N,.string T,.slice aa al ac,.int .i64 xp,.slice ka cl kc,.bool xb,.bool xs] 39);generalize hwa:wr.alloc (.cells #[.int .i64 xk,.string N,.string T,.slice aa al ac,.int .i64 xp,.slice ka cl kc,.bool xb,.bool xs] 39)=wa at hal hbx;have d0:=cell_of hbx 0;have d1:=cell_of hbx 1;have d2:=cell_of hbx 2;have d3:=cell_of hbx 3;have d4:=cell_of hbx 4;have d5:=cell_of hbx 5;have d6:=cell_of hbx 6;have d7:=cell_of hbx 7;have HA:=Lib.hid (And.intro hal hbx);clear hal hbx
    cases mb with
    | false =>
      have HE:Hid (false=true↔rightB D):=Lib.hid ⟨(fun h=>by cases h),fun h=>absurd h (HS.out.2 (fun h=>by cases h.1))⟩
      go_wp2_with fail
      (refine(CM2.out _ HA.out.1).mono ?_)
      rintro e w2 ⟨rfl,b2⟩;have HB2:=Lib.hid (HB.out.trans ((HA.out.1.trans (b2.mono HA.out.1.size)).mono HB.out.size));clear b2 CM2 HS
      go_wp2
      go_ret
      exact⟨false,rfl,HE.out,HB2.out⟩
    | true =>
      go_wp2_with fail
      (refine(CM2.out _ HA.out.1).mono ?_)
      rintro e w2 ⟨rfl,b2⟩;have HB2:=Lib.hid (HB.out.trans ((HA.out.1.trans (b2.mono HA.out.1.size)).mono HB.out.size));have d0:w2.cell? ⟨wr.heap.size,0,none⟩=some (.int .i64 xk):=(b2.cell (lt_of_cell d0)).trans d0;clear b2 CM2 HB
      by_cases hx:xk=1
      · subst hx
        by_cases hu0:u=0
        · subst hu0
          have HF2:Hid (frontB D 1):=Lib.hid (HS.out.1 (by trivial) ⟨fun _=>rfl,fun _=>rfl⟩);clear HS
          go_wp2
          go_roundw
          case rel=>exact⟨1,rfl,by omega,Lib.hid ⟨HF2.out,HB2.out⟩⟩
          case measure=>simp[intOf];omega
        · have hz:((u:Int)==0)=false:=beq_eq_false_iff_ne.2 (by omega)
          have HE:Hid (false=true↔rightB D):=Lib.hid ⟨(fun h=>by cases h),fun h=>absurd h (HS.out.2 (fun h=>hu0 (h.2.1 rfl)))⟩;clear HS
          go_wp2
          go_ret
          exact⟨false,rfl,HE.out,HB2.out⟩
      · have hxb:(xk==1)=false:=beq_eq_false_iff_ne.2 hx
        by_cases hu0:u=0
        · subst hu0
          have HE:Hid (false=true↔rightB D):=Lib.hid ⟨(fun h=>by cases h),fun h=>absurd h (HS.out.2 (fun h=>hx (h.2.2 rfl)))⟩;clear HS
          go_wp2
          go_ret
          exact⟨false,rfl,HE.out,HB2.out⟩
        · have hz:((u:Int)==0)=false:=beq_eq_false_iff_ne.2 (by omega)
          have HF2:Hid (frontB D (u+1)):=Lib.hid (HS.out.1 (by trivial) ⟨fun h=>absurd h hx,fun h=>absurd h hu0⟩);clear HS
          go_wp2
          go_roundw
          case rel=>exact⟨u+1,by go_num,by omega,Lib.hid ⟨HF2.out,HB2.out⟩⟩
          case measure=>simp[intOf];omega
  · obtain rfl:u=D.length:=by omega
    have HFA:=Lib.hid (front_all HX.out.1);have HB:=Lib.hid HX.out.2;clear HX
    by_cases h0:D.length=0
    · have HE:Hid (false=true↔rightB D):=Lib.hid ⟨(fun h=>by cases h),fun h=>by have:=h.2.1;omega⟩
      have z0:¬ ((0:Int)<(D.length:Int)):=by omega
      go_wp2
      go_ret
      exact⟨false,rfl,HE.out,HB.out⟩
    have h00:0<D.length:=by omega
    have z0:(0:Int)<(D.length:Int):=by omega
    have CP:=placedP_hid D HF.out h00;have CRe:=fun P=>reached_hid D HF.out h00 P;obtain⟨B',off',rfl,-,-,-,-,p4,-⟩:=(HD.out.below HB.out).node h00;rw[Nat.zero_mul,Nat.add_zero]at p4;have hp0:=par_at h00;generalize(D[0]'h00).p=xp at p4 hp0
    by_cases hxp:xp = -1
    case neg =>
     have HE:Hid (false=true↔rightB D):=Lib.hid ⟨(fun h=>by cases h),fun h=>by have:=h.2.2.1;omega⟩;clear CP CRe hp0
     go_wp2
     go_ret
     exact⟨false,rfl,HE.out,HB.out⟩
    subst hxp
    go_wp2_with fail
    (refine(CP.out _ _ _ _ (HD.out.below HB.out)).mono ?_)
    rintro e w2 ⟨b,rfl,hb,b2⟩;have HB2:=Lib.hid (HB.out.trans (b2.mono HB.out.size));clear b2 CP p4
    cases b with
    | false =>
      have HE:Hid (false=true↔rightB D):=Lib.hid ⟨(fun h=>by cases h),fun h=>hb.2 h.2.2.2.1⟩;clear CRe hp0 hb
      go_wp2
      go_ret
      exact⟨false,rfl,HE.out,HB2.out⟩
    | true =>
      have HPl:=Lib.hid (hb.1 rfl);have CRe:=CRe HPl.out;have Hp0:=Lib.hid hp0;clear hb hp0
      go_wp2_with fail
      (refine(CRe.out _ _ _ _ (HD.out.below HB2.out)).mono ?_)
      rintro e w3 ⟨n,rfl,hn,b3⟩;have HB3:=Lib.hid (HB2.out.trans (b3.mono HB2.out.size));have HN:=Lib.hid hn;clear b3 CRe hn
      by_cases hnl:n=D.length
      · subst hnl
        have HR:Hid (rightB D):=Lib.hid ⟨HFA.out,by omega,Hp0.out,HPl.out,HN.out.1 rfl⟩;clear HN
        go_wp2
        go_ret
        exact⟨true,rfl,⟨fun _=>HR.out,fun _=>rfl⟩,HB3.out⟩
      · have hnz:((n:Int)==(D.length:Int))=false:=beq_eq_false_iff_ne.2 (by omega)
        have HE:Hid (false=true↔rightB D):=Lib.hid ⟨(fun h=>by cases h),fun h=>absurd (HN.out.2 h.2.2.2.2) hnl⟩;clear HN
        go_wp2
        go_ret
        exact⟨false,rfl,HE.out,HB3.out⟩
theorem checkP_hid (D:List Nd)(hf:FitD D):Hid (∀ W sl A K,DocIn W sl D A K->Capd D A->Calls Tryz.prog 29 #[.agg #[sl]] W fun e w'=>e=.returned (.int .i64 (checkM D))/\Below W.heap.size W w'):=Lib.hid fun w sl A K hd hcap=>by
 obtain⟨a,c,rfl⟩:=hd.form;obtain⟨d1,b1,l1⟩:=docBox w hd;have CR:=rightP_hid D hf;generalize hw1:w.alloc (.cells #[.slice a D.length c] 24)=w1 at d1 b1 l1;have e0:=cell_of b1 0;have H1:=Lib.hid (And.intro d1 l1);have HC:=Lib.hid hcap;clear hd d1 b1 l1 hcap
 by_cases hl:300<D.length
 · have z1:(300:Int)<(D.length:Int):=by omega
   have HE:Hid (checkM D=2):=Lib.hid (check_two.2 hl)
   go_enter Tryz.func29,Tryz.ntmps29
   go_wp2
   go_ret
   exact⟨by rw[HE.out];rfl,H1.out.2⟩
 have z1:¬ ((300:Int)<(D.length:Int)):=by omega
 go_enter Tryz.func29,Tryz.ntmps29
 go_wp2_with fail
 (refine(CR.out _ _ _ _ H1.out.1 HC.out).mono ?_)
 rintro e w2 ⟨b,rfl,hb,b2⟩;have HB2:=Lib.hid (H1.out.2.trans (b2.mono H1.out.2.size));rw[right_iff (by omega)]at hb;clear CR b2 hw1 e0
 cases b with
 | false =>
   have HE:Hid (checkM D=171):=Lib.hid (check_form (by omega) (fun h=>by have:=hb.2 h;cases this));clear hb
   go_wp2
   go_ret
   exact⟨by rw[HE.out];rfl,HB2.out⟩
 | true =>
   have HE:Hid (checkM D=0):=Lib.hid (check_right.2 (hb.1 rfl));clear hb
   go_wp2
   go_ret
   exact⟨by rw[HE.out];rfl,HB2.out⟩
theorem isThere_hid (D:List Nd)(hf:FitD D)(n:Int):Hid (∀ W sl A K,DocIn W sl D A K->Capd D A->Calls Tryz.prog 64 #[.agg #[sl],.int .i64 n] W fun e w'=>e=.returned (.bool (thereM D n))/\Below W.heap.size W w'):=Lib.hid fun w sl A K hd hcap=>by
 obtain⟨a,c,rfl⟩:=hd.form;obtain⟨d1,b1,l1⟩:=docBox w hd;have CR:=checkP_hid D hf;generalize hw1:w.alloc (.cells #[.slice a D.length c] 24)=w1 at d1 b1 l1;have e0:=cell_of b1 0;have H1:=Lib.hid (And.intro d1 l1);have HC:=Lib.hid hcap;clear hd d1 b1 l1 hcap;have CN:=isNode_any a D.length c n;unfold thereM;generalize hbn:(decide (0<=n)&&decide (n<(D.length:Int)))=bn at CN ⊢;clear hbn
 cases bn with
 | false =>
   go_enter Tryz.func64,Tryz.ntmps64
   go_wp2_with (go_at_call 98;refine(CN _).mono ?_;rintro e w2 ⟨rfl,rfl⟩)
   go_ret
   exact⟨rfl,H1.out.2⟩
 | true =>
   have HE:Hid ((checkM D==0)=(true&&decide (checkM D=0))):=Lib.hid (by rw[Bool.true_and];rfl);generalize(true&&decide (checkM D=0))=bb at HE ⊢;generalize checkM D=ck at CR HE
   go_enter Tryz.func64,Tryz.ntmps64
   go_wp2_with fail
   (refine(CN _).mono ?_)
   rintro e w2 ⟨rfl,rfl⟩;clear CN
   go_wp2_with fail
   (refine(CR.out _ _ _ _ H1.out.1 HC.out).mono ?_)
   rintro e w3 ⟨rfl,b3⟩;have HB2:=Lib.hid (H1.out.2.trans (b3.mono H1.out.2.size));clear CR b3 hw1 e0
   go_wp2
   go_ret
   exact⟨congrArg (fun b=>Ending.returned (Value.bool b)) HE.out,HB2.out⟩
end Go.Proofs.YtlnfbjbagmfpiaaGreatDoor.Dm
namespace Go.Proofs.YtlnfbjbagmfpiaaGreatDoor.Dm
open Go.RowKit Go.Shelf
attribute [local go_sem] Oper.semAt_some
structure As (n₁:Nat) (T:Nat->Prop) (A B:World):Prop where
 os:B.os=A.os
 tape:B.tape=A.tape
 output:B.output=A.output
 size:A.heap.size<=B.heap.size
 same:∀ k,k<A.heap.size->(k<n₁\/T k)->B.heap[k]? = A.heap[k]?
structure Fr (T:Nat->Prop) (A:World) (T':Nat->Prop) (B:World):Prop where
 os:B.os=A.os
 tape:B.tape=A.tape
 output:B.output=A.output
 size:A.heap.size<=B.heap.size
 same:∀ k,k<A.heap.size->¬ T k->B.heap[k]? = A.heap[k]?
 less:∀ k,k<A.heap.size->T' k->T k
section
variable {n₁ n₂:Nat} {T T' T'':Nat->Prop} {A B C:World}
theorem As.of_below (h:Below A.heap.size A B):As n₁ T A B:=⟨h.os,h.tape,h.output,h.size,fun k hk _=>h.block k hk⟩
theorem As.mono (h:As n₂ T A B)(hn:n₁<=n₂):As n₁ T A B:=⟨h.os,h.tape,h.output,h.size,fun k hk hT=>h.same k hk (hT.imp (fun h=>by omega) id)⟩
theorem As.putObj {k:Nat}(o:Obj)(hk:n₁<=k)(hT:¬ T k):As n₁ T A (A.putObj k o):=⟨rfl,rfl,rfl,by simp[World.putObj],fun j _ hj=>World.putObj_heap_other (by
 rintro rfl;rcases hj with h | h
 · omega
 · exact hT h)⟩
theorem As.trans (h:As n₁ T A B)(k:As n₁ T B C):As n₁ T A C:=⟨k.os.trans h.os,k.tape.trans h.tape,k.output.trans h.output,Nat.le_trans h.size k.size,fun j hj hT=>(k.same j (Nat.lt_of_lt_of_le hj h.size) hT).trans (h.same j hj hT)⟩
theorem Fr.refl (T:Nat->Prop)(A:World):Fr T A T A:=⟨rfl,rfl,rfl,Nat.le_refl _,fun _ _ _=>rfl,fun _ _ h=>h⟩
theorem Fr.of_below (h:Below A.heap.size A B):Fr T A T B:=⟨h.os,h.tape,h.output,h.size,fun k hk _=>h.block k hk,fun _ _ h=>h⟩
theorem Fr.trans (h:Fr T A T' B)(k:Fr T' B T'' C):Fr T A T'' C :=
 ⟨k.os.trans h.os,k.tape.trans h.tape,k.output.trans h.output,Nat.le_trans h.size k.size,fun j hj hT=>(k.same j (Nat.lt_of_lt_of_le hj h.size) fun h2=>hT (h.less j hj h2)).trans (h.same j hj hT),fun j hj hT=>h.less j hj (k.less j (Nat.lt_of_lt_of_le hj h.size) hT)⟩
theorem Fr.cut {U V:Nat->Prop}(h:Below A.heap.size A B)(k:Fr V B T' C)(hv:∀ k,k<A.heap.size->V k->U k):Fr U A T' C :=
 ⟨k.os.trans h.os,k.tape.trans h.tape,k.output.trans h.output,Nat.le_trans h.size k.size,fun j hj hU=>(k.same j (Nat.lt_of_lt_of_le hj h.size) fun h2=>hU (hv j hj h2)).trans (h.block j hj),fun j hj hT=>hv j hj (k.less j (Nat.lt_of_lt_of_le hj h.size) hT)⟩
theorem Fr.put (h:Fr T A T' B){k:Nat}(o:Obj)(hk:A.heap.size<=k):Fr T A T' (B.putObj k o):=⟨h.os,h.tape,h.output,by simpa [World.putObj] using h.size,fun j hj hT=>(World.putObj_heap_other (by omega)).trans (h.same j hj hT),h.less⟩
theorem Fr.below {n₀:Nat}(h:Fr T A T' B)(hT:∀ k,T k->n₀<=k)(hn:n₀<=A.heap.size):Below n₀ A B:=⟨h.os,h.tape,h.output,h.size,fun k hk=>h.same k (by omega) fun h2=>by have:=hT k h2;omega⟩
theorem Fr.from {n₀:Nat}(h:Fr T A T' B)(hT:∀ k,T k->n₀<=k)(hn:n₀<=A.heap.size):∀ k,T' k->n₀<=k:=fun k hk=>by
 by_cases hl:k<A.heap.size
 · exact hT k (h.less k hl hk)
 · omega
theorem Fr.no (h:Fr T A T' B){k:Nat}(hk:k<A.heap.size)(hT:¬ T k):¬ T' k:=fun h2=>hT (h.less k hk h2)
theorem Fr.at (h:Fr T A T' B){k:Nat}{o:Obj}(hk:A.heap[k]? = some o)(hT:¬ T k):B.heap[k]? = some o:=(h.same k (lt_of_block hk) hT).trans hk
theorem As.at (h:As n₁ T A B){k:Nat}{o:Obj}(hk:A.heap[k]? = some o)(hT:k<n₁\/T k):B.heap[k]? = some o:=(h.same k (lt_of_block hk) hT).trans hk
end
structure Eats (L:List Nat) (n₁ l:Nat) (Y:Nat->Prop) (J Jx:(Nat->Prop)->List Nat->World->Prop):Prop where
 lt:∀ T s A,J T s A->∀ k,T k->k<A.heap.size
 stay:∀ T s A B,J T s A->As n₁ T A B->J T s B
 stayx:∀ T s A B,Jx T s A->As n₁ T A B->Jx T s B
 eat:∀ T s (x:Nat) W,J T s W->s++[x] <+: L->YieldAt Fence.wide 0 Tryz.prog l #[.int .i64 (x:Int)] W fun e W'=>(e=.returned (.bool true)/\∃ T',J T' (s++[x]) W'/\Fr T W T' W')\/(e=.returned (.bool false)/\∃ T',Jx T' (s++[x]) W'/\Fr (fun k=>T k\/Y k) W T' W')
def EndR (L:List Nat)(Y:Nat->Prop)(J Jx:(Nat->Prop)->List Nat->World->Prop)(T:Nat->Prop)(W:World)(e:Ending)(W':World):Prop :=
 (∃ v,e=.returned v)/\∃ T',(J T' L W'/\Fr T W T' W')\/∃ q,q <+: L/\Jx T' q W'/\Fr (fun k=>T k\/Y k) W T' W'
def roundOut (X:Nat->Prop)(I Ix:(Nat->Prop)->List Nat->World->Prop)(T:Nat->Prop)(s:List Nat)(W0:World):Exit->Act->World->Prop
 | .normal,_,W'=>∃ T',I T' s W'/\Fr T W0 T' W'
 | .ret,_,W'=>∃ T',Ix T' s W'/\Fr (fun k=>T k\/X k) W0 T' W'
 | _,_,_=>False
theorem prefix_last {L s:List Nat}(h:s <+: L):s.length<=L.length:=h.length_le
theorem range_fr {g:Operand} {ps:Array Tmp} {assign body:Code} {Q:Exit->Act->World->Prop} {a:Act} {w:World}
 {gf:Nat} {lb:Array Value} (hg:a.eval g=.func (.func gf) #[] lb) (eg:∀ args w,(callFunc gf args).run Tryz.prog w=.ok (.enter gf args) w) (hps:ps.size=1)
 (L:List Nat) (X:Nat->Prop) (hX:∀ k,X k->k<w.heap.size) (I Ix:(Nat->Prop)->List Nat->World->Prop) (T:Nat->Prop)
 (hlt:∀ T s A,I T s A->∀ k,T k->k<A.heap.size) (has:∀ T s A B,I T s A->As w.heap.size T A B->I T s B) (hasx:∀ T s A B,Ix T s A->As w.heap.size T A B->Ix T s B) (h0:I T [] w)
 (hgo:∀(l:Nat) (Y:Nat->Prop) (J Jx:(Nat->Prop)->List Nat->World->Prop) (W:World),Eats L W.heap.size l Y J Jx->(∀ k,Y k->k<W.heap.size)->Below w.heap.size w W->J T [] W->CallsIn Fence.wide 0 Tryz.prog gf (#[.func (.yield l) #[] #[]]++lb) W (EndR L Y J Jx T W))
 (hround:∀(l:Nat) (T:Nat->Prop) (s:List Nat) (x:Nat) (W:World),w.heap.size<=l->(∃ r,W.heap[l]? = some (.loop r))->¬ T l->I T s W->s++[x] <+: L ->
   assign.wpIn (Fence.wide.inRound l) 0 Tryz.prog (Exit.then (fun a₁ W₁=>W₁=W/\∀ r',body.wpIn (Fence.wide.inRound l) 0 Tryz.prog (roundOut X I Ix T (s++[x]) (W.putObj l (.loop r'))) a₁ (W.putObj l (.loop r'))) (fun _ _ _=>False))
    { tmps:=(ps.zip #[.int .i64 (x:Int)]).foldl (fun t (p,v)=>t.setIfInBounds p v) a.tmps,defers:=[] } W)
 (hdone:∀(T':Nat->Prop) (W:World),I T' L W->Fr T w T' W->¬ T' w.heap.size->W.heap[w.heap.size]? = some (.deferred (some []))->Q .normal { a with defers:={ target := .collected w.heap.size,args:=#[] } :: a.defers } W)
 (hstop:∀(T':Nat->Prop) (q:List Nat) (W:World),q <+: L->Ix T' q W->Fr (fun k=>T k\/X k) w T' W->¬ T' w.heap.size->W.heap[w.heap.size]? = some (.deferred (some []))->Code.ret.wpIn Fence.wide 0 Tryz.prog Q { a with defers:={ target := .collected w.heap.size,args:=#[] } :: a.defers } W) :
 (Code.rangeFunc g ps assign body).wpIn Fence.wide 0 Tryz.prog Q a w:=by
 refine wpIn_rangeFunc (fun fn hfn => ?_)
 let rc:LoopState->Option Code->Loop:=fun st pe=>{ state:=st,pending:=pe,fn,tmps:=a.tmps,params:=ps,assign,body,defers:=w.heap.size }
 obtain⟨W1,hW1⟩:∃ W1,(w.alloc (.deferred (some []))).alloc (.loop (rc .ready none))=W1:=⟨_,rfl⟩;have b1:Below w.heap.size w W1:=by rw[<- hW1];exact((Below.refl _ w).alloc (Nat.le_refl _) _).alloc (by simp) _
 have s1:W1.heap.size=w.heap.size+2:=by rw[<- hW1];simp
 have hl1:W1.heap[w.heap.size+1]? = some (.loop (rc .ready none)):=by
  rw[<- hW1];have:=World.alloc_heap_new (w.alloc (.deferred (some []))) (.loop (rc .ready none));rwa [World.size_alloc]at this
 have hd1:W1.heap[w.heap.size]? = some (.deferred (some [])):=by rw[<- hW1];exact(Below.heap_alloc _ _ _ (by simp)).trans (World.alloc_heap_new w _)
 have hTl:¬ T (w.heap.size+1):=fun h=>by have:=hlt _ _ _ h0 _ h;omega
 have hTd:¬ T w.heap.size:=fun h=>by have:=hlt _ _ _ h0 _ h;omega
 refine⟨w.heap.size+1,[{ target := .collected w.heap.size,args:=#[] }],W1,{ target := .fn (.func gf) lb,args:=#[.func (.yield (w.heap.size+1)) #[] #[]] },W1,gf,#[.func (.yield (w.heap.size+1)) #[] #[]]++lb,W1,?_,?_,?_,?_,(fun h=>by cases h),?_⟩
 · rw[<- hW1];exact run_enterLoop_outer fn a.tmps ps assign body
 · simp only[resolve,hg]
   simp[go_sem]
 · intro f' _;trivial
 · simp[invoke,go_sem,eg]
 have call:=hgo (w.heap.size+1) (fun k=>X k\/k=w.heap.size+1)
  (fun T s W=>I T s W/\W.heap[w.heap.size+1]? = some (.loop (rc .ready none))/\W.heap[w.heap.size]? = some (.deferred (some []))/\¬ T (w.heap.size+1)/\¬ T w.heap.size)
  (fun T s W=>Ix T s W/\W.heap[w.heap.size+1]? = some (.loop (rc .done (some .ret)))/\W.heap[w.heap.size]? = some (.deferred (some []))/\¬ T (w.heap.size+1)/\¬ T w.heap.size)
  W1 ?_ (fun k hk=>by rcases hk with hk | hk;exact Nat.lt_of_lt_of_le (hX k hk) b1.size;omega) b1 ⟨has _ _ _ _ h0 (As.of_below b1),hl1,hd1,hTl,hTd⟩
 · refine call.mono ?_
   rintro e W2 ⟨⟨v,rfl⟩,T',⟨⟨hi,hl,hd,n1,n2⟩,fr⟩ | ⟨q,hq,⟨hi,hl,hd,n1,n2⟩,fr⟩⟩
   · have ha:As w.heap.size T' W2 (W2.putObj (w.heap.size+1) (.loop (rc .exhausted none))):=As.putObj _ (Nat.le_succ _) n1
     have f2:Fr T w T' (W2.putObj (w.heap.size+1) (.loop (rc .exhausted none))):=((Fr.of_below b1).trans fr).put _ (Nat.le_succ _);exact⟨none,_,run_endLoop hl (by simp[rc]),hdone T' _ (has _ _ _ _ hi ha) f2 n2 ((World.putObj_heap_other (by omega)).trans hd)⟩
   · have ha:As w.heap.size T' W2 (W2.putObj (w.heap.size+1) (.loop (rc .exhausted (some .ret)))):=As.putObj _ (Nat.le_succ _) n1
     have f2:Fr (fun k=>T k\/X k) w T' (W2.putObj (w.heap.size+1) (.loop (rc .exhausted (some .ret)))):=(Fr.cut b1 fr (fun k hk h=>by rcases h with h | h | h;exact .inl h;exact .inr h;omega)).put _ (Nat.le_succ _);exact⟨some .ret,_,run_endLoop hl (by simp[rc]),hstop T' q _ hq (hasx _ _ _ _ hi ha) f2 n2 ((World.putObj_heap_other (by omega)).trans hd)⟩
 · refine⟨fun T s A h=>hlt T s A h.1,fun T s A B h hA => ?_,fun T s A B h hA => ?_,?_⟩
   · obtain⟨h1,h2,h3,h4,h5⟩:=h
     exact⟨has _ _ _ _ h1 (hA.mono (by omega)),hA.at h2 (.inl (by omega)),hA.at h3 (.inl (by omega)),h4,h5⟩
   · obtain⟨h1,h2,h3,h4,h5⟩:=h
     exact⟨hasx _ _ _ _ h1 (hA.mono (by omega)),hA.at h2 (.inl (by omega)),hA.at h3 (.inl (by omega)),h4,h5⟩
   · rintro T s x W ⟨hi,hl,hd,n1,n2⟩ hx
     refine⟨fn,_,assign,body,run_yield hl (by simpa [rc] using hps.symm),roundIn_of_wpIn hfn ?_⟩;refine wpIn_mono (hround (w.heap.size+1) T s x W (Nat.le_succ _) ⟨_,hl⟩ n1 hi hx) ?_;rintro e a₁ W3 hp
     cases e with
     | normal =>
       obtain⟨rfl,hb⟩:=hp;refine⟨_,run_beginRound hl rfl,?_⟩;refine wpIn_mono (hb _) ?_;have hlb:(W3.putObj (w.heap.size+1) (.loop (rc .busy none))).heap[w.heap.size+1]? = some (.loop (rc .busy none)):=World.putObj_heap_same (lt_of_block hl);have hdb:(W3.putObj (w.heap.size+1) (.loop (rc .busy none))).heap[w.heap.size]? = some (.deferred (some [])):=(World.putObj_heap_other (by omega)).trans hd;have fin:∀(T':Nat->Prop) (W':World) (o:Obj),Fr T (W3.putObj (w.heap.size+1) (.loop (rc .busy none))) T' W'->(∀ k,k≠w.heap.size+1->(W'.putObj (w.heap.size+1) o).heap[k]? = W'.heap[k]?):=fun T' W' o _ k hk=>World.putObj_heap_other (by omega);rintro e a₂ W5 hp5
       cases e with
       | normal =>
         obtain⟨T',hi5,f5⟩:=hp5;have hl5:=f5.at hlb n1;have hd5:=f5.at hdb n2;have n1':=f5.no (lt_of_block hlb) n1;have n2':=f5.no (lt_of_block hdb) n2;refine⟨_,_,run_endRound none hl5,.inl ⟨rfl,T',⟨has _ _ _ _ hi5 (As.putObj _ (Nat.le_succ _) n1'),World.putObj_heap_same (lt_of_block hl5),(World.putObj_heap_other (by omega)).trans hd5,n1',n2'⟩,⟨f5.os,f5.tape,f5.output,?_,fun k hk hT => ?_,fun k hk=>f5.less k (by simpa [World.putObj] using hk)⟩⟩⟩
         · have:=f5.size
           simpa [World.putObj] using this
         · by_cases e:k=w.heap.size+1
           · subst e
             rw[World.putObj_heap_same (lt_of_block hl5),hl];rfl
           · rw[World.putObj_heap_other (by omega),f5.same k (by simpa [World.putObj] using hk) hT,World.putObj_heap_other (by omega)]
       | ret =>
         obtain⟨T',hi5,f5⟩:=hp5
         have m1:¬ (T (w.heap.size+1)\/X (w.heap.size+1)):=fun h=>by
          rcases h with h | h
          · exact n1 h
          · have:=hX _ h;omega
         have m2:¬ (T w.heap.size\/X w.heap.size):=fun h=>by
          rcases h with h | h
          · exact n2 h
          · have:=hX _ h;omega
         have hl5:=f5.at hlb m1;have hd5:=f5.at hdb m2;have n1':=f5.no (lt_of_block hlb) m1;have n2':=f5.no (lt_of_block hdb) m2;refine⟨_,_,run_endRound (some .ret) hl5,.inr ⟨rfl,T',⟨hasx _ _ _ _ hi5 (As.putObj _ (Nat.le_succ _) n1'),World.putObj_heap_same (lt_of_block hl5),(World.putObj_heap_other (by omega)).trans hd5,n1',n2'⟩,⟨f5.os,f5.tape,f5.output,?_,fun k hk hT => ?_,fun k hk h=>(f5.less k (by simpa [World.putObj] using hk) h).imp id .inl⟩⟩⟩
         · have:=f5.size
           simpa [World.putObj] using this
         · have e:k≠w.heap.size+1:=fun e=>hT (.inr (.inr e))
           rw[World.putObj_heap_other (by omega),f5.same k (by simpa [World.putObj] using hk) (fun h=>hT (h.imp id .inl)),World.putObj_heap_other (by omega)]
       | _=>exact hp5.elim
     | _=>exact hp.elim
end Go.Proofs.YtlnfbjbagmfpiaaGreatDoor.Dm
namespace Go.Proofs.YtlnfbjbagmfpiaaGreatDoor.Dm
open Go.RowKit Go.Shelf
attribute [local go_sem] Oper.semAt_some
theorem walk_any (sl:Value)(hsl:∃ a n c,sl=.slice a n c)(i:Int)(w:World):Calls Tryz.prog 65 #[sl,.int .i64 i] w fun e w'=>e=.returned (.func (.func 99) #[] #[.pointer (some ⟨w.heap.size+1,0,none⟩),.pointer (some ⟨w.heap.size,0,none⟩)])/\w'=(w.alloc (.cells #[sl] 22)).alloc (.cells #[.int .i64 i] 3):=by
 obtain⟨a,n,c,rfl⟩:=hsl;have hmf:∀(fn:Fn) (first cap:Array Value) (w:World),(Instr.makeFunc fn first cap).run Tryz.prog w=.ok (.func fn first cap) w:=fun _ _ _ _=>rfl
 go_enter Tryz.func65,Tryz.ntmps65
 go_wp2
 go_ret
 exact⟨rfl,rfl⟩
def shut (Ds:List Nat)(w:World):World:=Ds.foldl (fun w D=>w.putObj D (.deferred none)) w
theorem As.shut {n₁:Nat}{T:Nat->Prop}:∀(Ds:List Nat) (A:World),(∀ D∈Ds,n₁<=D/\¬ T D)->As n₁ T A (shut Ds A)
 | [],A,_=>⟨rfl,rfl,rfl,Nat.le_refl _,fun _ _ _=>rfl⟩
 | D :: Ds,A,h=>(As.putObj _ (h D (by simp)).1 (h D (by simp)).2).trans (As.shut Ds _ fun E hE=>h E (by simp[hE]))
theorem Fr.shut {T T':Nat->Prop}{A:World}:∀(Ds:List Nat) (B:World),Fr T A T' B->(∀ D∈Ds,A.heap.size<=D)->Fr T A T' (shut Ds B)
 | [],_,h,_=>h
 | D :: Ds,B,h,hD=>Fr.shut Ds _ (h.put _ (hD D (by simp))) fun E hE=>hD E (by simp[hE])
def markL (Ds:List Nat):List Deferred:=Ds.map fun D=>{ target := .collected D,args:=#[] }
theorem leave_marks {F:Fence}{n:Nat}{fn:Func}{tmps:Array Value}{R:Ending->World->Prop}:∀(Ds:List Nat) (w:World),Ds.Nodup->(∀ D∈Ds,w.heap[D]? = some (.deferred (some [])))->LeavesIn F n Tryz.prog fn tmps R [] .returning (shut Ds w)->LeavesInM F n Tryz.prog fn tmps R (markL Ds) .returning w
 | [],_,_,_,h=>h
 | D :: Ds,w,hn,hd,h=>by
   rw[List.nodup_cons]at hn;refine⟨by simp,.inl ⟨D,_,rfl,run_takeDeferred (hd D (by simp)),leave_marks Ds _ hn.2 (fun E hE => ?_) h⟩⟩;exact(World.putObj_heap_other (by rintro rfl;exact hn.1 hE)).trans (hd E (by simp[hE]))
theorem Fr.wide {T T':Nat->Prop}{A B:World}(h:Fr T A T' B)(Y:Nat->Prop):Fr (fun k=>T k\/Y k) A (fun k=>T' k\/Y k) B:=⟨h.os,h.tape,h.output,h.size,fun k hk hT=>h.same k hk fun h2=>hT (.inl h2),fun k hk hT=>hT.imp (h.less k hk) id⟩
theorem accM_le (D:List Nd)(i:Nat)(C:List Int){a b:Nat}(h:a<=b):accM D i C a <+: accM D i C b:=by
 obtain⟨r,hr⟩:C.take a <+: C.take b:=List.take_prefix_take_left h;refine⟨r.flatMap fun y=>downM D y.toNat,?_⟩;unfold accM;rw[<- hr,List.flatMap_append];rfl
theorem accM_of {D:List Nd}(R:Right D){i:Nat}(hi:i<D.length){C:List Int}(hC:kid D i=C):accM D i C C.length=downM D i:=by
 have:=accM_end R hi;rw[<- kid_at hi,hC]at this;exact this
def GoesP (D:List Nd)(i:Nat):Prop:=∀(w0:World) (sl:Value) (A K:Nat->Value),DocIn w0 sl D A K->∀(n₁ l:Nat) (Y:Nat->Prop) (J Jx:(Nat->Prop)->List Nat->World->Prop),Eats (downM D i) n₁ l Y J Jx->∀(T:Nat->Prop) (W:World) (Bn Bl:Nat),J T [] W->n₁<=W.heap.size->(∀ k,Y k->k<W.heap.size)->Below w0.heap.size w0 W->(∀ k,T k->w0.heap.size<=k) ->
 W.heap[Bn]? = some (.cells #[.int .i64 (i:Int)] 3 (0,0))->W.heap[Bl]? = some (.cells #[sl] 22 (0,0))->¬ T Bn->¬ T Bl ->
 CallsIn Fence.wide 0 Tryz.prog 99 #[.func (.yield l) #[] #[],.pointer (some ⟨Bn,0,none⟩),.pointer (some ⟨Bl,0,none⟩)] W (EndR (downM D i) Y J Jx T W)
structure KidI (J:(Nat->Prop)->List Nat->World->Prop) (acc:List Nat) (T:Nat->Prop) (W1:World) (Tv:Nat->Prop) (Ds:List Nat) (wr:World):Prop where
 j:J Tv acc wr
 fr:Fr T W1 Tv wr
 nd:Ds.Nodup
 at':∀ E∈Ds,W1.heap.size<=E/\E<wr.heap.size/\wr.heap[E]? = some (.deferred (some []))/\¬ Tv E
theorem goes_step (D:List Nd)(R:Right D)(hf:FitD D)(i:Nat)(hi:i<D.length)(ih:∀ y∈kid D i,GoesP D y.toNat):GoesP D i:=fun w0 sl A K hd n₁ l Y J Jx hE T W Bn Bl hJ hn1 hY hb0 hT hbn hbl hTn hTl=>by
 obtain⟨a,c,rfl⟩:=hd.form;have hfl:=hf.1;have al1:=(Below.refl W.heap.size W).alloc (Nat.le_refl _) (.cells #[.func (.yield l) #[] #[]] 141);have hby:=new_block W (.cells #[.func (.yield l) #[] #[]] 141);generalize hW1:W.alloc (.cells #[.func (.yield l) #[] #[]] 141)=W1 at al1 hby;have hs1:W1.heap.size=W.heap.size+1:=by rw[<- hW1];simp
 have hJ1:J T [] W1:=hE.stay _ _ _ _ hJ (As.of_below al1);have hTy:¬ T W.heap.size:=fun h=>by have:=hE.lt _ _ _ hJ _ h;omega
 have hpre:([]:List Nat)++[i] <+: downM D i:=⟨_,by rw[downM_eq R hi];rfl⟩;obtain⟨fn,tmps,assign,body,hy,hR⟩:=hE.eat T [] i W1 hJ1 hpre;have bn1:=(al1.block _ (lt_of_block hbn)).trans hbn;have bl1:=(al1.block _ (lt_of_block hbl)).trans hbl;have en:=cell_of bn1 0;have ey:=cell_of hby 0;have HR:=Lib.hid hR;refine callsIn_of_wp_marks Tryz.func99 rfl trivial ?_ rfl;simp only[Tryz.ntmps99,List.size_toArray,List.length_cons,List.length_nil,Nat.reduceAdd,Nat.reduceSub,Array.replicate_succ,Array.replicate_zero,List.push_toArray,List.append_toArray,List.nil_append,List.cons_append];clear hR
 gi_wp2_with fail
 refine⟨rfl,?_⟩;refine HR.out.mono ?_;have hn1W1:n₁<=W1.heap.size:=by omega
 rintro e W2 (⟨rfl,T2,hJ2,f2⟩ | ⟨rfl,T2,hJ2,f2⟩)
 case inr =>
  have HF:Hid (∀ v,EndR (downM D i) Y J Jx T W (.returned v) W2):=Lib.hid fun v=>⟨⟨v,rfl⟩,T2,.inr ⟨[i],hpre,hJ2,Fr.cut al1 f2 fun _ _ h=>h⟩⟩
  gi_wp2
  exact⟨_,results_none rfl _ _ _,HF.out _⟩
 have bn2:=f2.at bn1 hTn;have bl2:=f2.at bl1 hTl;have by2:=f2.at hby hTy;have hn0:w0.heap.size<=W1.heap.size:=by have:=hb0.size;omega
 have b2:Below w0.heap.size w0 W2:=(hb0.trans (al1.mono hb0.size)).trans (f2.below hT hn0);have hT2:=f2.from hT hn0;obtain⟨B,off,rfl,-,-,-,-,-,c5,-,-⟩:=(hd.below b2).node hi;obtain⟨ka,kc,hk⟩:=(hd.kd i hi).form;have hkin:=hd.kd i hi;rw[hk]at c5 hkin;have hlen:D[i].c.length<=1000:=(hf.2 _ (List.getElem_mem hi)).2.2.2.1;have e1:=cell_of bn2 0;have e2:=cell_of bl2 0;have zi:(i:Int)<(D.length:Int):=by omega
 obtain⟨C,hC⟩:∃ C,D[i].c=C:=⟨_,rfl⟩;rw[hC]at c5 hkin hlen;have hkC:kid D i=C:=by rw[kid_at hi,hC]
 have hst0:J T2 (accM D i C 0) W2:=by
  have e:accM D i C 0=[]++[i]:=by simp[accM]
  rw[e];exact hJ2
 have H2:Hid (KidI J (accM D i C 0) T W1 T2 [] W2):=Lib.hid ⟨hst0,f2,List.nodup_nil,fun E h=>by simp at h⟩;have HD:=Lib.hid hd;have HK:=Lib.hid hkin;have HB1:=Lib.hid (And.intro (hb0.trans (al1.mono hb0.size)) (And.intro hT hn0));clear hy HR hC hJ2 f2 b2 hT2 hkin bn2 bl2 by2 bn1 en ey hst0
 gi_wp2
 clear e1 e2 c5;refine wpIn_loop (fun a' wr=>∃(u5 u6 u18 u19 u20 u21 u22 u23 u24 u25 u26 u27 u28 u29:Value) (v:Nat) (Tv:Nat->Prop) (Ds:List Nat),v<=C.length/\Hid (KidI J (accM D i C v) T W1 Tv Ds wr)/\a'={ tmps:=#[.func (.yield l) #[] #[],.pointer (some ⟨Bn,0,none⟩),.pointer (some ⟨Bl,0,none⟩),.pointer (some ⟨W.heap.size,0,none⟩),undef,u5,u6,.func (.yield l) #[] #[],.int .i64 (i:Int),.bool true,.bool false,.slice (some ⟨B,off,none⟩) D.length c,.int .i64 (i:Int),.pointer (some ⟨B,off+i * 8,none⟩),.pointer (some ⟨B,off+i * 8+5,none⟩),.slice ka C.length kc,.int .i64 (C.length:Int),.int .i64 (v:Int),u18,u19,u20,u21,u22,u23,u24,u25,u26,u27,u28,u29],defers:=markL Ds }) (fun a' _=>C.length - (intOf (a'.tmps.getD 17 undef)).toNat) ?start ?round
 case start=>exact⟨_,_,_,_,_,_,_,_,_,_,_,_,_,_,0,T2,[],Nat.zero_le _,H2,rfl⟩
 case round =>
  clear H2;rintro a' wr ⟨u5,u6,u18,u19,u20,u21,u22,u23,u24,u25,u26,u27,u28,u29,v,Tv,Ds,hv,HX,rfl⟩;have hTv:=HX.out.fr.from HB1.out.2.1 HB1.out.2.2;have br:Below w0.heap.size w0 wr:=HB1.out.1.trans (HX.out.fr.below HB1.out.2.1 HB1.out.2.2);have blr:=HX.out.fr.at bl1 hTl;have byr:=HX.out.fr.at hby hTy;have e2:=cell_of blr 0
  by_cases hlv:v<C.length
  · have zv:(v:Int)<(C.length:Int):=by omega
    obtain⟨B2,off2,rfl,y0⟩:=(HK.out.below br).at hlv;have hmem:C[v]∈kid D i:=by rw[hkC];exact List.getElem_mem hlv
    obtain⟨t,ht,htl,-⟩:=kid_pos R hmem;have ihv:=ih _ hmem;have hst:=accM_step (D:=D) (i:=i) hlv;rw[ht]at y0 ihv hst;rw[Int.toNat_natCast]at ihv hst;have CW:=walk_any (.slice (some ⟨B,off,none⟩) D.length c) ⟨_,_,_,rfl⟩ (t:Int) wr
    gi_wp2_with fail
    refine⟨trivial,rfl,?_⟩;refine((callsIn_wide (n:=0)).2 CW).mono ?_;rintro e w5 ⟨rfl,hw5⟩;have b5:Below wr.heap.size wr w5:=by rw[hw5];exact((Below.refl wr.heap.size wr).alloc (Nat.le_refl _) _).alloc (by simp) _
    have x0:w5.heap[wr.heap.size]? = some (.cells #[.slice (some ⟨B,off,none⟩) D.length c] 22 (0,0)):=by
     rw[hw5];exact(((Below.refl (wr.alloc _).heap.size (wr.alloc _)).alloc (Nat.le_refl _) _).block _ (by simp)).trans (new_block wr _)
    have x1:w5.heap[wr.heap.size+1]? = some (.cells #[.int .i64 (t:Int)] 3 (0,0)):=by
     rw[hw5];have:=new_block (wr.alloc (.cells #[.slice (some ⟨B,off,none⟩) D.length c] 22)) (.cells #[.int .i64 (t:Int)] 3);rwa [World.size_alloc]at this
    have s5:w5.heap.size=wr.heap.size+2:=by rw[hw5];simp
    have sr:=HX.out.fr.size;have by5:=(b5.block _ (lt_of_block byr)).trans byr;have hj5:J Tv (accM D i C v++[]) w5:=by rw[List.append_nil];exact hE.stay _ _ _ _ HX.out.j (As.of_below b5)
    have hTyr:=HX.out.fr.no (lt_of_block hby) hTy;have hTvl:=hE.lt _ _ _ HX.out.j
    have hpp:∀ s,s <+: downM D t->accM D i C v++s <+: downM D i:=fun s hs=>by
     rw[<- accM_of R hi hkC];refine List.IsPrefix.trans ?_ (accM_le D i C (show v+1<=C.length by omega));rw[hst];exact(List.prefix_append_right_inj _).2 hs
    clear hw5 CW y0
    gi_wp2
    refine range_fr (w:=w5) rfl (enters_of Tryz.func99 (by kernel_rfl) rfl) rfl (downM D t) Y (fun k hk=>by have:=hY k hk;omega)
     (fun T s A=>J T (accM D i C v++s) A/\A.heap[W.heap.size]? = some (.cells #[.func (.yield l) #[] #[]] 141 (0,0))/\¬ T W.heap.size) (fun T s A=>Jx T (accM D i C v++s) A) Tv
     (fun T s A h=>hE.lt _ _ _ h.1) (fun T s A B h hA=>⟨hE.stay _ _ _ _ h.1 (hA.mono (by omega)),hA.at h.2.1 (.inl (by omega)),h.2.2⟩) (fun T s A B h hA=>hE.stayx _ _ _ _ h (hA.mono (by omega))) ⟨hj5,by5,hTyr⟩
     (fun l' Y' J' Jx' W' hE' hY' hb' hJ'=>ihv w0 _ A K HD.out W'.heap.size l' Y' J' Jx' hE' Tv W' (wr.heap.size+1) wr.heap.size hJ' (Nat.le_refl _) hY' ((br.trans (b5.mono br.size)).trans (hb'.mono (Nat.le_trans br.size b5.size))) hTv ((hb'.block _ (lt_of_block x1)).trans x1) ((hb'.block _ (lt_of_block x0)).trans x0) (fun h=>by have:=hTvl _ h;omega) (fun h=>by have:=hTvl _ h;omega))
     ?hround ?hdone ?hstop
    case hround =>
     rintro l' T' s x W' hl' ⟨r,hr⟩ hTl' ⟨hj,hyb,hty⟩ hs
     gi_wp2
     refine⟨trivial,fun r' => ?_⟩;have hyb2:(W'.putObj l' (.loop r')).heap[W.heap.size]? = _:=(World.putObj_heap_other (by omega)).trans hyb;have hj2:=hE.stay _ _ _ _ hj (As.putObj (A:=W') (.loop r') (show n₁<=l' by omega) hTl');generalize W'.putObj l' (.loop r')=W3 at hyb2 hj2;obtain⟨fn,tmps,assign,body,hy,hR⟩:=hE.eat T' _ x W3 hj2 (by rw[List.append_assoc];exact hpp _ hs);have ey:=cell_of hyb2 0;have HR:Hid (RoundIn (Fence.wide.inRound l') 0 Tryz.prog l fn tmps assign body W3 _):=Lib.hid hR;clear hR
     gi_wp2_with fail
     refine⟨rfl,?_⟩;refine HR.out.mono ?_;rintro e W4 (⟨rfl,T4,hJ4,f4⟩ | ⟨rfl,T4,hJ4,f4⟩)
     · have HF:Hid (roundOut Y (fun T s A=>J T (accM D i C v++s) A/\A.heap[W.heap.size]? = some (.cells #[.func (.yield l) #[] #[]] 141 (0,0))/\¬ T W.heap.size) (fun T s A=>Jx T (accM D i C v++s) A) T' (s++[x]) W3 .normal { tmps:=#[],defers:=[] } W4):=Lib.hid ⟨T4,⟨by rw[<- List.append_assoc];exact hJ4,f4.at hyb2 hty,f4.no (lt_of_block hyb2) hty⟩,f4⟩
       clear hy HR hJ4 f4
       gi_wp2
       exact HF.out
     · have HF:Hid (roundOut Y (fun T s A=>J T (accM D i C v++s) A/\A.heap[W.heap.size]? = some (.cells #[.func (.yield l) #[] #[]] 141 (0,0))/\¬ T W.heap.size) (fun T s A=>Jx T (accM D i C v++s) A) T' (s++[x]) W3 .ret { tmps:=#[],defers:=[] } W4):=Lib.hid ⟨T4,by dsimp only;rw[<- List.append_assoc];exact hJ4,f4⟩
       clear hy HR hJ4 f4
       gi_wp2
       exact HF.out
    case hdone =>
     rintro T' W' ⟨hj,hyb,hty⟩ hf hd0 hdd
     have HK2:Hid (KidI J (accM D i C (v+1)) T W1 T' (w5.heap.size :: Ds) W'):=Lib.hid ⟨by rw[hst];exact hj,(HX.out.fr.trans (Fr.of_below b5)).trans hf,List.nodup_cons.2 ⟨fun h=>by have:=(HX.out.at' _ h).2.1;omega,HX.out.nd⟩,fun E hE2=>by
      rcases List.mem_cons.1 hE2 with rfl | hE2
      · exact⟨by have:=b5.size;omega,lt_of_block hdd,hdd,hd0⟩
      · obtain⟨h1,h2,h3,h4⟩:=HX.out.at' E hE2
        have h5:=(b5.block _ h2).trans h3
        exact⟨h1,by have:=hf.size;omega,hf.at h5 h4,hf.no (lt_of_block h5) h4⟩⟩
     clear HX hj hf hpp hst hdd hd0
     gi_wp2
     exact⟨⟨_,_,_,_,_,_,_,_,_,_,_,_,_,_,v+1,T',w5.heap.size :: Ds,by omega,HK2,rfl⟩,by simp[intOf];omega⟩
    case hstop =>
     rintro T' q W' hq hjx hf hd0 hdd
     have hds:∀ E∈w5.heap.size :: Ds,W1.heap.size<=E/\W'.heap[E]? = some (.deferred (some []))/\¬ T' E:=fun E hE2=>by
      rcases List.mem_cons.1 hE2 with rfl | hE2
      · exact⟨by have:=b5.size;omega,hdd,hd0⟩
      · obtain⟨h1,h2,h3,h4⟩:=HX.out.at' E hE2
        have h5:=(b5.block _ h2).trans h3
        have h6:¬ (Tv E\/Y E):=fun h=>by
         rcases h with h | h
         · exact h4 h
         · have:=hY E h;omega
        exact⟨h1,hf.at h5 h6,hf.no (lt_of_block h5) h6⟩
     have hnd:(w5.heap.size :: Ds).Nodup:=List.nodup_cons.2 ⟨fun h=>by have:=(HX.out.at' _ h).2.1;omega,HX.out.nd⟩;have hfr:Fr (fun k=>T k\/Y k) W T' W':=Fr.cut al1 (((HX.out.fr.trans (Fr.of_below b5)).wide Y).trans hf) fun _ _ h=>h;have HF:Hid (∀ v,EndR (downM D i) Y J Jx T W (.returned v) (shut (w5.heap.size :: Ds) W')):=Lib.hid fun _=>⟨⟨_,rfl⟩,T',.inr ⟨accM D i C v++q,hpp q hq,hE.stayx _ _ _ _ hjx (As.shut _ _ fun E hE2=>⟨by have:=(hds E hE2).1;omega,(hds E hE2).2.2⟩),Fr.shut _ _ hfr fun E hE2=>by have:=(hds E hE2).1;omega⟩⟩;have HL:=Lib.hid hds;have HN:=Lib.hid hnd;clear HX hf hpp hst hdd hd0 hds hnd hfr
     gi_wp2
     exact leave_marks (w5.heap.size :: Ds) W' HN.out (fun E hE2=>(HL.out E hE2).2.1) ⟨_,results_none rfl _ _ _,HF.out _⟩
  · obtain rfl:v=C.length:=by omega
    have HF:Hid (∀ v,EndR (downM D i) Y J Jx T W (.returned v) (shut Ds wr)):=Lib.hid fun _=>⟨⟨_,rfl⟩,Tv,.inl ⟨hE.stay _ _ _ _ (by have:=HX.out.j;rw[accM_of R hi hkC]at this;exact this) (As.shut _ _ fun E hE2=>⟨by have:=(HX.out.at' E hE2).1;omega,(HX.out.at' E hE2).2.2.2⟩),Fr.shut _ _ ((Fr.of_below al1).trans HX.out.fr) fun E hE2=>by have:=(HX.out.at' E hE2).1;omega⟩⟩
    gi_wp2
    exact leave_marks Ds wr HX.out.nd (fun E hE2=>(HX.out.at' E hE2).2.2.1) ⟨_,results_none rfl _ _ _,HF.out _⟩
theorem goes_hid (D:List Nd)(R:Right D)(hf:FitD D)(i:Nat)(hi:i<D.length):GoesP D i:=R.indDown (GoesP D) (fun i hi ih=>goes_step D R hf i hi ih) i hi
end Go.Proofs.YtlnfbjbagmfpiaaGreatDoor.Dm
namespace Go.Proofs.YtlnfbjbagmfpiaaGreatDoor.Dm
open Go.RowKit Go.Shelf
attribute [local go_sem] Oper.semAt_some
theorem As.below {n₁ n₀:Nat}{T:Nat->Prop}{w A B:World}(h:As n₁ T A B)(b:Below n₀ w A)(hn:n₀<=n₁)(hw:n₀<=w.heap.size):Below n₀ w B:=b.trans ⟨h.os,h.tape,h.output,h.size,fun k hk=>h.same k (by have:=b.size;omega) (.inl (by omega))⟩
theorem walk_boxes (w:World)(sl:Value)(i:Nat):∃ w5,(w.alloc (.cells #[sl] 22)).alloc (.cells #[.int .i64 (i:Int)] 3)=w5/\Below w.heap.size w w5/\w5.heap[w.heap.size]? = some (.cells #[sl] 22 (0,0))/\w5.heap[w.heap.size+1]? = some (.cells #[.int .i64 (i:Int)] 3 (0,0))/\w5.heap.size=w.heap.size+2:=by
 refine⟨_,rfl,((Below.refl w.heap.size w).alloc (Nat.le_refl _) _).alloc (by simp) _,?_,?_,by simp⟩
 · exact(((Below.refl (w.alloc _).heap.size (w.alloc _)).alloc (Nat.le_refl _) _).block _ (by simp)).trans (new_block w _)
 · have:=new_block (w.alloc (.cells #[sl] 22)) (.cells #[.int .i64 (i:Int)] 3)
   rwa [World.size_alloc]at this
structure BelI (w:World) (o:Nat) (T:Nat->Prop) (s:List Nat) (A:World):Prop where
 no:∀ k,¬ T k
 ob:A.heap[w.heap.size]? = some (.cells #[.int .i64 (o:Int)] 3 (0,0))
 rb:A.heap[w.heap.size+1]? = some (.cells #[.bool false] 4 (0,0))
 bl:Below w.heap.size w A
 ns:o ∉ s
structure BelX (w:World) (o:Nat) (T:Nat->Prop) (s:List Nat) (A:World):Prop where
 no:∀ k,¬ T k
 rb:A.heap[w.heap.size+1]? = some (.cells #[.bool true] 4 (0,0))
 bl:Below w.heap.size w A
 ns:o∈s
theorem BelI.stay {w:World}{o n₁:Nat}{T:Nat->Prop}{s:List Nat}{A B:World}(h:BelI w o T s A)(hA:As n₁ T A B)(hn:w.heap.size+2<=n₁):BelI w o T s B:=⟨h.no,hA.at h.ob (.inl (by omega)),hA.at h.rb (.inl (by omega)),hA.below h.bl (by omega) (Nat.le_refl _),h.ns⟩
theorem BelX.stay {w:World}{o n₁:Nat}{T:Nat->Prop}{s:List Nat}{A B:World}(h:BelX w o T s A)(hA:As n₁ T A B)(hn:w.heap.size+2<=n₁):BelX w o T s B:=⟨h.no,hA.at h.rb (.inl (by omega)),hA.below h.bl (by omega) (Nat.le_refl _),h.ns⟩
theorem isBelow_hid (D:List Nd)(R:Right D)(hf:FitD D)(i:Nat)(hi:i<D.length)(o:Nat):Hid (∀ W sl A K,DocIn W sl D A K->Calls Tryz.prog 180 #[sl,.int .i64 (i:Int),.int .i64 (o:Int)] W fun e w'=>e=.returned (.bool (decide (o∈downM D i)))/\Below W.heap.size W w'):=Lib.hid fun w sl A K hd=>by
 obtain⟨a,c,rfl⟩:=hd.form;have hfl:=hf.1;have al1:=(Below.refl w.heap.size w).alloc (Nat.le_refl _) (.cells #[.int .i64 (o:Int)] 3);have ho:=new_block w (.cells #[.int .i64 (o:Int)] 3);generalize hw1:w.alloc (.cells #[.int .i64 (o:Int)] 3)=w1 at al1 ho;have hs1:w1.heap.size=w.heap.size+1:=by rw[<- hw1];simp
 have al2:=(Below.refl w1.heap.size w1).alloc (Nat.le_refl _) (.cells #[.bool false] 4);have hr:=new_block w1 (.cells #[.bool false] 4);rw[hs1]at hr;generalize hw2:w1.alloc (.cells #[.bool false] 4)=w2 at al2 hr;have hs2:w2.heap.size=w.heap.size+2:=by rw[<- hw2];simp[hs1]
 have ho2:=(al2.block _ (lt_of_block ho)).trans ho;have b2:Below w.heap.size w w2:=al1.trans (al2.mono (by omega));have CW:=walk_any (.slice a D.length c) ⟨_,_,_,rfl⟩ (i:Int) w2;have G:=goes_hid D R hf i hi;obtain⟨w5,hw5,b5,x0,x1,s5⟩:=walk_boxes w2 (.slice a D.length c) i;rw[hw5]at CW;rw[hs2]at x0 x1;have hr5:=(b5.block _ (lt_of_block hr)).trans hr;have ho5:=(b5.block _ (lt_of_block ho2)).trans ho2;have bw5:Below w.heap.size w w5:=b2.trans (b5.mono b2.size);have HD:=Lib.hid hd;clear hd al1 al2 ho hr ho2;refine(callsIn_wide (n:=0)).1 ?_;refine callsIn_of_wp_marks Tryz.func180 rfl trivial ?_ rfl;simp only[Tryz.ntmps180,List.size_toArray,List.length_cons,List.length_nil,Nat.reduceAdd,Nat.reduceSub,Array.replicate_succ,Array.replicate_zero,List.push_toArray,List.append_toArray,List.nil_append,List.cons_append]
 gi_wp2_with fail
 refine⟨trivial,rfl,?_⟩;refine((callsIn_wide (n:=0)).2 CW).mono ?_;rintro e w6 ⟨rfl,hw6⟩;rw[hw6];clear hw6;clear hw5 CW hw1 hw2;have hn5:w.heap.size+2<=w5.heap.size:=by omega
 gi_wp2
 refine range_fr (w:=w5) (gf:=99) (lb:=#[.pointer (some ⟨w.heap.size+2+1,0,none⟩),.pointer (some ⟨w.heap.size+2,0,none⟩)]) rfl (enters_of Tryz.func99 (by kernel_rfl) rfl) rfl (downM D i) (fun k=>k=w.heap.size+1) (fun k hk=>by omega)
  (BelI w o) (BelX w o) (fun _=>False)
  (fun T s A h k hk=>absurd hk (h.no k)) (fun T s A B h hA=>h.stay hA hn5) (fun T s A B h hA=>h.stay hA hn5) ⟨fun _ h=>h,ho5,hr5,bw5,List.not_mem_nil⟩
  (fun l' Y' J' Jx' W' hE' hY' hb' hJ'=>G w _ A K HD.out W'.heap.size l' Y' J' Jx' hE' (fun _=>False) W' (w.heap.size+2+1) (w.heap.size+2) hJ' (Nat.le_refl _) hY' (bw5.trans (hb'.mono bw5.size)) (fun k h=>h.elim) ((hb'.block _ (lt_of_block x1)).trans x1) ((hb'.block _ (lt_of_block x0)).trans x0) id id)
  ?hround ?hdone ?hstop
 case hround =>
  rintro l' T' s x W' hl' ⟨r,hr'⟩ hTl' ⟨hT0,hob,hrb,hbw,hns⟩ hs
  gi_wp2
  refine⟨trivial,fun r' => ?_⟩;have hob2:(W'.putObj l' (.loop r')).heap[w.heap.size]? = _:=(World.putObj_heap_other (by omega)).trans hob;have hrb2:(W'.putObj l' (.loop r')).heap[w.heap.size+1]? = _:=(World.putObj_heap_other (by omega)).trans hrb;have hbw2:Below w.heap.size w (W'.putObj l' (.loop r')):=(As.putObj (n₁:=w.heap.size) (T:=fun _=>False) (A:=W') (.loop r') (by omega) id).below hbw (Nat.le_refl _) (Nat.le_refl _);generalize W'.putObj l' (.loop r')=W3 at hob2 hrb2 hbw2;have eo:=cell_of hob2 0;have er:=open_of hrb2 0;have er2:=cell_of hrb2 0
  by_cases hx:x=o
  · subst hx
    have HF:Hid (roundOut (fun k=>k=w.heap.size+1) (BelI w x) (BelX w x) T' (s++[x]) W3 .ret { tmps:=#[],defers:=[] } (W3.setCell ⟨w.heap.size+1,0,none⟩ (.bool true))):=Lib.hid (by
     refine⟨T',⟨hT0,heap_setCell_same _ _ _ _ _ _ _ hrb2,hbw2.setCell (p:=⟨w.heap.size+1,0,none⟩) (by simp) _,by simp⟩,?_⟩
     exact⟨rfl,rfl,rfl,by simp,fun k _ hk=>heap_setCell_ne _ _ _ (fun e=>hk (.inr e)),fun k _ h => .inl h⟩)
    clear hrb2 hbw2 hob2
    gi_wp2
    exact HF.out
  · have zx:((x:Int)==(o:Int))=false:=beq_eq_false_iff_ne.2 (by omega)
    have HF:Hid (roundOut (fun k=>k=w.heap.size+1) (BelI w o) (BelX w o) T' (s++[x]) W3 .normal { tmps:=#[],defers:=[] } W3):=Lib.hid ⟨T',⟨hT0,hob2,hrb2,hbw2,fun h=>by
     rcases List.mem_append.1 h with h | h
     · exact hns h
     · rw[List.mem_singleton]at h;exact hx h.symm⟩,Fr.refl _ _⟩
    clear hrb2 hbw2 hob2
    gi_wp2
    exact HF.out
 case hdone =>
  rintro T' W' ⟨hT0,hob,hrb,hbw,hns⟩ hf hd0 hdd;have er:=open_of hrb 0;have er2:=cell_of hrb 0;have HE:Hid (decide (o∈downM D i)=false):=Lib.hid (decide_eq_false hns);have hw5:w.heap.size+2<=w5.heap.size:=by omega
  have q2:=heap_setCell_same W' (w.heap.size+1) 0 _ _ _ (.bool false) hrb;have qd:(W'.setCell ⟨w.heap.size+1,0,none⟩ (.bool false)).heap[w5.heap.size]? = some (.deferred (some [])):=(heap_setCell_ne _ _ _ (by simp;omega)).trans hdd
  have qs:(shut [w5.heap.size] (W'.setCell ⟨w.heap.size+1,0,none⟩ (.bool false))).cell? ⟨w.heap.size+1,0,none⟩=some (.bool false):=by
   have h1:(shut [w5.heap.size] (W'.setCell ⟨w.heap.size+1,0,none⟩ (.bool false))).heap[w.heap.size+1]? = _:=(World.putObj_heap_other (by omega)).trans q2;rw[cell_of h1];rfl
  have HB:Hid (Below w.heap.size w (shut [w5.heap.size] (W'.setCell ⟨w.heap.size+1,0,none⟩ (.bool false)))):=Lib.hid ((As.shut (n₁:=w.heap.size) (T:=fun _=>False) [w5.heap.size] _ (fun E hE=>by simp at hE;subst hE;exact⟨by omega,id⟩)).below (hbw.setCell (p:=⟨w.heap.size+1,0,none⟩) (by simp) _) (Nat.le_refl _) (Nat.le_refl _));have HQ:=Lib.hid (And.intro qd qs);clear hrb hbw hob hns hf hdd q2 qd qs
  gi_wp2
  exact leave_marks [w5.heap.size] _ (by simp) (fun E hE2=>by simp at hE2;subst hE2;exact HQ.out.1) ⟨.bool false,by simp[results,Tryz.results180,go_sem,HQ.out.2],by rw[HE.out];exact⟨rfl,HB.out⟩⟩
 case hstop =>
  rintro T' q W' hq ⟨hT0,hrb,hbw,hin⟩ hf hd0 hdd;have HE:Hid (decide (o∈downM D i)=true):=Lib.hid (decide_eq_true (hq.subset hin));have hw5:w.heap.size+2<=w5.heap.size:=by omega
  have qs:(shut [w5.heap.size] W').cell? ⟨w.heap.size+1,0,none⟩=some (.bool true):=by
   have h1:(shut [w5.heap.size] W').heap[w.heap.size+1]? = _:=(World.putObj_heap_other (by omega)).trans hrb;rw[cell_of h1];rfl
  have HB:Hid (Below w.heap.size w (shut [w5.heap.size] W')):=Lib.hid ((As.shut (n₁:=w.heap.size) (T:=fun _=>False) [w5.heap.size] _ (fun E hE=>by simp at hE;subst hE;exact⟨by omega,id⟩)).below hbw (Nat.le_refl _) (Nat.le_refl _));have HQ:=Lib.hid (And.intro hdd qs);clear hrb hbw hin hf hdd qs
  gi_wp2
  exact leave_marks [w5.heap.size] _ (by simp) (fun E hE2=>by simp at hE2;subst hE2;exact HQ.out.1) ⟨.bool true,by simp[results,Tryz.results180,go_sem,HQ.out.2],by rw[HE.out];exact⟨rfl,HB.out⟩⟩
end Go.Proofs.YtlnfbjbagmfpiaaGreatDoor.Dm
