/- A node below another one; a row's beginning. -/
import Derived.Test.YtlnfbjbagmfpiaaGreatDoorBpZM
set_option maxRecDepth 100000
set_option maxHeartbeats 4000000
namespace Go.Proofs.YtlnfbjbagmfpiaaGreatDoor.Dm
open Go.RowKit
theorem underL_hid (D:List Nd)(hf:FitD D)(hl:∀ n,(belowM D n).length<=1000)(i:Nat)(n:Int)(hi:i∈belowM D n):Hid (∀ W sl,DocG W sl D->Calls Tryz.prog 31 #[.agg #[sl],.int .i64 (i:Int),.int .i64 n] W fun e w'=>e=.returned (.bool true)/\Below W.heap.size W w'):=Lib.hid fun w sl hd=>by
 have CB:=gBelow hf n;have hlen:=hl n;obtain⟨a,c,rfl⟩:=hd.form;have al:=(Below.refl w.heap.size w).alloc (Nat.le_refl _) (.cells #[.slice a D.length c] 24);have nb:=new_block w (.cells #[.slice a D.length c] 24);have e0:=cell_of nb 0;have H1:=Lib.hid (And.intro (hd.below al) al);clear hd al nb hl;generalize belowM D n=L at *
 go_enter Tryz.func31,Tryz.ntmps31
 go_wp2_with fail
 (refine(CB.out _ _ H1.out.1).mono ?_)
 rintro e w2 ⟨v,rfl,o2,b2⟩;have H2:=Lib.hid (And.intro o2.in' (H1.out.2.trans (b2.mono H1.out.2.size)));obtain⟨la,lc,rfl⟩:=o2.form;rw[show L.length=(natsI L).length from(natsI_length L).symm]at H2 ⊢;have hN:(natsI L).length=L.length:=natsI_length L;clear o2 b2 e0 CB H1
 go_wp2
 go_loopw [8] (fun j wr=>∃ u:Nat,j=.int .i64 (u:Int)/\u<=L.length/\Hid (∀ t,t<u->L[t]? ≠ some i)/\wr=w2) (fun j _=>L.length - (intOf j).toNat)
 case atStart=>exact⟨0,rfl,Nat.zero_le _,Lib.hid (fun t h=>by omega),rfl⟩
 case round =>
  obtain⟨u,rfl,hu,HJ,rfl⟩:=hrel
  by_cases hlt:u<L.length
  · have zu:(u:Int)<((natsI L).length:Int):=by omega
    have zu0:(0:Int)<=(u:Int):=by omega
    obtain⟨B,off,rfl,c0⟩:=H2.out.1.at (k:=u) (by omega);have hv:(natsI L)[u]'(by omega)=(L[u]:Int):=by simp[natsI]
    rw[hv]at c0
    by_cases he:L[u]=i
    · have zi:((L[u]:Int)==(i:Int))=true:=by rw[he];simp
      have zi2:(L[u]:Int)=(i:Int):=by rw[he]
      rw[zi2]at c0;have zi3:((i:Int)==(i:Int))=true:=by simp
      clear HJ hv he zi zi2 hN
      go_wp2
      go_ret
      exact⟨rfl,H2.out.2⟩
    · have zi:((L[u]:Int)==(i:Int))=false:=beq_eq_false_iff_ne.2 (by omega)
      have HJ2:Hid (∀ t,t<u+1->L[t]? ≠ some i):=Lib.hid fun t ht hs=>by
       by_cases e:t=u
       · subst e
         rw[List.getElem?_eq_getElem hlt]at hs;exact he (Option.some.inj hs)
       · exact HJ.out t (by omega) hs
      generalize L[u]=x at *;clear HJ hv he
      go_wp2
      go_roundw
      case rel=>exact⟨u+1,by go_num,by omega,HJ2,by trivial⟩
      case measure=>simp[intOf];omega
  · exfalso
    obtain⟨t,ht,he⟩:=List.getElem_of_mem hi;exact HJ.out t (by omega) (by rw[List.getElem?_eq_getElem ht,he])
theorem slice_noneI:∀ W,(Instr.slice 37 (.slice none 0 0) none (some (.int .i64 ((0:Nat):Int))) none).run Tryz.prog W=.ok (.slice none 0 0) W:=fun W=>by
 have hb:∀ W,(Instr.sliceBound (.int .i64 ((0:Nat):Int)) 0 .sliceAcap).run Tryz.prog W=.ok 0 W:=fun W=>by
  have:=Go.run_sliceBound (P:=Tryz.prog) (w:=W) .i64 ((0:Nat):Int) 0 .sliceAcap (by omega) (by omega)
  simpa using this
 simp at hb;simp[Instr.slice,run_underlying Tryz.underlying37,Instr.sliceBounds,hb]
theorem row_begin {w:World}{B:Nat}{v:Value}{C ks:List Int}(h:w.ownsRow B 3 1 v (C++ks).length (inC (C++ks))):∃ a c,v=.slice a (C++ks).length c/\(∀ W,(Instr.slice 37 (.slice a (C++ks).length c) none (some (.int .i64 (C.length:Int))) none).run Tryz.prog W=.ok (.slice a C.length c) W)/\IntIn w (.slice a C.length c) C:=by
 rcases rowForms h with ⟨e1,e2⟩ | ⟨g,c,rfl⟩
 · have hC:C=[]:=by
    cases C with
    | nil=>rfl
    | cons x r=>simp at e2
   subst hC;refine⟨none,0,by rw[e1,e2],fun W => ?_,IntIn.nil _ _ _⟩;rw[e2];exact slice_noneI W
 · have hc:=cap_row h
   refine⟨some ⟨g,0,none⟩,c,rfl,slice_upto g _ c C.length (by rw[List.length_append]at hc;omega),?_⟩;have h1:=row_cut h (i:=C.length) (by rw[List.length_append];omega)
   have h2:(inC (C++ks)).take (C.length * 1)=inC C:=by
    unfold inC;rw[List.map_append,Nat.mul_one,List.take_left' (by simp)]
   rw[h2]at h1;exact IntIn.of h1
end Go.Proofs.YtlnfbjbagmfpiaaGreatDoor.Dm
