/- The law of texts: a page's text is its tokens'. -/
import Derived.Test.YtlnfbjbagmfpiaaGreatDoorBlC
set_option maxRecDepth 100000
set_option maxHeartbeats 8000000
namespace Go.Proofs.YtlnfbjbagmfpiaaGreatDoor.Dm
open Go.RowKit
theorem page_texts {l:List Tk}(h:(pageM l).2.2=0):textsM (pageM l).1 0=wordsK l:=by
 obtain⟨R,h1,h2,_⟩:=page_ord h;unfold textsM belowM;rw[if_pos (by unfold thereM;simp only[Bool.and_eq_true,decide_eq_true_eq];exact⟨⟨by decide,by omega⟩,check_right.2 R⟩)];exact page_text h
theorem words_snoc {l:List Tk}{i:Nat}(hi:i<l.length):wordsK (l.take (i+1))=wordsK (l.take i)++(if l[i].k=1 then l[i].d else []):=by
 rw[take_more (List.getElem?_eq_getElem hi)];unfold wordsK;rw[List.flatMap_append,List.flatMap_cons,List.flatMap_nil,List.append_nil]
theorem words_len {l:List Tk}(hk:∀ t∈l,FitK t)(i:Nat):(wordsK (l.take i)).length<=10000 * (l.take i).length:=by
 unfold wordsK;rw[Nat.mul_comm]
 exact flat_le fun t ht=>by
  have:=(hk t (List.mem_of_mem_take ht)).2.1;split
  · exact this
  · simp
theorem textL_hid (L:List Tk)(hl:L.length<=9223372036854775807)(ha:∀ t∈L,t.a.length<=9223372036854775807):Hid (∀ W v,Low W->TokIn W v L->Calls Tryz.prog 7 #[v] W fun e w'=>e=.returned (.bool true)/\Below W.heap.size W w'):=Lib.hid fun w v hlow hv=>by
 have CB:=Lib.hid (bigT_any L v w hv hl ha);obtain⟨a,c,rfl⟩:=hv.form
 go_enter Tryz.func7,Tryz.ntmps7
 have HV:=Lib.hid (And.intro hlow hv);clear hlow hv
 go_wp2_with fail
 refine CB.out.mono ?_;rintro e w1 ⟨b,rfl,hw1,hb⟩;subst hw1;have HW:=Lib.hid (Below.refl w1.heap.size w1);clear CB
 cases b with
 | true =>
   go_wp2
   go_ret
   exact⟨rfl,HW.out⟩
 | false =>
   have hfit:=fitL_of (hb rfl);clear hb;have CP:=pageB_hid L (by omega) hfit.2;have hfd:=page_fit hfit.2;have htx:=page_texts (l:=L);obtain⟨⟨E,F,er⟩,hP⟩:∃ P,pageM L=P:=⟨_,rfl⟩;rw[hP]at CP hfd htx;have CT:=gText hfd 0;have CBu:=builds_hid;have HFit:=Lib.hid hfit;have hLl:=hfit.1;clear hP hfd hl ha hfit;have K0:=Lib.hid (And.intro (HV.out.1) (And.intro (HV.out.2) ((show Bel w1 w1 from HW.out))))
   go_wp2_with fail
   (refine(CP.out _ _ (TokIn.tks K0.out.2.1)).mono ?_)
   rintro e wK1 ⟨a1,c1,v1,rfl,o1,f1,bK1⟩;obtain⟨fa,fc,rfl⟩:=row_form f1;have alK1:=(Below.refl wK1.heap.size wK1).alloc (Nat.le_refl _) (.cells #[.slice a1 E.length c1] 24);have nbK1:=new_block wK1 (.cells #[.slice a1 E.length c1] 24);have K1:=Lib.hid (And.intro (((K0.out.1).below bK1).below alK1) (And.intro (((K0.out.2.1).below bK1).below alK1) (And.intro (((K0.out.2.2).below bK1).below alK1) ((show VX _ _ a1 c1 E from⟨nbK1,o1.g.below alK1⟩)))));clear K0 bK1 alK1 nbK1;clear o1 f1 CP
   by_cases her:er=0
   case neg =>
    have g1:(er != 0)=true:=by rw[bne_iff_ne];exact her
    go_wp2_with fail
    (refine(CBu.out _ K1.out.1).mono ?_)
    rintro e w3 ⟨rfl,b3⟩;have HF:=Lib.hid ((K1.out.2.2.1).below b3);clear b3
    go_wp2
    go_ret
    exact⟨rfl,HF.out.b⟩
   have HTx:=Lib.hid (htx her);subst her;clear htx;obtain⟨R1,hR1⟩:∃ R1,wK1.heap.size=R1:=⟨_,rfl⟩;obtain⟨w5,hw5⟩:∃ w5,wK1.alloc (.cells #[.slice a1 E.length c1] 24)=w5:=⟨_,rfl⟩;rw[hR1,hw5]at K1
   go_wp2
   replace hR1:=Lib.hid hR1;replace hw5:=Lib.hid hw5
   go_loopw [6,7] (fun tv j wr=>∃(i:Nat) (T:ByteArray),j=.int .i64 (i:Int)/\tv=.string T/\i<=L.length/\Hid (T.data.toList=wordsK (L.take i))/\Hid (Low wr/\TokIn wr (.slice a L.length c) L/\Bel w1 wr/\VX wr R1 a1 c1 E)) (fun _ j _=>L.length - (intOf j).toNat)
   case atStart=>exact⟨0,⟨#[]⟩,rfl,rfl,Nat.zero_le _,Lib.hid (by simp[wordsK]),K1⟩
   case round =>
    obtain⟨i,T,rfl,rfl,hi,HT,HJ⟩:=hrel;clear K1
    have hTl:T.size<=1000000:=by
     rw[<- lsize,HT.out];have:=words_len HFit.out.2 i;rw[List.length_take]at this;omega
    by_cases hlt:i<L.length
    · have zi:(i:Int)<(L.length:Int):=by omega
      have zi0:(0:Int)<=(i:Int):=by omega
      obtain⟨g,off,av,rfl,c0,c1',c2,c3,c4,c5⟩:=HJ.out.2.1.at hlt;obtain⟨D,hD⟩:=text_of L[i].d;rw[strV_of hD]at c2;have hw:=words_snoc hlt;have hDl:D.size<=10000:=by rw[<- lsize,hD];exact(HFit.out.2 _ (List.getElem_mem hlt)).2.1
      by_cases h1:L[i].k=1
      · rw[if_pos h1,<- hD,<- HT.out]at hw
        obtain⟨P,hP⟩:=text_of (T.data.toList++D.data.toList);have s1:=add_to T D P hP (by omega);have HP:=Lib.hid (hP.trans hw.symm);rw[h1]at c0;clear hD hw HT hP h1 c1' c3 c4 c5
        go_wp2
        go_roundw
        case rel=>exact⟨i+1,P,by go_num,rfl,by omega,HP,HJ⟩
        case measure=>simp[intOf];omega
      · rw[if_neg h1,List.append_nil,<- HT.out]at hw
        have HP:=Lib.hid hw.symm;have g1:(L[i].k==1)=false:=by simpa using h1
        generalize L[i].k=tk at *;clear hD hw HT h1 c1' c2 c3 c4 c5
        go_wp2
        go_roundw
        case rel=>exact⟨i+1,T,by go_num,rfl,by omega,HP,HJ⟩
        case measure=>simp[intOf];omega
    · obtain rfl:i=L.length:=by omega
      have hT:T.data.toList=textsM E 0:=by rw[HT.out,List.take_length,HTx.out]
      rw[show strV (textsM E 0)=.string T from strV_of hT]at CT;have zT:(T.toList==T.toList)=true:=by simp
      have e0:=HJ.out.2.2.2.c0;clear hT HT
      go_wp2_with fail
      (refine(CBu.out _ HJ.out.1).mono ?_)
      rintro e w6 ⟨rfl,b6⟩;have H6:=Lib.hid (And.intro (HJ.out.2.2.2.below b6) (HJ.out.2.2.1.below b6));clear b6 e0;have e1:=H6.out.1.c0
      go_wp2_with fail
      (refine(CT.out _ _ H6.out.1.g).mono ?_)
      rintro e w7 ⟨rfl,b7⟩;have HF:=Lib.hid (H6.out.2.below b7);clear b7 e1
      go_wp2
      go_ret
      exact⟨rfl,HF.out.b⟩
end Go.Proofs.YtlnfbjbagmfpiaaGreatDoor.Dm
