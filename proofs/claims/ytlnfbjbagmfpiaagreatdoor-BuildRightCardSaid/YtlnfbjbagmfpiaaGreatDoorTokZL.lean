/- Why the program does not take an attribute: its name is there already, or there are thirty. The program's reader: an attribute's value. -/
import Derived.Test.YtlnfbjbagmfpiaaGreatDoorTokZI
set_option maxRecDepth 100000
set_option maxHeartbeats 8000000
namespace Go.Proofs.YtlnfbjbagmfpiaaGreatDoor
open Go.RowKit
theorem AttrsBy.at {w:World}{B m:Nat}{a:Option Addr}{c:Nat}{A:List (List UInt8 × List UInt8)}(h:AttrsBy w B m (.slice a A.length c) A){k:Nat}(hk:k<A.length):∃ g,a=some ⟨g,0,none⟩/\w.cell? ⟨g,k * 2,none⟩=some (strV A[k].1)/\w.cell? ⟨g,k * 2+1,none⟩=some (strV A[k].2):=by
 obtain⟨g,rfl⟩:∃ g,a=some ⟨g,0,none⟩:=by
  rcases rowForms h.1 with ⟨e1,e2⟩ | ⟨g,cc,e1⟩
  · omega
  · injection e1 with e1 _ _
    exact⟨g,e1⟩
 obtain⟨e1,e2⟩:=atC_at A k hk;exact⟨g,rfl,by rw[h.1.cellAt (k * 2) (by omega)];exact e1,by rw[h.1.cellAt (k * 2+1) (by omega)];exact e2⟩
theorem AttrsBy.below {w w':World}{B m:Nat}{av:Value}{A:List (List UInt8 × List UInt8)}(h:AttrsBy w B m av A)(b:Below w.heap.size w w'):AttrsBy w' B m av A:=h.kp (Kp.of_below b (P:=fun _ _=>False)) fun _ _ _ e=>e
def capV (Nb:Nat):Value := .func (.func 201) #[] #[.pointer (some ⟨Nb,0,none⟩)]
def textAt (w:World)(Nb:Nat)(X:ByteArray):Prop:=w.cell? ⟨Nb,0,none⟩=some (.string X)
theorem textAt.below {w w':World}{Nb:Nat}{X:ByteArray}(h:textAt w Nb X)(b:Below w.heap.size w w'):textAt w' Nb X:=by
 unfold textAt at *;rw[b.cell (lt_of_cell h)];exact h
theorem same_name (NM VL X:ByteArray)(Nb:Nat)(b:Bool)(h:decide (NM.data.toList=X.data.toList)=b):Hid (∀ W,textAt W Nb X->Calls Tryz.prog 201 #[.agg #[.string NM,.string VL],.pointer (some ⟨Nb,0,none⟩)] W fun e w'=>e=.returned (.bool b)/\Below W.heap.size W w'):=Lib.hid fun w hx=>by
 have al:=(Below.refl w.heap.size w).alloc (Nat.le_refl _) (.cells #[.string NM,.string VL] 41);have x1:(w.alloc (.cells #[.string NM,.string VL] 41)).cell? ⟨Nb,0,none⟩=some (.string X):=hx.below al;have g:(NM.toList==X.toList)=b:=by rw[text_eq];exact h
 have HAL:=Lib.hid al;clear h hx al
 go_enter Tryz.func201,Tryz.ntmps201
 go_wp2
 go_ret
 exact⟨rfl,HAL.out⟩
def FoundP (A:List (List UInt8 × List UInt8))(X:List UInt8)(r:Int):Prop:=(A.any (fun y=>y.1==X)=true/\0<=r)\/(A.any (fun y=>y.1==X)=false/\r = -1)
theorem indexFunc_hid (A:List (List UInt8 × List UInt8))(X:ByteArray)(Nb B m:Nat)(a:Option Addr)(c:Nat)(hl:A.length<=1000000):Hid (∀ W,AttrsBy W B m (.slice a A.length c) A->textAt W Nb X->Calls Tryz.prog 105 #[.slice a A.length c,capV Nb] W fun e w'=>(∃ r,e=.returned (.int .i64 r)/\FoundP A X.data.toList r)/\Below W.heap.size W w'):=Lib.hid fun w ha hx=>by
 have HA:=Lib.hid ha;have HX:=Lib.hid hx;clear ha hx;unfold capV
 go_enter Tryz.func105,Tryz.ntmps105
 go_wp2
 go_loopw [5,8] (fun _ j wr=>∃ k:Nat,j=.int .i64 k/\k<=A.length/\Below w.heap.size w wr/\Hid (∀ i,(h:i<A.length)->i<k->A[i].1≠X.data.toList)) (fun _ j _=>A.length - (intOf j).toNat)
 case atStart=>exact⟨0,rfl,Nat.zero_le _,Below.refl _ _,Lib.hid fun i _ h=>by omega⟩
 case round =>
  obtain⟨k,rfl,hk,hb,HN⟩:=hrel
  by_cases hlt:k<A.length
  · have har:=HA.out.below hb
    obtain⟨g,rfl,c0,c1⟩:=har.at hlt;obtain⟨NM,hNM⟩:=text_of A[k].1;obtain⟨VL,hVL⟩:=text_of A[k].2;rw[strV_of hNM]at c0;rw[strV_of hVL]at c1;have hxr:=HX.out.below hb;obtain⟨b,hbb⟩:∃ b,decide (NM.data.toList=X.data.toList)=b:=⟨_,rfl⟩;have CC:=same_name NM VL X Nb b hbb;have HB:Hid (b=decide (A[k].1=X.data.toList)):=Lib.hid (by rw[<- hbb,hNM]);have hsz:=hb.size;clear hbb hVL hNM har
    cases b with
    | false =>
      have HN2:Hid (∀ i,(h:i<A.length)->i<k+1->A[i].1≠X.data.toList):=Lib.hid fun i hi h2=>by
       by_cases e:i=k
       · subst e
         exact of_decide_eq_false HB.out.symm
       · exact HN.out i hi (by omega)
      clear HN HB
      go_wp2_with fail
      (refine(CC.out _ hxr).mono ?_)
      rintro e w1 ⟨rfl,b1⟩;have hb1:=hb.trans (b1.mono hsz);clear hb b1 hxr c0 c1
      go_wp2
      go_roundw
      case rel=>exact⟨k+1,by go_num,by omega,hb1,HN2⟩
      case measure=>simp[intOf];omega
    | true =>
      have HF:Hid (FoundP A X.data.toList (k:Int)):=Lib.hid (.inl ⟨by
       rw[List.any_eq_true]
       exact⟨A[k],List.getElem_mem hlt,by rw[beq_iff_eq];exact of_decide_eq_true HB.out.symm⟩,by omega⟩)
      clear HN HB
      go_wp2_with fail
      (refine(CC.out _ hxr).mono ?_)
      rintro e w1 ⟨rfl,b1⟩;have hb1:=hb.trans (b1.mono hsz);clear hb b1 hxr c0 c1
      go_wp2
      go_ret
      exact⟨⟨_,rfl,HF.out⟩,hb1⟩
  · obtain rfl:k=A.length:=by omega
    have HF:Hid (FoundP A X.data.toList (-1)):=Lib.hid (.inr ⟨by
     rw[List.any_eq_false];intro y hy;obtain⟨i,hi,rfl⟩:=List.getElem_of_mem hy;rw[beq_iff_eq]
     exact HN.out i hi hi,rfl⟩)
    clear HN
    go_wp2
    go_ret
    exact⟨⟨_,rfl,HF.out⟩,hb⟩
theorem contains_hid (A:List (List UInt8 × List UInt8))(X:ByteArray)(Nb B m:Nat)(a:Option Addr)(c:Nat)(hl:A.length<=1000000):Hid (∀ W,AttrsBy W B m (.slice a A.length c) A->textAt W Nb X->Calls Tryz.prog 200 #[.slice a A.length c,capV Nb] W fun e w'=>e=.returned (.bool (A.any (fun y=>y.1==X.data.toList)))/\Below W.heap.size W w'):=Lib.hid fun w ha hx=>by
 have C:=Lib.hid ((indexFunc_hid A X Nb B m a c hl).out w ha hx);clear ha hx;generalize hcap:capV Nb=fvv at C ⊢;clear hcap
 go_enter Tryz.func200,Tryz.ntmps200
 go_wp2_with fail
 refine C.out.mono ?_;rintro e w1 ⟨⟨r,rfl,hf⟩,b1⟩;rcases hf with ⟨h1,h2⟩ | ⟨h1,rfl⟩
 · have H1:=Lib.hid h1
   clear C h1
   go_wp2
   go_ret
   exact⟨ret_bool H1.out.symm,b1⟩
 · have H1:=Lib.hid h1
   clear C h1
   go_wp2
   go_ret
   exact⟨ret_bool H1.out.symm,b1⟩
def refM (A:List (List UInt8 × List UInt8))(X:List UInt8):Int:=if A.any (fun y=>y.1==X)=true then 142 else if A.length=30 then 2 else 0
theorem refusal_hid (A:List (List UInt8 × List UInt8))(X:ByteArray)(r:Int)(h:refM A X.data.toList=r)(B m:Nat)(a:Option Addr)(c:Nat)(hl:A.length<=1000000):Hid (∀ W,AttrsBy W B m (.slice a A.length c) A->Calls Tryz.prog 188 #[.slice a A.length c,.string X] W fun e w'=>e=.returned (.int .i64 r)/\Below W.heap.size W w'):=Lib.hid fun w ha=>by
 have al:=(Below.refl w.heap.size w).alloc (Nat.le_refl _) (.cells #[.string X] 9)
 have hx:textAt (w.alloc (.cells #[.string X] 9)) w.heap.size X:=by
  unfold textAt;rw[cell_of (new_block w _)];rfl
 have C:=Lib.hid ((contains_hid A X w.heap.size B m a c hl).out _ (ha.below al) hx);unfold capV at C;have HAL:=Lib.hid al;obtain⟨d,hd⟩:∃ d,A.any (fun y=>y.1==X.data.toList)=d:=⟨_,rfl⟩;rw[hd]at C;obtain⟨f,hf⟩:∃ f,((A.length:Int)==30)=f:=⟨_,rfl⟩
 have HV:Hid (r=if d=true then 142 else if f=true then 2 else 0):=Lib.hid (by
  rw[<- h];unfold refM;rw[hd,<- hf];simp only[beq_iff_eq]
  congr 1
  by_cases e:A.length=30
  · rw[if_pos e,if_pos (by omega)]
  · rw[if_neg e,if_neg (by omega)])
 clear ha h hd al hx
 cases d<;>cases f
 all_goals
  go_enter Tryz.func188,Tryz.ntmps188
  go_wp2_with fail
  refine C.out.mono ?_;rintro e w1 ⟨rfl,b1⟩;have b2:=HAL.out.trans (b1.mono HAL.out.size);clear b1
  go_wp2
  go_ret
  exact⟨by rw[HV.out];rfl,b2⟩
end Go.Proofs.YtlnfbjbagmfpiaaGreatDoor
namespace Go.Proofs.YtlnfbjbagmfpiaaGreatDoor
open Go.RowKit
theorem sign_begins (z:UInt8)(hz:z.toNat<97)(hl:lowB z=z)(l:List UInt8):beginsM [z] l=decide (l.head? = some z):=by
 unfold beginsM
 cases l with
 | nil=>simp
 | cons c r =>
   rw[Bool.eq_iff_iff];simp only[List.length_cons,List.length_nil,List.take_succ_cons,List.take_zero,low,List.map_cons,List.map_nil,List.head?_cons,Bool.and_eq_true,decide_eq_true_eq,List.cons.injEq,and_true,Option.some.injEq];constructor
   · rintro⟨_,h⟩
     exact low_back h hz
   · rintro rfl
     exact⟨by omega,hl⟩
theorem gap_blk:gapL []=blkE:=by
 funext c
 unfold gapL blkE oneOf;simp
theorem one_word:oneOf [62]=wordE:=by
 funext c
 unfold oneOf wordE
 congr 1
 rw[Bool.eq_iff_iff];simp
theorem valP_no {n:Nat}{l:List UInt8}(h:(l.drop (l.findIdx blkE)).head? ≠ some 61):valP n l=(([],[]),l.findIdx blkE,true):=by
 unfold valP;dsimp only;rw[if_neg h]
def valB (p:Nat)(r2:List UInt8)(len k:Nat):(List UInt8 × List Fl) × Nat × Bool :=
 match valueM p r2 with
 | some (v,j)=>(v,k+j,true)
 | none=>(decL (p+1) (r2.drop 1),len,false)
theorem valP_yes {n:Nat}{l:List UInt8}(h:(l.drop (l.findIdx blkE)).head? = some 61):valP n l=valB (n+(l.findIdx blkE+1+((l.drop (l.findIdx blkE)).drop 1).findIdx blkE)) ((l.drop (l.findIdx blkE)).drop (1+((l.drop (l.findIdx blkE)).drop 1).findIdx blkE)) l.length (l.findIdx blkE+1+((l.drop (l.findIdx blkE)).drop 1).findIdx blkE):=by
 unfold valP valB;dsimp only;rw[if_pos h];generalize valueM _ _=y
 cases y<;>rfl
theorem valP_at {l0:List UInt8}{n b z g:Nat}(hb:(l0.drop n).findIdx blkE=b)(hh:(l0.drop (n+b)).head? = some 61)(hz:(l0.drop (n+b+1)).findIdx blkE=z)(hg:n+b+1+z=g):valP n (l0.drop n)=valB g (l0.drop g) (l0.length - n) (b+1+z):=by
 subst hg;have e1:((l0.drop n).drop b).drop 1=l0.drop (n+b+1):=by rw[List.drop_drop,List.drop_drop];congr 1
 have e2:((l0.drop n).drop b).drop (1+z)=l0.drop (n+b+1+z):=by rw[List.drop_drop,List.drop_drop];congr 1;omega
 have h:=valP_yes (n:=n) (l:=l0.drop n) (by rw[hb,List.drop_drop];exact hh);rw[hb,e1,hz,e2,List.length_drop,show n+(b+1+z)=n+b+1+z by omega]at h;exact h
theorem valB_quote {p:Nat}{q:UInt8}{r:List UInt8}{len k i:Nat}(hq:q=34\/q=39)(hf:findT [q] r=some i):valB p (q :: r) len k=(decL (p+1) (r.take i),k+(i+2),true):=by
 rw[find_single]at hf;unfold valB valueM;simp only;rw[if_pos hq]
 by_cases h:r.findIdx (· == q)<r.length
 · rw[if_pos h]at hf ⊢
   cases hf
   rfl
 · rw[if_neg h]at hf
   cases hf
theorem valB_cut {p:Nat}{q:UInt8}{r:List UInt8}{len k:Nat}(hq:q=34\/q=39)(hf:findT [q] r=none):valB p (q :: r) len k=(decL (p+1) r,len,false):=by
 rw[find_single]at hf;unfold valB valueM;simp only;rw[if_pos hq]
 by_cases h:r.findIdx (· == q)<r.length
 · rw[if_pos h]at hf
   cases hf
 · rw[if_neg h]
   rfl
theorem valB_word {p:Nat}{r2:List UInt8}{len k:Nat}(h1:r2.head? ≠ some 34)(h2:r2.head? ≠ some 39):valB p r2 len k=(decL p (r2.take (r2.findIdx wordE)),k+r2.findIdx wordE,true):=by
 cases r2 with
 | nil=>rfl
 | cons q r =>
   unfold valB valueM;simp only
   rw[if_neg (by
    rintro(rfl | rfl)
    · exact h1 rfl
    · exact h2 rfl)]
section
variable {w w':World} {B m R:Nat} {s:ByteArray} {n:Nat} {H:List UInt8} {T:List Tk} {F:List Fl} {v0:Value} {F0:List Fl}
end
theorem skipE_hid (R:Nat)(s:ByteArray)(z:UInt8)(n:Nat)(b:Bool)(h:decide ((s.data.toList.drop n).head? = some z)=b)(hz:z.toNat<97)(hl:lowB z=z)(hn:n<=s.size)(hs:s.size<=1000000000):Hid (∀ W p bv tv fv,RX W R s n p bv tv fv->Calls Tryz.prog 152 #[.pointer (some ⟨R,0,none⟩),.string ⟨#[z]⟩] W fun e w'=>e=.returned (.bool b)/\RX w' R s (if b then n+1 else n) p bv tv fv/\Kp (onR R) W w') :=
 skip_hid R s ⟨#[z]⟩ n b (by rw[show(⟨#[z]⟩:ByteArray).data.toList=[z]from rfl,sign_begins z hz hl];exact h) hn (by show low [z]=[z];simp[low,hl]) hs (by show 1<=_;omega)
theorem aidx0:∀ w,(Instr.index 229 (.agg #[.string ⟨#[34]⟩,.string ⟨#[39]⟩]) (.int .i64 0)).run Tryz.prog w=.ok (.string ⟨#[34]⟩) w:=by intro w;kernel_rfl
theorem aidx1:∀ w,(Instr.index 229 (.agg #[.string ⟨#[34]⟩,.string ⟨#[39]⟩]) (.int .i64 1)).run Tryz.prog w=.ok (.string ⟨#[39]⟩) w:=by intro w;kernel_rfl
theorem head_drop {l:List UInt8}{n:Nat}{c:UInt8}(h:(l.drop n).head? = some c):n<l.length/\l.drop n=c :: l.drop (n+1):=by
 cases hd:l.drop n with
 | nil=>rw[hd]at h;cases h
 | cons a r =>
   rw[hd]at h
   cases h
   have hn:n<l.length:=by
    have:=congrArg List.length hd;rw[List.length_drop]at this;simp at this;omega
   refine⟨hn,?_⟩;rw[<- List.drop_drop,hd];rfl
theorem value_none (s:ByteArray)(n b:Nat)(hb:(s.data.toList.drop n).findIdx blkE=b)(hh:(s.data.toList.drop (n+b)).head? ≠ some 61)(hn:n+b<=s.size)(hs:s.size<=20000):Hid (∀ W B m R H T F v0 F0,RS W B m R s n H T F v0 F0->F.length<=400000->Calls Tryz.prog 189 #[.pointer (some ⟨R,0,none⟩)] W fun e w'=>e=.returned (.string ⟨#[]⟩)/\RS w' B m R s (n+b) H T F v0 F0/\Kp (frD B R) W w'):=Lib.hid fun w B m R H T F v0 F0 hr hF=>by
 obtain⟨U,hU⟩:=text_of ((s.data.toList.drop n).take b);have CB:=skipAll_hid R s ⟨#[]⟩ U n (by rw[show(⟨#[]⟩:ByteArray).data.toList=[]from rfl,gap_blk,hb];exact hU) (by omega) (by omega);rw[show(⟨#[]⟩:ByteArray).data.toList=[]from rfl,gap_blk,hb]at CB;have CE:=skipE_hid R s 61 (n+b) false (decide_eq_false hh) (by decide) (by decide) hn (by omega);simp only[Bool.false_eq_true,if_false]at CE;obtain⟨p,bv,tv,fv,hx⟩:=hr;have HX:=Lib.hid hx;clear hb hh hU hx
 go_enter Tryz.func189,Tryz.ntmps189
 go_wp2_with fail
 (with_reducible refine(CB.out _ _ _ _ _ HX.out.x).mono ?_)
 rintro e w1 ⟨rfl,x1,k1⟩;have HX1:=Lib.hid (HX.out.moved x1 k1);clear x1
 go_wp2_with fail
 (with_reducible refine(CE.out _ _ _ _ _ HX1.out.x).mono ?_)
 rintro e w2 ⟨rfl,x2,k2⟩;have h2:=(HX1.out.moved x2 k2).form;have k3:=k1.trans k2;clear x2 k1 k2
 go_wp2
 go_ret
 exact⟨rfl,h2,onR_frD k3⟩
theorem value_dq (s P D:ByteArray)(n b z g:Nat)(hg:n+b+1+z=g)(q:List Nat)(hb:(s.data.toList.drop n).findIdx blkE=b)(hh:(s.data.toList.drop (n+b)).head? = some 61)(hz:(s.data.toList.drop (n+b+1)).findIdx blkE=z)(hq:(s.data.toList.drop g).head? = some 34)(i:Nat)(hf:findT [34] (s.data.toList.drop (g+1))=some i)(hP:P.data.toList=((s.data.toList.drop (g+1)).take i))(h:decT 0 P.data.toList=(D.data.toList,q))(hn:n<=s.size)(hs:s.size<=20000):Hid (∀ W B m R H T F v0 F0,RS W B m R s n H T F v0 F0->F.length<=400000->Calls Tryz.prog 189 #[.pointer (some ⟨R,0,none⟩)] W fun e w'=>e=.returned (.string D)/\RS w' B m R s (g+1+i+1) H T (F++failM (g+1) q) v0 F0/\Kp (frD B R) W w'):=Lib.hid fun w B m R H T F v0 F0 hr hF=>by
 obtain⟨hlt,-⟩:=head_drop hh;rw[lsize]at hlt;have hzl:=find_le blkE s (n+b+1) (by omega);rw[hz]at hzl;obtain⟨U,hU⟩:=text_of ((s.data.toList.drop n).take b);obtain⟨U2,hU2⟩:=text_of ((s.data.toList.drop (n+b+1)).take z);have CB:=skipAll_hid R s ⟨#[]⟩ U n (by rw[show(⟨#[]⟩:ByteArray).data.toList=[]from rfl,gap_blk,hb];exact hU) hn (by omega);rw[show(⟨#[]⟩:ByteArray).data.toList=[]from rfl,gap_blk,hb]at CB;have CE:=skipE_hid R s 61 (n+b) true (decide_eq_true hh) (by decide) (by decide) (by omega) (by omega);simp only[if_true]at CE;have CB2:=skipAll_hid R s ⟨#[]⟩ U2 (n+b+1) (by rw[show(⟨#[]⟩:ByteArray).data.toList=[]from rfl,gap_blk,hz];exact hU2) (by omega) (by omega);rw[show(⟨#[]⟩:ByteArray).data.toList=[]from rfl,gap_blk,hz]at CB2;rw[hg]at CB2 hzl;obtain⟨hgl,-⟩:=head_drop hq;rw[lsize]at hgl;have C2:=skipE_hid R s 34 g true (decide_eq_true hq) (by decide) (by decide) (by omega) (by omega);simp only[if_true]at C2;have CU:=through_yes R s ⟨#[34]⟩ P (g+1) i hf hP (by omega) (by decide) (by omega);rw[show g+1+i+(⟨#[34]⟩:ByteArray).size=g+1+i+1 from rfl]at CU
 have hPs:P.size<=20000:=by
  rw[<- lsize,hP];simp only[List.length_take,List.length_drop,lsize];omega
 have CD:=decoded_hid P D q (g+1) h (by omega) (by omega);rw[show(((g+1:Nat)):Int)=(g:Int)+1 by push_cast;rfl]at CD;obtain⟨p,bv,tv,fv,hx⟩:=hr;have HX:=Lib.hid hx;clear hb hh hz hU hU2 hP h hx hPs hzl hlt hg hq hf hgl
 go_enter Tryz.func189,Tryz.ntmps189
 go_wp2_with fail
 (with_reducible refine(CB.out _ _ _ _ _ HX.out.x).mono ?_)
 rintro e w1 ⟨rfl,x1,k1⟩;have HX1:=Lib.hid (HX.out.moved x1 k1);clear x1 HX
 go_wp2_with fail
 (with_reducible refine(CE.out _ _ _ _ _ HX1.out.x).mono ?_)
 rintro e w2 ⟨rfl,x2,k2⟩;have HX2:=Lib.hid (HX1.out.moved x2 k2);have k2:=k1.trans k2;clear x2 k1 HX1
 go_wp2_with fail
 (with_reducible refine(CB2.out _ _ _ _ _ HX2.out.x).mono ?_)
 rintro e w3 ⟨rfl,x3,k3⟩;have HX3:=Lib.hid (HX2.out.moved x3 k3);have k3:=k2.trans k3;clear x3 k2 HX2
 go_wp2
 have ai0:=aidx0;have ai1:=aidx1;refine wp_loop_rounds 3 ?_;rw[rounds_succ]
 go_wp2_with fail
 (with_reducible refine(C2.out _ _ _ _ _ HX3.out.x).mono ?_)
 rintro e w4 ⟨rfl,x4,k4⟩;have HX4:=Lib.hid (HX3.out.moved x4 k4);have k4:=k3.trans k4;have d4:=HX4.out.x.c1;clear x4 k3 HX3
 go_wp2_with fail
 (with_reducible refine(CU.out _ _ _ _ _ HX4.out.low.low.m HX4.out.x).mono ?_)
 rintro e w6 ⟨rfl,x6,k6⟩;have HX6:=Lib.hid (HX4.out.moved x6 k6).form;have k6:=k4.trans k6;clear x6 k4 HX4
 go_wp2_with fail
 (with_reducible refine(CD.out _ _ _ _ _ _ _ _ _ _ _ HX6.out (by omega)).mono ?_)
 rintro e w7 ⟨rfl,h7,k7⟩;have k8:=(onR_frD (B:=B) k6).trans k7;clear k6 k7 HX6
 go_wp2
 go_ret
 exact⟨rfl,h7,k8⟩
theorem value_dq_cut (s P D:ByteArray)(n b z g:Nat)(hg:n+b+1+z=g)(q:List Nat)(hb:(s.data.toList.drop n).findIdx blkE=b)(hh:(s.data.toList.drop (n+b)).head? = some 61)(hz:(s.data.toList.drop (n+b+1)).findIdx blkE=z)(hq:(s.data.toList.drop g).head? = some 34)(hf:findT [34] (s.data.toList.drop (g+1))=none)(hP:P.data.toList=(s.data.toList.drop (g+1)))(h:decT 0 P.data.toList=(D.data.toList,q))(hn:n<=s.size)(hs:s.size<=20000):Hid (∀ W B m R H T F v0 F0,RS W B m R s n H T F v0 F0->F.length<=400000->Calls Tryz.prog 189 #[.pointer (some ⟨R,0,none⟩)] W fun e w'=>e=.returned (.string D)/\RS w' B m R s s.size H T (F++failM (g+1) q) v0 F0/\Kp (frD B R) W w'):=Lib.hid fun w B m R H T F v0 F0 hr hF=>by
 obtain⟨hlt,-⟩:=head_drop hh;rw[lsize]at hlt;have hzl:=find_le blkE s (n+b+1) (by omega);rw[hz]at hzl;obtain⟨U,hU⟩:=text_of ((s.data.toList.drop n).take b);obtain⟨U2,hU2⟩:=text_of ((s.data.toList.drop (n+b+1)).take z);have CB:=skipAll_hid R s ⟨#[]⟩ U n (by rw[show(⟨#[]⟩:ByteArray).data.toList=[]from rfl,gap_blk,hb];exact hU) hn (by omega);rw[show(⟨#[]⟩:ByteArray).data.toList=[]from rfl,gap_blk,hb]at CB;have CE:=skipE_hid R s 61 (n+b) true (decide_eq_true hh) (by decide) (by decide) (by omega) (by omega);simp only[if_true]at CE;have CB2:=skipAll_hid R s ⟨#[]⟩ U2 (n+b+1) (by rw[show(⟨#[]⟩:ByteArray).data.toList=[]from rfl,gap_blk,hz];exact hU2) (by omega) (by omega);rw[show(⟨#[]⟩:ByteArray).data.toList=[]from rfl,gap_blk,hz]at CB2;rw[hg]at CB2 hzl;obtain⟨hgl,-⟩:=head_drop hq;rw[lsize]at hgl;have C2:=skipE_hid R s 34 g true (decide_eq_true hq) (by decide) (by decide) (by omega) (by omega);simp only[if_true]at C2;have CU:=through_no R s ⟨#[34]⟩ P (g+1) hf hP (by omega) (by omega)
 have hPs:P.size<=20000:=by
  rw[<- lsize,hP];simp only[List.length_drop,lsize];omega
 have CD:=decoded_hid P D q (g+1) h (by omega) (by omega);rw[show(((g+1:Nat)):Int)=(g:Int)+1 by push_cast;rfl]at CD;obtain⟨p,bv,tv,fv,hx⟩:=hr;have HX:=Lib.hid hx;clear hb hh hz hU hU2 hP h hx hPs hzl hlt hg hq hf hgl
 go_enter Tryz.func189,Tryz.ntmps189
 go_wp2_with fail
 (with_reducible refine(CB.out _ _ _ _ _ HX.out.x).mono ?_)
 rintro e w1 ⟨rfl,x1,k1⟩;have HX1:=Lib.hid (HX.out.moved x1 k1);clear x1 HX
 go_wp2_with fail
 (with_reducible refine(CE.out _ _ _ _ _ HX1.out.x).mono ?_)
 rintro e w2 ⟨rfl,x2,k2⟩;have HX2:=Lib.hid (HX1.out.moved x2 k2);have k2:=k1.trans k2;clear x2 k1 HX1
 go_wp2_with fail
 (with_reducible refine(CB2.out _ _ _ _ _ HX2.out.x).mono ?_)
 rintro e w3 ⟨rfl,x3,k3⟩;have HX3:=Lib.hid (HX2.out.moved x3 k3);have k3:=k2.trans k3;clear x3 k2 HX2
 go_wp2
 have ai0:=aidx0;have ai1:=aidx1;refine wp_loop_rounds 3 ?_;rw[rounds_succ]
 go_wp2_with fail
 (with_reducible refine(C2.out _ _ _ _ _ HX3.out.x).mono ?_)
 rintro e w4 ⟨rfl,x4,k4⟩;have HX4:=Lib.hid (HX3.out.moved x4 k4);have k4:=k3.trans k4;have d4:=HX4.out.x.c1;clear x4 k3 HX3
 go_wp2_with fail
 (with_reducible refine(CU.out _ _ _ _ _ HX4.out.low.low.m HX4.out.x).mono ?_)
 rintro e w6 ⟨rfl,x6,k6⟩;have HX6:=Lib.hid (HX4.out.moved x6 k6).form;have k6:=k4.trans k6;clear x6 k4 HX4
 go_wp2_with fail
 (with_reducible refine(CD.out _ _ _ _ _ _ _ _ _ _ _ HX6.out (by omega)).mono ?_)
 rintro e w7 ⟨rfl,h7,k7⟩;have k8:=(onR_frD (B:=B) k6).trans k7;clear k6 k7 HX6
 go_wp2
 go_ret
 exact⟨rfl,h7,k8⟩
theorem value_sq (s P D:ByteArray)(n b z g:Nat)(hg:n+b+1+z=g)(q:List Nat)(hb:(s.data.toList.drop n).findIdx blkE=b)(hh:(s.data.toList.drop (n+b)).head? = some 61)(hz:(s.data.toList.drop (n+b+1)).findIdx blkE=z)(hq:(s.data.toList.drop g).head? = some 39)(i:Nat)(hf:findT [39] (s.data.toList.drop (g+1))=some i)(hP:P.data.toList=((s.data.toList.drop (g+1)).take i))(h:decT 0 P.data.toList=(D.data.toList,q))(hn:n<=s.size)(hs:s.size<=20000):Hid (∀ W B m R H T F v0 F0,RS W B m R s n H T F v0 F0->F.length<=400000->Calls Tryz.prog 189 #[.pointer (some ⟨R,0,none⟩)] W fun e w'=>e=.returned (.string D)/\RS w' B m R s (g+1+i+1) H T (F++failM (g+1) q) v0 F0/\Kp (frD B R) W w'):=Lib.hid fun w B m R H T F v0 F0 hr hF=>by
 obtain⟨hlt,-⟩:=head_drop hh;rw[lsize]at hlt;have hzl:=find_le blkE s (n+b+1) (by omega);rw[hz]at hzl;obtain⟨U,hU⟩:=text_of ((s.data.toList.drop n).take b);obtain⟨U2,hU2⟩:=text_of ((s.data.toList.drop (n+b+1)).take z);have CB:=skipAll_hid R s ⟨#[]⟩ U n (by rw[show(⟨#[]⟩:ByteArray).data.toList=[]from rfl,gap_blk,hb];exact hU) hn (by omega);rw[show(⟨#[]⟩:ByteArray).data.toList=[]from rfl,gap_blk,hb]at CB;have CE:=skipE_hid R s 61 (n+b) true (decide_eq_true hh) (by decide) (by decide) (by omega) (by omega);simp only[if_true]at CE;have CB2:=skipAll_hid R s ⟨#[]⟩ U2 (n+b+1) (by rw[show(⟨#[]⟩:ByteArray).data.toList=[]from rfl,gap_blk,hz];exact hU2) (by omega) (by omega);rw[show(⟨#[]⟩:ByteArray).data.toList=[]from rfl,gap_blk,hz]at CB2;rw[hg]at CB2 hzl;obtain⟨hgl,-⟩:=head_drop hq;rw[lsize]at hgl;have C1:=skipE_hid R s 34 g false (decide_eq_false (by rw[hq];decide)) (by decide) (by decide) (by omega) (by omega);simp only[Bool.false_eq_true,if_false]at C1;have C2:=skipE_hid R s 39 g true (decide_eq_true hq) (by decide) (by decide) (by omega) (by omega);simp only[if_true]at C2;have CU:=through_yes R s ⟨#[39]⟩ P (g+1) i hf hP (by omega) (by decide) (by omega);rw[show g+1+i+(⟨#[39]⟩:ByteArray).size=g+1+i+1 from rfl]at CU
 have hPs:P.size<=20000:=by
  rw[<- lsize,hP];simp only[List.length_take,List.length_drop,lsize];omega
 have CD:=decoded_hid P D q (g+1) h (by omega) (by omega);rw[show(((g+1:Nat)):Int)=(g:Int)+1 by push_cast;rfl]at CD;obtain⟨p,bv,tv,fv,hx⟩:=hr;have HX:=Lib.hid hx;clear hb hh hz hU hU2 hP h hx hPs hzl hlt hg hq hf hgl
 go_enter Tryz.func189,Tryz.ntmps189
 go_wp2_with fail
 (with_reducible refine(CB.out _ _ _ _ _ HX.out.x).mono ?_)
 rintro e w1 ⟨rfl,x1,k1⟩;have HX1:=Lib.hid (HX.out.moved x1 k1);clear x1 HX
 go_wp2_with fail
 (with_reducible refine(CE.out _ _ _ _ _ HX1.out.x).mono ?_)
 rintro e w2 ⟨rfl,x2,k2⟩;have HX2:=Lib.hid (HX1.out.moved x2 k2);have k2:=k1.trans k2;clear x2 k1 HX1
 go_wp2_with fail
 (with_reducible refine(CB2.out _ _ _ _ _ HX2.out.x).mono ?_)
 rintro e w3 ⟨rfl,x3,k3⟩;have HX3:=Lib.hid (HX2.out.moved x3 k3);have k3:=k2.trans k3;clear x3 k2 HX2
 go_wp2
 have ai0:=aidx0;have ai1:=aidx1;refine wp_loop_rounds 3 ?_;rw[rounds_succ]
 go_wp2_with fail
 (with_reducible refine(C1.out _ _ _ _ _ HX3.out.x).mono ?_)
 rintro e w4 ⟨rfl,x4,k4⟩;have HX4:=Lib.hid (HX3.out.moved x4 k4);have k4:=k3.trans k4;have d4:=HX4.out.x.c1;clear x4 k3 HX3
 go_wp2_with fail
 rw[rounds_succ]
 go_wp2_with fail
 (with_reducible refine(C2.out _ _ _ _ _ HX4.out.x).mono ?_)
 rintro e w5 ⟨rfl,x5,k5⟩;have HX5:=Lib.hid (HX4.out.moved x5 k5);have k5:=k4.trans k5;have d5:=HX5.out.x.c1;clear x5 k4 HX4
 go_wp2_with fail
 (with_reducible refine(CU.out _ _ _ _ _ HX5.out.low.low.m HX5.out.x).mono ?_)
 rintro e w6 ⟨rfl,x6,k6⟩;have HX6:=Lib.hid (HX5.out.moved x6 k6).form;have k6:=k5.trans k6;clear x6 k5 HX5
 go_wp2_with fail
 (with_reducible refine(CD.out _ _ _ _ _ _ _ _ _ _ _ HX6.out (by omega)).mono ?_)
 rintro e w7 ⟨rfl,h7,k7⟩;have k8:=(onR_frD (B:=B) k6).trans k7;clear k6 k7 HX6
 go_wp2
 go_ret
 exact⟨rfl,h7,k8⟩
theorem value_sq_cut (s P D:ByteArray)(n b z g:Nat)(hg:n+b+1+z=g)(q:List Nat)(hb:(s.data.toList.drop n).findIdx blkE=b)(hh:(s.data.toList.drop (n+b)).head? = some 61)(hz:(s.data.toList.drop (n+b+1)).findIdx blkE=z)(hq:(s.data.toList.drop g).head? = some 39)(hf:findT [39] (s.data.toList.drop (g+1))=none)(hP:P.data.toList=(s.data.toList.drop (g+1)))(h:decT 0 P.data.toList=(D.data.toList,q))(hn:n<=s.size)(hs:s.size<=20000):Hid (∀ W B m R H T F v0 F0,RS W B m R s n H T F v0 F0->F.length<=400000->Calls Tryz.prog 189 #[.pointer (some ⟨R,0,none⟩)] W fun e w'=>e=.returned (.string D)/\RS w' B m R s s.size H T (F++failM (g+1) q) v0 F0/\Kp (frD B R) W w'):=Lib.hid fun w B m R H T F v0 F0 hr hF=>by
 obtain⟨hlt,-⟩:=head_drop hh;rw[lsize]at hlt;have hzl:=find_le blkE s (n+b+1) (by omega);rw[hz]at hzl;obtain⟨U,hU⟩:=text_of ((s.data.toList.drop n).take b);obtain⟨U2,hU2⟩:=text_of ((s.data.toList.drop (n+b+1)).take z);have CB:=skipAll_hid R s ⟨#[]⟩ U n (by rw[show(⟨#[]⟩:ByteArray).data.toList=[]from rfl,gap_blk,hb];exact hU) hn (by omega);rw[show(⟨#[]⟩:ByteArray).data.toList=[]from rfl,gap_blk,hb]at CB;have CE:=skipE_hid R s 61 (n+b) true (decide_eq_true hh) (by decide) (by decide) (by omega) (by omega);simp only[if_true]at CE;have CB2:=skipAll_hid R s ⟨#[]⟩ U2 (n+b+1) (by rw[show(⟨#[]⟩:ByteArray).data.toList=[]from rfl,gap_blk,hz];exact hU2) (by omega) (by omega);rw[show(⟨#[]⟩:ByteArray).data.toList=[]from rfl,gap_blk,hz]at CB2;rw[hg]at CB2 hzl;obtain⟨hgl,-⟩:=head_drop hq;rw[lsize]at hgl;have C1:=skipE_hid R s 34 g false (decide_eq_false (by rw[hq];decide)) (by decide) (by decide) (by omega) (by omega);simp only[Bool.false_eq_true,if_false]at C1;have C2:=skipE_hid R s 39 g true (decide_eq_true hq) (by decide) (by decide) (by omega) (by omega);simp only[if_true]at C2;have CU:=through_no R s ⟨#[39]⟩ P (g+1) hf hP (by omega) (by omega)
 have hPs:P.size<=20000:=by
  rw[<- lsize,hP];simp only[List.length_drop,lsize];omega
 have CD:=decoded_hid P D q (g+1) h (by omega) (by omega);rw[show(((g+1:Nat)):Int)=(g:Int)+1 by push_cast;rfl]at CD;obtain⟨p,bv,tv,fv,hx⟩:=hr;have HX:=Lib.hid hx;clear hb hh hz hU hU2 hP h hx hPs hzl hlt hg hq hf hgl
 go_enter Tryz.func189,Tryz.ntmps189
 go_wp2_with fail
 (with_reducible refine(CB.out _ _ _ _ _ HX.out.x).mono ?_)
 rintro e w1 ⟨rfl,x1,k1⟩;have HX1:=Lib.hid (HX.out.moved x1 k1);clear x1 HX
 go_wp2_with fail
 (with_reducible refine(CE.out _ _ _ _ _ HX1.out.x).mono ?_)
 rintro e w2 ⟨rfl,x2,k2⟩;have HX2:=Lib.hid (HX1.out.moved x2 k2);have k2:=k1.trans k2;clear x2 k1 HX1
 go_wp2_with fail
 (with_reducible refine(CB2.out _ _ _ _ _ HX2.out.x).mono ?_)
 rintro e w3 ⟨rfl,x3,k3⟩;have HX3:=Lib.hid (HX2.out.moved x3 k3);have k3:=k2.trans k3;clear x3 k2 HX2
 go_wp2
 have ai0:=aidx0;have ai1:=aidx1;refine wp_loop_rounds 3 ?_;rw[rounds_succ]
 go_wp2_with fail
 (with_reducible refine(C1.out _ _ _ _ _ HX3.out.x).mono ?_)
 rintro e w4 ⟨rfl,x4,k4⟩;have HX4:=Lib.hid (HX3.out.moved x4 k4);have k4:=k3.trans k4;have d4:=HX4.out.x.c1;clear x4 k3 HX3
 go_wp2_with fail
 rw[rounds_succ]
 go_wp2_with fail
 (with_reducible refine(C2.out _ _ _ _ _ HX4.out.x).mono ?_)
 rintro e w5 ⟨rfl,x5,k5⟩;have HX5:=Lib.hid (HX4.out.moved x5 k5);have k5:=k4.trans k5;have d5:=HX5.out.x.c1;clear x5 k4 HX4
 go_wp2_with fail
 (with_reducible refine(CU.out _ _ _ _ _ HX5.out.low.low.m HX5.out.x).mono ?_)
 rintro e w6 ⟨rfl,x6,k6⟩;have HX6:=Lib.hid (HX5.out.moved x6 k6).form;have k6:=k5.trans k6;clear x6 k5 HX5
 go_wp2_with fail
 (with_reducible refine(CD.out _ _ _ _ _ _ _ _ _ _ _ HX6.out (by omega)).mono ?_)
 rintro e w7 ⟨rfl,h7,k7⟩;have k8:=(onR_frD (B:=B) k6).trans k7;clear k6 k7 HX6
 go_wp2
 go_ret
 exact⟨rfl,h7,k8⟩
theorem value_word (s P D:ByteArray)(n b z g:Nat)(hg:n+b+1+z=g)(q:List Nat)(hb:(s.data.toList.drop n).findIdx blkE=b)(hh:(s.data.toList.drop (n+b)).head? = some 61)(hz:(s.data.toList.drop (n+b+1)).findIdx blkE=z)(h1:(s.data.toList.drop g).head? ≠ some 34)(h2:(s.data.toList.drop g).head? ≠ some 39)(i:Nat)(hi:(s.data.toList.drop g).findIdx wordE=i)(hP:P.data.toList=((s.data.toList.drop g).take i))(h:decT 0 P.data.toList=(D.data.toList,q))(hn:n<=s.size)(hs:s.size<=20000):Hid (∀ W B m R H T F v0 F0,RS W B m R s n H T F v0 F0->F.length<=400000->Calls Tryz.prog 189 #[.pointer (some ⟨R,0,none⟩)] W fun e w'=>e=.returned (.string D)/\RS w' B m R s (g+i) H T (F++failM g q) v0 F0/\Kp (frD B R) W w'):=Lib.hid fun w B m R H T F v0 F0 hr hF=>by
 obtain⟨hlt,-⟩:=head_drop hh;rw[lsize]at hlt;have hzl:=find_le blkE s (n+b+1) (by omega);rw[hz]at hzl;obtain⟨U,hU⟩:=text_of ((s.data.toList.drop n).take b);obtain⟨U2,hU2⟩:=text_of ((s.data.toList.drop (n+b+1)).take z);have CB:=skipAll_hid R s ⟨#[]⟩ U n (by rw[show(⟨#[]⟩:ByteArray).data.toList=[]from rfl,gap_blk,hb];exact hU) hn (by omega);rw[show(⟨#[]⟩:ByteArray).data.toList=[]from rfl,gap_blk,hb]at CB;have CE:=skipE_hid R s 61 (n+b) true (decide_eq_true hh) (by decide) (by decide) (by omega) (by omega);simp only[if_true]at CE;have CB2:=skipAll_hid R s ⟨#[]⟩ U2 (n+b+1) (by rw[show(⟨#[]⟩:ByteArray).data.toList=[]from rfl,gap_blk,hz];exact hU2) (by omega) (by omega);rw[show(⟨#[]⟩:ByteArray).data.toList=[]from rfl,gap_blk,hz]at CB2;rw[hg]at CB2 hzl;have C1:=skipE_hid R s 34 g false (decide_eq_false h1) (by decide) (by decide) (by omega) (by omega);have C2:=skipE_hid R s 39 g false (decide_eq_false h2) (by decide) (by decide) (by omega) (by omega);simp only[Bool.false_eq_true,if_false]at C1 C2;have hil:=find_le wordE s g (by omega);rw[hi]at hil;have CU:=takeUntil_hid R s ⟨#[62]⟩ P g (by rw[show(⟨#[62]⟩:ByteArray).data.toList=[62]from rfl,one_word,hi];exact hP) (by omega) (by omega);rw[show(⟨#[62]⟩:ByteArray).data.toList=[62]from rfl,one_word,hi]at CU
 have hPs:P.size<=20000:=by
  rw[<- lsize,hP];simp only[List.length_take,List.length_drop,lsize];omega
 have CD:=decoded_hid P D q g h (by omega) (by omega);obtain⟨p,bv,tv,fv,hx⟩:=hr;have HX:=Lib.hid hx;clear hb hh hz hU hU2 hP h hx hPs hzl hlt hg h1 h2 hi hil
 go_enter Tryz.func189,Tryz.ntmps189
 go_wp2_with fail
 (with_reducible refine(CB.out _ _ _ _ _ HX.out.x).mono ?_)
 rintro e w1 ⟨rfl,x1,k1⟩;have HX1:=Lib.hid (HX.out.moved x1 k1);clear x1 HX
 go_wp2_with fail
 (with_reducible refine(CE.out _ _ _ _ _ HX1.out.x).mono ?_)
 rintro e w2 ⟨rfl,x2,k2⟩;have HX2:=Lib.hid (HX1.out.moved x2 k2);have k2:=k1.trans k2;clear x2 k1 HX1
 go_wp2_with fail
 (with_reducible refine(CB2.out _ _ _ _ _ HX2.out.x).mono ?_)
 rintro e w3 ⟨rfl,x3,k3⟩;have HX3:=Lib.hid (HX2.out.moved x3 k3);have k3:=k2.trans k3;clear x3 k2 HX2
 go_wp2
 have ai0:=aidx0;have ai1:=aidx1;refine wp_loop_rounds 3 ?_;rw[rounds_succ]
 go_wp2_with fail
 (with_reducible refine(C1.out _ _ _ _ _ HX3.out.x).mono ?_)
 rintro e w4 ⟨rfl,x4,k4⟩;have HX4:=Lib.hid (HX3.out.moved x4 k4);have k4:=k3.trans k4;have d4:=HX4.out.x.c1;clear x4 k3 HX3
 go_wp2_with fail
 rw[rounds_succ]
 go_wp2_with fail
 (with_reducible refine(C2.out _ _ _ _ _ HX4.out.x).mono ?_)
 rintro e w5 ⟨rfl,x5,k5⟩;have HX5:=Lib.hid (HX4.out.moved x5 k5);have k5:=k4.trans k5;have d5:=HX5.out.x.c1;clear x5 k4 HX4
 go_wp2_with fail
 rw[rounds_succ]
 go_wp2_with fail
 (with_reducible refine(CU.out _ _ _ _ _ HX5.out.x).mono ?_)
 rintro e w6 ⟨rfl,x6,k6⟩;have HX6:=Lib.hid (HX5.out.moved x6 k6).form;have k6:=k5.trans k6;clear x6 k5 HX5
 go_wp2_with fail
 (with_reducible refine(CD.out _ _ _ _ _ _ _ _ _ _ _ HX6.out (by omega)).mono ?_)
 rintro e w7 ⟨rfl,h7,k7⟩;have k8:=(onR_frD (B:=B) k6).trans k7;clear k6 k7 HX6
 go_wp2
 go_ret
 exact⟨rfl,h7,k8⟩
end Go.Proofs.YtlnfbjbagmfpiaaGreatDoor
