/- The document's Print. Rows that are the same: attributes, tokens, Fails. Rows of tokens: appended, of one's own, too big to be looked at. Tokens in memory of their own. -/
import Derived.Test.YtlnfbjbagmfpiaaGreatDoorTokZR
set_option maxRecDepth 100000
set_option maxHeartbeats 16000000
namespace Go.Proofs.YtlnfbjbagmfpiaaGreatDoor
open Go.RowKit
theorem wA_mem {A:List (List UInt8 × List UInt8)}{y:List UInt8 × List UInt8}(h:y∈A):y.1.length+y.2.length+5<=wA A:=by
 induction A with
 | nil=>cases h
 | cons z B ih =>
   simp only[wA,List.map_cons,List.sum_cons]at ih ⊢;rcases List.mem_cons.1 h with rfl | h
   · omega
   · have:=ih h;omega
theorem wA_len (A:List (List UInt8 × List UInt8)):A.length<=wA A:=by
 induction A with
 | nil=>exact Nat.le_refl _
 | cons y B ih =>
   simp only[wA,List.map_cons,List.sum_cons,List.length_cons]at ih ⊢;omega
theorem refStart_hid (k:Int)(N D P:ByteArray)(A:List (List UInt8 × List UInt8))(c:Bool)(hP:P.data.toList=startT ⟨k,N.data.toList,D.data.toList,A,c⟩)(hw:wT ⟨k,N.data.toList,D.data.toList,A,c⟩<=100000):Hid (∀ W av,AtIn W av A->Calls Tryz.prog 125 #[.agg #[.int .i64 k,.string N,.string D,av,.bool c]] W fun e w'=>e=.returned (.string P)/\Below W.heap.size W w'):=Lib.hid fun w av hat=>by
 obtain⟨aa,ac,rfl⟩:=hat.form;obtain⟨Z,hZ⟩:=text_of (60 :: N.data.toList)
 have hNs:N.size+wA A<=100000:=by
  unfold wT at hw;simp only[lsize]at hw;omega
 have hAl:A.length<=100000:=by have:=wA_len A;omega
 have hZs:Z.size=N.size+1:=by rw[<- lsize,hZ,List.length_cons,lsize]
 have a1:=add_to ⟨#[60]⟩ N Z hZ (by show 1+N.size<=_;omega);have al1:=(Below.refl w.heap.size w).alloc (Nat.le_refl _) (.cells #[.int .i64 k,.string N,.string D,.slice aa A.length ac,.bool c] 57);have hbox:=new_block w (.cells #[.int .i64 k,.string N,.string D,.slice aa A.length ac,.bool c] 57);have HAT:=Lib.hid (hat.below al1);have HP:=Lib.hid hP;have HZ:Hid (Z.data.toList++(A.drop 0).flatMap attrT=60 :: N.data.toList++A.flatMap attrT):=Lib.hid (by rw[hZ];rfl);have HW:=Lib.hid hNs;have CE:=fun(V E:ByteArray) (h1:E.data.toList=encT V.data.toList) (h2:V.size<=100000)=>refEncode_hid V E h1 h2;have d1:=cell_of hbox 1;have d3:=cell_of hbox 3;have d4:=cell_of hbox 4;have HB:=Lib.hid (And.intro hbox al1);clear hat hP hZ hw hbox al1 hZs
 go_enter Tryz.func125,Tryz.ntmps125
 go_wp2
 generalize w.alloc (.cells #[.int .i64 k,.string N,.string D,.slice aa A.length ac,.bool c] 57)=w1 at HAT HB d1 d3 d4 ⊢
 go_loopw [3,4] (fun tv j wr=>∃(i n:Nat) (T:ByteArray),j=.int .i64 i/\tv=.string T/\i<=A.length/\wr=w1.drewN n/\Hid (T.data.toList++(A.drop i).flatMap attrT=60 :: N.data.toList++A.flatMap attrT)) (fun _ j _=>A.length - (intOf j).toNat)
 case atStart=>exact⟨0,0,Z,rfl,rfl,Nat.zero_le _,rfl,HZ⟩
 case round =>
  obtain⟨i,n,T,rfl,rfl,hi,rfl,HX⟩:=hrel
  have hTs:T.size<=700000:=by
   have e:=congrArg List.length HX.out;have hb:=attrs_lenT A;have h0:=HW.out;simp only[List.length_append,List.length_cons,lsize]at e;omega
  by_cases hlt:i<A.length
  · obtain⟨g,off,rfl,c0,c1⟩:=HAT.out.at hlt
    obtain⟨X,hX⟩:=text_of A[i].1;obtain⟨V,hV⟩:=text_of A[i].2;rw[strV_of hX]at c0;rw[strV_of hV]at c1;have hmem:=wA_mem (List.getElem_mem hlt);rw[<- hX,<- hV,lsize,lsize]at hmem;have hXV:X.size+V.size<=100000:=by have:=HW.out;omega
    obtain⟨E,hE⟩:=text_of (encT V.data.toList);have hEs:E.size<=600000:=by rw[<- lsize,hE];have:=(encT_len V.data.toList).2;rw[lsize]at this;omega
    obtain⟨S1,hS1⟩:=text_of (T.data.toList++[32]);obtain⟨S2,hS2⟩:=text_of (S1.data.toList++X.data.toList);obtain⟨S3,hS3⟩:=text_of (S2.data.toList++[61,34]);obtain⟨S4,hS4⟩:=text_of (S3.data.toList++E.data.toList);obtain⟨S5,hS5⟩:=text_of (S4.data.toList++[34]);have q1:S1.size=T.size+1:=by rw[<- lsize,hS1,List.length_append,lsize];rfl
    have q2:S2.size=T.size+1+X.size:=by rw[<- lsize,hS2,List.length_append,lsize,lsize,q1]
    have q3:S3.size=T.size+1+X.size+2:=by rw[<- lsize,hS3,List.length_append,lsize,q2];rfl
    have q4:S4.size=T.size+1+X.size+2+E.size:=by rw[<- lsize,hS4,List.length_append,lsize,lsize,q3]
    have s1:=add_to T ⟨#[32]⟩ S1 hS1 (by show T.size+1<=_;omega);have s2:=add_to S1 X S2 hS2 (by omega);have s3:=add_to S2 ⟨#[61,34]⟩ S3 hS3 (by show S2.size+2<=_;omega);have s4:=add_to S3 E S4 hS4 (by omega);have s5:=add_to S4 ⟨#[34]⟩ S5 hS5 (by show S4.size+1<=_;omega);have CEv:=CE V E hE (by omega)
    have HST:Hid (S5.data.toList++(A.drop (i+1)).flatMap attrT=60 :: N.data.toList++A.flatMap attrT):=Lib.hid (by
     rw[<- HX.out,List.drop_eq_getElem_cons hlt,List.flatMap_cons,hS5,hS4,hS3,hS2,hS1,hE,hV,hX];unfold attrT
     simp)
    have zi:(i:Int)<(A.length:Int):=by omega
    clear HX hX hV hmem hE hS1 hS2 hS3 hS4 hS5 q1 q2 q3 q4 hlt
    go_wp2
    go_quiet ((go_at_call 93;exact(CEv.out _).mono fun _ _ h=>⟨h.1,_,h.2⟩))
    go_wp2
    go_roundw
    case rel=>exact⟨i+1,n+nq,S5,by go_num,rfl,by omega,by first | rfl | simp[World.drewN_drewN],HST⟩
    case measure=>simp[intOf];omega
  · obtain rfl:i=A.length:=by omega
    have h4:=HX.out;rw[List.drop_length,List.flatMap_nil,List.append_nil]at h4
    cases c with
    | true =>
      obtain⟨S1,hS1⟩:=text_of (T.data.toList++[47]);have q1:S1.size=T.size+1:=by rw[<- lsize,hS1,List.length_append,lsize];rfl
      have s1:=add_to T ⟨#[47]⟩ S1 hS1 (by show T.size+1<=_;omega);have s2:=add_to S1 ⟨#[62]⟩ P (by rw[HP.out,hS1,h4];unfold startT;simp) (by show S1.size+1<=_;omega);clear hS1 q1 h4 HX
      go_wp2
      go_ret
      exact⟨rfl,belowN HB.out.2 _⟩
    | false =>
      have s2:=add_to T ⟨#[62]⟩ P (by rw[HP.out,h4];unfold startT;simp) (by show T.size+1<=_;omega);clear h4 HX
      go_wp2
      go_ret
      exact⟨rfl,belowN HB.out.2 _⟩
def bAt (L:List Tk):Nat->Option Tk
 | 0=>none
 | j+1=>L[j]?
theorem refPrint_hid (L:List Tk)(P:ByteArray)(hP:P.data.toList=printM L)(hw:wL L<=20000000)(hwt:∀ t∈L,wT t<=100000):Hid (∀ W v,TokIn W v L->Calls Tryz.prog 94 #[v] W fun e w'=>e=.returned (.string P)/\Below W.heap.size W w'):=Lib.hid fun w v hat=>by
 obtain⟨aa,ac,rfl⟩:=hat.form;have hLl:L.length<=20000000:=Nat.le_trans (wL_len L) hw;have HAT:=Lib.hid hat;have HP:=Lib.hid hP;have HW:=Lib.hid hw;have HWT:=Lib.hid hwt;have HPF:=Lib.hid (printF_len none L);clear hat hP hw hwt
 go_enter Tryz.func94,Tryz.ntmps94
 go_wp2
 go_loopw [3,4,5] (fun tv j _ wr=>∃(i:Nat) (T:ByteArray),j=.int .i64 i/\tv=.string T/\i<=L.length/\Hid (Below w.heap.size w wr/\T.data.toList++printF (bAt L i) (L.drop i)=printM L)) (fun _ j _ _=>L.length - (intOf j).toNat)
 case atStart=>exact⟨0,⟨#[]⟩,rfl,rfl,Nat.zero_le _,Lib.hid ⟨Below.refl _ _,rfl⟩⟩
 case round =>
  obtain⟨i,T,rfl,rfl,hi,HX⟩:=hrel;obtain⟨h3,h4⟩:=HX.out;have hws:=h3.size
  have hTs:T.size<=120000000:=by
   have e:=congrArg List.length h4;have h0:=HW.out;have h9:=HPF.out;unfold printM at e;rw[List.length_append,lsize]at e;omega
  by_cases hlt:i<L.length
  · have har:TokIn wr (.slice aa L.length ac) L:=HAT.out.below h3
    have HAR:=Lib.hid har;obtain⟨g,off,av,rfl,c0,c1,c2,c3,c4,c5⟩:=har.at hlt;obtain⟨N,hN⟩:=text_of L[i].n;obtain⟨D,hD⟩:=text_of L[i].d;rw[strV_of hN]at c1;rw[strV_of hD]at c2;obtain⟨at',ac',rfl⟩:=c5.form;have hw0:=HWT.out _ (List.getElem_mem hlt);obtain⟨R,hR⟩:=text_of (T.data.toList++printT (hardM (bAt L i)) L[i])
    have hstep:R.data.toList++printF (bAt L (i+1)) (L.drop (i+1))=printM L:=by
     rw[<- h4,printF_drop L (bAt L i) hlt,hR,List.append_assoc];show _++(_++printF L[i]? _)=_;rw[List.getElem?_eq_getElem hlt]
    have HST:=Lib.hid hstep;obtain⟨hard,hhard⟩:∃ hard,hardM (bAt L i)=hard:=⟨_,rfl⟩;rw[hhard]at hR;obtain⟨t,ht⟩:∃ t,L[i]=t:=⟨_,rfl⟩;rw[ht]at c0 c3 c4 c5 hN hD hw0 hR;clear ht;obtain⟨tk,tn,td,ta,tc⟩:=t;subst hN hD;dsimp only at c0 c3 c4 c5
    have hNDs:N.size+D.size<=100000:=by
     unfold wT at hw0;simp only[lsize]at hw0;omega
    have alr:=(Below.refl wr.heap.size wr).alloc (Nat.le_refl _) (.cells #[.int .i64 tk,.string N,.string D,.slice at' ta.length ac',.bool tc] 57);have hxb:=new_block wr (.cells #[.int .i64 tk,.string N,.string D,.slice at' ta.length ac',.bool tc] 57);have H5:=Lib.hid (And.intro (h3.trans (alr.mono hws)) (c5.below alr));have hz5:w.heap.size<=(wr.alloc (.cells #[.int .i64 tk,.string N,.string D,.slice at' ta.length ac',.bool tc] 57)).heap.size:=Nat.le_trans hws alr.size;have e0:=cell_of hxb 0;have e1:=cell_of hxb 1;have e2:=cell_of hxb 2;have e3:=cell_of hxb 3;have e4:=cell_of hxb 4;have HAL:=Lib.hid alr;have zi:(i:Int)<(L.length:Int):=by omega
    have HRX:=Lib.hid hR;have HNX:Hid (∀ wz,Below w.heap.size w wz->Hid (Below w.heap.size w wz/\R.data.toList++printF (bAt L (i+1)) (L.drop (i+1))=printM L)):=Lib.hid fun wz hz=>Lib.hid ⟨hz,HST.out⟩;clear HX h3 h4 har c5 hstep alr hxb hws
    by_cases k1:tk=1
    · subst k1
      cases i with
      | zero =>
        have hh:hard=false:=hhard.symm;subst hh;have HRQ:=Lib.hid hhard;rw[Nat.zero_mul,Nat.add_zero]at c0 c1 c2 c3 c4;clear hhard hR;obtain⟨E,hE⟩:=text_of (encT D.data.toList);have hEs:E.size<=600000:=by rw[<- lsize,hE];have:=(encT_len D.data.toList).2;rw[lsize]at this;omega
        have CE:=refEncode_hid D E hE (by omega);have s1:=add_to T E R (by rw[HRX.out,hE];rfl) (by omega);clear HRX HRQ hE
        go_wp2_with fail
        (with_reducible refine(CE.out _).mono ?_)
        rintro e w5 ⟨rfl,rfl⟩
        go_wp2
        go_roundw
        case rel=>exact⟨_,R,by go_num,rfl,by omega,HNX.out _ H5.out.1⟩
        case measure=>simp[intOf];omega
      | succ j =>
        obtain⟨g',off',bv,hg',b0,b1,b2,b3,b4,b5⟩:=HAR.out.at (k:=j) (by omega)
        cases hg'
        have hbj:bAt L (j+1)=some L[j]:=List.getElem?_eq_getElem (by omega);rw[hbj,hardM_some]at hhard;obtain⟨PN,hPN⟩:=text_of L[j].n;rw[strV_of hPN]at b1;rw[<- hPN]at hhard;obtain⟨pk,hpk⟩:∃ pk,L[j].k=pk:=⟨_,rfl⟩;rw[hpk]at b0 hhard;have a0:=(HAL.out.cell (lt_of_cell b0)).trans b0;have a1:=(HAL.out.cell (lt_of_cell b1)).trans b1;have zj:(j:Int)<(L.length:Int):=by omega
        have zj0:(0:Int)<(j:Int)+1:=by omega
        have HRQ:=Lib.hid hPN;clear hpk hPN b2 b3 b4 b5 hbj hR
        by_cases p2:pk=2
        · subst p2
          obtain⟨bs,hbs⟩:∃ bs,decide (PN.data.toList=scriptN)=bs:=⟨_,rfl⟩;obtain⟨bt,hbt⟩:∃ bt,decide (PN.data.toList=styleN)=bt:=⟨_,rfl⟩;have gs:(PN.toList==[115,99,114,105,112,116])=bs:=by rw[text_lit];exact hbs
          have gt:(PN.toList==[115,116,121,108,101])=bt:=by rw[text_lit];exact hbt
          rw[hbs,hbt]at hhard;clear hbs hbt
          cases bs with
          | true =>
            have hh:hard=true:=hhard.symm;subst hh;clear hhard;have s1:=add_to T D R (by rw[HRX.out];rfl) (by omega);clear HRX HRQ
            go_wp2
            go_roundw
            case rel=>exact⟨_,R,by go_num,rfl,by omega,HNX.out _ H5.out.1⟩
            case measure=>simp[intOf];omega
          | false =>
            cases bt with
            | true =>
              have hh:hard=true:=hhard.symm;subst hh;clear hhard;have s1:=add_to T D R (by rw[HRX.out];rfl) (by omega);clear HRX HRQ
              go_wp2
              go_roundw
              case rel=>exact⟨_,R,by go_num,rfl,by omega,HNX.out _ H5.out.1⟩
              case measure=>simp[intOf];omega
            | false =>
              have hh:hard=false:=hhard.symm;subst hh;clear hhard;obtain⟨E,hE⟩:=text_of (encT D.data.toList);have hEs:E.size<=600000:=by rw[<- lsize,hE];have:=(encT_len D.data.toList).2;rw[lsize]at this;omega
              have CE:=refEncode_hid D E hE (by omega);have s1:=add_to T E R (by rw[HRX.out,hE];rfl) (by omega);clear HRX HRQ hE
              go_wp2_with fail
              (with_reducible refine(CE.out _).mono ?_)
              rintro e w5 ⟨rfl,rfl⟩
              go_wp2
              go_roundw
              case rel=>exact⟨_,R,by go_num,rfl,by omega,HNX.out _ H5.out.1⟩
              case measure=>simp[intOf];omega
        · have gk:(pk==2)=false:=beq_eq_false_iff_ne.2 p2
          have hh:hard=false:=by rw[<- hhard,decide_eq_false p2];rfl
          subst hh;clear hhard p2;obtain⟨E,hE⟩:=text_of (encT D.data.toList);have hEs:E.size<=600000:=by rw[<- lsize,hE];have:=(encT_len D.data.toList).2;rw[lsize]at this;omega
          have CE:=refEncode_hid D E hE (by omega);have s1:=add_to T E R (by rw[HRX.out,hE];rfl) (by omega);clear HRX HRQ hE
          go_wp2_with fail
          (with_reducible refine(CE.out _).mono ?_)
          rintro e w5 ⟨rfl,rfl⟩
          go_wp2
          go_roundw
          case rel=>exact⟨_,R,by go_num,rfl,by omega,HNX.out _ H5.out.1⟩
          case measure=>simp[intOf];omega
    · have n1:(tk==1)=false:=beq_eq_false_iff_ne.2 k1
      by_cases k2:tk=2
      · subst k2
        obtain⟨E,hE⟩:=text_of (startT ⟨2,N.data.toList,D.data.toList,ta,tc⟩)
        have hEs:E.size<=600000:=by
         rw[<- lsize,hE];have:=printT_len false ⟨2,N.data.toList,D.data.toList,ta,tc⟩;unfold printT at this;rw[if_neg (show ¬ ((2:Int)=1) by decide),if_pos rfl]at this;omega
        have CE:=refStart_hid 2 N D E ta tc hE hw0;have s1:=add_to T E R (by rw[HRX.out,hE];rfl) (by omega);clear hE hw0 hR HRX k1
        go_wp2_with fail
        (with_reducible refine(CE.out _ _ H5.out.2).mono ?_)
        rintro e w5 ⟨rfl,b5⟩;have H6:=Lib.hid (H5.out.1.trans (b5.mono hz5));clear b5 H5
        go_wp2
        go_roundw
        case rel=>exact⟨_,R,by go_num,rfl,by omega,HNX.out _ H6.out⟩
        case measure=>simp[intOf];omega
      · have n2:(tk==2)=false:=beq_eq_false_iff_ne.2 k2
        by_cases k3:tk=3
        · subst k3
          obtain⟨S1,hS1⟩:=text_of (T.data.toList++(⟨#[60,47]⟩:ByteArray).data.toList);have z1:(⟨#[60,47]⟩:ByteArray).size<=10:=by decide
          have z2:(⟨#[62]⟩:ByteArray).size<=10:=by decide
          have q1:S1.size=T.size+(⟨#[60,47]⟩:ByteArray).size:=by rw[<- lsize,hS1,List.length_append,lsize,lsize]
          obtain⟨S2,hS2⟩:=text_of (S1.data.toList++N.data.toList);have q2:S2.size=S1.size+N.size:=by rw[<- lsize,hS2,List.length_append,lsize,lsize]
          have s1:=add_to T ⟨#[60,47]⟩ S1 hS1 (by omega);have s2:=add_to S1 N S2 hS2 (by omega);have s3:=add_to S2 ⟨#[62]⟩ R (by rw[HRX.out,hS2,hS1,List.append_assoc,List.append_assoc];rfl) (by omega);clear hS1 hS2 q1 q2 z1 z2;clear hR HRX
          go_wp2
          go_roundw
          case rel=>exact⟨_,R,by go_num,rfl,by omega,HNX.out _ H5.out.1⟩
          case measure=>simp[intOf];omega
        · have n3:(tk==3)=false:=beq_eq_false_iff_ne.2 k3
          by_cases k4:tk=4
          · subst k4
            obtain⟨S1,hS1⟩:=text_of (T.data.toList++(⟨#[60,33,45,45]⟩:ByteArray).data.toList);have z1:(⟨#[60,33,45,45]⟩:ByteArray).size<=10:=by decide
            have z2:(⟨#[45,45,62]⟩:ByteArray).size<=10:=by decide
            have q1:S1.size=T.size+(⟨#[60,33,45,45]⟩:ByteArray).size:=by rw[<- lsize,hS1,List.length_append,lsize,lsize]
            obtain⟨S2,hS2⟩:=text_of (S1.data.toList++D.data.toList);have q2:S2.size=S1.size+D.size:=by rw[<- lsize,hS2,List.length_append,lsize,lsize]
            have s1:=add_to T ⟨#[60,33,45,45]⟩ S1 hS1 (by omega);have s2:=add_to S1 D S2 hS2 (by omega);have s3:=add_to S2 ⟨#[45,45,62]⟩ R (by rw[HRX.out,hS2,hS1,List.append_assoc,List.append_assoc];rfl) (by omega);clear hS1 hS2 q1 q2 z1 z2;clear hR HRX
            go_wp2
            go_roundw
            case rel=>exact⟨_,R,by go_num,rfl,by omega,HNX.out _ H5.out.1⟩
            case measure=>simp[intOf];omega
          · have n4:(tk==4)=false:=beq_eq_false_iff_ne.2 k4
            by_cases k5:tk=5
            · subst k5
              obtain⟨S1,hS1⟩:=text_of (T.data.toList++(⟨#[60,33,100,111,99,116,121,112,101,32]⟩:ByteArray).data.toList);have z1:(⟨#[60,33,100,111,99,116,121,112,101,32]⟩:ByteArray).size<=10:=by decide
              have z2:(⟨#[62]⟩:ByteArray).size<=10:=by decide
              have q1:S1.size=T.size+(⟨#[60,33,100,111,99,116,121,112,101,32]⟩:ByteArray).size:=by rw[<- lsize,hS1,List.length_append,lsize,lsize]
              obtain⟨S2,hS2⟩:=text_of (S1.data.toList++D.data.toList);have q2:S2.size=S1.size+D.size:=by rw[<- lsize,hS2,List.length_append,lsize,lsize]
              have s1:=add_to T ⟨#[60,33,100,111,99,116,121,112,101,32]⟩ S1 hS1 (by omega);have s2:=add_to S1 D S2 hS2 (by omega);have s3:=add_to S2 ⟨#[62]⟩ R (by rw[HRX.out,hS2,hS1,List.append_assoc,List.append_assoc];rfl) (by omega);clear hS1 hS2 q1 q2 z1 z2;clear hR HRX
              go_wp2
              go_roundw
              case rel=>exact⟨_,R,by go_num,rfl,by omega,HNX.out _ H5.out.1⟩
              case measure=>simp[intOf];omega
            · have n5:(tk==5)=false:=beq_eq_false_iff_ne.2 k5
              have hRT:R=T:=by
               refine(text_is (T:=R) (l:=T.data.toList) ?_).trans (text_is (T:=T) rfl).symm;rw[hR];unfold printT;rw[if_neg k1,if_neg k2,if_neg k3,if_neg k4,if_neg k5];exact List.append_nil _
              subst hRT;clear hR HRX k1 k2 k3 k4 k5
              go_wp2
              go_roundw
              case rel=>exact⟨_,R,by go_num,rfl,by omega,HNX.out _ H5.out.1⟩
              case measure=>simp[intOf];omega
  · obtain rfl:i=L.length:=by omega
    rw[List.drop_length]at h4;have h4':T.data.toList=printM L:=by rw[<- h4];exact(List.append_nil _).symm
    obtain rfl:T=P:=by rw[text_is h4',<- HP.out,<- text_is (T:=P) rfl]
    have HB:=Lib.hid h3;clear HX h3 h4 h4'
    go_wp2
    go_ret
    exact⟨rfl,HB.out⟩
end Go.Proofs.YtlnfbjbagmfpiaaGreatDoor
namespace Go.Proofs.YtlnfbjbagmfpiaaGreatDoor
open Go.RowKit
def FailIn (w:World)(v:Value)(F:List Fl):Prop:=RowIn w v F.length 2 (flC F)
theorem flC_one (F:List Fl):∀ v∈flC F,v.oneCell'=true:=fun v hv=>by
 unfold flC at hv;rw[List.mem_flatMap]at hv;obtain⟨y,_,hy⟩:=hv;simp at hy;rcases hy with rfl | rfl<;>rfl
theorem flC_at:∀(F:List Fl) (i:Nat) (h:i<F.length),(flC F)[i * 2]? = some (.int .i64 F[i].1)/\(flC F)[i * 2+1]? = some (.int .i64 (F[i].2:Int))
 | y :: r,0,_=>⟨rfl,rfl⟩
 | y :: r,i+1,h=>by
   have:=flC_at r i (by simpa using h);rw[show flC (y :: r)=[.int .i64 y.1,.int .i64 (y.2:Int)]++flC r from rfl];rw[List.getElem?_append_right (by simp;omega),List.getElem?_append_right (by simp;omega)];simp only[List.length_cons,List.length_nil,List.getElem_cons_succ];rw[show(i+1) * 2 - (0+1+1)=i * 2 by omega,show(i+1) * 2+1 - (0+1+1)=i * 2+1 by omega];exact this
theorem FailIn.of {w:World}{base:Nat}{v:Value}{F:List Fl}(h:w.ownsRow base 93 2 v F.length (flC F)):FailIn w v F:=RowIn.of_own h (flC_one F)
theorem FailIn.below {w w':World}{v:Value}{F:List Fl}(h:FailIn w v F)(hb:Below w.heap.size w w'):FailIn w' v F:=RowIn.below h hb
theorem FailIn.form {w:World}{v:Value}{F:List Fl}(h:FailIn w v F):∃ a c,v=.slice a F.length c:=RowIn.form h
theorem FailIn.at {w:World}{a:Option Addr}{c:Nat}{F:List Fl}(h:FailIn w (.slice a F.length c) F){k:Nat}(hk:k<F.length):∃ B off,a=some ⟨B,off,none⟩/\w.cell? ⟨B,off+k * 2,none⟩=some (.int .i64 F[k].1)/\w.cell? ⟨B,off+k * 2+1,none⟩=some (.int .i64 (F[k].2:Int)):=by
 obtain⟨e1,e2⟩:=flC_at F k hk;obtain⟨B,off,h1,h2⟩:=RowIn.at h hk (j:=0) e1;obtain⟨B',off',h1',h2'⟩:=RowIn.at h hk (j:=1) e2;rw[h1]at h1'
 cases h1'
 exact⟨B,off,h1,h2,by rw[Nat.add_assoc];exact h2'⟩
theorem failsG_hid (F:List Fl)(hl:F.length<=100000000):Hid (∀ W u v,FailIn W u F->FailIn W v F->Calls Tryz.prog 18 #[u,v] W fun e w'=>e=.returned (.bool true)/\Below W.heap.size W w'):=Lib.hid fun w u v hu hv=>by
 obtain⟨a0,q0,rfl⟩:=hu.form;obtain⟨a1,q1,rfl⟩:=hv.form;have HU:=Lib.hid hu;have HV:=Lib.hid hv;have g0:((F.length:Int) != (F.length:Int))=false:=by simp
 clear hu hv
 go_enter Tryz.func18,Tryz.ntmps18
 go_wp2
 go_loopw [5] (fun i wr=>∃ k n:Nat,i=.int .i64 k/\k<=F.length/\wr=w.drewN n) (fun i _=>F.length - (intOf i).toNat)
 case atStart=>exact⟨0,0,rfl,Nat.zero_le _,rfl⟩
 case round =>
  obtain⟨k,n,rfl,hk,rfl⟩:=hrel
  by_cases hlt:k<F.length
  · obtain⟨B,off,rfl,c1,c2⟩:=HU.out.at hlt
    obtain⟨B',off',rfl,d1,d2⟩:=HV.out.at hlt;have hix:(k:Int)<(F.length:Int):=by omega
    generalize(F[k].2:Int)=x at *;generalize F[k].1=y at *;have g:(x != x)=false:=by simp
    have g':(y != y)=false:=by simp
    go_wp2_with fail
    go_quiet (fail)
    go_wp2
    go_roundw
    case rel=>exact⟨k+1,n+nq,by go_num,by omega,rfl⟩
    case measure=>simp[intOf];omega
  · obtain rfl:k=F.length:=by omega
    go_wp2
    go_ret
    exact⟨rfl,belowN (Below.refl _ _) _⟩
theorem oneG_hid (k:Int)(N D:ByteArray)(A:List (List UInt8 × List UInt8))(c:Bool)(hl:A.length<=100000000):Hid (∀ W u v,AtIn W u A->AtIn W v A->Calls Tryz.prog 54 #[.agg #[.int .i64 k,.string N,.string D,u,.bool c],.agg #[.int .i64 k,.string N,.string D,v,.bool c]] W fun e w'=>e=.returned (.bool true)/\Below W.heap.size W w'):=Lib.hid fun w u v hu hv=>by
 obtain⟨a0,q0,rfl⟩:=hu.form;obtain⟨a1,q1,rfl⟩:=hv.form;have al1:=(Below.refl w.heap.size w).alloc (Nat.le_refl _) (.cells #[.int .i64 k,.string N,.string D,.slice a0 A.length q0,.bool c] 57);have hb1:=new_block w (.cells #[.int .i64 k,.string N,.string D,.slice a0 A.length q0,.bool c] 57);have hs1:(w.alloc (.cells #[.int .i64 k,.string N,.string D,.slice a0 A.length q0,.bool c] 57)).heap.size=w.heap.size+1:=by simp
 generalize hw1:w.alloc (.cells #[.int .i64 k,.string N,.string D,.slice a0 A.length q0,.bool c] 57)=w1 at al1 hb1 hs1;have al2:=(Below.refl w1.heap.size w1).alloc (Nat.le_refl _) (.cells #[.int .i64 k,.string N,.string D,.slice a1 A.length q1,.bool c] 57);have hb2:=new_block w1 (.cells #[.int .i64 k,.string N,.string D,.slice a1 A.length q1,.bool c] 57);have hb1':=(al2.block _ (lt_of_block hb1)).trans hb1;have hbel:=al1.trans (al2.mono (by omega));rw[hs1]at hb2;have HB:=Lib.hid (And.intro hbel (And.intro (hu.below hbel) (hv.below hbel)));have CA:=attrsG_hid A hl;have e0:=cell_of hb1' 0;have e1:=cell_of hb1' 1;have e2:=cell_of hb1' 2;have e3:=cell_of hb1' 3;have e4:=cell_of hb1' 4;have f0:=cell_of hb2 0;have f1:=cell_of hb2 1;have f2:=cell_of hb2 2;have f3:=cell_of hb2 3;have f4:=cell_of hb2 4;have g1:(k==k)=true:=by simp
 have g2:(N.toList==N.toList)=true:=by simp
 have g3:(D.toList==D.toList)=true:=by simp
 have g4:(c==c)=true:=by simp
 subst hw1;clear hu hv al1 al2 hb1 hb2 hb1' hbel hs1
 go_enter Tryz.func54,Tryz.ntmps54
 go_wp2_with fail
 (with_reducible refine(CA.out _ _ _ HB.out.2.1 HB.out.2.2).mono ?_)
 rintro e w3 ⟨rfl,b3⟩;have b4:=HB.out.1.trans (b3.mono HB.out.1.size);clear b3 HB CA
 go_wp2
 go_ret
 exact⟨rfl,b4⟩
theorem sameG_hid (L:List Tk)(hl:L.length<=100000000)(ha:∀ t∈L,t.a.length<=100000000):Hid (∀ W u v,TokIn W u L->TokIn W v L->Calls Tryz.prog 20 #[u,v] W fun e w'=>e=.returned (.bool true)/\Below W.heap.size W w'):=Lib.hid fun w u v hu hv=>by
 obtain⟨a0,q0,rfl⟩:=hu.form;obtain⟨a1,q1,rfl⟩:=hv.form;have HU:=Lib.hid hu;have HV:=Lib.hid hv;have HA:=Lib.hid ha;have g0:((L.length:Int) != (L.length:Int))=false:=by simp
 clear hu hv ha
 go_enter Tryz.func20,Tryz.ntmps20
 go_wp2
 go_loopw [5] (fun i wr=>∃ k:Nat,i=.int .i64 k/\k<=L.length/\Hid (Below w.heap.size w wr)) (fun i _=>L.length - (intOf i).toNat)
 case atStart=>exact⟨0,rfl,Nat.zero_le _,Lib.hid (Below.refl _ _)⟩
 case round =>
  obtain⟨k,rfl,hk,HB⟩:=hrel
  by_cases hlt:k<L.length
  · obtain⟨B,off,av,rfl,c0,c1,c2,c3,c4,c5⟩:=(HU.out.below HB.out).at hlt
    obtain⟨B',off',bv,rfl,d0,d1,d2,d3,d4,d5⟩:=(HV.out.below HB.out).at hlt;obtain⟨X,hX⟩:=text_of L[k].n;obtain⟨V,hV⟩:=text_of L[k].d;rw[strV_of hX]at c1 d1;rw[strV_of hV]at c2 d2;obtain⟨x0,y0,rfl⟩:=c5.form;obtain⟨x1,y1,rfl⟩:=d5.form;have hix:(k:Int)<(L.length:Int):=by omega
    have CO:=oneG_hid L[k].k X V L[k].a L[k].c (HA.out _ (List.getElem_mem hlt));have hbd:Below wr.heap.size wr wr.drew:=(Below.refl _ _).drew;have CC:=Lib.hid (CO.out wr.drew _ _ (c5.below hbd) (d5.below hbd));generalize L[k].k=tk at *;generalize L[k].c=tc at *;generalize L[k].a=ta at *;clear hX hV CO hbd c5 d5
    go_wp2_with fail
    go_region_law (go_simp
                   go_at_call 54
                   (with_reducible refine CC.out.mono ?_)
                   rintro e w3 ⟨rfl,b3⟩;have H3:=Lib.hid (HB.out.trans (((Below.refl _ _).drew.trans b3).mono HB.out.size))
                   clear b3)
    all_goals
     clear CC c0 c1 c2 c3 c4 d0 d1 d2 d3 d4 HB
     go_wp2
     go_roundw
     case rel=>exact⟨k+1,by go_num,by omega,H3⟩
     case measure=>simp[intOf];omega
  · obtain rfl:k=L.length:=by omega
    go_wp2
    go_ret
    exact⟨rfl,HB.out⟩
end Go.Proofs.YtlnfbjbagmfpiaaGreatDoor
namespace Go.Proofs.YtlnfbjbagmfpiaaGreatDoor
open Go.RowKit
def FitK (t:Tk):Prop:=t.n.length<=300/\t.d.length<=2000/\t.a.length<=50/\∀ y∈t.a,y.1.length<=300/\y.2.length<=1000
def FitL (L:List Tk):Prop:=L.length<=100/\∀ t∈L,FitK t
def BigP (L:List Tk)(W:World)(e:Ending)(w':World):Prop:=∃ b,e=.returned (.bool b)/\w'=W/\(b=false->FitL L)
theorem bigT_any (L:List Tk)(v:Value)(w:World)(hv:TokIn w v L)(hl:L.length<=9223372036854775807)(hal:∀ t∈L,t.a.length<=9223372036854775807):Calls Tryz.prog 21 #[v] w (BigP L w):=by
 obtain⟨a,c,rfl⟩:=hv.form
 by_cases h100:(100:Int)<(L.length:Int)
 · clear hv
   go_enter Tryz.func21,Tryz.ntmps21
   go_wp2
   go_ret
   exact⟨true,rfl,rfl,fun h=>by cases h⟩
 have HV:=Lib.hid hv;have HAL:=Lib.hid hal;clear hv hal
 go_enter Tryz.func21,Tryz.ntmps21
 go_wp2
 go_loop [3,4] (fun i _=>∃ k:Nat,k<=L.length/\i=.int .i64 k/\Hid (∀ j,(h:j<L.length)->j<k->FitK L[j])) (fun i _=>L.length - (intOf i).toNat)
 case atStart=>exact⟨0,Nat.zero_le _,rfl,Lib.hid fun j _ h=>absurd h (Nat.not_lt_zero _)⟩
 case round =>
  obtain⟨k,hk,rfl,HS⟩:=hrel
  by_cases hlt:k<L.length
  case neg =>
   obtain rfl:k=L.length:=by omega
   have HE:Hid (FitL L):=Lib.hid ⟨by omega,fun x hx=>by obtain⟨j,hj,rfl⟩:=List.getElem_of_mem hx;exact HS.out j hj hj⟩;clear HS HV
   go_wp2
   go_ret
   exact⟨false,rfl,rfl,fun _=>HE.out⟩
  obtain⟨g,off,av,rfl,c0,c1,c2,c3,c4,c5⟩:=HV.out.at hlt;obtain⟨N,hN⟩:=text_of L[k].n;obtain⟨D,hD⟩:=text_of L[k].d;rw[strV_of hN]at c1;rw[strV_of hD]at c2;obtain⟨at',ac',rfl⟩:=c5.form;have hta:=HAL.out _ (List.getElem_mem hlt)
  have HNX:Hid (FitK L[k]->∀ j,(h:j<L.length)->j<k+1->FitK L[j]):=Lib.hid fun h1 j hj hjk=>by
   by_cases e:j=k
   · subst e;exact h1
   · exact HS.out j hj (by omega)
  have HFK:Hid (N.size<=300->D.size<=2000->L[k].a.length<=50->(∀ y∈L[k].a,y.1.length<=300/\y.2.length<=1000)->FitK L[k]):=Lib.hid fun h1 h2 h3 h4=>⟨by rw[<- hN,lsize];exact h1,by rw[<- hD,lsize];exact h2,h3,h4⟩;have C5:=Lib.hid c5;obtain⟨A,hAe⟩:∃ A,L[k].a=A:=⟨_,rfl⟩;rw[hAe]at HFK C5 hta c3;have zk:(k:Int)<(L.length:Int):=by omega
  clear hN hD c5 c0 c4 HS hAe
  by_cases z1:(300:Int)<(N.size:Int)
  · go_wp2
    go_ret
    exact⟨true,rfl,rfl,fun h=>by cases h⟩
  by_cases z2:(2000:Int)<(D.size:Int)
  · go_wp2
    go_ret
    exact⟨true,rfl,rfl,fun h=>by cases h⟩
  by_cases z3:(50:Int)<(A.length:Int)
  · go_wp2
    go_ret
    exact⟨true,rfl,rfl,fun h=>by cases h⟩
  have HM:=Lib.hid (HFK.out (by omega) (by omega) (by omega));clear HFK
  go_wp2
  go_loop [4] (fun j=>∃ q:Nat,q<=A.length/\j=.int .i64 q/\Hid (∀ u,(h:u<A.length)->u<q->A[u].1.length<=300/\A[u].2.length<=1000)) (fun j=>A.length - (intOf j).toNat)
  case atStart=>exact⟨0,Nat.zero_le _,rfl,Lib.hid fun j _ h=>absurd h (Nat.not_lt_zero _)⟩
  case round =>
   obtain⟨q,hq,rfl,HQ⟩:=hrel
   by_cases hltq:q<A.length
   · obtain⟨g2,off2,rfl,b0,b1⟩:=C5.out.at hltq
     obtain⟨X,hX⟩:=text_of A[q].1;obtain⟨V,hV⟩:=text_of A[q].2;rw[strV_of hX]at b0;rw[strV_of hV]at b1
     have HQ2:Hid (X.size<=300->V.size<=1000->∀ u,(h:u<A.length)->u<q+1->A[u].1.length<=300/\A[u].2.length<=1000):=Lib.hid fun h1 h2 u hu huq=>by
      by_cases e:u=q
      · subst e
        exact⟨by rw[<- hX,lsize];exact h1,by rw[<- hV,lsize];exact h2⟩
      · exact HQ.out u hu (by omega)
     have zq:(q:Int)<(A.length:Int):=by omega
     clear hX hV HQ
     by_cases y1:(300:Int)<(X.size:Int)
     · go_wp2
       go_ret
       exact⟨true,rfl,rfl,fun h=>by cases h⟩
     by_cases y2:(1000:Int)<(V.size:Int)
     · go_wp2
       go_ret
       exact⟨true,rfl,rfl,fun h=>by cases h⟩
     have HQ3:=Lib.hid (HQ2.out (by omega) (by omega));clear HQ2
     go_wp2
     go_round
     case rel=>exact⟨q+1,by omega,by go_num,HQ3⟩
     case measure=>simp[intOf];omega
   · obtain rfl:q=A.length:=by omega
     have HN2:=Lib.hid (HNX.out (HM.out fun y hy=>by obtain⟨u,hu,rfl⟩:=List.getElem_of_mem hy;exact HQ.out u hu hu));clear HQ HM HNX
     go_wp2
     go_round
     case rel=>exact⟨k+1,by omega,by go_num,HN2⟩
     case measure=>simp[intOf];omega
end Go.Proofs.YtlnfbjbagmfpiaaGreatDoor
namespace Go.Proofs.YtlnfbjbagmfpiaaGreatDoor
open Go.RowKit
theorem own_hid (L:List Tk)(hL:FitL L):Hid (∀ W v,TokIn W v L->Calls Tryz.prog 14 #[v] W fun e w'=>∃ ov,e=.returned ov/\OwnT w' W.heap.size w'.heap.size ov L/\Below W.heap.size W w'):=Lib.hid fun w v hv=>by
 obtain⟨a,c,rfl⟩:=hv.form;obtain⟨i0,hi0,hz0,hz1,hz2⟩:=info_parts TinfoT;obtain⟨i1,hi1,hy0,hy1,hy2⟩:=info_parts TinfoA;have HV:=Lib.hid hv;have HF:=Lib.hid hL.2;have hl:=hL.1;clear hv hL
 go_enter Tryz.func14,Tryz.ntmps14
 go_wp2
 go_loopw [3,4,5,6] (fun ov i _ _ wr=>∃(k m:Nat) (oa:Option Addr) (oc:Nat),k<=L.length/\i=.int .i64 k/\ov=.slice oa k oc/\Hid (OwnT wr w.heap.size m (.slice oa k oc) (L.take k)/\Below w.heap.size w wr/\m<=wr.heap.size)) (fun _ i _ _ _=>L.length - (intOf i).toNat)
 case atStart=>exact⟨0,w.heap.size,none,0,Nat.zero_le _,rfl,rfl,Lib.hid ⟨OwnT.nil _ _ _,Below.refl _ _,Nat.le_refl _⟩⟩
 case round =>
  obtain⟨k,m,oa,oc,hk,rfl,rfl,HX⟩:=hrel;obtain⟨h1,h2,h3⟩:=HX.out
  by_cases hlt:k<L.length
  · obtain⟨g,off,av,rfl,c0,c1,c2,c3,c4,c5⟩:=(HV.out.below h2).at hlt
    obtain⟨N,hN⟩:=text_of L[k].n;obtain⟨D,hD⟩:=text_of L[k].d;rw[strV_of hN]at c1;rw[strV_of hD]at c2;obtain⟨at',ac',rfl⟩:=c5.form;have hA50:=(HF.out _ (List.getElem_mem hlt)).2.2.1;have htake:L.take (k+1)=L.take k++[L[k]]:=List.take_succ_eq_append_getElem hlt;have HTK:=Lib.hid htake;obtain⟨t,ht⟩:∃ t,L[k]=t:=⟨_,rfl⟩;rw[ht]at c0 c3 c4 c5 hN hD hA50 HTK;clear ht htake;obtain⟨tk,tn,td,ta,tc⟩:=t;subst hN hD;dsimp only at c0 c3 c4 c5 hA50;have alr:=(Below.refl wr.heap.size wr).alloc (Nat.le_refl _) (.cells #[.int .i64 tk,.string N,.string D,.slice at' ta.length ac',.bool tc] 57);have hxb:=new_block wr (.cells #[.int .i64 tk,.string N,.string D,.slice at' ta.length ac',.bool tc] 57);have hws:=h2.size;have hlk:(L.take k).length=k:=by rw[List.length_take];omega
    have H5:=Lib.hid (And.intro (h1.kp (Kp.of_below alr (P:=fun _ _=>False)) (fun _ _ _ e=>e) fun _ _ _ e=>e) (And.intro (h2.trans (alr.mono hws)) (And.intro hxb (c5.below alr))));have hz5:w.heap.size<=(wr.alloc (.cells #[.int .i64 tk,.string N,.string D,.slice at' ta.length ac',.bool tc] 57)).heap.size:=Nat.le_trans hws alr.size;have hXb:wr.heap.size<(wr.alloc (.cells #[.int .i64 tk,.string N,.string D,.slice at' ta.length ac',.bool tc] 57)).heap.size:=lt_of_block hxb;have e3:=cell_of hxb 3;have zk:(k:Int)<(L.length:Int):=by omega
    clear HX h1 h2 c5 alr hxb
    go_wp2_with (
     at_builtin
     first
     | (
       refine wpList_append_rowG rfl _ _ 36 41 i1 (.agg #[.string ⟨#[]⟩,.string ⟨#[]⟩]) 2 32 Tryz.underlying36 hi1 hy0 hy1 hy2 rfl (by decide) rfl w.heap.size (.slice none 0 0) 0 [] rfl (World.ownsRow_nil _ _ _ _) _ ta.length (atC ta) rfl H5.out.2.2.2 (by unfold maxLen;omega) (by omega) hz5 ?_;intro v6 w6 hown6 hgrow6 hat6;rw[Nat.zero_add,List.nil_append]at hown6;have k6:Kp (fun _ _=>False) (wr.alloc (.cells #[.int .i64 tk,.string N,.string D,.slice at' ta.length ac',.bool tc] 57)) w6:=Kp.of_grown hgrow6 (fun q c t fr hq _=>by cases hq) fun q hq=>by cases hq
       have hs6:=k6.size;have hx6:=k6.cells H5.out.2.2.1 (fun e=>e);have ho6:=H5.out.1.kp k6 (fun _ _ _ e=>e) fun _ _ _ e=>e;have hb6:=H5.out.2.1.trans (k6.below (fun _ _ e=>e.elim) hz5);have k7:Kp (fun j _=>j=wr.heap.size) w6 (w6.setCell ⟨wr.heap.size,3,none⟩ v6):=Kp.of_set hx6 v6 rfl;have hx7:=heap_setCell_same w6 wr.heap.size 3 _ _ _ v6 hx6;have hsz7:(w6.setCell ⟨wr.heap.size,3,none⟩ v6).heap.size=w6.heap.size:=by simp[World.setCell]
       have ho7:=ho6.kp k7 (fun j _ hj e=>by omega) fun j hj _ e=>by
        obtain⟨_,_,t2,_⟩:=ho6;have:=t2 j hj;omega
       have hb7:=hb6.trans (k7.below (fun j _ e=>by rw[e];exact hws) (Nat.le_trans hz5 hs6));have ha7:AttrsBy (w6.setCell ⟨wr.heap.size,3,none⟩ v6) w.heap.size (w6.setCell ⟨wr.heap.size,3,none⟩ v6).heap.size v6 ta:=⟨k7.row hown6 fun j hj _ e=>row_ne hown6 hx6 (by decide) (by rw[hj,e]),fun j hj=>by rw[hsz7];exact(hown6.lt j hj).2⟩;have e63:=cell_of hx6 3;have f63:=open_of hx6 3;have e70:=cell_of hx7 0;have e71:=cell_of hx7 1;have e72:=cell_of hx7 2;have e73:=cell_of hx7 3;have e74:=cell_of hx7 4;have e60:=cell_of hx6 0;have e61:=cell_of hx6 1;have e62:=cell_of hx6 2;have e64:=cell_of hx6 4;have H7:=Lib.hid (And.intro ho7 (And.intro hb7 (And.intro ha7 hsz7)));have hXb6:wr.heap.size<w6.heap.size:=Nat.lt_of_lt_of_le hXb hs6
       have HF6:Hid (∃ a k,v6=.slice a ta.length k):=Lib.hid (by
        rcases rowForms hown6 with ⟨e1,e2⟩ | ⟨g,k,e1⟩
        · exact⟨none,0,by rw[e1,e2]⟩
        · exact⟨_,_,e1⟩)
       clear hown6 hgrow6 hat6 k6 hs6 hx6 ho6 hb6 k7 hx7 hsz7 ho7 hb7 ha7 H5 e3;obtain⟨va,vk,rfl⟩:=HF6.out;clear HF6
       )
     | (
       obtain⟨cs,t1,t2,t3⟩:=H7.out.1;rw[hlk]at t1
       refine wpList_append_own_at _ rfl _ _ 25 rfl w.heap.size 57 i0 (.agg #[.int .i64 0,.string ⟨#[]⟩,.string ⟨#[]⟩,.slice none 0 0,.bool false]) 5 72 Tryz.underlying25 hi0 hz0 hz1 hz2 rfl (by decide) _ _ _ rfl (t1.alloc _) ⟨w6.heap.size,0,none⟩ 1 1 [.int .i64 tk,.string N,.string D,.slice va ta.length vk,.bool tc] rfl rfl (by
        have h9:=cells_new (w6.setCell ⟨wr.heap.size,3,none⟩ (.slice va ta.length vk)) [.int .i64 tk,.string N,.string D,.slice va ta.length vk,.bool tc] 57;rw[H7.out.2.2.2]at h9
        exact h9) (fun x hx=>by simp at hx;rcases hx with rfl | rfl | rfl | rfl | rfl<;>rfl) (by unfold maxLen;omega) (by omega) (Nat.le_trans H7.out.2.1.size ((Below.refl _ _).alloc (Nat.le_refl _) _).size) ?_
       intro v8 w8 hown8 hgrow8 _ hat8;have alq:=(Below.refl (w6.setCell ⟨wr.heap.size,3,none⟩ (.slice va ta.length vk)).heap.size (w6.setCell ⟨wr.heap.size,3,none⟩ (.slice va ta.length vk))).alloc (Nat.le_refl _) (.cells #[.int .i64 tk,.string N,.string D,.slice va ta.length vk,.bool tc] 57);have t3':=(t3.up (m':=(w6.setCell ⟨wr.heap.size,3,none⟩ (.slice va ta.length vk)).heap.size) (by rw[H7.out.2.2.2];omega)).kp (Kp.of_below alq (P:=fun _ _=>False)) (fun _ _ _ e=>e);have ha':AttrsBy _ w.heap.size (w6.setCell ⟨wr.heap.size,3,none⟩ (.slice va ta.length vk)).heap.size (.slice va ta.length vk) ta:=H7.out.2.2.1.below alq
       have ho8:OwnT w8 w.heap.size w8.heap.size v8 (L.take k++[⟨tk,N.data.toList,D.data.toList,ta,tc⟩]):=by
        refine OwnT.grow t3' ha' alq.size (by rw[hlk];exact t1.alloc _) ?_ hgrow8
        have e:tkC ⟨tk,N.data.toList,D.data.toList,ta,tc⟩ (.slice va ta.length vk)=[.int .i64 tk,.string N,.string D,.slice va ta.length vk,.bool tc]:=by
         unfold tkC;rw[strV_of (T:=N) rfl,strV_of (T:=D) rfl]
        rw[e,hlk];exact hown8
       have k8:Kp (fun j _=>(Value.slice oa k oc).ownBlock=some j) (w6.setCell ⟨wr.heap.size,3,none⟩ (.slice va ta.length vk)) w8:=(Kp.of_below alq).trans (Kp.of_grown hgrow8 (fun q c t fr hq _=>hq) fun q hq=>by
        obtain⟨cur,h1,_⟩:=row_block (t1.alloc (.cells #[.int .i64 tk,.string N,.string D,.slice va ta.length vk,.bool tc] 57)) hq
        exact⟨_,_,_,h1⟩)
       have hb8:=H7.out.2.1.trans (k8.below (fun j _ e=>(t1.lt j e).1) H7.out.2.1.size);have H8:=Lib.hid (And.intro ho8 hb8)
       have HF8:Hid (∃ a q,v8=.slice a (k+1) q):=Lib.hid (by
        rcases rowForms hown8 with ⟨e1,e2⟩ | ⟨g,q,e1⟩
        · exact⟨none,0,by rw[e1,e2]⟩
        · exact⟨_,_,e1⟩)
       clear hown8 hgrow8 hat8 alq t3' ha' ho8 k8 hb8 t1 t2 t3;obtain⟨xa,xk,rfl⟩:=HF8.out
       clear HF8))
    go_roundw
    case rel=>exact⟨k+1,w8.heap.size,xa,xk,by omega,by go_num,by first | rfl | simp,Lib.hid ⟨by rw[HTK.out];exact H8.out.1,H8.out.2,Nat.le_refl _⟩⟩
    case measure=>simp[intOf];omega
  · obtain rfl:k=L.length:=by omega
    rw[List.take_length]at h1;have HE:=Lib.hid (And.intro (h1.up h3) h2);clear HX h1 h2 h3
    go_wp2
    go_ret
    exact⟨_,rfl,HE.out.1,HE.out.2⟩
end Go.Proofs.YtlnfbjbagmfpiaaGreatDoor
