/- The program's reader: tags. -/
import Derived.Test.YtlnfbjbagmfpiaaGreatDoorTokZN
set_option maxRecDepth 100000
set_option maxHeartbeats 16000000
namespace Go.Proofs.YtlnfbjbagmfpiaaGreatDoor
open Go.RowKit
theorem gap_slash:gapL [47]=gapE:=by
 funext c
 unfold gapL gapE oneOf
 congr 2
 rw[Bool.eq_iff_iff];simp
theorem suffix_slash (l:List UInt8):Lib.hasSuffix l [47]=decide (l.getLast? = some 47):=by
 unfold Lib.hasSuffix;rw[Bool.eq_iff_iff,List.isSuffixOf_iff_suffix,decide_eq_true_eq];constructor
 · rintro⟨t,rfl⟩
   simp
 · intro h
   obtain⟨t,rfl⟩:=List.getLast?_eq_some_iff.1 h;exact⟨t,rfl⟩
theorem hasSuf_hid (U:ByteArray)(b:Bool)(h:decide (U.data.toList.getLast? = some 47)=b)(hU:U.size<=1000000):Hid (∀ W,Calls Tryz.prog 156 #[.string U,.string ⟨#[47]⟩] W fun e w'=>e=.returned (.bool b)/\w'=W):=Lib.hid fun W=>by
 have:=Tryz.strings_HasSuffix U ⟨#[47]⟩ W (by omega);rw[show(⟨#[47]⟩:ByteArray).data.toList=[47]from rfl,suffix_slash,h]at this;exact this
theorem txtH_len (H:List UInt8):(txtH H).length<=1:=by
 unfold txtH;split<;>simp
theorem readTag_start (s:ByteArray)(n:Nat)(hb:beginsM [60] (s.data.toList.drop n)=true)(h60:(s.data.toList.drop n).head? = some 60)(hsg:signS n (s.data.toList.drop n)=tagM true 1 n (s.data.toList.drop n))(hnd:n+1<s.size)(hs:s.size<=20000):Hid (∀ W B m R H T F,RS W B m R s n H T F (.slice none 0 0) []->H.length<=n->T.length<=n->F.length<=3 * n->NoText T->Calls Tryz.prog 130 #[.pointer (some ⟨R,0,none⟩),.int .i64 2,.string ⟨#[60]⟩] W (RoundP B R s n H T F W)):=Lib.hid fun w B m R H T F h0 hH hT hF hNT=>by
 obtain⟨j,hj⟩:∃ j,(s.data.toList.drop (n+1)).findIdx nameE=j:=⟨_,rfl⟩;have hjl:=find_le nameE s (n+1) (by omega);rw[hj]at hjl;obtain⟨N0,hN0⟩:=text_of ((s.data.toList.drop (n+1)).take j);obtain⟨X,hX⟩:=text_of (nameT 1 (s.data.toList.drop n))
 have hXN:X.data.toList=low N0.data.toList:=by
  rw[hX,hN0];unfold nameT;rw[List.drop_drop,hj]
 have hN0s:N0.size<=20000:=by rw[<- lsize,hN0,List.length_take,List.length_drop,lsize];omega
 have hXs:X.size<=20000:=by rw[<- lsize,hXN,low_length,lsize];exact hN0s
 have C1:=skip_hid R s ⟨#[60]⟩ n true hb (by omega) (by decide) (by omega) (by decide);rw[show(⟨#[60]⟩:ByteArray).size=1 from rfl]at C1;simp only[if_true]at C1;have C2:=takeUntil_hid R s ⟨#[47,62]⟩ N0 (n+1) (by rw[show(⟨#[47,62]⟩:ByteArray).data.toList=[47,62]from rfl,nameE_oneOf,hj];exact hN0) (by omega) (by omega);rw[show(⟨#[47,62]⟩:ByteArray).data.toList=[47,62]from rfl,nameE_oneOf,hj]at C2;have C3:=lower_hid N0 X hXN (by omega);have CF:=fail_hid 140 n;have CT:=tell_hid;have CA:=fun q=>atEnd_hid R s q;obtain⟨I,hI⟩:∃ I,insT true 1 n (s.data.toList.drop n)=I:=⟨_,rfl⟩
 have hI0:I=insG true (n+1+j) (s.data.toList.drop (n+1+j)) [] [] false:=by
  rw[<- hI];unfold insT;rw[List.drop_drop,hj,List.drop_drop,Nat.add_assoc]
 have HI:=Lib.hid hI;have HI0:=Lib.hid hI0;have HXN:=Lib.hid hX;have HPRE:=Lib.hid (And.intro h60 hsg);have HNT:=Lib.hid hNT;obtain⟨p,bv,tv,fv,hrv⟩:=h0;have hh:=hrv.hold;have hbw:=hh.bw;have hRm:=hh.hi;have d1:=hh.x.c1;have d5:=hh.x.c5;have HH:=Lib.hid hh
 have hFV:∃ a c,fv=.slice a F.length c:=by
  rcases rowForms hh.hf with ⟨e1,e2⟩ | ⟨g,c,e1⟩
  · exact⟨none,0,by rw[e1,e2]⟩
  · exact⟨_,_,e1⟩
 obtain⟨fa,fc,rfl⟩:=hFV;clear hj hN0 hX hXN hI hI0 hb h60 hsg hh hrv hNT
 go_enter Tryz.func130,Tryz.ntmps130
 go_wp2
 go_step3
 go_wp2
 go_quiet (fail)
 have HX0:=Lib.hid (HH.out.below (belowN (Below.refl w.heap.size w) nq))
 go_wp2_with fail
 (with_reducible refine(C1.out _ _ _ _ _ HX0.out.x).mono ?_)
 rintro e w1 ⟨rfl,x1,k1⟩;have HX1:=Lib.hid (HX0.out.moved x1 k1);have B1:Below B w w1:=((belowN (Below.refl w.heap.size w) nq).mono hbw).trans (HX0.out.form.onb k1);clear x1 k1 HX0 d1 d5 C1
 go_wp2_with fail
 (with_reducible refine(C2.out _ _ _ _ _ HX1.out.x).mono ?_)
 rintro e w2 ⟨rfl,x2,k2⟩;have HX2:=Lib.hid (HX1.out.moved x2 k2).form;have B2:=B1.trans (HX1.out.form.onb k2);clear x2 k2 HX1 B1 C2
 go_wp2_with fail
 (with_reducible refine(C3.out _).mono ?_)
 rintro e w3 ⟨rfl,b3⟩;have HX3:=Lib.hid (HX2.out.below b3);have B3:=B2.trans (b3.mono (Nat.le_trans hbw B2.size));clear b3 HX2 B2 C3
 go_wp2
 have hal:=(Below.refl w3.heap.size w3).alloc (Nat.le_refl _) (.cells #[.int .i64 2,.string X,.string ⟨#[]⟩,.slice none 0 0,.bool false] 57);have HX4:=Lib.hid (HX3.out.below hal);have HT4:Hid (TA (w3.alloc (.cells #[.int .i64 2,.string X,.string ⟨#[]⟩,.slice none 0 0,.bool false] 57)) w.heap.size w3.heap.size 2 X [] false (.slice none 0 0)):=Lib.hid ⟨new_block w3 _,World.ownsRow_nil _ _ _ _,B3.size⟩;have B4:=B3.trans (hal.mono (Nat.le_trans hbw B3.size));generalize hTb:w3.heap.size=Tb at HT4 ⊢;generalize w3.alloc (.cells #[.int .i64 2,.string X,.string ⟨#[]⟩,.slice none 0 0,.bool false] 57)=w4 at HX4 HT4 B4 ⊢;clear hal HX3 B3 hTb
 go_step3
 go_wp2
 go_loopw [9] (fun _ wr=>∃(q:Nat) (A:List (List UInt8 × List UInt8)) (f:List Fl) (av:Value),q<=s.size/\n<q/\A.length<=30/\f.length<=2 * (q - n)/\Hid (RS wr B w.heap.size R s q H T (F++f) (.slice fa F.length fc) F/\TA wr w.heap.size Tb 2 X A false av/\Below B w wr/\I=insG true q (s.data.toList.drop q) A f false)) (fun _ wr=>s.size - posOf R wr)
 case atStart=>exact⟨n+1+j,[],[],.slice none 0 0,hjl,by omega,by simp,by simp,Lib.hid ⟨by rw[List.append_nil];exact HX4.out,HT4.out,B4,HI0.out⟩⟩
 case round =>
  clear HX4 HT4 B4;obtain⟨q,A,f,av,hq,hnq,hA,hf,HS⟩:=hrel;obtain⟨hr1,ht1,hb1,hi1⟩:=HS.out;have hpos:=Lib.hid hr1.pos;obtain⟨u,hu⟩:∃ u,(s.data.toList.drop q).findIdx gapE=u:=⟨_,rfl⟩;have hul:=find_le gapE s q hq;rw[hu]at hul;obtain⟨U,hU⟩:=text_of ((s.data.toList.drop q).take u);have CK:=skipAll_hid R s ⟨#[47]⟩ U q (by rw[show(⟨#[47]⟩:ByteArray).data.toList=[47]from rfl,gap_slash,hu];exact hU) hq (by omega);rw[show(⟨#[47]⟩:ByteArray).data.toList=[47]from rfl,gap_slash,hu]at CK;have hi2:=insG_gap true q (s.data.toList.drop q) A f;rw[hu,List.drop_drop,<- hU,<- hi1]at hi2;have HI2:=Lib.hid hi2;have hUs:U.size<=20000:=by rw[<- lsize,hU,List.length_take,List.length_drop,lsize];omega
  have HC:Hid (∀ c,s.data.toList[q+u]? = some c->gapE c=true):=Lib.hid fun c hc=>find_hit hu hc;obtain⟨p1,bv1,tv1,fv1,hv1⟩:=hr1;have HV1:=Lib.hid hv1;have HT1:=Lib.hid ht1;have HB1:=Lib.hid hb1;clear hu hU hi1 hi2 hv1 ht1 hb1 HS
  go_wp2_with fail
  (with_reducible refine(CK.out _ _ _ _ _ HV1.out.x).mono ?_)
  rintro e w5 ⟨rfl,x5,k5⟩;have HV5:=Lib.hid (HV1.out.moved x5 k5);have HT5:=Lib.hid (HT1.out.onR k5 hRm);have B5:=HB1.out.trans (HV1.out.form.onb k5);clear x5 k5 HV1 HT1 HB1 CK
  by_cases hend:q+u=s.size
  · have CE:=CA (q+u) true (decide_eq_true hend)
    have HN:Hid (I=none):=Lib.hid (by rw[HI2.out,hend,show s.data.toList.drop s.size=[] by rw[<- lsize];simp,insG_nil])
    go_wp2_with fail
    (with_reducible refine(CE.out _ _ _ _ _ HV5.out.x).mono ?_)
    rintro e w6 ⟨rfl,b6⟩;have HV6:=Lib.hid (HV5.out.below b6);have B6:=B5.trans (b6.mono (Nat.le_trans hbw B5.size));have d5:=HV6.out.x.c5;have f5:=HV6.out.x.free 5;have HV7:=Lib.hid HV6.out.restore;have B7:=B6.trans (HV6.out.form.onb (HV6.out.x.kset 5 (.slice fa F.length fc)));clear b6 HV5 HT5 B5 HC B6
    go_wp2_with fail
    (with_reducible refine(CF.out _ _ _ _ _ _ _ _ _ _ _ HV7.out.form (by omega)).mono ?_)
    rintro e w8 ⟨rfl,h8,k8⟩;have B8:=B7.trans (HV7.out.form.frb k8)
    have HR8:Hid (RoundP B R s n H T F w (.returned (.tuple #[])) w8):=Lib.hid ⟨rfl,B8,_,s.size,H,T,F++[((140:Int),n)],by rw[<- hend];exact h8.drop0,by
     have:=rd_cut (H:=H) (T:=T) (F:=F) HPRE.out.1 HPRE.out.2 (HI.out.trans HN.out);rw[lsize]at this
     exact this,by omega,Nat.le_refl _,HNT.out,by omega,by omega,by rw[List.length_append];simp;omega⟩
    clear h8 k8 B8 HV7 HV6 B7 d5 f5
    go_wp2
    rw[Exit.noGoto_ret]
    go_end0
    exact HR8.out
  · have CE:=CA (q+u) false (decide_eq_false hend)
    have hlt:q+u<s.size:=by omega
    obtain⟨c,hc⟩:∃ c,s.data.toList[q+u]? = some c:=⟨_,List.getElem?_eq_getElem (by rw[lsize];exact hlt)⟩;have hgap:=HC.out c hc;have hhead:(s.data.toList.drop (q+u)).head? = some c:=by rw[head_get,List.getElem?_drop,Nat.add_zero];exact hc
    go_wp2_with fail
    (with_reducible refine(CE.out _ _ _ _ _ HV5.out.x).mono ?_)
    rintro e w6 ⟨rfl,b6⟩;have HV6:=Lib.hid (HV5.out.below b6);have HT6:=Lib.hid (HT5.out.below b6);have B6:=B5.trans (b6.mono (Nat.le_trans hbw B5.size));clear b6 HV5 HT5 B5 HC CE
    by_cases h62:c=62
    · subst h62
      have CS:=skipE_hid R s 62 (q+u) true (decide_eq_true hhead) (by decide) (by decide) (by omega) (by omega);simp only[if_true]at CS;obtain⟨sl,hsl⟩:∃ sl,decide (U.data.toList.getLast? = some 47)=sl:=⟨_,rfl⟩;have CU:=hasSuf_hid U sl hsl (by omega)
      have HN:Hid (I=some (A,f,sl,q+u)):=Lib.hid (by
       rw[HI2.out,hsl];have hd:s.data.toList.drop (q+u)=62 :: s.data.toList.drop (q+u+1):=(head_drop hhead).2
       rw[hd,insG_end])
      clear hc hhead hsl hgap
      go_wp2_with fail
      (with_reducible refine(CS.out _ _ _ _ _ HV6.out.x).mono ?_)
      rintro e w7 ⟨rfl,x7,k7⟩;have HV7:=Lib.hid (HV6.out.moved x7 k7).form;have HT7:=Lib.hid (HT6.out.onR k7 hRm);have B7:=B6.trans (HV6.out.form.onb k7);have e4:=HT7.out.1.c4;have g4:=HT7.out.1.free 4;clear x7 k7 HV6 HT6 B6 CS
      go_wp2_with fail
      (with_reducible refine(CU.out _).mono ?_)
      rintro e w7 ⟨rfl,rfl⟩;have t8:=HT7.out.1.set4 sl;have ks8:Kp (frA w.heap.size) w7 (w7.setCell ⟨Tb,4,none⟩ (.bool sl)):=Kp.of_set HT7.out.1 _ ⟨HT7.out.2.2,.inl rfl⟩;have HV8:=Lib.hid (HV7.out.side ks8);have HT8:Hid (TA (w7.setCell ⟨Tb,4,none⟩ (.bool sl)) w.heap.size Tb 2 X A sl av):=Lib.hid ⟨t8,(Kp.of_set (P:=fun j _=>j=Tb) HT7.out.1 (.bool sl) rfl).row HT7.out.2.1 fun j hj _ e=>row_ne HT7.out.2.1 HT7.out.1 (by decide) (by rw[hj,e]),HT7.out.2.2⟩;have B8:=B7.trans (HV7.out.sideb ks8);have AB:AttrsBy (w7.setCell ⟨Tb,4,none⟩ (.bool sl)) B (w7.setCell ⟨Tb,4,none⟩ (.bool sl)).heap.size av A:=⟨ownsRow_low HT8.out.2.1 hbw,fun j hj=>(HT8.out.2.1.lt j hj).2⟩;have g0:=HT8.out.1.c0;have g1:=HT8.out.1.c1;have g2:=HT8.out.1.c2;have g3:=HT8.out.1.c3;have g5:=HT8.out.1.c4;clear t8 ks8 HV7 HT7 B7 CU
      go_wp2_with fail
      (with_reducible refine(CT.out _ _ _ _ _ _ _ _ _ _ _ HV8.out (by omega) _ _ _ _ _ _ AB).mono ?_)
      rintro e w9 ⟨rfl,h9,b9,keep9⟩;have T9:TX w9 Tb 2 X av sl:=keep9 Tb _ _ HT8.out.2.2 HT8.out.1;have B9:=B8.trans b9;have c91:=T9.c1;have HR9:=Lib.hid h9;clear h9 b9 keep9 T9 AB HV8 HT8 B8 g0 g1 g2 g3 g4 g5 e4;obtain⟨rb,hrb⟩:∃ rb,rawM X.data.toList=rb:=⟨_,rfl⟩;have CW:=rawP_hid X rb hrb;have HRBX:=Lib.hid hrb;clear hrb
      cases rb with
      | false =>
        have HRB:(true&&rawM (nameT 1 (s.data.toList.drop n)))=false:=by rw[<- HXN.out,HRBX.out];rfl
        have HRP:Hid (RoundP B R s n H T F w (.returned (.tuple #[])) w9):=Lib.hid ⟨rfl,B9,_,q+u+1,[],T++txtH H++[⟨2,X.data.toList,[],A,sl⟩],F++f,HR9.out.drop0,by
         rw[HXN.out];have:=rd_tag (H:=H) (T:=T) (F:=F) HPRE.out.1 HPRE.out.2 (HI.out.trans HN.out) (by omega) HRB;exact this.cast rfl rfl rfl rfl,by omega,by omega,noText_snoc _ (by show(2:Int)≠1;decide),Nat.zero_le _,by
         have:=txtH_len H;rw[List.length_append,List.length_append];simp only[List.length_cons,List.length_nil]
         omega,by rw[List.length_append];omega⟩
        clear HRB B9 HR9 HRBX HN
        go_wp2_with fail
        (with_reducible refine(CW.out _).mono ?_)
        rintro e w9 ⟨rfl,rfl⟩
        go_wp2
        rw[Exit.noGoto_normal]
        go_end0
        exact HRP.out
      | true =>
        have HRB:rawM (nameT 1 (s.data.toList.drop n))=true:=by rw[<- HXN.out];exact HRBX.out
        obtain⟨D,hD⟩:=text_of (if softM X.data.toList then (decL (q+u+1) ((s.data.toList.drop (q+u+1)).take (endM X.data.toList (s.data.toList.drop (q+u+1))))).1 else (s.data.toList.drop (q+u+1)).take (endM X.data.toList (s.data.toList.drop (q+u+1))));have CR:=readRaw_hid s X D (q+u+1) HRBX.out hD (by omega) hs;have hle:=endM_le X.data.toList (s.data.toList.drop (q+u+1));have hrf:=rawF_len X.data.toList (q+u+1) (s.data.toList.drop (q+u+1));rw[List.length_drop,lsize]at hle
        have hDs:D.data.toList.length<=endM X.data.toList (s.data.toList.drop (q+u+1)):=by
         rw[hD];split
         · unfold decL
           simp only;have:=(decT_len (q+u+1) ((s.data.toList.drop (q+u+1)).take (endM X.data.toList (s.data.toList.drop (q+u+1))))).1;rw[List.length_take]at this;omega
         · rw[List.length_take];exact Nat.min_le_left _ _
        have HRD:Hid (Rd s.data.toList n H T F (q+u+1+endM X.data.toList (s.data.toList.drop (q+u+1))) D.data.toList (T++txtH H++[⟨2,X.data.toList,[],A,sl⟩]) (F++f++rawF X.data.toList (q+u+1) (s.data.toList.drop (q+u+1)))):=Lib.hid (by
         have:=rd_raw (H:=H) (T:=T) (F:=F) (D:=D.data.toList) HPRE.out.1 HPRE.out.2 (HI.out.trans HN.out) (by omega) (by rw[lsize];omega) HRB (by rw[<- HXN.out];exact hD);rw[<- HXN.out]at this
         exact this)
        obtain⟨ee,hee⟩:∃ ee,endM X.data.toList (s.data.toList.drop (q+u+1))=ee:=⟨_,rfl⟩;rw[hee]at CR hle hrf hDs HRD;obtain⟨rf,hrfe⟩:∃ rf,rawF X.data.toList (q+u+1) (s.data.toList.drop (q+u+1))=rf:=⟨_,rfl⟩;rw[hrfe]at CR hrf HRD;clear hee hrfe hD HRB HN HRBX
        go_wp2_with fail
        (with_reducible refine(CW.out _).mono ?_)
        rintro e w9 ⟨rfl,rfl⟩
        go_wp2_with fail
        (with_reducible refine(CR.out _ _ _ _ _ _ _ _ _ HR9.out (by rw[List.length_append];omega) (by simp)).mono ?_)
        rintro e w10 ⟨rfl,h10,b10⟩
        have HRP:Hid (RoundP B R s n H T F w (.returned (.tuple #[])) w10):=Lib.hid ⟨rfl,B9.trans b10,_,q+u+1+ee,D.data.toList,T++txtH H++[⟨2,X.data.toList,[],A,sl⟩],F++f++rf,h10.drop0,HRD.out,by omega,by omega,noText_snoc _ (by show(2:Int)≠1;decide),by omega,by
         have:=txtH_len H;rw[List.length_append,List.length_append];simp only[List.length_cons,List.length_nil]
         omega,by rw[List.length_append,List.length_append];omega⟩
        clear h10 b10 B9 HR9 HRD CR
        go_wp2
        rw[Exit.noGoto_normal]
        go_end0
        exact HRP.out
    · have h47:¬ (c=47\/blk c=true):=by
       unfold gapE at hgap;simp only[Bool.not_eq_true',Bool.or_eq_false_iff,beq_eq_false_iff_ne]at hgap;rintro(h | h)
       · exact hgap.2 h
       · rw[hgap.1]at h;cases h
      have CS:=skipE_hid R s 62 (q+u) false (decide_eq_false (by rw[hhead];exact fun e=>h62 (Option.some.inj e))) (by decide) (by decide) (by omega) (by omega);simp only[Bool.false_eq_true,if_false]at CS;obtain⟨e1,he1⟩:∃ e1,1+((s.data.toList.drop (q+u)).drop 1).findIdx attrE=e1:=⟨_,rfl⟩;have hins:=fun A=>ins_attr s.data.toList true (decide (U.data.toList.getLast? = some 47)) (q+u) e1 A f c hc h62 h47 he1;have CTT:=attr2_hid s (q+u) e1 A he1 hA hlt hs;have he1p:1<=e1:=by omega
      have hvf:=val_fails (q+u+e1) (s.data.toList.drop (q+u+e1));obtain⟨V,hV⟩:∃ V,valP (q+u+e1) (s.data.toList.drop (q+u+e1))=V:=⟨_,rfl⟩;obtain⟨Xa,hXa⟩:∃ Xa,low ((s.data.toList.drop (q+u)).take e1)=Xa:=⟨_,rfl⟩;rw[hV]at CTT hvf;rw[hV]at hins;rw[hXa]at CTT;simp only[hXa]at hins;have hq2:=(hins A).1;rw[lsize]at hq2;have HINS:=Lib.hid (HI2.out.trans (hins A).2);have hlt2:=takeM_len hA true (q+u) Xa V.1.1;have hla:=hlt2.1;have hlf:=hlt2.2;obtain⟨TM,hTM⟩:∃ TM,takeM true A (q+u) Xa V.1.1=TM:=⟨_,rfl⟩;rw[hTM]at CTT HINS hla hlf;clear hins hlt2 hTM;clear hc hhead hgap h62 h47 he1 hV hXa
      go_wp2_with fail
      (with_reducible refine(CS.out _ _ _ _ _ HV6.out.x).mono ?_)
      rintro e w7 ⟨rfl,x7,k7⟩;have HV7:=Lib.hid (HV6.out.moved x7 k7).form;have HT7:=Lib.hid (HT6.out.onR k7 hRm);have B7:=B6.trans (HV6.out.form.onb k7);clear x7 k7 HV6 HT6 B6 CS
      go_wp2_with fail
      (with_reducible refine(CTT.out _ _ _ _ _ _ _ _ _ _ _ _ _ HV7.out HT7.out (by rw[List.length_append];omega)).mono ?_)
      rintro e w8 ⟨rfl,h8,⟨av8,t8⟩,b8⟩;have hp8:=h8.pos;have HNX:=Lib.hid (And.intro h8 (And.intro t8 (B7.trans b8)));have HP8:=Lib.hid hp8;clear h8 t8 b8 hp8 HV7 HT7 B7 CTT
      go_wp2
      go_roundw
      case rel=>exact⟨q+u+e1+V.2.1,TM.1,f++TM.2++V.1.2,av8,hq2,by omega,hla,by(rw[List.length_append,List.length_append];omega),Lib.hid ⟨by(simp only[<- List.append_assoc]);exact HNX.out.1,HNX.out.2.1,HNX.out.2.2,HINS.out⟩⟩
      case measure =>
       rw[HP8.out,hpos.out];omega
theorem readTag_end (s:ByteArray)(n:Nat)(hb:beginsM [60,47] (s.data.toList.drop n)=true)(h60:(s.data.toList.drop n).head? = some 60)(hsg:signS n (s.data.toList.drop n)=tagM false 2 n (s.data.toList.drop n))(hnd:n+2<s.size)(hs:s.size<=20000):Hid (∀ W B m R H T F,RS W B m R s n H T F (.slice none 0 0) []->H.length<=n->T.length<=n->F.length<=3 * n->NoText T->Calls Tryz.prog 130 #[.pointer (some ⟨R,0,none⟩),.int .i64 3,.string ⟨#[60,47]⟩] W (RoundP B R s n H T F W)):=Lib.hid fun w B m R H T F h0 hH hT hF hNT=>by
 obtain⟨j,hj⟩:∃ j,(s.data.toList.drop (n+2)).findIdx nameE=j:=⟨_,rfl⟩;have hjl:=find_le nameE s (n+2) (by omega);rw[hj]at hjl;obtain⟨N0,hN0⟩:=text_of ((s.data.toList.drop (n+2)).take j);obtain⟨X,hX⟩:=text_of (nameT 2 (s.data.toList.drop n))
 have hXN:X.data.toList=low N0.data.toList:=by
  rw[hX,hN0];unfold nameT;rw[List.drop_drop,hj]
 have hN0s:N0.size<=20000:=by rw[<- lsize,hN0,List.length_take,List.length_drop,lsize];omega
 have hXs:X.size<=20000:=by rw[<- lsize,hXN,low_length,lsize];exact hN0s
 have C1:=skip_hid R s ⟨#[60,47]⟩ n true hb (by omega) (by decide) (by omega) (by decide);rw[show(⟨#[60,47]⟩:ByteArray).size=2 from rfl]at C1;simp only[if_true]at C1;have C2:=takeUntil_hid R s ⟨#[47,62]⟩ N0 (n+2) (by rw[show(⟨#[47,62]⟩:ByteArray).data.toList=[47,62]from rfl,nameE_oneOf,hj];exact hN0) (by omega) (by omega);rw[show(⟨#[47,62]⟩:ByteArray).data.toList=[47,62]from rfl,nameE_oneOf,hj]at C2;have C3:=lower_hid N0 X hXN (by omega);have CF:=fail_hid 140 n;have CT:=tell_hid;have CA:=fun q=>atEnd_hid R s q;obtain⟨I,hI⟩:∃ I,insT false 2 n (s.data.toList.drop n)=I:=⟨_,rfl⟩
 have hI0:I=insG false (n+2+j) (s.data.toList.drop (n+2+j)) [] [] false:=by
  rw[<- hI];unfold insT;rw[List.drop_drop,hj,List.drop_drop,Nat.add_assoc]
 have HI:=Lib.hid hI;have HI0:=Lib.hid hI0;have HXN:=Lib.hid hX;have HPRE:=Lib.hid (And.intro h60 hsg);have HNT:=Lib.hid hNT;obtain⟨p,bv,tv,fv,hrv⟩:=h0;have hh:=hrv.hold;have hbw:=hh.bw;have hRm:=hh.hi;have d1:=hh.x.c1;have d5:=hh.x.c5;have HH:=Lib.hid hh
 have hFV:∃ a c,fv=.slice a F.length c:=by
  rcases rowForms hh.hf with ⟨e1,e2⟩ | ⟨g,c,e1⟩
  · exact⟨none,0,by rw[e1,e2]⟩
  · exact⟨_,_,e1⟩
 obtain⟨fa,fc,rfl⟩:=hFV;clear hj hN0 hX hXN hI hI0 hb h60 hsg hh hrv hNT
 go_enter Tryz.func130,Tryz.ntmps130
 go_wp2
 go_step3
 go_wp2
 go_quiet (fail)
 have HX0:=Lib.hid (HH.out.below (belowN (Below.refl w.heap.size w) nq))
 go_wp2_with fail
 (with_reducible refine(C1.out _ _ _ _ _ HX0.out.x).mono ?_)
 rintro e w1 ⟨rfl,x1,k1⟩;have HX1:=Lib.hid (HX0.out.moved x1 k1);have B1:Below B w w1:=((belowN (Below.refl w.heap.size w) nq).mono hbw).trans (HX0.out.form.onb k1);clear x1 k1 HX0 d1 d5 C1
 go_wp2_with fail
 (with_reducible refine(C2.out _ _ _ _ _ HX1.out.x).mono ?_)
 rintro e w2 ⟨rfl,x2,k2⟩;have HX2:=Lib.hid (HX1.out.moved x2 k2).form;have B2:=B1.trans (HX1.out.form.onb k2);clear x2 k2 HX1 B1 C2
 go_wp2_with fail
 (with_reducible refine(C3.out _).mono ?_)
 rintro e w3 ⟨rfl,b3⟩;have HX3:=Lib.hid (HX2.out.below b3);have B3:=B2.trans (b3.mono (Nat.le_trans hbw B2.size));clear b3 HX2 B2 C3
 go_wp2
 have hal:=(Below.refl w3.heap.size w3).alloc (Nat.le_refl _) (.cells #[.int .i64 3,.string X,.string ⟨#[]⟩,.slice none 0 0,.bool false] 57);have HX4:=Lib.hid (HX3.out.below hal);have HT4:Hid (TA (w3.alloc (.cells #[.int .i64 3,.string X,.string ⟨#[]⟩,.slice none 0 0,.bool false] 57)) w.heap.size w3.heap.size 3 X [] false (.slice none 0 0)):=Lib.hid ⟨new_block w3 _,World.ownsRow_nil _ _ _ _,B3.size⟩;have B4:=B3.trans (hal.mono (Nat.le_trans hbw B3.size));generalize hTb:w3.heap.size=Tb at HT4 ⊢;generalize w3.alloc (.cells #[.int .i64 3,.string X,.string ⟨#[]⟩,.slice none 0 0,.bool false] 57)=w4 at HX4 HT4 B4 ⊢;clear hal HX3 B3 hTb
 go_step3
 go_wp2
 go_loopw [9] (fun _ wr=>∃(q:Nat) (A:List (List UInt8 × List UInt8)) (f:List Fl) (av:Value),q<=s.size/\n<q/\A.length<=30/\f.length<=2 * (q - n)/\Hid (RS wr B w.heap.size R s q H T (F++f) (.slice fa F.length fc) F/\TA wr w.heap.size Tb 3 X A false av/\Below B w wr/\I=insG false q (s.data.toList.drop q) A f false/\A=[])) (fun _ wr=>s.size - posOf R wr)
 case atStart=>exact⟨n+2+j,[],[],.slice none 0 0,hjl,by omega,by simp,by simp,Lib.hid ⟨by rw[List.append_nil];exact HX4.out,HT4.out,B4,HI0.out,rfl⟩⟩
 case round =>
  clear HX4 HT4 B4;obtain⟨q,A,f,av,hq,hnq,hA,hf,HS⟩:=hrel;obtain⟨hr1,ht1,hb1,hi1,hA0⟩:=HS.out;subst hA0;have hpos:=Lib.hid hr1.pos;obtain⟨u,hu⟩:∃ u,(s.data.toList.drop q).findIdx gapE=u:=⟨_,rfl⟩;have hul:=find_le gapE s q hq;rw[hu]at hul;obtain⟨U,hU⟩:=text_of ((s.data.toList.drop q).take u);have CK:=skipAll_hid R s ⟨#[47]⟩ U q (by rw[show(⟨#[47]⟩:ByteArray).data.toList=[47]from rfl,gap_slash,hu];exact hU) hq (by omega);rw[show(⟨#[47]⟩:ByteArray).data.toList=[47]from rfl,gap_slash,hu]at CK;have hi2:=insG_gap false q (s.data.toList.drop q) [] f;rw[hu,List.drop_drop,<- hU,<- hi1]at hi2;have HI2:=Lib.hid hi2;have hUs:U.size<=20000:=by rw[<- lsize,hU,List.length_take,List.length_drop,lsize];omega
  have HC:Hid (∀ c,s.data.toList[q+u]? = some c->gapE c=true):=Lib.hid fun c hc=>find_hit hu hc;obtain⟨p1,bv1,tv1,fv1,hv1⟩:=hr1;have HV1:=Lib.hid hv1;have HT1:=Lib.hid ht1;have HB1:=Lib.hid hb1;clear hu hU hi1 hi2 hv1 ht1 hb1 HS
  go_wp2_with fail
  (with_reducible refine(CK.out _ _ _ _ _ HV1.out.x).mono ?_)
  rintro e w5 ⟨rfl,x5,k5⟩;have HV5:=Lib.hid (HV1.out.moved x5 k5);have HT5:=Lib.hid (HT1.out.onR k5 hRm);have B5:=HB1.out.trans (HV1.out.form.onb k5);clear x5 k5 HV1 HT1 HB1 CK
  by_cases hend:q+u=s.size
  · have CE:=CA (q+u) true (decide_eq_true hend)
    have HN:Hid (I=none):=Lib.hid (by rw[HI2.out,hend,show s.data.toList.drop s.size=[] by rw[<- lsize];simp,insG_nil])
    go_wp2_with fail
    (with_reducible refine(CE.out _ _ _ _ _ HV5.out.x).mono ?_)
    rintro e w6 ⟨rfl,b6⟩;have HV6:=Lib.hid (HV5.out.below b6);have B6:=B5.trans (b6.mono (Nat.le_trans hbw B5.size));have d5:=HV6.out.x.c5;have f5:=HV6.out.x.free 5;have HV7:=Lib.hid HV6.out.restore;have B7:=B6.trans (HV6.out.form.onb (HV6.out.x.kset 5 (.slice fa F.length fc)));clear b6 HV5 HT5 B5 HC B6
    go_wp2_with fail
    (with_reducible refine(CF.out _ _ _ _ _ _ _ _ _ _ _ HV7.out.form (by omega)).mono ?_)
    rintro e w8 ⟨rfl,h8,k8⟩;have B8:=B7.trans (HV7.out.form.frb k8)
    have HR8:Hid (RoundP B R s n H T F w (.returned (.tuple #[])) w8):=Lib.hid ⟨rfl,B8,_,s.size,H,T,F++[((140:Int),n)],by rw[<- hend];exact h8.drop0,by
     have:=rd_cut (H:=H) (T:=T) (F:=F) HPRE.out.1 HPRE.out.2 (HI.out.trans HN.out);rw[lsize]at this
     exact this,by omega,Nat.le_refl _,HNT.out,by omega,by omega,by rw[List.length_append];simp;omega⟩
    clear h8 k8 B8 HV7 HV6 B7 d5 f5
    go_wp2
    rw[Exit.noGoto_ret]
    go_end0
    exact HR8.out
  · have CE:=CA (q+u) false (decide_eq_false hend)
    have hlt:q+u<s.size:=by omega
    obtain⟨c,hc⟩:∃ c,s.data.toList[q+u]? = some c:=⟨_,List.getElem?_eq_getElem (by rw[lsize];exact hlt)⟩;have hgap:=HC.out c hc;have hhead:(s.data.toList.drop (q+u)).head? = some c:=by rw[head_get,List.getElem?_drop,Nat.add_zero];exact hc
    go_wp2_with fail
    (with_reducible refine(CE.out _ _ _ _ _ HV5.out.x).mono ?_)
    rintro e w6 ⟨rfl,b6⟩;have HV6:=Lib.hid (HV5.out.below b6);have HT6:=Lib.hid (HT5.out.below b6);have B6:=B5.trans (b6.mono (Nat.le_trans hbw B5.size));clear b6 HV5 HT5 B5 HC CE
    by_cases h62:c=62
    · subst h62
      have CS:=skipE_hid R s 62 (q+u) true (decide_eq_true hhead) (by decide) (by decide) (by omega) (by omega);simp only[if_true]at CS;obtain⟨sl,hsl⟩:∃ sl,decide (U.data.toList.getLast? = some 47)=sl:=⟨_,rfl⟩;have CU:=hasSuf_hid U sl hsl (by omega)
      have HN:Hid (I=some ([],f,sl,q+u)):=Lib.hid (by
       rw[HI2.out,hsl];have hd:s.data.toList.drop (q+u)=62 :: s.data.toList.drop (q+u+1):=(head_drop hhead).2
       rw[hd,insG_end])
      clear hc hhead hsl hgap
      go_wp2_with fail
      (with_reducible refine(CS.out _ _ _ _ _ HV6.out.x).mono ?_)
      rintro e w7 ⟨rfl,x7,k7⟩;have HV7:=Lib.hid (HV6.out.moved x7 k7).form;have HT7:=Lib.hid (HT6.out.onR k7 hRm);have B7:=B6.trans (HV6.out.form.onb k7);have e4:=HT7.out.1.c4;have g4:=HT7.out.1.free 4;clear x7 k7 HV6 HT6 B6 CS;have t8:=HT7.out.1.set4 false;have ks8:Kp (frA w.heap.size) w7 (w7.setCell ⟨Tb,4,none⟩ (.bool false)):=Kp.of_set HT7.out.1 _ ⟨HT7.out.2.2,.inl rfl⟩;have HV8:=Lib.hid (HV7.out.side ks8);have HT8:Hid (TA (w7.setCell ⟨Tb,4,none⟩ (.bool false)) w.heap.size Tb 3 X [] false av):=Lib.hid ⟨t8,(Kp.of_set (P:=fun j _=>j=Tb) HT7.out.1 (.bool false) rfl).row HT7.out.2.1 fun j hj _ e=>row_ne HT7.out.2.1 HT7.out.1 (by decide) (by rw[hj,e]),HT7.out.2.2⟩;have B8:=B7.trans (HV7.out.sideb ks8);have AB:AttrsBy (w7.setCell ⟨Tb,4,none⟩ (.bool false)) B (w7.setCell ⟨Tb,4,none⟩ (.bool false)).heap.size av []:=⟨ownsRow_low HT8.out.2.1 hbw,fun j hj=>(HT8.out.2.1.lt j hj).2⟩;have g0:=HT8.out.1.c0;have g1:=HT8.out.1.c1;have g2:=HT8.out.1.c2;have g3:=HT8.out.1.c3;have g5:=HT8.out.1.c4;clear t8 ks8 HV7 HT7 B7 CU
      go_wp2_with fail
      (with_reducible refine(CT.out _ _ _ _ _ _ _ _ _ _ _ HV8.out (by omega) _ _ _ _ _ _ AB).mono ?_)
      rintro e w9 ⟨rfl,h9,b9,keep9⟩;have T9:TX w9 Tb 3 X av false:=keep9 Tb _ _ HT8.out.2.2 HT8.out.1;have B9:=B8.trans b9;have c91:=T9.c1;have HR9:=Lib.hid h9;clear h9 b9 keep9 T9 AB HV8 HT8 B8 g0 g1 g2 g3 g4 g5 e4;have HRB:(false&&rawM (nameT 2 (s.data.toList.drop n)))=false:=rfl
      have HRP:Hid (RoundP B R s n H T F w (.returned (.tuple #[])) w9):=Lib.hid ⟨rfl,B9,_,q+u+1,[],T++txtH H++[⟨3,X.data.toList,[],[],false⟩],F++f,HR9.out.drop0,by
       rw[HXN.out];have:=rd_tag (H:=H) (T:=T) (F:=F) HPRE.out.1 HPRE.out.2 (HI.out.trans HN.out) (by omega) HRB;exact this.cast rfl rfl rfl rfl,by omega,by omega,noText_snoc _ (by show(3:Int)≠1;decide),Nat.zero_le _,by
       have:=txtH_len H;rw[List.length_append,List.length_append];simp only[List.length_cons,List.length_nil]
       omega,by rw[List.length_append];omega⟩
      clear HRB B9 HR9 HN
      go_wp2
      rw[Exit.noGoto_normal]
      go_end0
      exact HRP.out
    · have h47:¬ (c=47\/blk c=true):=by
       unfold gapE at hgap;simp only[Bool.not_eq_true',Bool.or_eq_false_iff,beq_eq_false_iff_ne]at hgap;rintro(h | h)
       · exact hgap.2 h
       · rw[hgap.1]at h;cases h
      have CS:=skipE_hid R s 62 (q+u) false (decide_eq_false (by rw[hhead];exact fun e=>h62 (Option.some.inj e))) (by decide) (by decide) (by omega) (by omega);simp only[Bool.false_eq_true,if_false]at CS;obtain⟨e1,he1⟩:∃ e1,1+((s.data.toList.drop (q+u)).drop 1).findIdx attrE=e1:=⟨_,rfl⟩;have hins:=fun A=>ins_attr s.data.toList false (decide (U.data.toList.getLast? = some 47)) (q+u) e1 A f c hc h62 h47 he1;have CTT:=attr3_hid s (q+u) e1 he1 hlt hs;have he1p:1<=e1:=by omega
      have hvf:=val_fails (q+u+e1) (s.data.toList.drop (q+u+e1));obtain⟨V,hV⟩:∃ V,valP (q+u+e1) (s.data.toList.drop (q+u+e1))=V:=⟨_,rfl⟩;obtain⟨Xa,hXa⟩:∃ Xa,low ((s.data.toList.drop (q+u)).take e1)=Xa:=⟨_,rfl⟩;rw[hV]at CTT hvf;rw[hV]at hins;simp only[hXa]at hins;have hq2:=(hins []).1;rw[lsize]at hq2;have hin2:=(hins []).2;rw[show takeM false [] (q+u) Xa V.1.1=([],[])from rfl]at hin2;simp only[List.append_nil]at hin2;have HINS:=Lib.hid (HI2.out.trans hin2);clear hins hin2;clear hc hhead hgap h62 h47 he1 hV hXa
      go_wp2_with fail
      (with_reducible refine(CS.out _ _ _ _ _ HV6.out.x).mono ?_)
      rintro e w7 ⟨rfl,x7,k7⟩;have HV7:=Lib.hid (HV6.out.moved x7 k7).form;have HT7:=Lib.hid (HT6.out.onR k7 hRm);have B7:=B6.trans (HV6.out.form.onb k7);clear x7 k7 HV6 HT6 B6 CS
      go_wp2_with fail
      (with_reducible refine(CTT.out _ _ _ _ _ _ _ _ _ _ _ _ _ HV7.out HT7.out (by rw[List.length_append];omega)).mono ?_)
      rintro e w8 ⟨rfl,h8,⟨av8,t8⟩,b8⟩;have hp8:=h8.pos;have HNX:=Lib.hid (And.intro h8 (And.intro t8 (B7.trans b8)));have HP8:=Lib.hid hp8;clear h8 t8 b8 hp8 HV7 HT7 B7 CTT
      go_wp2
      go_roundw
      case rel=>exact⟨q+u+e1+V.2.1,[],f++V.1.2,av8,hq2,by omega,by simp,by(rw[List.length_append];omega),Lib.hid ⟨by(simp only[<- List.append_assoc]);exact HNX.out.1,HNX.out.2.1,HNX.out.2.2,HINS.out,rfl⟩⟩
      case measure =>
       rw[HP8.out,hpos.out];omega
end Go.Proofs.YtlnfbjbagmfpiaaGreatDoor
