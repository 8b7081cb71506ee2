/- The program's reader: a round. -/
import Derived.Test.YtlnfbjbagmfpiaaGreatDoorTokP
set_option maxRecDepth 100000
set_option maxHeartbeats 8000000
namespace Go.Proofs.YtlnfbjbagmfpiaaGreatDoor
open Go.RowKit
theorem beginsT_hid (R:Nat)(s z:ByteArray)(n:Nat)(v:Bool)(h:(beginsM z.data.toList (s.data.toList.drop n)&&(s.data.toList[n+z.size]?).any letB)=v)(hn:n<=s.size)(hz:low z.data.toList=z.data.toList)(hs:s.size<=1000000000)(hzs:z.size<=1000000000):Hid (∀ W p bv tv fv,RX W R s n p bv tv fv->Calls Tryz.prog 129 #[.pointer (some ⟨R,0,none⟩),.string z] W fun e w'=>e=.returned (.bool v)/\Below W.heap.size W w'):=by
 rw[<- h];exact beginsTag_hid R s z n _ _ rfl rfl hn hz hs hzs
theorem RoundP.from {B R:Nat}{s:ByteArray}{n:Nat}{H:List UInt8}{T:List Tk}{F:List Fl}{W W1 w':World}{e:Ending}(h:RoundP B R s n H T F W1 e w')(b:Below B W W1):RoundP B R s n H T F W e w':=⟨h.1,b.trans h.2.1,h.2.2⟩
theorem begins_len {z l:List UInt8}(h:beginsM z l=true):z.length<=l.length:=by
 unfold beginsM at h;simp only[Bool.and_eq_true,decide_eq_true_eq]at h;exact h.1
theorem begins_head {z l:List UInt8}(h:beginsM (60 :: z) l=true):l.head? = some 60:=by
 unfold beginsM at h;simp only[Bool.and_eq_true,decide_eq_true_eq]at h
 cases l with
 | nil=>simp at h
 | cons c r =>
   have:=h.2;simp only[List.length_cons,List.take_succ_cons,low,List.map_cons,List.cons.injEq]at this;rw[low_back this.1 (by decide)];rfl
theorem begins_no {z l:List UInt8}(h:l.head? ≠ some 60):beginsM (60 :: z) l=false:=by
 cases hb:beginsM (60 :: z) l with
 | false=>rfl
 | true=>exact absurd (begins_head hb) h
theorem note_none {k:Int}{d n:Nat}{z l:List UInt8}(h:findT z (l.drop d)=none):noteM k d n z l=⟨some ⟨k,[],if k=5 then trim (l.drop d) else l.drop d,[],false⟩,[(140,n)],l.length,[]⟩:=by
 unfold noteM;rw[h]
theorem note_some {k:Int}{d n i:Nat}{z l:List UInt8}(h:findT z (l.drop d)=some i):noteM k d n z l=⟨some ⟨k,[],if k=5 then trim ((l.drop d).take i) else (l.drop d).take i,[],false⟩,[],d+i+z.length,[]⟩:=by
 unfold noteM;rw[h]
theorem leaf_end (s:ByteArray)(n:Nat)(t0:(beginsM [60,47] (s.data.toList.drop n)&&(s.data.toList[n+2]?).any letB)=true)(h60:(s.data.toList.drop n).head? = some 60)(hsg:signS n (s.data.toList.drop n)=tagM false 2 n (s.data.toList.drop n))(hnd:n+2<s.size)(_hn:n<s.size)(hs:s.size<=20000):Hid (∀ W B m R H T F,RS W B m R s n H T F (.slice none 0 0) []->H.length<=n->T.length<=n->F.length<=3 * n->NoText T->Calls Tryz.prog 103 #[.pointer (some ⟨R,0,none⟩)] W (RoundP B R s n H T F W)):=Lib.hid fun w B m R H T F h0 hH hT hF hNT=>by
 have K0:=beginsT_hid R s ⟨#[60,47]⟩ n true t0 (by omega) (by decide) (by omega) (by decide);have hbz:beginsM [60,47] (s.data.toList.drop n)=true:=(Bool.and_eq_true _ _ ▸ t0).1;have C:=readTag_end s n hbz h60 hsg hnd hs;clear hbz h60 hsg;obtain⟨p,bv,tv,fv,hx⟩:=h0;have hbw:=hx.bw;have HX:=Lib.hid hx;clear hx t0
 go_enter Tryz.func103,Tryz.ntmps103
 have B0:Below B w w:=Below.refl _ _
 go_wp2_with fail
 (with_reducible refine(K0.out _ _ _ _ _ HX.out.x).mono ?_)
 rintro e wa0 ⟨rfl,bb⟩;have HX:=Lib.hid (HX.out.below bb);have B0:=B0.trans (bb.mono (Nat.le_trans hbw B0.size));clear bb K0
 go_wp2_with fail
 (with_reducible refine(C.out _ _ _ _ _ _ _ HX.out.form hH hT hF hNT).mono ?_)
 intro e w2 hr;have HR:=Lib.hid (hr.from B0);obtain⟨rfl,-,-⟩:=hr;clear HX B0 C
 go_wp2
 go_end0
 exact HR.out
theorem leaf_start (s:ByteArray)(n:Nat)(t0:(beginsM [60,47] (s.data.toList.drop n)&&(s.data.toList[n+2]?).any letB)=false)(t1:(beginsM [60] (s.data.toList.drop n)&&(s.data.toList[n+1]?).any letB)=true)(h60:(s.data.toList.drop n).head? = some 60)(hsg:signS n (s.data.toList.drop n)=tagM true 1 n (s.data.toList.drop n))(hnd:n+1<s.size)(_hn:n<s.size)(hs:s.size<=20000):Hid (∀ W B m R H T F,RS W B m R s n H T F (.slice none 0 0) []->H.length<=n->T.length<=n->F.length<=3 * n->NoText T->Calls Tryz.prog 103 #[.pointer (some ⟨R,0,none⟩)] W (RoundP B R s n H T F W)):=Lib.hid fun w B m R H T F h0 hH hT hF hNT=>by
 have K0:=beginsT_hid R s ⟨#[60,47]⟩ n false t0 (by omega) (by decide) (by omega) (by decide);have K1:=beginsT_hid R s ⟨#[60]⟩ n true t1 (by omega) (by decide) (by omega) (by decide);have hbz:beginsM [60] (s.data.toList.drop n)=true:=(Bool.and_eq_true _ _ ▸ t1).1;have C:=readTag_start s n hbz h60 hsg hnd hs;clear hbz h60 hsg;obtain⟨p,bv,tv,fv,hx⟩:=h0;have hbw:=hx.bw;have HX:=Lib.hid hx;clear hx t0 t1
 go_enter Tryz.func103,Tryz.ntmps103
 have B0:Below B w w:=Below.refl _ _
 go_wp2_with fail
 (with_reducible refine(K0.out _ _ _ _ _ HX.out.x).mono ?_)
 rintro e wa0 ⟨rfl,bb⟩;have HX:=Lib.hid (HX.out.below bb);have B0:=B0.trans (bb.mono (Nat.le_trans hbw B0.size));clear bb K0
 go_wp2_with fail
 (with_reducible refine(K1.out _ _ _ _ _ HX.out.x).mono ?_)
 rintro e wa1 ⟨rfl,bb⟩;have HX:=Lib.hid (HX.out.below bb);have B0:=B0.trans (bb.mono (Nat.le_trans hbw B0.size));clear bb K1
 go_wp2_with fail
 (with_reducible refine(C.out _ _ _ _ _ _ _ HX.out.form hH hT hF hNT).mono ?_)
 intro e w2 hr;have HR:=Lib.hid (hr.from B0);obtain⟨rfl,-,-⟩:=hr;clear HX B0 C
 go_wp2
 go_end0
 exact HR.out
theorem leaf_note_yes (s:ByteArray)(n:Nat)(t0:(beginsM [60,47] (s.data.toList.drop n)&&(s.data.toList[n+2]?).any letB)=false)(t1:(beginsM [60] (s.data.toList.drop n)&&(s.data.toList[n+1]?).any letB)=false)(t2:beginsM [60,33,45,45] (s.data.toList.drop n)=true)(i:Nat)(h60:(s.data.toList.drop n).head? = some 60)(hsg:signS n (s.data.toList.drop n)=noteM 4 4 n [45,45,62] (s.data.toList.drop n))(hf:findT [45,45,62] (s.data.toList.drop (n+4))=some i)(hnd:n+4<=s.size)(_hn:n<s.size)(hs:s.size<=20000):Hid (∀ W B m R H T F,RS W B m R s n H T F (.slice none 0 0) []->H.length<=n->T.length<=n->F.length<=3 * n->NoText T->Calls Tryz.prog 103 #[.pointer (some ⟨R,0,none⟩)] W (RoundP B R s n H T F W)):=Lib.hid fun w B m R H T F h0 hH hT hF hNT=>by
 have K0:=beginsT_hid R s ⟨#[60,47]⟩ n false t0 (by omega) (by decide) (by omega) (by decide);have K1:=beginsT_hid R s ⟨#[60]⟩ n false t1 (by omega) (by decide) (by omega) (by decide);have K2:=begins_hid R s ⟨#[60,33,45,45]⟩ n true t2 (by omega) (by decide) (by omega) (by decide);obtain⟨DD,hDD⟩:=text_of (((s.data.toList.drop (n+4)).take i));have C:=marked_note_yes s ⟨#[45,45,62]⟩ DD n 4 i hf hDD (by omega) (by decide) hs;rw[show(((4:Nat)):Int)=4 from rfl]at C;have hll:(s.data.toList.drop n).length=s.size - n:=by rw[List.length_drop,lsize]
 have hpos:n+4+i+3<=s.size:=by
  have:=findT_le _ _ _ hf;rw[List.length_drop,lsize]at this;simp only[List.length_cons,List.length_nil]at this;omega
 have HRD:Hid (Rd s.data.toList n H T F (n+4+i+3) [] (T++txtH H++[⟨4,[],DD.data.toList,[],false⟩]) F):=Lib.hid (by
  have hf2:findT [45,45,62] ((s.data.toList.drop n).drop 4)=some i:=by rw[List.drop_drop];exact hf
  rw[note_some hf2]at hsg;have:=rd_note (H:=H) (T:=T) (F:=F) h60 hsg rfl (by show 1<=4+i+3;omega) rfl (by show(4:Int)≠1;decide);refine this.cast (by show n+(4+i+3)=_;omega) rfl ?_ ?_
  · rw[hDD]
    simp[List.drop_drop]
  · simp)
 clear h60 hsg hf hDD hll;obtain⟨p,bv,tv,fv,hx⟩:=h0;have hbw:=hx.bw;have HX:=Lib.hid hx;clear hx t0 t1 t2
 go_enter Tryz.func103,Tryz.ntmps103
 have B0:Below B w w:=Below.refl _ _
 go_wp2_with fail
 (with_reducible refine(K0.out _ _ _ _ _ HX.out.x).mono ?_)
 rintro e wa0 ⟨rfl,bb⟩;have HX:=Lib.hid (HX.out.below bb);have B0:=B0.trans (bb.mono (Nat.le_trans hbw B0.size));clear bb K0
 go_wp2_with fail
 (with_reducible refine(K1.out _ _ _ _ _ HX.out.x).mono ?_)
 rintro e wa1 ⟨rfl,bb⟩;have HX:=Lib.hid (HX.out.below bb);have B0:=B0.trans (bb.mono (Nat.le_trans hbw B0.size));clear bb K1
 go_wp2_with fail
 (with_reducible refine(K2.out _ _ _ _ _ HX.out.x).mono ?_)
 rintro e wa2 ⟨rfl,bb⟩;have HX:=Lib.hid (HX.out.below bb);have B0:=B0.trans (bb.mono (Nat.le_trans hbw B0.size));clear bb K2;have h2:=HX.out.form;clear HX
 go_wp2_with fail
 (with_reducible refine(C.out _ _ _ _ _ _ _ _ _ h2 (by omega) (by omega)).mono ?_)
 rintro e w3 ⟨rfl,h3,b3⟩
 have HR:Hid (RoundP B R s n H T F w (.returned (.tuple #[])) w3):=Lib.hid ⟨rfl,B0.trans b3,_,n+4+i+3,[],_,_,h3,HRD.out,by omega,by omega,noText_snoc _ (by show(4:Int)≠1;decide),by simp,by
  have:=txtH_len H;rw[List.length_append,List.length_append];simp only[List.length_cons,List.length_nil]
  omega,by omega⟩
 clear h3 b3 h2 B0 C HRD
 go_wp2
 go_end0
 exact HR.out
theorem leaf_doc_yes (s:ByteArray)(n:Nat)(t0:(beginsM [60,47] (s.data.toList.drop n)&&(s.data.toList[n+2]?).any letB)=false)(t1:(beginsM [60] (s.data.toList.drop n)&&(s.data.toList[n+1]?).any letB)=false)(t2:beginsM [60,33,45,45] (s.data.toList.drop n)=false)(t3:beginsM [60,33,100,111,99,116,121,112,101] (s.data.toList.drop n)=true)(i:Nat)(h60:(s.data.toList.drop n).head? = some 60)(hsg:signS n (s.data.toList.drop n)=noteM 5 9 n [62] (s.data.toList.drop n))(hf:findT [62] (s.data.toList.drop (n+9))=some i)(hnd:n+9<=s.size)(_hn:n<s.size)(hs:s.size<=20000):Hid (∀ W B m R H T F,RS W B m R s n H T F (.slice none 0 0) []->H.length<=n->T.length<=n->F.length<=3 * n->NoText T->Calls Tryz.prog 103 #[.pointer (some ⟨R,0,none⟩)] W (RoundP B R s n H T F W)):=Lib.hid fun w B m R H T F h0 hH hT hF hNT=>by
 have K0:=beginsT_hid R s ⟨#[60,47]⟩ n false t0 (by omega) (by decide) (by omega) (by decide);have K1:=beginsT_hid R s ⟨#[60]⟩ n false t1 (by omega) (by decide) (by omega) (by decide);have K2:=begins_hid R s ⟨#[60,33,45,45]⟩ n false t2 (by omega) (by decide) (by omega) (by decide);have K3:=begins_hid R s ⟨#[60,33,100,111,99,116,121,112,101]⟩ n true t3 (by omega) (by decide) (by omega) (by decide);obtain⟨DD,hDD⟩:=text_of (trim ((s.data.toList.drop (n+9)).take i));have C:=marked_doc_yes s ⟨#[62]⟩ DD n 9 i hf hDD (by omega) (by decide) hs;rw[show(((9:Nat)):Int)=9 from rfl]at C;have hll:(s.data.toList.drop n).length=s.size - n:=by rw[List.length_drop,lsize]
 have hpos:n+9+i+1<=s.size:=by
  have:=findT_le _ _ _ hf;rw[List.length_drop,lsize]at this;simp only[List.length_cons,List.length_nil]at this;omega
 have HRD:Hid (Rd s.data.toList n H T F (n+9+i+1) [] (T++txtH H++[⟨5,[],DD.data.toList,[],false⟩]) F):=Lib.hid (by
  have hf2:findT [62] ((s.data.toList.drop n).drop 9)=some i:=by rw[List.drop_drop];exact hf
  rw[note_some hf2]at hsg;have:=rd_note (H:=H) (T:=T) (F:=F) h60 hsg rfl (by show 1<=9+i+1;omega) rfl (by show(5:Int)≠1;decide);refine this.cast (by show n+(9+i+1)=_;omega) rfl ?_ ?_
  · rw[hDD]
    simp[List.drop_drop]
  · simp)
 clear h60 hsg hf hDD hll;obtain⟨p,bv,tv,fv,hx⟩:=h0;have hbw:=hx.bw;have HX:=Lib.hid hx;clear hx t0 t1 t2 t3
 go_enter Tryz.func103,Tryz.ntmps103
 have B0:Below B w w:=Below.refl _ _
 go_wp2_with fail
 (with_reducible refine(K0.out _ _ _ _ _ HX.out.x).mono ?_)
 rintro e wa0 ⟨rfl,bb⟩;have HX:=Lib.hid (HX.out.below bb);have B0:=B0.trans (bb.mono (Nat.le_trans hbw B0.size));clear bb K0
 go_wp2_with fail
 (with_reducible refine(K1.out _ _ _ _ _ HX.out.x).mono ?_)
 rintro e wa1 ⟨rfl,bb⟩;have HX:=Lib.hid (HX.out.below bb);have B0:=B0.trans (bb.mono (Nat.le_trans hbw B0.size));clear bb K1
 go_wp2_with fail
 (with_reducible refine(K2.out _ _ _ _ _ HX.out.x).mono ?_)
 rintro e wa2 ⟨rfl,bb⟩;have HX:=Lib.hid (HX.out.below bb);have B0:=B0.trans (bb.mono (Nat.le_trans hbw B0.size));clear bb K2
 go_wp2_with fail
 (with_reducible refine(K3.out _ _ _ _ _ HX.out.x).mono ?_)
 rintro e wa3 ⟨rfl,bb⟩;have HX:=Lib.hid (HX.out.below bb);have B0:=B0.trans (bb.mono (Nat.le_trans hbw B0.size));clear bb K3;have h2:=HX.out.form;clear HX
 go_wp2_with fail
 (with_reducible refine(C.out _ _ _ _ _ _ _ _ _ h2 (by omega) (by omega)).mono ?_)
 rintro e w3 ⟨rfl,h3,b3⟩
 have HR:Hid (RoundP B R s n H T F w (.returned (.tuple #[])) w3):=Lib.hid ⟨rfl,B0.trans b3,_,n+9+i+1,[],_,_,h3,HRD.out,by omega,by omega,noText_snoc _ (by show(5:Int)≠1;decide),by simp,by
  have:=txtH_len H;rw[List.length_append,List.length_append];simp only[List.length_cons,List.length_nil]
  omega,by omega⟩
 clear h3 b3 h2 B0 C HRD
 go_wp2
 go_end0
 exact HR.out
theorem leaf_sign4_yes (s:ByteArray)(n:Nat)(t0:(beginsM [60,47] (s.data.toList.drop n)&&(s.data.toList[n+2]?).any letB)=false)(t1:(beginsM [60] (s.data.toList.drop n)&&(s.data.toList[n+1]?).any letB)=false)(t2:beginsM [60,33,45,45] (s.data.toList.drop n)=false)(t3:beginsM [60,33,100,111,99,116,121,112,101] (s.data.toList.drop n)=false)(t4:beginsM [60,33] (s.data.toList.drop n)=true)(i:Nat)(h60:(s.data.toList.drop n).head? = some 60)(hsg:signS n (s.data.toList.drop n)={ noteM 4 2 n [62] (s.data.toList.drop n)with f:=(141,n) :: (noteM 4 2 n [62] (s.data.toList.drop n)).f })(hf:findT [62] (s.data.toList.drop (n+2))=some i)(hnd:n+2<=s.size)(_hn:n<s.size)(hs:s.size<=20000):Hid (∀ W B m R H T F,RS W B m R s n H T F (.slice none 0 0) []->H.length<=n->T.length<=n->F.length<=3 * n->NoText T->Calls Tryz.prog 103 #[.pointer (some ⟨R,0,none⟩)] W (RoundP B R s n H T F W)):=Lib.hid fun w B m R H T F h0 hH hT hF hNT=>by
 have K0:=beginsT_hid R s ⟨#[60,47]⟩ n false t0 (by omega) (by decide) (by omega) (by decide);have K1:=beginsT_hid R s ⟨#[60]⟩ n false t1 (by omega) (by decide) (by omega) (by decide);have K2:=begins_hid R s ⟨#[60,33,45,45]⟩ n false t2 (by omega) (by decide) (by omega) (by decide);have K3:=begins_hid R s ⟨#[60,33,100,111,99,116,121,112,101]⟩ n false t3 (by omega) (by decide) (by omega) (by decide);have K4:=begins_hid R s ⟨#[60,33]⟩ n true t4 (by omega) (by decide) (by omega) (by decide);obtain⟨DD,hDD⟩:=text_of (((s.data.toList.drop (n+2)).take i));have C:=marked_note_yes s ⟨#[62]⟩ DD n 2 i hf hDD (by omega) (by decide) hs;rw[show(((2:Nat)):Int)=2 from rfl]at C;have hll:(s.data.toList.drop n).length=s.size - n:=by rw[List.length_drop,lsize]
 have hpos:n+2+i+1<=s.size:=by
  have:=findT_le _ _ _ hf;rw[List.length_drop,lsize]at this;simp only[List.length_cons,List.length_nil]at this;omega
 have HRD:Hid (Rd s.data.toList n H T F (n+2+i+1) [] (T++txtH H++[⟨4,[],DD.data.toList,[],false⟩]) (F++[((141:Int),n)])):=Lib.hid (by
  have hf2:findT [62] ((s.data.toList.drop n).drop 2)=some i:=by rw[List.drop_drop];exact hf
  rw[note_some hf2]at hsg;have:=rd_note (H:=H) (T:=T) (F:=F) h60 hsg rfl (by show 1<=2+i+1;omega) rfl (by show(4:Int)≠1;decide);refine this.cast (by show n+(2+i+1)=_;omega) rfl ?_ ?_
  · rw[hDD]
    simp[List.drop_drop]
  · simp)
 have CF:=fail_hid 141 n;clear h60 hsg hf hDD hll;obtain⟨p,bv,tv,fv,hx⟩:=h0;have hbw:=hx.bw;have HX:=Lib.hid hx;clear hx t0 t1 t2 t3 t4
 go_enter Tryz.func103,Tryz.ntmps103
 have B0:Below B w w:=Below.refl _ _
 go_wp2_with fail
 (with_reducible refine(K0.out _ _ _ _ _ HX.out.x).mono ?_)
 rintro e wa0 ⟨rfl,bb⟩;have HX:=Lib.hid (HX.out.below bb);have B0:=B0.trans (bb.mono (Nat.le_trans hbw B0.size));clear bb K0
 go_wp2_with fail
 (with_reducible refine(K1.out _ _ _ _ _ HX.out.x).mono ?_)
 rintro e wa1 ⟨rfl,bb⟩;have HX:=Lib.hid (HX.out.below bb);have B0:=B0.trans (bb.mono (Nat.le_trans hbw B0.size));clear bb K1
 go_wp2_with fail
 (with_reducible refine(K2.out _ _ _ _ _ HX.out.x).mono ?_)
 rintro e wa2 ⟨rfl,bb⟩;have HX:=Lib.hid (HX.out.below bb);have B0:=B0.trans (bb.mono (Nat.le_trans hbw B0.size));clear bb K2
 go_wp2_with fail
 (with_reducible refine(K3.out _ _ _ _ _ HX.out.x).mono ?_)
 rintro e wa3 ⟨rfl,bb⟩;have HX:=Lib.hid (HX.out.below bb);have B0:=B0.trans (bb.mono (Nat.le_trans hbw B0.size));clear bb K3
 go_wp2_with fail
 (with_reducible refine(K4.out _ _ _ _ _ HX.out.x).mono ?_)
 rintro e wa4 ⟨rfl,bb⟩;have HX:=Lib.hid (HX.out.below bb);have B0:=B0.trans (bb.mono (Nat.le_trans hbw B0.size));clear bb K4;have d1:=HX.out.x.c1
 go_wp2_with fail
 (with_reducible refine(CF.out _ _ _ _ _ _ _ _ _ _ _ HX.out.form (by omega)).mono ?_)
 rintro e w2 ⟨rfl,h2,k2⟩;have B0:=B0.trans (HX.out.form.frb k2);clear k2 HX d1 CF
 go_wp2_with fail
 (with_reducible refine(C.out _ _ _ _ _ _ _ _ _ h2 (by rw[List.length_append];simp;omega) (by omega)).mono ?_)
 rintro e w3 ⟨rfl,h3,b3⟩
 have HR:Hid (RoundP B R s n H T F w (.returned (.tuple #[])) w3):=Lib.hid ⟨rfl,B0.trans b3,_,n+2+i+1,[],_,_,h3,HRD.out,by omega,by omega,noText_snoc _ (by show(4:Int)≠1;decide),by simp,by
  have:=txtH_len H;rw[List.length_append,List.length_append];simp only[List.length_cons,List.length_nil]
  omega,by simp only[List.length_append,List.length_cons,List.length_nil];omega⟩
 clear h3 b3 h2 B0 C HRD
 go_wp2
 go_end0
 exact HR.out
theorem leaf_sign5_yes (s:ByteArray)(n:Nat)(t0:(beginsM [60,47] (s.data.toList.drop n)&&(s.data.toList[n+2]?).any letB)=false)(t1:(beginsM [60] (s.data.toList.drop n)&&(s.data.toList[n+1]?).any letB)=false)(t2:beginsM [60,33,45,45] (s.data.toList.drop n)=false)(t3:beginsM [60,33,100,111,99,116,121,112,101] (s.data.toList.drop n)=false)(t4:beginsM [60,33] (s.data.toList.drop n)=false)(t5:beginsM [60,63] (s.data.toList.drop n)=true)(i:Nat)(h60:(s.data.toList.drop n).head? = some 60)(hsg:signS n (s.data.toList.drop n)={ noteM 4 2 n [62] (s.data.toList.drop n)with f:=(141,n) :: (noteM 4 2 n [62] (s.data.toList.drop n)).f })(hf:findT [62] (s.data.toList.drop (n+2))=some i)(hnd:n+2<=s.size)(_hn:n<s.size)(hs:s.size<=20000):Hid (∀ W B m R H T F,RS W B m R s n H T F (.slice none 0 0) []->H.length<=n->T.length<=n->F.length<=3 * n->NoText T->Calls Tryz.prog 103 #[.pointer (some ⟨R,0,none⟩)] W (RoundP B R s n H T F W)):=Lib.hid fun w B m R H T F h0 hH hT hF hNT=>by
 have K0:=beginsT_hid R s ⟨#[60,47]⟩ n false t0 (by omega) (by decide) (by omega) (by decide);have K1:=beginsT_hid R s ⟨#[60]⟩ n false t1 (by omega) (by decide) (by omega) (by decide);have K2:=begins_hid R s ⟨#[60,33,45,45]⟩ n false t2 (by omega) (by decide) (by omega) (by decide);have K3:=begins_hid R s ⟨#[60,33,100,111,99,116,121,112,101]⟩ n false t3 (by omega) (by decide) (by omega) (by decide);have K4:=begins_hid R s ⟨#[60,33]⟩ n false t4 (by omega) (by decide) (by omega) (by decide);have K5:=begins_hid R s ⟨#[60,63]⟩ n true t5 (by omega) (by decide) (by omega) (by decide);obtain⟨DD,hDD⟩:=text_of (((s.data.toList.drop (n+2)).take i));have C:=marked_note_yes s ⟨#[62]⟩ DD n 2 i hf hDD (by omega) (by decide) hs;rw[show(((2:Nat)):Int)=2 from rfl]at C;have hll:(s.data.toList.drop n).length=s.size - n:=by rw[List.length_drop,lsize]
 have hpos:n+2+i+1<=s.size:=by
  have:=findT_le _ _ _ hf;rw[List.length_drop,lsize]at this;simp only[List.length_cons,List.length_nil]at this;omega
 have HRD:Hid (Rd s.data.toList n H T F (n+2+i+1) [] (T++txtH H++[⟨4,[],DD.data.toList,[],false⟩]) (F++[((141:Int),n)])):=Lib.hid (by
  have hf2:findT [62] ((s.data.toList.drop n).drop 2)=some i:=by rw[List.drop_drop];exact hf
  rw[note_some hf2]at hsg;have:=rd_note (H:=H) (T:=T) (F:=F) h60 hsg rfl (by show 1<=2+i+1;omega) rfl (by show(4:Int)≠1;decide);refine this.cast (by show n+(2+i+1)=_;omega) rfl ?_ ?_
  · rw[hDD]
    simp[List.drop_drop]
  · simp)
 have CF:=fail_hid 141 n;clear h60 hsg hf hDD hll;obtain⟨p,bv,tv,fv,hx⟩:=h0;have hbw:=hx.bw;have HX:=Lib.hid hx;clear hx t0 t1 t2 t3 t4 t5
 go_enter Tryz.func103,Tryz.ntmps103
 have B0:Below B w w:=Below.refl _ _
 go_wp2_with fail
 (with_reducible refine(K0.out _ _ _ _ _ HX.out.x).mono ?_)
 rintro e wa0 ⟨rfl,bb⟩;have HX:=Lib.hid (HX.out.below bb);have B0:=B0.trans (bb.mono (Nat.le_trans hbw B0.size));clear bb K0
 go_wp2_with fail
 (with_reducible refine(K1.out _ _ _ _ _ HX.out.x).mono ?_)
 rintro e wa1 ⟨rfl,bb⟩;have HX:=Lib.hid (HX.out.below bb);have B0:=B0.trans (bb.mono (Nat.le_trans hbw B0.size));clear bb K1
 go_wp2_with fail
 (with_reducible refine(K2.out _ _ _ _ _ HX.out.x).mono ?_)
 rintro e wa2 ⟨rfl,bb⟩;have HX:=Lib.hid (HX.out.below bb);have B0:=B0.trans (bb.mono (Nat.le_trans hbw B0.size));clear bb K2
 go_wp2_with fail
 (with_reducible refine(K3.out _ _ _ _ _ HX.out.x).mono ?_)
 rintro e wa3 ⟨rfl,bb⟩;have HX:=Lib.hid (HX.out.below bb);have B0:=B0.trans (bb.mono (Nat.le_trans hbw B0.size));clear bb K3
 go_wp2_with fail
 (with_reducible refine(K4.out _ _ _ _ _ HX.out.x).mono ?_)
 rintro e wa4 ⟨rfl,bb⟩;have HX:=Lib.hid (HX.out.below bb);have B0:=B0.trans (bb.mono (Nat.le_trans hbw B0.size));clear bb K4
 go_wp2_with fail
 (with_reducible refine(K5.out _ _ _ _ _ HX.out.x).mono ?_)
 rintro e wa5 ⟨rfl,bb⟩;have HX:=Lib.hid (HX.out.below bb);have B0:=B0.trans (bb.mono (Nat.le_trans hbw B0.size));clear bb K5;have d1:=HX.out.x.c1
 go_wp2_with fail
 (with_reducible refine(CF.out _ _ _ _ _ _ _ _ _ _ _ HX.out.form (by omega)).mono ?_)
 rintro e w2 ⟨rfl,h2,k2⟩;have B0:=B0.trans (HX.out.form.frb k2);clear k2 HX d1 CF
 go_wp2_with fail
 (with_reducible refine(C.out _ _ _ _ _ _ _ _ _ h2 (by rw[List.length_append];simp;omega) (by omega)).mono ?_)
 rintro e w3 ⟨rfl,h3,b3⟩
 have HR:Hid (RoundP B R s n H T F w (.returned (.tuple #[])) w3):=Lib.hid ⟨rfl,B0.trans b3,_,n+2+i+1,[],_,_,h3,HRD.out,by omega,by omega,noText_snoc _ (by show(4:Int)≠1;decide),by simp,by
  have:=txtH_len H;rw[List.length_append,List.length_append];simp only[List.length_cons,List.length_nil]
  omega,by simp only[List.length_append,List.length_cons,List.length_nil];omega⟩
 clear h3 b3 h2 B0 C HRD
 go_wp2
 go_end0
 exact HR.out
theorem leaf_sign6_yes (s:ByteArray)(n:Nat)(t0:(beginsM [60,47] (s.data.toList.drop n)&&(s.data.toList[n+2]?).any letB)=false)(t1:(beginsM [60] (s.data.toList.drop n)&&(s.data.toList[n+1]?).any letB)=false)(t2:beginsM [60,33,45,45] (s.data.toList.drop n)=false)(t3:beginsM [60,33,100,111,99,116,121,112,101] (s.data.toList.drop n)=false)(t4:beginsM [60,33] (s.data.toList.drop n)=false)(t5:beginsM [60,63] (s.data.toList.drop n)=false)(t6:beginsM [60,47] (s.data.toList.drop n)=true)(i:Nat)(h60:(s.data.toList.drop n).head? = some 60)(hsg:signS n (s.data.toList.drop n)={ noteM 4 2 n [62] (s.data.toList.drop n)with f:=(141,n) :: (noteM 4 2 n [62] (s.data.toList.drop n)).f })(hf:findT [62] (s.data.toList.drop (n+2))=some i)(hnd:n+2<=s.size)(_hn:n<s.size)(hs:s.size<=20000):Hid (∀ W B m R H T F,RS W B m R s n H T F (.slice none 0 0) []->H.length<=n->T.length<=n->F.length<=3 * n->NoText T->Calls Tryz.prog 103 #[.pointer (some ⟨R,0,none⟩)] W (RoundP B R s n H T F W)):=Lib.hid fun w B m R H T F h0 hH hT hF hNT=>by
 have K0:=beginsT_hid R s ⟨#[60,47]⟩ n false t0 (by omega) (by decide) (by omega) (by decide);have K1:=beginsT_hid R s ⟨#[60]⟩ n false t1 (by omega) (by decide) (by omega) (by decide);have K2:=begins_hid R s ⟨#[60,33,45,45]⟩ n false t2 (by omega) (by decide) (by omega) (by decide);have K3:=begins_hid R s ⟨#[60,33,100,111,99,116,121,112,101]⟩ n false t3 (by omega) (by decide) (by omega) (by decide);have K4:=begins_hid R s ⟨#[60,33]⟩ n false t4 (by omega) (by decide) (by omega) (by decide);have K5:=begins_hid R s ⟨#[60,63]⟩ n false t5 (by omega) (by decide) (by omega) (by decide);have K6:=begins_hid R s ⟨#[60,47]⟩ n true t6 (by omega) (by decide) (by omega) (by decide);obtain⟨DD,hDD⟩:=text_of (((s.data.toList.drop (n+2)).take i));have C:=marked_note_yes s ⟨#[62]⟩ DD n 2 i hf hDD (by omega) (by decide) hs;rw[show(((2:Nat)):Int)=2 from rfl]at C;have hll:(s.data.toList.drop n).length=s.size - n:=by rw[List.length_drop,lsize]
 have hpos:n+2+i+1<=s.size:=by
  have:=findT_le _ _ _ hf;rw[List.length_drop,lsize]at this;simp only[List.length_cons,List.length_nil]at this;omega
 have HRD:Hid (Rd s.data.toList n H T F (n+2+i+1) [] (T++txtH H++[⟨4,[],DD.data.toList,[],false⟩]) (F++[((141:Int),n)])):=Lib.hid (by
  have hf2:findT [62] ((s.data.toList.drop n).drop 2)=some i:=by rw[List.drop_drop];exact hf
  rw[note_some hf2]at hsg;have:=rd_note (H:=H) (T:=T) (F:=F) h60 hsg rfl (by show 1<=2+i+1;omega) rfl (by show(4:Int)≠1;decide);refine this.cast (by show n+(2+i+1)=_;omega) rfl ?_ ?_
  · rw[hDD]
    simp[List.drop_drop]
  · simp)
 have CF:=fail_hid 141 n;clear h60 hsg hf hDD hll;obtain⟨p,bv,tv,fv,hx⟩:=h0;have hbw:=hx.bw;have HX:=Lib.hid hx;clear hx t0 t1 t2 t3 t4 t5 t6
 go_enter Tryz.func103,Tryz.ntmps103
 have B0:Below B w w:=Below.refl _ _
 go_wp2_with fail
 (with_reducible refine(K0.out _ _ _ _ _ HX.out.x).mono ?_)
 rintro e wa0 ⟨rfl,bb⟩;have HX:=Lib.hid (HX.out.below bb);have B0:=B0.trans (bb.mono (Nat.le_trans hbw B0.size));clear bb K0
 go_wp2_with fail
 (with_reducible refine(K1.out _ _ _ _ _ HX.out.x).mono ?_)
 rintro e wa1 ⟨rfl,bb⟩;have HX:=Lib.hid (HX.out.below bb);have B0:=B0.trans (bb.mono (Nat.le_trans hbw B0.size));clear bb K1
 go_wp2_with fail
 (with_reducible refine(K2.out _ _ _ _ _ HX.out.x).mono ?_)
 rintro e wa2 ⟨rfl,bb⟩;have HX:=Lib.hid (HX.out.below bb);have B0:=B0.trans (bb.mono (Nat.le_trans hbw B0.size));clear bb K2
 go_wp2_with fail
 (with_reducible refine(K3.out _ _ _ _ _ HX.out.x).mono ?_)
 rintro e wa3 ⟨rfl,bb⟩;have HX:=Lib.hid (HX.out.below bb);have B0:=B0.trans (bb.mono (Nat.le_trans hbw B0.size));clear bb K3
 go_wp2_with fail
 (with_reducible refine(K4.out _ _ _ _ _ HX.out.x).mono ?_)
 rintro e wa4 ⟨rfl,bb⟩;have HX:=Lib.hid (HX.out.below bb);have B0:=B0.trans (bb.mono (Nat.le_trans hbw B0.size));clear bb K4
 go_wp2_with fail
 (with_reducible refine(K5.out _ _ _ _ _ HX.out.x).mono ?_)
 rintro e wa5 ⟨rfl,bb⟩;have HX:=Lib.hid (HX.out.below bb);have B0:=B0.trans (bb.mono (Nat.le_trans hbw B0.size));clear bb K5
 go_wp2_with fail
 (with_reducible refine(K6.out _ _ _ _ _ HX.out.x).mono ?_)
 rintro e wa6 ⟨rfl,bb⟩;have HX:=Lib.hid (HX.out.below bb);have B0:=B0.trans (bb.mono (Nat.le_trans hbw B0.size));clear bb K6;have d1:=HX.out.x.c1
 go_wp2_with fail
 (with_reducible refine(CF.out _ _ _ _ _ _ _ _ _ _ _ HX.out.form (by omega)).mono ?_)
 rintro e w2 ⟨rfl,h2,k2⟩;have B0:=B0.trans (HX.out.form.frb k2);clear k2 HX d1 CF
 go_wp2_with fail
 (with_reducible refine(C.out _ _ _ _ _ _ _ _ _ h2 (by rw[List.length_append];simp;omega) (by omega)).mono ?_)
 rintro e w3 ⟨rfl,h3,b3⟩
 have HR:Hid (RoundP B R s n H T F w (.returned (.tuple #[])) w3):=Lib.hid ⟨rfl,B0.trans b3,_,n+2+i+1,[],_,_,h3,HRD.out,by omega,by omega,noText_snoc _ (by show(4:Int)≠1;decide),by simp,by
  have:=txtH_len H;rw[List.length_append,List.length_append];simp only[List.length_cons,List.length_nil]
  omega,by simp only[List.length_append,List.length_cons,List.length_nil];omega⟩
 clear h3 b3 h2 B0 C HRD
 go_wp2
 go_end0
 exact HR.out
theorem leaf_note_no (s:ByteArray)(n:Nat)(t0:(beginsM [60,47] (s.data.toList.drop n)&&(s.data.toList[n+2]?).any letB)=false)(t1:(beginsM [60] (s.data.toList.drop n)&&(s.data.toList[n+1]?).any letB)=false)(t2:beginsM [60,33,45,45] (s.data.toList.drop n)=true)(h60:(s.data.toList.drop n).head? = some 60)(hsg:signS n (s.data.toList.drop n)=noteM 4 4 n [45,45,62] (s.data.toList.drop n))(hf:findT [45,45,62] (s.data.toList.drop (n+4))=none)(hnd:n+4<=s.size)(hn:n<s.size)(hs:s.size<=20000):Hid (∀ W B m R H T F,RS W B m R s n H T F (.slice none 0 0) []->H.length<=n->T.length<=n->F.length<=3 * n->NoText T->Calls Tryz.prog 103 #[.pointer (some ⟨R,0,none⟩)] W (RoundP B R s n H T F W)):=Lib.hid fun w B m R H T F h0 hH hT hF hNT=>by
 have K0:=beginsT_hid R s ⟨#[60,47]⟩ n false t0 (by omega) (by decide) (by omega) (by decide);have K1:=beginsT_hid R s ⟨#[60]⟩ n false t1 (by omega) (by decide) (by omega) (by decide);have K2:=begins_hid R s ⟨#[60,33,45,45]⟩ n true t2 (by omega) (by decide) (by omega) (by decide);obtain⟨DD,hDD⟩:=text_of ((s.data.toList.drop (n+4)));have C:=marked_note_no s ⟨#[45,45,62]⟩ DD n 4 hf hDD (by omega) hs;rw[show(((4:Nat)):Int)=4 from rfl]at C;have hll:(s.data.toList.drop n).length=s.size - n:=by rw[List.length_drop,lsize]
 have hpos:s.size<=s.size:=by
  exact Nat.le_refl _
 have HRD:Hid (Rd s.data.toList n H T F (s.size) [] (T++txtH H++[⟨4,[],DD.data.toList,[],false⟩]) (F++[((140:Int),n)])):=Lib.hid (by
  have hf2:findT [45,45,62] ((s.data.toList.drop n).drop 4)=none:=by rw[List.drop_drop];exact hf
  rw[note_none hf2]at hsg;have:=rd_note (H:=H) (T:=T) (F:=F) h60 hsg rfl (by show 1<=(s.data.toList.drop n).length;omega) rfl (by show(4:Int)≠1;decide);refine this.cast (by show n+(s.data.toList.drop n).length=_;omega) rfl ?_ ?_
  · rw[hDD]
    simp[List.drop_drop]
  · rfl)
 clear h60 hsg hf hDD hll;obtain⟨p,bv,tv,fv,hx⟩:=h0;have hbw:=hx.bw;have HX:=Lib.hid hx;clear hx t0 t1 t2
 go_enter Tryz.func103,Tryz.ntmps103
 have B0:Below B w w:=Below.refl _ _
 go_wp2_with fail
 (with_reducible refine(K0.out _ _ _ _ _ HX.out.x).mono ?_)
 rintro e wa0 ⟨rfl,bb⟩;have HX:=Lib.hid (HX.out.below bb);have B0:=B0.trans (bb.mono (Nat.le_trans hbw B0.size));clear bb K0
 go_wp2_with fail
 (with_reducible refine(K1.out _ _ _ _ _ HX.out.x).mono ?_)
 rintro e wa1 ⟨rfl,bb⟩;have HX:=Lib.hid (HX.out.below bb);have B0:=B0.trans (bb.mono (Nat.le_trans hbw B0.size));clear bb K1
 go_wp2_with fail
 (with_reducible refine(K2.out _ _ _ _ _ HX.out.x).mono ?_)
 rintro e wa2 ⟨rfl,bb⟩;have HX:=Lib.hid (HX.out.below bb);have B0:=B0.trans (bb.mono (Nat.le_trans hbw B0.size));clear bb K2;have h2:=HX.out.form;clear HX
 go_wp2_with fail
 (with_reducible refine(C.out _ _ _ _ _ _ _ _ _ h2 (by omega) (by omega)).mono ?_)
 rintro e w3 ⟨rfl,h3,b3⟩
 have HR:Hid (RoundP B R s n H T F w (.returned (.tuple #[])) w3):=Lib.hid ⟨rfl,B0.trans b3,_,s.size,[],_,_,h3,HRD.out,by omega,by omega,noText_snoc _ (by show(4:Int)≠1;decide),by simp,by
  have:=txtH_len H;rw[List.length_append,List.length_append];simp only[List.length_cons,List.length_nil]
  omega,by simp only[List.length_append,List.length_cons,List.length_nil];omega⟩
 clear h3 b3 h2 B0 C HRD
 go_wp2
 go_end0
 exact HR.out
theorem leaf_doc_no (s:ByteArray)(n:Nat)(t0:(beginsM [60,47] (s.data.toList.drop n)&&(s.data.toList[n+2]?).any letB)=false)(t1:(beginsM [60] (s.data.toList.drop n)&&(s.data.toList[n+1]?).any letB)=false)(t2:beginsM [60,33,45,45] (s.data.toList.drop n)=false)(t3:beginsM [60,33,100,111,99,116,121,112,101] (s.data.toList.drop n)=true)(h60:(s.data.toList.drop n).head? = some 60)(hsg:signS n (s.data.toList.drop n)=noteM 5 9 n [62] (s.data.toList.drop n))(hf:findT [62] (s.data.toList.drop (n+9))=none)(hnd:n+9<=s.size)(hn:n<s.size)(hs:s.size<=20000):Hid (∀ W B m R H T F,RS W B m R s n H T F (.slice none 0 0) []->H.length<=n->T.length<=n->F.length<=3 * n->NoText T->Calls Tryz.prog 103 #[.pointer (some ⟨R,0,none⟩)] W (RoundP B R s n H T F W)):=Lib.hid fun w B m R H T F h0 hH hT hF hNT=>by
 have K0:=beginsT_hid R s ⟨#[60,47]⟩ n false t0 (by omega) (by decide) (by omega) (by decide);have K1:=beginsT_hid R s ⟨#[60]⟩ n false t1 (by omega) (by decide) (by omega) (by decide);have K2:=begins_hid R s ⟨#[60,33,45,45]⟩ n false t2 (by omega) (by decide) (by omega) (by decide);have K3:=begins_hid R s ⟨#[60,33,100,111,99,116,121,112,101]⟩ n true t3 (by omega) (by decide) (by omega) (by decide);obtain⟨DD,hDD⟩:=text_of (trim (s.data.toList.drop (n+9)));have C:=marked_doc_no s ⟨#[62]⟩ DD n 9 hf hDD (by omega) hs;rw[show(((9:Nat)):Int)=9 from rfl]at C;have hll:(s.data.toList.drop n).length=s.size - n:=by rw[List.length_drop,lsize]
 have hpos:s.size<=s.size:=by
  exact Nat.le_refl _
 have HRD:Hid (Rd s.data.toList n H T F (s.size) [] (T++txtH H++[⟨5,[],DD.data.toList,[],false⟩]) (F++[((140:Int),n)])):=Lib.hid (by
  have hf2:findT [62] ((s.data.toList.drop n).drop 9)=none:=by rw[List.drop_drop];exact hf
  rw[note_none hf2]at hsg;have:=rd_note (H:=H) (T:=T) (F:=F) h60 hsg rfl (by show 1<=(s.data.toList.drop n).length;omega) rfl (by show(5:Int)≠1;decide);refine this.cast (by show n+(s.data.toList.drop n).length=_;omega) rfl ?_ ?_
  · rw[hDD]
    simp[List.drop_drop]
  · rfl)
 clear h60 hsg hf hDD hll;obtain⟨p,bv,tv,fv,hx⟩:=h0;have hbw:=hx.bw;have HX:=Lib.hid hx;clear hx t0 t1 t2 t3
 go_enter Tryz.func103,Tryz.ntmps103
 have B0:Below B w w:=Below.refl _ _
 go_wp2_with fail
 (with_reducible refine(K0.out _ _ _ _ _ HX.out.x).mono ?_)
 rintro e wa0 ⟨rfl,bb⟩;have HX:=Lib.hid (HX.out.below bb);have B0:=B0.trans (bb.mono (Nat.le_trans hbw B0.size));clear bb K0
 go_wp2_with fail
 (with_reducible refine(K1.out _ _ _ _ _ HX.out.x).mono ?_)
 rintro e wa1 ⟨rfl,bb⟩;have HX:=Lib.hid (HX.out.below bb);have B0:=B0.trans (bb.mono (Nat.le_trans hbw B0.size));clear bb K1
 go_wp2_with fail
 (with_reducible refine(K2.out _ _ _ _ _ HX.out.x).mono ?_)
 rintro e wa2 ⟨rfl,bb⟩;have HX:=Lib.hid (HX.out.below bb);have B0:=B0.trans (bb.mono (Nat.le_trans hbw B0.size));clear bb K2
 go_wp2_with fail
 (with_reducible refine(K3.out _ _ _ _ _ HX.out.x).mono ?_)
 rintro e wa3 ⟨rfl,bb⟩;have HX:=Lib.hid (HX.out.below bb);have B0:=B0.trans (bb.mono (Nat.le_trans hbw B0.size));clear bb K3;have h2:=HX.out.form;clear HX
 go_wp2_with fail
 (with_reducible refine(C.out _ _ _ _ _ _ _ _ _ h2 (by omega) (by omega)).mono ?_)
 rintro e w3 ⟨rfl,h3,b3⟩
 have HR:Hid (RoundP B R s n H T F w (.returned (.tuple #[])) w3):=Lib.hid ⟨rfl,B0.trans b3,_,s.size,[],_,_,h3,HRD.out,by omega,by omega,noText_snoc _ (by show(5:Int)≠1;decide),by simp,by
  have:=txtH_len H;rw[List.length_append,List.length_append];simp only[List.length_cons,List.length_nil]
  omega,by simp only[List.length_append,List.length_cons,List.length_nil];omega⟩
 clear h3 b3 h2 B0 C HRD
 go_wp2
 go_end0
 exact HR.out
theorem leaf_sign4_no (s:ByteArray)(n:Nat)(t0:(beginsM [60,47] (s.data.toList.drop n)&&(s.data.toList[n+2]?).any letB)=false)(t1:(beginsM [60] (s.data.toList.drop n)&&(s.data.toList[n+1]?).any letB)=false)(t2:beginsM [60,33,45,45] (s.data.toList.drop n)=false)(t3:beginsM [60,33,100,111,99,116,121,112,101] (s.data.toList.drop n)=false)(t4:beginsM [60,33] (s.data.toList.drop n)=true)(h60:(s.data.toList.drop n).head? = some 60)(hsg:signS n (s.data.toList.drop n)={ noteM 4 2 n [62] (s.data.toList.drop n)with f:=(141,n) :: (noteM 4 2 n [62] (s.data.toList.drop n)).f })(hf:findT [62] (s.data.toList.drop (n+2))=none)(hnd:n+2<=s.size)(_hn:n<s.size)(hs:s.size<=20000):Hid (∀ W B m R H T F,RS W B m R s n H T F (.slice none 0 0) []->H.length<=n->T.length<=n->F.length<=3 * n->NoText T->Calls Tryz.prog 103 #[.pointer (some ⟨R,0,none⟩)] W (RoundP B R s n H T F W)):=Lib.hid fun w B m R H T F h0 hH hT hF hNT=>by
 have K0:=beginsT_hid R s ⟨#[60,47]⟩ n false t0 (by omega) (by decide) (by omega) (by decide);have K1:=beginsT_hid R s ⟨#[60]⟩ n false t1 (by omega) (by decide) (by omega) (by decide);have K2:=begins_hid R s ⟨#[60,33,45,45]⟩ n false t2 (by omega) (by decide) (by omega) (by decide);have K3:=begins_hid R s ⟨#[60,33,100,111,99,116,121,112,101]⟩ n false t3 (by omega) (by decide) (by omega) (by decide);have K4:=begins_hid R s ⟨#[60,33]⟩ n true t4 (by omega) (by decide) (by omega) (by decide);obtain⟨DD,hDD⟩:=text_of ((s.data.toList.drop (n+2)));have C:=marked_note_no s ⟨#[62]⟩ DD n 2 hf hDD (by omega) hs;rw[show(((2:Nat)):Int)=2 from rfl]at C;have hll:(s.data.toList.drop n).length=s.size - n:=by rw[List.length_drop,lsize]
 have hpos:s.size<=s.size:=by
  exact Nat.le_refl _
 have HRD:Hid (Rd s.data.toList n H T F (s.size) [] (T++txtH H++[⟨4,[],DD.data.toList,[],false⟩]) ((F++[((141:Int),n)])++[((140:Int),n)])):=Lib.hid (by
  have hf2:findT [62] ((s.data.toList.drop n).drop 2)=none:=by rw[List.drop_drop];exact hf
  rw[note_none hf2]at hsg;have:=rd_note (H:=H) (T:=T) (F:=F) h60 hsg rfl (by show 1<=(s.data.toList.drop n).length;omega) rfl (by show(4:Int)≠1;decide);refine this.cast (by show n+(s.data.toList.drop n).length=_;omega) rfl ?_ ?_
  · rw[hDD]
    simp[List.drop_drop]
  · simp)
 have CF:=fail_hid 141 n;clear h60 hsg hf hDD hll;obtain⟨p,bv,tv,fv,hx⟩:=h0;have hbw:=hx.bw;have HX:=Lib.hid hx;clear hx t0 t1 t2 t3 t4
 go_enter Tryz.func103,Tryz.ntmps103
 have B0:Below B w w:=Below.refl _ _
 go_wp2_with fail
 (with_reducible refine(K0.out _ _ _ _ _ HX.out.x).mono ?_)
 rintro e wa0 ⟨rfl,bb⟩;have HX:=Lib.hid (HX.out.below bb);have B0:=B0.trans (bb.mono (Nat.le_trans hbw B0.size));clear bb K0
 go_wp2_with fail
 (with_reducible refine(K1.out _ _ _ _ _ HX.out.x).mono ?_)
 rintro e wa1 ⟨rfl,bb⟩;have HX:=Lib.hid (HX.out.below bb);have B0:=B0.trans (bb.mono (Nat.le_trans hbw B0.size));clear bb K1
 go_wp2_with fail
 (with_reducible refine(K2.out _ _ _ _ _ HX.out.x).mono ?_)
 rintro e wa2 ⟨rfl,bb⟩;have HX:=Lib.hid (HX.out.below bb);have B0:=B0.trans (bb.mono (Nat.le_trans hbw B0.size));clear bb K2
 go_wp2_with fail
 (with_reducible refine(K3.out _ _ _ _ _ HX.out.x).mono ?_)
 rintro e wa3 ⟨rfl,bb⟩;have HX:=Lib.hid (HX.out.below bb);have B0:=B0.trans (bb.mono (Nat.le_trans hbw B0.size));clear bb K3
 go_wp2_with fail
 (with_reducible refine(K4.out _ _ _ _ _ HX.out.x).mono ?_)
 rintro e wa4 ⟨rfl,bb⟩;have HX:=Lib.hid (HX.out.below bb);have B0:=B0.trans (bb.mono (Nat.le_trans hbw B0.size));clear bb K4;have d1:=HX.out.x.c1
 go_wp2_with fail
 (with_reducible refine(CF.out _ _ _ _ _ _ _ _ _ _ _ HX.out.form (by omega)).mono ?_)
 rintro e w2 ⟨rfl,h2,k2⟩;have B0:=B0.trans (HX.out.form.frb k2);clear k2 HX d1 CF
 go_wp2_with fail
 (with_reducible refine(C.out _ _ _ _ _ _ _ _ _ h2 (by rw[List.length_append];simp;omega) (by omega)).mono ?_)
 rintro e w3 ⟨rfl,h3,b3⟩
 have HR:Hid (RoundP B R s n H T F w (.returned (.tuple #[])) w3):=Lib.hid ⟨rfl,B0.trans b3,_,s.size,[],_,_,h3,HRD.out,by omega,by omega,noText_snoc _ (by show(4:Int)≠1;decide),by simp,by
  have:=txtH_len H;rw[List.length_append,List.length_append];simp only[List.length_cons,List.length_nil]
  omega,by simp only[List.length_append,List.length_cons,List.length_nil];omega⟩
 clear h3 b3 h2 B0 C HRD
 go_wp2
 go_end0
 exact HR.out
theorem leaf_sign5_no (s:ByteArray)(n:Nat)(t0:(beginsM [60,47] (s.data.toList.drop n)&&(s.data.toList[n+2]?).any letB)=false)(t1:(beginsM [60] (s.data.toList.drop n)&&(s.data.toList[n+1]?).any letB)=false)(t2:beginsM [60,33,45,45] (s.data.toList.drop n)=false)(t3:beginsM [60,33,100,111,99,116,121,112,101] (s.data.toList.drop n)=false)(t4:beginsM [60,33] (s.data.toList.drop n)=false)(t5:beginsM [60,63] (s.data.toList.drop n)=true)(h60:(s.data.toList.drop n).head? = some 60)(hsg:signS n (s.data.toList.drop n)={ noteM 4 2 n [62] (s.data.toList.drop n)with f:=(141,n) :: (noteM 4 2 n [62] (s.data.toList.drop n)).f })(hf:findT [62] (s.data.toList.drop (n+2))=none)(hnd:n+2<=s.size)(_hn:n<s.size)(hs:s.size<=20000):Hid (∀ W B m R H T F,RS W B m R s n H T F (.slice none 0 0) []->H.length<=n->T.length<=n->F.length<=3 * n->NoText T->Calls Tryz.prog 103 #[.pointer (some ⟨R,0,none⟩)] W (RoundP B R s n H T F W)):=Lib.hid fun w B m R H T F h0 hH hT hF hNT=>by
 have K0:=beginsT_hid R s ⟨#[60,47]⟩ n false t0 (by omega) (by decide) (by omega) (by decide);have K1:=beginsT_hid R s ⟨#[60]⟩ n false t1 (by omega) (by decide) (by omega) (by decide);have K2:=begins_hid R s ⟨#[60,33,45,45]⟩ n false t2 (by omega) (by decide) (by omega) (by decide);have K3:=begins_hid R s ⟨#[60,33,100,111,99,116,121,112,101]⟩ n false t3 (by omega) (by decide) (by omega) (by decide);have K4:=begins_hid R s ⟨#[60,33]⟩ n false t4 (by omega) (by decide) (by omega) (by decide);have K5:=begins_hid R s ⟨#[60,63]⟩ n true t5 (by omega) (by decide) (by omega) (by decide);obtain⟨DD,hDD⟩:=text_of ((s.data.toList.drop (n+2)));have C:=marked_note_no s ⟨#[62]⟩ DD n 2 hf hDD (by omega) hs;rw[show(((2:Nat)):Int)=2 from rfl]at C;have hll:(s.data.toList.drop n).length=s.size - n:=by rw[List.length_drop,lsize]
 have hpos:s.size<=s.size:=by
  exact Nat.le_refl _
 have HRD:Hid (Rd s.data.toList n H T F (s.size) [] (T++txtH H++[⟨4,[],DD.data.toList,[],false⟩]) ((F++[((141:Int),n)])++[((140:Int),n)])):=Lib.hid (by
  have hf2:findT [62] ((s.data.toList.drop n).drop 2)=none:=by rw[List.drop_drop];exact hf
  rw[note_none hf2]at hsg;have:=rd_note (H:=H) (T:=T) (F:=F) h60 hsg rfl (by show 1<=(s.data.toList.drop n).length;omega) rfl (by show(4:Int)≠1;decide);refine this.cast (by show n+(s.data.toList.drop n).length=_;omega) rfl ?_ ?_
  · rw[hDD]
    simp[List.drop_drop]
  · simp)
 have CF:=fail_hid 141 n;clear h60 hsg hf hDD hll;obtain⟨p,bv,tv,fv,hx⟩:=h0;have hbw:=hx.bw;have HX:=Lib.hid hx;clear hx t0 t1 t2 t3 t4 t5
 go_enter Tryz.func103,Tryz.ntmps103
 have B0:Below B w w:=Below.refl _ _
 go_wp2_with fail
 (with_reducible refine(K0.out _ _ _ _ _ HX.out.x).mono ?_)
 rintro e wa0 ⟨rfl,bb⟩;have HX:=Lib.hid (HX.out.below bb);have B0:=B0.trans (bb.mono (Nat.le_trans hbw B0.size));clear bb K0
 go_wp2_with fail
 (with_reducible refine(K1.out _ _ _ _ _ HX.out.x).mono ?_)
 rintro e wa1 ⟨rfl,bb⟩;have HX:=Lib.hid (HX.out.below bb);have B0:=B0.trans (bb.mono (Nat.le_trans hbw B0.size));clear bb K1
 go_wp2_with fail
 (with_reducible refine(K2.out _ _ _ _ _ HX.out.x).mono ?_)
 rintro e wa2 ⟨rfl,bb⟩;have HX:=Lib.hid (HX.out.below bb);have B0:=B0.trans (bb.mono (Nat.le_trans hbw B0.size));clear bb K2
 go_wp2_with fail
 (with_reducible refine(K3.out _ _ _ _ _ HX.out.x).mono ?_)
 rintro e wa3 ⟨rfl,bb⟩;have HX:=Lib.hid (HX.out.below bb);have B0:=B0.trans (bb.mono (Nat.le_trans hbw B0.size));clear bb K3
 go_wp2_with fail
 (with_reducible refine(K4.out _ _ _ _ _ HX.out.x).mono ?_)
 rintro e wa4 ⟨rfl,bb⟩;have HX:=Lib.hid (HX.out.below bb);have B0:=B0.trans (bb.mono (Nat.le_trans hbw B0.size));clear bb K4
 go_wp2_with fail
 (with_reducible refine(K5.out _ _ _ _ _ HX.out.x).mono ?_)
 rintro e wa5 ⟨rfl,bb⟩;have HX:=Lib.hid (HX.out.below bb);have B0:=B0.trans (bb.mono (Nat.le_trans hbw B0.size));clear bb K5;have d1:=HX.out.x.c1
 go_wp2_with fail
 (with_reducible refine(CF.out _ _ _ _ _ _ _ _ _ _ _ HX.out.form (by omega)).mono ?_)
 rintro e w2 ⟨rfl,h2,k2⟩;have B0:=B0.trans (HX.out.form.frb k2);clear k2 HX d1 CF
 go_wp2_with fail
 (with_reducible refine(C.out _ _ _ _ _ _ _ _ _ h2 (by rw[List.length_append];simp;omega) (by omega)).mono ?_)
 rintro e w3 ⟨rfl,h3,b3⟩
 have HR:Hid (RoundP B R s n H T F w (.returned (.tuple #[])) w3):=Lib.hid ⟨rfl,B0.trans b3,_,s.size,[],_,_,h3,HRD.out,by omega,by omega,noText_snoc _ (by show(4:Int)≠1;decide),by simp,by
  have:=txtH_len H;rw[List.length_append,List.length_append];simp only[List.length_cons,List.length_nil]
  omega,by simp only[List.length_append,List.length_cons,List.length_nil];omega⟩
 clear h3 b3 h2 B0 C HRD
 go_wp2
 go_end0
 exact HR.out
theorem leaf_sign6_no (s:ByteArray)(n:Nat)(t0:(beginsM [60,47] (s.data.toList.drop n)&&(s.data.toList[n+2]?).any letB)=false)(t1:(beginsM [60] (s.data.toList.drop n)&&(s.data.toList[n+1]?).any letB)=false)(t2:beginsM [60,33,45,45] (s.data.toList.drop n)=false)(t3:beginsM [60,33,100,111,99,116,121,112,101] (s.data.toList.drop n)=false)(t4:beginsM [60,33] (s.data.toList.drop n)=false)(t5:beginsM [60,63] (s.data.toList.drop n)=false)(t6:beginsM [60,47] (s.data.toList.drop n)=true)(h60:(s.data.toList.drop n).head? = some 60)(hsg:signS n (s.data.toList.drop n)={ noteM 4 2 n [62] (s.data.toList.drop n)with f:=(141,n) :: (noteM 4 2 n [62] (s.data.toList.drop n)).f })(hf:findT [62] (s.data.toList.drop (n+2))=none)(hnd:n+2<=s.size)(_hn:n<s.size)(hs:s.size<=20000):Hid (∀ W B m R H T F,RS W B m R s n H T F (.slice none 0 0) []->H.length<=n->T.length<=n->F.length<=3 * n->NoText T->Calls Tryz.prog 103 #[.pointer (some ⟨R,0,none⟩)] W (RoundP B R s n H T F W)):=Lib.hid fun w B m R H T F h0 hH hT hF hNT=>by
 have K0:=beginsT_hid R s ⟨#[60,47]⟩ n false t0 (by omega) (by decide) (by omega) (by decide);have K1:=beginsT_hid R s ⟨#[60]⟩ n false t1 (by omega) (by decide) (by omega) (by decide);have K2:=begins_hid R s ⟨#[60,33,45,45]⟩ n false t2 (by omega) (by decide) (by omega) (by decide);have K3:=begins_hid R s ⟨#[60,33,100,111,99,116,121,112,101]⟩ n false t3 (by omega) (by decide) (by omega) (by decide);have K4:=begins_hid R s ⟨#[60,33]⟩ n false t4 (by omega) (by decide) (by omega) (by decide);have K5:=begins_hid R s ⟨#[60,63]⟩ n false t5 (by omega) (by decide) (by omega) (by decide);have K6:=begins_hid R s ⟨#[60,47]⟩ n true t6 (by omega) (by decide) (by omega) (by decide);obtain⟨DD,hDD⟩:=text_of ((s.data.toList.drop (n+2)));have C:=marked_note_no s ⟨#[62]⟩ DD n 2 hf hDD (by omega) hs;rw[show(((2:Nat)):Int)=2 from rfl]at C;have hll:(s.data.toList.drop n).length=s.size - n:=by rw[List.length_drop,lsize]
 have hpos:s.size<=s.size:=by
  exact Nat.le_refl _
 have HRD:Hid (Rd s.data.toList n H T F (s.size) [] (T++txtH H++[⟨4,[],DD.data.toList,[],false⟩]) ((F++[((141:Int),n)])++[((140:Int),n)])):=Lib.hid (by
  have hf2:findT [62] ((s.data.toList.drop n).drop 2)=none:=by rw[List.drop_drop];exact hf
  rw[note_none hf2]at hsg;have:=rd_note (H:=H) (T:=T) (F:=F) h60 hsg rfl (by show 1<=(s.data.toList.drop n).length;omega) rfl (by show(4:Int)≠1;decide);refine this.cast (by show n+(s.data.toList.drop n).length=_;omega) rfl ?_ ?_
  · rw[hDD]
    simp[List.drop_drop]
  · simp)
 have CF:=fail_hid 141 n;clear h60 hsg hf hDD hll;obtain⟨p,bv,tv,fv,hx⟩:=h0;have hbw:=hx.bw;have HX:=Lib.hid hx;clear hx t0 t1 t2 t3 t4 t5 t6
 go_enter Tryz.func103,Tryz.ntmps103
 have B0:Below B w w:=Below.refl _ _
 go_wp2_with fail
 (with_reducible refine(K0.out _ _ _ _ _ HX.out.x).mono ?_)
 rintro e wa0 ⟨rfl,bb⟩;have HX:=Lib.hid (HX.out.below bb);have B0:=B0.trans (bb.mono (Nat.le_trans hbw B0.size));clear bb K0
 go_wp2_with fail
 (with_reducible refine(K1.out _ _ _ _ _ HX.out.x).mono ?_)
 rintro e wa1 ⟨rfl,bb⟩;have HX:=Lib.hid (HX.out.below bb);have B0:=B0.trans (bb.mono (Nat.le_trans hbw B0.size));clear bb K1
 go_wp2_with fail
 (with_reducible refine(K2.out _ _ _ _ _ HX.out.x).mono ?_)
 rintro e wa2 ⟨rfl,bb⟩;have HX:=Lib.hid (HX.out.below bb);have B0:=B0.trans (bb.mono (Nat.le_trans hbw B0.size));clear bb K2
 go_wp2_with fail
 (with_reducible refine(K3.out _ _ _ _ _ HX.out.x).mono ?_)
 rintro e wa3 ⟨rfl,bb⟩;have HX:=Lib.hid (HX.out.below bb);have B0:=B0.trans (bb.mono (Nat.le_trans hbw B0.size));clear bb K3
 go_wp2_with fail
 (with_reducible refine(K4.out _ _ _ _ _ HX.out.x).mono ?_)
 rintro e wa4 ⟨rfl,bb⟩;have HX:=Lib.hid (HX.out.below bb);have B0:=B0.trans (bb.mono (Nat.le_trans hbw B0.size));clear bb K4
 go_wp2_with fail
 (with_reducible refine(K5.out _ _ _ _ _ HX.out.x).mono ?_)
 rintro e wa5 ⟨rfl,bb⟩;have HX:=Lib.hid (HX.out.below bb);have B0:=B0.trans (bb.mono (Nat.le_trans hbw B0.size));clear bb K5
 go_wp2_with fail
 (with_reducible refine(K6.out _ _ _ _ _ HX.out.x).mono ?_)
 rintro e wa6 ⟨rfl,bb⟩;have HX:=Lib.hid (HX.out.below bb);have B0:=B0.trans (bb.mono (Nat.le_trans hbw B0.size));clear bb K6;have d1:=HX.out.x.c1
 go_wp2_with fail
 (with_reducible refine(CF.out _ _ _ _ _ _ _ _ _ _ _ HX.out.form (by omega)).mono ?_)
 rintro e w2 ⟨rfl,h2,k2⟩;have B0:=B0.trans (HX.out.form.frb k2);clear k2 HX d1 CF
 go_wp2_with fail
 (with_reducible refine(C.out _ _ _ _ _ _ _ _ _ h2 (by rw[List.length_append];simp;omega) (by omega)).mono ?_)
 rintro e w3 ⟨rfl,h3,b3⟩
 have HR:Hid (RoundP B R s n H T F w (.returned (.tuple #[])) w3):=Lib.hid ⟨rfl,B0.trans b3,_,s.size,[],_,_,h3,HRD.out,by omega,by omega,noText_snoc _ (by show(4:Int)≠1;decide),by simp,by
  have:=txtH_len H;rw[List.length_append,List.length_append];simp only[List.length_cons,List.length_nil]
  omega,by simp only[List.length_append,List.length_cons,List.length_nil];omega⟩
 clear h3 b3 h2 B0 C HRD
 go_wp2
 go_end0
 exact HR.out
theorem leaf_open (s:ByteArray)(n:Nat)(t0:(beginsM [60,47] (s.data.toList.drop n)&&(s.data.toList[n+2]?).any letB)=false)(t1:(beginsM [60] (s.data.toList.drop n)&&(s.data.toList[n+1]?).any letB)=false)(t2:beginsM [60,33,45,45] (s.data.toList.drop n)=false)(t3:beginsM [60,33,100,111,99,116,121,112,101] (s.data.toList.drop n)=false)(t4:beginsM [60,33] (s.data.toList.drop n)=false)(t5:beginsM [60,63] (s.data.toList.drop n)=false)(t6:beginsM [60,47] (s.data.toList.drop n)=false)(t7:beginsM [60] (s.data.toList.drop n)=true)(h60:(s.data.toList.drop n).head? = some 60)(hsg:signS n (s.data.toList.drop n)=⟨some (textT [60]),[(141,n)],1,[]⟩)(hn:n<s.size)(hs:s.size<=20000):Hid (∀ W B m R H T F,RS W B m R s n H T F (.slice none 0 0) []->H.length<=n->T.length<=n->F.length<=3 * n->NoText T->Calls Tryz.prog 103 #[.pointer (some ⟨R,0,none⟩)] W (RoundP B R s n H T F W)):=Lib.hid fun w B m R H T F h0 hH hT hF hNT=>by
 have K0:=beginsT_hid R s ⟨#[60,47]⟩ n false t0 (by omega) (by decide) (by omega) (by decide);have K1:=beginsT_hid R s ⟨#[60]⟩ n false t1 (by omega) (by decide) (by omega) (by decide);have K2:=begins_hid R s ⟨#[60,33,45,45]⟩ n false t2 (by omega) (by decide) (by omega) (by decide);have K3:=begins_hid R s ⟨#[60,33,100,111,99,116,121,112,101]⟩ n false t3 (by omega) (by decide) (by omega) (by decide);have K4:=begins_hid R s ⟨#[60,33]⟩ n false t4 (by omega) (by decide) (by omega) (by decide);have K5:=begins_hid R s ⟨#[60,63]⟩ n false t5 (by omega) (by decide) (by omega) (by decide);have K6:=begins_hid R s ⟨#[60,47]⟩ n false t6 (by omega) (by decide) (by omega) (by decide);have K7:=begins_hid R s ⟨#[60]⟩ n true t7 (by omega) (by decide) (by omega) (by decide);obtain⟨k,hk⟩:∃ k,k=1+((s.data.toList.drop n).drop 1).findIdx (· == 60):=⟨_,rfl⟩;have hkl:=idx_le (· == (60:UInt8)) ((s.data.toList.drop n).drop 1);rw[List.length_drop,List.length_drop,lsize]at hkl;obtain⟨P,hP⟩:=text_of ((s.data.toList.drop n).take k);obtain⟨D,hD⟩:=text_of (decT 0 P.data.toList).1;obtain⟨q,hq⟩:∃ q,(decT 0 P.data.toList).2=q:=⟨_,rfl⟩;have hd:decT 0 P.data.toList=(D.data.toList,q):=by rw[hD,<- hq]
 have hdl:=decT_len 0 P.data.toList;have hPl:P.data.toList.length<=k:=by rw[hP,List.length_take];exact Nat.min_le_left _ _
 rw[hd]at hdl;have C:=readText_hid s P D n k q hn hk hP hd hs;have HRD:Hid (Rd s.data.toList n H T F (n+k) (H++D.data.toList) T ((F++[((141:Int),n)])++failM n q)):=Lib.hid (rd_open hNT h60 hsg hk (by rw[<- hP];exact hd));have hDl:D.data.toList.length<=k:=Nat.le_trans hdl.1 hPl;have hql:(failM n q).length<=k:=by rw[failM,List.length_map];exact Nat.le_trans hdl.2 hPl
 have hk1:1<=k:=by omega
 have CF:=fail_hid 141 n;have hkn:n+k<=s.size:=by omega
 clear hP hD hq hd hdl hPl hk hkl h60 hsg;obtain⟨p,bv,tv,fv,hx⟩:=h0;have hbw:=hx.bw;have HX:=Lib.hid hx;clear hx t0 t1 t2 t3 t4 t5 t6 t7
 go_enter Tryz.func103,Tryz.ntmps103
 have B0:Below B w w:=Below.refl _ _
 go_wp2_with fail
 (with_reducible refine(K0.out _ _ _ _ _ HX.out.x).mono ?_)
 rintro e wa0 ⟨rfl,bb⟩;have HX:=Lib.hid (HX.out.below bb);have B0:=B0.trans (bb.mono (Nat.le_trans hbw B0.size));clear bb K0
 go_wp2_with fail
 (with_reducible refine(K1.out _ _ _ _ _ HX.out.x).mono ?_)
 rintro e wa1 ⟨rfl,bb⟩;have HX:=Lib.hid (HX.out.below bb);have B0:=B0.trans (bb.mono (Nat.le_trans hbw B0.size));clear bb K1
 go_wp2_with fail
 (with_reducible refine(K2.out _ _ _ _ _ HX.out.x).mono ?_)
 rintro e wa2 ⟨rfl,bb⟩;have HX:=Lib.hid (HX.out.below bb);have B0:=B0.trans (bb.mono (Nat.le_trans hbw B0.size));clear bb K2
 go_wp2_with fail
 (with_reducible refine(K3.out _ _ _ _ _ HX.out.x).mono ?_)
 rintro e wa3 ⟨rfl,bb⟩;have HX:=Lib.hid (HX.out.below bb);have B0:=B0.trans (bb.mono (Nat.le_trans hbw B0.size));clear bb K3
 go_wp2_with fail
 (with_reducible refine(K4.out _ _ _ _ _ HX.out.x).mono ?_)
 rintro e wa4 ⟨rfl,bb⟩;have HX:=Lib.hid (HX.out.below bb);have B0:=B0.trans (bb.mono (Nat.le_trans hbw B0.size));clear bb K4
 go_wp2_with fail
 (with_reducible refine(K5.out _ _ _ _ _ HX.out.x).mono ?_)
 rintro e wa5 ⟨rfl,bb⟩;have HX:=Lib.hid (HX.out.below bb);have B0:=B0.trans (bb.mono (Nat.le_trans hbw B0.size));clear bb K5
 go_wp2_with fail
 (with_reducible refine(K6.out _ _ _ _ _ HX.out.x).mono ?_)
 rintro e wa6 ⟨rfl,bb⟩;have HX:=Lib.hid (HX.out.below bb);have B0:=B0.trans (bb.mono (Nat.le_trans hbw B0.size));clear bb K6
 go_wp2_with fail
 (with_reducible refine(K7.out _ _ _ _ _ HX.out.x).mono ?_)
 rintro e wa7 ⟨rfl,bb⟩;have HX:=Lib.hid (HX.out.below bb);have B0:=B0.trans (bb.mono (Nat.le_trans hbw B0.size));clear bb K7;have d1:=HX.out.x.c1
 go_wp2_with fail
 (with_reducible refine(CF.out _ _ _ _ _ _ _ _ _ _ _ HX.out.form (by omega)).mono ?_)
 rintro e w2 ⟨rfl,h2,k2⟩;have B0:=B0.trans (HX.out.form.frb k2);clear k2 HX d1 CF
 go_wp2_with fail
 (with_reducible refine(C.out _ _ _ _ _ _ _ _ _ h2 (by rw[List.length_append];simp;omega) (by omega)).mono ?_)
 rintro e w3 ⟨rfl,h3,b3⟩;have HR:Hid (RoundP B R s n H T F w (.returned (.tuple #[])) w3):=Lib.hid ⟨rfl,B0.trans b3,_,n+k,_,T,_,h3,HRD.out,by omega,hkn,hNT,by rw[List.length_append];omega,by omega,by simp only[List.length_append,List.length_cons,List.length_nil];omega⟩;clear h3 b3 h2 B0 C HRD
 go_wp2
 go_end0
 exact HR.out
theorem leaf_text (s:ByteArray)(n:Nat)(t0:(beginsM [60,47] (s.data.toList.drop n)&&(s.data.toList[n+2]?).any letB)=false)(t1:(beginsM [60] (s.data.toList.drop n)&&(s.data.toList[n+1]?).any letB)=false)(t2:beginsM [60,33,45,45] (s.data.toList.drop n)=false)(t3:beginsM [60,33,100,111,99,116,121,112,101] (s.data.toList.drop n)=false)(t4:beginsM [60,33] (s.data.toList.drop n)=false)(t5:beginsM [60,63] (s.data.toList.drop n)=false)(t6:beginsM [60,47] (s.data.toList.drop n)=false)(t7:beginsM [60] (s.data.toList.drop n)=false)(h60:(s.data.toList.drop n).head? ≠ some 60)(hn:n<s.size)(hs:s.size<=20000):Hid (∀ W B m R H T F,RS W B m R s n H T F (.slice none 0 0) []->H.length<=n->T.length<=n->F.length<=3 * n->NoText T->Calls Tryz.prog 103 #[.pointer (some ⟨R,0,none⟩)] W (RoundP B R s n H T F W)):=Lib.hid fun w B m R H T F h0 hH hT hF hNT=>by
 have K0:=beginsT_hid R s ⟨#[60,47]⟩ n false t0 (by omega) (by decide) (by omega) (by decide);have K1:=beginsT_hid R s ⟨#[60]⟩ n false t1 (by omega) (by decide) (by omega) (by decide);have K2:=begins_hid R s ⟨#[60,33,45,45]⟩ n false t2 (by omega) (by decide) (by omega) (by decide);have K3:=begins_hid R s ⟨#[60,33,100,111,99,116,121,112,101]⟩ n false t3 (by omega) (by decide) (by omega) (by decide);have K4:=begins_hid R s ⟨#[60,33]⟩ n false t4 (by omega) (by decide) (by omega) (by decide);have K5:=begins_hid R s ⟨#[60,63]⟩ n false t5 (by omega) (by decide) (by omega) (by decide);have K6:=begins_hid R s ⟨#[60,47]⟩ n false t6 (by omega) (by decide) (by omega) (by decide);have K7:=begins_hid R s ⟨#[60]⟩ n false t7 (by omega) (by decide) (by omega) (by decide);obtain⟨k,hk⟩:∃ k,k=1+((s.data.toList.drop n).drop 1).findIdx (· == 60):=⟨_,rfl⟩;have hkl:=idx_le (· == (60:UInt8)) ((s.data.toList.drop n).drop 1);rw[List.length_drop,List.length_drop,lsize]at hkl;obtain⟨P,hP⟩:=text_of ((s.data.toList.drop n).take k);obtain⟨D,hD⟩:=text_of (decT 0 P.data.toList).1;obtain⟨q,hq⟩:∃ q,(decT 0 P.data.toList).2=q:=⟨_,rfl⟩;have hd:decT 0 P.data.toList=(D.data.toList,q):=by rw[hD,<- hq]
 have hdl:=decT_len 0 P.data.toList;have hPl:P.data.toList.length<=k:=by rw[hP,List.length_take];exact Nat.min_le_left _ _
 rw[hd]at hdl;have C:=readText_hid s P D n k q hn hk hP hd hs;have HRD:Hid (Rd s.data.toList n H T F (n+k) (H++D.data.toList) T (F++failM n q)):=Lib.hid (rd_text (by rw[lsize];exact hn) hNT h60 hk (by rw[<- hP];exact hd));have hDl:D.data.toList.length<=k:=Nat.le_trans hdl.1 hPl;have hql:(failM n q).length<=k:=by rw[failM,List.length_map];exact Nat.le_trans hdl.2 hPl
 have hk1:1<=k:=by omega
 have hkn:n+k<=s.size:=by omega
 clear hP hD hq hd hdl hPl hk hkl h60;obtain⟨p,bv,tv,fv,hx⟩:=h0;have hbw:=hx.bw;have HX:=Lib.hid hx;clear hx t0 t1 t2 t3 t4 t5 t6 t7
 go_enter Tryz.func103,Tryz.ntmps103
 have B0:Below B w w:=Below.refl _ _
 go_wp2_with fail
 (with_reducible refine(K0.out _ _ _ _ _ HX.out.x).mono ?_)
 rintro e wa0 ⟨rfl,bb⟩;have HX:=Lib.hid (HX.out.below bb);have B0:=B0.trans (bb.mono (Nat.le_trans hbw B0.size));clear bb K0
 go_wp2_with fail
 (with_reducible refine(K1.out _ _ _ _ _ HX.out.x).mono ?_)
 rintro e wa1 ⟨rfl,bb⟩;have HX:=Lib.hid (HX.out.below bb);have B0:=B0.trans (bb.mono (Nat.le_trans hbw B0.size));clear bb K1
 go_wp2_with fail
 (with_reducible refine(K2.out _ _ _ _ _ HX.out.x).mono ?_)
 rintro e wa2 ⟨rfl,bb⟩;have HX:=Lib.hid (HX.out.below bb);have B0:=B0.trans (bb.mono (Nat.le_trans hbw B0.size));clear bb K2
 go_wp2_with fail
 (with_reducible refine(K3.out _ _ _ _ _ HX.out.x).mono ?_)
 rintro e wa3 ⟨rfl,bb⟩;have HX:=Lib.hid (HX.out.below bb);have B0:=B0.trans (bb.mono (Nat.le_trans hbw B0.size));clear bb K3
 go_wp2_with fail
 (with_reducible refine(K4.out _ _ _ _ _ HX.out.x).mono ?_)
 rintro e wa4 ⟨rfl,bb⟩;have HX:=Lib.hid (HX.out.below bb);have B0:=B0.trans (bb.mono (Nat.le_trans hbw B0.size));clear bb K4
 go_wp2_with fail
 (with_reducible refine(K5.out _ _ _ _ _ HX.out.x).mono ?_)
 rintro e wa5 ⟨rfl,bb⟩;have HX:=Lib.hid (HX.out.below bb);have B0:=B0.trans (bb.mono (Nat.le_trans hbw B0.size));clear bb K5
 go_wp2_with fail
 (with_reducible refine(K6.out _ _ _ _ _ HX.out.x).mono ?_)
 rintro e wa6 ⟨rfl,bb⟩;have HX:=Lib.hid (HX.out.below bb);have B0:=B0.trans (bb.mono (Nat.le_trans hbw B0.size));clear bb K6
 go_wp2_with fail
 (with_reducible refine(K7.out _ _ _ _ _ HX.out.x).mono ?_)
 rintro e wa7 ⟨rfl,bb⟩;have HX:=Lib.hid (HX.out.below bb);have B0:=B0.trans (bb.mono (Nat.le_trans hbw B0.size));clear bb K7;have h2:=HX.out.form;clear HX
 go_wp2_with fail
 (with_reducible refine(C.out _ _ _ _ _ _ _ _ _ h2 (by omega) (by omega)).mono ?_)
 rintro e w3 ⟨rfl,h3,b3⟩;have HR:Hid (RoundP B R s n H T F w (.returned (.tuple #[])) w3):=Lib.hid ⟨rfl,B0.trans b3,_,n+k,_,T,_,h3,HRD.out,by omega,hkn,hNT,by rw[List.length_append];omega,by omega,by rw[List.length_append];omega⟩;clear h3 b3 h2 B0 C HRD
 go_wp2
 go_end0
 exact HR.out
end Go.Proofs.YtlnfbjbagmfpiaaGreatDoor
