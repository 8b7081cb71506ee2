/- The program's reader: a value in one word; an attribute. The program's reader: an attribute in one word, a raw name's text in one word; Fails that are taken back. -/
import Derived.Test.YtlnfbjbagmfpiaaGreatDoorTokZL
set_option maxRecDepth 100000
set_option maxHeartbeats 8000000
namespace Go.Proofs.YtlnfbjbagmfpiaaGreatDoor
open Go.RowKit
theorem value_hid (s D:ByteArray)(n:Nat)(hD:D.data.toList=(valP n (s.data.toList.drop n)).1.1)(hn:n<=s.size)(hs:s.size<=20000):Hid (∀ W B m R H T F v0 F0,RS W B m R s n H T F v0 F0->F.length<=400000->Calls Tryz.prog 189 #[.pointer (some ⟨R,0,none⟩)] W fun e w'=>e=.returned (.string D)/\RS w' B m R s (n+(valP n (s.data.toList.drop n)).2.1) H T (F++(valP n (s.data.toList.drop n)).1.2) v0 F0/\Kp (frD B R) W w'):=by
 obtain⟨b,hb⟩:∃ b,(s.data.toList.drop n).findIdx blkE=b:=⟨_,rfl⟩;have hbl:=find_le blkE s n hn;rw[hb]at hbl
 by_cases hh:(s.data.toList.drop (n+b)).head? = some 61
 · obtain⟨z,hz⟩:∃ z,(s.data.toList.drop (n+b+1)).findIdx blkE=z:=⟨_,rfl⟩
   obtain⟨g,hg⟩:∃ g,n+b+1+z=g:=⟨_,rfl⟩;have hv:=valP_at hb hh hz hg;rw[lsize]at hv
   by_cases h1:(s.data.toList.drop g).head? = some 34
   · have hr:=(head_drop h1).2
     rw[hr]at hv
     cases hf:findT [34] (s.data.toList.drop (g+1))with
     | some i =>
       rw[valB_quote (.inl rfl) hf]at hv;obtain⟨P,hP⟩:=text_of ((s.data.toList.drop (g+1)).take i);obtain⟨q,hq⟩:∃ q,(decT 0 P.data.toList).2=q:=⟨_,rfl⟩
       have hd:decT 0 P.data.toList=(D.data.toList,q):=by
        rw[hv]at hD;rw[hD,<- hq,<- hP,decL_shift]
       have C:=value_dq s P D n b z g hg q hb hh hz h1 i hf hP hd hn hs;rw[hv,<- hP,decL_fail hd];have e:n+(b+1+z+(i+2))=g+1+i+1:=by omega
       dsimp only;rw[e];exact C
     | none =>
       rw[valB_cut (.inl rfl) hf]at hv;obtain⟨P,hP⟩:=text_of (s.data.toList.drop (g+1));obtain⟨q,hq⟩:∃ q,(decT 0 P.data.toList).2=q:=⟨_,rfl⟩
       have hd:decT 0 P.data.toList=(D.data.toList,q):=by
        rw[hv]at hD;rw[hD,<- hq,<- hP,decL_shift]
       have C:=value_dq_cut s P D n b z g hg q hb hh hz h1 hf hP hd hn hs;rw[hv,<- hP,decL_fail hd];have e:n+(s.size - n)=s.size:=by omega
       dsimp only;rw[e];exact C
   · by_cases h2:(s.data.toList.drop g).head? = some 39
     · have hr:=(head_drop h2).2
       rw[hr]at hv
       cases hf:findT [39] (s.data.toList.drop (g+1))with
       | some i =>
         rw[valB_quote (.inr rfl) hf]at hv;obtain⟨P,hP⟩:=text_of ((s.data.toList.drop (g+1)).take i);obtain⟨q,hq⟩:∃ q,(decT 0 P.data.toList).2=q:=⟨_,rfl⟩
         have hd:decT 0 P.data.toList=(D.data.toList,q):=by
          rw[hv]at hD;rw[hD,<- hq,<- hP,decL_shift]
         have C:=value_sq s P D n b z g hg q hb hh hz h2 i hf hP hd hn hs;rw[hv,<- hP,decL_fail hd];have e:n+(b+1+z+(i+2))=g+1+i+1:=by omega
         dsimp only;rw[e];exact C
       | none =>
         rw[valB_cut (.inr rfl) hf]at hv;obtain⟨P,hP⟩:=text_of (s.data.toList.drop (g+1));obtain⟨q,hq⟩:∃ q,(decT 0 P.data.toList).2=q:=⟨_,rfl⟩
         have hd:decT 0 P.data.toList=(D.data.toList,q):=by
          rw[hv]at hD;rw[hD,<- hq,<- hP,decL_shift]
         have C:=value_sq_cut s P D n b z g hg q hb hh hz h2 hf hP hd hn hs;rw[hv,<- hP,decL_fail hd];have e:n+(s.size - n)=s.size:=by omega
         dsimp only;rw[e];exact C
     · rw[valB_word h1 h2]at hv
       obtain⟨i,hi⟩:∃ i,(s.data.toList.drop g).findIdx wordE=i:=⟨_,rfl⟩;rw[hi]at hv;obtain⟨P,hP⟩:=text_of ((s.data.toList.drop g).take i);obtain⟨q,hq⟩:∃ q,(decT 0 P.data.toList).2=q:=⟨_,rfl⟩
       have hd:decT 0 P.data.toList=(D.data.toList,q):=by
        rw[hv]at hD;rw[hD,<- hq,<- hP,decL_shift]
       have C:=value_word s P D n b z g hg q hb hh hz h1 h2 i hi hP hd hn hs;rw[hv,<- hP,decL_fail hd];have e:n+(b+1+z+i)=g+i:=by omega
       dsimp only;rw[e];exact C
 · have hh2:((s.data.toList.drop n).drop ((s.data.toList.drop n).findIdx blkE)).head? ≠ some 61:=by rw[hb,List.drop_drop];exact hh
   have hv:=valP_no (n:=n) hh2;rw[hb]at hv;have C:=value_none s n b hb hh hbl hs;rw[hv]at hD ⊢;obtain rfl:D=⟨#[]⟩:=text_is hD;dsimp only;simp only[List.append_nil];exact C
def TX (w:World)(Tb:Nat)(k:Int)(NM:ByteArray)(av:Value)(c:Bool):Prop:=w.heap[Tb]? = some (.cells #[.int .i64 k,.string NM,.string ⟨#[]⟩,av,.bool c] 57 (0,0))
section
variable {w w':World} {Tb:Nat} {k:Int} {NM:ByteArray} {av:Value} {c:Bool}
theorem TX.kp {P:Nat->TypeId->Prop}(h:TX w Tb k NM av c)(q:Kp P w w')(hn:¬ P Tb 57):TX w' Tb k NM av c:=q.cells h hn
theorem TX.c0 (h:TX w Tb k NM av c):w.cell? ⟨Tb,0,none⟩=some (.int .i64 k):=by rw[cell_of h];rfl
theorem TX.c1 (h:TX w Tb k NM av c):w.cell? ⟨Tb,1,none⟩=some (.string NM):=by rw[cell_of h];rfl
theorem TX.c2 (h:TX w Tb k NM av c):w.cell? ⟨Tb,2,none⟩=some (.string ⟨#[]⟩):=by rw[cell_of h];rfl
theorem TX.c3 (h:TX w Tb k NM av c):w.cell? ⟨Tb,3,none⟩=some av:=by rw[cell_of h];rfl
theorem TX.c4 (h:TX w Tb k NM av c):w.cell? ⟨Tb,4,none⟩=some (.bool c):=by rw[cell_of h];rfl
theorem TX.free (h:TX w Tb k NM av c)(j:Nat):w.frozen? ⟨Tb,j,none⟩=false:=open_of h j
theorem TX.set3 (h:TX w Tb k NM av c)(u:Value):TX (w.setCell ⟨Tb,3,none⟩ u) Tb k NM u c:=by unfold TX at *;rw[heap_setCell_same _ _ _ _ _ _ _ h];rfl
theorem TX.set4 (h:TX w Tb k NM av c)(u:Bool):TX (w.setCell ⟨Tb,4,none⟩ (.bool u)) Tb k NM av u:=by unfold TX at *;rw[heap_setCell_same _ _ _ _ _ _ _ h];rfl
end
def TA (w:World)(m Tb:Nat)(k:Int)(NM:ByteArray)(A:List (List UInt8 × List UInt8))(c:Bool)(av:Value):Prop:=TX w Tb k NM av c/\w.ownsRow m 41 2 av A.length (atC A)/\m<=Tb
theorem TA.kp {P:Nat->TypeId->Prop}{w w':World}{m Tb:Nat}{k:Int}{NM:ByteArray}{A:List (List UInt8 × List UInt8)}{c:Bool}{av:Value}(h:TA w m Tb k NM A c av)(q:Kp P w w')(h1:∀ j,m<=j->¬ P j 57)(h2:∀ j,m<=j->¬ P j 41):TA w' m Tb k NM A c av:=⟨h.1.kp q (h1 Tb h.2.2),q.row h.2.1 fun j _ hb=>h2 j hb,h.2.2⟩
theorem TA.below {w w':World}{m Tb:Nat}{k:Int}{NM:ByteArray}{A:List (List UInt8 × List UInt8)}{c:Bool}{av:Value}(h:TA w m Tb k NM A c av)(b:Below w.heap.size w w'):TA w' m Tb k NM A c av:=h.kp (Kp.of_below b (P:=fun _ _=>False)) (fun _ _ e=>e) fun _ _ e=>e
theorem TA.onR {w w':World}{m Tb R:Nat}{k:Int}{NM:ByteArray}{A:List (List UInt8 × List UInt8)}{c:Bool}{av:Value}(h:TA w m Tb k NM A c av)(q:Kp (onR R) w w')(hR:R<m):TA w' m Tb k NM A c av:=h.kp q (fun j hj e=>by have:j=R:=e;omega) fun j hj e=>by have:j=R:=e;omega
theorem TA.frD {w w':World}{m Tb R B:Nat}{k:Int}{NM:ByteArray}{A:List (List UInt8 × List UInt8)}{c:Bool}{av:Value}(h:TA w m Tb k NM A c av)(q:Kp (frD B R) w w')(hR:R<m):TA w' m Tb k NM A c av:=h.kp q (fun j hj e=>by
 rcases e with e | e
 · omega
 · exact absurd e.2 (by decide)) fun j hj e=>by
 rcases e with e | e
 · omega
 · exact absurd e.2 (by decide)
def frA (m:Nat)(k:Nat)(t:TypeId):Prop:=m<=k/\(t=57\/t=41)
theorem RS.side {w w':World}{B m R:Nat}{s:ByteArray}{n:Nat}{H:List UInt8}{T:List Tk}{F:List Fl}{v0:Value}{F0:List Fl}(h:RS w B m R s n H T F v0 F0)(k:Kp (frA m) w w'):RS w' B m R s n H T F v0 F0:=by
 obtain⟨p,bv,tv,fv,h⟩:=h;have hR:=h.hi;refine⟨p,bv,tv,fv,h.x.kp k (fun e=>by have:=e.1;omega),h.hp,k.row h.hb fun j hj _ e => ?_,h.hn,h.ht.kp k (fun j _ hj e=>by have:=e.1;omega) (fun j hj _ e => ?_),k.row h.hf fun j hj _ e => ?_,k.row h.h0 fun j hj _ e => ?_,h.h1,h.lo,h.hi,Nat.le_trans h.mw k.size,h.low.on (k.below (fun j t e=>by have:=e.1;have:=h.lo;omega) h.bw)⟩
 · rcases e.2 with e | e<;>exact absurd e (by decide)
 · obtain⟨cs,_,t2,_⟩:=h.ht
   have:=t2 j hj;have:=e.1;omega
 · rcases e.2 with e | e<;>exact absurd e (by decide)
 · rcases e.2 with e | e<;>exact absurd e (by decide)
theorem RS.sideb {w w':World}{B m R:Nat}{s:ByteArray}{n:Nat}{H:List UInt8}{T:List Tk}{F:List Fl}{v0:Value}{F0:List Fl}(h:RS w B m R s n H T F v0 F0)(k:Kp (frA m) w w'):Below B w w':=k.below (fun j t e=>by have:=e.1;have:=h.lo;have:=h.hi;omega) h.bw
theorem attr_one:oneOf [47,62,61]=attrE:=by
 funext c
 unfold oneOf attrE nameE;rw[Bool.or_assoc,Bool.or_assoc]
 congr 1
 rw[Bool.eq_iff_iff];simp
theorem attr_2_142 (s D:ByteArray)(n e1:Nat)(A:List (List UInt8 × List UInt8))(he:1+((s.data.toList.drop n).drop 1).findIdx attrE=e1)(hD:D.data.toList=(valP (n+e1) (s.data.toList.drop (n+e1))).1.1)(hr:refM A (low ((s.data.toList.drop n).take e1))=142)(hA:A.length<=30)(hn:n<s.size)(hs:s.size<=20000):Hid (∀ W B m R Tb NM c av H T F v0 F0,RS W B m R s n H T F v0 F0->TA W m Tb 2 NM A c av->F.length<=300000->Calls Tryz.prog 157 #[.pointer (some ⟨R,0,none⟩),.pointer (some ⟨Tb,0,none⟩)] W fun en w'=>en=.returned (.tuple #[])/\RS w' B m R s (n+e1+(valP (n+e1) (s.data.toList.drop (n+e1))).2.1) H T ((F++[((142:Int),n)])++(valP (n+e1) (s.data.toList.drop (n+e1))).1.2) v0 F0/\(∃ av',TA w' m Tb 2 NM A c av')/\Below B W w'):=Lib.hid fun w B m R Tb NM c av H T F v0 F0 h0 ht hF=>by
 have hel:=find_le attrE s (n+1) (by omega);rw[show s.data.toList.drop (n+1)=(s.data.toList.drop n).drop 1 by rw[List.drop_drop]]at hel;have hel2:n+e1<=s.size:=by omega
 obtain⟨U1,hU1⟩:=text_of ((s.data.toList.drop n).take 1);obtain⟨U2,hU2⟩:=text_of ((s.data.toList.drop (n+1)).take (((s.data.toList.drop (n+1)).findIdx attrE)));obtain⟨U,hU⟩:=text_of ((s.data.toList.drop n).take e1);obtain⟨X,hX⟩:=text_of (low ((s.data.toList.drop n).take e1));have he2:(s.data.toList.drop (n+1)).findIdx attrE=e1 - 1:=by rw[show s.data.toList.drop (n+1)=(s.data.toList.drop n).drop 1 by rw[List.drop_drop]];omega
 have hcat:U.data.toList=U1.data.toList++U2.data.toList:=by
  rw[hU,hU1,hU2,he2,show s.data.toList.drop (n+1)=(s.data.toList.drop n).drop 1 by rw[List.drop_drop],<- List.take_add]
  congr 1
  omega
 have hU1s:U1.size<=1:=by rw[<- lsize,hU1,List.length_take];exact Nat.min_le_left _ _
 have hU2s:U2.size<=20000:=by rw[<- lsize,hU2,List.length_take,List.length_drop,lsize];omega
 have hUs:U.size<=20000:=by rw[<- lsize,hU,List.length_take,List.length_drop,lsize];omega
 have a1:=add_to U1 U2 U hcat (by omega);have C1:=take_hid R s U1 n 1 hU1 (by omega) (by omega);rw[show(((1:Nat)):Int)=1 from rfl]at C1;have C2:=takeUntil_hid R s ⟨#[47,62,61]⟩ U2 (n+1) (by rw[show(⟨#[47,62,61]⟩:ByteArray).data.toList=[47,62,61]from rfl,attr_one];exact hU2) (by omega) (by omega);rw[show(⟨#[47,62,61]⟩:ByteArray).data.toList=[47,62,61]from rfl,attr_one,he2,show n+1+(e1 - 1)=n+e1 by omega]at C2;have CL:=lower_hid U X (by rw[hX,hU]) (by omega);have CV:=value_hid s D (n+e1) hD hel2 hs;have hp:=h0.low.low;obtain⟨p,bv,tv,fv,hx⟩:=h0
 obtain⟨aa,ac,rfl⟩:∃ aa ac,av=.slice aa A.length ac:=by
  rcases rowForms ht.2.1 with ⟨e1,e2⟩ | ⟨g,cc,e1⟩
  · exact⟨none,0,by rw[e1,e2]⟩
  · exact⟨_,_,e1⟩
 have HRF:Hid (refM A X.data.toList=142):=Lib.hid (by rw[hX];exact hr);have hbw:=hx.bw;have hRm:=hx.hi;have d1:=hx.x.c1;have HX:=Lib.hid hx;have HT0:=Lib.hid ht;have HXX:=Lib.hid hX;clear he hD hr hU1 hU2 hU hX hcat hel hel2 he2 hx hU1s hU2s hUs ht hp
 go_enter Tryz.func157,Tryz.ntmps157
 go_wp2_with fail
 have xd:RX w.drew R s n p bv tv fv:=HX.out.x
 go_region_law (first
  | (go_simp
     go_at_call 162
     (with_reducible refine(C1.out _ _ _ _ _ xd).mono ?_)
     rintro e w1 ⟨rfl,x1,k1⟩;have k1':Kp (onR R) w w1:=(Kp.refl _ w).drew.trans k1;have HX1:=Lib.hid (HX.out.moved x1 k1');have HT1:=Lib.hid (HT0.out.onR k1' hRm);have B1:=HX.out.form.onb k1'
     clear k1 k1' x1)
  | (go_simp
     go_at_call 154
     (with_reducible refine(C2.out _ _ _ _ _ HX1.out.x).mono ?_)
     rintro e w2 ⟨rfl,x2,k2⟩;have HX2:=Lib.hid (HX1.out.moved x2 k2).form;have HT2:=Lib.hid (HT1.out.onR k2 hRm);have B2:=B1.trans (HX1.out.form.onb k2)
     clear k2 x2)
  | (go_simp
     go_at_call 153
     (with_reducible refine(CL.out _).mono ?_)
     rintro e w3 ⟨rfl,b3⟩;have HX3:=Lib.hid (HX2.out.below b3);have HT3:=Lib.hid (HT2.out.below b3);have B3:=B2.trans (b3.mono (Nat.le_trans hbw B2.size))
     clear b3))
 all_goals
  have e3:=HT3.out.1.c3;have har:AttrsBy w3 m w3.heap.size (.slice aa A.length ac) A:=⟨HT3.out.2.1,fun j hj=>(HT3.out.2.1.lt j hj).2⟩;have CR:=refusal_hid A X 142 HRF.out m w3.heap.size aa ac (by omega)
  go_wp2_with fail
  (with_reducible refine(CR.out _ har).mono ?_)
  rintro e w4 ⟨rfl,b4⟩;have HX4:=Lib.hid (HX3.out.below b4);have HT4:=Lib.hid (HT3.out.below b4);have B4:=B3.trans (b4.mono (Nat.le_trans hbw B3.size));clear b4 HX3 HT3 B3 har e3 CR
  go_wp2_with fail
  have CF:=fail_hid 142 n
  (with_reducible refine(CF.out _ _ _ _ _ _ _ _ _ _ _ HX4.out (by omega)).mono ?_)
  rintro e w5 ⟨rfl,h5,k5⟩;have HX5:=Lib.hid h5;have HT5:=Lib.hid (HT4.out.frD k5 hRm);have B5:=B4.trans (HX4.out.frb k5);clear h5 k5 HX4 HT4 B4 CF
  go_wp2_with fail
  (with_reducible refine(CV.out _ _ _ _ _ _ _ _ _ HX5.out (by rw[List.length_append];simp;omega)).mono ?_)
  rintro e w6 ⟨rfl,h6,k6⟩;have HX6:=Lib.hid h6;have HT6:=Lib.hid (HT5.out.frD k6 hRm);have B6:=B5.trans (HX5.out.frb k6);clear h6 k6 HX5 HT5 B5;have e0:=HT6.out.1.c0
  go_wp2
  go_end0
  exact⟨rfl,HX6.out,⟨_,HT6.out⟩,B6⟩
theorem attr_2_2 (s D:ByteArray)(n e1:Nat)(A:List (List UInt8 × List UInt8))(he:1+((s.data.toList.drop n).drop 1).findIdx attrE=e1)(hD:D.data.toList=(valP (n+e1) (s.data.toList.drop (n+e1))).1.1)(hr:refM A (low ((s.data.toList.drop n).take e1))=2)(hA:A.length<=30)(hn:n<s.size)(hs:s.size<=20000):Hid (∀ W B m R Tb NM c av H T F v0 F0,RS W B m R s n H T F v0 F0->TA W m Tb 2 NM A c av->F.length<=300000->Calls Tryz.prog 157 #[.pointer (some ⟨R,0,none⟩),.pointer (some ⟨Tb,0,none⟩)] W fun en w'=>en=.returned (.tuple #[])/\RS w' B m R s (n+e1+(valP (n+e1) (s.data.toList.drop (n+e1))).2.1) H T ((F++[((2:Int),n)])++(valP (n+e1) (s.data.toList.drop (n+e1))).1.2) v0 F0/\(∃ av',TA w' m Tb 2 NM A c av')/\Below B W w'):=Lib.hid fun w B m R Tb NM c av H T F v0 F0 h0 ht hF=>by
 have hel:=find_le attrE s (n+1) (by omega);rw[show s.data.toList.drop (n+1)=(s.data.toList.drop n).drop 1 by rw[List.drop_drop]]at hel;have hel2:n+e1<=s.size:=by omega
 obtain⟨U1,hU1⟩:=text_of ((s.data.toList.drop n).take 1);obtain⟨U2,hU2⟩:=text_of ((s.data.toList.drop (n+1)).take (((s.data.toList.drop (n+1)).findIdx attrE)));obtain⟨U,hU⟩:=text_of ((s.data.toList.drop n).take e1);obtain⟨X,hX⟩:=text_of (low ((s.data.toList.drop n).take e1));have he2:(s.data.toList.drop (n+1)).findIdx attrE=e1 - 1:=by rw[show s.data.toList.drop (n+1)=(s.data.toList.drop n).drop 1 by rw[List.drop_drop]];omega
 have hcat:U.data.toList=U1.data.toList++U2.data.toList:=by
  rw[hU,hU1,hU2,he2,show s.data.toList.drop (n+1)=(s.data.toList.drop n).drop 1 by rw[List.drop_drop],<- List.take_add]
  congr 1
  omega
 have hU1s:U1.size<=1:=by rw[<- lsize,hU1,List.length_take];exact Nat.min_le_left _ _
 have hU2s:U2.size<=20000:=by rw[<- lsize,hU2,List.length_take,List.length_drop,lsize];omega
 have hUs:U.size<=20000:=by rw[<- lsize,hU,List.length_take,List.length_drop,lsize];omega
 have a1:=add_to U1 U2 U hcat (by omega);have C1:=take_hid R s U1 n 1 hU1 (by omega) (by omega);rw[show(((1:Nat)):Int)=1 from rfl]at C1;have C2:=takeUntil_hid R s ⟨#[47,62,61]⟩ U2 (n+1) (by rw[show(⟨#[47,62,61]⟩:ByteArray).data.toList=[47,62,61]from rfl,attr_one];exact hU2) (by omega) (by omega);rw[show(⟨#[47,62,61]⟩:ByteArray).data.toList=[47,62,61]from rfl,attr_one,he2,show n+1+(e1 - 1)=n+e1 by omega]at C2;have CL:=lower_hid U X (by rw[hX,hU]) (by omega);have CV:=value_hid s D (n+e1) hD hel2 hs;have hp:=h0.low.low;obtain⟨p,bv,tv,fv,hx⟩:=h0
 obtain⟨aa,ac,rfl⟩:∃ aa ac,av=.slice aa A.length ac:=by
  rcases rowForms ht.2.1 with ⟨e1,e2⟩ | ⟨g,cc,e1⟩
  · exact⟨none,0,by rw[e1,e2]⟩
  · exact⟨_,_,e1⟩
 have HRF:Hid (refM A X.data.toList=2):=Lib.hid (by rw[hX];exact hr);have hbw:=hx.bw;have hRm:=hx.hi;have d1:=hx.x.c1;have HX:=Lib.hid hx;have HT0:=Lib.hid ht;have HXX:=Lib.hid hX;clear he hD hr hU1 hU2 hU hX hcat hel hel2 he2 hx hU1s hU2s hUs ht hp
 go_enter Tryz.func157,Tryz.ntmps157
 go_wp2_with fail
 have xd:RX w.drew R s n p bv tv fv:=HX.out.x
 go_region_law (first
  | (go_simp
     go_at_call 162
     (with_reducible refine(C1.out _ _ _ _ _ xd).mono ?_)
     rintro e w1 ⟨rfl,x1,k1⟩;have k1':Kp (onR R) w w1:=(Kp.refl _ w).drew.trans k1;have HX1:=Lib.hid (HX.out.moved x1 k1');have HT1:=Lib.hid (HT0.out.onR k1' hRm);have B1:=HX.out.form.onb k1'
     clear k1 k1' x1)
  | (go_simp
     go_at_call 154
     (with_reducible refine(C2.out _ _ _ _ _ HX1.out.x).mono ?_)
     rintro e w2 ⟨rfl,x2,k2⟩;have HX2:=Lib.hid (HX1.out.moved x2 k2).form;have HT2:=Lib.hid (HT1.out.onR k2 hRm);have B2:=B1.trans (HX1.out.form.onb k2)
     clear k2 x2)
  | (go_simp
     go_at_call 153
     (with_reducible refine(CL.out _).mono ?_)
     rintro e w3 ⟨rfl,b3⟩;have HX3:=Lib.hid (HX2.out.below b3);have HT3:=Lib.hid (HT2.out.below b3);have B3:=B2.trans (b3.mono (Nat.le_trans hbw B2.size))
     clear b3))
 all_goals
  have e3:=HT3.out.1.c3;have har:AttrsBy w3 m w3.heap.size (.slice aa A.length ac) A:=⟨HT3.out.2.1,fun j hj=>(HT3.out.2.1.lt j hj).2⟩;have CR:=refusal_hid A X 2 HRF.out m w3.heap.size aa ac (by omega)
  go_wp2_with fail
  (with_reducible refine(CR.out _ har).mono ?_)
  rintro e w4 ⟨rfl,b4⟩;have HX4:=Lib.hid (HX3.out.below b4);have HT4:=Lib.hid (HT3.out.below b4);have B4:=B3.trans (b4.mono (Nat.le_trans hbw B3.size));clear b4 HX3 HT3 B3 har e3 CR
  go_wp2_with fail
  have CF:=fail_hid 2 n
  (with_reducible refine(CF.out _ _ _ _ _ _ _ _ _ _ _ HX4.out (by omega)).mono ?_)
  rintro e w5 ⟨rfl,h5,k5⟩;have HX5:=Lib.hid h5;have HT5:=Lib.hid (HT4.out.frD k5 hRm);have B5:=B4.trans (HX4.out.frb k5);clear h5 k5 HX4 HT4 B4 CF
  go_wp2_with fail
  (with_reducible refine(CV.out _ _ _ _ _ _ _ _ _ HX5.out (by rw[List.length_append];simp;omega)).mono ?_)
  rintro e w6 ⟨rfl,h6,k6⟩;have HX6:=Lib.hid h6;have HT6:=Lib.hid (HT5.out.frD k6 hRm);have B6:=B5.trans (HX5.out.frb k6);clear h6 k6 HX5 HT5 B5;have e0:=HT6.out.1.c0
  go_wp2
  go_end0
  exact⟨rfl,HX6.out,⟨_,HT6.out⟩,B6⟩
theorem attr_2_0 (s D:ByteArray)(n e1:Nat)(A:List (List UInt8 × List UInt8))(he:1+((s.data.toList.drop n).drop 1).findIdx attrE=e1)(hD:D.data.toList=(valP (n+e1) (s.data.toList.drop (n+e1))).1.1)(hr:refM A (low ((s.data.toList.drop n).take e1))=0)(hA:A.length<=30)(hn:n<s.size)(hs:s.size<=20000):Hid (∀ W B m R Tb NM c av H T F v0 F0,RS W B m R s n H T F v0 F0->TA W m Tb 2 NM A c av->F.length<=300000->Calls Tryz.prog 157 #[.pointer (some ⟨R,0,none⟩),.pointer (some ⟨Tb,0,none⟩)] W fun en w'=>en=.returned (.tuple #[])/\RS w' B m R s (n+e1+(valP (n+e1) (s.data.toList.drop (n+e1))).2.1) H T (F++(valP (n+e1) (s.data.toList.drop (n+e1))).1.2) v0 F0/\(∃ av',TA w' m Tb 2 NM (A++[(low ((s.data.toList.drop n).take e1),D.data.toList)]) c av')/\Below B W w'):=Lib.hid fun w B m R Tb NM c av H T F v0 F0 h0 ht hF=>by
 have hel:=find_le attrE s (n+1) (by omega);rw[show s.data.toList.drop (n+1)=(s.data.toList.drop n).drop 1 by rw[List.drop_drop]]at hel;have hel2:n+e1<=s.size:=by omega
 obtain⟨U1,hU1⟩:=text_of ((s.data.toList.drop n).take 1);obtain⟨U2,hU2⟩:=text_of ((s.data.toList.drop (n+1)).take (((s.data.toList.drop (n+1)).findIdx attrE)));obtain⟨U,hU⟩:=text_of ((s.data.toList.drop n).take e1);obtain⟨X,hX⟩:=text_of (low ((s.data.toList.drop n).take e1));have he2:(s.data.toList.drop (n+1)).findIdx attrE=e1 - 1:=by rw[show s.data.toList.drop (n+1)=(s.data.toList.drop n).drop 1 by rw[List.drop_drop]];omega
 have hcat:U.data.toList=U1.data.toList++U2.data.toList:=by
  rw[hU,hU1,hU2,he2,show s.data.toList.drop (n+1)=(s.data.toList.drop n).drop 1 by rw[List.drop_drop],<- List.take_add]
  congr 1
  omega
 have hU1s:U1.size<=1:=by rw[<- lsize,hU1,List.length_take];exact Nat.min_le_left _ _
 have hU2s:U2.size<=20000:=by rw[<- lsize,hU2,List.length_take,List.length_drop,lsize];omega
 have hUs:U.size<=20000:=by rw[<- lsize,hU,List.length_take,List.length_drop,lsize];omega
 have a1:=add_to U1 U2 U hcat (by omega);have C1:=take_hid R s U1 n 1 hU1 (by omega) (by omega);rw[show(((1:Nat)):Int)=1 from rfl]at C1;have C2:=takeUntil_hid R s ⟨#[47,62,61]⟩ U2 (n+1) (by rw[show(⟨#[47,62,61]⟩:ByteArray).data.toList=[47,62,61]from rfl,attr_one];exact hU2) (by omega) (by omega);rw[show(⟨#[47,62,61]⟩:ByteArray).data.toList=[47,62,61]from rfl,attr_one,he2,show n+1+(e1 - 1)=n+e1 by omega]at C2;have CL:=lower_hid U X (by rw[hX,hU]) (by omega);have CV:=value_hid s D (n+e1) hD hel2 hs;have hp:=h0.low.low;obtain⟨p,bv,tv,fv,hx⟩:=h0
 obtain⟨aa,ac,rfl⟩:∃ aa ac,av=.slice aa A.length ac:=by
  rcases rowForms ht.2.1 with ⟨e1,e2⟩ | ⟨g,cc,e1⟩
  · exact⟨none,0,by rw[e1,e2]⟩
  · exact⟨_,_,e1⟩
 have HRF:Hid (refM A X.data.toList=0):=Lib.hid (by rw[hX];exact hr);have hbw:=hx.bw;have hRm:=hx.hi;have d1:=hx.x.c1;have HX:=Lib.hid hx;have HT0:=Lib.hid ht;have HXX:=Lib.hid hX;clear he hD hr hU1 hU2 hU hX hcat hel hel2 he2 hx hU1s hU2s hUs ht hp
 go_enter Tryz.func157,Tryz.ntmps157
 go_wp2_with fail
 have xd:RX w.drew R s n p bv tv fv:=HX.out.x
 go_region_law (first
  | (go_simp
     go_at_call 162
     (with_reducible refine(C1.out _ _ _ _ _ xd).mono ?_)
     rintro e w1 ⟨rfl,x1,k1⟩;have k1':Kp (onR R) w w1:=(Kp.refl _ w).drew.trans k1;have HX1:=Lib.hid (HX.out.moved x1 k1');have HT1:=Lib.hid (HT0.out.onR k1' hRm);have B1:=HX.out.form.onb k1'
     clear k1 k1' x1)
  | (go_simp
     go_at_call 154
     (with_reducible refine(C2.out _ _ _ _ _ HX1.out.x).mono ?_)
     rintro e w2 ⟨rfl,x2,k2⟩;have HX2:=Lib.hid (HX1.out.moved x2 k2).form;have HT2:=Lib.hid (HT1.out.onR k2 hRm);have B2:=B1.trans (HX1.out.form.onb k2)
     clear k2 x2)
  | (go_simp
     go_at_call 153
     (with_reducible refine(CL.out _).mono ?_)
     rintro e w3 ⟨rfl,b3⟩;have HX3:=Lib.hid (HX2.out.below b3);have HT3:=Lib.hid (HT2.out.below b3);have B3:=B2.trans (b3.mono (Nat.le_trans hbw B2.size))
     clear b3))
 all_goals
  have e3:=HT3.out.1.c3;have har:AttrsBy w3 m w3.heap.size (.slice aa A.length ac) A:=⟨HT3.out.2.1,fun j hj=>(HT3.out.2.1.lt j hj).2⟩;have CR:=refusal_hid A X 0 HRF.out m w3.heap.size aa ac (by omega)
  go_wp2_with fail
  (with_reducible refine(CR.out _ har).mono ?_)
  rintro e w4 ⟨rfl,b4⟩;have HX4:=Lib.hid (HX3.out.below b4);have HT4:=Lib.hid (HT3.out.below b4);have B4:=B3.trans (b4.mono (Nat.le_trans hbw B3.size));clear b4 HX3 HT3 B3 har e3 CR
  go_wp2_with fail
  (with_reducible refine(CV.out _ _ _ _ _ _ _ _ _ HX4.out (by omega)).mono ?_)
  rintro e w6 ⟨rfl,h6,k6⟩;have HX6:=Lib.hid h6;have HT6:=Lib.hid (HT4.out.frD k6 hRm);have B6:=B4.trans (HX4.out.frb k6);clear h6 k6 HX4 HT4 B4;have e0:=HT6.out.1.c0;have e3:=HT6.out.1.c3;have hrow:=HT6.out.2.1;have hmw:m<=w6.heap.size:=HX6.out.mw;obtain⟨i1,hi1,hy0,hy1,hy2⟩:=info_parts TinfoA
  go_wp2_with (
   at_builtin
   go_loud (
    refine wpList_append_elder _ rfl _ _ 36 rfl m 41 i1 (.agg #[.string ⟨#[]⟩,.string ⟨#[]⟩]) 2 32 Tryz.underlying36 hi1 hy0 hy1 hy2 rfl (by decide) _ _ _ rfl (hrow.alloc _) ⟨w6.heap.size,0,none⟩ 1 1 [.string X,.string D] rfl rfl (cells_new w6 [.string X,.string D] 41) (fun x hx=>by simp at hx;rcases hx with rfl | rfl<;>rfl) (by unfold maxLen;omega) (by omega) (by simp;omega) ?_;intro v7 w7 hown7 hold7 hgrow7 hat7;have hne:(Value.slice aa A.length ac).ownBlock≠some Tb:=row_ne hrow HT6.out.1 (by decide)
    have t7:TX w7 Tb 2 NM (.slice aa A.length ac) c:=by
     have h1:TX (w6.alloc (.cells #[.string X,.string D] 41)) Tb 2 NM (.slice aa A.length ac) c:=HT6.out.1.kp (Kp.of_below ((Below.refl _ _).alloc (Nat.le_refl _) _) (P:=fun _ _=>False)) (fun e=>e);unfold TX at h1 ⊢;rw[hgrow7.block Tb (lt_of_block h1) (fun e=>hne e.symm)];exact h1
    have kk7:Kp (frA m) w6 w7:=(Kp.of_below ((Below.refl _ _).alloc (Nat.le_refl _) (.cells #[.string X,.string D] 41))).trans (Kp.of_grown hgrow7 (fun q c t fr hq hh=>by
     obtain⟨cur,h1,h2,_⟩:=row_block (hrow.alloc (.cells #[.string X,.string D] 41)) hq;rw[hh]at h1
     cases h1
     exact⟨h2,.inr rfl⟩) fun q hq=>by
     obtain⟨cur,h1,_⟩:=row_block (hrow.alloc (.cells #[.string X,.string D] 41)) hq
     exact⟨_,_,_,h1⟩)
    have HS7:=Lib.hid (t7.set3 v7);have HK8:Hid (Kp (frA m) w6 (w7.setCell ⟨Tb,3,none⟩ v7)):=Lib.hid (kk7.trans (Kp.of_set t7 v7 ⟨HT6.out.2.2,.inl rfl⟩))
    have HO7:Hid ((w7.setCell ⟨Tb,3,none⟩ v7).ownsRow m 41 2 v7 (A++[(X.data.toList,D.data.toList)]).length (atC (A++[(X.data.toList,D.data.toList)]))):=Lib.hid (by
     have h1:w7.ownsRow m 41 2 v7 (A++[(X.data.toList,D.data.toList)]).length (atC (A++[(X.data.toList,D.data.toList)])):=by
      rw[atC_snoc,List.length_append,strV_of (T:=X) rfl,strV_of (T:=D) rfl];exact hown7
     exact(Kp.of_set (P:=fun k _=>k=Tb) t7 v7 rfl).row h1 fun j hj _ e=>row_ne h1 t7 (by decide) (by rw[hj,e]))
    have e37:=t7.c3;have f37:=t7.free 3
    have HF7:Hid (∃ a k,v7=.slice a (A.length+1) k):=Lib.hid (by
     rcases rowForms hown7 with ⟨e1,e2⟩ | ⟨g,k,e1⟩
     · exact⟨none,0,by rw[e1,e2]⟩
     · exact⟨_,_,e1⟩)
    clear hown7 hold7 hgrow7 hat7 t7 kk7;obtain⟨va,vk,rfl⟩:=HF7.out
    clear HF7))
  go_end0
  have k8:=HK8.out;have hq:A++[(low ((s.data.toList.drop n).take e1),D.data.toList)]=A++[(X.data.toList,D.data.toList)]:=by rw[HXX.out]
  refine⟨rfl,HX6.out.side k8,⟨_,HS7.out,?_,HT6.out.2.2⟩,B6.trans (HX6.out.sideb k8)⟩;rw[hq];exact HO7.out
theorem attr_3_0 (s D:ByteArray)(n e1:Nat)(A:List (List UInt8 × List UInt8))(he:1+((s.data.toList.drop n).drop 1).findIdx attrE=e1)(hD:D.data.toList=(valP (n+e1) (s.data.toList.drop (n+e1))).1.1)(hr:refM A (low ((s.data.toList.drop n).take e1))=0)(hA:A.length<=30)(hn:n<s.size)(hs:s.size<=20000):Hid (∀ W B m R Tb NM c av H T F v0 F0,RS W B m R s n H T F v0 F0->TA W m Tb 3 NM A c av->F.length<=300000->Calls Tryz.prog 157 #[.pointer (some ⟨R,0,none⟩),.pointer (some ⟨Tb,0,none⟩)] W fun en w'=>en=.returned (.tuple #[])/\RS w' B m R s (n+e1+(valP (n+e1) (s.data.toList.drop (n+e1))).2.1) H T (F++(valP (n+e1) (s.data.toList.drop (n+e1))).1.2) v0 F0/\(∃ av',TA w' m Tb 3 NM A c av')/\Below B W w'):=Lib.hid fun w B m R Tb NM c av H T F v0 F0 h0 ht hF=>by
 have hel:=find_le attrE s (n+1) (by omega);rw[show s.data.toList.drop (n+1)=(s.data.toList.drop n).drop 1 by rw[List.drop_drop]]at hel;have hel2:n+e1<=s.size:=by omega
 obtain⟨U1,hU1⟩:=text_of ((s.data.toList.drop n).take 1);obtain⟨U2,hU2⟩:=text_of ((s.data.toList.drop (n+1)).take (((s.data.toList.drop (n+1)).findIdx attrE)));obtain⟨U,hU⟩:=text_of ((s.data.toList.drop n).take e1);obtain⟨X,hX⟩:=text_of (low ((s.data.toList.drop n).take e1));have he2:(s.data.toList.drop (n+1)).findIdx attrE=e1 - 1:=by rw[show s.data.toList.drop (n+1)=(s.data.toList.drop n).drop 1 by rw[List.drop_drop]];omega
 have hcat:U.data.toList=U1.data.toList++U2.data.toList:=by
  rw[hU,hU1,hU2,he2,show s.data.toList.drop (n+1)=(s.data.toList.drop n).drop 1 by rw[List.drop_drop],<- List.take_add]
  congr 1
  omega
 have hU1s:U1.size<=1:=by rw[<- lsize,hU1,List.length_take];exact Nat.min_le_left _ _
 have hU2s:U2.size<=20000:=by rw[<- lsize,hU2,List.length_take,List.length_drop,lsize];omega
 have hUs:U.size<=20000:=by rw[<- lsize,hU,List.length_take,List.length_drop,lsize];omega
 have a1:=add_to U1 U2 U hcat (by omega);have C1:=take_hid R s U1 n 1 hU1 (by omega) (by omega);rw[show(((1:Nat)):Int)=1 from rfl]at C1;have C2:=takeUntil_hid R s ⟨#[47,62,61]⟩ U2 (n+1) (by rw[show(⟨#[47,62,61]⟩:ByteArray).data.toList=[47,62,61]from rfl,attr_one];exact hU2) (by omega) (by omega);rw[show(⟨#[47,62,61]⟩:ByteArray).data.toList=[47,62,61]from rfl,attr_one,he2,show n+1+(e1 - 1)=n+e1 by omega]at C2;have CL:=lower_hid U X (by rw[hX,hU]) (by omega);have CV:=value_hid s D (n+e1) hD hel2 hs;have hp:=h0.low.low;obtain⟨p,bv,tv,fv,hx⟩:=h0
 obtain⟨aa,ac,rfl⟩:∃ aa ac,av=.slice aa A.length ac:=by
  rcases rowForms ht.2.1 with ⟨e1,e2⟩ | ⟨g,cc,e1⟩
  · exact⟨none,0,by rw[e1,e2]⟩
  · exact⟨_,_,e1⟩
 have HRF:Hid (refM A X.data.toList=0):=Lib.hid (by rw[hX];exact hr);have hbw:=hx.bw;have hRm:=hx.hi;have d1:=hx.x.c1;have HX:=Lib.hid hx;have HT0:=Lib.hid ht;have HXX:=Lib.hid hX;clear he hD hr hU1 hU2 hU hX hcat hel hel2 he2 hx hU1s hU2s hUs ht hp
 go_enter Tryz.func157,Tryz.ntmps157
 go_wp2_with fail
 have xd:RX w.drew R s n p bv tv fv:=HX.out.x
 go_region_law (first
  | (go_simp
     go_at_call 162
     (with_reducible refine(C1.out _ _ _ _ _ xd).mono ?_)
     rintro e w1 ⟨rfl,x1,k1⟩;have k1':Kp (onR R) w w1:=(Kp.refl _ w).drew.trans k1;have HX1:=Lib.hid (HX.out.moved x1 k1');have HT1:=Lib.hid (HT0.out.onR k1' hRm);have B1:=HX.out.form.onb k1'
     clear k1 k1' x1)
  | (go_simp
     go_at_call 154
     (with_reducible refine(C2.out _ _ _ _ _ HX1.out.x).mono ?_)
     rintro e w2 ⟨rfl,x2,k2⟩;have HX2:=Lib.hid (HX1.out.moved x2 k2).form;have HT2:=Lib.hid (HT1.out.onR k2 hRm);have B2:=B1.trans (HX1.out.form.onb k2)
     clear k2 x2)
  | (go_simp
     go_at_call 153
     (with_reducible refine(CL.out _).mono ?_)
     rintro e w3 ⟨rfl,b3⟩;have HX3:=Lib.hid (HX2.out.below b3);have HT3:=Lib.hid (HT2.out.below b3);have B3:=B2.trans (b3.mono (Nat.le_trans hbw B2.size))
     clear b3))
 all_goals
  have e3:=HT3.out.1.c3;have har:AttrsBy w3 m w3.heap.size (.slice aa A.length ac) A:=⟨HT3.out.2.1,fun j hj=>(HT3.out.2.1.lt j hj).2⟩;have CR:=refusal_hid A X 0 HRF.out m w3.heap.size aa ac (by omega)
  go_wp2_with fail
  (with_reducible refine(CR.out _ har).mono ?_)
  rintro e w4 ⟨rfl,b4⟩;have HX4:=Lib.hid (HX3.out.below b4);have HT4:=Lib.hid (HT3.out.below b4);have B4:=B3.trans (b4.mono (Nat.le_trans hbw B3.size));clear b4 HX3 HT3 B3 har e3 CR
  go_wp2_with fail
  (with_reducible refine(CV.out _ _ _ _ _ _ _ _ _ HX4.out (by omega)).mono ?_)
  rintro e w6 ⟨rfl,h6,k6⟩;have HX6:=Lib.hid h6;have HT6:=Lib.hid (HT4.out.frD k6 hRm);have B6:=B4.trans (HX4.out.frb k6);clear h6 k6 HX4 HT4 B4;have e0:=HT6.out.1.c0
  go_wp2
  go_end0
  exact⟨rfl,HX6.out,⟨_,HT6.out⟩,B6⟩
end Go.Proofs.YtlnfbjbagmfpiaaGreatDoor
namespace Go.Proofs.YtlnfbjbagmfpiaaGreatDoor
open Go.RowKit
theorem refM_142 {A:List (List UInt8 × List UInt8)}{x:List UInt8}(h:refM A x=142)(n:Nat)(v:List UInt8):takeM true A n x v=(A,[(142,n)]):=by
 unfold refM at h;unfold takeM;rw[if_pos rfl]
 by_cases ha:A.any (fun y=>y.1==x)=true
 · rw[if_pos ha]
 · rw[if_neg ha]at h
   split at h<;>omega
theorem refM_2 {A:List (List UInt8 × List UInt8)}{x:List UInt8}(h:refM A x=2)(n:Nat)(v:List UInt8):takeM true A n x v=(A,[(2,n)]):=by
 unfold refM at h;unfold takeM;rw[if_pos rfl]
 by_cases ha:A.any (fun y=>y.1==x)=true
 · rw[if_pos ha]at h;omega
 · rw[if_neg ha]at h ⊢
   by_cases hl:A.length=30
   · rw[if_pos (by omega)]
   · rw[if_neg hl]at h;omega
theorem refM_0 {A:List (List UInt8 × List UInt8)}{x:List UInt8}(h:refM A x=0)(hA:A.length<=30)(n:Nat)(v:List UInt8):takeM true A n x v=(A++[(x,v)],[]):=by
 unfold refM at h;unfold takeM;rw[if_pos rfl]
 by_cases ha:A.any (fun y=>y.1==x)=true
 · rw[if_pos ha]at h;omega
 · rw[if_neg ha]at h ⊢
   by_cases hl:A.length=30
   · rw[if_pos hl]at h;omega
   · rw[if_neg (by omega)]
theorem refM_cases (A:List (List UInt8 × List UInt8))(x:List UInt8):refM A x=142\/refM A x=2\/refM A x=0:=by
 unfold refM;split
 · exact .inl rfl
 · split
   · exact .inr (.inl rfl)
   · exact .inr (.inr rfl)
theorem refM_nil (x:List UInt8):refM [] x=0:=rfl
theorem takeM_len {A:List (List UInt8 × List UInt8)}(hA:A.length<=30)(st:Bool)(n:Nat)(x v:List UInt8):(takeM st A n x v).1.length<=30/\(takeM st A n x v).2.length<=1:=by
 unfold takeM;split
 · split
   · exact⟨hA,by simp⟩
   · split
     · exact⟨hA,by simp⟩
     · exact⟨by simp;omega,by simp⟩
 · exact⟨hA,by simp⟩
theorem attr2_hid (s:ByteArray)(n e1:Nat)(A:List (List UInt8 × List UInt8))(he:1+((s.data.toList.drop n).drop 1).findIdx attrE=e1)(hA:A.length<=30)(hn:n<s.size)(hs:s.size<=20000):Hid (∀ W B m R Tb NM c av H T F v0 F0,RS W B m R s n H T F v0 F0->TA W m Tb 2 NM A c av->F.length<=300000->Calls Tryz.prog 157 #[.pointer (some ⟨R,0,none⟩),.pointer (some ⟨Tb,0,none⟩)] W fun en w'=>en=.returned (.tuple #[])/\RS w' B m R s (n+e1+(valP (n+e1) (s.data.toList.drop (n+e1))).2.1) H T (F++(takeM true A n (low ((s.data.toList.drop n).take e1)) (valP (n+e1) (s.data.toList.drop (n+e1))).1.1).2++(valP (n+e1) (s.data.toList.drop (n+e1))).1.2) v0 F0/\(∃ av',TA w' m Tb 2 NM (takeM true A n (low ((s.data.toList.drop n).take e1)) (valP (n+e1) (s.data.toList.drop (n+e1))).1.1).1 c av')/\Below B W w'):=by
 obtain⟨D,hD⟩:=text_of (valP (n+e1) (s.data.toList.drop (n+e1))).1.1;rcases refM_cases A (low ((s.data.toList.drop n).take e1))with h | h | h
 · rw[refM_142 h]
   exact attr_2_142 s D n e1 A he hD h hA hn hs
 · rw[refM_2 h]
   exact attr_2_2 s D n e1 A he hD h hA hn hs
 · rw[refM_0 h hA]
   simp only[List.append_nil];have C:=attr_2_0 s D n e1 A he hD h hA hn hs;rw[hD]at C;exact C
theorem attr3_hid (s:ByteArray)(n e1:Nat)(he:1+((s.data.toList.drop n).drop 1).findIdx attrE=e1)(hn:n<s.size)(hs:s.size<=20000):Hid (∀ W B m R Tb NM c av H T F v0 F0,RS W B m R s n H T F v0 F0->TA W m Tb 3 NM [] c av->F.length<=300000->Calls Tryz.prog 157 #[.pointer (some ⟨R,0,none⟩),.pointer (some ⟨Tb,0,none⟩)] W fun en w'=>en=.returned (.tuple #[])/\RS w' B m R s (n+e1+(valP (n+e1) (s.data.toList.drop (n+e1))).2.1) H T (F++(valP (n+e1) (s.data.toList.drop (n+e1))).1.2) v0 F0/\(∃ av',TA w' m Tb 3 NM [] c av')/\Below B W w'):=by
 obtain⟨D,hD⟩:=text_of (valP (n+e1) (s.data.toList.drop (n+e1))).1.1;exact attr_3_0 s D n e1 [] he hD (refM_nil _) (by simp) hn hs
theorem ins_attr (s:List UInt8)(st sl:Bool)(n e1:Nat)(A:List (List UInt8 × List UInt8))(fl:List Fl)(c:UInt8)(hc:s[n]? = some c)(h1:c≠62)(h2:¬ (c=47\/blk c=true))(he:1+((s.drop n).drop 1).findIdx attrE=e1) :
 n+e1+(valP (n+e1) (s.drop (n+e1))).2.1<=s.length/\insG st n (s.drop n) A fl sl=insG st (n+e1+(valP (n+e1) (s.drop (n+e1))).2.1) (s.drop (n+e1+(valP (n+e1) (s.drop (n+e1))).2.1)) (takeM st A n (low ((s.drop n).take e1)) (valP (n+e1) (s.drop (n+e1))).1.1).1 (fl++(takeM st A n (low ((s.drop n).take e1)) (valP (n+e1) (s.drop (n+e1))).1.1).2++(valP (n+e1) (s.drop (n+e1))).1.2) false:=by
 obtain⟨hn,hcc⟩:=List.getElem?_eq_some_iff.1 hc;have hd:s.drop n=c :: s.drop (n+1):=by rw[List.drop_eq_getElem_cons hn,hcc]
 have hvl:=val_len (n+e1) (s.drop (n+e1));rw[List.length_drop]at hvl;have hel:=idx_le attrE ((s.drop n).drop 1);rw[List.length_drop,List.length_drop]at hel;have hva:=val_attr n (s.drop n);rw[he,List.drop_drop]at hva;have hle:n+e1+(valP (n+e1) (s.drop (n+e1))).2.1<=s.length:=by omega
 refine⟨hle,?_⟩
 have hi:insG st n (s.drop n) A fl sl=match attrM n (s.drop n)with
  | none=>none
  | some (x,v,k)=>insG st (n+k) ((s.drop n).drop k) (takeM st A n x v.1).1 (fl++(takeM st A n x v.1).2++v.2) false:=by
  rw[hd];exact insG_attr st n c (s.drop (n+1)) A fl sl h1 h2
 obtain⟨V,hV⟩:∃ V,valP (n+e1) (s.drop (n+e1))=V:=⟨_,rfl⟩;rw[hV]at hva hle hvl ⊢
 cases hb:V.2.2 with
 | true =>
   obtain⟨k,j,ha,hkj,hbl⟩:=hva.1 hb;rw[hi,ha];dsimp only;rw[List.drop_drop]at hbl ⊢;rw[insG_blanks st (n+k) j (s.drop (n+k)) _ _ (by rw[List.length_drop];omega) hbl,List.drop_drop,show n+k+j=n+e1+V.2.1 by omega]
 | false =>
   obtain⟨ha,hl⟩:=hva.2 hb;rw[List.length_drop]at hl;rw[hi,ha];have he2:n+e1+V.2.1=s.length:=by omega
   rw[he2,List.drop_of_length_le (Nat.le_refl _)];rfl
theorem readRaw_hid (s x D:ByteArray)(n:Nat)(hx:rawM x.data.toList=true)(hD:D.data.toList=if softM x.data.toList then (decL n ((s.data.toList.drop n).take (endM x.data.toList (s.data.toList.drop n)))).1 else (s.data.toList.drop n).take (endM x.data.toList (s.data.toList.drop n)))(hn:n<=s.size)(hs:s.size<=20000):Hid (∀ W B m R H T F v0 F0,RS W B m R s n H T F v0 F0->F.length<=200000->H.length<=500000->Calls Tryz.prog 160 #[.pointer (some ⟨R,0,none⟩),.string x] W fun e w'=>e=.returned (.tuple #[])/\RS w' B m R s (n+endM x.data.toList (s.data.toList.drop n)) (H++D.data.toList) T (F++rawF x.data.toList n (s.data.toList.drop n)) v0 F0/\Below B W w'):=by
 have hxn:low x.data.toList=x.data.toList:=by
  obtain⟨_,_,_,_,_,_,h⟩:=raw_names hx;exact h
 have hxs:x.size<=20000:=by
  unfold rawM at hx;simp only[Bool.or_eq_true,decide_eq_true_eq]at hx;rw[<- lsize];rcases hx with ((h | h) | h) | h<;>rw[h]<;>decide
 obtain⟨V,hV⟩:=text_of ((s.data.toList.drop n).take (endM x.data.toList (s.data.toList.drop n)));have hll:(s.data.toList.drop n).length=s.size - n:=by rw[List.length_drop,lsize]
 have hle:=endM_le x.data.toList (s.data.toList.drop n);rw[hll]at hle
 cases hs2:softM x.data.toList with
 | true =>
   have hk:(decide (x.data.toList=scriptN) || decide (x.data.toList=styleN))=false:=by
    unfold softM at hs2;simp only[Bool.or_eq_true,decide_eq_true_eq]at hs2;rcases hs2 with h | h<;>rw[h]<;>decide
   rw[hs2,if_pos rfl,<- hV,decL_shift]at hD;obtain⟨q,hq⟩:∃ q,(decT 0 V.data.toList).2=q:=⟨_,rfl⟩;have hd:decT 0 V.data.toList=(D.data.toList,q):=by rw[hD,<- hq]
   by_cases hc:endM x.data.toList (s.data.toList.drop n)<s.size - n
   · have e:rawF x.data.toList n (s.data.toList.drop n)=failM n q:=by
      unfold rawF rawS;dsimp only;rw[hs2,if_pos rfl,if_neg (by omega),<- hV,decL_fail hd,List.append_nil]
     rw[e];exact raw_closed_soft s x V D n q hc hV hd hk hn hxn hxs hs
   · have e:rawF x.data.toList n (s.data.toList.drop n)=failM n q++[((140:Int),n)]:=by
      unfold rawF rawS;dsimp only;rw[hs2,if_pos rfl,if_pos (by omega),<- hV,decL_fail hd]
     rw[e];simp only[<- List.append_assoc];exact raw_open_soft s x V D n q hc hV hd hk hn hxn hxs hs
 | false =>
   have hk:(decide (x.data.toList=scriptN) || decide (x.data.toList=styleN))=true:=by
    unfold rawM at hx;unfold softM at hs2;rw[Bool.or_assoc,hs2,Bool.or_false]at hx;exact hx
   rw[hs2]at hD;simp only[Bool.false_eq_true,if_false]at hD;obtain rfl:V=D:=text_same (by rw[hV,hD])
   by_cases hc:endM x.data.toList (s.data.toList.drop n)<s.size - n
   · have e:rawF x.data.toList n (s.data.toList.drop n)=[]:=by
      unfold rawF rawS;dsimp only;rw[hs2];simp only[Bool.false_eq_true,if_false];rw[if_neg (by omega)];rfl
     rw[e];simp only[List.append_nil];exact raw_closed_code s x V n hc hV hk hn hxn hxs hs
   · have e:rawF x.data.toList n (s.data.toList.drop n)=[((140:Int),n)]:=by
      unfold rawF rawS;dsimp only;rw[hs2];simp only[Bool.false_eq_true,if_false];rw[if_pos (by omega)];rfl
     rw[e];exact raw_open_code s x V n hc hV hk hn hxn hxs hs
theorem rawF_len (x:List UInt8)(n:Nat)(l:List UInt8):(rawF x n l).length<=endM x l+1:=by
 unfold rawF rawS;dsimp only;rw[List.length_append]
 have h1:(if softM x then decL n (l.take (endM x l)) else (l.take (endM x l),[])).2.length<=endM x l:=by
  split
  · unfold decL
    simp only[List.length_map];have:=(decT_len n (l.take (endM x l))).2;rw[List.length_take]at this;omega
  · simp
 have h2:(if endM x l=l.length then [((140:Int),n)] else []).length<=1:=by split<;>simp
 omega
theorem RV.restore {w:World}{B m R:Nat}{s:ByteArray}{n:Nat}{H:List UInt8}{T:List Tk}{F:List Fl}{v0:Value}{F0:List Fl}{p bv tv fv:Value}(h:RV w B m R s n H T F v0 F0 p bv tv fv):RV (w.setCell ⟨R,5,none⟩ v0) B m R s n H T F0 v0 F0 p bv tv v0:=by
 have k:=h.x.kset 5 v0;have ne:∀ {base size n:Nat} {e:TypeId} {v:Value} {xs:List Value},w.ownsRow base e size v n xs->147≠e->(w.setCell ⟨R,5,none⟩ v0).ownsRow base e size v n xs:=fun r hne=>k.row r fun j hj _ e=>row_ne r h.x hne (by rw[hj];exact congrArg some e);exact⟨h.x.set5 v0,h.hp,ne h.hb (by decide),h.hn,h.ht.at h.x k,ne h.h0 (by decide),ne h.h0 (by decide),fun _=>Nat.le_refl _,h.lo,h.hi,Nat.le_trans h.mw k.size,h.low.on (k.below (fun j t e=>by rw[show j=R from e];exact h.lo) h.bw)⟩
theorem RS.drop0 {w:World}{B m R:Nat}{s:ByteArray}{n:Nat}{H:List UInt8}{T:List Tk}{F:List Fl}{v0:Value}{F0:List Fl}(h:RS w B m R s n H T F v0 F0):RS w B m R s n H T F (.slice none 0 0) []:=by
 obtain⟨p,bv,tv,fv,h⟩:=h;exact⟨p,bv,tv,fv,h.x,h.hp,h.hb,h.hn,h.ht,h.hf,World.ownsRow_nil _ _ _ _,fun _=>Nat.zero_le _,h.lo,h.hi,h.mw,h.low⟩
theorem RV.hold {w:World}{B m R:Nat}{s:ByteArray}{n:Nat}{H:List UInt8}{T:List Tk}{F:List Fl}{v0:Value}{F0:List Fl}{p bv tv fv:Value}(h:RV w B m R s n H T F v0 F0 p bv tv fv):RV w B w.heap.size R s n H T F fv F p bv tv fv :=
 ⟨h.x,h.hp,h.hb,h.hn,h.ht.up h.mw,h.hf,h.hf,fun _=>Nat.le_refl _,h.lo,Nat.lt_of_lt_of_le h.hi h.mw,Nat.le_refl _,h.low⟩
theorem RS.pos {w:World}{B m R:Nat}{s:ByteArray}{n:Nat}{H:List UInt8}{T:List Tk}{F:List Fl}{v0:Value}{F0:List Fl}(h:RS w B m R s n H T F v0 F0):posOf R w=n:=by
 obtain⟨p,bv,tv,fv,h⟩:=h;exact h.x.pos
theorem ownsRow_low {w:World}{b base:Nat}{e:TypeId}{size:Nat}{v:Value}{n:Nat}{xs:List Value}(h:w.ownsRow base e size v n xs)(hb:b<=base):w.ownsRow b e size v n xs:=by
 refine⟨h.1,?_⟩;rcases h.2 with h2 | ⟨g,cap,cur,a1,a2,a3⟩
 · exact .inl h2
 · exact .inr ⟨g,cap,cur,a1,Nat.le_trans hb a2,a3⟩
def RoundP (B R:Nat)(s:ByteArray)(n:Nat)(H:List UInt8)(T:List Tk)(F:List Fl)(W:World)(e:Ending)(w':World):Prop :=
 e=.returned (.tuple #[])/\Below B W w'/\∃ m' n' H' T' F',RS w' B m' R s n' H' T' F' (.slice none 0 0) []/\Rd s.data.toList n H T F n' H' T' F'/\n<n'/\n'<=s.size/\NoText T'/\H'.length<=n'/\T'.length<=n'/\F'.length<=3 * n'
end Go.Proofs.YtlnfbjbagmfpiaaGreatDoor
