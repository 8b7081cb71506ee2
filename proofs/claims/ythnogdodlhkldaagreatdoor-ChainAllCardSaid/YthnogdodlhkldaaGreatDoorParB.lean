/- What is cut off, a port: the document's. A word is parsed as a source, the document's way: what a text begins with, a port, a text cut at another one. A text cut at ://, the document's way. -/
import Derived.Test.YthnogdodlhkldaaGreatDoorRefC
set_option maxRecDepth 100000
set_option maxHeartbeats 4000000
namespace Go.Proofs.YthnogdodlhkldaaGreatDoor
open Go.RowKit
theorem upto_hit (p:UInt8->Bool)(l:List UInt8)(k:Nat)(b:UInt8)(h:l[k]? = some b)(h0:(l.take k).all (fun x => !p x)=true)(hb:p b=true):upto p l=l.take k/\dD p l=l.drop k:=by
 induction l generalizing k with
 | nil=>cases h
 | cons a t ih =>
   cases k with
   | zero =>
     have:a=b:=by simpa using h
     subst this;simp[upto,dD,hb]
   | succ k =>
     simp only[List.take_succ_cons,List.all_cons,Bool.and_eq_true]at h0;have:=ih k (by simpa using h) h0.2;have ha:p a=false:=by simpa using h0.1
     unfold upto dD at *;simp[ha,this]
theorem aW9 (p:UInt8->Bool)(l:List UInt8)(h0:l.all (fun x => !p x)=true):upto p l=l/\dD p l=[]:=by
 induction l with
 | nil=>exact⟨rfl,rfl⟩
 | cons a t ih =>
   simp only[List.all_cons,Bool.and_eq_true]at h0;have:=ih h0.2;have ha:p a=false:=by simpa using h0.1
   unfold upto dD at *;simp[ha,this]
theorem cut1_any (L U R:ByteArray)(c:UInt8)(hU:U.data.toList=upto (eR c) L.data.toList)(hR:R.data.toList=dD (eR c) L.data.toList)(hL:L.size<=1000000000)(w:World):Calls Tryz.prog 136 #[.string L,.string ⟨#[c]⟩] w fun e w'=>e=.returned (.tuple #[.string U,.string R])/\Below w.heap.size w w':=by
 obtain⟨P,hP9⟩:∃ P,P=eR c:=⟨_,rfl⟩;have hPd:∀ b:UInt8,P b=((b.toNat:Int)==(c.toNat:Int)):=fun b=>by rw[hP9,bR];rfl
 rw[<- hP9]at hU hR;clear hP9
 have ix0:∀ W,(Instr.index 9 (.string ⟨#[c]⟩) (.int .i64 0)).run Tryz.prog W=.ok (.int .u8 (c.toNat:Int)) W:=fun W=>by
  rw[run_index_string (P:=Tryz.prog) W 9 _ .i64 0 Tryz.underlying9];rfl
 have HU:=zH (And.intro hU hR);clear hU hR
 go_enter Tryz.func136,Tryz.ntmps136
 go_wp2
 go_loopw [6,7] (fun i _ wr=>∃ k:Nat,k<=L.size/\i=.int .i64 k/\Hid ((L.data.toList.take k).all (fun x => !P x)=true)/\Below w.heap.size w wr) (fun i _ _=>L.size - (intOf i).toNat)
 case atStart=>exact⟨0,by omega,rfl,zH rfl,zB _ _⟩
 case round =>
  obtain⟨k,hk,rfl,HS,hbw⟩:=hrel
  by_cases hlt:k<L.size
  · have hst:=eO (fun x => !P x) hlt HS.out
    have hat:L.data.toList[k]? = some L[k]:=by
     obtain⟨b',h1,_,h3⟩:=iS hlt;rw[h1,h3]
    have hit:=fun(h:P L[k]=true)=>upto_hit P L.data.toList k L[k] hat HS.out h;have hcut:P L[k]=true->U.data.toList=L.data.toList.take k/\R.data.toList=L.data.toList.drop k:=fun h=>⟨HU.out.1.trans (hit h).1,HU.out.2.trans (hit h).2⟩;have sls:P L[k]=true->(∀ W,(Instr.slice 9 (.string L) none (some (.int .i64 (k:Int))) none).run Tryz.prog W=.ok (.string U) W)/\(∀ W,(Instr.slice 9 (.string L) (some (.int .i64 (k:Int))) none none).run Tryz.prog W=.ok (.string R) W):=fun h=>⟨iA L U k hk (hcut h).1,fD L R k hk (hcut h).2⟩;have hP:=hPd L[k];clear hit hcut hat hPd
    cases g1:((L[k].toNat:Int)==(c.toNat:Int))
    · have hpk:P L[k]=false:=by rw[hP,g1]
      have HR:=zH (hst.1 (by show(!P L[k])=true;rw[hpk];rfl));clear hst sls hP hpk
      go_wp2
      refine wp_loop_rounds 2 ?_;rw[rounds_succ]
      go_wp2
      go_quiet (fail)
      go_wp2
      rw[rounds_succ]
      go_wp2
      go_roundw
      case rel=>exact⟨k+1,by omega,by go_num,HR,by first | exact cL hbw _ | exact cL (cL hbw _) _⟩
      case measure=>simp[intOf];omega
    · have hpk:P L[k]=true:=by rw[hP,g1]
      obtain⟨s1,s2⟩:=sls hpk;clear hst sls hP hpk
      go_wp2
      refine wp_loop_rounds 2 ?_;rw[rounds_succ]
      go_wp2
      go_quiet (fail)
      go_wp2
      go_quiet (fail)
      go_wp2
      go_ret2
      exact⟨rfl,by first | exact cL (cL hbw _) _ | exact cL (cL (cL hbw _) _) _⟩
  · obtain rfl:k=L.size:=by omega
    have hn:=aW9 P L.data.toList (by have:=HS.out;rw[cQ]at this;exact this);rw[hn.1,hn.2]at HU;obtain rfl:U=L:=(aM HU.out.1).trans (aM rfl).symm;obtain rfl:R=⟨#[]⟩:=aM HU.out.2;clear hn HU HS
    go_wp2
    go_ret2
    exact⟨rfl,hbw⟩
theorem aF2 (c:UInt8)(L U R:ByteArray)(hU:U.data.toList=upto (eR c) L.data.toList)(hR:R.data.toList=dD (eR c) L.data.toList)(hL:L.size<=1000000000):Hid (∀ W,Calls Tryz.prog 136 #[.string L,.string ⟨#[c]⟩] W fun e w'=>e=.returned (.tuple #[.string U,.string R])/\Below W.heap.size W w') :=
 zH fun W=>cut1_any L U R c hU hR hL W
end Go.Proofs.YthnogdodlhkldaaGreatDoor
namespace Go.Proofs.YthnogdodlhkldaaGreatDoor
open Go.RowKit
theorem aX1 (s:ByteArray)(k:Nat):∃ U:ByteArray,U.data.toList=s.data.toList.take k:=⟨⟨(s.data.toList.take k).toArray⟩,rfl⟩
theorem bH0 (s:ByteArray)(k:Nat):∃ U:ByteArray,U.data.toList=s.data.toList.drop k:=⟨⟨(s.data.toList.drop k).toArray⟩,rfl⟩
theorem jG (s:ByteArray):∃ U:ByteArray,U.data.toList=bB s.data.toList:=⟨⟨(bB s.data.toList).toArray⟩,rfl⟩
theorem aR7 (s t:ByteArray)(hs:s.size<=1000000000)(b:Bool)(hb:mV s.data.toList t.data.toList=b)(w:World):Calls Tryz.prog 132 #[.string s,.string t] w fun e w'=>e=.returned (.bool b)/\Below w.heap.size w w':=by
 by_cases h:t.size<=s.size
 · obtain⟨U,hU⟩:=aX1 s t.size
   obtain⟨T,hT⟩:=jG U;have CL:=cK U T hT (by rw[<- aE,hU,List.length_take,aE];omega);have sl:=iA s U t.size h hU;obtain⟨b1,g1⟩:∃ b,(T.toList==t.toList)=b:=⟨_,rfl⟩;have HE:Hid (b1=b):=zH (by rw[<- g1,<- hb,fZ,hT,hU];unfold mV;rw[aE]);have z:(t.size:Int)<=(s.size:Int):=by omega
   clear hb hU hT h
   go_enter Tryz.func132,Tryz.ntmps132
   go_wp2_with fail
   refine(CL.out _).mono ?_;rintro e w1 ⟨rfl,b1'⟩
   go_wp2
   go_ret
   exact⟨aA HE.out,b1'⟩
 · have HE:Hid (false=b):=zH (by
    rw[<- hb];unfold mV;rw[Eq.comm,decide_eq_false_iff_not];intro e;have:=congrArg List.length e;rw[dS,List.length_take,aE,aE]at this
    omega)
   have z:¬ (t.size:Int)<=(s.size:Int):=by omega
   clear hb h
   go_enter Tryz.func132,Tryz.ntmps132
   go_wp2
   go_ret
   exact⟨aA HE.out,zB _ _⟩
theorem fY (s t:ByteArray)(hs:s.size<=1000000000)(b:Bool)(hb:mV s.data.toList t.data.toList=b):Hid (∀ W,Calls Tryz.prog 132 #[.string s,.string t] W fun e w'=>e=.returned (.bool b)/\Below W.heap.size W w'):=zH fun W=>aR7 s t hs b hb W
def numR:Option Nat->Int
 | some m=>if m=0\/65535<m then -2 else (m:Int)
 | none => -2
theorem sport_R {l:List UInt8}(h:l≠[42]):kR l=numR (tP l):=by
 unfold kR;rw[if_neg h]
 cases tP l<;>rfl
theorem aE3 (c:UInt8):(bQ c=true->¬ (c.toNat:Int)<48/\¬ (57:Int)<(c.toNat:Int))/\(bQ c=false->(c.toNat:Int)<48\/(¬ (c.toNat:Int)<48/\(57:Int)<(c.toNat:Int))):=by
 unfold bQ;constructor
 · intro h
   have:=of_decide_eq_true h;omega
 · intro h
   have:=of_decide_eq_false h;omega
theorem aX9 (s:ByteArray)(n:Int)(hn:kR s.data.toList=n)(w:World):Calls Tryz.prog 137 #[.string s] w fun e w'=>e=.returned (.int .i64 n)/\w'=w:=by
 have hm:tP s.data.toList=if s.data.toList=[]\/5<s.data.toList.length\/s.data.toList.all bQ=false then none else some (mD s.data.toList):=rfl;rw[aE]at hm;obtain⟨b0,g0⟩:∃ b,(s.toList==[42])=b:=⟨_,rfl⟩;have gx:=g0;rw[bJ]at gx;have HRET:∀ z:Int,z=n->Ending.returned (Value.int .i64 z)=.returned (.int .i64 n):=fun z h=>by rw[h]
 cases b0
 case true =>
  have HE:Hid ((-1:Int)=n):=zH (by rw[<- hn];unfold kR;rw[if_pos (of_decide_eq_true gx)]);clear gx hm hn
  go_enter Tryz.func137,Tryz.ntmps137
  go_wp2
  go_ret
  exact⟨HRET _ HE.out,rfl⟩
 have hsp:=sport_R (of_decide_eq_false gx);clear gx
 by_cases h0:s.size=0
 · have hl:s.data.toList=[]:=List.length_eq_zero_iff.1 (by rw[aE];exact h0)
   have HE:Hid ((-2:Int)=n):=zH (by rw[<- hn,hsp,hm,if_pos (.inl hl)];rfl);have g:(s.size:Int)<1:=by omega
   clear hm hl h0 hn hsp
   go_enter Tryz.func137,Tryz.ntmps137
   go_wp2
   go_ret
   exact⟨HRET _ HE.out,rfl⟩
 have g1:¬ (s.size:Int)<1:=by omega
 have hl0:s.data.toList≠[]:=fun h=>h0 (by rw[<- aE,h];rfl)
 by_cases h5:5<(s.size:Int)
 · have HE:Hid ((-2:Int)=n):=zH (by rw[<- hn,hsp,hm,if_pos (.inr (.inl (by omega)))];rfl)
   clear hm h0 hl0 hn hsp
   go_enter Tryz.func137,Tryz.ntmps137
   go_wp2
   go_ret
   exact⟨HRET _ HE.out,rfl⟩
 have HM:Hid ((s.data.toList.all bQ=false->(-2:Int)=n)/\(s.data.toList.all bQ=true->(if mD s.data.toList=0\/65535<mD s.data.toList then (-2:Int) else (mD s.data.toList:Int))=n)):=zH (by
  rw[<- hn,hsp,hm];constructor
  · intro h;rw[if_pos (.inr (.inr h))];rfl
  · intro h;rw[if_neg (show ¬ (s.data.toList=[]\/5<s.size\/s.data.toList.all bQ=false) by rintro(h1 | h1 | h1);exact hl0 h1;omega;rw[h]at h1;cases h1)];rfl)
 clear hm h0 hl0 hn hsp
 go_enter Tryz.func137,Tryz.ntmps137
 go_wp2
 go_loop [3,4] (fun n i=>∃ k m:Nat,k<=s.size/\i=.int .i64 k/\n=.int .i64 m/\m<=99999/\Hid (m=mD (s.data.toList.take k)/\(s.data.toList.take k).all bQ=true)) (fun _ i=>s.size - (intOf i).toNat)
 case atStart=>exact⟨0,0,by omega,rfl,rfl,by omega,zH ⟨rfl,rfl⟩⟩
 case round =>
  obtain⟨k,m,hk,rfl,rfl,hm5,HS⟩:=hrel
  by_cases hlt:k<s.size
  · have hst:=eO bQ hlt HS.out.2
    have hv:=uQ (s.data.toList.take k) s[k];rw[<- fV hlt,<- HS.out.1]at hv
    cases hd:bQ s[k]
    · have HR:Hid ((-2:Int)=n):=zH (HM.out.1 (hst.2 hd))
      have hdn:=(aE3 s[k]).2 hd;clear hd hst hv HM;rcases hdn with y1 | ⟨y1,y2⟩
      all_goals
       go_wp2
       go_ret
       exact⟨HRET _ HR.out,rfl⟩
    · obtain⟨y1,y2⟩:=(aE3 s[k]).1 hd
      have hall:=hst.1 hd;have hb:48<=s[k].toNat/\s[k].toNat<=57:=by simpa [bQ] using hd
      have hlt9:=numV_lt _ hall;rw[hv,List.length_take,aE]at hlt9;have hp:=pow_five (k:=min (k+1) s.size) (by omega);obtain⟨m2,hm2⟩:∃ m2:Nat,m2=m * 10+(s[k].toNat - 48):=⟨_,rfl⟩;rw[<- hm2]at hv hlt9;have hi:10 * (m:Int)+((s[k].toNat:Int) - 48)=(m2:Int):=by omega
      have hm29:m2<=99999:=by omega
      have HN:=zH (And.intro hv.symm hall);have b1:(48:Int)<=(s[k].toNat:Int):=by omega
      have b2:(s[k].toNat:Int)<=57:=by omega
      clear hd hst hv hall hb hlt9 hp hm2 HM
      go_wp2
      go_round
      case rel=>exact⟨k+1,m2,by omega,by go_num,by go_num,hm29,HN⟩
      case measure=>simp[intOf];omega
  · obtain rfl:k=s.size:=by omega
    have HS2:=HS.out;rw[cQ]at HS2;have hv:=HM.out.2 HS2.2;rw[<- HS2.1]at hv;clear HM HS HS2
    cases e0:((m:Int)==0)
    · by_cases h6:65535<(m:Int)
      · have HR:Hid ((-2:Int)=n):=zH (by rw[<- hv,if_pos (.inr (by omega))])
        clear hv
        go_wp2
        go_ret
        exact⟨HRET _ HR.out,rfl⟩
      · have HR:Hid ((m:Int)=n):=zH (by rw[<- hv,if_neg (by have:=beq_eq_false_iff_ne.1 e0;omega)])
        clear hv
        go_wp2
        go_ret
        exact⟨HRET _ HR.out,rfl⟩
    · have HR:Hid ((-2:Int)=n):=zH (by rw[<- hv,if_pos (.inl (by have:=beq_iff_eq.1 e0;omega))])
      clear hv
      go_wp2
      go_ret
      exact⟨HRET _ HR.out,rfl⟩
theorem aX8 (s:ByteArray)(n:Int)(hn:kR s.data.toList=n):Hid (∀ W,Calls Tryz.prog 137 #[.string s] W fun e w'=>e=.returned (.int .i64 n)/\w'=W):=zH fun W=>aX9 s n hn W
end Go.Proofs.YthnogdodlhkldaaGreatDoor
namespace Go.Proofs.YthnogdodlhkldaaGreatDoor
open Go.RowKit
theorem pre3 (l:List UInt8):[58,47,47].isPrefixOf l=decide (l.take 3=[58,47,47]):=by
 match l with
 | []=>rfl
 | [a]=>simp[List.isPrefixOf]
 | [a,b]=>simp[List.isPrefixOf]
 | a :: b :: c :: r =>
   rw[Bool.eq_iff_iff,decide_eq_true_eq];simp only[List.isPrefixOf,List.take_succ_cons,List.take_zero,Bool.and_true,Bool.and_eq_true,beq_iff_eq,List.cons.injEq,and_true];constructor
   · rintro⟨h1,h2,h3⟩;exact⟨h1.symm,h2.symm,h3.symm⟩
   · rintro⟨h1,h2,h3⟩;exact⟨h1.symm,h2.symm,h3.symm⟩
theorem uI:∀(i:Nat) (l:List UInt8),(∀ j,j<i->(l.drop j).take 3≠[58,47,47])->(l.drop i).take 3=[58,47,47]->kN l=some (l.take i,l.drop (i+3))
 | 0,l,_,h=>by
   cases l with
   | nil=>cases h
   | cons b l =>
     unfold kN;rw[pre3,if_pos (decide_eq_true (show(b :: l).take 3=[58,47,47]from h))];rfl
 | i+1,l,h0,h=>by
   cases l with
   | nil=>cases h
   | cons b l =>
     have h1:=h0 0 (by omega);rw[List.drop_zero]at h1;unfold kN;rw[pre3,if_neg (by rw[decide_eq_true_eq];exact h1),uI i l (fun j hj=>by have:=h0 (j+1) (by omega);rwa [List.drop_succ_cons]at this) (by rwa [List.drop_succ_cons]at h)];rw[Option.map_some,show i+1+3=(i+3)+1 by omega,List.drop_succ_cons,List.take_succ_cons]
theorem uH:∀(l:List UInt8),(∀ j,(l.drop j).take 3≠[58,47,47])->kN l=none
 | [],_=>rfl
 | b :: l,h=>by
   have h1:=h 0;rw[List.drop_zero]at h1;unfold kN;rw[pre3,if_neg (by rw[decide_eq_true_eq];exact h1),uH l fun j=>by have:=h (j+1);rwa [List.drop_succ_cons]at this];rfl
theorem aY3 (L U:ByteArray)(i j:Nat)(hij:i<=j)(hj:j<=L.size)(h:U.data.toList=(L.data.toList.drop i).take (j - i)):∀ W,(Instr.slice 9 (.string L) (some (.int .i64 (i:Int))) (some (.int .i64 (j:Int))) none).run Tryz.prog W=.ok (.string U) W:=fun W=>by
 have e:L.extract i j=U:=xP L U i j hij hj h;simp[Instr.slice,go_sem,e,hj,hij]
def bJ6 (l:List UInt8)(w:World)(e:Ending)(w':World):Prop:=Below w.heap.size w w'/\∃(A R:ByteArray) (b:Bool),e=.returned (.tuple #[.string A,.string R,.bool b])/\((b=true/\kN l=some (A.data.toList,R.data.toList))\/(b=false/\A.data.toList=l/\R.data.toList=[]/\kN l=none))
theorem rF (s:ByteArray)(hs:s.size<=1000000000)(w:World):Calls Tryz.prog 135 #[.string s,.string ⟨#[58,47,47]⟩] w (bJ6 s.data.toList w):=by
 go_enter Tryz.func135,Tryz.ntmps135
 go_wp2
 go_loop [7] (fun i=>∃ k:Nat,k<=s.size/\i=.int .i64 k/\Hid (∀ j,j<k->(s.data.toList.drop j).take 3≠[58,47,47])) (fun i=>s.size - (intOf i).toNat)
 case atStart=>exact⟨0,by omega,rfl,zH fun j h=>absurd h (Nat.not_lt_zero _)⟩
 case round =>
  obtain⟨k,hk,rfl,HN⟩:=hrel
  by_cases hlt:k+3<=s.size
  case neg =>
   have HE:Hid (kN s.data.toList=none):=zH (uH _ fun j e=>by
    by_cases hj:j<k
    · exact HN.out j hj e
    · have:=congrArg List.length e
      rw[List.length_take,List.length_drop,aE]at this;simp at this
      omega)
   have z:¬ (k:Int)+3<=(s.size:Int):=by omega
   clear HN
   go_wp2
   go_ret3
   exact⟨zB _ _,s,⟨#[]⟩,false,rfl,.inr ⟨rfl,rfl,rfl,HE.out⟩⟩
  have z:(k:Int)+3<=(s.size:Int):=by omega
  have hU:(s.extract k (k+3)).data.toList=(s.data.toList.drop k).take 3:=by rw[dF];congr 1;omega
  obtain⟨b,g⟩:∃ b,((s.extract k (k+3)).toList==[58,47,47])=b:=⟨_,rfl⟩;have gx:=g;rw[bJ,hU]at gx
  cases b
  · have HM:Hid (∀ j,j<k+1->(s.data.toList.drop j).take 3≠[58,47,47]):=zH fun j hj=>by
     by_cases e:j=k
     · subst e;exact of_decide_eq_false gx
     · exact HN.out j (by omega)
    clear HN gx hU
    go_wp2
    go_round
    case rel=>exact⟨k+1,by omega,by go_num,HM⟩
    case measure=>simp[intOf];omega
  · have HE:Hid (kN s.data.toList=some ((s.extract 0 k).data.toList,(s.extract (k+3) s.size).data.toList)):=zH (by
     have e:(s.data.toList.drop (k+3)).take (s.size - (k+3))=s.data.toList.drop (k+3):=List.take_of_length_le (by rw[List.length_drop,aE];omega)
     rw[dF,dF,uI k _ HN.out (of_decide_eq_true gx),List.drop_zero,Nat.sub_zero,e])
    clear HN gx hU
    go_wp2
    go_quiet (fail)
    go_wp2
    go_ret3
    exact⟨cL (zB _ _) nq,_,_,true,rfl,.inl ⟨rfl,HE.out⟩⟩
end Go.Proofs.YthnogdodlhkldaaGreatDoor
