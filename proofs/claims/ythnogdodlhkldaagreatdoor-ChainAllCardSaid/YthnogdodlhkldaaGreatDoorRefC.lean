/- Paths that are clean, what stands behind a scheme that is not ranked, digits, an address' text: the document's. -/
import Derived.Test.YthnogdodlhkldaaGreatDoorRefZ
import Derived.Test.YthnogdodlhkldaaGreatDoorWalkY
set_option maxRecDepth 100000
set_option maxHeartbeats 2000000
namespace Go.Proofs.YthnogdodlhkldaaGreatDoor
open Go.RowKit
theorem aR3 (s:ByteArray)(hs:s.size<=1000000)(w:World):Calls Tryz.prog 205 #[.string s] w fun e w'=>e=.returned (.bool (fI s.data.toList))/\Below w.heap.size w w':=by
 have hm:fI s.data.toList=(!s.data.toList.isEmpty&&bH 33 [63,35] s.data.toList&&decide (fT s.data.toList=s.data.toList)):=rfl;obtain⟨wi,hwi⟩:∃ wi,bH 33 [63,35] s.data.toList=wi:=⟨_,rfl⟩;have CV:Hid (∀ W,Calls Tryz.prog 206 #[.string s,.int .u8 63,.int .u8 35] W fun e w'=>e=.returned (.bool wi)/\w'=W):=pL 63 35 s wi hwi (by omega);rw[hwi]at hm
 by_cases h0:s.size=0
 · have hl:s.data.toList=[]:=List.length_eq_zero_iff.1 (by rw[aE];exact h0)
   have g:s.toList.isEmpty=true:=by rw[aF,hl];rfl
   have e:fI s.data.toList=false:=by rw[hm,hl];rfl
   rw[e];clear hl hm e hwi
   go_enter Tryz.func205,Tryz.ntmps205
   go_wp2
   go_ret
   exact⟨rfl,zB _ _⟩
 have hpos:0<s.size:=by omega
 obtain⟨b0,r,hr⟩:∃ b l,s.data.toList=b :: l:=by
  cases h:s.data.toList with
  | nil=>rw[<- aE,h]at hpos;cases hpos
  | cons b l=>exact⟨b,l,rfl⟩
 have g:s.toList.isEmpty=false:=by rw[aF,hr];rfl
 have hb0:s[0]=b0:=by
  obtain⟨b,h1,_,h3⟩:=xS hpos;rw[hr]at h1;simp at h1;rw[h3,h1]
 cases hsl:sl b0
 · have g2:((s[0].toNat:Int) != 47)=true:=by
    have:=aI0 s[0];rw[hb0,hsl]at this;rw[hb0,bne,this];rfl
   have e:fI s.data.toList=false:=by
    have h9:fT s.data.toList=[]:=by rw[hr];simp[fT,hsl]
    rw[hm,h9,hr];simp
   rw[e];clear hm e hb0 hr hsl hwi
   go_enter Tryz.func205,Tryz.ntmps205
   go_wp2
   go_ret
   exact⟨rfl,zB _ _⟩
 have g2:((s[0].toNat:Int) != 47)=false:=by
  have:=aI0 s[0];rw[hb0,hsl]at this;rw[hb0,bne,this];rfl
 cases wi
 · have e:fI s.data.toList=false:=by rw[hm];simp
   rw[e];clear hm e hb0 hr hsl hwi
   go_enter Tryz.func205,Tryz.ntmps205
   go_wp2_with (go_at_call 206;refine(CV.out _).mono ?_;rintro e w' ⟨rfl,rfl⟩)
   go_ret
   exact⟨rfl,zB _ _⟩
 have hb47:b0=47:=by simpa [sl] using hsl
 have hdr:s.data.toList.drop 1=r:=by rw[hr];rfl
 have CP:=fun W=>tC s hs hpos W;rw[hdr]at CP;obtain⟨L,hL⟩:∃ L,cut sl r=L:=⟨_,rfl⟩;rw[hL]at CP
 have hM:fI s.data.toList=L.all (fun x => !fX x):=by
  rw[hm,hr,hb47];rw[Bool.eq_iff_iff];have:=bH8 r;rw[hL]at this;simp[this]
 have HM:=zH hM
 have hLn:L.length<=1000001:=by
  have h2:=dU sl r;have h3:r.countP sl<=r.length:=List.countP_le_length;have h4:r.length+1=s.size:=by rw[<- aE s,hr];rfl
  rw[hL]at h2;omega
 have HCP:=zH CP;clear hm hwi hb0 hr hsl hb47 hdr CP hL hM
 go_enter Tryz.func205,Tryz.ntmps205
 go_wp2_with (go_at_call 206;refine(CV.out _).mono ?_;rintro e w ⟨rfl,rfl⟩)
 refine(HCP.out _).mono ?_;rintro e w2 ⟨v2,rfl,hown2,hb2⟩
 obtain⟨a9,c9,rfl⟩:∃ a c,v2=.slice a L.length c:=by
  rcases bS hown2 with ⟨rfl,h9⟩ | ⟨g,cap,rfl⟩
  · exact⟨_,_,by rw[h9]⟩
  · exact⟨_,_,rfl⟩
 have hcell:Hid (∀ j (h:j<L.length),∃ g,a9=some ⟨g,0,none⟩/\w2.cell? ⟨g,j,none⟩=some (dA L[j])):=zH fun j h=>by
  rcases bS hown2 with ⟨_,h9⟩ | ⟨g,cap,h9⟩
  · omega
  · obtain⟨rfl,rfl⟩:a9=some ⟨g,0,none⟩/\c9=cap:=by simpa using h9
    refine⟨g,rfl,?_⟩;rw[hown2.cellAt j (by omega)];simp[aC,List.getElem?_eq_getElem h]
 clear hown2 HCP CV
 go_wp2
 go_loop [4] (fun i=>∃ k:Nat,k<=L.length/\i=.int .i64 k/\Hid ((L.take k).all (fun x => !fX x)=true)) (fun i=>L.length - (intOf i).toNat)
 case atStart=>exact⟨0,by omega,rfl,zH rfl⟩
 case round =>
  obtain⟨k,hk,rfl,HS⟩:=hrel
  by_cases hlt:k<L.length
  · obtain⟨gg,rfl,hc⟩:=hcell.out k hlt
    obtain⟨X,hX⟩:=aO L[k];have hc2:w2.cell? ⟨gg,k,none⟩=some (.string X):=by rw[hc,<- hX];rfl
    have e1:(X.toList==[46])=decide (L[k]=[46]):=by rw[bJ,hX]
    have e2:(X.toList==[46,46])=decide (L[k]=[46,46]):=by rw[bJ,hX]
    have hst:=sU (fun x => !fX x) L k hlt HS.out;have hki:(k:Int)<(L.length:Int):=by omega
    by_cases h1:L[k]=[46]
    · rw[decide_eq_true h1]at e1
      have HR:Hid (false=fI s.data.toList):=zH (by rw[HM.out,hst.2 (by rw[h1];rfl)]);clear hst h1 hc hX e2
      go_wp2
      go_ret
      exact⟨aA HR.out,hb2⟩
    by_cases h2:L[k]=[46,46]
    · rw[decide_eq_false h1]at e1
      rw[decide_eq_true h2]at e2;have HR:Hid (false=fI s.data.toList):=zH (by rw[HM.out,hst.2 (by rw[h2];rfl)]);clear hst h1 h2 hc hX
      go_wp2
      go_ret
      exact⟨aA HR.out,hb2⟩
    · have hdd:fX L[k]=false:=by unfold fX;rw[decide_eq_false];rintro(h | h);exact h1 h;exact h2 h
      rw[decide_eq_false h1]at e1;rw[decide_eq_false h2]at e2;have HR:=zH (hst.1 (by rw[hdd];rfl));clear hst h1 h2 hc hX hdd
      go_wp2
      go_round
      case rel=>exact⟨k+1,by omega,by go_num,HR⟩
      case measure=>simp[intOf];omega
  · obtain rfl:k=L.length:=by omega
    have HR:Hid (true=fI s.data.toList):=zH (by
     have:=HS.out
     rw[List.take_length]at this;rw[HM.out,this])
    go_wp2
    go_ret
    exact⟨aA HR.out,hb2⟩
theorem aR2 (s:ByteArray)(b:Bool)(h:fI s.data.toList=b)(hs:s.size<=1000000):Hid (∀ W,Calls Tryz.prog 205 #[.string s] W fun e w'=>e=.returned (.bool b)/\Below W.heap.size W w') :=
 zH fun W=>by rw[<- h];exact aR3 s hs W
theorem rest_any (s:ByteArray)(hs:s.size<=1099511627776)(w:World):Calls Tryz.prog 203 #[.string s] w fun e w'=>e=.returned (.bool (bH 32 [35] s.data.toList&&decide (eI s.data.toList=s.data.toList)))/\w'=w:=by
 obtain⟨T,hT⟩:=aO (eI s.data.toList);have CT:=zS s T hT hs;have hq:=fZ T s;rw[hT]at hq;rw[<- hq];obtain⟨tb,htb⟩:∃ tb,(T.toList==s.toList)=tb:=⟨_,rfl⟩;rw[htb];clear hq hT
 go_enter Tryz.func203,Tryz.ntmps203
 go_wp2
 go_loop [3] (fun i=>∃ k:Nat,k<=s.size/\i=.int .i64 k/\Hid ((s.data.toList.take k).all (aD2 32 [35])=true)) (fun i=>s.size - (intOf i).toNat)
 case atStart=>exact⟨0,by omega,rfl,zH rfl⟩
 case round =>
  obtain⟨k,hk,rfl,HS⟩:=hrel
  by_cases hlt:k<s.size
  · have hst:=eO (aD2 32 [35]) hlt HS.out
    have hin:aD2 32 [35] s[k]=(decide (32<=s[k].toNat/\s[k].toNat<=126) && !(s[k]==35)):=by
     unfold aD2;simp only[List.contains_cons,List.contains_nil,Bool.or_false]
    have e1:=bR s[k] 35;rw[<- e1]at hin;change aD2 32 [35] s[k]=(decide (32<=s[k].toNat/\s[k].toNat<=126) && !((s[k].toNat:Int)==35))at hin;clear e1
    by_cases h1:(s[k].toNat:Int)<32
    · have HR:Hid (false=(bH 32 [35] s.data.toList&&tb)):=zH (by
       have:bH 32 [35] s.data.toList=false:=hst.2 (by rw[hin,decide_eq_false (by omega)];rfl)
       rw[this];rfl)
      clear hst hin
      go_wp2
      go_ret
      exact⟨aA HR.out,rfl⟩
    by_cases h2:126<(s[k].toNat:Int)
    · have HR:Hid (false=(bH 32 [35] s.data.toList&&tb)):=zH (by
       have:bH 32 [35] s.data.toList=false:=hst.2 (by rw[hin,decide_eq_false (by omega)];rfl)
       rw[this];rfl)
      clear hst hin
      go_wp2
      go_ret
      exact⟨aA HR.out,rfl⟩
    rw[decide_eq_true (by omega),Bool.true_and]at hin
    cases g1:((s[k].toNat:Int)==35)
    · rw[g1]at hin
      have HR:=zH (hst.1 hin);clear hst hin
      go_wp2
      go_round
      case rel=>exact⟨k+1,by omega,by go_num,HR⟩
      case measure=>simp[intOf];omega
    · rw[g1]at hin
      have HR:Hid (false=(bH 32 [35] s.data.toList&&tb)):=zH (by
       have:bH 32 [35] s.data.toList=false:=hst.2 hin
       rw[this];rfl)
      clear hst hin
      go_wp2
      go_ret
      exact⟨aA HR.out,rfl⟩
  · obtain rfl:k=s.size:=by omega
    have HR:Hid (tb=(bH 32 [35] s.data.toList&&tb)):=zH (by
     have h9:bH 32 [35] s.data.toList=true:=by
      have:=HS.out;rw[cQ]at this;exact this
     rw[h9];rfl)
    go_wp2_with (go_at_call 246;refine(CT.out _).mono ?_;rintro e w ⟨rfl,rfl⟩)
    go_ret
    exact⟨aA HR.out,rfl⟩
theorem rest_hid (s:ByteArray)(b:Bool)(h:(bH 32 [35] s.data.toList&&decide (eI s.data.toList=s.data.toList))=b)(hs:s.size<=1099511627776):Hid (∀ W,Calls Tryz.prog 203 #[.string s] W fun e w'=>e=.returned (.bool b)/\w'=W) :=
 zH fun W=>by rw[<- h];exact rest_any s hs W
theorem aQ7 (n:Nat)(hn:n<=65535)(T:ByteArray)(hT:T.data.toList=Lib.decDigits n)(w:World):Calls Tryz.prog 247 #[.int .i64 (n:Int)] w fun e w'=>e=.returned (.string T)/\w'=w:=by
 induction n using Nat.strongRecOn generalizing T w with
 | _ n ih =>
   by_cases h10:n<10
   · rw[Lib.decDigits,dif_pos h10]at hT
     have hc:n=0\/n=1\/n=2\/n=3\/n=4\/n=5\/n=6\/n=7\/n=8\/n=9:=by omega
     clear ih;rcases hc with rfl | rfl | rfl | rfl | rfl | rfl | rfl | rfl | rfl | rfl
     all_goals
      obtain rfl:=aM hT;clear hT
      go_enter Tryz.func247,Tryz.ntmps247
      go_wp2
      go_ret
      exact⟨rfl,rfl⟩
   · rw[Lib.decDigits,dif_neg h10]at hT
     obtain⟨T1,hT1⟩:=aO (Lib.decDigits (n / 10));obtain⟨T2,hT2⟩:=aO (Lib.decDigits (n % 10));have e2:Lib.decDigits (n % 10)=[UInt8.ofNat (48+n % 10)]:=by rw[Lib.decDigits,dif_pos (by omega)]
     have CA:Hid (∀ W,Calls Tryz.prog 247 #[.int .i64 ((n:Int) / 10)] W fun e w'=>e=.returned (.string T1)/\w'=W):=zH fun W=>by
      have:=ih (n / 10) (by omega) (by omega) T1 hT1 W;rw[Int.natCast_ediv]at this;exact this
     have CB:Hid (∀ W,Calls Tryz.prog 247 #[.int .i64 ((n:Int) % 10)] W fun e w'=>e=.returned (.string T2)/\w'=W):=zH fun W=>by
      have:=ih (n % 10) (by omega) (by omega) T2 hT2 W;rw[Int.natCast_emod]at this;exact this
     have hadd:=dG T1 T2 T (by rw[hT,hT1,hT2,e2]) (by
      have h1:=lX (n / 10);have h2:=lX (n % 10);rw[<- hT1,aE]at h1;rw[<- hT2,aE]at h2
      omega)
     have hz:¬ (n:Int)<10:=by omega
     clear ih hT hT1 hT2 e2 h10
     go_enter Tryz.func247,Tryz.ntmps247
     go_wp2_with fail
     refine(CA.out _).mono ?_;rintro e w ⟨rfl,rfl⟩
     go_wp2_with fail
     refine(CB.out _).mono ?_;rintro e w ⟨rfl,rfl⟩
     go_wp2
     go_ret
     exact⟨rfl,rfl⟩
theorem aQ6 (p:Int)(h0:0<=p)(h1:p<=65535)(T:ByteArray)(hT:T.data.toList=Lib.decDigits p.toNat):Hid (∀ W,Calls Tryz.prog 247 #[.int .i64 p] W fun e w'=>e=.returned (.string T)/\w'=W):=zH fun W=>by
 have:=aQ7 p.toNat (by omega) T hT W;rw[show((p.toNat:Nat):Int)=p by omega]at this;exact this
end Go.Proofs.YthnogdodlhkldaaGreatDoor
