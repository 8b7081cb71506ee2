/- What the library answers, at this seat: a text repeated. Laid by the shelf's tool in plain words. One sign: the program's number, the document's value; texts without their =; a text's form, the program's. A text's form: the program's, the document's; a sign's value, a text's head, a text as it is written: the document's. A text's head, a text's form, a text as it is written: the document's. Bits in groups: the program's regroup. Rows that are written: signs of numbers, numbers of signs: the program's. Encode and Decode: the program's. -/
import Derived.Shelf.Strings.Builder2
import Derived.Shelf.Strings.OnBuilder
import Derived.Shelf.Strings.BuilderF
import Derived.Shelf.Strings.BuilderK
import Derived.Shelf.Strings.Repeat
import Derived.Test.YthnogdodlhkldaaGreatDoorWalkX
import Derived.WalkKit
import Derived.WalkSpells
import Derived.WalkLawsBesides
import Derived.BigQuiet
import Derived.Deep.QuietTactic
import Derived.Deep.LoopGhost
import Derived.Outline
import Derived.Lib.SlBytesRow
import Derived.Lib.SlBytesConst
import Derived.Lib.ConvBytes
import Derived.Lib.SmallJoins
import Derived.Lib.Hide
import Derived.OwnWalk
set_option maxRecDepth 100000
set_option maxHeartbeats 2000000
namespace Go.Proofs
open Go.Shelf
end Go.Proofs
namespace Go.Proofs.YthnogdodlhkldaaGreatDoor
open Go.RowKit
theorem vX (c:UInt8)(n:Int)(hn:Lib.indexByte SG c=n):Hid (∀ W,Calls Tryz.prog 120 #[.string ⟨SG.toArray⟩,.int .u8 (c.toNat:Int)] W fun e w'=>e=.returned (.int .i64 n)/\w'=W) :=
 zH fun W=>by
  have h:=Tryz.strings_IndexByte ⟨SG.toArray⟩ (c.toNat:Int) W;have e:((c.toNat:Int)).toNat.toUInt8=c:=by simp
  rw[e]at h;rw[<- hn];exact h
theorem aB6 (c:UInt8)(w:World):Calls Tryz.prog 227 #[.int .u8 (c.toNat:Int)] w fun e w'=>e=.returned (.int .i64 (mY c))/\w'=w:=by
 have hb:c.toNat<=255:=by have:=c.toNat_lt;omega
 by_cases h1:c=45
 · subst h1
   have C:=vX 43 (mY 45) rfl;generalize mY 45=n at *
   go_enter Tryz.func227,Tryz.ntmps227
   go_wp2_with (go_at_call 120;refine(C.out _).mono ?_;rintro e w' ⟨rfl,rfl⟩)
   go_ret
   exact⟨rfl,rfl⟩
 by_cases h2:c=95
 · subst h2
   have C:=vX 47 (mY 95) rfl;generalize mY 95=n at *
   go_enter Tryz.func227,Tryz.ntmps227
   go_wp2_with (go_at_call 120;refine(C.out _).mono ?_;rintro e w' ⟨rfl,rfl⟩)
   go_ret
   exact⟨rfl,rfl⟩
 · have C:=vX c (mY c) (by unfold mY;rw[plB_id h1 h2])
   have g1:((c.toNat:Int)==45)=false:=by
    rw[beq_eq_false_iff_ne];exact fun h=>h1 (gF (d:=45) h)
   have g2:((c.toNat:Int)==95)=false:=by
    rw[beq_eq_false_iff_ne];exact fun h=>h2 (gF (d:=95) h)
   generalize mY c=n at *;clear h1 h2
   go_enter Tryz.func227,Tryz.ntmps227
   go_wp2_with (go_at_call 120;refine(C.out _).mono ?_;rintro e w' ⟨rfl,rfl⟩)
   go_ret
   exact⟨rfl,rfl⟩
theorem qC (c:UInt8)(n:Int)(h:mY c=n):Hid (∀ W,Calls Tryz.prog 227 #[.int .u8 (c.toNat:Int)] W fun e w'=>e=.returned (.int .i64 n)/\w'=W) :=
 zH fun W=>by rw[<- h];exact aB6 c W
theorem pK (s:ByteArray)(T:ByteArray)(hT:T.data.toList=hd s.data.toList)(hs:s.size<=9223372036854775807)(w:World):Calls Tryz.prog 221 #[.string s] w fun e w'=>e=.returned (.string T)/\w'=w:=by
 have C:Hid (∀ W,Calls Tryz.prog 257 #[.string s,.string ⟨#[61]⟩] W fun e w'=>e=.returned (.string T)/\w'=W):=zH fun W=>by
  rw[aM hT];exact Tryz.strings_TrimRight_one s 61 (by decide) W hs
 clear hT
 go_enter Tryz.func221,Tryz.ntmps221
 go_wp2_with (go_at_call 257;refine(C.out _).mono ?_;rintro e w' ⟨rfl,rfl⟩)
 go_ret
 exact⟨rfl,rfl⟩
end Go.Proofs.YthnogdodlhkldaaGreatDoor
namespace Go.Proofs.YthnogdodlhkldaaGreatDoor
open Go.RowKit
theorem sign_ix (kd:IntKind)(k:Nat)(h:k<64):∀ W,(Instr.index 9 (.string ⟨#[65,66,67,68,69,70,71,72,73,74,75,76,77,78,79,80,81,82,83,84,85,86,87,88,89,90,97,98,99,100,101,102,103,104,105,106,107,108,109,110,111,112,113,114,115,116,117,118,119,120,121,122,48,49,50,51,52,53,54,55,56,57,43,47]⟩) (.int kd (k:Int))).run Tryz.prog W=.ok (.int .u8 ((sgn k).toNat:Int)) W:=fun W=>by
 rw[run_index_string (P:=Tryz.prog) W 9 _ kd k Tryz.underlying9];rw[dif_pos (by refine⟨by omega,?_⟩;show(k:Int)<64;omega)]
 congr 2
 have e:sgn k=SG[k]'(by show k<64;exact h):=by unfold sgn;rw[List.getD_eq_getElem?_getD,List.getElem?_eq_getElem (by show k<64;exact h)];rfl
 rw[e]
 congr 1
theorem aP8 (l:List UInt8)(c:UInt8)(h:∀ b∈l,b≠c):Lib.indexByte l c = -1:=by
 induction l with
 | nil=>rfl
 | cons b l ih =>
   unfold Lib.indexByte;rw[if_neg (by simpa using h b (by simp)),ih (fun x hx=>h x (by simp[hx]))];rfl
theorem index_at (l:List UInt8)(c:UInt8)(k:Nat)(h:l[k]? = some c)(h2:∀ j,j<k->∀ b,l[j]? = some b->b≠c):Lib.indexByte l c=(k:Int):=by
 induction l generalizing k with
 | nil=>simp at h
 | cons b l ih =>
   unfold Lib.indexByte
   cases k with
   | zero =>
     simp at h;subst h;rw[if_pos (by simp)];rfl
   | succ k =>
     have hb:=h2 0 (by omega) b rfl;rw[if_neg (by simpa using hb)];have e:=ih k (by simpa using h) (fun j hj x hx=>h2 (j+1) (by omega) x (by simpa using hx));rw[e,if_neg (by simp)];omega
theorem aT0 (k:Nat)(h:k<64):SG[k]? = some (sgn k):=by
 unfold sgn;rw[List.getD_eq_getElem?_getD,List.getElem?_eq_getElem (by show k<64;exact h)];rfl
theorem aW3 (c:UInt8)(w:World):Calls Tryz.prog 187 #[.int .u8 (c.toNat:Int)] w fun e w'=>e=.returned (.int .i64 (mY c))/\w'=w:=by
 have hb:c.toNat<=255:=by have:=c.toNat_lt;omega
 by_cases h1:c=45
 · subst h1
   have HV:Hid (mY 45=62):=zH (by decide +kernel)
   go_enter Tryz.func187,Tryz.ntmps187
   go_wp2
   go_ret
   exact⟨cV HV.out.symm,rfl⟩
 by_cases h2:c=95
 · subst h2
   have HV:Hid (mY 95=63):=zH (by decide +kernel)
   go_enter Tryz.func187,Tryz.ntmps187
   go_wp2
   go_ret
   exact⟨cV HV.out.symm,rfl⟩
 · have HV:Hid (mY c=Lib.indexByte SG c):=zH (by unfold mY;rw[plB_id h1 h2])
   have g1:((c.toNat:Int)==45)=false:=by
    rw[beq_eq_false_iff_ne];exact fun h=>h1 (gF (d:=45) h)
   have g2:((c.toNat:Int)==95)=false:=by
    rw[beq_eq_false_iff_ne];exact fun h=>h2 (gF (d:=95) h)
   clear h1 h2
   go_enter Tryz.func187,Tryz.ntmps187
   go_wp2
   go_loop [3] (fun i=>∃ k:Nat,k<=64/\i=.int .i64 k/\Hid (∀ j,j<k->∀ b,SG[j]? = some b->b≠c)) (fun i=>64 - (intOf i).toNat)
   case atStart=>exact⟨0,by omega,rfl,zH fun j hj=>by omega⟩
   case round =>
    obtain⟨k,hk,rfl,HS⟩:=hrel
    by_cases hlt:k<64
    · have ix:=sign_ix .i64 k hlt
      by_cases he:sgn k=c
      · have g3:(((sgn k).toNat:Int)==(c.toNat:Int))=true:=by rw[he];simp
        have HR:Hid ((k:Int)=mY c):=zH (by rw[HV.out,index_at SG c k (by rw[aT0 k hlt,he]) HS.out]);generalize(sgn k).toNat=x at *;clear he
        go_wp2
        go_ret
        exact⟨cV HR.out,rfl⟩
      · have g3:(((sgn k).toNat:Int)==(c.toNat:Int))=false:=by
         rw[beq_eq_false_iff_ne];exact fun h=>he (gF h)
        have HN:Hid (∀ j,j<k+1->∀ b,SG[j]? = some b->b≠c):=zH fun j hj b hb2=>by
         by_cases e:j=k
         · subst e
           rw[aT0 j hlt]at hb2
           cases hb2
           exact he
         · exact HS.out j (by omega) b hb2
        generalize(sgn k).toNat=x at *;clear he
        go_wp2
        go_round
        case rel=>exact⟨k+1,by omega,by go_num,HN⟩
        case measure=>simp[intOf];omega
    · obtain rfl:k=64:=by omega
      have HR:Hid (mY c = -1):=zH (by
       rw[HV.out];refine aP8 SG c fun b hb3 => ?_;obtain⟨j,hj,rfl⟩:=List.getElem_of_mem hb3
       exact HS.out j hj _ (List.getElem?_eq_getElem hj))
      go_wp2
      go_ret
      exact⟨cV HR.out.symm,rfl⟩
theorem uB (c:UInt8)(n:Int)(h:mY c=n):Hid (∀ W,Calls Tryz.prog 187 #[.int .u8 (c.toNat:Int)] W fun e w'=>e=.returned (.int .i64 n)/\w'=W) :=
 zH fun W=>by rw[<- h];exact aW3 c W
theorem uZ {h:List UInt8}(k:Nat)(hk:k<h.length)(e:0<=mY h[k])(p:iJ (h.take k)=true):iJ (h.take (k+1))=true:=by
 rw[List.take_succ_eq_append_getElem hk];unfold iJ at *;rw[List.all_append,p]
 simpa using e
theorem aE0 {h:List UInt8}(k:Nat)(hk:k<h.length)(e:mY h[k]<0):iJ h=false:=by
 cases hg:iJ h with
 | false=>rfl
 | true =>
   have:=nR hg h[k] (List.getElem_mem hk);omega
theorem form_any (s:ByteArray)(hs:s.size<=1099511627776)(w:World):Calls Tryz.prog 182 #[.string s] w fun e w'=>e=.returned (.bool (cU s.data.toList))/\w'=w:=by
 obtain⟨T,hT⟩:=aO (hd s.data.toList);have C:Hid (∀ W,Calls Tryz.prog 221 #[.string s] W fun e w'=>e=.returned (.string T)/\w'=W):=zH fun W=>pK s T hT (by omega) W;have hle:T.size<=s.size:=by rw[<- aE T,<- aE s,hT];exact aU6 _
 have hF:cU s.data.toList=(!T.data.toList.isEmpty&&decide (s.size - T.size<=2)&&iJ T.data.toList):=by
  unfold cU;rw[<- hT,aE,aE]
 by_cases h0:T.data.toList=[]
 · have g:T.toList.isEmpty=true:=by rw[aF,h0];rfl
   have HF:Hid (cU s.data.toList=false):=zH (by rw[hF,h0];rfl);clear hT hF h0
   go_enter Tryz.func182,Tryz.ntmps182
   go_wp2_with (go_at_call 221;refine(C.out _).mono ?_;rintro e w' ⟨rfl,rfl⟩)
   go_ret
   exact⟨aA HF.out.symm,rfl⟩
 have g:T.toList.isEmpty=false:=by
  rw[aF]
  cases h:T.data.toList with
  | nil=>exact absurd h h0
  | cons=>rfl
 by_cases h2:2<(s.size:Int) - (T.size:Int)
 · have HF:Hid (cU s.data.toList=false):=zH (by rw[hF,decide_eq_false (by omega)];simp)
   clear hT hF h0
   go_enter Tryz.func182,Tryz.ntmps182
   go_wp2_with (go_at_call 221;refine(C.out _).mono ?_;rintro e w' ⟨rfl,rfl⟩)
   go_ret
   exact⟨aA HF.out.symm,rfl⟩
 · have HF:Hid (cU s.data.toList=iJ T.data.toList):=zH (by
    have:T.data.toList.isEmpty=false:=by rw[<- aF];exact g
    rw[hF,this,decide_eq_true (by omega)];rfl)
   clear hT hF h0
   go_enter Tryz.func182,Tryz.ntmps182
   go_wp2_with (go_at_call 221;refine(C.out _).mono ?_;rintro e w' ⟨rfl,rfl⟩)
   go_loop [4,19] (fun _ i=>∃ k:Nat,k<=T.size/\i=.int .i64 k/\Hid (iJ (T.data.toList.take k)=true)) (fun _ i=>T.size - (intOf i).toNat)
   case atStart=>exact⟨0,by omega,rfl,zH rfl⟩
   case round =>
    obtain⟨k,hk,rfl,HS⟩:=hrel
    by_cases hlt:k<T.size
    · have hk':k<T.data.toList.length:=by rw[aE];exact hlt
      have hg:T.data.toList[k]=T[k]:=rfl;have hn1:=uZ k hk';have hn2:=aE0 k hk';rw[hg]at hn1 hn2;obtain⟨n,hn⟩:∃ n,mY T[k]=n:=⟨_,rfl⟩;have D:=qC T[k] n hn;rw[hn]at hn1 hn2
      by_cases hneg:n<0
      · have HR:Hid (false=cU s.data.toList):=zH (by rw[HF.out,hn2 hneg])
        clear hn hn1 hn2 hg
        go_wp2_with (go_at_call 227;refine(D.out _).mono ?_;rintro e w' ⟨rfl,rfl⟩)
        go_ret
        exact⟨aA HR.out,rfl⟩
      · have HR:=zH (hn1 (by omega) HS.out)
        clear hn hn1 hn2 hg
        go_wp2_with (go_at_call 227;refine(D.out _).mono ?_;rintro e w' ⟨rfl,rfl⟩)
        go_round
        case rel=>exact⟨k+1,by omega,by go_num,HR⟩
        case measure=>simp[intOf];omega
    · obtain rfl:k=T.size:=by omega
      have HR:Hid (true=cU s.data.toList):=zH (by rw[HF.out,<- HS.out,cQ])
      go_wp2
      go_ret
      exact⟨aA HR.out,rfl⟩
end Go.Proofs.YthnogdodlhkldaaGreatDoor
namespace Go.Proofs.YthnogdodlhkldaaGreatDoor
open Go.RowKit
theorem nV (s:ByteArray)(n:Nat):(s.extract 0 n).data.toList=s.data.toList.take n:=by
 rw[Lib.extract_upto]
theorem xJ {l:List UInt8}{n:Nat}(h:n<l.length):(l.take (n+1)).getLast? = some l[n]:=by
 rw[List.take_succ_eq_append_getElem h,List.getLast?_concat]
theorem aH8 (s:ByteArray)(n:Nat)(h:n<=s.size):∀ W,(Instr.slice 9 (.string s) none (some (.int .i64 (n:Int))) none).run Tryz.prog W=.ok (.string (s.extract 0 n)) W:=fun W=>by
 simp[Instr.slice,run_underlying Tryz.underlying9,Instr.sliceBounds,run_sliceBound,h]
theorem aD5 (s:ByteArray)(hs:s.size<=1099511627776)(w:World):Calls Tryz.prog 185 #[.string s] w fun e w'=>(∃ T:ByteArray,e=.returned (.string T)/\bJ7 s.data.toList T.data.toList)/\w'=w:=by
 have out:Hid (∀ k n:Nat,k<=2->s.data.toList=s.data.toList.take n++List.replicate k 61->(k=2\/jZ (s.data.toList.take n))->bJ7 s.data.toList (s.extract 0 n).data.toList):=zH fun k n h1 h2 h3=>by
  rw[nV];exact⟨k,h1,h2,h3⟩
 go_enter Tryz.func185,Tryz.ntmps185
 go_wp2
 go_loop [3,4] (fun n i=>∃(k m:Nat),k<=2/\m<=s.size/\i=.int .i64 k/\n=.int .i64 m/\Hid (s.data.toList=s.data.toList.take m++List.replicate k 61)) (fun n _=>(intOf n).toNat)
 case atStart=>exact⟨0,s.size,by omega,by omega,rfl,rfl,zH (by rw[cQ];simp)⟩
 case round =>
  obtain⟨k,m,hk,hm,rfl,rfl,HS⟩:=hrel;have hsl:=aH8 s m hm
  by_cases h2:k<2
  · have hz2:(k:Int)<2:=by omega
    by_cases h0:m=0
    · subst h0
      have HO:=out.out k 0 hk HS.out (.inr (fun b hb=>by simp at hb));rw[nV]at HO;have HO:Hid (bJ7 s.data.toList []):=zH HO
      go_wp2
      go_ret
      exact⟨⟨_,rfl,HO.out⟩,rfl⟩
    · obtain⟨n,rfl⟩:∃ n,m=n+1:=⟨m - 1,by omega⟩
      have hn:n<s.size:=by omega
      have hz:((n+1:Nat):Int) - 1=(n:Int):=by omega
      have hp:0<((n+1:Nat):Int):=by omega
      have hlast:=xJ (l:=s.data.toList) (n:=n) (by rw[aE];exact hn);have hg:s.data.toList[n]'(by rw[aE];exact hn)=s[n]:=rfl;rw[hg]at hlast;have htk:=fV hn;generalize hZ:((n+1:Nat):Int)=z at *
      by_cases he:s[n]=61
      · have g3:((s[n].toNat:Int)==61)=true:=by rw[he];rfl
        have HN:Hid (s.data.toList=s.data.toList.take n++List.replicate (k+1) 61):=zH (by
         have:=HS.out;rw[htk,he,List.append_assoc]at this;rw[List.replicate_succ]
         exact this)
        clear he hlast hg htk
        go_wp2
        go_round
        case rel=>exact⟨k+1,n,by omega,by omega,by go_num,by rw[<- hz],HN⟩
        case measure=>simp[intOf];omega
      · have g3:((s[n].toNat:Int)==61)=false:=by
         rw[beq_eq_false_iff_ne];exact fun h=>he (gF (d:=61) h)
        have HO:=zH (out.out k (n+1) hk HS.out (.inr (fun b hb=>by rw[hlast]at hb;cases hb;exact he)));clear he hlast hg htk
        go_wp2
        go_ret
        exact⟨⟨_,rfl,HO.out⟩,rfl⟩
  · have hz2:¬ (k:Int)<2:=by omega
    have HO:=zH (out.out k m hk HS.out (.inl (by omega)))
    go_wp2
    go_ret
    exact⟨⟨_,rfl,HO.out⟩,rfl⟩
theorem aA6 (s:ByteArray)(hs:s.size<=1099511627776)(w:World):Calls Tryz.prog 138 #[.string s] w fun e w'=>e=.returned (.bool (cU s.data.toList))/\w'=w:=by
 have C:=zH fun W=>aD5 s hs W
 go_enter Tryz.func138,Tryz.ntmps138
 go_wp2_with fail
 refine(C.out _).mono ?_;rintro e w' ⟨⟨T,rfl,hH⟩,rfl⟩
 have hle:T.size<=s.size:=by
  obtain⟨k,_,h,_⟩:=hH;have:=congrArg List.length h;rw[List.length_append,aE,aE]at this;omega
 have HF:=zH (uY hH);clear hH
 go_wp2
 go_loop [4] (fun i=>∃ k:Nat,k<=T.size/\i=.int .i64 k/\Hid (iJ (T.data.toList.take k)=true)) (fun i=>T.size - (intOf i).toNat)
 case atStart=>exact⟨0,by omega,rfl,zH rfl⟩
 case round =>
  obtain⟨k,hk,rfl,HS⟩:=hrel
  by_cases hlt:k<T.size
  · have hk':k<T.data.toList.length:=by rw[aE];exact hlt
    have hg:T.data.toList[k]=T[k]:=rfl;have hn1:=uZ k hk';have hn2:=aE0 k hk';rw[hg]at hn1 hn2;obtain⟨n,hn⟩:∃ n,mY T[k]=n:=⟨_,rfl⟩;have D:=uB T[k] n hn;rw[hn]at hn1 hn2
    by_cases hneg:n<0
    · have HR:Hid (false=cU s.data.toList):=zH (by rw[HF.out,hn2 hneg,Bool.and_false])
      clear hn hn1 hn2 hg
      go_wp2_with (go_at_call 187;refine(D.out _).mono ?_;rintro e w' ⟨rfl,rfl⟩)
      go_ret
      exact⟨aA HR.out,rfl⟩
    · have HR:=zH (hn1 (by omega) HS.out)
      clear hn hn1 hn2 hg
      go_wp2_with (go_at_call 187;refine(D.out _).mono ?_;rintro e w' ⟨rfl,rfl⟩)
      go_round
      case rel=>exact⟨k+1,by omega,by go_num,HR⟩
      case measure=>simp[intOf];omega
  · obtain rfl:k=T.size:=by omega
    have hgd:iJ T.data.toList=true:=by have:=HS.out;rw[cQ]at this;exact this
    cases hE:T.toList.isEmpty with
    | true =>
      have HR:Hid (false=cU s.data.toList):=zH (by rw[HF.out,<- aF,hE];rfl)
      go_wp2
      go_ret
      exact⟨aA HR.out,rfl⟩
    | false =>
      have HR:Hid (true=cU s.data.toList):=zH (by rw[HF.out,<- aF,hE,hgd];rfl)
      go_wp2
      go_ret
      exact⟨aA HR.out,rfl⟩
end Go.Proofs.YthnogdodlhkldaaGreatDoor
namespace Go.Proofs.YthnogdodlhkldaaGreatDoor
open Go.RowKit
theorem Tinfo4:(Tryz.prog.info? 4).map (fun i=>(i.zero,i.size,i.bytes))=some (some (.bool false),1,1):=by kernel_rfl
def cH (m:List Nat):List Value:=m.map fun(x:Nat)=>Value.int .u8 (x:Int)
theorem mH (m:List Nat)(x:Nat):cH (m++[x])=cH m++[.int .u8 (x:Int)]:=by simp[cH]
def kG (w:World)(v:Value)(l:List Nat):Prop :=
 ((∃ a c,v=.slice a 0 c)/\l=[])\/∃ B off cap,v=.slice (some ⟨B,off,none⟩) l.length cap/\∀ j,(h:j<l.length)->w.cell? ⟨B,off+j,none⟩=some (.int .u8 (l[j]:Int))
theorem kG.form {w:World}{v:Value}{p:List Nat}(h:kG w v p):∃ a c,v=.slice a p.length c:=by
 rcases h with ⟨⟨a,c,rfl⟩,rfl⟩ | ⟨B,off,cap,rfl,_⟩
 · exact⟨_,_,rfl⟩
 · exact⟨_,_,rfl⟩
theorem kG.of_row {w:World}{base:Nat}{v:Value}{p:List Nat}(h:w.ownsRow base 5 1 v p.length (cH p)):kG w v p:=by
 rcases bS h with ⟨h1,h2⟩ | ⟨g,cap,rfl⟩
 · exact .inl ⟨⟨_,_,h1⟩,List.length_eq_zero_iff.1 h2⟩
 · refine .inr ⟨g,0,cap,rfl,fun j hj => ?_⟩
   rw[Nat.zero_add,h.cellAt j (by omega)];simp[cH,List.getElem?_eq_getElem hj]
theorem bG7 (f:Nat)(l:List Nat)(k j:Nat)(hk:k<l.length)(hj:j<f):dO f (l.take k)++(bU f l[k]).take (j+1)=dO f (l.take k)++(bU f l[k]).take j++[l[k] / 2 ^ (f - 1 - j) % 2==1]:=by
 rw[List.take_add_one,vL f l[k] j hj,List.append_assoc];rfl
theorem and_one (y:Nat)(h:y<=255):bits .and .u8 (y:Int) 1=((y % 2:Nat):Int):=by
 have:∀ m:Fin 256,bits .and .u8 (m.val:Int) 1=((m.val % 2:Nat):Int):=by decide +kernel
 exact this ⟨y,by omega⟩
theorem or_two (a b:Nat)(h:a<=127)(h2:b<=1):bits .or .u8 ((a:Int) * 2) (b:Int)=((2 * a+b:Nat):Int):=by
 have:∀ m:Fin 128,bits .or .u8 ((m.val:Int) * 2) ((0:Nat):Int)=((2 * m.val+0:Nat):Int)/\bits .or .u8 ((m.val:Int) * 2) ((1:Nat):Int)=((2 * m.val+1:Nat):Int):=by decide +kernel
 have:=this ⟨a,by omega⟩;obtain rfl | rfl:b=0\/b=1:=by omega
 · exact this.1
 · exact this.2
theorem bit_in (a x c:Nat)(ha:a<=127)(hx:x<=255):bits .or .u8 ((a:Int) * 2) (bits .and .u8 ((x:Int) / 2 ^ c) 1)=((2 * a+(x / 2 ^ c % 2==1).toNat:Nat):Int):=by
 have e:((x:Int) / 2 ^ c)=((x / 2 ^ c:Nat):Int):=by rw[Int.natCast_ediv,Int.natCast_pow];rfl
 have hle:x / 2 ^ c<=255:=Nat.le_trans (Nat.div_le_self _ _) hx;rw[e,and_one _ hle,or_two a _ ha (by omega)];rcases Nat.mod_two_eq_zero_or_one (x / 2 ^ c)with h | h<;>rw[h]<;>rfl
theorem xF {t:Nat}{h:List Bool}(ht:t<=8)(hl:h.length<t):mE h<=127:=by
 have h1:=aO3 h;have h2:2 ^ h.length<=2 ^ 7:=Nat.pow_le_pow_right (by decide) (by omega);omega
theorem zO (f t:Nat)(hf:1<=f)(hf2:f<=8)(ht:1<=t)(ht2:t<=8)(l:List Nat)(hl8:∀ x∈l,x<=255)(v:Value)(w:World)(hin:kG w v l)(hl:l.length<=1000000) :
 Calls Tryz.prog 51 #[v,.int .i64 (f:Int),.int .i64 (t:Int)] w fun e w'=>(∃ u,e=.returned (.tuple #[u,.int .u8 (mE (kP t (dO f l)).2:Nat),.int .i64 ((kP t (dO f l)).2.length:Nat)])/\w'.ownsRow w.heap.size 5 1 u (kP t (dO f l)).1.length (cH (kP t (dO f l)).1))/\Below w.heap.size w w':=by
 obtain⟨a,c,rfl⟩:=hin.form
 have hcell:Hid (∀ j,(h:j<l.length)->∃ B off,a=some ⟨B,off,none⟩/\B<w.heap.size/\w.cell? ⟨B,off+j,none⟩=some (.int .u8 (l[j]:Int))):=zH fun j h=>by
  rcases hin with ⟨_,h2⟩ | ⟨B,off,cap,h1,h2⟩
  · subst h2;simp at h
  · cases h1
    exact⟨B,off,rfl,aH (h2 j h),h2 j h⟩
 obtain⟨z,hz⟩:∃ z:Nat,(l.length:Int) * (f:Int) / (t:Int)+1=(z:Int):=⟨l.length * f / t+1,by rw[Int.natCast_add,Int.natCast_ediv,Int.natCast_mul];rfl⟩
 have hmul:(l.length:Int) * (f:Int)<=8000000:=by
  have:=Nat.mul_le_mul hl hf2;rw[<- Int.natCast_mul];omega
 have hmul0:0<=(l.length:Int) * (f:Int):=by rw[<- Int.natCast_mul];omega
 have hz9:z<=8000001:=by
  have h1:(l.length:Int) * (f:Int) / (t:Int)<=(l.length:Int) * (f:Int):=Int.ediv_le_self _ hmul0;omega
 have htz:((t:Int)==0)=false:=by rw[beq_eq_false_iff_ne];omega
 have ht0:¬ (t:Int)=0:=by omega
 obtain⟨i0,hi,hz0,hz1,hz2⟩:=info_parts yC;obtain⟨W1,hmk,hown,hgr⟩:=run_make_own (P:=Tryz.prog) w w.heap.size 85 5 i0 _ 1 Tryz.underlying85 hi hz0 hz1 .i64 .i64 z (by rw[hz2];omega) (by unfold maxLen;omega) (zL _);have hmk2:(Instr.makeSlice 85 (.int .i64 0) (.int .i64 (z:Int))).run Tryz.prog w=.ok (.slice (some ⟨w.heap.size,0,none⟩) 0 z) W1:=hmk;have B1:Below w.heap.size w W1:=Below.grown (zB _ _) hgr (zL _) (fun k hk=>by cases hk);generalize hv:(Value.slice (some ⟨w.heap.size,0,none⟩) 0 z)=v0 at hmk2 hown
 have sizes:∀ k j x,k<=l.length->j<=f->(kP t (dO f (l.take k)++(bU f x).take j)).2.length<t/\(kP t (dO f (l.take k)++(bU f x).take j)).1.length<=8000008:=fun k j x hk hj=>by
  obtain⟨h1,h2,_⟩:=nQ t (by omega) (dO f (l.take k)++(bU f x).take j);refine⟨h2,?_⟩;have h3:=congrArg List.length h1;rw[List.length_append,List.length_append,eD,eD,List.length_take,List.length_take,cA]at h3;have h4:f * min k l.length<=8 * 1000000:=Nat.mul_le_mul hf2 (by omega);have h5:1 * (kP t (dO f (l.take k)++(bU f x).take j)).1.length<=t * (kP t (dO f (l.take k)++(bU f x).take j)).1.length:=Nat.mul_le_mul_right _ ht;omega
 have SZ:=zH sizes;clear hin hmk hgr hv sizes
 go_enter Tryz.func51,Tryz.ntmps51
 go_wp2
 go_loopw [9,10,11,25] (fun v hh cc i wr=>∃ k:Nat,k<=l.length/\i=.int .i64 k/\hh=.int .u8 (mE (kP t (dO f (l.take k))).2:Nat)/\cc=.int .i64 ((kP t (dO f (l.take k))).2.length:Nat)/\wr.ownsRow w.heap.size 5 1 v (kP t (dO f (l.take k))).1.length (cH (kP t (dO f (l.take k))).1)/\Below w.heap.size w wr) (fun _ _ _ i _=>l.length - (intOf i).toNat)
 case atStart=>exact⟨0,Nat.zero_le _,rfl,rfl,rfl,hown,B1⟩
 case round =>
  obtain⟨k,hk,rfl,rfl,rfl,hown,hb⟩:=hrel;obtain⟨wo,rfl⟩:∃ wo:World,wo=wr:=⟨_,rfl⟩
  by_cases hlt:k<l.length
  · obtain⟨B,off,rfl,hB,hc⟩:=hcell.out k hlt
    have hc1:wo.cell? ⟨B,off+k,none⟩=some (.int .u8 (l[k]:Int)):=by rw[hb.cell hB,hc]
    obtain⟨x,hx⟩:∃ x,x=l[k]:=⟨_,rfl⟩;rw[<- hx]at hc1;have hx8:x<=255:=by rw[hx];exact hl8 _ (List.getElem_mem hlt)
    have HN:Hid (dO f (l.take (k+1))=dO f (l.take k)++(bU f x).take f):=zH (by
     have h0:(bU f x).take f=bU f x:=List.take_of_length_le (by rw[cA];exact zL _)
     rw[bG6 f l k x (by rw[hx];exact List.getElem?_eq_getElem hlt),h0])
    have HJ:Hid (∀ j,j<f->dO f (l.take k)++(bU f x).take (j+1)=dO f (l.take k)++(bU f x).take j++[x / 2 ^ (f - 1 - j) % 2==1]):=zH fun j hj=>by
     rw[hx];exact bG7 f l k j hlt hj
    have SZ2:=zH fun j=>SZ.out k j x hk;clear hx hc hcell B1 hmk2 SZ;generalize dO f (l.take k)=F at *
    go_wp2
    go_loopw [9,10,11,30] (fun v hh cc i wr=>∃ j:Nat,j<=f/\i=.int .i64 j/\hh=.int .u8 (mE (kP t (F++(bU f x).take j)).2:Nat)/\cc=.int .i64 ((kP t (F++(bU f x).take j)).2.length:Nat)/\wr.ownsRow w.heap.size 5 1 v (kP t (F++(bU f x).take j)).1.length (cH (kP t (F++(bU f x).take j)).1)/\Below w.heap.size w wr) (fun _ _ _ i _=>f - (intOf i).toNat)
    case atStart=>exact⟨0,Nat.zero_le _,rfl,by rw[List.take_zero,List.append_nil],by rw[List.take_zero,List.append_nil],by rw[List.take_zero,List.append_nil];exact hown,hb⟩
    case round =>
     clear hown hb;obtain⟨j,hj,rfl,rfl,rfl,hown,hb⟩:=hrel
     by_cases hjt:j<f
     · obtain⟨s1,s2⟩:=SZ2.out j hj
       have hstep:=aD9 t (F++(bU f x).take j) (x / 2 ^ (f - 1 - j) % 2==1);rw[<- HJ.out j hjt]at hstep;generalize kP t (F++(bU f x).take j)=g at *;obtain⟨m,h⟩:=g;simp only at hown s1 s2 ⊢;have hh8:=xF ht2 s1;have hval:=bit_in (mE h) x (f - 1 - j) hh8 hx8;have hns:=kY h (x / 2 ^ (f - 1 - j) % 2==1);rw[<- hns]at hval
       have hv255:mE (h++[x / 2 ^ (f - 1 - j) % 2==1])<=255:=by
        rw[hns]
        cases (x / 2 ^ (f - 1 - j) % 2==1)<;>simp<;>omega
       unfold aS9 at hstep;simp only at hstep;generalize(x / 2 ^ (f - 1 - j) % 2==1)=b at *;obtain⟨V,hV⟩:∃ V,V=mE (h++[b]):=⟨_,rfl⟩;rw[<- hV]at hval hv255 hstep;have hsn:=mH m V;obtain⟨A,hA⟩:∃ A,cH m=A:=⟨_,rfl⟩;rw[hA]at hsn hown;have HA:=zH hA;clear hA;generalize mE h=H at *;have HST:=zH hstep;have HSN:=zH hsn;have HV:=zH hV;obtain⟨L,hL⟩:∃ L,h.length=L:=⟨_,rfl⟩;obtain⟨M,hM⟩:∃ M,m.length=M:=⟨_,rfl⟩;rw[hL]at s1 ⊢;rw[hM]at s2 hown;have HL:=zH hL;have HM:=zH hM;clear hstep hsn hV hns hL hM HJ SZ2 HN
       by_cases he:L+1=t
       · have g1:(((L:Int)+1)==(t:Int))=true:=by rw[beq_iff_eq];omega
         go_wp2_with (at_builtin;refine wpList_append_own _ rfl _ _ 85 rfl w.heap.size 5 i0 (.int .u8 0) 1 1 Tryz.underlying85 hi hz0 hz1 hz2 rfl (by decide) _ _ _ rfl (hown.alloc _) ⟨wr.heap.size,0,none⟩ 1 1 [.int .u8 (V:Int)] rfl rfl (cell_one_new _ _ _) (fun x hx=>by simp at hx;subst hx;rfl) (by unfold maxLen;omega) (by omega) (by have:=hb.size;simp;omega) ?_;intro v' w5 hown' hgrow5 hnil5
                      have hb5:Below w.heap.size w w5:=Below.grown (hb.alloc hb.size _) hgrow5 (by have:=hb.size;simp;omega) (fun j hj=>by have:=(hown.lt _ hj).1;omega);have X:Aside (w5.ownsRow w.heap.size 5 1 v' (M+1) (A++[.int .u8 (V:Int)])/\Below w.heap.size w w5):=⟨hown',hb5⟩
                      clear hown' hgrow5 hnil5)
         go_roundw
         case rel =>
          have e:kP t (F++(bU f x).take (j+1))=(m++[V],[]):=by rw[HST.out,if_pos (by rw[HL.out];exact he)]
          refine⟨j+1,by omega,by go_num,by rw[e];rfl,by rw[e];rfl,?_,X.out.2⟩;rw[e];simp only[List.length_append,List.length_singleton];rw[HSN.out,HM.out];exact X.out.1
         case measure=>simp[intOf];omega
       · have g1:(((L:Int)+1)==(t:Int))=false:=by rw[beq_eq_false_iff_ne];omega
         go_wp2
         go_roundw
         case rel =>
          have e:kP t (F++(bU f x).take (j+1))=(m,h++[b]):=by rw[HST.out,if_neg (by rw[HL.out];exact he)]
          refine⟨j+1,by omega,by go_num,by rw[e,HV.out],by rw[e];simp only[List.length_append,List.length_singleton];rw[HL.out];go_num,?_,hb⟩;rw[e];simp only;rw[HM.out,HA.out];exact hown
         case measure=>simp[intOf];omega
     · obtain rfl:j=f:=by omega
       rw[<- HN.out]at hown ⊢
       go_wp2
       go_roundw
       case rel=>exact⟨k+1,by omega,by go_num,rfl,rfl,hown,hb⟩
       case measure=>simp[intOf];omega
  · obtain rfl:k=l.length:=by omega
    rw[List.take_length]at hown ⊢
    go_wp2
    go_ret3
    exact⟨⟨_,rfl,hown⟩,hb⟩
end Go.Proofs.YthnogdodlhkldaaGreatDoor
namespace Go.Proofs.YthnogdodlhkldaaGreatDoor
open Go.RowKit
structure qN (w:World) (g:Nat) (l:List Value):Prop where
 cell:∀ j v,l[j]? = some v->w.cell? ⟨g,j,none⟩=some v
 free:∀ j,j<l.length->w.frozen? ⟨g,j,none⟩=false
theorem qN.set {w:World}{g:Nat}{l:List Value}(h:qN w g l){k:Nat}(hk:k<l.length)(v:Value):qN (w.setCell ⟨g,k,none⟩ v) g (l.set k v):=by
 refine⟨fun j c hj => ?_,fun j hj=>by rw[World.frozen?_setCell];exact h.free j (by simpa using hj)⟩;rw[List.getElem?_set]at hj
 by_cases e:k=j
 · subst e
   rw[if_pos rfl,if_pos hk]at hj
   cases hj
   exact World.cell?_setCell_same _ _ _ (h.cell k l[k] (by rw[List.getElem?_eq_getElem hk]))
 · rw[if_neg e]at hj
   rw[World.cell?_setCell_other _ _ _ _ (by intro h;cases h;exact e rfl)];exact h.cell j c hj
theorem qN.made (w:World)(z:Value)(n:Nat)(t:TypeId):qN (w.alloc (.cells (madeCells #[z] n) t)) w.heap.size (List.replicate n z):=by
 refine⟨fun j v hj => ?_,fun j hj => ?_⟩
 · rw[World.cell?_alloc_mark,<- Array.getElem?_toList,toList_madeCells_one,hj]
 · rw[List.length_replicate]at hj
   unfold World.frozen?;simp only[World.alloc,Array.getElem?_push_size];simp
def oS {α:Type}(f g:α->Value)(l:List α)(k:Nat):List Value:=(l.take k).map f++(l.drop k).map g
theorem qD {α:Type}(f g:α->Value)(l:List α)(k:Nat):(oS f g l k).length=l.length:=by
 simp only[oS,List.length_append,List.length_map,List.length_take,List.length_drop];omega
theorem bE0 {α:Type}(f g:α->Value)(l:List α):oS f g l 0=l.map g:=by simp[oS]
theorem mixK_all {α:Type}(f g:α->Value)(l:List α):oS f g l l.length=l.map f:=by simp[oS]
theorem mixK_at {α:Type}(f g:α->Value)(l:List α)(k:Nat)(b:α)(h:l[k]? = some b):(oS f g l k)[k]? = some (g b):=by
 have hk:=(List.getElem?_eq_some_iff.1 h).1;unfold oS;rw[List.getElem?_append_right (by simp;omega)];simp only[List.length_map,List.length_take,List.getElem?_map,List.getElem?_drop];have:k+(k - min k l.length)=k:=by omega
 rw[this,h];rfl
theorem bE1 {α:Type}(f g:α->Value)(l:List α)(k:Nat)(b:α)(h:l[k]? = some b):oS f g l (k+1)=(oS f g l k).set k (f b):=by
 have hk:=List.getElem?_eq_some_iff.1 h;have hlen:((l.take k).map f).length=k:=by have:=hk.1;simp;omega
 unfold oS;have hd:l.drop k=b :: l.drop (k+1):=by rw[List.drop_eq_getElem_cons hk.1,hk.2]
 rw[List.set_append_right _ _ (by omega),hlen,Nat.sub_self,hd,List.map_cons,List.set_cons_zero,List.take_add_one,h];simp
theorem aR1 (w:World)(g cap:Nat)(L:List UInt8)(h:∀ j b,L[j]? = some b->w.cell? ⟨g,j,none⟩=some (.int .u8 (b.toNat:Int)))(n:Nat)(hn:n=L.length):(convert 85 9 (.slice (some ⟨g,0,none⟩) n cap)).run Tryz.prog w=.ok (.string ⟨L.toArray⟩) w:=by
 subst hn;refine run_convert_bytes_back (P:=Tryz.prog) w 85 9 5 ⟨g,0,none⟩ cap L Tryz.underlying85 Tryz.underlying5 Tryz.underlying9 (fun j hj => ?_);have e:(⟨g,0,none⟩:Addr).add j=⟨g,j,none⟩:=by simp[Addr.add];omega
 rw[e];exact h j _ (by rw[List.getElem?_eq_getElem hj])
theorem qN.world (w:World)(s:ByteArray):qN (Lib.bytesWorld w 5 s) w.heap.size (s.data.toList.map fun b => .int .u8 (b.toNat:Int)):=by
 refine⟨fun j v hj => ?_,fun j hj => ?_⟩
 · rw[List.getElem?_map]at hj
   cases hx:s.data.toList[j]? with
   | none=>rw[hx]at hj;cases hj
   | some b =>
     rw[hx]at hj
     cases hj
     have hlt:j<s.size:=by have:=(List.getElem?_eq_some_iff.1 hx).1;rw[aE]at this;exact this
     rw[Lib.bytesWorld_cell w 5 s j hlt];simp only[List.getD_eq_getElem?_getD,hx,Option.getD_some]
 · have hg:=Lib.bytesWorld_at_new w 5 s
   have hsz:j<(Lib.bytesCells w 5 s).size:=by
    rw[List.length_map,aE]at hj;simp[Lib.bytesCells];omega
   unfold World.frozen?;rw[hg];simp;omega
def vQ (c:UInt8):Value := .int .u8 (gO c:Int)
def vK (c:UInt8):Value := .int .u8 (c.toNat:Int)
theorem read_any (s:ByteArray)(hg:iJ s.data.toList=true)(hs:s.size<=1000000000)(w:World) :
 Calls Tryz.prog 222 #[.string s] w fun e w'=>(∃ u,e=.returned u/\kG w' u (s.data.toList.map gO))/\Below w.heap.size w w':=by
 have hconv:=Lib.run_convert_string_bytes (P:=Tryz.prog) w 9 85 5 s Tryz.underlying9 Tryz.underlying85 Tryz.underlying5;have hrow:qN (Lib.bytesWorld w 5 s) w.heap.size (oS vQ vK s.data.toList 0):=by rw[bE0];exact qN.world w s
 have hbel:=jM w s;have hsz:=Lib.bytesWorld_size w 5 s;generalize Lib.bytesWorld w 5 s=W at hconv hrow hbel hsz;generalize grownCap w s.size 0 5=cap at hconv;have HZ:w.heap.size<W.heap.size:=by omega
 clear hsz;have HG:=zH (nR hg);have hll:=aE s;generalize hL:s.data.toList=l at *;generalize s.size=n at *;have HN:=zH hll;have HL:=zH hL;clear hll hL hg
 go_enter Tryz.func222,Tryz.ntmps222
 go_wp2
 go_loopw [4,5,10] (fun _ _ i wr=>∃ k:Nat,i=.int .i64 k/\k<=n/\qN wr w.heap.size (oS vQ vK l k)/\Below w.heap.size w wr) (fun _ _ i _=>n - (intOf i).toNat)
 case atStart=>exact⟨0,rfl,Nat.zero_le _,hrow,hbel⟩
 case round =>
  obtain⟨k,rfl,hk,hr,hb⟩:=hrel;clear hrow hbel hconv
  by_cases hlt:k<n
  · obtain⟨b,hb1⟩:∃ b,l[k]? = some b:=⟨l[k]'(by rw[HN.out];exact hlt),List.getElem?_eq_getElem _⟩
    have hcell:=hr.cell k _ (mixK_at vQ vK l k b hb1);have hfree:=hr.free k (by rw[qD,HN.out];exact hlt);have hset:=hr.set (k:=k) (by rw[qD,HN.out];exact hlt) (vQ b);rw[<- bE1 vQ vK l k b hb1]at hset;have hbs:=hb.setCell (p:=⟨w.heap.size,k,none⟩) (zL _) (vQ b);have h0:=HG.out b (List.mem_of_getElem? hb1);have h63:=(aS8 b).2;have D:=qC b (gO b:Int) (yJ h0).symm;have hv64:=vR b;have HS:=zH hset;have HB:=zH hbs;have es:vQ b=.int .u8 (gO b:Int):=rfl;rw[es]at HS HB;unfold vK at hcell;clear hset hbs es h0 h63 hb1;generalize gO b=x at *
    go_wp2_with (go_at_call 227;refine(D.out _).mono ?_;rintro e w' ⟨rfl,rfl⟩)
    go_roundw
    case rel=>exact⟨k+1,by go_num,by omega,HS.out,HB.out⟩
    case measure=>simp[intOf];omega
  · obtain rfl:k=n:=by omega
    have hNs:kG wr (.slice (some ⟨w.heap.size,0,none⟩) k cap) (l.map gO):=by
     refine .inr ⟨w.heap.size,0,cap,by rw[List.length_map,HN.out],fun j hj => ?_⟩;rw[Nat.zero_add];refine hr.cell j _ ?_;have:=mixK_all vQ vK l;rw[HN.out]at this;rw[this];rw[List.length_map]at hj;rw[List.getElem?_map,List.getElem?_eq_getElem hj];simp[vQ]
    have HNs:=zH hNs;clear hNs HN HL hr
    go_wp2
    go_ret
    exact⟨⟨_,rfl,HNs.out⟩,hb⟩
end Go.Proofs.YthnogdodlhkldaaGreatDoor
namespace Go.Proofs.YthnogdodlhkldaaGreatDoor
open Go.RowKit
theorem vI {w:World}{base:Nat}{v:Value}{m:List Nat}(h:w.ownsRow base 5 1 v m.length (cH m))(hm:∀ x∈m,x<256) :
 (convert 85 9 v).run Tryz.prog w=.ok (.string ⟨(m.map Nat.toUInt8).toArray⟩) w:=by
 rcases bS h with ⟨rfl,h2⟩ | ⟨g,cap,rfl⟩
 · have e:m=[]:=List.length_eq_zero_iff.1 h2
   subst e;exact run_convert_bytes_nil (P:=Tryz.prog) w 85 5 Tryz.underlying85 Tryz.underlying5 0 0 9 Tryz.underlying9
 · refine aR1 w g cap _ (fun j b hj => ?_) _ (by simp)
   rw[List.getElem?_map]at hj
   have hlt:j<m.length:=by
    rcases Nat.lt_or_ge j m.length with h1 | h1
    · exact h1
    · rw[List.getElem?_eq_none h1]at hj;cases hj
   rw[List.getElem?_eq_getElem hlt]at hj
   cases hj
   have hc:=h.cellAt j (by omega);have e:(⟨g,j,none⟩:Addr)=⟨g,j,none⟩:=rfl;rw[hc];have:=hm m[j] (List.getElem_mem hlt);simp[cH,List.getElem?_eq_getElem hlt];omega
theorem read_hid (s:ByteArray)(hg:iJ s.data.toList=true)(hs:s.size<=1000000000):Hid (∀ W,Calls Tryz.prog 222 #[.string s] W fun e w'=>(∃ u,e=.returned u/\kG w' u (s.data.toList.map gO))/\Below W.heap.size W w') :=
 zH fun W=>read_any s hg hs W
theorem sG (s:ByteArray)(hs:s.size<=1099511627776)(b:Bool)(hb:cU s.data.toList=b):Hid (∀ W,Calls Tryz.prog 182 #[.string s] W fun e w'=>e=.returned (.bool b)/\w'=W) :=
 zH fun W=>by rw[<- hb];exact form_any s hs W
theorem aQ9 (s:ByteArray)(hs:s.size<=100000)(T:ByteArray)(b:Bool)(hT:(T.data.toList,b)=mR s.data.toList)(w:World) :
 Calls Tryz.prog 174 #[.string s] w fun e w'=>e=.returned (.tuple #[.string T,.bool b])/\Below w.heap.size w w':=by
 unfold mR at hT
 by_cases h0:s.data.toList=[]
 · have g:s.toList.isEmpty=true:=by rw[aF,h0];rfl
   rw[if_pos h0]at hT;obtain⟨h1,rfl⟩:=Prod.mk.inj hT;obtain rfl:T=⟨#[]⟩:=aM h1;clear hT h1 h0
   go_enter Tryz.func174,Tryz.ntmps174
   go_wp2
   go_ret2
   exact⟨rfl,zB _ _⟩
 have g:s.toList.isEmpty=false:=by
  rw[aF]
  cases h:s.data.toList with
  | nil=>exact absurd h h0
  | cons=>rfl
 rw[if_neg h0]at hT
 by_cases h1:cU s.data.toList=false
 · rw[if_pos h1]at hT
   obtain⟨h2,rfl⟩:=Prod.mk.inj hT;obtain rfl:T=⟨#[]⟩:=aM h2;have CF:=sG s (by omega) false h1;clear hT h1 h0 h2
   go_enter Tryz.func174,Tryz.ntmps174
   go_wp2_with fail
   refine(CF.out _).mono ?_;rintro e w' ⟨rfl,rfl⟩
   go_wp2
   go_ret2
   exact⟨rfl,zB _ _⟩
 rw[if_neg h1]at hT;have hform:cU s.data.toList=true:=by simpa using h1
 have CF:=sG s (by omega) true hform;obtain⟨D,hD⟩:=aO (hd s.data.toList);have CD:Hid (∀ W,Calls Tryz.prog 221 #[.string s] W fun e w'=>e=.returned (.string D)/\w'=W):=zH fun W=>pK s D hD (by omega) W
 have hgood:iJ D.data.toList=true:=by
  rw[hD];unfold cU at hform;simp only[Bool.and_eq_true]at hform;exact hform.2
 have hDs:D.size<=s.size:=by rw[<- aE D,<- aE s,hD];exact aU6 _
 rw[<- hD,aE,aE]at hT
 by_cases h2:D.size<s.size/\s.size % 4≠0
 · rw[if_pos h2]at hT
   obtain⟨h3,rfl⟩:=Prod.mk.inj hT;obtain rfl:T=⟨#[]⟩:=aM h3;have z1:(D.size:Int)<(s.size:Int):=by omega
   have z2:((s.size:Int) % 4 != 0)=true:=by rw[bne_iff_ne];omega
   clear hT h1 h0 h2 h3 hD hgood hform
   go_enter Tryz.func174,Tryz.ntmps174
   go_wp2_with fail
   refine(CF.out _).mono ?_;rintro e w' ⟨rfl,rfl⟩
   go_wp2_with fail
   refine(CD.out _).mono ?_;rintro e w' ⟨rfl,rfl⟩
   go_wp2
   go_ret2
   exact⟨rfl,zB _ _⟩
 rw[if_neg h2]at hT;have CRd:=read_hid D hgood (by omega)
 have CR:Hid (∀ W v,kG W v (D.data.toList.map gO)->Calls Tryz.prog 51 #[v,.int .i64 6,.int .i64 8] W fun e w'=>(∃ u,e=.returned (.tuple #[u,.int .u8 (mE (kP 8 (gL D.data.toList)).2:Nat),.int .i64 ((kP 8 (gL D.data.toList)).2.length:Nat)])/\w'.ownsRow W.heap.size 5 1 u (kP 8 (gL D.data.toList)).1.length (cH (kP 8 (gL D.data.toList)).1))/\Below W.heap.size W w'):=zH fun W v h =>
  zO 6 8 (by decide) (by decide) (by decide) (by decide) (D.data.toList.map gO) (fun x hx=>by obtain⟨c,_,rfl⟩:=List.mem_map.1 hx;have:=vR c;omega) v W h (by rw[List.length_map,aE];omega)
 obtain⟨g1,g2,g3⟩:=nQ 8 (by decide) (gL D.data.toList);generalize kP 8 (gL D.data.toList)=p at *;obtain⟨m,r⟩:=p;simp only at CR g2 g3 hT;obtain⟨L,hL⟩:∃ L,L=r.length:=⟨_,rfl⟩;obtain⟨H,hH⟩:∃ H,H=mE r:=⟨_,rfl⟩;have hH8:H<=127:=by rw[hH];exact xF (zL _) g2
 rw[<- hL]at g2;rw[<- hL,<- hH]at CR hT;have HM:Hid (∀ {w:World} {base:Nat} {v:Value},w.ownsRow base 5 1 v m.length (cH m)->(convert 85 9 v).run Tryz.prog w=.ok (.string ⟨(m.map Nat.toUInt8).toArray⟩) w):=zH fun h=>vI h g3;clear hL hH g1 g3 h1 hD hform hgood h0;have hF:D.size<s.size->((s.size:Int) % 4 != 0)=false:=fun h=>by rw[bne_eq_false_iff_eq];omega
 clear h2
 by_cases z1:(D.size:Int)<(s.size:Int)
 all_goals
  try have z2:=hF (by omega)
  clear hF
  by_cases hr:6<=L\/H≠0
  · rw[if_pos hr]at hT
    obtain⟨h3,rfl⟩:=Prod.mk.inj hT;obtain rfl:T=⟨#[]⟩:=aM h3;clear hT h3
    by_cases y1:(6:Int)<=(L:Int)
    · clear hr
      go_enter Tryz.func174,Tryz.ntmps174
      go_wp2_with fail
      refine(CF.out _).mono ?_;rintro e w' ⟨rfl,rfl⟩
      go_wp2_with fail
      refine(CD.out _).mono ?_;rintro e w' ⟨rfl,rfl⟩
      go_wp2_with fail
      refine(CRd.out _).mono ?_;rintro e w1 ⟨⟨u,rfl,hN⟩,B1⟩
      go_wp2_with fail
      refine(CR.out _ _ hN).mono ?_;rintro e w2 ⟨⟨u2,rfl,hown⟩,b2⟩;have B2:=B1.trans (b2.mono B1.size);clear hN b2 B1;clear hown
      go_wp2
      go_ret2
      exact⟨rfl,B2⟩
    · have y2:((H:Int) != 0)=true:=by rw[bne_iff_ne];omega
      clear hr
      go_enter Tryz.func174,Tryz.ntmps174
      go_wp2_with fail
      refine(CF.out _).mono ?_;rintro e w' ⟨rfl,rfl⟩
      go_wp2_with fail
      refine(CD.out _).mono ?_;rintro e w' ⟨rfl,rfl⟩
      go_wp2_with fail
      refine(CRd.out _).mono ?_;rintro e w1 ⟨⟨u,rfl,hN⟩,B1⟩
      go_wp2_with fail
      refine(CR.out _ _ hN).mono ?_;rintro e w2 ⟨⟨u2,rfl,hown⟩,b2⟩;have B2:=B1.trans (b2.mono B1.size);clear hN b2 B1;clear hown
      go_wp2
      go_ret2
      exact⟨rfl,B2⟩
  · rw[if_neg hr]at hT
    obtain⟨h3,rfl⟩:=Prod.mk.inj hT;obtain rfl:=aM h3;have y1:¬ (6:Int)<=(L:Int):=by omega
    have y2:((H:Int) != 0)=false:=by rw[bne_eq_false_iff_eq];omega
    clear hT h3 hr
    go_enter Tryz.func174,Tryz.ntmps174
    go_wp2_with fail
    refine(CF.out _).mono ?_;rintro e w' ⟨rfl,rfl⟩
    go_wp2_with fail
    refine(CD.out _).mono ?_;rintro e w' ⟨rfl,rfl⟩
    go_wp2_with fail
    refine(CRd.out _).mono ?_;rintro e w1 ⟨⟨u,rfl,hN⟩,B1⟩
    go_wp2_with fail
    refine(CR.out _ _ hN).mono ?_;rintro e w2 ⟨⟨u2,rfl,hown⟩,b2⟩;have B2:=B1.trans (b2.mono B1.size);clear hN b2 B1;have HO:=HM.out hown;clear hown
    go_wp2
    go_ret2
    exact⟨rfl,B2⟩
theorem aQ8 (s:ByteArray)(hs:s.size<=100000)(T:ByteArray)(b:Bool)(hT:(T.data.toList,b)=mR s.data.toList):Hid (∀ W,Calls Tryz.prog 174 #[.string s] W fun e w'=>e=.returned (.tuple #[.string T,.bool b])/\Below W.heap.size W w') :=
 zH fun W=>aQ9 s hs T b hT W
end Go.Proofs.YthnogdodlhkldaaGreatDoor
