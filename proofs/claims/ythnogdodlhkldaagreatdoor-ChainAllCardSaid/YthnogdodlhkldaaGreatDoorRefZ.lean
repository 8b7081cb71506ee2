/- Blanks, small letters, trimmed texts; letters and digits: the document's. Schemes, hosts, paths that are clean, what stands behind a scheme that is not ranked: the document's. -/
import Derived.Test.YthnogdodlhkldaaGreatDoorWalkX
set_option maxRecDepth 100000
set_option maxHeartbeats 2000000
namespace Go.Proofs.YthnogdodlhkldaaGreatDoor
open Go.RowKit
theorem blk_int (c:UInt8):eZ c=decide ((c.toNat:Int)=9\/(c.toNat:Int)=10\/(c.toNat:Int)=12\/(c.toNat:Int)=13\/(c.toNat:Int)=32):=by
 rw[Bool.eq_iff_iff];unfold eZ;simp[<- UInt8.toNat_inj];omega
theorem gU (c:UInt8)(w:World):Calls Tryz.prog 265 #[.int .u8 (c.toNat:Int)] w fun e w'=>e=.returned (.bool (eZ c))/\w=w':=by
 have hb:=blk_int c;generalize eZ c=bl at hb ⊢;generalize c.toNat=n at hb ⊢;subst hb
 go_enter Tryz.func265,Tryz.ntmps265
 go_wp2
 all_goals go_ret
 all_goals refine⟨aA ?_,rfl⟩
 all_goals (rw[Bool.eq_iff_iff];simp only[Bool.or_eq_true,decide_eq_true_eq,true_iff,beq_iff_eq]at *;omega)
theorem conv_row {w:World}{base:Nat}{v:Value}{n:Nat}{l:List UInt8}(h:w.ownsRow base 5 1 v n (Lib.byteCells l)) :
 (convert 85 9 v).run Tryz.prog w=.ok (.string ⟨l.toArray⟩) w:=by
 have hl:l.length=n:=by have:=h.1;simpa [Lib.byteCells_length] using this
 rcases bS h with ⟨rfl,h2⟩ | ⟨g,cap,rfl⟩
 · have e:l=[]:=List.length_eq_zero_iff.1 (by omega)
   rw[e];exact run_convert_bytes_nil (P:=Tryz.prog) w 85 5 Tryz.underlying85 Tryz.underlying5 0 0 9 Tryz.underlying9
 · subst hl
   refine run_convert_bytes_back (P:=Tryz.prog) w 85 9 5 ⟨g,0,none⟩ cap l Tryz.underlying85 Tryz.underlying5 Tryz.underlying9 (fun j hj => ?_);have e:(⟨g,0,none⟩:Addr).add j=⟨g,j,none⟩:=by simp[Addr.add];omega
   rw[e,h.cellAt j (by omega)];simp[Lib.byteCells,List.getElem?_eq_getElem hj]
theorem pE (a b:List UInt8):Lib.byteCells (a++b)=Lib.byteCells a++Lib.byteCells b:=by simp[Lib.byteCells]
theorem tV (b:UInt8):Lib.byteCells [b]=[.int .u8 (b.toNat:Int)]:=by simp[Lib.byteCells]
theorem wJ (s:ByteArray)(w:World)(hs:s.size<=1099511627776) :
 Calls Tryz.prog 61 #[.string s] w fun e w'=>e=.returned (.string ⟨(bB s.data.toList).toArray⟩)/\Below w.heap.size w w':=by
 obtain⟨i0,hi,hz0,hz1,hz2⟩:=info_parts yC
 go_enter Tryz.func61,Tryz.ntmps61
 go_wp2
 go_loopw [3,4,5] (fun v i _ wr=>∃ k:Nat,i=.int .i64 k/\k<=s.size/\wr.ownsRow w.heap.size 5 1 v k (Lib.byteCells ((bB s.data.toList).take k))/\Below w.heap.size w wr) (fun _ i _ _=>s.size - (intOf i).toNat)
 case atStart=>exact⟨0,rfl,Nat.zero_le _,World.ownsRow_nil w w.heap.size 5 1,zB _ _⟩
 case round =>
  obtain⟨k,rfl,hk,hown,hbw⟩:=hrel
  by_cases hlt:k<s.size
  · obtain⟨b,hb1,_,rfl⟩:=iS hlt
    have hH:Hid (Lib.byteCells ((bB s.data.toList).take (k+1))=Lib.byteCells ((bB s.data.toList).take k)++[.int .u8 ((fA s[k]).toNat:Int)]):=by
     show _=_;rw[take_low _ k _ hb1,pE,tV]
    clear hb1;have hlo:=rY (b:=s[k]);have hgr:=rZ (b:=s[k]);generalize Lib.byteCells ((bB s.data.toList).take k)=A at *
    by_cases hg:65<=(s[k].toNat:Int)/\(s[k].toNat:Int)<=90
    · obtain⟨hg1,hg2⟩:=hg
      have e:=hgr hg1 hg2;rw[e]at hH;clear e hlo hgr
      go_wp2_with (at_builtin;refine wpList_append_own _ rfl _ _ 85 rfl w.heap.size 5 i0 (.int .u8 0) 1 1 Tryz.underlying85 hi hz0 hz1 hz2 rfl (by decide) _ _ _ rfl (hown.alloc _) ⟨wr.heap.size,0,none⟩ 1 1 [.int .u8 ((s[k].toNat:Int)+32)] rfl rfl (cell_one_new _ _ _) (fun x hx=>by simp at hx;subst hx;rfl) (by unfold maxLen;omega) (by omega) (by have:=hbw.size;simp;omega) ?_;intro v' w3 hown' hgrow3 hnil3
                   have hbw3:Below w.heap.size w w3:=Below.grown (hbw.alloc (by have:=hbw.size;omega) _) hgrow3 (by have:=hbw.size;simp;omega) (fun j hj=>by have:=(hown.lt _ hj).1;omega);have X:Aside (w3.ownsRow w.heap.size 5 1 v' (k+1) (A++[.int .u8 ((s[k].toNat:Int)+32)])/\Below w.heap.size w w3):=⟨hown',hbw3⟩
                   clear hown' hgrow3 hnil3)
      go_roundw
      case rel=>exact⟨k+1,by go_num,by omega,by rw[hH.out];exact X.out.1,X.out.2⟩
      case measure=>simp[intOf];omega
    · have e:=hlo hg
      rw[e]at hH;clear e hlo hgr
      by_cases hg1:65<=(s[k].toNat:Int)
      all_goals
       go_wp2_with (at_builtin;refine wpList_append_own _ rfl _ _ 85 rfl w.heap.size 5 i0 (.int .u8 0) 1 1 Tryz.underlying85 hi hz0 hz1 hz2 rfl (by decide) _ _ _ rfl (hown.alloc _) ⟨wr.heap.size,0,none⟩ 1 1 [.int .u8 (s[k].toNat:Int)] rfl rfl (cell_one_new _ _ _) (fun x hx=>by simp at hx;subst hx;rfl) (by unfold maxLen;omega) (by omega) (by have:=hbw.size;simp;omega) ?_;intro v' w3 hown' hgrow3 hnil3
                    have hbw3:Below w.heap.size w w3:=Below.grown (hbw.alloc (by have:=hbw.size;omega) _) hgrow3 (by have:=hbw.size;simp;omega) (fun j hj=>by have:=(hown.lt _ hj).1;omega);have X:Aside (w3.ownsRow w.heap.size 5 1 v' (k+1) (A++[.int .u8 (s[k].toNat:Int)])/\Below w.heap.size w w3):=⟨hown',hbw3⟩
                    clear hown' hgrow3 hnil3)
       go_roundw
       case rel=>exact⟨k+1,by go_num,by omega,by rw[hH.out];exact X.out.1,X.out.2⟩
       case measure=>simp[intOf];omega
  · obtain rfl:k=s.size:=by omega
    rw[List.take_of_length_le (by rw[dS,aE];exact zL _)]at hown;have hconv:=conv_row hown
    go_wp2
    go_ret
    exact⟨rfl,hbw⟩
theorem sK {s:ByteArray}{i j:Nat}{l:List UInt8}(h:(s.data.toList.drop i).take (j - i)=l):s.extract i j=⟨l.toArray⟩:=by
 apply ByteArray.ext
 apply Array.toList_inj.1
 rw[dF,h]
theorem rB (l:List UInt8)(i j:Nat):(l.drop i).take (j - i)=(l.take j).drop i:=by
 rw[List.drop_take]
def Front (l:List UInt8)(i:Nat):Prop:=∀ k,k<i->∀ b,l[k]? = some b->eZ b=true
def Back (l:List UInt8)(j:Nat):Prop:=∀ k,j<=k->∀ b,l[k]? = some b->eZ b=true
theorem zU (s:ByteArray)(w:World)(hs:s.size<=1099511627776) :
 Calls Tryz.prog 246 #[.string s] w fun e w'=>e=.returned (.string ⟨(eI s.data.toList).toArray⟩)/\w=w':=by
 go_enter Tryz.func246,Tryz.ntmps246
 go_wp2
 go_loop [3] (fun i=>∃ k:Nat,i=.int .i64 k/\k<=s.size/\Hid (Front s.data.toList k)) (fun i=>s.size - (intOf i).toNat)
 case atStart=>exact⟨0,rfl,Nat.zero_le _,zH (fun k hk=>by omega)⟩
 case round =>
  obtain⟨k,rfl,hk,HF⟩:=hrel
  have hgo:(∃ h:k<s.size,eZ s[k]=true)\/((k=s.size)\/(∃ h:k<s.size,eZ s[k]=false)):=by
   by_cases h:k<s.size
   · cases hb:eZ s[k]
     · exact .inr (.inr ⟨h,hb⟩)
     · exact .inl ⟨h,hb⟩
   · exact .inr (.inl (by omega))
  rcases hgo with ⟨hlt,hb⟩ | hend
  · have HF2:Hid (Front s.data.toList (k+1)):=zH (fun j hj b hjb=>by
     by_cases h:j<k
     · exact HF.out j h b hjb
     · obtain rfl:j=k:=by omega
       obtain⟨b',h1,_,rfl⟩:=iS hlt
       rw[h1]at hjb;cases hjb;exact hb)
    have c:=fun W=>gU s[k] W;rw[hb]at c;have C:=zH c;clear c hb HF
    go_wp2_with (go_at_call 265;refine(C.out _).mono ?_;rintro e w' ⟨rfl,rfl⟩)
    go_round
    case rel=>exact⟨k+1,by go_num,by omega,HF2⟩
    case measure=>simp[intOf];omega
  · have HE:Hid (∀ j,k<j->∀ b,s.data.toList[k]? = some b->eZ b=false):=zH (fun j hj b hb=>by
     rcases hend with rfl | ⟨h,hb2⟩
     · have:=(oY hb).2;omega
     · obtain⟨b',h1,_,rfl⟩:=iS h
       rw[h1]at hb;cases hb;exact hb2)
    have loop2:∀(P:Prop),(P->P):=fun _ h=>h
    have hcase:¬ k<s.size\/∃ h:k<s.size,∀ W,Calls Tryz.prog 265 #[.int .u8 (s[k].toNat:Int)] W fun e w'=>e=.returned (.bool false)/\W=w':=by
     rcases hend with rfl | ⟨h,hb2⟩
     · exact .inl (by omega)
     · refine .inr ⟨h,fun W => ?_⟩
       have:=gU s[k] W;rw[hb2]at this;exact this
    clear hend loop2;rcases hcase with hlt | ⟨hlt,c⟩
    all_goals (try (have C:=zH c;clear c))
    all_goals
     go_wp2_with (go_at_call 265;refine(C.out _).mono ?_;rintro e w' ⟨rfl,rfl⟩)
     go_loop [4] (fun i=>∃ j:Nat,i=.int .i64 j/\k<=j/\j<=s.size/\Hid (Back s.data.toList j)) (fun i=>(intOf i).toNat)
     case atStart=>exact⟨s.size,rfl,hk,zL _,zH (fun q hq b hb=>by have:=(oY hb).2;omega)⟩
     case round =>
      obtain⟨j,rfl,hkj,hj,HB⟩:=hrel
      have hgo:(∃ m,j=m+1/\k<=m/\∃ h:m<s.size,eZ s[m]=true)\/j=k\/(∃ m,j=m+1/\k<=m/\∃ h:m<s.size,eZ s[m]=false):=by
       by_cases h:j=k
       · exact .inr (.inl h)
       · obtain⟨m,rfl⟩:∃ m,j=m+1:=⟨j - 1,by omega⟩
         have hm:m<s.size:=by omega
         cases hb:eZ s[m]
         · exact .inr (.inr ⟨m,rfl,by omega,hm,hb⟩)
         · exact .inl ⟨m,rfl,by omega,hm,hb⟩
      have fin:(k<j->∀ b,s.data.toList[j - 1]? = some b->eZ b=false)->s.extract k j=⟨(eI s.data.toList).toArray⟩:=fun h4=>by
       apply sK
       rw[rB];exact(aG9 s.data.toList k j hkj (by rw[aE];exact hj) HF.out HB.out (fun h=>HE.out j h) h4).symm
      rcases hgo with ⟨m,rfl,hkm,hm,hb⟩ | rfl | ⟨m,rfl,hkm,hm,hb⟩
      · have HB2:Hid (Back s.data.toList m):=zH (fun q hq b hqb=>by
         by_cases h:m+1<=q
         · exact HB.out q h b hqb
         · obtain rfl:q=m:=by omega
           obtain⟨b',h1,_,rfl⟩:=iS hm
           rw[h1]at hqb;cases hqb;exact hb)
        have c2:=fun W=>gU s[m] W;rw[hb]at c2;have C2:=zH c2;clear c2 hb HB fin
        go_wp2_with (go_at_call 265;refine(C2.out _).mono ?_;rintro e w' ⟨rfl,rfl⟩)
        first
         | done
         | (go_round
            case rel=>exact⟨m,by go_num,hkm,by omega,HB2⟩
            case measure=>simp[intOf])
      · have hf:=fin (fun h=>by omega)
        have he:s.extract j j=ByteArray.empty:=by simp
        rw[he]at hf;have HFI:=zH hf;clear fin hf he
        go_wp2
        go_ret
        exact⟨congrArg (fun x=>Ending.returned (Value.string x)) HFI.out,rfl⟩
      · have hf:=fin (fun h b hb3=>by
         obtain⟨b',h1,_,rfl⟩:=iS hm
         rw[Nat.add_sub_cancel,h1]at hb3;cases hb3;exact hb)
        have c2:=fun W=>gU s[m] W;rw[hb]at c2;have C2:=zH c2;have HFI:=zH hf;clear c2 hb HB fin hf
        go_wp2_with (go_at_call 265;refine(C2.out _).mono ?_;rintro e w' ⟨rfl,rfl⟩)
        all_goals go_ret
        all_goals exact⟨congrArg (fun x=>Ending.returned (Value.string x)) HFI.out,rfl⟩
theorem aP0 (c:UInt8)(w:World):Calls Tryz.prog 189 #[.int .u8 (c.toNat:Int)] w fun e w'=>e=.returned (.bool (small c))/\w'=w:=by
 have hb:c.toNat<=255:=by have:=c.toNat_lt;omega
 by_cases h1:97<=(c.toNat:Int)
 · by_cases h2:(c.toNat:Int)<=122
   · have e:small c=true:=decide_eq_true ⟨by omega,by omega⟩
     rw[e];clear e
     go_enter Tryz.func189,Tryz.ntmps189
     go_wp2
     go_ret
     exact⟨rfl,rfl⟩
   · have e:small c=false:=decide_eq_false (by omega)
     rw[e];clear e
     go_enter Tryz.func189,Tryz.ntmps189
     go_wp2
     go_ret
     exact⟨rfl,rfl⟩
 · have e:small c=false:=decide_eq_false (by omega)
   rw[e];clear e
   go_enter Tryz.func189,Tryz.ntmps189
   go_wp2
   go_ret
   exact⟨rfl,rfl⟩
theorem wS (c:UInt8)(w:World):Calls Tryz.prog 190 #[.int .u8 (c.toNat:Int)] w fun e w'=>e=.returned (.bool (bQ c))/\w'=w:=by
 have hb:c.toNat<=255:=by have:=c.toNat_lt;omega
 by_cases h1:48<=(c.toNat:Int)
 · by_cases h2:(c.toNat:Int)<=57
   · have e:bQ c=true:=decide_eq_true ⟨by omega,by omega⟩
     rw[e];clear e
     go_enter Tryz.func190,Tryz.ntmps190
     go_wp2
     go_ret
     exact⟨rfl,rfl⟩
   · have e:bQ c=false:=decide_eq_false (by omega)
     rw[e];clear e
     go_enter Tryz.func190,Tryz.ntmps190
     go_wp2
     go_ret
     exact⟨rfl,rfl⟩
 · have e:bQ c=false:=decide_eq_false (by omega)
   rw[e];clear e
   go_enter Tryz.func190,Tryz.ntmps190
   go_wp2
   go_ret
   exact⟨rfl,rfl⟩
theorem eE (c:UInt8)(b:Bool)(h:small c=b):Hid (∀ W,Calls Tryz.prog 189 #[.int .u8 (c.toNat:Int)] W fun e w'=>e=.returned (.bool b)/\w'=W):=zH fun W=>by rw[<- h];exact aP0 c W
theorem fN (c:UInt8)(b:Bool)(h:bQ c=b):Hid (∀ W,Calls Tryz.prog 190 #[.int .u8 (c.toNat:Int)] W fun e w'=>e=.returned (.bool b)/\w'=W):=zH fun W=>by rw[<- h];exact wS c W
theorem cK (s T:ByteArray)(hT:T.data.toList=bB s.data.toList)(hs:s.size<=1099511627776):Hid (∀ W,Calls Tryz.prog 61 #[.string s] W fun e w'=>e=.returned (.string T)/\Below W.heap.size W w'):=zH fun W=>by
 rw[aM hT];exact wJ s W hs
theorem zS (s T:ByteArray)(hT:T.data.toList=eI s.data.toList)(hs:s.size<=1099511627776):Hid (∀ W,Calls Tryz.prog 246 #[.string s] W fun e w'=>e=.returned (.string T)/\w'=W):=zH fun W=>by
 rw[aM hT];exact(zU s W hs).mono fun e w' h=>⟨h.1,h.2.symm⟩
end Go.Proofs.YthnogdodlhkldaaGreatDoor
namespace Go.Proofs.YthnogdodlhkldaaGreatDoor
open Go.RowKit
theorem sZ (s:ByteArray)(hs:s.size<=1099511627776)(w:World):Calls Tryz.prog 139 #[.string s] w fun e w'=>e=.returned (.bool (dR s.data.toList))/\w'=w:=by
 by_cases h0:s.size=0
 · have hl:s.data.toList=[]:=List.length_eq_zero_iff.1 (by rw[aE];exact h0)
   have g:s.toList.isEmpty=true:=by rw[aF,hl];rfl
   rw[hl];clear hl
   go_enter Tryz.func139,Tryz.ntmps139
   go_wp2
   go_ret
   exact⟨rfl,rfl⟩
 have hpos:0<s.size:=by omega
 obtain⟨b0,l0,hbl⟩:∃ b l,s.data.toList=b :: l:=by
  cases h:s.data.toList with
  | nil=>rw[<- aE,h]at hpos;cases hpos
  | cons b l=>exact⟨b,l,rfl⟩
 have g:s.toList.isEmpty=false:=by rw[aF,hbl];rfl
 have hb0:s[0]=b0:=by
  obtain⟨b,h1,_,h3⟩:=xS hpos;rw[hbl]at h1;simp at h1;rw[h3,h1]
 have hlen:l0.length+1=s.size:=by rw[<- aE s,hbl];rfl
 have hm:dR s.data.toList=(decide (s.size<=20)&&small s[0]&&s.data.toList.all kO):=by
  rw[hb0,hbl];show(decide (l0.length<20)&&small b0&&(b0 :: l0).all kO)=_
  congr 2
  rw[decide_eq_decide];omega
 clear hbl hb0 hlen
 by_cases h5:20<(s.size:Int)
 · have e:dR s.data.toList=false:=by rw[hm,decide_eq_false (by omega)];rfl
   rw[e];clear hm e
   go_enter Tryz.func139,Tryz.ntmps139
   go_wp2
   go_ret
   exact⟨rfl,rfl⟩
 rw[decide_eq_true (by omega)]at hm
 cases hsm:small s[0]
 · have C:=eE s[0] false hsm
   have e:dR s.data.toList=false:=by rw[hm,hsm];rfl
   rw[e];clear hm e hsm
   go_enter Tryz.func139,Tryz.ntmps139
   go_wp2_with (go_at_call 189;refine(C.out _).mono ?_;rintro e w' ⟨rfl,rfl⟩)
   go_ret
   exact⟨rfl,rfl⟩
 have C0:=eE s[0] true hsm;rw[hsm]at hm;have HM:Hid (dR s.data.toList=s.data.toList.all kO):=zH hm;clear hm hsm
 go_enter Tryz.func139,Tryz.ntmps139
 go_wp2_with (go_at_call 189;refine(C0.out _).mono ?_;rintro e w' ⟨rfl,rfl⟩)
 clear C0
 go_loop [3,4] (fun i _=>∃ k:Nat,k<=s.size/\i=.int .i64 k/\Hid ((s.data.toList.take k).all kO=true)) (fun i _=>s.size - (intOf i).toNat)
 case atStart=>exact⟨0,by omega,rfl,zH rfl⟩
 case round =>
  obtain⟨k,hk,rfl,HS⟩:=hrel
  by_cases hlt:k<s.size
  · have hst:=eO kO hlt HS.out
    have hB:kO s[k]=(small s[k] || bQ s[k] || s[k]==43 || s[k]==45 || s[k]==46):=rfl
    cases h1:small s[k]
    · cases h2:bQ s[k]
      · have C1:=eE s[k] false h1
        have C2:=fN s[k] false h2;have e1:=bR s[k] 43;have e2:=bR s[k] 45;have e3:=bR s[k] 46;rw[h1,h2,<- e1,<- e2,<- e3]at hB;change kO s[k]=(false || false || ((s[k].toNat:Int)==43) || ((s[k].toNat:Int)==45) || ((s[k].toNat:Int)==46))at hB;clear e1 e2 e3 h1 h2
        cases g1:((s[k].toNat:Int)==43)
        · cases g2:((s[k].toNat:Int)==45)
          · cases g3:((s[k].toNat:Int)==46)
            · have p1:((s[k].toNat:Int) != 43)=true:=by simpa using g1
              have p2:((s[k].toNat:Int) != 45)=true:=by simpa using g2
              have p3:((s[k].toNat:Int) != 46)=true:=by simpa using g3
              rw[g1,g2,g3]at hB;have HR:Hid (false=dR s.data.toList):=zH (by rw[HM.out,hst.2 hB]);clear hst hB
              go_wp2_with (first | (go_at_call 189;refine(C1.out _).mono ?_;rintro e w' ⟨rfl,rfl⟩) | (go_at_call 190;refine(C2.out _).mono ?_;rintro e w' ⟨rfl,rfl⟩))
              go_ret
              exact⟨aA HR.out,rfl⟩
            · have p1:((s[k].toNat:Int) != 43)=true:=by simpa using g1
              have p2:((s[k].toNat:Int) != 45)=true:=by simpa using g2
              have p3:((s[k].toNat:Int) != 46)=false:=by simpa using g3
              rw[g1,g2,g3]at hB;have HR:=zH (hst.1 hB);clear hst hB
              go_wp2_with (first | (go_at_call 189;refine(C1.out _).mono ?_;rintro e w' ⟨rfl,rfl⟩) | (go_at_call 190;refine(C2.out _).mono ?_;rintro e w' ⟨rfl,rfl⟩))
              go_round
              case rel=>exact⟨k+1,by omega,by go_num,HR⟩
              case measure=>simp[intOf];omega
          · have p1:((s[k].toNat:Int) != 43)=true:=by simpa using g1
            have p2:((s[k].toNat:Int) != 45)=false:=by simpa using g2
            rw[g1,g2]at hB;have HR:=zH (hst.1 (by rw[hB];rfl));clear hst hB
            go_wp2_with (first | (go_at_call 189;refine(C1.out _).mono ?_;rintro e w' ⟨rfl,rfl⟩) | (go_at_call 190;refine(C2.out _).mono ?_;rintro e w' ⟨rfl,rfl⟩))
            go_round
            case rel=>exact⟨k+1,by omega,by go_num,HR⟩
            case measure=>simp[intOf];omega
        · have p1:((s[k].toNat:Int) != 43)=false:=by simpa using g1
          rw[g1]at hB;have HR:=zH (hst.1 (by rw[hB];rfl));clear hst hB
          go_wp2_with (first | (go_at_call 189;refine(C1.out _).mono ?_;rintro e w' ⟨rfl,rfl⟩) | (go_at_call 190;refine(C2.out _).mono ?_;rintro e w' ⟨rfl,rfl⟩))
          go_round
          case rel=>exact⟨k+1,by omega,by go_num,HR⟩
          case measure=>simp[intOf];omega
      · have C1:=eE s[k] false h1
        have C2:=fN s[k] true h2;have HR:=zH (hst.1 (by rw[hB,h1,h2];rfl));clear hst hB h1 h2
        go_wp2_with (first | (go_at_call 189;refine(C1.out _).mono ?_;rintro e w' ⟨rfl,rfl⟩) | (go_at_call 190;refine(C2.out _).mono ?_;rintro e w' ⟨rfl,rfl⟩))
        go_round
        case rel=>exact⟨k+1,by omega,by go_num,HR⟩
        case measure=>simp[intOf];omega
    · have C1:=eE s[k] true h1
      have HR:=zH (hst.1 (by rw[hB,h1];rfl));clear hst hB h1
      go_wp2_with (go_at_call 189;refine(C1.out _).mono ?_;rintro e w' ⟨rfl,rfl⟩)
      go_round
      case rel=>exact⟨k+1,by omega,by go_num,HR⟩
      case measure=>simp[intOf];omega
  · obtain rfl:k=s.size:=by omega
    have HR:Hid (true=dR s.data.toList):=zH (by
     have:=HS.out
     rw[cQ]at this;rw[HM.out,this])
    go_wp2
    go_ret
    exact⟨aA HR.out,rfl⟩
theorem iU (s:ByteArray)(b:Bool)(h:dR s.data.toList=b)(hs:s.size<=1099511627776):Hid (∀ W,Calls Tryz.prog 139 #[.string s] W fun e w'=>e=.returned (.bool b)/\w'=W) :=
 zH fun W=>by rw[<- h];exact sZ s hs W
theorem yI (a b:UInt8)(s:ByteArray)(hs:s.size<=1099511627776)(w:World):Calls Tryz.prog 206 #[.string s,.int .u8 (a.toNat:Int),.int .u8 (b.toNat:Int)] w fun e w'=>e=.returned (.bool (bH 33 [a,b] s.data.toList))/\w'=w:=by
 go_enter Tryz.func206,Tryz.ntmps206
 go_wp2
 go_loop [7] (fun i=>∃ k:Nat,k<=s.size/\i=.int .i64 k/\Hid ((s.data.toList.take k).all (aD2 33 [a,b])=true)) (fun i=>s.size - (intOf i).toNat)
 case atStart=>exact⟨0,by omega,rfl,zH rfl⟩
 case round =>
  obtain⟨k,hk,rfl,HS⟩:=hrel
  by_cases hlt:k<s.size
  · have hst:=eO (aD2 33 [a,b]) hlt HS.out
    have hin:aD2 33 [a,b] s[k]=(decide (33<=s[k].toNat/\s[k].toNat<=126) && !(s[k]==a || s[k]==b)):=by
     unfold aD2;simp only[List.contains_cons,List.contains_nil,Bool.or_false]
    have e1:=bR s[k] a;have e2:=bR s[k] b;rw[<- e1,<- e2]at hin
    by_cases h1:(s[k].toNat:Int)<33
    · have HR:Hid (false=bH 33 [a,b] s.data.toList):=zH (by
       refine(hst.2 ?_).symm
       rw[hin,decide_eq_false (by omega)];rfl)
      clear hst hin e1 e2
      go_wp2
      go_ret
      exact⟨aA HR.out,rfl⟩
    by_cases h2:126<(s[k].toNat:Int)
    · have HR:Hid (false=bH 33 [a,b] s.data.toList):=zH (by
       refine(hst.2 ?_).symm
       rw[hin,decide_eq_false (by omega)];rfl)
      clear hst hin e1 e2
      go_wp2
      go_ret
      exact⟨aA HR.out,rfl⟩
    rw[decide_eq_true (by omega),Bool.true_and]at hin;clear e1 e2
    cases g1:((s[k].toNat:Int)==(a.toNat:Int))
    · cases g2:((s[k].toNat:Int)==(b.toNat:Int))
      · rw[g1,g2]at hin
        have HR:=zH (hst.1 hin);clear hst hin
        go_wp2
        go_round
        case rel=>exact⟨k+1,by omega,by go_num,HR⟩
        case measure=>simp[intOf];omega
      · rw[g1,g2]at hin
        have HR:Hid (false=bH 33 [a,b] s.data.toList):=zH (hst.2 hin).symm;clear hst hin
        go_wp2
        go_ret
        exact⟨aA HR.out,rfl⟩
    · rw[g1,Bool.true_or]at hin
      have HR:Hid (false=bH 33 [a,b] s.data.toList):=zH (hst.2 hin).symm;clear hst hin
      go_wp2
      go_ret
      exact⟨aA HR.out,rfl⟩
  · obtain rfl:k=s.size:=by omega
    have HR:Hid (true=bH 33 [a,b] s.data.toList):=zH (by
     have:=HS.out
     rw[cQ]at this;exact this.symm)
    go_wp2
    go_ret
    exact⟨aA HR.out,rfl⟩
theorem pL (a b:UInt8)(s:ByteArray)(r:Bool)(h:bH 33 [a,b] s.data.toList=r)(hs:s.size<=1099511627776):Hid (∀ W,Calls Tryz.prog 206 #[.string s,.int .u8 (a.toNat:Int),.int .u8 (b.toNat:Int)] W fun e w'=>e=.returned (.bool r)/\w'=W) :=
 zH fun W=>by rw[<- h];exact yI a b s hs W
theorem aQ0 (p:Bool)(l:List UInt8):dE p (l++[46])=false:=by
 induction l generalizing p with
 | nil=>simp[dE,pA]
 | cons b l ih =>
   rw[List.cons_append];unfold dE;rw[ih true,ih false];split<;>simp
def pv (l:List UInt8):Nat->Bool
 | 0=>true
 | k+1=>(l[k]?.map pA).getD false
theorem wV (s:ByteArray)(k:Nat)(h:k<s.size):pv s.data.toList (k+1)=pA s[k]:=by
 obtain⟨b,h1,_,h3⟩:=xS h;show(s.data.toList[k]?.map pA).getD false=_;rw[h1,h3];rfl
theorem vE (s:ByteArray)(k:Nat)(h:k<s.size):s.data.toList.drop k=s[k] :: s.data.toList.drop (k+1):=by
 obtain⟨b,h1,_,h3⟩:=xS h;rw[jJ h1,h3]
theorem aA3 (s:ByteArray)(hs:s.size<=1099511627776)(w:World):Calls Tryz.prog 191 #[.string s] w fun e w'=>e=.returned (.bool (bW s.data.toList))/\w'=w:=by
 have hM:bW s.data.toList=(decide (s.size<=100)&&dE true s.data.toList):=by rw[aU5,aE]
 by_cases h0:(s.size:Int)<1
 · have e:bW s.data.toList=false:=by
    have hl:s.data.toList=[]:=List.length_eq_zero_iff.1 (by rw[aE];omega);rw[hM,hl];simp[dE]
   rw[e];clear hM e
   go_enter Tryz.func191,Tryz.ntmps191
   go_wp2
   go_ret
   exact⟨rfl,rfl⟩
 by_cases h1:100<(s.size:Int)
 · have e:bW s.data.toList=false:=by rw[hM,decide_eq_false (by omega)];rfl
   rw[e];clear hM e
   go_enter Tryz.func191,Tryz.ntmps191
   go_wp2
   go_ret
   exact⟨rfl,rfl⟩
 rw[decide_eq_true (by omega),Bool.true_and]at hM;have hpos:0<s.size:=by omega
 obtain⟨m,hm⟩:∃ m,s.size=m+1:=⟨s.size - 1,by omega⟩;have hlm:m<s.size:=by omega
 cases g1:((s[0].toNat:Int)==46)
 case true =>
  have e:bW s.data.toList=false:=by
   have h2:s[0]=46:=gF (d:=46) (by simpa using g1);have h3:=vE s 0 hpos;rw[List.drop_zero]at h3;rw[hM,h3,h2];rfl
  rw[e];clear hM e
  go_enter Tryz.func191,Tryz.ntmps191
  go_wp2
  go_ret
  exact⟨rfl,rfl⟩
 have hix:(s.size:Int) - 1=(m:Int):=by omega
 cases g2:((s[m].toNat:Int)==46)
 case true =>
  have e:bW s.data.toList=false:=by
   have h2:s[m]=46:=gF (d:=46) (by simpa using g2)
   have h3:s.data.toList=s.data.toList.take m++[46]:=by
    have:=fV hlm;rw[h2]at this;rw[<- this,List.take_of_length_le (by rw[aE];omega)]
   rw[hM,h3,aQ0]
  rw[e];clear hM e
  go_enter Tryz.func191,Tryz.ntmps191
  go_wp2
  go_ret
  exact⟨rfl,rfl⟩
 have HM:=zH hM
 have HL:Hid (pv s.data.toList s.size=false):=zH (by
  rw[hm,wV s m hlm];have:=bR s[m] 46;show(s[m]==46)=false
  rw[<- this];exact g2)
 have H0:Hid (pA s[0]=false):=zH (by
  show(s[0]==46)=false
  rw[<- bR s[0] 46];exact g1)
 clear hM
 go_enter Tryz.func191,Tryz.ntmps191
 go_wp2
 go_loop [3,4] (fun i _=>∃ k:Nat,k<=s.size/\i=.int .i64 k/\Hid (bW s.data.toList=dE (pv s.data.toList k) (s.data.toList.drop k))) (fun i _=>s.size - (intOf i).toNat)
 case atStart=>exact⟨0,by omega,rfl,zH HM.out⟩
 case round =>
  obtain⟨k,hk,rfl,HS⟩:=hrel
  by_cases hlt:k<s.size
  · have hS:=HS.out
    rw[vE s k hlt]at hS;have hpv:=wV s k hlt;have hnb:gI s[k]=(small s[k] || bQ s[k] || s[k]==45):=rfl;have e45:=bR s[k] 45;have e46:=bR s[k] 46;have hd:pA s[k]=(s[k]==46):=rfl;rw[<- e45]at hnb;rw[<- e46]at hd;change gI s[k]=(small s[k] || bQ s[k] || ((s[k].toNat:Int)==45))at hnb;change pA s[k]=((s[k].toNat:Int)==46)at hd;have hR:dE (pv s.data.toList k) (s[k] :: s.data.toList.drop (k+1))=if pA s[k] then !pv s.data.toList k&&dE true (s.data.toList.drop (k+1)) else gI s[k]&&dE false (s.data.toList.drop (k+1)):=rfl;rw[hR]at hS;clear hR e45 e46
    cases g4:((s[k].toNat:Int)==46)
    · rw[g4]at hd
      rw[hd,if_neg (by simp)]at hS;rw[hd]at hpv
      cases h1:small s[k]
      · cases h2:bQ s[k]
        · have C1:=eE s[k] false h1
          have C2:=fN s[k] false h2;have n2:((s[k].toNat:Int) != 46)=true:=by rw[bne,g4];rfl
          cases g3:((s[k].toNat:Int)==45)
          · have n1:((s[k].toNat:Int) != 45)=true:=by rw[bne,g3];rfl
            rw[h1,h2,g3]at hnb;have HR:Hid (false=bW s.data.toList):=zH (by rw[hS,hnb];rfl);clear hS hpv hnb hd h1 h2
            go_wp2_with (first | (go_at_call 189;refine(C1.out _).mono ?_;rintro e w' ⟨rfl,rfl⟩) | (go_at_call 190;refine(C2.out _).mono ?_;rintro e w' ⟨rfl,rfl⟩))
            go_ret
            exact⟨aA HR.out,rfl⟩
          · have n1:((s[k].toNat:Int) != 45)=false:=by rw[bne,g3];rfl
            rw[h1,h2,g3]at hnb;have HR:Hid (bW s.data.toList=dE (pv s.data.toList (k+1)) (s.data.toList.drop (k+1))):=zH (by rw[hpv,hS,hnb];rfl);clear hS hpv hnb hd h1 h2
            go_wp2_with (first | (go_at_call 189;refine(C1.out _).mono ?_;rintro e w' ⟨rfl,rfl⟩) | (go_at_call 190;refine(C2.out _).mono ?_;rintro e w' ⟨rfl,rfl⟩))
            go_round
            case rel=>exact⟨k+1,by omega,by go_num,HR⟩
            case measure=>simp[intOf];omega
        · have C1:=eE s[k] false h1
          have C2:=fN s[k] true h2;rw[h1,h2]at hnb;have HR:Hid (bW s.data.toList=dE (pv s.data.toList (k+1)) (s.data.toList.drop (k+1))):=zH (by rw[hpv,hS,hnb];rfl);clear hS hpv hnb hd h1 h2
          go_wp2_with (first | (go_at_call 189;refine(C1.out _).mono ?_;rintro e w' ⟨rfl,rfl⟩) | (go_at_call 190;refine(C2.out _).mono ?_;rintro e w' ⟨rfl,rfl⟩))
          go_round
          case rel=>exact⟨k+1,by omega,by go_num,HR⟩
          case measure=>simp[intOf];omega
      · have C1:=eE s[k] true h1
        rw[h1]at hnb;have HR:Hid (bW s.data.toList=dE (pv s.data.toList (k+1)) (s.data.toList.drop (k+1))):=zH (by rw[hpv,hS,hnb];rfl);clear hS hpv hnb hd h1
        go_wp2_with (go_at_call 189;refine(C1.out _).mono ?_;rintro e w' ⟨rfl,rfl⟩)
        go_round
        case rel=>exact⟨k+1,by omega,by go_num,HR⟩
        case measure=>simp[intOf];omega
    · rw[g4]at hd
      rw[hd,if_pos rfl]at hS;rw[hd]at hpv;have hc46:s[k]=46:=gF (d:=46) (by simpa using g4);have C1:=eE s[k] false (by rw[hc46];rfl);have C2:=fN s[k] false (by rw[hc46];rfl);have n1:((s[k].toNat:Int) != 45)=true:=by rw[hc46];rfl
      have n2:((s[k].toNat:Int) != 46)=false:=by rw[bne,g4];rfl
      cases k with
      | zero =>
        exfalso
        have:=H0.out;rw[hd]at this;cases this
      | succ j =>
        have hj:j<s.size:=by omega
        rw[wV s j hj]at hS;have hdj:pA s[j]=((s[j].toNat:Int)==46):=(bR s[j] 46).symm;rw[hdj]at hS;clear hc46 hdj hnb hd
        cases g5:((s[j].toNat:Int)==46)
        · rw[g5]at hS
          have HR:Hid (bW s.data.toList=dE (pv s.data.toList (j+1+1)) (s.data.toList.drop (j+1+1))):=zH (by rw[hpv,hS];rfl);clear hS hpv
          go_wp2_with (first | (go_at_call 189;refine(C1.out _).mono ?_;rintro e w' ⟨rfl,rfl⟩) | (go_at_call 190;refine(C2.out _).mono ?_;rintro e w' ⟨rfl,rfl⟩))
          go_round
          case rel=>exact⟨j+1+1,by omega,by go_num,HR⟩
          case measure=>simp[intOf];omega
        · rw[g5]at hS
          have HR:Hid (false=bW s.data.toList):=zH (by rw[hS];rfl);clear hS hpv
          go_wp2_with (first | (go_at_call 189;refine(C1.out _).mono ?_;rintro e w' ⟨rfl,rfl⟩) | (go_at_call 190;refine(C2.out _).mono ?_;rintro e w' ⟨rfl,rfl⟩))
          go_ret
          exact⟨aA HR.out,rfl⟩
  · obtain rfl:k=s.size:=by omega
    have HR:Hid (true=bW s.data.toList):=zH (by
     rw[HS.out,HL.out,<- aE,List.drop_length];rfl)
    go_wp2
    go_ret
    exact⟨aA HR.out,rfl⟩
theorem pV (s:ByteArray)(b:Bool)(h:bW s.data.toList=b)(hs:s.size<=1099511627776):Hid (∀ W,Calls Tryz.prog 191 #[.string s] W fun e w'=>e=.returned (.bool b)/\w'=W) :=
 zH fun W=>by rw[<- h];exact aA3 s hs W
end Go.Proofs.YthnogdodlhkldaaGreatDoor
