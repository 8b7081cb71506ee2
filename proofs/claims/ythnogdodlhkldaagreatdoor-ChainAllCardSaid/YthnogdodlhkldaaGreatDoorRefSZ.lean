/- A source's path: the document's. A source's struct; is a SourceHost right: the document's. -/
import Derived.Test.YthnogdodlhkldaaGreatDoorRefZ
set_option maxRecDepth 100000
set_option maxHeartbeats 8000000
namespace Go.Proofs.YthnogdodlhkldaaGreatDoor
open Go.RowKit
theorem bG0 (b:UInt8):bJ8 b=(decide (33<=b.toNat/\b.toNat<=126) && !(b==63 || (b==35 || (b==44 || (b==59 || b==58))))):=by
 unfold bJ8 aD2;simp only[List.contains_cons,List.contains_nil,Bool.or_false]
theorem aY1 (s:ByteArray)(w:World):Calls Tryz.prog 192 #[.string s] w fun e w'=>e=.returned (.bool (cF s.data.toList))/\w'=w:=by
 by_cases hl:(200:Int)<(s.size:Int)
 · have HR:Hid (false=cF s.data.toList):=zH (by unfold cF;rw[decide_eq_false (by rw[aE];omega)];rfl)
   go_enter Tryz.func192,Tryz.ntmps192
   go_wp2
   go_ret
   exact⟨aA HR.out,rfl⟩
 have hl2:s.data.toList.length<=200:=by rw[aE];omega
 by_cases h0:s.size=0
 · have he:s.data.toList=[]:=List.length_eq_zero_iff.1 (by rw[aE];exact h0)
   have HR:Hid (true=cF s.data.toList):=zH (by rw[he];rfl);have g0:s.toList.isEmpty=true:=by rw[aF,he];rfl
   obtain rfl:s=⟨#[]⟩:=aM he
   go_enter Tryz.func192,Tryz.ntmps192
   go_wp2
   go_loop [3] (fun i=>i=.int .i64 0) (fun _=>0)
   case atStart=>rfl
   case round =>
    subst hrel
    go_wp2
    go_ret
    exact⟨aA HR.out,rfl⟩
 have hs0:0<s.size:=by omega
 have g0:s.toList.isEmpty=false:=by
  rw[aF]
  cases hd:s.data.toList with
  | nil=>have:=aE s;rw[hd]at this;simp at this;omega
  | cons b l=>rfl
 have g1:=bR s[0] 47;rw[show(((47:UInt8).toNat:Nat):Int)=47 from rfl]at g1;have hhd:s.data.toList.head? = some s[0]:=by rw[List.head?_eq_getElem?];exact List.getElem?_eq_getElem (by rw[aE];exact hs0)
 cases g2:(s[0]==47)
 · rw[g2]at g1
   have g3:((s[0].toNat:Int) != 47)=true:=by simp[bne,g1]
   have HR:Hid (false=cF s.data.toList):=zH (by
    unfold cF;rw[hhd];have e:s.data.toList.isEmpty=false:=by rw[<- aF];exact g0
    have e2:(some s[0]==some (47:UInt8))=false:=by simpa using g2
    rw[e,e2];simp)
   clear hhd g1 g2
   go_enter Tryz.func192,Tryz.ntmps192
   go_wp2
   go_ret
   exact⟨aA HR.out,rfl⟩
 rw[g2]at g1;have g3:((s[0].toNat:Int) != 47)=false:=by simp[bne,g1]
 have HP:Hid (cF s.data.toList=s.data.toList.all bJ8):=zH (by
  unfold cF;rw[hhd,decide_eq_true hl2];have e2:(some s[0]==some (47:UInt8))=true:=by simpa using g2
  rw[e2];simp)
 clear hhd g1 g2
 go_enter Tryz.func192,Tryz.ntmps192
 go_wp2
 clear g3
 go_loop [3] (fun i=>∃ k:Nat,k<=s.size/\i=.int .i64 k/\Hid ((s.data.toList.take k).all bJ8=true)) (fun i=>s.size - (intOf i).toNat)
 case atStart=>exact⟨0,by omega,rfl,zH rfl⟩
 case round =>
  obtain⟨k,hk,rfl,HS⟩:=hrel
  by_cases hlt:k<s.size
  · have hst:=eO bJ8 hlt HS.out
    have hin:=bG0 s[k];have e1:=bR s[k] 63;have e2:=bR s[k] 35;have e3:=bR s[k] 44;have e4:=bR s[k] 59;have e5:=bR s[k] 58;rw[<- e1,<- e2,<- e3,<- e4,<- e5]at hin;rw[show(((63:UInt8).toNat:Nat):Int)=63 from rfl,show(((35:UInt8).toNat:Nat):Int)=35 from rfl,show(((44:UInt8).toNat:Nat):Int)=44 from rfl,show(((59:UInt8).toNat:Nat):Int)=59 from rfl,show(((58:UInt8).toNat:Nat):Int)=58 from rfl]at hin;clear e1 e2 e3 e4 e5;have HNO:bJ8 s[k]=false->Hid (false=cF s.data.toList):=fun h=>zH (by rw[HP.out];exact(hst.2 h).symm);have HYES:bJ8 s[k]=true->Hid ((s.data.toList.take (k+1)).all bJ8=true):=fun h=>zH (hst.1 h);clear hst
    by_cases h1:(s[k].toNat:Int)<33
    · have HR:=HNO (by rw[hin,decide_eq_false (by omega)];rfl)
      clear HNO HYES hin
      go_wp2
      go_ret
      exact⟨aA HR.out,rfl⟩
    by_cases h2:126<(s[k].toNat:Int)
    · have HR:=HNO (by rw[hin,decide_eq_false (by omega)];rfl)
      clear HNO HYES hin
      go_wp2
      go_ret
      exact⟨aA HR.out,rfl⟩
    rw[decide_eq_true (by omega),Bool.true_and]at hin
    cases g1:((s[k].toNat:Int)==63)
    case true =>
     have HR:=HNO (by rw[hin,g1];simp);clear HNO HYES hin
     go_wp2
     go_ret
     exact⟨aA HR.out,rfl⟩
    cases g2:((s[k].toNat:Int)==35)
    case true =>
     have HR:=HNO (by rw[hin,g2];simp);clear HNO HYES hin
     go_wp2
     go_ret
     exact⟨aA HR.out,rfl⟩
    cases g3:((s[k].toNat:Int)==44)
    case true =>
     have HR:=HNO (by rw[hin,g3];simp);clear HNO HYES hin
     go_wp2
     go_ret
     exact⟨aA HR.out,rfl⟩
    cases g4:((s[k].toNat:Int)==59)
    case true =>
     have HR:=HNO (by rw[hin,g4];simp);clear HNO HYES hin
     go_wp2
     go_ret
     exact⟨aA HR.out,rfl⟩
    cases g5:((s[k].toNat:Int)==58)
    case true =>
     have HR:=HNO (by rw[hin,g5];simp);clear HNO HYES hin
     go_wp2
     go_ret
     exact⟨aA HR.out,rfl⟩
    have HR:=HYES (by rw[hin,g1,g2,g3,g4,g5];rfl);clear HNO HYES hin
    go_wp2
    go_round
    case rel=>exact⟨k+1,by omega,by go_num,HR⟩
    case measure=>simp[intOf];omega
  · obtain rfl:k=s.size:=by omega
    have HR:Hid (true=cF s.data.toList):=zH (by
     rw[HP.out];have:=HS.out
     rw[cQ]at this;exact this.symm)
    go_wp2
    go_ret
    exact⟨aA HR.out,rfl⟩
theorem aY0 (s:ByteArray)(b:Bool)(h:cF s.data.toList=b):Hid (∀ W,Calls Tryz.prog 192 #[.string s] W fun e w'=>e=.returned (.bool b)/\w'=W) :=
 zH fun W=>by rw[<- h];exact aY1 s W
end Go.Proofs.YthnogdodlhkldaaGreatDoor
namespace Go.Proofs.YthnogdodlhkldaaGreatDoor
open Go.RowKit
def aP (k:Int)(t s h:ByteArray)(b:Bool)(p:Int)(pa:ByteArray):Value := .agg #[.int .i64 k,.string t,.string s,.string h,.bool b,.int .i64 p,.string pa]
def aJ (k:Int)(t s h:ByteArray)(b:Bool)(p:Int)(pa:ByteArray):bI:=⟨k,t.data.toList,s.data.toList,h.data.toList,b,p,pa.data.toList⟩
theorem aY6 (k:Int)(t s h:ByteArray)(b:Bool)(p:Int)(pa:ByteArray)(ls:s.size<=1099511627776)(lh:h.size<=1099511627776)(w:World):Calls Tryz.prog 140 #[aP k t s h b p pa] w fun e w'=>e=.returned (.bool (aZ (aJ k t s h b p pa)))/\Below w.heap.size w w':=by
 have CS:=iU s _ rfl ls;have CH:=pV h _ rfl lh;have CPA:=aY0 pa _ rfl;have xA:=aW w (.cells #[.int .i64 k,.string t,.string s,.string h,.bool b,.int .i64 p,.string pa] 75);have BB:Hid (Below w.heap.size w (w.alloc (.cells #[.int .i64 k,.string t,.string s,.string h,.bool b,.int .i64 p,.string pa] 75))):=zH ((zB _ _).alloc (zL _) _);have c0:(w.alloc (.cells #[.int .i64 k,.string t,.string s,.string h,.bool b,.int .i64 p,.string pa] 75)).cell? ⟨w.heap.size,0,none⟩=some (.int .i64 k):=by rw[aG xA];rfl
 have c1:(w.alloc (.cells #[.int .i64 k,.string t,.string s,.string h,.bool b,.int .i64 p,.string pa] 75)).cell? ⟨w.heap.size,1,none⟩=some (.string t):=by rw[aG xA];rfl
 have c2:(w.alloc (.cells #[.int .i64 k,.string t,.string s,.string h,.bool b,.int .i64 p,.string pa] 75)).cell? ⟨w.heap.size,2,none⟩=some (.string s):=by rw[aG xA];rfl
 have c3:(w.alloc (.cells #[.int .i64 k,.string t,.string s,.string h,.bool b,.int .i64 p,.string pa] 75)).cell? ⟨w.heap.size,3,none⟩=some (.string h):=by rw[aG xA];rfl
 have c4:(w.alloc (.cells #[.int .i64 k,.string t,.string s,.string h,.bool b,.int .i64 p,.string pa] 75)).cell? ⟨w.heap.size,4,none⟩=some (.bool b):=by rw[aG xA];rfl
 have c5:(w.alloc (.cells #[.int .i64 k,.string t,.string s,.string h,.bool b,.int .i64 p,.string pa] 75)).cell? ⟨w.heap.size,5,none⟩=some (.int .i64 p):=by rw[aG xA];rfl
 have c6:(w.alloc (.cells #[.int .i64 k,.string t,.string s,.string h,.bool b,.int .i64 p,.string pa] 75)).cell? ⟨w.heap.size,6,none⟩=some (.string pa):=by rw[aG xA];rfl
 clear xA;unfold aP
 cases gt:t.toList.isEmpty
 · have et:t.data.toList.isEmpty=false:=by rw[<- aF];exact gt
   have HR:Hid (false=aZ (aJ k t s h b p pa)):=zH (by unfold aZ aJ;simp[et])
   go_enter Tryz.func140,Tryz.ntmps140
   go_wp2_with (first | (go_at_call 139;(with_reducible refine(CS.out _).mono ?_);rintro e w7 ⟨rfl,rfl⟩) | (go_at_call 191;(with_reducible refine(CH.out _).mono ?_);rintro e w7 ⟨rfl,rfl⟩) | (go_at_call 192;(with_reducible refine(CPA.out _).mono ?_);rintro e w7 ⟨rfl,rfl⟩))
   go_ret
   exact⟨aA HR.out,BB.out⟩
 have et:t.data.toList.isEmpty=true:=by rw[<- aF];exact gt
 cases gs:s.toList.isEmpty
 · have es:s.data.toList.isEmpty=false:=by rw[<- aF];exact gs
   cases hs:dR s.data.toList
   · rw[hs]at CS
     have HR:Hid (false=aZ (aJ k t s h b p pa)):=zH (by unfold aZ aJ;simp[et,es,hs])
     go_enter Tryz.func140,Tryz.ntmps140
     go_wp2_with (first | (go_at_call 139;(with_reducible refine(CS.out _).mono ?_);rintro e w7 ⟨rfl,rfl⟩) | (go_at_call 191;(with_reducible refine(CH.out _).mono ?_);rintro e w7 ⟨rfl,rfl⟩) | (go_at_call 192;(with_reducible refine(CPA.out _).mono ?_);rintro e w7 ⟨rfl,rfl⟩))
     go_ret
     exact⟨aA HR.out,BB.out⟩
   · rw[hs]at CS
     cases gh:h.toList.isEmpty
     · have eh:h.data.toList.isEmpty=false:=by rw[<- aF];exact gh
       cases hh:bW h.data.toList
       · rw[hh]at CH
         have HR:Hid (false=aZ (aJ k t s h b p pa)):=zH (by unfold aZ aJ;simp[et,es,hs,eh,hh])
         go_enter Tryz.func140,Tryz.ntmps140
         go_wp2_with (first | (go_at_call 139;(with_reducible refine(CS.out _).mono ?_);rintro e w7 ⟨rfl,rfl⟩) | (go_at_call 191;(with_reducible refine(CH.out _).mono ?_);rintro e w7 ⟨rfl,rfl⟩) | (go_at_call 192;(with_reducible refine(CPA.out _).mono ?_);rintro e w7 ⟨rfl,rfl⟩))
         go_ret
         exact⟨aA HR.out,BB.out⟩
       · rw[hh]at CH
         by_cases p1:p < -1
         · have q1:decide (-1<=p/\p<=65535)=false:=decide_eq_false (by omega)
           have HR:Hid (false=aZ (aJ k t s h b p pa)):=zH (by unfold aZ aJ;simp[et,es,hs,eh,hh,q1])
           go_enter Tryz.func140,Tryz.ntmps140
           go_wp2_with (first | (go_at_call 139;(with_reducible refine(CS.out _).mono ?_);rintro e w7 ⟨rfl,rfl⟩) | (go_at_call 191;(with_reducible refine(CH.out _).mono ?_);rintro e w7 ⟨rfl,rfl⟩) | (go_at_call 192;(with_reducible refine(CPA.out _).mono ?_);rintro e w7 ⟨rfl,rfl⟩))
           go_ret
           exact⟨aA HR.out,BB.out⟩
         by_cases p2:65535<p
         · have q1:decide (-1<=p/\p<=65535)=false:=decide_eq_false (by omega)
           have HR:Hid (false=aZ (aJ k t s h b p pa)):=zH (by unfold aZ aJ;simp[et,es,hs,eh,hh,q1])
           go_enter Tryz.func140,Tryz.ntmps140
           go_wp2_with (first | (go_at_call 139;(with_reducible refine(CS.out _).mono ?_);rintro e w7 ⟨rfl,rfl⟩) | (go_at_call 191;(with_reducible refine(CH.out _).mono ?_);rintro e w7 ⟨rfl,rfl⟩) | (go_at_call 192;(with_reducible refine(CPA.out _).mono ?_);rintro e w7 ⟨rfl,rfl⟩))
           go_ret
           exact⟨aA HR.out,BB.out⟩
         have q1:decide (-1<=p/\p<=65535)=true:=decide_eq_true (by omega);have p3 : -1<=p:=by omega
         have p4:p<=65535:=by omega
         cases hpa:cF pa.data.toList
         · rw[hpa]at CPA
           have HR:Hid (false=aZ (aJ k t s h b p pa)):=zH (by unfold aZ aJ;simp[et,es,hs,eh,hh,q1,hpa])
           go_enter Tryz.func140,Tryz.ntmps140
           go_wp2_with (first | (go_at_call 139;(with_reducible refine(CS.out _).mono ?_);rintro e w7 ⟨rfl,rfl⟩) | (go_at_call 191;(with_reducible refine(CH.out _).mono ?_);rintro e w7 ⟨rfl,rfl⟩) | (go_at_call 192;(with_reducible refine(CPA.out _).mono ?_);rintro e w7 ⟨rfl,rfl⟩))
           go_ret
           exact⟨aA HR.out,BB.out⟩
         · rw[hpa]at CPA
           have HR:Hid (true=aZ (aJ k t s h b p pa)):=zH (by unfold aZ aJ;simp[et,es,hs,eh,hh,q1,hpa])
           go_enter Tryz.func140,Tryz.ntmps140
           go_wp2_with (first | (go_at_call 139;(with_reducible refine(CS.out _).mono ?_);rintro e w7 ⟨rfl,rfl⟩) | (go_at_call 191;(with_reducible refine(CH.out _).mono ?_);rintro e w7 ⟨rfl,rfl⟩) | (go_at_call 192;(with_reducible refine(CPA.out _).mono ?_);rintro e w7 ⟨rfl,rfl⟩))
           go_ret
           exact⟨aA HR.out,BB.out⟩
     · have eh:h.data.toList.isEmpty=true:=by rw[<- aF];exact gh
       cases b
       case false =>
        have HR:Hid (false=aZ (aJ k t s h false p pa)):=zH (by unfold aZ aJ;simp[et,es,hs,eh])
        go_enter Tryz.func140,Tryz.ntmps140
        go_wp2_with (first | (go_at_call 139;(with_reducible refine(CS.out _).mono ?_);rintro e w7 ⟨rfl,rfl⟩) | (go_at_call 191;(with_reducible refine(CH.out _).mono ?_);rintro e w7 ⟨rfl,rfl⟩) | (go_at_call 192;(with_reducible refine(CPA.out _).mono ?_);rintro e w7 ⟨rfl,rfl⟩))
        go_ret
        exact⟨aA HR.out,BB.out⟩
       case true =>
        by_cases p1:p < -1
        · have q1:decide (-1<=p/\p<=65535)=false:=decide_eq_false (by omega)
          have HR:Hid (false=aZ (aJ k t s h true p pa)):=zH (by unfold aZ aJ;simp[et,es,hs,eh,q1])
          go_enter Tryz.func140,Tryz.ntmps140
          go_wp2_with (first | (go_at_call 139;(with_reducible refine(CS.out _).mono ?_);rintro e w7 ⟨rfl,rfl⟩) | (go_at_call 191;(with_reducible refine(CH.out _).mono ?_);rintro e w7 ⟨rfl,rfl⟩) | (go_at_call 192;(with_reducible refine(CPA.out _).mono ?_);rintro e w7 ⟨rfl,rfl⟩))
          go_ret
          exact⟨aA HR.out,BB.out⟩
        by_cases p2:65535<p
        · have q1:decide (-1<=p/\p<=65535)=false:=decide_eq_false (by omega)
          have HR:Hid (false=aZ (aJ k t s h true p pa)):=zH (by unfold aZ aJ;simp[et,es,hs,eh,q1])
          go_enter Tryz.func140,Tryz.ntmps140
          go_wp2_with (first | (go_at_call 139;(with_reducible refine(CS.out _).mono ?_);rintro e w7 ⟨rfl,rfl⟩) | (go_at_call 191;(with_reducible refine(CH.out _).mono ?_);rintro e w7 ⟨rfl,rfl⟩) | (go_at_call 192;(with_reducible refine(CPA.out _).mono ?_);rintro e w7 ⟨rfl,rfl⟩))
          go_ret
          exact⟨aA HR.out,BB.out⟩
        have q1:decide (-1<=p/\p<=65535)=true:=decide_eq_true (by omega);have p3 : -1<=p:=by omega
        have p4:p<=65535:=by omega
        cases hpa:cF pa.data.toList
        · rw[hpa]at CPA
          have HR:Hid (false=aZ (aJ k t s h true p pa)):=zH (by unfold aZ aJ;simp[et,es,hs,eh,q1,hpa])
          go_enter Tryz.func140,Tryz.ntmps140
          go_wp2_with (first | (go_at_call 139;(with_reducible refine(CS.out _).mono ?_);rintro e w7 ⟨rfl,rfl⟩) | (go_at_call 191;(with_reducible refine(CH.out _).mono ?_);rintro e w7 ⟨rfl,rfl⟩) | (go_at_call 192;(with_reducible refine(CPA.out _).mono ?_);rintro e w7 ⟨rfl,rfl⟩))
          go_ret
          exact⟨aA HR.out,BB.out⟩
        · rw[hpa]at CPA
          have HR:Hid (true=aZ (aJ k t s h true p pa)):=zH (by unfold aZ aJ;simp[et,es,hs,eh,q1,hpa])
          go_enter Tryz.func140,Tryz.ntmps140
          go_wp2_with (first | (go_at_call 139;(with_reducible refine(CS.out _).mono ?_);rintro e w7 ⟨rfl,rfl⟩) | (go_at_call 191;(with_reducible refine(CH.out _).mono ?_);rintro e w7 ⟨rfl,rfl⟩) | (go_at_call 192;(with_reducible refine(CPA.out _).mono ?_);rintro e w7 ⟨rfl,rfl⟩))
          go_ret
          exact⟨aA HR.out,BB.out⟩
 have es:s.data.toList.isEmpty=true:=by rw[<- aF];exact gs
 cases gh:h.toList.isEmpty
 · have eh:h.data.toList.isEmpty=false:=by rw[<- aF];exact gh
   cases hh:bW h.data.toList
   · rw[hh]at CH
     have HR:Hid (false=aZ (aJ k t s h b p pa)):=zH (by unfold aZ aJ;simp[et,es,eh,hh])
     go_enter Tryz.func140,Tryz.ntmps140
     go_wp2_with (first | (go_at_call 139;(with_reducible refine(CS.out _).mono ?_);rintro e w7 ⟨rfl,rfl⟩) | (go_at_call 191;(with_reducible refine(CH.out _).mono ?_);rintro e w7 ⟨rfl,rfl⟩) | (go_at_call 192;(with_reducible refine(CPA.out _).mono ?_);rintro e w7 ⟨rfl,rfl⟩))
     go_ret
     exact⟨aA HR.out,BB.out⟩
   · rw[hh]at CH
     by_cases p1:p < -1
     · have q1:decide (-1<=p/\p<=65535)=false:=decide_eq_false (by omega)
       have HR:Hid (false=aZ (aJ k t s h b p pa)):=zH (by unfold aZ aJ;simp[et,es,eh,hh,q1])
       go_enter Tryz.func140,Tryz.ntmps140
       go_wp2_with (first | (go_at_call 139;(with_reducible refine(CS.out _).mono ?_);rintro e w7 ⟨rfl,rfl⟩) | (go_at_call 191;(with_reducible refine(CH.out _).mono ?_);rintro e w7 ⟨rfl,rfl⟩) | (go_at_call 192;(with_reducible refine(CPA.out _).mono ?_);rintro e w7 ⟨rfl,rfl⟩))
       go_ret
       exact⟨aA HR.out,BB.out⟩
     by_cases p2:65535<p
     · have q1:decide (-1<=p/\p<=65535)=false:=decide_eq_false (by omega)
       have HR:Hid (false=aZ (aJ k t s h b p pa)):=zH (by unfold aZ aJ;simp[et,es,eh,hh,q1])
       go_enter Tryz.func140,Tryz.ntmps140
       go_wp2_with (first | (go_at_call 139;(with_reducible refine(CS.out _).mono ?_);rintro e w7 ⟨rfl,rfl⟩) | (go_at_call 191;(with_reducible refine(CH.out _).mono ?_);rintro e w7 ⟨rfl,rfl⟩) | (go_at_call 192;(with_reducible refine(CPA.out _).mono ?_);rintro e w7 ⟨rfl,rfl⟩))
       go_ret
       exact⟨aA HR.out,BB.out⟩
     have q1:decide (-1<=p/\p<=65535)=true:=decide_eq_true (by omega);have p3 : -1<=p:=by omega
     have p4:p<=65535:=by omega
     cases hpa:cF pa.data.toList
     · rw[hpa]at CPA
       have HR:Hid (false=aZ (aJ k t s h b p pa)):=zH (by unfold aZ aJ;simp[et,es,eh,hh,q1,hpa])
       go_enter Tryz.func140,Tryz.ntmps140
       go_wp2_with (first | (go_at_call 139;(with_reducible refine(CS.out _).mono ?_);rintro e w7 ⟨rfl,rfl⟩) | (go_at_call 191;(with_reducible refine(CH.out _).mono ?_);rintro e w7 ⟨rfl,rfl⟩) | (go_at_call 192;(with_reducible refine(CPA.out _).mono ?_);rintro e w7 ⟨rfl,rfl⟩))
       go_ret
       exact⟨aA HR.out,BB.out⟩
     · rw[hpa]at CPA
       have HR:Hid (true=aZ (aJ k t s h b p pa)):=zH (by unfold aZ aJ;simp[et,es,eh,hh,q1,hpa])
       go_enter Tryz.func140,Tryz.ntmps140
       go_wp2_with (first | (go_at_call 139;(with_reducible refine(CS.out _).mono ?_);rintro e w7 ⟨rfl,rfl⟩) | (go_at_call 191;(with_reducible refine(CH.out _).mono ?_);rintro e w7 ⟨rfl,rfl⟩) | (go_at_call 192;(with_reducible refine(CPA.out _).mono ?_);rintro e w7 ⟨rfl,rfl⟩))
       go_ret
       exact⟨aA HR.out,BB.out⟩
 · have eh:h.data.toList.isEmpty=true:=by rw[<- aF];exact gh
   cases b
   case false =>
    have HR:Hid (false=aZ (aJ k t s h false p pa)):=zH (by unfold aZ aJ;simp[et,es,eh])
    go_enter Tryz.func140,Tryz.ntmps140
    go_wp2_with (first | (go_at_call 139;(with_reducible refine(CS.out _).mono ?_);rintro e w7 ⟨rfl,rfl⟩) | (go_at_call 191;(with_reducible refine(CH.out _).mono ?_);rintro e w7 ⟨rfl,rfl⟩) | (go_at_call 192;(with_reducible refine(CPA.out _).mono ?_);rintro e w7 ⟨rfl,rfl⟩))
    go_ret
    exact⟨aA HR.out,BB.out⟩
   case true =>
    by_cases p1:p < -1
    · have q1:decide (-1<=p/\p<=65535)=false:=decide_eq_false (by omega)
      have HR:Hid (false=aZ (aJ k t s h true p pa)):=zH (by unfold aZ aJ;simp[et,es,eh,q1])
      go_enter Tryz.func140,Tryz.ntmps140
      go_wp2_with (first | (go_at_call 139;(with_reducible refine(CS.out _).mono ?_);rintro e w7 ⟨rfl,rfl⟩) | (go_at_call 191;(with_reducible refine(CH.out _).mono ?_);rintro e w7 ⟨rfl,rfl⟩) | (go_at_call 192;(with_reducible refine(CPA.out _).mono ?_);rintro e w7 ⟨rfl,rfl⟩))
      go_ret
      exact⟨aA HR.out,BB.out⟩
    by_cases p2:65535<p
    · have q1:decide (-1<=p/\p<=65535)=false:=decide_eq_false (by omega)
      have HR:Hid (false=aZ (aJ k t s h true p pa)):=zH (by unfold aZ aJ;simp[et,es,eh,q1])
      go_enter Tryz.func140,Tryz.ntmps140
      go_wp2_with (first | (go_at_call 139;(with_reducible refine(CS.out _).mono ?_);rintro e w7 ⟨rfl,rfl⟩) | (go_at_call 191;(with_reducible refine(CH.out _).mono ?_);rintro e w7 ⟨rfl,rfl⟩) | (go_at_call 192;(with_reducible refine(CPA.out _).mono ?_);rintro e w7 ⟨rfl,rfl⟩))
      go_ret
      exact⟨aA HR.out,BB.out⟩
    have q1:decide (-1<=p/\p<=65535)=true:=decide_eq_true (by omega);have p3 : -1<=p:=by omega
    have p4:p<=65535:=by omega
    cases hpa:cF pa.data.toList
    · rw[hpa]at CPA
      have HR:Hid (false=aZ (aJ k t s h true p pa)):=zH (by unfold aZ aJ;simp[et,es,eh,q1,hpa])
      go_enter Tryz.func140,Tryz.ntmps140
      go_wp2_with (first | (go_at_call 139;(with_reducible refine(CS.out _).mono ?_);rintro e w7 ⟨rfl,rfl⟩) | (go_at_call 191;(with_reducible refine(CH.out _).mono ?_);rintro e w7 ⟨rfl,rfl⟩) | (go_at_call 192;(with_reducible refine(CPA.out _).mono ?_);rintro e w7 ⟨rfl,rfl⟩))
      go_ret
      exact⟨aA HR.out,BB.out⟩
    · rw[hpa]at CPA
      have HR:Hid (true=aZ (aJ k t s h true p pa)):=zH (by unfold aZ aJ;simp[et,es,eh,q1,hpa])
      go_enter Tryz.func140,Tryz.ntmps140
      go_wp2_with (first | (go_at_call 139;(with_reducible refine(CS.out _).mono ?_);rintro e w7 ⟨rfl,rfl⟩) | (go_at_call 191;(with_reducible refine(CH.out _).mono ?_);rintro e w7 ⟨rfl,rfl⟩) | (go_at_call 192;(with_reducible refine(CPA.out _).mono ?_);rintro e w7 ⟨rfl,rfl⟩))
      go_ret
      exact⟨aA HR.out,BB.out⟩
end Go.Proofs.YthnogdodlhkldaaGreatDoor
