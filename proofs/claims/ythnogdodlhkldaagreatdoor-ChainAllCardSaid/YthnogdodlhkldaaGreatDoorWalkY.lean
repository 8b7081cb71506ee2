/- The document's rows. A path's pieces, a path cleaned: the document's; ports, and addresses that are too big, the document's. A path cleaned: the document's. Addresses that are too big (the document's). -/
import Derived.Test.YthnogdodlhkldaaGreatDoorWalkZ
set_option maxRecDepth 100000
set_option maxHeartbeats 2000000
namespace Go.Proofs.YthnogdodlhkldaaGreatDoor
open Go.RowKit
end Go.Proofs.YthnogdodlhkldaaGreatDoor
namespace Go.Proofs.YthnogdodlhkldaaGreatDoor
open Go.RowKit
theorem rP (s:ByteArray)(w:World):Calls Tryz.prog 202 #[.string s] w fun e w'=>e=.returned (.int .i64 (kM s.data.toList:Int))/\w'=w:=by
 have g1:(s.toList==[104,116,116,112])=decide (s.data.toList=yD):=bJ _ _;have g2:(s.toList==[119,115])=decide (s.data.toList=WS):=bJ _ _;have g3:(s.toList==[104,116,116,112,115])=decide (s.data.toList=qL):=bJ _ _;have g4:(s.toList==[119,115,115])=decide (s.data.toList=WSS):=bJ _ _;have hd:kM s.data.toList=if s.data.toList=yD\/s.data.toList=WS then 80 else if s.data.toList=qL\/s.data.toList=WSS then 443 else 0:=rfl
 by_cases h1:s.data.toList=yD
 · rw[decide_eq_true h1]at g1
   rw[if_pos (.inl h1)]at hd;rw[hd];clear g2 g3 g4 h1 hd
   go_enter Tryz.func202,Tryz.ntmps202
   go_wp2
   go_ret
   exact⟨rfl,rfl⟩
 rw[decide_eq_false h1]at g1
 by_cases h2:s.data.toList=WS
 · rw[decide_eq_true h2]at g2
   rw[if_pos (.inr h2)]at hd;rw[hd];clear g3 g4 h1 h2 hd
   go_enter Tryz.func202,Tryz.ntmps202
   go_wp2
   go_ret
   exact⟨rfl,rfl⟩
 rw[decide_eq_false h2]at g2;rw[if_neg (by rintro(h | h);exact h1 h;exact h2 h)]at hd
 by_cases h3:s.data.toList=qL
 · rw[decide_eq_true h3]at g3
   rw[if_pos (.inl h3)]at hd;rw[hd];clear g4 h1 h2 h3 hd
   go_enter Tryz.func202,Tryz.ntmps202
   go_wp2
   go_ret
   exact⟨rfl,rfl⟩
 rw[decide_eq_false h3]at g3
 by_cases h4:s.data.toList=WSS
 · rw[decide_eq_true h4]at g4
   rw[if_pos (.inr h4)]at hd;rw[hd];clear h1 h2 h3 h4 hd
   go_enter Tryz.func202,Tryz.ntmps202
   go_wp2
   go_ret
   exact⟨rfl,rfl⟩
 · rw[decide_eq_false h4]at g4
   rw[if_neg (by rintro(h | h);exact h3 h;exact h4 h)]at hd;rw[hd];clear h1 h2 h3 h4 hd
   go_enter Tryz.func202,Tryz.ntmps202
   go_wp2
   go_ret
   exact⟨rfl,rfl⟩
theorem iB (s:ByteArray)(n:Nat)(h:kM s.data.toList=n):Hid (∀ W,Calls Tryz.prog 202 #[.string s] W fun e w'=>e=.returned (.int .i64 (n:Int))/\w'=W) :=
 zH fun W=>by rw[<- h];exact rP s W
def CAt (l:List UInt8)(fr k:Nat)(acc:List (List UInt8)):Prop:=(k<=l.length/\CutTo sl l fr k acc)\/(k=l.length+1/\acc=cut sl (l.drop 1)/\acc.length<=l.length+1)
theorem aI0 (b:UInt8):((b.toNat:Int)==47)=sl b:=bR b 47
theorem tC (s:ByteArray)(hs:s.size<=1000000)(hs1:1<=s.size)(w:World):Calls Tryz.prog 248 #[.string s] w fun e w'=>∃ v,e=.returned v/\w'.ownsRow w.heap.size 9 1 v (cut sl (s.data.toList.drop 1)).length (aC (cut sl (s.data.toList.drop 1)))/\Below w.heap.size w w':=by
 obtain⟨i0,hi,hz0,hz1,hz2⟩:=info_parts pI;have HLL:=zH (aE s)
 go_enter Tryz.func248,Tryz.ntmps248
 go_wp2
 go_loopw [3,4,5] (fun v f i wr=>∃(fr k:Nat) (acc:List (List UInt8)),f=.int .i64 fr/\i=.int .i64 k/\k<=s.size+1/\fr<=k/\wr.ownsRow w.heap.size 9 1 v acc.length (aC acc)/\Below w.heap.size w wr/\Hid (CAt s.data.toList fr k acc)) (fun _ _ i _=>s.size+1 - (intOf i).toNat)
 case atStart=>exact⟨1,1,[],rfl,rfl,by omega,zL _,World.ownsRow_nil w w.heap.size 9 1,zB _ _,zH (.inl ⟨by rw[HLL.out];exact hs1,aF0 _ _⟩)⟩
 case round =>
  obtain⟨fr,k,acc,rfl,rfl,hk,hfk,hown,hbw,HW⟩:=hrel
  by_cases hend:k=s.size+1
  · subst hend
    have e:acc=cut sl (s.data.toList.drop 1):=by
     rcases HW.out with ⟨h1,_⟩ | ⟨_,h2,_⟩
     · rw[HLL.out]at h1;omega
     · exact h2
    have HV:Hid (wr.ownsRow w.heap.size 9 1 u3 (cut sl (s.data.toList.drop 1)).length (aC (cut sl (s.data.toList.drop 1)))):=zH (by rw[<- e];exact hown);clear e hown
    go_wp2
    go_ret
    exact⟨_,rfl,HV.out,hbw⟩
  · have hk2:k<=s.size:=by omega
    have HT:Hid (CutTo sl s.data.toList fr k acc):=zH (by
     rcases HW.out with ⟨_,h1⟩ | ⟨h1,_⟩
     · exact h1
     · rw[HLL.out]at h1;omega)
    have hacc:acc.length<=s.size:=by have:=HT.out.few;omega
    clear HW hend
    have HA:Hid (∀(t:ByteArray) (W:World) (v':Value),W.ownsRow w.heap.size 9 1 v' (acc.length+1) (aC acc++[.string t])->W.ownsRow w.heap.size 9 1 v' (acc++[t.data.toList]).length (aC (acc++[t.data.toList]))):=zH fun t W v' h=>by
     rw[eF,List.length_append];exact h
    have HX:Hid ((s.extract fr k).data.toList=(s.data.toList.drop fr).take (k - fr)):=zH (dF s fr k)
    by_cases hlt:k<s.size
    · have hkn:((k:Int)==(s.size:Int))=false:=by simp;omega
      obtain⟨b,hb1,_,rfl⟩:=xS hlt;have hq:=aI0 s[k]
      cases hbl:sl s[k]
      · have HN:Hid (CAt s.data.toList fr (k+1) acc):=zH (.inl ⟨by rw[HLL.out];omega,cutTo_in HT.out hb1 hbl⟩)
        rw[hbl]at hq;clear hbl hb1 HT
        go_wp2
        go_roundw
        case rel=>exact⟨fr,k+1,acc,rfl,by go_num,by omega,by omega,hown,hbw,HN⟩
        case measure=>simp[intOf];omega
      · rw[hbl]at hq
        have HN:Hid (CAt s.data.toList (k+1) (k+1) (acc++[(s.extract fr k).data.toList])):=zH (.inl ⟨by rw[HLL.out];omega,by rw[HX.out];exact bH4 HT.out hb1 hbl⟩);clear hbl hb1 HT
        go_wp2_with (at_builtin;refine wpList_append_own _ rfl _ _ 34 rfl w.heap.size 9 i0 (.string ⟨#[]⟩) 1 16 Tryz.underlying34 hi hz0 hz1 hz2 rfl (by decide) _ _ _ rfl (hown.alloc _) ⟨wr.heap.size,0,none⟩ 1 1 [.string (s.extract fr k)] rfl rfl (cell_one_new _ _ _) (fun x hx=>by simp at hx;subst hx;rfl) (by unfold maxLen;omega) (by omega) (by have:=hbw.size;simp;omega) ?_;intro v' w3 hown' hgrow3 hnil3
                     have hbw3:Below w.heap.size w w3:=Below.grown (hbw.alloc (by have:=hbw.size;omega) _) hgrow3 (by have:=hbw.size;simp;omega) (fun j hj=>by have:=(hown.lt _ hj).1;omega);have X9:Aside (w3.ownsRow w.heap.size 9 1 v' (acc.length+1) (aC acc++[.string (s.extract fr k)])/\Below w.heap.size w w3):=⟨hown',hbw3⟩
                     clear hown' hgrow3 hnil3)
        go_roundw
        case rel=>exact⟨k+1,k+1,acc++[(s.extract fr k).data.toList],by go_num,by go_num,by omega,zL _,HA.out _ _ _ X9.out.1,X9.out.2,HN⟩
        case measure=>simp[intOf];omega
    · obtain rfl:k=s.size:=by omega
      have hkn:((s.size:Int)==(s.size:Int))=true:=by simp
      have HN:Hid (CAt s.data.toList (s.size+1) (s.size+1) (acc++[(s.extract fr s.size).data.toList])):=zH (.inr ⟨by rw[HLL.out],by
       have h:=HT.out;rw[HX.out];rw[<- HLL.out]at h ⊢;exact bH5 h,by
       have:=HT.out.few;rw[HLL.out];simp;omega⟩)
      clear HT
      go_wp2_with (at_builtin;refine wpList_append_own _ rfl _ _ 34 rfl w.heap.size 9 i0 (.string ⟨#[]⟩) 1 16 Tryz.underlying34 hi hz0 hz1 hz2 rfl (by decide) _ _ _ rfl (hown.alloc _) ⟨wr.heap.size,0,none⟩ 1 1 [.string (s.extract fr s.size)] rfl rfl (cell_one_new _ _ _) (fun x hx=>by simp at hx;subst hx;rfl) (by unfold maxLen;omega) (by omega) (by have:=hbw.size;simp;omega) ?_;intro v' w3 hown' hgrow3 hnil3
                   have hbw3:Below w.heap.size w w3:=Below.grown (hbw.alloc (by have:=hbw.size;omega) _) hgrow3 (by have:=hbw.size;simp;omega) (fun j hj=>by have:=(hown.lt _ hj).1;omega);have X9:Aside (w3.ownsRow w.heap.size 9 1 v' (acc.length+1) (aC acc++[.string (s.extract fr s.size)])/\Below w.heap.size w w3):=⟨hown',hbw3⟩
                   clear hown' hgrow3 hnil3)
      go_roundw
      case rel=>exact⟨s.size+1,s.size+1,acc++[(s.extract fr s.size).data.toList],by go_num,by go_num,by omega,zL _,HA.out _ _ _ X9.out.1,X9.out.2,HN⟩
      case measure=>simp[intOf]
end Go.Proofs.YthnogdodlhkldaaGreatDoor
namespace Go.Proofs.YthnogdodlhkldaaGreatDoor
open Go.RowKit
end Go.Proofs.YthnogdodlhkldaaGreatDoor
namespace Go.Proofs.YthnogdodlhkldaaGreatDoor
open Go.RowKit
theorem big_any (o:Bool)(s h:ByteArray)(p:Int)(pa q:ByteArray)(w:World):Calls Tryz.prog 66 #[uV o s h p pa q] w fun e w'=>e=.returned (.bool (decide (2000<s.size) || decide (2000<h.size) || decide (2000<pa.size) || decide (2000<q.size)))/\Below w.heap.size w w':=by
 unfold uV
 by_cases h1:(2000:Int)<(s.size:Int)
 · rw[decide_eq_true (show 2000<s.size by omega)]
   go_enter Tryz.func66,Tryz.ntmps66
   go_wp2
   go_ret
   exact⟨rfl,(zB _ _).alloc (zL _) _⟩
 rw[decide_eq_false (show ¬ 2000<s.size by omega)]
 by_cases h2:(2000:Int)<(h.size:Int)
 · rw[decide_eq_true (show 2000<h.size by omega)]
   go_enter Tryz.func66,Tryz.ntmps66
   go_wp2
   go_ret
   exact⟨rfl,(zB _ _).alloc (zL _) _⟩
 rw[decide_eq_false (show ¬ 2000<h.size by omega)]
 by_cases h3:(2000:Int)<(pa.size:Int)
 · rw[decide_eq_true (show 2000<pa.size by omega)]
   go_enter Tryz.func66,Tryz.ntmps66
   go_wp2
   go_ret
   exact⟨rfl,(zB _ _).alloc (zL _) _⟩
 rw[decide_eq_false (show ¬ 2000<pa.size by omega)]
 by_cases h4:(2000:Int)<(q.size:Int)
 · rw[decide_eq_true (show 2000<q.size by omega)]
   go_enter Tryz.func66,Tryz.ntmps66
   go_wp2
   go_ret
   exact⟨rfl,(zB _ _).alloc (zL _) _⟩
 · rw[decide_eq_false (show ¬ 2000<q.size by omega)]
   go_enter Tryz.func66,Tryz.ntmps66
   go_wp2
   go_ret
   exact⟨rfl,(zB _ _).alloc (zL _) _⟩
theorem qV (o:Bool)(s h:ByteArray)(p:Int)(pa q:ByteArray)(b:Bool)(hb:(decide (2000<s.size) || decide (2000<h.size) || decide (2000<pa.size) || decide (2000<q.size))=b):Hid (∀ W,Calls Tryz.prog 66 #[uV o s h p pa q] W fun e w'=>e=.returned (.bool b)/\Below W.heap.size W w') :=
 zH fun W=>by rw[<- hb];exact big_any o s h p pa q W
end Go.Proofs.YthnogdodlhkldaaGreatDoor
