/- A map of names that a call makes: what it answers of a name, and a name stored. A word, a directive's name: the program's. Words that are words: the program's. Directives gathered: the closure that takes one in, by what lies in its two boxes. The closure made; is a policy right: the program's. A range over an iterator whose rounds all go on: what the iterator tells of an element, in the world in which it hands it over, reaches the round. The iterator over the directives of a policy's text. Rows of policies of one's own, and what keeps them: steps that leave cells, and whatever lies low, as they lay. -/
import Derived.Test.YthnogdodlhkldaaGreatDoorRefHZ
import Derived.Maps.OwnOps
import Derived.Maps.OwnIn
import Derived.Carry
import Derived.Deep.AppendLies
import Derived.Deep.RegionLaw
import Derived.RangeFuncNested
import Derived.RangeFuncBound
import Derived.RangeFuncCalls
import Derived.RangeFuncLeaves
import Derived.Shelf.Abstract
import Derived.Shelf.RegionOpen
import Derived.OwnWalkIn
import Derived.TacticsInMore
import Derived.LoopNIn
import Derived.LoopIn
import Derived.Stop.RegionWithIn
set_option maxRecDepth 100000
set_option maxHeartbeats 8000000
namespace Go.Proofs.YthnogdodlhkldaaGreatDoor
open Go.RowKit
def pQ (ns:List (List UInt8)):DataW Unit:=ns.foldl (fun D n=>D.put (.string n) (.lit (.bool true))) (.map [])
theorem rL (ns:List (List UInt8))(n:List UInt8):pQ (ns++[n])=(pQ ns).put (.string n) (.lit (.bool true)):=by simp[pQ]
theorem bB3 {D:DataW Unit}(h:Maps.IsMap D)(k:Lit)(d:DataW Unit):Maps.IsMap (D.put k d):=by
 obtain⟨es,rfl⟩:=h;exact⟨_,rfl⟩
theorem zF (ns:List (List UInt8)):Maps.IsMap (pQ ns):=by
 unfold pQ
 have h:∀(ns:List (List UInt8)) (D:DataW Unit),Maps.IsMap D->Maps.IsMap (ns.foldl (fun D n=>D.put (.string n) (.lit (.bool true))) D):=by
  intro ns
  induction ns with
  | nil=>intro D h;exact h
  | cons n ns ih=>intro D h;exact ih _ (bB3 h _ _)
 exact h ns _ ⟨[],rfl⟩
theorem seenD_at (n:List UInt8)(ns:List (List UInt8)):(pQ ns).atKey (.string n) (.lit (.bool false))=.lit (.bool (decide (n∈ns))):=by
 have h:∀(k:Nat) (ns:List (List UInt8)),ns.length=k->(pQ ns).atKey (.string n) (.lit (.bool false))=.lit (.bool (decide (n∈ns))):=by
  intro k
  induction k with
  | zero =>
    intro ns h;rw[List.length_eq_zero_iff.1 h];rfl
  | succ k ih =>
    intro ns h;rcases List.eq_nil_or_concat ns with rfl | ⟨L,m,rfl⟩
    · cases h
    · rw[List.concat_eq_append]at h ⊢
      rw[rL]
      by_cases e:n=m
      · subst e
        rw[Maps.atKey_put_same (k := .string n) (zF L) (show WideAt.IsKeyLit (.string n)from trivial),decide_eq_true (by simp)]
      · rw[Maps.atKey_put_other (by intro h;cases h;exact e rfl),ih L (by simpa using h)]
        congr 3
        simp[e]
 exact h ns.length ns rfl
def mT (w:World)(M:Nat)(ns:List (List UInt8)):Prop:=w.ownsMap Tryz.prog 9 (plainElem Tryz.prog 4) M ns.length (pQ ns)
theorem mT.kept {w w':World}{M:Nat}{ns:List (List UInt8)}(h:mT w M ns)(hb:w'.heap[M]? = w.heap[M]?):mT w' M ns:=by
 obtain⟨es,clock,k1,k2⟩:=h;exact⟨es,clock,hb.trans k1,k2⟩
theorem mT.lt {w:World}{M:Nat}{ns:List (List UInt8)}(h:mT w M ns):M<w.heap.size:=World.ownsMap.lt h
theorem mT.isMap {w:World}{M:Nat}{ns:List (List UInt8)}(h:mT w M ns):∃ es clock,w.heap[M]? = some (.map es clock):=by
 obtain⟨es,clock,k1,_⟩:=h;exact⟨es,clock,k1⟩
theorem mT.look {w:World}{M:Nat}{ns:List (List UInt8)}(h:mT w M ns)(N:ByteArray)(hN:N.size<=1099511627776):(Instr.lookup 137 (.map (some M)) (.string N) false).run Tryz.prog w=.ok (.bool (decide (N.data.toList∈ns))) w:=by
 obtain⟨v,ps,hrun,hv⟩:=World.ownsMap.lookup h (Maps.string_keyed Tryz.underlying9) Tryz.underlying137 (z := .bool false) (by kernel_rfl) (plainElem_bool Tryz.underlying4 false) (WideMaps.keyOf_string_mk Tryz.underlying9 (s:=N) (by unfold maxLen;omega));rw[seenD_at]at hv
 have:v=.bool (decide (N.data.toList∈ns)):=by
  unfold plainElem at hv;rw[Tryz.underlying4]at hv
  cases v<;>simp only[reduceCtorEq,Option.some.injEq,Prod.mk.injEq,DataW.lit.injEq,Lit.bool.injEq]at hv
  rw[hv.1]
 rw[hrun,this]
theorem mT.store {w:World}{M:Nat}{ns:List (List UInt8)}(h:mT w M ns)(N:ByteArray)(hN:N.size<=1099511627776)(hl:ns.length<=1099511627776):∃ w',(Instr.mapUpdate 137 (.map (some M)) (.string N) (.bool true)).run Tryz.prog w=.ok () w'/\mT w' M (ns++[N.data.toList])/\w.grownBy w' (some M):=by
 obtain⟨w',k1,k2,k3⟩:=World.ownsMap.update h (Maps.string_keyed Tryz.underlying9) Tryz.underlying137 (by unfold maxLen;omega) (WideMaps.keyOf_string_mk Tryz.underlying9 (s:=N) (by unfold maxLen;omega)) (plainElem_bool Tryz.underlying4 true);refine⟨w',k1,?_,k3⟩;unfold mT;rw[rL,List.length_append];exact k2
theorem seen_new (w:World):mT (w.alloc (.map #[] 0)) w.heap.size []:=World.ownsMap_made w _ _ _
end Go.Proofs.YthnogdodlhkldaaGreatDoor
namespace Go.Proofs.YthnogdodlhkldaaGreatDoor
open Go.RowKit
def qR:List UInt8:=[97,98,99,100,101,102,103,104,105,106,107,108,109,110,111,112,113,114,115,116,117,118,119,120,121,122,48,49,50,51,52,53,54,55,56,57,45]
theorem aO7 (b:UInt8):qR.contains b=nB b:=by revert b;exact byte_any (by decide +kernel)
theorem mK {p:UInt8->Bool}:∀ {l:List UInt8},l.dropWhile p=[]->l.all p=true
 | [],_=>rfl
 | b :: l,h=>by
   rw[List.dropWhile_cons]at h
   cases hb:p b
   · rw[hb]at h;simp at h
   · rw[hb]at h
     rw[List.all_cons,hb,mK (by simpa using h)];rfl
theorem lI {p:UInt8->Bool}:∀ {l:List UInt8},l.all p=true->l.dropWhile p=[]
 | [],_=>rfl
 | b :: l,h=>by
   rw[List.all_cons,Bool.and_eq_true]at h;rw[List.dropWhile_cons,h.1]
   simpa using lI h.2
theorem lM (p:UInt8->Bool)(l:List UInt8):l.reverse.all p=l.all p:=by
 rw[Bool.eq_iff_iff];simp
theorem yO (l cs:List UInt8):(Lib.trimS l cs).isEmpty=l.all (cs.contains ·):=by
 rw[Bool.eq_iff_iff,List.isEmpty_iff];constructor
 · intro h
   unfold Lib.trimS Lib.trimLeftS at h;have h1:=mK h;unfold Lib.trimRightS at h1;rw[lM]at h1;have h2:∃ a,l.reverse=a++l.reverse.dropWhile (cs.contains ·)/\∀ b∈a,cs.contains b=true:=eS _ _;obtain⟨a,h3,h4⟩:=h2;rw[<- lM,h3,List.all_append,h1,Bool.and_true,List.all_eq_true];exact h4
 · intro h
   unfold Lib.trimS Lib.trimLeftS Lib.trimRightS;rw[lI (l:=l.reverse) (by rw[lM];exact h)];rfl
theorem aP4 (s:ByteArray)(hs:s.size<=1099511627776)(w:World):Calls Tryz.prog 144 #[.string s] w fun e w'=>e=.returned (.bool (hG s.data.toList))/\w=w':=by
 have hm:hG s.data.toList=(!s.data.toList.isEmpty&&s.data.toList.all wB):=rfl;rw[<- aF]at hm;have HM:Hid (hG s.data.toList=(!s.toList.isEmpty&&s.data.toList.all wB)):=zH hm;clear hm;obtain⟨ie,hie⟩:∃ ie,s.toList.isEmpty=ie:=⟨_,rfl⟩;rw[hie]at HM
 go_enter Tryz.func144,Tryz.ntmps144
 go_wp2
 go_loop [7] (fun i=>∃ k:Nat,k<=s.size/\i=.int .i64 k/\Hid ((s.data.toList.take k).all wB=true)) (fun i=>s.size - (intOf i).toNat)
 case atStart=>exact⟨0,by omega,rfl,zH rfl⟩
 case round =>
  obtain⟨k,hk,rfl,HS⟩:=hrel
  by_cases hlt:k<s.size
  · have hst:=eO wB hlt HS.out
    rcases wB_cases s[k]with ⟨hb,c1,c2,c3,c4⟩ | ⟨hb,hc⟩
    · have HR:=zH (hst.1 hb)
      clear hst hb HS
      go_wp2
      go_round
      case rel=>exact⟨k+1,by omega,by go_num,HR⟩
      case measure=>simp[intOf];omega
    · have HR:Hid (false=hG s.data.toList):=zH (by rw[HM.out,hst.2 hb];simp)
      clear hst hb HS;rcases hc with c1 | c1 | ⟨c1,c2,c3⟩ | ⟨c1,c2,c3,c4⟩
      all_goals
       go_wp2
       go_ret
       exact⟨aA HR.out,rfl⟩
  · obtain rfl:k=s.size:=by omega
    have HR:Hid ((!ie)=hG s.data.toList):=zH (by
     have:=HS.out
     rw[cQ]at this;rw[HM.out,this,Bool.and_true])
    clear HM HS
    go_wp2
    go_ret
    exact⟨aA HR.out,rfl⟩
theorem aP3 (s:ByteArray)(b:Bool)(h:hG s.data.toList=b)(hs:s.size<=1099511627776):Hid (∀ W,Calls Tryz.prog 144 #[.string s] W fun e w'=>e=.returned (.bool b)/\W=w') :=
 zH fun W=>by rw[<- h];exact aP4 s hs W
theorem aP7 (s:ByteArray)(w:World):Calls Tryz.prog 99 #[.string s] w fun e w'=>e=.returned (.bool (eM s.data.toList))/\Below w.heap.size w w':=by
 have HM:Hid (eM s.data.toList=(!s.data.toList.isEmpty&&decide (s.data.toList.length<=40)&&s.data.toList.all nB)):=zH rfl;have HLL:=zH (aE s)
 by_cases h1:s.size=0
 · have e:s.data.toList=[]:=List.length_eq_zero_iff.1 (by rw[HLL.out];omega)
   have HR:Hid (false=eM s.data.toList):=zH (by rw[e];rfl);have e2:s.toList=[]:=by rw[ByteArray.toList_eq];exact e
   have e3:s.toList.isEmpty=true:=by rw[e2];rfl
   have e4:(!s.toList.isEmpty)=false:=by rw[e3];rfl
   clear e h1 HM HLL e3
   go_enter Tryz.func99,Tryz.ntmps99
   go_wp2
   go_ret
   exact⟨aA HR.out,zB _ _⟩
 have e3:s.toList.isEmpty=false:=by
  rw[aF,List.isEmpty_eq_false_iff];intro e;have:=HLL.out;rw[e]at this;simp at this;omega
 have e4:(!s.toList.isEmpty)=true:=by rw[e3];rfl
 have HE3:=zH e3;clear e3
 by_cases h2:(40:Int)<(s.size:Int)
 · have HR:Hid (false=eM s.data.toList):=zH (by
    rw[HM.out,HLL.out,decide_eq_false (show ¬ s.size<=40 by omega)];simp)
   have e5:decide ((s.size:Int)<=40)=false:=decide_eq_false (by omega);clear HM h1
   go_enter Tryz.func99,Tryz.ntmps99
   go_wp2
   go_ret
   exact⟨aA HR.out,zB _ _⟩
 have e5:decide ((s.size:Int)<=40)=true:=decide_eq_true (by omega);have hT:=fun W=>Tryz.strings_Trim_laid s ⟨#[97,98,99,100,101,102,103,104,105,106,107,108,109,110,111,112,113,114,115,116,117,118,119,120,121,122,48,49,50,51,52,53,54,55,56,57,45]⟩ W (by omega) (by decide) (ascii_of_all (by decide));have e:Lib.trimS s.data.toList (⟨#[97,98,99,100,101,102,103,104,105,106,107,108,109,110,111,112,113,114,115,116,117,118,119,120,121,122,48,49,50,51,52,53,54,55,56,57,45]⟩:ByteArray).data.toList=Lib.trimS s.data.toList qR:=rfl;rw[e]at hT;obtain⟨r,hr⟩:∃ r:ByteArray,r=⟨(Lib.trimS s.data.toList qR).toArray⟩:=⟨_,rfl⟩;rw[<- hr]at hT;obtain⟨b,hb⟩:∃ b,r.toList.isEmpty=b:=⟨_,rfl⟩
 have HR:Hid (b=eM s.data.toList):=zH (by
  have e6:s.data.toList.isEmpty=false:=by rw[<- aF];exact HE3.out
  have e7:s.data.toList.all (qR.contains ·)=s.data.toList.all nB:=by
   congr 1;funext x;exact aO7 x
  have e8:r.toList.isEmpty=s.data.toList.all nB:=by rw[aF,hr,<- e7,<- yO]
  rw[HM.out,e6,HLL.out,decide_eq_true (show s.size<=40 by omega),<- hb,e8];rfl)
 have HT:=zH hT;clear hT e hr HM h1 h2
 go_enter Tryz.func99,Tryz.ntmps99
 go_wp2_with (go_at_call 121;refine(HT.out _).mono ?_;rintro e w' ⟨rfl,hb'⟩)
 go_ret
 exact⟨aA HR.out,hb'⟩
theorem sF (s:ByteArray)(b:Bool)(h:eM s.data.toList=b):Hid (∀ W,Calls Tryz.prog 99 #[.string s] W fun e w'=>e=.returned (.bool b)/\Below W.heap.size W w') :=
 zH fun W=>by rw[<- h];exact aP7 s W
end Go.Proofs.YthnogdodlhkldaaGreatDoor
namespace Go.Proofs.YthnogdodlhkldaaGreatDoor
open Go.RowKit
theorem aR.at {w:World}{a:Option Addr}{n c:Nat}{p:List (List UInt8)}(h:aR w (.slice a n c) p){j:Nat}(hj:j<p.length):∃ B off,a=some ⟨B,off,none⟩/\w.cell? ⟨B,off+j,none⟩=some (dA p[j]):=by
 rcases h with ⟨_,h2⟩ | ⟨B,off,cap,h1,h2⟩
 · subst h2;simp at hj
 · cases h1
   exact⟨B,off,rfl,h2 j hj⟩
theorem kept_any (p:List (List UInt8))(a:Option Addr)(n c:Nat)(hn:n=p.length)(hc:n<=c)(w:World)(hp:aR w (.slice a n c) p)(hl:p.length<=1000000000)(hx:∀ x∈p,x.length<=1000000000):Calls Tryz.prog 102 #[.slice a n c] w fun e w'=>∃ u,e=.returned u/\w'.ownsRow w.heap.size 9 1 u (cT p 200).length (aC (cT p 200))/\Below w.heap.size w w':=by
 subst hn;obtain⟨i0,hi,hz0,hz1,hz2⟩:=info_parts pI;obtain⟨m,hm⟩:∃ m:Nat,m=min p.length 200:=⟨_,rfl⟩
 have HK:Hid (cT p 200=cT p m):=zH (by
  unfold cT
  by_cases h:p.length<=200
  · rw[List.take_of_length_le h,List.take_of_length_le (by omega)]
  · rw[show m=200 by omega])
 have hm1:m<=p.length:=by omega
 have hm2:m<=200:=by omega
 have hmin:(min (p.length:Int) 200)=(m:Int):=by omega
 have HP:=zH hp;have HX:=zH hx;clear hp hx hm
 go_enter Tryz.func102,Tryz.ntmps102
 go_wp2
 have own0:(w.alloc (.cells #[] 9)).ownsRow w.heap.size 9 1 (.slice (some ⟨w.heap.size,0,none⟩) 0 0) (cT p 0).length (aC (cT p 0)):=World.ownsRow_made w #[] 0 (zL _) (Nat.zero_le _) rfl;have hb0:Below w.heap.size w (w.alloc (.cells #[] 9)):=(zB _ _).alloc (zL _) _
 go_loopw [3,13] (fun u i wr=>∃ k:Nat,k<=m/\i=.int .i64 k/\wr.ownsRow w.heap.size 9 1 u (cT p k).length (aC (cT p k))/\Below w.heap.size w wr) (fun _ i _=>m - (intOf i).toNat)
 case atStart=>exact⟨0,Nat.zero_le _,rfl,own0,hb0⟩
 case round =>
  clear own0 hb0;obtain⟨k,hk,rfl,hown,hbw⟩:=hrel
  by_cases hlt:k<m
  · have hlt2:k<p.length:=by omega
    obtain⟨B,off,rfl,kc⟩:=HP.out.at hlt2;have hxl:=HX.out _ (List.getElem_mem hlt2);have HS:=zH (aP1 hlt2)
    have hle:(cT p k).length<=k:=by
     have h2:=List.length_filter_le hG (p.take k);rw[List.length_take]at h2;unfold cT;omega
    generalize p[k]=x at *;obtain⟨X,hX⟩:∃ X:ByteArray,X=⟨x.toArray⟩:=⟨_,rfl⟩;have kd:wr.cell? ⟨B,off+k,none⟩=some (.string X):=by rw[hbw.cell (aH kc),kc,hX];rfl
    have hXx:X.data.toList=x:=by rw[hX]
    obtain⟨b,hb⟩:∃ b,hG x=b:=⟨_,rfl⟩;have CW:=aP3 X b (by rw[hXx];exact hb) (by rw[<- aE,hXx];omega);rw[hb]at HS;have HXX:=zH hX;obtain⟨L,hL⟩:∃ L,(cT p k).length=L:=⟨_,rfl⟩;rw[hL]at hown hle;have HL:=zH hL;clear kc hX hXx hxl hb hL
    cases b
    · have HM:Hid (cT p (k+1)=cT p k):=zH (by rw[HS.out];rfl)
      have HO:=zH hown;clear hown
      go_wp2_with (go_at_call 144;(with_reducible refine(CW.out _).mono ?_);rintro e w' ⟨rfl,rfl⟩)
      go_roundw
      case rel=>exact⟨k+1,by omega,by go_num,by rw[HM.out,HL.out];exact HO.out,hbw⟩
      case measure=>simp[intOf];omega
    · have HM:Hid (cT p (k+1)=cT p k++[x]):=zH (by rw[HS.out];rfl)
      go_wp2_with (first
       | (go_at_call 144;(with_reducible refine(CW.out _).mono ?_);rintro e wr ⟨rfl,rfl⟩)
       | (at_builtin;refine wpList_append_own _ rfl _ _ 34 rfl w.heap.size 9 i0 (.string ⟨#[]⟩) 1 16 Tryz.underlying34 hi hz0 hz1 hz2 rfl (by decide) _ _ _ rfl (hown.alloc _) ⟨wr.heap.size,0,none⟩ 1 1 [.string X] rfl rfl (cell_one_new _ _ _) (fun x hx=>by simp at hx;subst hx;rfl) (by unfold maxLen;omega) (by omega) (by have:=hbw.size;simp;omega) ?_;intro v' w3 hown' hgrow3 hnil3
          have hbw3:Below w.heap.size w w3:=Below.grown (hbw.alloc (by have:=hbw.size;omega) _) hgrow3 (by have:=hbw.size;simp;omega) (fun j hj=>by have:=(hown.lt _ hj).1;omega);have Y:Aside (w3.ownsRow w.heap.size 9 1 v' (L+1) (aC (cT p k)++[.string X])/\Below w.heap.size w w3):=⟨hown',hbw3⟩
          clear hown' hgrow3 hnil3))
      go_roundw
      case rel =>
       refine⟨k+1,by omega,by go_num,?_,Y.out.2⟩;have e1:(cT p (k+1)).length=L+1:=by rw[HM.out,List.length_append,HL.out];rfl
       have e2:aC (cT p (k+1))=aC (cT p k)++[.string X]:=by rw[HM.out,eF,HXX.out];rfl
       rw[e1,e2];exact Y.out.1
      case measure=>simp[intOf];omega
  · obtain rfl:k=m:=by omega
    rw[<- HK.out]at hown;have HO:=zH hown;clear hown HK
    go_wp2
    go_ret
    exact⟨_,rfl,HO.out,hbw⟩
end Go.Proofs.YthnogdodlhkldaaGreatDoor
namespace Go.Proofs.YthnogdodlhkldaaGreatDoor
open Go.RowKit
structure vO (W:World) (R Pb lo:Nat) (r:Bool) (ns:List (List UInt8)) (v:Value) (cs:List Value):Prop where
 pbox:W.heap[R]? = some (.cells #[.pointer (some ⟨Pb,0,none⟩)] 100 (0,0))
 mbox:W.heap[R+2]? = some (.cells #[.map (some (R+1))] 137 (0,0))
 seen:mT W (R+1) ns
 pol:W.heap[Pb]? = some (.cells #[v,.bool r] 24 (0,0))
 row:W.ownsRow lo 67 2 v ns.length cs
 hR:R+3<=lo
 hP:Pb<lo
 apart:Pb≠R/\Pb≠R+1/\Pb≠R+2
theorem vO.keep {W W':World}{R Pb lo:Nat}{r:Bool}{ns:List (List UInt8)}{v:Value}{cs:List Value}(h:vO W R Pb lo r ns v cs)(hb:Below W.heap.size W W'):vO W' R Pb lo r ns v cs where
 pbox:=by rw[hb.block _ (aD h.pbox)];exact h.pbox
 mbox:=by rw[hb.block _ (aD h.mbox)];exact h.mbox
 seen:=h.seen.kept (hb.block _ h.seen.lt)
 pol:=by rw[hb.block _ (aD h.pol)];exact h.pol
 row:=aX h.row hb
 hR:=h.hR
 hP:=h.hP
 apart:=h.apart
structure qO (Pb M:Nat) (ob:Option Nat) (W W':World):Prop where
 os:W'.os=W.os
 tape:W'.tape=W.tape
 output:W'.output=W.output
 size:W.heap.size<=W'.heap.size
 block:∀ k,k<W.heap.size->k≠Pb->k≠M->some k≠ob->W'.heap[k]? = W.heap[k]?
theorem qO.below {Pb M:Nat}{ob:Option Nat}{W W':World}(h:qO Pb M ob W W'){B:Nat}(hB:B<=W.heap.size)(h1:B<=Pb)(h2:B<=M)(h3:∀ k,ob=some k->B<=k):Below B W W' :=
 ⟨h.os,h.tape,h.output,h.size,fun k hk=>h.block k (by omega) (by omega) (by omega) (fun e=>by have:=h3 k e.symm;omega)⟩
theorem TinfoDir:(Tryz.prog.info? 67).map (fun i=>(i.zero,i.size,i.bytes))=some (some (.agg #[.string ⟨#[]⟩,.slice none 0 0]),2,40):=by kernel_rfl
theorem take_no (N:ByteArray)(hN:N.size<=1099511627776)(a:Option Addr)(m c:Nat)(W:World)(R Pb lo:Nat)(r:Bool)(ns:List (List UInt8))(v:Value)(cs:List Value)(G:vO W R Pb lo r ns v cs)(hno:eM N.data.toList=false\/(eM N.data.toList=true/\N.data.toList∈ns)) :
 Calls Tryz.prog 98 #[.agg #[.string N,.slice a m c],.pointer (some ⟨R+2,0,none⟩),.pointer (some ⟨R,0,none⟩)] W fun e W'=>e=.returned (.bool false)/\Below W.heap.size W W':=by
 have bA:Below W.heap.size W (W.alloc (.cells #[.string N,.slice a m c] 67)):=(zB _ _).alloc (zL _) _;have xd:=aW W (.cells #[.string N,.slice a m c] 67);have GA:=zH (G.keep bA);have hS:(W.alloc (.cells #[.string N,.slice a m c] 67)).heap.size=W.heap.size+1:=by show(W.heap.push _).size=_;simp
 have BA:=zH (And.intro bA (And.intro xd hS));clear bA xd G hS;have hno':Hid (eM N.data.toList=false\/(eM N.data.toList=true/\N.data.toList∈ns)):=zH hno;clear hno;obtain⟨nb,hnb⟩:∃ b,eM N.data.toList=b:=⟨_,rfl⟩;have CN:=sF N nb hnb;rw[hnb]at hno';clear hnb
 cases nb
 · go_enter Tryz.func98,Tryz.ntmps98
   go_wp2_with fail
   generalize W.alloc (.cells #[.string N,.slice a m c] 67)=w1 at BA GA ⊢;have q0:w1.cell? ⟨W.heap.size,0,none⟩=some (.string N):=by rw[aG BA.out.2.1];rfl
   go_wp2_with fail
   refine(CN.out _).mono ?_;rintro e w2 ⟨rfl,b2⟩;have HB:=zH (BA.out.1.trans (b2.mono (by have:=BA.out.2.2;omega)));clear b2 q0
   go_wp2
   go_ret
   exact⟨rfl,HB.out⟩
 · have hin:Hid (N.data.toList∈ns):=zH (by rcases hno'.out with h | h;cases h;exact h.2)
   go_enter Tryz.func98,Tryz.ntmps98
   go_wp2_with fail
   generalize W.alloc (.cells #[.string N,.slice a m c] 67)=w1 at BA GA ⊢;have q0:w1.cell? ⟨W.heap.size,0,none⟩=some (.string N):=by rw[aG BA.out.2.1];rfl
   go_wp2_with fail
   refine(CN.out _).mono ?_;rintro e w2 ⟨rfl,b2⟩;have HB:=zH (BA.out.1.trans (b2.mono (by have:=BA.out.2.2;omega)));have G2:=GA.out.keep b2;have q1:w2.cell? ⟨W.heap.size,0,none⟩=some (.string N):=by rw[b2.cell (aH q0)];exact q0
   have q2:w2.cell? ⟨R+2,0,none⟩=some (.map (some (R+1))):=by rw[aG G2.mbox];rfl
   have q3:=G2.seen.look N hN;rw[decide_eq_true hin.out]at q3;clear b2 q0 G2
   go_wp2
   go_ret
   exact⟨rfl,HB.out⟩
theorem take_yes (N:ByteArray)(hN:N.size<=1099511627776)(a:Option Addr)(m c:Nat)(W:World)(R Pb lo:Nat)(r:Bool)(ns:List (List UInt8))(v:Value)(cs:List Value)(G:vO W R Pb lo r ns v cs)(h1:eM N.data.toList=true)(h2:¬ N.data.toList∈ns)(hlo:lo<=W.heap.size)(hlen:ns.length<=1000000000) :
 Calls Tryz.prog 98 #[.agg #[.string N,.slice a m c],.pointer (some ⟨R+2,0,none⟩),.pointer (some ⟨R,0,none⟩)] W fun e W'=>e=.returned (.bool true)/\∃ v',vO W' R Pb lo r (ns++[N.data.toList]) v' (cs++[.string N,.slice a m c])/\qO Pb (R+1) v.ownBlock W W'/\(v'.ownBlock=v.ownBlock\/∃ k,v'.ownBlock=some k/\W.heap.size<=k):=by
 obtain⟨i0,hi,hz0,hz1,hz2⟩:=info_parts TinfoDir
 obtain⟨va,vc,rfl⟩:∃ va vc,v=.slice va ns.length vc:=by
  rcases bS G.row with ⟨h1,h2⟩ | ⟨g,cap,h⟩
  · exact⟨none,0,by rw[h1,h2]⟩
  · exact⟨_,_,h⟩
 have bA:Below W.heap.size W (W.alloc (.cells #[.string N,.slice a m c] 67)):=(zB _ _).alloc (zL _) _;have xd:=aW W (.cells #[.string N,.slice a m c] 67);have GA:=zH (G.keep bA);have hS:(W.alloc (.cells #[.string N,.slice a m c] 67)).heap.size=W.heap.size+1:=by show(W.heap.push _).size=_;simp
 have BA:=zH (And.intro bA (And.intro xd hS));clear bA xd hS;have HG:=zH G;have CN:=sF N true h1;have H2:=zH h2;clear G h1 h2
 go_enter Tryz.func98,Tryz.ntmps98
 go_wp2_with fail
 generalize W.alloc (.cells #[.string N,.slice a m c] 67)=w1 at BA GA ⊢;have q0:w1.cell? ⟨W.heap.size,0,none⟩=some (.string N):=by rw[aG BA.out.2.1];rfl
 go_wp2_with fail
 refine(CN.out _).mono ?_;rintro e w2 ⟨rfl,b2⟩;have HB:=zH (BA.out.1.trans (b2.mono (by have:=BA.out.2.2;omega)));have g2:=GA.out.keep b2;have x2:w2.heap[W.heap.size]? = some (.cells #[.string N,.slice a m c] 67 (0,0)):=by rw[b2.block _ (aD BA.out.2.1)];exact BA.out.2.1
 have HX2:=zH x2;have q1:w2.cell? ⟨W.heap.size,0,none⟩=some (.string N):=by rw[aG x2];rfl
 have q2:w2.cell? ⟨R+2,0,none⟩=some (.map (some (R+1))):=by rw[aG g2.mbox];rfl
 have q3:=g2.seen.look N hN;rw[decide_eq_false H2.out]at q3;obtain⟨w3,k1,k2,k3⟩:=g2.seen.store N hN (by omega);have G2:=zH g2;have K3:=zH (And.intro k2 k3)
 have r0:w3.cell? ⟨R,0,none⟩=some (.pointer (some ⟨Pb,0,none⟩)):=by
  rw[aG ((k3.block R (aD g2.pbox) (by simp)).trans g2.pbox)];rfl
 have y3:=(k3.block Pb (aD g2.pol) (by intro e;exact g2.apart.2.1 (Option.some.inj e))).trans g2.pol;have r1:w3.cell? ⟨Pb,0,none⟩=some (.slice va ns.length vc):=by rw[aG y3];rfl
 have r2:w3.frozen? ⟨Pb,0,none⟩=false:=aB y3 0;have z3:=(k3.block W.heap.size (aD x2) (by intro e;have:=Option.some.inj e;have:=g2.hR;omega)).trans x2;have r3:w3.cell? ⟨W.heap.size,0,none⟩=some (.string N):=by rw[aG z3];rfl
 have r4:w3.cell? ⟨W.heap.size,1,none⟩=some (.slice a m c):=by rw[aG z3];rfl
 have own3:=g2.row.kept k3 (by
  cases hv:(Value.slice va ns.length vc).ownBlock with
  | none=>exact .inl rfl
  | some k =>
    refine .inr (fun e => ?_);have h1:=g2.row.lt k hv;have h2:=Option.some.inj e;have h3:=g2.hR
    omega)
 have O3:=zH own3;have Y3:=zH y3;have hs3:W.heap.size<w3.heap.size:=Nat.lt_of_lt_of_le (aD x2) k3.size;have hP3:Pb<w3.heap.size:=aD y3;have f3:w3.drew.frozen? ⟨Pb,0,none⟩=false:=r2;have OD:Hid (w3.drew.ownsRow lo 67 2 (.slice va ns.length vc) ns.length cs):=zH own3;have HL3:=zH (And.intro hs3 hP3);have hsz:lo<=w3.drew.heap.size:=by show lo<=w3.heap.size;omega
 have r0':(w3.alloc (.cells #[.string N,.slice a m c] 67)).cell? ⟨R,0,none⟩=some (.pointer (some ⟨Pb,0,none⟩)):=by rw[World.cell?_of_block (Below.heap_alloc w3 _ R (aH r0))];exact r0
 have r1':(w3.alloc (.cells #[.string N,.slice a m c] 67)).cell? ⟨Pb,0,none⟩=some (.slice va ns.length vc):=by rw[World.cell?_of_block (Below.heap_alloc w3 _ Pb (aH r1))];exact r1
 clear b2 q0 x2 g2 k2 k3 y3 z3 own3 hs3 hP3
 go_wp2_with fail
 go_region_law ((refine step_append_lies _ (by rfl) (.tmp 22) (.tmp 24) 22 (by rfl) lo 67 i0 (.agg #[.string ⟨#[]⟩,.slice none 0 0]) 2 40 Tryz.underlying22 hi hz0 hz1 hz2 rfl (by decide) _ _ _ (by rfl) (OD.out.alloc _) ⟨w3.heap.size,0,none⟩ 1 1 [.string N,.slice a m c] (by rfl) rfl (World.news_of_block (aW _ _)) (by intro u hu;simp at hu;rcases hu with rfl | rfl<;>rfl) (by decide) (by unfold maxLen;omega) (by omega) (by have:=hsz;simp at this ⊢;omega) _ rfl ?_
                 intro g cap6 w6 hown6 hgrow6 hat6 hlt6
                 have y6:w6.heap[Pb]? = some (.cells #[.slice va ns.length vc,.bool r] 24 (0,0)):=by
                  rw[hgrow6.block Pb (by have:=HL3.out.2;simp;omega) (fun e=>by have:=(OD.out.lt Pb e.symm).1;have:=HG.out.hP;omega)];exact(Below.heap_alloc w3.drew _ Pb HL3.out.2).trans Y3.out
                 have s6:w6.cell? ⟨Pb,0,none⟩=some (.slice va ns.length vc):=by rw[aG y6];rfl
                 have t6:w6.frozen? ⟨Pb,0,none⟩=false:=aB y6 0
                 have u6:w6.cell? ⟨R,0,none⟩=some (.pointer (some ⟨Pb,0,none⟩)):=by
                  rw[World.cell?_of_block (hgrow6.block R (by have:=aH r0';exact this) (fun e=>by have:=(OD.out.lt R e.symm).1;have:=HG.out.hR;omega))]
                  exact r0'))
 all_goals
  have z6:=aI _ Pb 0 _ _ _ (.slice (some ⟨g,0,none⟩) (ns.length+1) cap6) y6;have hlt0:∀ q,(Value.slice va ns.length vc).ownBlock=some q->lo<=q/\q<w3.heap.size:=OD.out.lt;have hGR:=HG.out.hR;have hGP:=HG.out.hP;have hGA:=HG.out.apart
  have far:∀ k,k<w3.heap.size->k≠Pb->some k≠(Value.slice va ns.length vc).ownBlock->(w6.setCell ⟨Pb,0,none⟩ (.slice (some ⟨g,0,none⟩) (ns.length+1) cap6)).heap[k]? = w3.heap[k]? :=fun k hk h1 h2=>by
   rw[Below.heap_setCell _ _ _ _ h1,hgrow6.block k (by simp;omega) h2];exact Below.heap_alloc w3.drew _ k hk
  have far2:∀ k,k<w2.heap.size->k≠Pb->k≠R+1->some k≠(Value.slice va ns.length vc).ownBlock->(w6.setCell ⟨Pb,0,none⟩ (.slice (some ⟨g,0,none⟩) (ns.length+1) cap6)).heap[k]? = w2.heap[k]? :=fun k hk h1 h2 h3=>by
   rw[far k (Nat.lt_of_lt_of_le hk K3.out.2.size) h1 h3];exact K3.out.2.block k hk (by intro e;exact h2 (Option.some.inj e))
  have no:∀ k,k<lo->some k≠(Value.slice va ns.length vc).ownBlock:=fun k hk e=>by have:=(hlt0 k e.symm).1;omega
  have o6:=ownsRow_setCell_below hown6 (a:=⟨Pb,0,none⟩) hGP (.slice (some ⟨g,0,none⟩) (ns.length+1) cap6)
  have GZ:Hid (vO (w6.setCell ⟨Pb,0,none⟩ (.slice (some ⟨g,0,none⟩) (ns.length+1) cap6)) R Pb lo r (ns++[N.data.toList]) (.slice (some ⟨g,0,none⟩) (ns.length+1) cap6) (cs++[.string N,.slice a m c])):=zH
   { pbox:=by rw[far2 R (aD G2.out.pbox) (by omega) (by omega) (no R (by omega))];exact G2.out.pbox
     mbox:=by rw[far2 (R+2) (aD G2.out.mbox) (by omega) (by omega) (no _ (by omega))];exact G2.out.mbox
     seen:=K3.out.1.kept (far (R+1) K3.out.1.lt (by omega) (no _ (by omega)))
     pol:=z6
     row:=by rw[List.length_append];exact o6
     hR:=hGR
     hP:=hGP
     apart:=hGA }
  have TZ:Hid (qO Pb (R+1) (Value.slice va ns.length vc).ownBlock W (w6.setCell ⟨Pb,0,none⟩ (.slice (some ⟨g,0,none⟩) (ns.length+1) cap6))):=zH
   { os:=by have h1:=hgrow6.os;have h2:=K3.out.2.os;have h3:=HB.out.os;exact h1.trans (h2.trans h3)
     tape:=by have h1:=hgrow6.tape;have h2:=K3.out.2.tape;have h3:=HB.out.tape;exact h1.trans (h2.trans h3)
     output:=by have h1:=hgrow6.output;have h2:=K3.out.2.output;have h3:=HB.out.output;exact h1.trans (h2.trans h3)
     size:=by have h1:=hgrow6.size;have h2:=K3.out.2.size;have h3:=HB.out.size;simp at h1;simp[World.setCell];omega
     block:=fun k hk h1 h2 h3=>by rw[far2 k (Nat.lt_of_lt_of_le hk HB.out.size) h1 h2 h3];exact HB.out.block k hk }
  have AT:Hid ((Value.slice (some ⟨g,0,none⟩) (ns.length+1) cap6).ownBlock=(Value.slice va ns.length vc).ownBlock\/∃ k,(Value.slice (some ⟨g,0,none⟩) (ns.length+1) cap6).ownBlock=some k/\W.heap.size<=k):=zH (by
   rcases hat6 with h | h
   · exact .inl h.symm
   · refine .inr ⟨g,rfl,?_⟩
     have h2:=K3.out.2.size;have h3:=HB.out.size;simp at h
     omega)
  clear z6 o6 far far2 no hlt0 hGR hGP hGA y6 s6 t6 u6 hown6 hgrow6 hat6 hlt6 f3 r0 r1 r2 r3 r4 r0' r1' q1 q2 q3 k1
  go_wp2
  go_ret
  exact⟨rfl,_,GZ.out,TZ.out,AT.out⟩
end Go.Proofs.YthnogdodlhkldaaGreatDoor
namespace Go.Proofs.YthnogdodlhkldaaGreatDoor
open Go.RowKit
theorem aQ2 (Pb:Nat)(r:Bool)(w:World)(hp:w.heap[Pb]? = some (.cells #[.slice none 0 0,.bool r] 24 (0,0))):Calls Tryz.prog 64 #[.pointer (some ⟨Pb,0,none⟩)] w fun e w'=>e=.returned (.func (.func 98) #[] #[.pointer (some ⟨w.heap.size+2,0,none⟩),.pointer (some ⟨w.heap.size,0,none⟩)])/\vO w' w.heap.size Pb (w.heap.size+3) r [] (.slice none 0 0) []/\Below w.heap.size w w'/\w'.heap.size=w.heap.size+3:=by
 have hmm:=@run_makeMap Tryz.prog;have hmf:∀(fn:Fn) (first cap:Array Value) (w:World),(Instr.makeFunc fn first cap).run Tryz.prog w=.ok (.func fn first cap) w:=fun _ _ _ _=>rfl;have hlt:=aD hp;have HP:=zH hp;clear hp
 go_enter Tryz.func64,Tryz.ntmps64
 go_wp2
 have b1:Below w.heap.size w (w.alloc (.cells #[.pointer (some ⟨Pb,0,none⟩)] 100)):=(zB _ _).alloc (zL _) _;have x1:=aW w (.cells #[.pointer (some ⟨Pb,0,none⟩)] 100);have s1:(w.alloc (.cells #[.pointer (some ⟨Pb,0,none⟩)] 100)).heap.size=w.heap.size+1:=by show(w.heap.push _).size=_;simp
 generalize w.alloc (.cells #[.pointer (some ⟨Pb,0,none⟩)] 100)=w1 at b1 x1 s1 ⊢;have b2:Below w1.heap.size w1 (w1.alloc (.map #[] 0)):=(zB _ _).alloc (zL _) _;have x2:=seen_new w1;have s2:(w1.alloc (.map #[] 0)).heap.size=w1.heap.size+1:=by show(w1.heap.push _).size=_;simp
 rw[s1]at x2;generalize w1.alloc (.map #[] 0)=w2 at b2 x2 s2 ⊢;have b3:Below w2.heap.size w2 (w2.alloc (.cells #[.map (some (w.heap.size+1))] 137)):=(zB _ _).alloc (zL _) _;have x3:=aW w2 (.cells #[.map (some (w.heap.size+1))] 137);have s3:(w2.alloc (.cells #[.map (some (w.heap.size+1))] 137)).heap.size=w2.heap.size+1:=by show(w2.heap.push _).size=_;simp
 have e2:w2.heap.size=w.heap.size+2:=by omega
 rw[e2]at x3;generalize w2.alloc (.cells #[.map (some (w.heap.size+1))] 137)=w3 at b3 x3 s3 ⊢
 have G:vO w3 w.heap.size Pb (w.heap.size+3) r [] (.slice none 0 0) [] :=
  { pbox:=by rw[b3.block _ (by omega),b2.block _ (by omega)];exact x1
    mbox:=x3
    seen:=x2.kept (b3.block _ (by omega))
    pol:=by rw[b3.block _ (by omega),b2.block _ (by omega),b1.block _ hlt];exact HP.out
    row:=World.ownsRow_nil _ _ _ 2
    hR:=zL _
    hP:=by omega
    apart:=⟨by omega,by omega,by omega⟩ }
 have hB:Below w.heap.size w w3:=b1.trans ((b2.mono (by omega)).trans (b3.mono (by omega)));have hsz:w3.heap.size=w.heap.size+3:=by omega
 have HF:=zH (And.intro G (And.intro hB hsz));clear b1 x1 s1 b2 x2 s2 b3 x3 s3 e2 G hB hsz hmm hmf
 go_ret
 exact⟨rfl,HF.out.1,HF.out.2.1,HF.out.2.2⟩
end Go.Proofs.YthnogdodlhkldaaGreatDoor
namespace Go.Proofs.YthnogdodlhkldaaGreatDoor
open Go.RowKit
structure jO (A B:World):Prop where
 size:A.heap.size<=B.heap.size
 str:∀(k:Nat) (cs:Array Value) (fr:Nat × Nat),A.heap[k]? = some (Obj.cells cs 9 fr)->B.heap[k]? = some (Obj.cells cs 9 fr)
theorem jO.trans {A B C:World}(h:jO A B)(k:jO B C):jO A C:=⟨Nat.le_trans h.size k.size,fun j cs fr x=>k.str j cs fr (h.str j cs fr x)⟩
theorem jO.of_below {A B:World}(h:Below A.heap.size A B):jO A B:=⟨h.size,fun k _ _ x=>(h.block k (aD x)).trans x⟩
theorem jO.putObj {A B:World}(h:jO A B){l:Nat}{o:Obj}(hl:B.heap[l]? = some o)(ho:o.isCells=false)(o':Obj):jO A (B.putObj l o') :=
 ⟨by rw[World.putObj_size];exact h.size,fun k cs fr x=>by
   have hk:=h.str k cs fr x;rw[World.putObj_heap_other (fun e=>by subst e;rw[hk]at hl;cases hl;cases ho)]
   exact hk⟩
theorem jO.row {A B:World}{base:Nat}{v:Value}{n:Nat}{xs:List Value}(h:jO A B)(hr:A.ownsRow base 9 1 v n xs):B.ownsRow base 9 1 v n xs:=by
 refine⟨hr.1,?_⟩;rcases hr.2 with h2 | ⟨g,cap,cur,h1,h2,h3,h4⟩
 · exact .inl h2
 · exact .inr ⟨g,cap,cur,h1,h2,h.str _ _ _ h3,h4⟩
def Tells {α:Type}(P:Program)(gf:Nat)(lb:Array Value)(encs:α->Array Value)(E:Nat->α->World->Prop)(S:List α->Prop)(N:Nat)(w0:World):Prop :=
 ∀(l:Nat) (J:List α->World->Prop) (W:World),Below w0.heap.size w0 W->(∀ s A B,J s A->Below A.heap.size A B->J s B) ->
  (∀ pre x W1,J pre W1->E W.heap.size x W1->pre.length<N->YieldAt Fence.wide 0 P l (encs x) W1 fun e W'=>e=.returned (.bool true)/\J (pre++[x]) W'/\jO W1 W') ->
  J [] W->CallsIn Fence.wide 0 P gf (#[.func (.yield l) #[] #[]]++lb) W fun e W'=>(∃ v,e=.returned v)/\∃ xs,S xs/\J xs W'
theorem aM5 {α:Type} {P:Program} {g:Operand} {ps:Array Tmp} {assign body:Code} {Q:Exit->Act->World->Prop} {a:Act} {w:World}
 {gf:Nat} {lb:Array Value} (hg:a.eval g=.func (.func gf) #[] lb) (eg:∀ args w,(callFunc gf args).run P w=.ok (.enter gf args) w)
 {encs:α->Array Value} (hps:∀ x,(encs x).size=ps.size) {E:Nat->α->World->Prop} {S:List α->Prop} {N:Nat} (hseq:Tells P gf lb encs E S N w)
 (I:List α->World->Prop) (hI:∀ s A B,I s A->Below A.heap.size A B->I s B) (hIl:∀ s A l o o',I s A->w.heap.size<=l->A.heap[l]? = some o->o.isCells=false->I s (A.putObj l o')) (h0:I [] w)
 (hround:∀(l:Nat) (pre:List α) (x:α) (W:World),w.heap.size<=l->(∃ r,W.heap[l]? = some (.loop r))->I pre W->E (w.heap.size+2) x W->pre.length<N ->
   assign.wpIn (Fence.wide.inRound l) 0 P (Exit.then (fun a₁ W₁=>KeepsFrom w.heap.size W W₁/\∀ r',body.wpIn (Fence.wide.inRound l) 0 P (fun e _ W'=>e=.normal/\KeepsFrom w.heap.size (W₁.putObj l (.loop r')) W'/\jO W W'/\I (pre++[x]) W') a₁ (W₁.putObj l (.loop r'))) (fun _ _ _=>False))
    { tmps:=(ps.zip (encs x)).foldl (fun t (p,v)=>t.setIfInBounds p v) a.tmps,defers:=[] } W)
 (hdone:∀(D:Nat) (xs:List α) (W:World),w.heap.size<=D->S xs->I xs W->W.heap[D]? = some (.deferred (some []))->Q .normal { a with defers:={ target := .collected D,args:=#[] } :: a.defers } W) :
 (Code.rangeFunc g ps assign body).wpIn Fence.wide 0 P Q a w:=by
 refine wpIn_rangeFunc (fun fn hfn => ?_)
 let rc:LoopState->Loop:=fun st=>{ state:=st,pending:=none,fn,tmps:=a.tmps,params:=ps,assign,body,defers:=w.heap.size }
 let W1:World:=(w.alloc (.deferred (some []))).alloc (.loop (rc .ready))
 have b1:Below w.heap.size w W1:=((zB _ w).alloc (zL _) _).alloc (by simp) _;have s1:W1.heap.size=w.heap.size+2:=by simp[W1]
 have hl1:W1.heap[w.heap.size+1]? = some (.loop (rc .ready)):=by
  have:=World.alloc_heap_new (w.alloc (.deferred (some []))) (.loop (rc .ready));rwa [World.size_alloc]at this
 have hd1:W1.heap[w.heap.size]? = some (.deferred (some [])):=(Below.heap_alloc _ _ _ (by simp)).trans (World.alloc_heap_new w _);refine⟨w.heap.size+1,[{ target := .collected w.heap.size,args:=#[] }],W1,{ target := .fn (.func gf) lb,args:=#[.func (.yield (w.heap.size+1)) #[] #[]] },W1,gf,#[.func (.yield (w.heap.size+1)) #[] #[]]++lb,W1,?_,?_,?_,?_,(fun h=>by cases h),?_⟩
 · exact run_enterLoop_outer fn a.tmps ps assign body
 · simp only[resolve,hg]
   simp[go_sem]
 · intro f' _;trivial
 · simp[invoke,go_sem,eg]
 have call:=hseq (w.heap.size+1) (fun pre W=>I pre W/\W.heap[w.heap.size+1]? = some (.loop (rc .ready))/\W.heap[w.heap.size]? = some (.deferred (some []))) W1 b1
  (fun s A B hs hb=>⟨hI s A B hs.1 hb,by rw[hb.block _ (aD hs.2.1)];exact hs.2.1,by rw[hb.block _ (aD hs.2.2)];exact hs.2.2⟩) ?_ ⟨hI _ _ _ h0 b1,hl1,hd1⟩
 · refine call.mono ?_
   rintro e W2 ⟨⟨v,rfl⟩,xs,hS,hi,hl,hd⟩;refine⟨none,_,run_endLoop hl (by simp[rc]),?_⟩;exact hdone _ xs _ (zL _) hS (hIl _ _ _ _ _ hi (Nat.le_succ _) hl rfl) ((World.putObj_heap_other (by omega)).trans hd)
 · rintro pre x W ⟨hi,hl,hd⟩ hE hlen
   rw[s1]at hE;refine⟨fn,_,assign,body,run_yield hl (by simpa [rc] using hps x),roundIn_of_wpIn hfn ?_⟩;refine wpIn_mono (hround (w.heap.size+1) pre x W (Nat.le_succ _) ⟨_,hl⟩ hi hE hlen) ?_;rintro e a₁ W3 hp
   cases e with
   | normal =>
     obtain⟨hk3,hb3⟩:=hp;have hl3:=hk3.same _ _ (by omega) hl rfl;have hd3:=hk3.same _ _ (zL _) hd rfl;refine⟨_,run_beginRound hl3 rfl,?_⟩;refine wpIn_mono (hb3 _) ?_;rintro e a₂ W5 ⟨rfl,hk5,hst,hi5⟩;have hl5:=hk5.same _ _ (by omega) (World.putObj_heap_same (aD hl3)) rfl;have hd5:=hk5.same _ _ (zL _) ((World.putObj_heap_other (by omega)).trans hd3) rfl;refine⟨_,_,run_endRound none hl5,rfl,⟨hIl _ _ _ _ _ hi5 (Nat.le_succ _) hl5 rfl,World.putObj_heap_same (aD hl5),(World.putObj_heap_other (by omega)).trans hd5⟩,hst.putObj hl5 rfl _⟩
   | _=>exact hp.elim
end Go.Proofs.YthnogdodlhkldaaGreatDoor
namespace Go.Proofs.YthnogdodlhkldaaGreatDoor
open Go.RowKit Go.Shelf
attribute [local go_sem] Oper.semAt_some
def mN (s:List UInt8):Option (List UInt8 × List (List UInt8)):=match bY s with | []=>none | n :: ws=>some (bB n,cT ws 200)
def yP (s:List UInt8):List (List UInt8 × List (List UInt8)):=(parts s 59).filterMap mN
def kJ (ds:List D)(x:List UInt8 × List (List UInt8)):List D:=if eM x.1=true/\¬ x.1∈ds.map D.n then ds++[⟨x.1,x.2⟩] else ds
theorem aH0 (ds:List D)(n:List UInt8):aH1 ds n=decide (n∈ds.map D.n):=by
 unfold aH1;rw[Bool.eq_iff_iff,List.any_eq_true,decide_eq_true_iff,List.mem_map];constructor
 · rintro⟨d,h1,h2⟩
   exact⟨d,h1,by simpa using h2⟩
 · rintro⟨d,h1,h2⟩
   exact⟨d,h1,by simpa using h2⟩
theorem addD_tel (ds:List D)(s:List UInt8):yB ds s=match mN s with | none=>ds | some x=>kJ ds x:=by
 unfold yB dirM mN
 cases h:bY s with
 | nil=>rfl
 | cons n ws =>
   simp only;unfold kJ cT
   by_cases hn:eM (bB n)=true
   · rw[if_pos hn]
     simp only[aH0]
     by_cases hm:bB n∈ds.map D.n
     · rw[decide_eq_true hm,if_pos rfl,if_neg (by rintro⟨_,h2⟩;exact h2 hm)]
     · rw[decide_eq_false hm,if_neg (by simp),if_pos ⟨hn,hm⟩]
   · rw[if_neg hn,if_neg (by rintro⟨h1,_⟩;exact hn h1)]
theorem bB8 (s:List UInt8):iI s=(yP s).foldl kJ []:=by
 unfold iI yP
 have h:∀(L:List (List UInt8)) (ds:List D),L.foldl yB ds=(L.filterMap mN).foldl kJ ds:=by
  intro L
  induction L with
  | nil=>intro ds;rfl
  | cons x L ih =>
    intro ds;rw[List.foldl_cons,addD_tel,List.filterMap_cons]
    cases mN x with
    | none=>exact ih _
    | some y=>exact ih _
 exact h _ _
structure El where
 nm:ByteArray
 ua:Option Addr
 uc:Nat
 ws:List (List UInt8)
def elV (x:El):Array Value:=#[.agg #[.string x.nm,.slice x.ua x.ws.length x.uc]]
def elE (base:Nat)(x:El)(W:World):Prop:=W.ownsRow base 9 1 (.slice x.ua x.ws.length x.uc) x.ws.length (aC x.ws)/\x.nm.size<=1099511627776
def elM (x:El):List UInt8 × List (List UInt8):=(x.nm.data.toList,x.ws)
theorem aH9 {w:World}{g m cap:Nat}(h:m+1<=cap){n:List UInt8}{ws:List (List UInt8)}(hm:m=ws.length)(hc:∀ j,(hj:j<(n :: ws).length)->w.cell? ⟨g,j,none⟩=some (dA (n :: ws)[j])) :
 ∃ au,(∀ W,(Instr.slice 34 (.slice (some ⟨g,0,none⟩) (m+1) cap) (some (.int .i64 1)) none none).run Tryz.prog W=.ok (.slice au m (cap - 1)) W)/\aR w (.slice au m (cap - 1)) ws:=by
 subst hm
 by_cases e:cap=1
 · subst e
   have h0:ws=[]:=List.length_eq_zero_iff.1 (by omega);subst h0;refine⟨some ⟨g,0,none⟩,fun W => ?_,.inl ⟨⟨_,_,rfl⟩,rfl⟩⟩
   have key:∀ q:Nat,q=1->(Instr.slice 34 (.slice (some ⟨g,0,none⟩) 1 1) (some (.int .i64 (q:Int))) none none).run Tryz.prog W=.ok (.slice (some ⟨g,0,none⟩) 0 0) W:=fun q hq=>by
    have hb:∀ W,(Instr.sliceBound (.int .i64 (q:Int)) 1 .sliceB).run Tryz.prog W=.ok q W:=fun W=>by
     have:=Go.run_sliceBound (P:=Tryz.prog) (w:=W) .i64 (q:Int) 1 .sliceB (by omega) (by omega)
     simpa using this
    simp[Instr.slice,run_underlying Tryz.underlying34,Instr.sliceBounds,hb];subst hq;exact⟨fun h=>absurd rfl h,rfl⟩
   exact key 1 rfl
 · refine⟨some ⟨g,1,none⟩,fun W => ?_,.inr ⟨g,1,cap - 1,rfl,fun j hj => ?_⟩⟩
   · have key:∀ q:Nat,q=1->(Instr.slice 34 (.slice (some ⟨g,0,none⟩) (ws.length+1) cap) (some (.int .i64 (q:Int))) none none).run Tryz.prog W=.ok (.slice (some ⟨g,1,none⟩) ws.length (cap - 1)) W:=fun q hq=>by
      have hb:∀ W,(Instr.sliceBound (.int .i64 (q:Int)) (ws.length+1) .sliceB).run Tryz.prog W=.ok q W:=fun W=>by
       have:=Go.run_sliceBound (P:=Tryz.prog) (w:=W) .i64 (q:Int) (ws.length+1) .sliceB (by omega) (by omega)
       simpa using this
      have h3:¬ cap=q:=by omega
      have h4:¬ q=0:=by omega
      have h5:ws.length+1<=cap:=h;simp[Instr.slice,run_underlying Tryz.underlying34,Instr.sliceBounds,hb,Addr.add,h3,h4];subst hq;exact⟨by omega,rfl⟩
     exact key 1 rfl
   · have:=hc (j+1) (by simp;omega)
     rw[Nat.add_comm 1 j]
     simpa using this
theorem sL (s:ByteArray)(w:World):Calls Tryz.prog 65 #[.string s] w fun e w'=>e=.returned (.func (.func 100) #[] #[.pointer (some ⟨w.heap.size,0,none⟩)])/\w'=w.alloc (.cells #[.string s] 9):=by
 have hmf:∀(fn:Fn) (first cap:Array Value) (w:World),(Instr.makeFunc fn first cap).run Tryz.prog w=.ok (.func fn first cap) w:=fun _ _ _ _=>rfl
 go_enter Tryz.func65,Tryz.ntmps65
 go_wp2
 go_ret
 exact⟨rfl,rfl⟩
theorem aP2 (s:ByteArray)(hs:s.size<=1000000000)(Bx:Nat)(w:World)(hx:w.heap[Bx]? = some (.cells #[.string s] 9 (0,0)))(hm:aQ w) :
 Tells Tryz.prog 100 #[.pointer (some ⟨Bx,0,none⟩)] elV elE (fun xs=>xs.map elM=yP s.data.toList) 1000000001 w:=by
 intro l J W hW hJ hY h0;have x1:W.heap[Bx]? = some (.cells #[.string s] 9 (0,0)):=by rw[hW.block _ (aD hx)];exact hx
 have q0:W.cell? ⟨Bx,0,none⟩=some (.string s):=by rw[aG x1];rfl
 have CP:=uO s 59 W hs (hm.below hW);rw[show(((59:UInt8).toNat:Nat):Int)=59 from rfl]at CP
 have hcnt:(parts s.data.toList 59).length<=1000000001:=by
  have h1:=eU (· == (59:UInt8)) s.data.toList;have h2:=dU (· == (59:UInt8)) s.data.toList;have h3:=aE s;have h4:(parts s.data.toList 59).length=(cut (· == (59:UInt8)) s.data.toList).length:=by unfold parts;rw[List.length_map]
  omega
 have hlen:∀ x∈parts s.data.toList 59,x.length<=1000000000:=fun x hx=>by
  unfold parts at hx;obtain⟨y,hy,rfl⟩:=List.mem_map.1 hx;have h1:=nX _ _ y hy;have h2:=pN y;rw[aE]at h1;omega
 have hT:yP s.data.toList=(parts s.data.toList 59).filterMap mN:=rfl;rw[hT];generalize parts s.data.toList 59=L at CP hcnt hlen ⊢;have HCP:=zH CP;have HLEN:=zH hlen;have HJ:=zH hJ;have HY:=zH hY;clear CP hlen hT hx hW hm x1 hJ hY;refine callsIn_of_wp Tryz.func100 rfl trivial ?_ rfl;simp only[Tryz.ntmps100,List.size_toArray,List.length_cons,List.length_nil,Nat.reduceAdd,Nat.reduceSub,Array.replicate_succ,Array.replicate_zero,List.push_toArray,List.append_toArray,List.nil_append,List.cons_append]
 gi_wp2_with (refine⟨trivial,rfl,?_⟩;gi_at_call 63;(with_reducible refine(callsIn_wide.2 HCP.out).mono ?_);rintro e w2 ⟨v,rfl,own2,b2⟩
              obtain⟨va,vc,rfl⟩:=(aR.of_row own2).form;have H2:Aside (w2.ownsRow (W.heap.size+1) 9 1 (.slice va L.length vc) L.length (aC L)/\J [] w2/\W.heap.size<=w2.heap.size):=⟨own2,HJ.out _ _ _ h0 b2,b2.size⟩
              clear own2 b2)
 clear h0 q0 HCP
 gi_loopw [9] (fun i wr=>∃(k:Nat) (pre:List El),k<=L.length/\i=.int .i64 k/\Hid (J pre wr)/\Hid (pre.map elM=(L.take k).filterMap mN)/\pre.length<=k/\Hid (wr.ownsRow (W.heap.size+1) 9 1 (.slice va L.length vc) L.length (aC L))/\W.heap.size<=wr.heap.size) (fun i _=>L.length - (intOf i).toNat)
 case atStart=>exact⟨0,[],Nat.zero_le _,rfl,zH H2.out.2.1,zH rfl,zL _,zH H2.out.1,H2.out.2.2⟩
 case round =>
  obtain⟨k,pre,hk,rfl,HJs,HP,hpl,HO,hsz⟩:=hrel;clear H2
  by_cases hlt:k<L.length
  · obtain⟨B,off,rfl,kc⟩:=(aR.of_row HO.out).at hlt
    have hxl:=HLEN.out _ (List.getElem_mem hlt)
    have HTK:Hid ((L.take (k+1)).filterMap mN=(L.take k).filterMap mN++(mN L[k]).toList):=zH (by
     rw[List.take_succ_eq_append_getElem hlt,List.filterMap_append]
     cases h:mN L[k]with
     | none=>simp[h]
     | some y=>simp[h])
    generalize L[k]=x at *;unfold dA at kc;obtain⟨X,hX⟩:∃ X:ByteArray,X=⟨x.toArray⟩:=⟨_,rfl⟩;rw[<- hX]at kc;have hXx:X.data.toList=x:=by rw[hX]
    have CW:=aV9 X wr (by rw[<- aE,hXx];omega);rw[hXx]at CW
    cases hw:bY x with
    | nil =>
      have HT0:Hid (mN x=none):=zH (by unfold mN;rw[hw]);rw[hw]at CW;have HCW:=zH CW;clear CW hw hX hXx hxl
      gi_wp2_with (refine⟨trivial,rfl,?_⟩;gi_at_call 101;(with_reducible refine(callsIn_wide.2 HCW.out).mono ?_);rintro e w3 ⟨v3,rfl,own3,b3⟩
                   obtain⟨va3,vc3,rfl⟩:=(aR.of_row own3).form;have H3:Aside (Below wr.heap.size wr w3):=b3
                   clear own3 b3)
      go_roundw
      case rel =>
       refine⟨k+1,pre,by omega,by go_num,zH (HJ.out _ _ _ HJs.out H3.out),zH ?_,by omega,zH (aX HO.out H3.out),by have:=H3.out.size;omega⟩;rw[HTK.out,HT0.out,HP.out];simp
      case measure=>simp[intOf];omega
    | cons n ws =>
      obtain⟨hcnt2,hnl,hwl⟩:ws.length<=1000000000/\n.length<=1000000000/\∀ y∈ws,y.length<=1000000000:=by
       have hwt:=yH x;rw[hw]at hwt;have h2:=hwt.2;rw[List.length_cons]at h2
       have h3:∀ y∈n :: ws,y.length<=1000000000:=fun y hy=>by
        have:=aU2 (n :: ws) y hy;omega
       exact⟨by omega,h3 n (by simp),fun y hy=>h3 y (by simp[hy])⟩
      rw[hw]at CW;obtain⟨Y,hY⟩:∃ Y:ByteArray,Y=⟨n.toArray⟩:=⟨_,rfl⟩;obtain⟨NN,hNN⟩:∃ NN:ByteArray,NN.data.toList=bB n:=aO (bB n);have hYn:Y.data.toList=n:=by rw[hY]
      have CL:=dM Y NN (by rw[hYn];exact hNN) (by rw[<- aE,hYn];omega);have HT1:Hid (mN x=some (NN.data.toList,cT ws 200)):=zH (by unfold mN;rw[hw,hNN])
      have hNs:NN.size<=1099511627776:=by
       rw[<- aE,hNN];unfold bB;rw[List.length_map];omega
      have HYY:=zH hY;have HNS:=zH hNs;have HCW:=zH CW;have hg0:(((ws.length+1:Nat):Int)==0)=false:=by rw[beq_eq_false_iff_ne];omega
      clear CW hw hX hXx hxl hY hYn hNN hNs
      gi_wp2_with (refine⟨trivial,rfl,?_⟩;gi_at_call 101;(with_reducible refine(callsIn_wide.2 HCW.out).mono ?_);rintro e w3 ⟨v3,rfl,own3,b3⟩
                   rw[List.length_cons]at own3
                   obtain⟨g,cap,rfl⟩:∃ g cap,v3=.slice (some ⟨g,0,none⟩) (ws.length+1) cap:=by
                    rcases bS own3 with ⟨_,h2⟩ | h
                    · omega
                    · exact h
                   have H3:Aside (Below wr.heap.size wr w3/\w3.ownsRow wr.heap.size 9 1 (.slice (some ⟨g,0,none⟩) (ws.length+1) cap) (ws.length+1) (aC (n :: ws))):=⟨b3,own3⟩
                   clear own3 b3)
      have hcap:ws.length+1<=cap:=by
       rcases H3.out.2.2 with ⟨h,_⟩ | ⟨g',cap',cur,h,_,_,h4,_⟩
       · cases h
       · cases h;exact h4
      have hcs:∀ j,(hj:j<(n :: ws).length)->w3.cell? ⟨g,j,none⟩=some (dA (n :: ws)[j]):=fun j hj=>by
       rw[H3.out.2.cellAt j (by rw[List.length_cons]at hj;omega)];unfold aC;rw[List.getElem?_map,List.getElem?_eq_getElem hj];rfl
      have k0:w3.cell? ⟨g,0,none⟩=some (.string Y):=by
       have:=hcs 0 (by simp);rw[this];unfold dA;rw[HYY.out];rfl
      obtain⟨au,hsl,htl⟩:=aH9 hcap rfl hcs;have HTL:=zH htl;have CK:Hid (∀ W,aR W (.slice au ws.length (cap - 1)) ws->Calls Tryz.prog 102 #[.slice au ws.length (cap - 1)] W fun e w'=>∃ u,e=.returned u/\w'.ownsRow W.heap.size 9 1 u (cT ws 200).length (aC (cT ws 200))/\Below W.heap.size W w'):=zH (fun W h=>kept_any ws au ws.length (cap - 1) rfl (by omega) W h (by omega) hwl);clear hcs htl hcap hwl
      gi_wp2_with fail
      gi_region_with (first
       | (refine⟨trivial,rfl,?_⟩;gi_at_call 48;(with_reducible refine(callsIn_wide.2 (CL.out _)).mono ?_);rintro e w4 ⟨rfl,b4⟩
          have B4:Aside (Below w3.heap.size w3 w4):=((zB w3.heap.size w3).drew).trans b4
          clear b4)
       | (refine⟨trivial,rfl,?_⟩;gi_at_call 102;(with_reducible refine(callsIn_wide.2 (CK.out _ (HTL.out.below B4.out))).mono ?_);rintro e w5 ⟨u,rfl,own5,b5⟩
          obtain⟨ua,uc,rfl⟩:=(aR.of_row own5).form;have hz4:W.heap.size<=w4.heap.size:=by have h1:=B4.out.size;have h2:=H3.out.1.size;omega
          have B5:Below wr.heap.size wr w5:=H3.out.1.trans ((B4.out.mono H3.out.1.size).trans (b5.mono (by have h1:=B4.out.size;have h2:=H3.out.1.size;omega)));have e5:elE W.heap.size ⟨NN,ua,uc,cT ws 200⟩ w5:=⟨xD own5 hz4,HNS.out⟩;have j5:J pre w5:=HJ.out _ _ _ HJs.out B5;obtain⟨fn,tmps,assign,body,hy,hR⟩:=HY.out pre ⟨NN,ua,uc,cT ws 200⟩ w5 j5 e5 (by omega);dsimp only[elV]at hy;have HR:=zH hR;have HB5:=zH B5
          clear own5 b5 hz4 B5 e5 j5 hR)
       | (refine⟨rfl,?_⟩;refine HR.out.mono ?_;rintro e w6 ⟨rfl,j6,k6⟩
          have H6:Aside (J (pre++[⟨NN,ua,uc,cT ws 200⟩]) w6/\jO w5 w6):=⟨j6,k6⟩
          clear j6 k6))
      all_goals
       have OW:Hid (w6.ownsRow (W.heap.size+1) 9 1 (.slice (some ⟨B,off,none⟩) L.length vc) L.length (aC L)):=zH (H6.out.2.row (aX HO.out HB5.out));have SZ:W.heap.size<=w6.heap.size:=by have h1:=H6.out.2.size;have h2:=HB5.out.size;omega
       clear hy HR
       gi_wp2
       go_roundw
       case rel =>
        refine⟨k+1,pre++[⟨NN,ua,uc,cT ws 200⟩],by omega,by go_num,zH H6.out.1,zH ?_,by rw[List.length_append];simp;omega,OW,SZ⟩;rw[HTK.out,HT1.out,List.map_append,HP.out];rfl
       case measure=>simp[intOf];omega
  · obtain rfl:k=L.length:=by omega
    gi_wp2
    go_end0
    refine⟨⟨_,rfl⟩,pre,?_,HJs.out⟩;have:=HP.out;rw[List.take_length]at this;exact this
end Go.Proofs.YthnogdodlhkldaaGreatDoor
namespace Go.Proofs.YthnogdodlhkldaaGreatDoor
open Go.RowKit
structure bX (lo:Nat) (A B:World):Prop where
 os:B.os=A.os
 tape:B.tape=A.tape
 output:B.output=A.output
 size:A.heap.size<=B.heap.size
 same:∀(k:Nat) (o:Obj),A.heap[k]? = some o->(k<lo\/o.isCells=true)->B.heap[k]? = some o
theorem bX.of_below {lo:Nat}{A B:World}(h:Below A.heap.size A B):bX lo A B:=⟨h.os,h.tape,h.output,h.size,fun k _ hk _=>(h.block k (aD hk)).trans hk⟩
theorem bX.putObj {lo:Nat}{A:World}{l:Nat}{o:Obj}(hl:A.heap[l]? = some o)(ho:o.isCells=false)(hlo:lo<=l)(o':Obj):bX lo A (A.putObj l o') :=
 ⟨rfl,rfl,rfl,by rw[World.putObj_size];exact zL _,fun k x hk hx=>by
   rw[World.putObj_heap_other (fun e=>by
    subst e;rw[hl]at hk
    cases hk
    rcases hx with hx | hx
    · omega
    · rw[ho]at hx;cases hx)]
   exact hk⟩
theorem bX.low {lo b:Nat}{w A B:World}(h:Below b w A)(k:bX lo A B)(hb:b<=lo)(hs:b<=A.heap.size):Below b w B :=
 ⟨k.os.trans h.os,k.tape.trans h.tape,k.output.trans h.output,Nat.le_trans h.size k.size,fun j hj=>by
   have h1:A.heap[j]? = some (A.heap[j]'(by omega)):=Array.getElem?_eq_getElem (by omega);rw[k.same j _ h1 (.inl (by omega)),<- h1]
   exact h.block j hj⟩
theorem bX.cell {lo:Nat}{A B:World}(k:bX lo A B){a:Addr}{v:Value}(h:A.cell? a=some v):B.cell? a=some v:=by
 obtain⟨o,h1,h2⟩:=cells_of_cell h;rw[World.cell?_of_block ((k.same _ _ h1 (.inr h2)).trans h1.symm)];exact h
theorem bX.row {lo:Nat}{A B:World}(k:bX lo A B){base:Nat}{e:TypeId}{size:Nat}{v:Value}{n:Nat}{xs:List Value}(h:A.ownsRow base e size v n xs):B.ownsRow base e size v n xs:=by
 refine⟨h.1,?_⟩;rcases h.2 with h2 | ⟨g,cap,cur,h1,h2,h3,h4⟩
 · exact .inl h2
 · exact .inr ⟨g,cap,cur,h1,h2,k.same _ _ h3 (.inr rfl),h4⟩
theorem bO.keeps {lo lo':Nat}{A B:World}(k:bX lo' A B){ob:Option Nat}{u:Value}{ts:List (List UInt8)}(h:bO A lo ob u ts):bO B lo ob u ts:=by
 rcases h with h | ⟨b,off,cap,h1,h2,h3,h4⟩
 · exact .inl h
 · exact .inr ⟨b,off,cap,h1,Nat.lt_of_lt_of_le h2 k.size,h3,fun j hj=>k.cell (h4 j hj)⟩
theorem gM.keeps {lo lo':Nat}{A B:World}(k:bX lo' A B){ob:Option Nat}{ds:List D}{cs:List Value}(h:gM A lo ob ds cs):gM B lo ob ds cs :=
 ⟨h.1,fun j hj=>by obtain⟨k1,u,k2,k3⟩:=h.2 j hj;exact⟨k1,u,k2,k3.keeps k⟩⟩
theorem eY.keeps {lo lo':Nat}{A B:World}(k:bX lo' A B){ob:Option Nat}{v:Value}{ds:List D}(h:eY A lo ob v ds):eY B lo ob v ds:=by
 rcases h with h | ⟨b,off,cap,h1,h2,h3,h4⟩
 · exact .inl h
 · refine .inr ⟨b,off,cap,h1,Nat.lt_of_lt_of_le h2 k.size,h3,fun j hj => ?_⟩
   obtain⟨k1,u,k2,k3⟩:=h4 j hj;exact⟨k.cell k1,u,k.cell k2,k3.keeps k⟩
theorem vO.keeps {A B:World}{R Pb lo lo':Nat}{r:Bool}{ns:List (List UInt8)}{v:Value}{cs:List Value}(h:vO A R Pb lo r ns v cs)(k:bX lo' A B)(hl:R+3<=lo'):vO B R Pb lo r ns v cs where
 pbox:=k.same _ _ h.pbox (.inr rfl)
 mbox:=k.same _ _ h.mbox (.inr rfl)
 seen:=by
  obtain⟨es,clock,hm⟩:=h.seen.isMap;exact h.seen.kept ((k.same _ _ hm (.inl (by omega))).trans hm.symm)
 pol:=k.same _ _ h.pol (.inr rfl)
 row:=k.row h.row
 hR:=h.hR
 hP:=h.hP
 apart:=h.apart
theorem vO.up {A:World}{R Pb lo lo':Nat}{r:Bool}{ns:List (List UInt8)}{cs:List Value}(h:vO A R Pb lo r ns (.slice none 0 0) cs)(hl:lo<=lo'):vO A R Pb lo' r ns (.slice none 0 0) cs where
 pbox:=h.pbox
 mbox:=h.mbox
 seen:=h.seen
 pol:=h.pol
 row:=by
  refine⟨h.row.1,?_⟩;rcases h.row.2 with h2 | ⟨g,cap,cur,h1,_⟩
  · exact .inl h2
  · cases h1
 hR:=Nat.le_trans h.hR hl
 hP:=Nat.lt_of_lt_of_le h.hP hl
 apart:=h.apart
theorem bO.turn {A B:World}{Pb M lo:Nat}{ob ob':Option Nat}(t:qO Pb M ob A B)(hP:Pb<lo)(hM:M<lo)(ho:ob'=ob\/∃ k,ob'=some k/\A.heap.size<=k){u:Value}{ts:List (List UInt8)}(h:bO A lo ob u ts):bO B lo ob' u ts:=by
 rcases h with h | ⟨b,off,cap,h1,h2,h3,h4⟩
 · exact .inl h
 · refine .inr ⟨b,off,cap,h1,Nat.lt_of_lt_of_le h2 t.size,⟨h3.1,?_⟩,fun j hj => ?_⟩
   · rcases ho with rfl | ⟨k,rfl,hk⟩
     · exact h3.2
     · intro e
       have:=Option.some.inj e;omega
   · rw[World.cell?_of_block (t.block b h2 (by omega) (by omega) h3.2)]
     exact h4 j hj
theorem gM.turn {A B:World}{Pb M lo:Nat}{ob ob':Option Nat}(t:qO Pb M ob A B)(hP:Pb<lo)(hM:M<lo)(ho:ob'=ob\/∃ k,ob'=some k/\A.heap.size<=k){ds:List D}{cs:List Value}(h:gM A lo ob ds cs):gM B lo ob' ds cs :=
 ⟨h.1,fun j hj=>by obtain⟨k1,u,k2,k3⟩:=h.2 j hj;exact⟨k1,u,k2,k3.turn t hP hM ho⟩⟩
theorem bO.of_own {w:World}{base lo:Nat}{ob:Option Nat}{u:Value}{ts:List (List UInt8)}(h:w.ownsRow base 9 1 u ts.length (aC ts))(hlo:lo<=base)(hob:∀ k,ob=some k->∃ cs t fr,w.heap[k]? = some (.cells cs t fr)/\t≠9):bO w lo ob u ts:=by
 rcases h.2 with ⟨h1,h2⟩ | ⟨g,cap,cur,hv,hg,hh,_⟩
 · exact .inl ⟨⟨_,_,h1⟩,List.length_eq_zero_iff.1 h2⟩
 · refine .inr ⟨g,0,cap,hv,aD hh,⟨Nat.le_trans hlo hg,fun e => ?_⟩,fun j hj => ?_⟩
   · obtain⟨cs,t,fr,h1,h2⟩:=hob g e.symm
     rw[hh]at h1
     cases h1
     exact h2 rfl
   · subst hv
     rw[Nat.zero_add,h.cellAt j (by omega)];simp[aC,List.getElem?_eq_getElem hj]
def jP (w:World)(lo:Nat)(ob:Option Nat)(ps:List (List D × Bool))(cs:List Value):Prop:=cs.length=ps.length * 2/\∀ j,(h:j<ps.length)->∃ u,cs[j * 2]? = some u/\cs[j * 2+1]? = some (.bool ps[j].2)/\eY w lo ob u ps[j].1
theorem jP.nil (w:World)(lo:Nat)(ob:Option Nat):jP w lo ob [] []:=⟨rfl,fun j h=>by cases h⟩
theorem jP.keeps {lo lo':Nat}{A B:World}(k:bX lo' A B){ob:Option Nat}{ps:List (List D × Bool)}{cs:List Value}(h:jP A lo ob ps cs):jP B lo ob ps cs :=
 ⟨h.1,fun j hj=>by obtain⟨u,k1,k2,k3⟩:=h.2 j hj;exact⟨u,k1,k2,k3.keeps k⟩⟩
theorem jP.step {w w':World}{lo:Nat}{ob ob':Option Nat}{ps:List (List D × Bool)}{cs:List Value}(h:jP w lo ob ps cs)(hg:w.grownBy w' ob)(ho:ob'=ob\/ob'=some w.heap.size):jP w' lo ob' ps cs :=
 ⟨h.1,fun j hj=>by obtain⟨u,k1,k2,k3⟩:=h.2 j hj;exact⟨u,k1,k2,k3.step hg ho⟩⟩
theorem jP.snoc {w:World}{lo:Nat}{ob:Option Nat}{ps:List (List D × Bool)}{cs:List Value}(h:jP w lo ob ps cs)(p:List D × Bool)(u:Value)(hu:eY w lo ob u p.1):jP w lo ob (ps++[p]) (cs++[u,.bool p.2]):=by
 refine⟨by simp[h.1];omega,fun j hj => ?_⟩;have hl:=h.1
 by_cases hlt:j<ps.length
 · obtain⟨v,k1,k2,k3⟩:=h.2 j hlt
   refine⟨v,?_,?_,?_⟩
   · rw[List.getElem?_append_left (by omega)];exact k1
   · rw[List.getElem?_append_left (by omega),List.getElem_append_left hlt];exact k2
   · rw[List.getElem_append_left hlt];exact k3
 · have e:j=ps.length:=by simp at hj;omega
   subst e;refine⟨u,?_,?_,?_⟩
   · rw[List.getElem?_append_right (by omega),hl,Nat.sub_self];rfl
   · rw[List.getElem?_append_right (by omega),hl,show ps.length * 2+1 - ps.length * 2=1 by omega,List.getElem_append_right (zL _)]
     simp
   · rw[List.getElem_append_right (zL _)]
     simpa using hu
def gQ (w:World)(base:Nat)(v:Value)(ps:List (List D × Bool)):Prop:=∃ cs,w.ownsRow base 24 2 v ps.length cs/\jP w base v.ownBlock ps cs
theorem gQ.keeps {base lo':Nat}{A B:World}(k:bX lo' A B){v:Value}{ps:List (List D × Bool)}(h:gQ A base v ps):gQ B base v ps:=by
 obtain⟨cs,h1,h2⟩:=h;exact⟨cs,k.row h1,h2.keeps k⟩
theorem gQ.below {base:Nat}{A B:World}{v:Value}{ps:List (List D × Bool)}(h:gQ A base v ps)(hb:Below A.heap.size A B):gQ B base v ps:=h.keeps (bX.of_below (lo:=0) hb)
theorem gQ.in {w:World}{base:Nat}{v:Value}{ps:List (List D × Bool)}(h:gQ w base v ps):bM w v ps:=by
 obtain⟨cs,h1,h2,h3⟩:=h;rcases h1.2 with ⟨e1,e2⟩ | ⟨g,cap,cur,hv,hg,hh,_⟩
 · exact .inl ⟨⟨_,_,e1⟩,List.length_eq_zero_iff.1 e2⟩
 · subst hv
   refine .inr ⟨g,0,cap,rfl,fun j hj => ?_⟩;obtain⟨u,k1,k2,k3⟩:=h3 j hj;rw[Nat.zero_add,h1.cellAt (j * 2) (by omega),h1.cellAt (j * 2+1) (by omega)];exact⟨⟨u,k1,k3.in⟩,k2⟩
theorem gQ.grow {w w':World}{base:Nat}{v v':Value}{ps:List (List D × Bool)}{cs:List Value}(p:List D × Bool)(u:Value)(h:jP w base v.ownBlock ps cs)(hu:eY w base v.ownBlock u p.1)(hown:w'.ownsRow base 24 2 v' (ps.length+1) (cs++[u,.bool p.2]))(hg:w.grownBy w' v.ownBlock)(ho:v'.ownBlock=v.ownBlock\/v'.ownBlock=some w.heap.size):gQ w' base v' (ps++[p]) :=
 ⟨cs++[u,.bool p.2],by rw[List.length_append];exact hown,(h.snoc p u hu).step hg ho⟩
theorem jA.by {w:World}{base:Nat}{v:Value}{ds:List D}(h:jA w base v ds){lo:Nat}(hlo:lo<=base){ob:Option Nat}(hob:∀ k,ob=some k->k<base):eY w lo ob v ds:=by
 obtain⟨cs,h1,h2⟩:=h;rcases h1.2 with ⟨e1,e2⟩ | ⟨g,cap,cur,hv,hg,hh,_⟩
 · exact .inl ⟨⟨_,_,e1⟩,List.length_eq_zero_iff.1 e2⟩
 · subst hv
   refine .inr ⟨g,0,cap,rfl,aD hh,⟨by omega,fun e=>by have:=hob g e.symm;omega⟩,fun j hj => ?_⟩;obtain⟨k1,u,k2,k3⟩:=h2.2 j hj;rw[Nat.zero_add,h1.cellAt (j * 2) (by have:=h2.1;omega),h1.cellAt (j * 2+1) (by have:=h2.1;omega)];refine⟨k1,u,k2,?_⟩;rcases k3 with k3 | ⟨b,off,cap2,a1,a2,a3,a4⟩
   · exact .inl k3
   · exact .inr ⟨b,off,cap2,a1,a2,⟨by omega,fun e=>by have:=hob b e.symm;have:=a3.1;omega⟩,a4⟩
theorem oH:(Tryz.prog.info? 24).map (fun i=>(i.zero,i.size,i.bytes))=some (some (.agg #[.slice none 0 0,.bool false]),2,32):=by kernel_rfl
end Go.Proofs.YthnogdodlhkldaaGreatDoor
