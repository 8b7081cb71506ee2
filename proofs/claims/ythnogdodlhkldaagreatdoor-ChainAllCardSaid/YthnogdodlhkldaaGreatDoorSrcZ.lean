/- The word of a place: the program's. A source's word: the program's Print. The cutter in memory; what the program's cutter does: skip, takeHost, takePort; two texts held against one another, their letters' size aside. What the program's cutter does: cutScheme, cutPlace. What the program's cutter does: cutPlace, whole; cutKept. What the program's cutter does: cutKept. What the program's cutter does: cutQuoted, cut. A word is parsed as a source: the program's Parse. -/
import Derived.Test.YthnogdodlhkldaaGreatDoorSrcY
import Derived.Test.YthnogdodlhkldaaGreatDoorFoldZ
set_option maxRecDepth 100000
set_option maxHeartbeats 8000000
namespace Go.Proofs.YthnogdodlhkldaaGreatDoor
open Go.RowKit
end Go.Proofs.YthnogdodlhkldaaGreatDoor
namespace Go.Proofs.YthnogdodlhkldaaGreatDoor
open Go.RowKit
end Go.Proofs.YthnogdodlhkldaaGreatDoor
namespace Go.Proofs.YthnogdodlhkldaaGreatDoor
open Go.RowKit
def CX (w:World)(B:Nat)(k:Int)(t s h:ByteArray)(b:Bool)(p:Int)(pa l:ByteArray):Prop:=w.heap[B]? = some (.cells #[.int .i64 k,.string t,.string s,.string h,.bool b,.int .i64 p,.string pa,.string l] 133 (0,0))
theorem CX.lt {w:World}{B:Nat}{t s h pa l:ByteArray}{b:Bool}{k p:Int}(a:CX w B k t s h b p pa l):B<w.heap.size:=aD a
theorem CX.below {w':World}{w:World}{B:Nat}{t s h pa l:ByteArray}{b:Bool}{k p:Int}(a:CX w B k t s h b p pa l)(hb:Below w.heap.size w w'):CX w' B k t s h b p pa l:=by
 unfold CX at *;rw[hb.block B (aD a)];exact a
theorem CX.made (w:World)(k:Int)(t s h:ByteArray)(b:Bool)(p:Int)(pa l:ByteArray):CX (w.alloc (.cells #[.int .i64 k,.string t,.string s,.string h,.bool b,.int .i64 p,.string pa,.string l] 133)) w.heap.size k t s h b p pa l:=aW w _
theorem CX.free {w:World}{B:Nat}{t s h pa l:ByteArray}{b:Bool}{k p:Int}(a:CX w B k t s h b p pa l)(j:Nat):w.frozen? ⟨B,j,none⟩=false:=aB a j
theorem CX.c0 {w:World}{B:Nat}{t s h pa l:ByteArray}{b:Bool}{k p:Int}(a:CX w B k t s h b p pa l):w.cell? ⟨B,0,none⟩=some (.int .i64 k):=by rw[aG a];rfl
theorem CX.c1 {w:World}{B:Nat}{t s h pa l:ByteArray}{b:Bool}{k p:Int}(a:CX w B k t s h b p pa l):w.cell? ⟨B,1,none⟩=some (.string t):=by rw[aG a];rfl
theorem CX.c2 {w:World}{B:Nat}{t s h pa l:ByteArray}{b:Bool}{k p:Int}(a:CX w B k t s h b p pa l):w.cell? ⟨B,2,none⟩=some (.string s):=by rw[aG a];rfl
theorem CX.c3 {w:World}{B:Nat}{t s h pa l:ByteArray}{b:Bool}{k p:Int}(a:CX w B k t s h b p pa l):w.cell? ⟨B,3,none⟩=some (.string h):=by rw[aG a];rfl
theorem CX.c4 {w:World}{B:Nat}{t s h pa l:ByteArray}{b:Bool}{k p:Int}(a:CX w B k t s h b p pa l):w.cell? ⟨B,4,none⟩=some (.bool b):=by rw[aG a];rfl
theorem CX.c5 {w:World}{B:Nat}{t s h pa l:ByteArray}{b:Bool}{k p:Int}(a:CX w B k t s h b p pa l):w.cell? ⟨B,5,none⟩=some (.int .i64 p):=by rw[aG a];rfl
theorem CX.c6 {w:World}{B:Nat}{t s h pa l:ByteArray}{b:Bool}{k p:Int}(a:CX w B k t s h b p pa l):w.cell? ⟨B,6,none⟩=some (.string pa):=by rw[aG a];rfl
theorem CX.c7 {w:World}{B:Nat}{t s h pa l:ByteArray}{b:Bool}{k p:Int}(a:CX w B k t s h b p pa l):w.cell? ⟨B,7,none⟩=some (.string l):=by rw[aG a];rfl
theorem CX.cs {w:World}{B:Nat}{t s h pa l:ByteArray}{b:Bool}{k p:Int}(a:CX w B k t s h b p pa l):w.cell? ⟨B,0,none⟩=some (.int .i64 k)/\w.cell? ⟨B,1,none⟩=some (.string t)/\w.cell? ⟨B,2,none⟩=some (.string s)/\w.cell? ⟨B,3,none⟩=some (.string h)/\w.cell? ⟨B,4,none⟩=some (.bool b)/\w.cell? ⟨B,5,none⟩=some (.int .i64 p)/\w.cell? ⟨B,6,none⟩=some (.string pa)/\w.cell? ⟨B,7,none⟩=some (.string l):=⟨a.c0,a.c1,a.c2,a.c3,a.c4,a.c5,a.c6,a.c7⟩
theorem CX.set0 {w:World}{B:Nat}{t s h pa l:ByteArray}{b:Bool}{k p:Int}(a:CX w B k t s h b p pa l)(u:Int):CX (w.setCell ⟨B,0,none⟩ (.int .i64 u)) B u t s h b p pa l:=by unfold CX at *;rw[aI _ _ _ _ _ _ _ a];rfl
theorem CX.set1 {w:World}{B:Nat}{t s h pa l:ByteArray}{b:Bool}{k p:Int}(a:CX w B k t s h b p pa l)(u:ByteArray):CX (w.setCell ⟨B,1,none⟩ (.string u)) B k u s h b p pa l:=by unfold CX at *;rw[aI _ _ _ _ _ _ _ a];rfl
theorem CX.set2 {w:World}{B:Nat}{t s h pa l:ByteArray}{b:Bool}{k p:Int}(a:CX w B k t s h b p pa l)(u:ByteArray):CX (w.setCell ⟨B,2,none⟩ (.string u)) B k t u h b p pa l:=by unfold CX at *;rw[aI _ _ _ _ _ _ _ a];rfl
theorem CX.set3 {w:World}{B:Nat}{t s h pa l:ByteArray}{b:Bool}{k p:Int}(a:CX w B k t s h b p pa l)(u:ByteArray):CX (w.setCell ⟨B,3,none⟩ (.string u)) B k t s u b p pa l:=by unfold CX at *;rw[aI _ _ _ _ _ _ _ a];rfl
theorem CX.set4 {w:World}{B:Nat}{t s h pa l:ByteArray}{b:Bool}{k p:Int}(a:CX w B k t s h b p pa l)(u:Bool):CX (w.setCell ⟨B,4,none⟩ (.bool u)) B k t s h u p pa l:=by unfold CX at *;rw[aI _ _ _ _ _ _ _ a];rfl
theorem CX.set5 {w:World}{B:Nat}{t s h pa l:ByteArray}{b:Bool}{k p:Int}(a:CX w B k t s h b p pa l)(u:Int):CX (w.setCell ⟨B,5,none⟩ (.int .i64 u)) B k t s h b u pa l:=by unfold CX at *;rw[aI _ _ _ _ _ _ _ a];rfl
theorem CX.set6 {w:World}{B:Nat}{t s h pa l:ByteArray}{b:Bool}{k p:Int}(a:CX w B k t s h b p pa l)(u:ByteArray):CX (w.setCell ⟨B,6,none⟩ (.string u)) B k t s h b p u l:=by unfold CX at *;rw[aI _ _ _ _ _ _ _ a];rfl
theorem CX.set7 {w:World}{B:Nat}{t s h pa l:ByteArray}{b:Bool}{k p:Int}(a:CX w B k t s h b p pa l)(u:ByteArray):CX (w.setCell ⟨B,7,none⟩ (.string u)) B k t s h b p pa u:=by unfold CX at *;rw[aI _ _ _ _ _ _ _ a];rfl
def lN (v:Value):Prop:=v=.nilIface\/∃ te pe,v=.iface te pe
def eW (B:Nat)(w:World):Prop:=(1<B/\aQ w)/\(0<B/\fU w)/\(7<B/\∃ v,w.cell? ⟨7,0,none⟩=some v/\lN v)/\(8<B/\∃ v,w.cell? ⟨8,0,none⟩=some v/\lN v)
theorem eW.on {B:Nat}{w w':World}(h:eW B w)(hb:Below B w w'):eW B w':=by
 obtain⟨⟨a1,m,a2⟩,⟨b1,b2⟩,⟨c1,v,c2,c3⟩,⟨d1,u,d2,d3⟩⟩:=h
 exact⟨⟨a1,m,by rw[hb.cell (p:=⟨1,0,none⟩) a1];exact a2⟩,⟨b1,fun j hj=>by rw[hb.cell (p:=⟨0,j,none⟩) b1];exact b2 j hj⟩,
  ⟨c1,v,by rw[hb.cell (p:=⟨7,0,none⟩) c1];exact c2,c3⟩,⟨d1,u,by rw[hb.cell (p:=⟨8,0,none⟩) d1];exact d2,d3⟩⟩
theorem aY9 (S T:ByteArray)(r:Bool)(hr:decide (bB S.data.toList=bB T.data.toList)=r)(hS:S.size<=1099511627776)(hT:T.size<=1099511627776)(w:World):Calls Tryz.prog 171 #[.string S,.string T] w fun e w'=>e=.returned (.bool r)/\Below w.heap.size w w':=by
 obtain⟨S2,hS2⟩:=aO (bB S.data.toList);obtain⟨T2,hT2⟩:=aO (bB T.data.toList);have C1:=dM S S2 hS2 hS;have C2:=dM T T2 hT2 hT;rw[<- hS2,<- hT2]at hr;have g:=fZ S2 T2;rw[hr]at g;clear hr hS2 hT2 hS hT
 go_enter Tryz.func171,Tryz.ntmps171
 go_wp2_with fail
 refine(C1.out _).mono ?_;rintro e w1 ⟨rfl,b1⟩
 go_wp2_with fail
 refine(C2.out _).mono ?_;rintro e w2 ⟨rfl,b2⟩
 go_wp2
 go_ret
 exact⟨rfl,b1.trans (b2.mono b1.size)⟩
theorem eQ (S T:ByteArray)(r:Bool)(hr:decide (bB S.data.toList=bB T.data.toList)=r)(hS:S.size<=1099511627776)(hT:T.size<=1099511627776):Hid (∀ W,Calls Tryz.prog 171 #[.string S,.string T] W fun e w'=>e=.returned (.bool r)/\Below W.heap.size W w'):=zH fun W=>aY9 S T r hr hS hT W
theorem lQ (T L L2:ByteArray)(r:Bool)(hT:bB T.data.toList=T.data.toList)(hr:mV L.data.toList T.data.toList=r)(hL2:L2.data.toList=if r then L.data.toList.drop T.size else L.data.toList)(hL:L.size<=1000000)(hTs:T.size<=1000000)(B:Nat)(w:World)(k:Int)(t s h:ByteArray)(b:Bool)(p:Int)(pa:ByteArray)(a:CX w B k t s h b p pa L) :
 Calls Tryz.prog 173 #[.pointer (some ⟨B,0,none⟩),.string T] w fun e w'=>e=.returned (.bool r)/\CX w' B k t s h b p pa L2/\Below B w w':=by
 have hlt:=a.lt;have c7:=a.c7
 by_cases hlen:L.size<T.size
 · have hz:(L.size:Int)<(T.size:Int):=by omega
   obtain rfl:r=false:=by
    cases r
    · rfl
    · have:=oD hr
      rw[aE,aE]at this;omega
   obtain rfl:L2=L:=(aM hL2).trans (aM rfl).symm;clear hr hL2 hlen
   go_enter Tryz.func173,Tryz.ntmps173
   go_wp2
   go_ret
   exact⟨rfl,a,zB _ _⟩
 have hz:¬ (L.size:Int)<(T.size:Int):=by omega
 obtain⟨U,hU⟩:=aO (L.data.toList.take T.size);have hUs:U.size<=L.size:=by rw[<- aE U,<- aE L,hU,List.length_take];omega
 have s1:=iA L U T.size (by omega) hU;have CS:=eQ U T r (by rw[hU,hT,<- hr];unfold mV;rw[aE]) (by omega) (by omega)
 cases r
 · obtain rfl:L2=L:=(aM hL2).trans (aM rfl).symm
   clear hr hL2 hlen hU
   go_enter Tryz.func173,Tryz.ntmps173
   go_wp2_with fail
   refine(CS.out _).mono ?_;rintro e w1 ⟨rfl,b1⟩;have a1:=a.below b1
   go_wp2
   go_ret
   exact⟨rfl,a1,b1.mono (zT hlt)⟩
 · have s2:=fD L L2 T.size (by omega) hL2
   clear hr hL2 hlen hU
   go_enter Tryz.func173,Tryz.ntmps173
   go_wp2_with fail
   refine(CS.out _).mono ?_;rintro e w1 ⟨rfl,b1⟩;have a1:=a.below b1;have d7:=a1.c7;have f7:=a1.free 7;have a2:=a1.set7 L2;have B2:=(b1.mono (zT hlt)).setCell (p:=⟨B,7,none⟩) (zL _) (.string L2);clear c7
   go_wp2
   go_ret
   exact⟨rfl,a2,B2⟩
theorem nE (s:ByteArray):(s.toList==[42])=decide (s.data.toList=[42]):=bJ _ _
theorem rW {l:List UInt8}(h:¬ l=[42]):jF l=if (Lib.trimPrefix l [42,46])=[] then none else some (Lib.trimPrefix l [42,46],Lib.hasPrefix l [42,46]):=by
 unfold jF Lib.trimPrefix;rw[if_neg h];unfold Lib.hasPrefix
 cases hp:[42,46].isPrefixOf l
 · simp only[Bool.false_eq_true,if_false]
 · simp only[if_true]
   rfl
theorem aX4 (N H:ByteArray)(wd:Bool)(hN:jF N.data.toList=some (H.data.toList,wd))(B:Nat)(w:World)(k:Int)(t s:ByteArray)(p:Int)(pa l:ByteArray)(a:CX w B k t s ⟨#[]⟩ false p pa l) :
 Calls Tryz.prog 180 #[.pointer (some ⟨B,0,none⟩),.string N] w fun e w'=>e=.returned (.bool true)/\CX w' B k t s H wd p pa l/\Below B w w':=by
 have hlt:=a.lt;have g:=nE N
 by_cases h:N.data.toList=[42]
 · rw[decide_eq_true h]at g
   have e:H.data.toList=[]/\wd=true:=by
    rw[h]at hN;have:jF [42]=some ([],true):=rfl;rw[this]at hN
    injection hN with hN
    rw[Prod.mk.injEq]at hN;exact⟨hN.1.symm,hN.2.symm⟩
   obtain⟨e1,rfl⟩:=e;obtain rfl:H=⟨#[]⟩:=aM e1;have c4:=a.c4;have f4:=a.free 4;have a2:=a.set4 true;have B2:Below B w (w.setCell ⟨B,4,none⟩ (.bool true)):=((zB w.heap.size w).mono (zT hlt)).setCell (zL _) _;clear h hN e1
   go_enter Tryz.func180,Tryz.ntmps180
   go_wp2
   go_ret
   exact⟨rfl,a2,B2⟩
 · rw[decide_eq_false h]at g
   rw[rW h]at hN
   have e:Lib.trimPrefix N.data.toList [42,46]=H.data.toList/\Lib.hasPrefix N.data.toList [42,46]=wd/\H.data.toList≠[]:=by
    split at hN
    · cases hN
    · rename_i hne
      injection hN with hN
      rw[Prod.mk.injEq]at hN;exact⟨hN.1,hN.2,by rw[<- hN.1];exact hne⟩
   obtain⟨e1,e2,e3⟩:=e
   have C:Hid (∀ W,Calls Tryz.prog 225 #[.string N,.string ⟨#[42,46]⟩] W fun e w'=>e=.returned (.tuple #[.string H,.bool wd])/\w'=W):=zH fun W=>by
    have:=Tryz.strings_CutPrefix N ⟨#[42,46]⟩ W;rw[show(⟨#[42,46]⟩:ByteArray).data.toList=[42,46]from rfl,e1,e2,<- aM (T:=H) rfl]at this;exact this
   have g2:H.toList.isEmpty=false:=by rw[aF];simpa using e3
   have c3:=a.c3;have f3:=a.free 3;have a2:=a.set3 H;have c4:=a2.c4;have f4:=a2.free 4;have a3:=a2.set4 wd;have d3:=a3.c3;have B3:Below B w ((w.setCell ⟨B,3,none⟩ (.string H)).setCell ⟨B,4,none⟩ (.bool wd)):=(((zB w.heap.size w).mono (zT hlt)).setCell (zL _) _).setCell (zL _) _;clear h hN e1 e2 e3 a2
   go_enter Tryz.func180,Tryz.ntmps180
   go_wp2_with (go_at_call 225;(with_reducible refine(C.out _).mono ?_);rintro e w ⟨rfl,rfl⟩)
   go_ret
   exact⟨rfl,a3,B3⟩
theorem takeH_no (N:ByteArray)(hN:jF N.data.toList=none)(B:Nat)(w:World)(k:Int)(t s:ByteArray)(p:Int)(pa l:ByteArray)(a:CX w B k t s ⟨#[]⟩ false p pa l) :
 Calls Tryz.prog 180 #[.pointer (some ⟨B,0,none⟩),.string N] w fun e w'=>e=.returned (.bool false)/\Below B w w':=by
 have hlt:=a.lt;have g:=nE N;have h:¬ N.data.toList=[42]:=by intro e;rw[e]at hN;cases hN
 rw[decide_eq_false h]at g;rw[rW h]at hN
 have e1:Lib.trimPrefix N.data.toList [42,46]=[]:=by
  split at hN
  · assumption
  · cases hN
 obtain⟨wd,e2⟩:∃ wd,Lib.hasPrefix N.data.toList [42,46]=wd:=⟨_,rfl⟩
 have C:Hid (∀ W,Calls Tryz.prog 225 #[.string N,.string ⟨#[42,46]⟩] W fun e w'=>e=.returned (.tuple #[.string ⟨#[]⟩,.bool wd])/\w'=W):=zH fun W=>by
  have:=Tryz.strings_CutPrefix N ⟨#[42,46]⟩ W;rw[show(⟨#[42,46]⟩:ByteArray).data.toList=[42,46]from rfl,e1,e2]at this;exact this
 have c3:=a.c3;have f3:=a.free 3;have a2:=a.set3 ⟨#[]⟩;have c4:=a2.c4;have f4:=a2.free 4;have a3:=a2.set4 wd;have d3:=a3.c3;have B3:Below B w ((w.setCell ⟨B,3,none⟩ (.string ⟨#[]⟩)).setCell ⟨B,4,none⟩ (.bool wd)):=(((zB w.heap.size w).mono (zT hlt)).setCell (zL _) _).setCell (zL _) _;clear h hN e1 e2 a2
 go_enter Tryz.func180,Tryz.ntmps180
 go_wp2_with (go_at_call 225;(with_reducible refine(C.out _).mono ?_);rintro e w ⟨rfl,rfl⟩)
 go_ret
 exact⟨rfl,B3⟩
theorem gP:∀(l:List UInt8) (acc:Nat),acc<=65535->(Lib.parseUintM 65535 acc l=.ok (l.foldl (fun n b=>n * 10+(b.toNat - 48)) acc)/\l.all bQ=true/\l.foldl (fun n b=>n * 10+(b.toNat - 48)) acc<=65535)\/((∀ u,Lib.parseUintM 65535 acc l ≠ .ok u)/\(l.all bQ=true->65535<l.foldl (fun n b=>n * 10+(b.toNat - 48)) acc))
 | [],acc,h => .inl ⟨rfl,rfl,h⟩
 | c :: r,acc,h=>by
   have hd:bQ c=decide (48<=c.toNat/\c.toNat<=57):=rfl;unfold Lib.parseUintM
   by_cases hc:48<=c.toNat/\c.toNat<=57
   · rw[if_pos hc,if_neg (by omega)]
     rw[decide_eq_true hc]at hd
     by_cases hb:65535<acc * 10+(c.toNat - 48)
     · rw[if_pos hb]
       refine .inr ⟨fun u e=>(by cases e),fun _ => ?_⟩
       have hm:∀(r:List UInt8) (x:Nat),x<=r.foldl (fun n b=>n * 10+(b.toNat - 48)) x:=by
        intro r
        induction r with
        | nil=>intro x;exact zL _
        | cons d r ih=>intro x;exact Nat.le_trans (by omega) (ih (x * 10+(d.toNat - 48)))
       rw[List.foldl_cons];exact Nat.lt_of_lt_of_le hb (hm r _)
     · rw[if_neg hb,List.foldl_cons,List.all_cons,hd,Bool.true_and]
       exact gP r _ (by omega)
   · rw[if_neg hc]
     rw[decide_eq_false hc]at hd;refine .inr ⟨fun u e=>(by cases e),fun e => ?_⟩;rw[List.all_cons,hd]at e
     cases e
theorem bB5 {l:List UInt8}{q:Int}(h:¬ l=[42])(hq:kK l=some q):∃ u:Nat,(u:Int)=q/\0<u/\u<=65535/\l.length<=5/\Lib.parseUintB 16 l=.ok u:=by
 unfold kK at hq;rw[if_neg h]at hq
 cases hn:tP l with
 | none=>rw[hn]at hq;cases hq
 | some n =>
   rw[hn]at hq;simp only[]at hq;split at hq
   · rename_i hr
     injection hq with hq
     unfold tP at hn;split at hn
     · cases hn
     · rename_i hc
       injection hn with hn
       have h0:l≠[]:=fun e=>hc (.inl e);have h5:l.length<=5:=by rcases Nat.lt_or_ge 5 l.length with hx | hx;exact absurd (.inr (.inl hx)) hc;exact hx
       have ha:l.all bQ=true:=by cases hx:l.all bQ;exact absurd (.inr (.inr hx)) hc;rfl
       refine⟨n,hq,hr.1,hr.2,h5,?_⟩;unfold Lib.parseUintB;rw[if_neg h0];unfold mD at hn;rcases gP l 0 (by decide)with ⟨e,_,_⟩ | ⟨_,e⟩
       · rw[hn]at e;exact e
       · have:=e ha
         rw[hn]at this;omega
   · cases hq
theorem portO_no {l:List UInt8}(h:kK l=none)(h5:l.length<=5):(∀ u,Lib.parseUintB 16 l ≠ .ok u)\/Lib.parseUintB 16 l=.ok 0:=by
 unfold Lib.parseUintB
 by_cases h0:l=[]
 · rw[if_pos h0];exact .inl fun u e=>by cases e
 rw[if_neg h0];rcases gP l 0 (by decide)with ⟨e,ha,hb⟩ | ⟨e,_⟩
 · right
   unfold kK at h;split at h
   · cases h
   · have hn:tP l=some (mD l):=by
      unfold tP;rw[if_neg];rintro(x | x | x)
      · exact h0 x
      · omega
      · rw[ha]at x;cases x
     rw[hn]at h;simp only[]at h;split at h
     · cases h
     · rename_i hr
       have hv:mD l=0:=by
        have:mD l<=65535:=hb;omega
       show Lib.parseUintM 65535 0 l=_;rw[e];exact congrArg _ hv
 · exact .inl e
theorem wY (s:ByteArray)(hs:s.size<=1000000)(h:∀ u,Lib.parseUintB 16 s.data.toList ≠ .ok u)(v3 v4:Value)(w:World)(hv3:w.cell? ⟨7,0,none⟩=some v3)(hi3:lN v3)(hv4:w.cell? ⟨8,0,none⟩=some v4)(hi4:lN v4) :
 Calls Tryz.prog 226 #[.string s,.int .i64 10,.int .i64 16] w fun e w'=>∃(n:Int) (N:Nat),e=.returned (.tuple #[.int .u64 n,.iface 233 (.pointer (some ⟨N,0,none⟩))])/\(n=0\/n=65535)/\Below w.heap.size w w':=by
 rcases hx:Lib.parseUintB 16 s.data.toList with u | _ | _
 · exact absurd hx (h u)
 · exact(Any.strconv_ParseUint_10_at16_syntax Tryz.laysPu14 s (by omega) hx v3 w hv3 hi3).mono fun e w' ⟨N,h1,_,_,h2⟩=>⟨0,N,h1,.inl rfl,h2⟩
 · exact(Any.strconv_ParseUint_10_at16_range Tryz.laysPu14 s (by omega) hx v4 w hv4 hi4).mono fun e w' ⟨N,h1,_,_,h2⟩=>⟨65535,N,h1,.inr rfl,h2⟩
theorem qI {w:World}(s:ByteArray)(t:TypeId):Below w.heap.size w (Lib.bytesWorld w t s):=Lib.bytesWorld_below w t s
theorem aX2 (T:ByteArray)(q:Int)(hq:kK T.data.toList=some q)(B:Nat)(w:World)(k:Int)(t s h:ByteArray)(b:Bool)(p:Int)(pa l:ByteArray)(a:CX w B k t s h b p pa l) :
 Calls Tryz.prog 181 #[.pointer (some ⟨B,0,none⟩),.string T] w fun e w'=>e=.returned (.bool true)/\CX w' B k t s h b q pa l/\Below B w w':=by
 have hlt:=a.lt;have g:=nE T
 by_cases h42:T.data.toList=[42]
 · rw[decide_eq_true h42]at g
   obtain rfl:q = -1:=by
    unfold kK at hq;rw[if_pos h42]at hq
    injection hq with hq
    exact hq.symm
   have c5:=a.c5;have f5:=a.free 5;have a2:=a.set5 (-1);have B2:Below B w (w.setCell ⟨B,5,none⟩ (.int .i64 (-1))):=((zB w.heap.size w).mono (zT hlt)).setCell (zL _) _;clear h42 hq
   go_enter Tryz.func181,Tryz.ntmps181
   go_wp2
   go_ret
   exact⟨rfl,a2,B2⟩
 · rw[decide_eq_false h42]at g
   obtain⟨u,rfl,u0,u1,h5,hu⟩:=bB5 h42 hq;rw[aE]at h5;have hz:¬ (5:Int)<(T.size:Int):=by omega
   have C:Hid (∀ W,Calls Tryz.prog 226 #[.string T,.int .i64 10,.int .i64 16] W fun e w'=>e=.returned (.tuple #[.int .u64 (u:Int),.nilIface])/\Below W.heap.size W w'):=zH fun W =>
    (Tryz.strconv_ParseUint_10_at16_ok T (by omega) u hu W).mono fun e w' ⟨h1,h2⟩=>⟨h1,by rcases h2 with h2 | h2<;>rw[h2];exact zB _ _;exact qI _ _⟩
   have u3:(u:Int)<=65535:=by omega
   have HU:Hid (decide (0<u)=true):=zH (decide_eq_true u0);clear h42 hq hu h5 u0 u1
   go_enter Tryz.func181,Tryz.ntmps181
   go_wp2_with fail
   refine(C.out _).mono ?_;rintro e w1 ⟨rfl,b1⟩;have a1:=a.below b1;have c5:=a1.c5;have f5:=a1.free 5;have a2:=a1.set5 (u:Int);have B2:=(b1.mono (zT hlt)).setCell (p:=⟨B,5,none⟩) (zL _) (.int .i64 (u:Int))
   go_wp2
   go_ret
   exact⟨aA HU.out,a2,B2⟩
theorem takeP_no (T:ByteArray)(hq:kK T.data.toList=none)(hT:T.size<=1000000)(B:Nat)(w:World)(hlow:eW B w)(k:Int)(t s h:ByteArray)(b:Bool)(p:Int)(pa l:ByteArray)(a:CX w B k t s h b p pa l) :
 Calls Tryz.prog 181 #[.pointer (some ⟨B,0,none⟩),.string T] w fun e w'=>e=.returned (.bool false)/\Below B w w':=by
 have hlt:=a.lt;have g:=nE T;have h42:¬ T.data.toList=[42]:=by intro e;rw[e]at hq;cases hq
 rw[decide_eq_false h42]at g
 by_cases h5:5<T.size
 · have hz:(5:Int)<(T.size:Int):=by omega
   clear h42 hq h5
   go_enter Tryz.func181,Tryz.ntmps181
   go_wp2
   go_ret
   exact⟨rfl,zB _ _⟩
 have hz:¬ (5:Int)<(T.size:Int):=by omega
 obtain⟨_,_,⟨_,v3,hv3,hi3⟩,⟨_,v4,hv4,hi4⟩⟩:=hlow;have hcase:=portO_no hq (by rw[aE];omega);rcases hcase with hu | hu
 · have HC:=zH (wY T hT hu v3 v4 w hv3 hi3 hv4 hi4)
   clear h42 hq h5 hu hv3 hi3 hv4 hi4
   go_enter Tryz.func181,Tryz.ntmps181
   go_wp2_with fail
   refine HC.out.mono ?_;rintro e w1 ⟨n,N,rfl,hn,b1⟩;have a1:=a.below b1;have c5:=a1.c5;have f5:=a1.free 5;rcases hn with rfl | rfl
   · have B2:=(b1.mono (zT hlt)).setCell (p:=⟨B,5,none⟩) (zL _) (.int .i64 0)
     go_wp2
     go_ret
     exact⟨rfl,B2⟩
   · have B2:=(b1.mono (zT hlt)).setCell (p:=⟨B,5,none⟩) (zL _) (.int .i64 65535)
     go_wp2
     go_ret
     exact⟨rfl,B2⟩
 · have C:Hid (∀ W,Calls Tryz.prog 226 #[.string T,.int .i64 10,.int .i64 16] W fun e w'=>e=.returned (.tuple #[.int .u64 (0:Int),.nilIface])/\Below W.heap.size W w'):=zH fun W =>
    (Tryz.strconv_ParseUint_10_at16_ok T (by omega) 0 hu W).mono fun e w' ⟨h1,h2⟩=>⟨h1,by rcases h2 with h2 | h2<;>rw[h2];exact zB _ _;exact qI _ _⟩
   clear h42 hq h5 hu hv3 hi3 hv4 hi4
   go_enter Tryz.func181,Tryz.ntmps181
   go_wp2_with fail
   refine(C.out _).mono ?_;rintro e w1 ⟨rfl,b1⟩;have a1:=a.below b1;have c5:=a1.c5;have f5:=a1.free 5;have B2:=(b1.mono (zT hlt)).setCell (p:=⟨B,5,none⟩) (zL _) (.int .i64 0)
   go_wp2
   go_ret
   exact⟨rfl,B2⟩
end Go.Proofs.YthnogdodlhkldaaGreatDoor
namespace Go.Proofs.YthnogdodlhkldaaGreatDoor
open Go.RowKit
theorem oX (l:List UInt8):(kN l=none/\Lib.index l [58,47,47] = -1)\/∃ a r,kN l=some (a,r)/\Lib.index l [58,47,47]=(a.length:Int)/\l=a++([58,47,47]++r):=by
 induction l with
 | nil=>exact .inl ⟨rfl,rfl⟩
 | cons b l ih =>
   unfold kN Lib.index
   by_cases hp:[58,47,47].isPrefixOf (b :: l)=true
   · rw[if_pos hp,if_pos hp]
     obtain⟨r,hr⟩:=List.isPrefixOf_iff_prefix.1 hp;refine .inr ⟨[],r,?_,rfl,hr.symm⟩;rw[<- hr];rfl
   · rw[if_neg hp,if_neg hp]
     rcases ih with ⟨h1,h2⟩ | ⟨a,r,h1,h2,h3⟩
     · rw[h1,h2];exact .inl ⟨rfl,rfl⟩
     · rw[h1,h2]
       refine .inr ⟨b :: a,r,rfl,?_,by rw[h3];rfl⟩;rw[if_neg (by simp)];simp
theorem xO (l:List UInt8):Lib.cut l [58,47,47]=match kN l with | some (a,r)=>(a,r,true) | none=>(l,[],false):=by
 unfold Lib.cut;rcases oX l with ⟨h1,h2⟩ | ⟨a,r,h1,h2,h3⟩
 · rw[h1,h2];rfl
 · rw[h1,h2,if_pos (by omega)]
   rw[h3];simp
theorem cut_58 (l:List UInt8):Lib.cut l [58]=(upto (eR 58) l,(dD (eR 58) l).drop 1,!(dD (eR 58) l).isEmpty):=by
 unfold Lib.cut;rcases uW l 58 with ⟨h1,h2⟩ | ⟨a,r,h1,h2,h3⟩
 · obtain⟨e1,e2⟩:=bC3 (eR 58) l h2
   rw[h1,e1,e2];rfl
 · obtain⟨e1,e2⟩:=aB4 (eR 58) a 58 r h2 (by decide)
   rw[h3,if_pos (by omega),h1,e1,e2];simp
theorem byte_cut (c:UInt8)(l:List UInt8):(Lib.indexByte l c = -1/\upto (eR c) l=l/\dD (eR c) l=[])\/∃ k:Nat,k<l.length/\Lib.indexByte l c=k/\upto (eR c) l=l.take k/\dD (eR c) l=l.drop k:=by
 induction l with
 | nil=>exact .inl ⟨rfl,rfl,rfl⟩
 | cons b l ih =>
   unfold Lib.indexByte
   cases hb:(b==c)
   · obtain⟨e1,e2⟩:=uC (p:=eR c) l (c:=b) hb
     rw[e1,e2];simp only[Bool.false_eq_true,if_false];rcases ih with ⟨h1,h2,h3⟩ | ⟨k,h0,h1,h2,h3⟩
     · refine .inl ⟨?_,by rw[h2],h3⟩
       rw[h1];rfl
     · refine .inr ⟨k+1,by simp;omega,?_,by rw[h2];rfl,by rw[h3];rfl⟩
       rw[h1,if_neg (by simp)];simp
   · obtain⟨e1,e2⟩:=aW7 (p:=eR c) l (c:=b) hb
     exact .inr ⟨0,by simp,by simp,by rw[e1];rfl,by rw[e2];rfl⟩
theorem aF7 {B:Nat}{w:World}(n:Nat):Below B w (w.drewN n):=cL (zB B w) n
theorem nY (L S A R:ByteArray)(r:Bool)(h:Lib.cut L.data.toList S.data.toList=(A.data.toList,R.data.toList,r))(hL:L.size<=1000000):Hid (∀ W,aQ W->Calls Tryz.prog 179 #[.string L,.string S] W fun e w'=>e=.returned (.tuple #[.string A,.string R,.bool r])/\Below W.heap.size W w'):=zH fun W hm=>by
 obtain⟨m,hm⟩:=hm;have C:=Tryz.strings_Cut L S m W (by omega) hm;rw[h]at C;simp only[]at C;rw[<- aM (T:=A) rfl,<- aM (T:=R) rfl]at C;exact C.mono fun e w' ⟨h1,n,h2⟩=>⟨h1,by rw[h2];exact aF7 n⟩
theorem vH (L:ByteArray)(hs:kN L.data.toList=none)(hL:L.size<=1000000)(B:Nat)(w:World)(hlow:eW B w)(k:Int)(t s h:ByteArray)(b:Bool)(p:Int)(pa:ByteArray)(a:CX w B k t s h b p pa L) :
 Calls Tryz.prog 177 #[.pointer (some ⟨B,0,none⟩)] w fun e w'=>e=.returned (.bool true)/\CX w' B k t s h b p pa L/\Below B w w':=by
 have hlt:=a.lt;have hc:=xO L.data.toList;rw[hs]at hc;have C:=nY L ⟨#[58,47,47]⟩ L ⟨#[]⟩ false hc hL;have c7:=a.c7;clear hs hc
 go_enter Tryz.func177,Tryz.ntmps177
 go_wp2_with fail
 refine(C.out _ hlow.1.2).mono ?_;rintro e w1 ⟨rfl,b1⟩;have a1:=a.below b1
 go_wp2
 go_ret
 exact⟨rfl,a1,b1.mono (zT hlt)⟩
theorem vG (L S R:ByteArray)(sc:List UInt8)(hs:kN L.data.toList=some (sc,R.data.toList))(h0:sc≠[])(hS:S.data.toList=bB sc)(hL:L.size<=1000000)(B:Nat)(w:World)(hlow:eW B w)(k:Int)(t s h:ByteArray)(b:Bool)(p:Int)(pa:ByteArray)(a:CX w B k t s h b p pa L) :
 Calls Tryz.prog 177 #[.pointer (some ⟨B,0,none⟩)] w fun e w'=>e=.returned (.bool true)/\CX w' B k t S h b p pa R/\Below B w w':=by
 have hlt:=a.lt;have hc:=xO L.data.toList;rw[hs]at hc;obtain⟨A,hA⟩:=aO sc
 have hAs:A.size<=L.size:=by
  rcases oX L.data.toList with ⟨h1,_⟩ | ⟨x,r,h1,_,h3⟩
  · rw[hs]at h1;cases h1
  · rw[hs]at h1
    injection h1 with h1
    rw[Prod.mk.injEq]at h1;rw[<- aE A,<- aE L,hA,h3,h1.1,List.length_append];omega
 have C:=nY L ⟨#[58,47,47]⟩ A R true (by rw[hA];exact hc) hL;have CL:=dM A S (by rw[hS,hA]) (by omega);have g:A.toList.isEmpty=false:=by rw[aF,hA];simpa using h0
 have c7:=a.c7;clear hs hc hA h0 hS
 go_enter Tryz.func177,Tryz.ntmps177
 go_wp2_with fail
 refine(C.out _ hlow.1.2).mono ?_;rintro e w1 ⟨rfl,b1⟩;have a1:=a.below b1;clear c7 a
 go_wp2_with fail
 refine(CL.out _).mono ?_;rintro e w2 ⟨rfl,b2⟩;have a2:=a1.below b2;have c2:=a2.c2;have f2:=a2.free 2;have a3:=a2.set2 S;have c7:=a3.c7;have f7:=a3.free 7;have a4:=a3.set7 R;have B4:Below B w ((w2.setCell ⟨B,2,none⟩ (.string S)).setCell ⟨B,7,none⟩ (.string R)):=(((b1.trans (b2.mono b1.size)).mono (zT hlt)).setCell (zL _) _).setCell (zL _) _;clear a1 a2 a3 b1 b2
 go_wp2
 go_ret
 exact⟨rfl,a4,B4⟩
theorem cutS_bad (L R:ByteArray)(hs:kN L.data.toList=some ([],R.data.toList))(hL:L.size<=1000000)(B:Nat)(w:World)(hlow:eW B w)(k:Int)(t s h:ByteArray)(b:Bool)(p:Int)(pa:ByteArray)(a:CX w B k t s h b p pa L) :
 Calls Tryz.prog 177 #[.pointer (some ⟨B,0,none⟩)] w fun e w'=>e=.returned (.bool false)/\Below B w w':=by
 have hlt:=a.lt;have hc:=xO L.data.toList;rw[hs]at hc;have C:=nY L ⟨#[58,47,47]⟩ ⟨#[]⟩ R true hc hL;have CL:=dM ⟨#[]⟩ ⟨#[]⟩ rfl (by decide);have c7:=a.c7;clear hs hc
 go_enter Tryz.func177,Tryz.ntmps177
 go_wp2_with fail
 refine(C.out _ hlow.1.2).mono ?_;rintro e w1 ⟨rfl,b1⟩;have a1:=a.below b1;clear c7 a
 go_wp2_with fail
 refine(CL.out _).mono ?_;rintro e w2 ⟨rfl,b2⟩;have a2:=a1.below b2;have c2:=a2.c2;have f2:=a2.free 2;have a3:=a2.set2 ⟨#[]⟩;have c7:=a3.c7;have f7:=a3.free 7;have B4:Below B w ((w2.setCell ⟨B,2,none⟩ (.string ⟨#[]⟩)).setCell ⟨B,7,none⟩ (.string R)):=(((b1.trans (b2.mono b1.size)).mono (zT hlt)).setCell (zL _) _).setCell (zL _) _;clear a1 a2 a3 b1 b2
 go_wp2
 go_ret
 exact⟨rfl,B4⟩
def aG4 (B:Nat)(L S R:ByteArray):Prop:=∀ W,eW B W->CX W B 12 ⟨#[]⟩ ⟨#[]⟩ ⟨#[]⟩ false 0 ⟨#[]⟩ L->Calls Tryz.prog 177 #[.pointer (some ⟨B,0,none⟩)] W fun e w'=>e=.returned (.bool true)/\CX w' B 12 ⟨#[]⟩ S ⟨#[]⟩ false 0 ⟨#[]⟩ R/\Below B W w'
theorem bC1 (L S R U PA NM N PT:ByteArray) (told:Bool) (B:Nat) (HC:Hid (aG4 B L S R)) (E:Nat) (n:Int) (CI:Hid (∀ W,Calls Tryz.prog 178 #[.string R,.string ⟨#[47]⟩] W fun e w'=>e=.returned (.int .i64 n)/\w'=W)) (hn:(n = -1/\E=R.size)\/(n=(E:Int))) (hE:E<=R.size)
 (s1:∀ W,(Instr.slice 9 (.string R) none (some (.int .i64 (E:Int))) none).run Tryz.prog W=.ok (.string U) W) (s2:∀ W,(Instr.slice 9 (.string R) (some (.int .i64 (E:Int))) none none).run Tryz.prog W=.ok (.string PA) W)
 (CC:Hid (∀ W,aQ W->Calls Tryz.prog 179 #[.string U,.string ⟨#[58]⟩] W fun e w'=>e=.returned (.tuple #[.string NM,.string PT,.bool told])/\Below W.heap.size W w')) (CL:Hid (∀ W,Calls Tryz.prog 48 #[.string NM] W fun e w'=>e=.returned (.string N)/\Below W.heap.size W w')) (HH:Hid (∀ W,CX W B 12 ⟨#[]⟩ S ⟨#[]⟩ false 0 PA R->Calls Tryz.prog 180 #[.pointer (some ⟨B,0,none⟩),.string N] W fun e w'=>e=.returned (.bool false)/\Below B W w')) (w:World) (hlow:eW B w) (a:CX w B 12 ⟨#[]⟩ ⟨#[]⟩ ⟨#[]⟩ false 0 ⟨#[]⟩ L) :
 Calls Tryz.prog 127 #[.pointer (some ⟨B,0,none⟩)] w fun e w'=>e=.returned (.bool false)/\Below B w w':=by
 rcases hn with ⟨rfl,rfl⟩ | rfl
 · show _
   go_enter Tryz.func127,Tryz.ntmps127
   go_wp2_with fail
   refine(HC.out _ hlow a).mono ?_;rintro e w1 ⟨rfl,a1,B1⟩;have l1:=hlow.on B1;have c7:=a1.c7;clear a
   go_wp2_with fail
   refine(CI.out _).mono ?_;rintro e w1 ⟨rfl,rfl⟩
   go_wp2_with fail
   refine(CC.out _ l1.1.2).mono ?_;rintro e w2 ⟨rfl,b2⟩;have a2:=a1.below b2;have B2:=B1.trans (b2.mono (zT a1.lt));have hB1:=a1.lt;clear c7 a1 B1;have l2:=l1.on (b2.mono (zT hB1));clear b2 l1;have c7:=a2.c7;have c6:=a2.c6;have f6:=a2.free 6;have a3:=a2.set6 PA;have B3:=B2.setCell (p:=⟨B,6,none⟩) (zL _) (.string PA);have l3:=l2.on ((zB B w2).setCell (p:=⟨B,6,none⟩) (zL _) (.string PA))
   go_wp2_with fail
   clear c7 c6 f6 a2 B2 l2;generalize w2.setCell ⟨B,6,none⟩ (.string PA)=w3 at a3 B3 l3 ⊢;refine(CL.out _).mono ?_;rintro e w4 ⟨rfl,b4⟩;have a4:=a3.below b4;have B4:=B3.trans (b4.mono (zT a3.lt));have l4:=l3.on (b4.mono (zT a3.lt));clear a3 B3 l3 b4
   go_wp2_with fail
   refine(HH.out _ a4).mono ?_;rintro e w5 ⟨rfl,B5⟩
   go_wp2
   go_ret
   exact⟨rfl,B4.trans B5⟩
 · have hz:¬ (E:Int)<0:=by omega
   go_enter Tryz.func127,Tryz.ntmps127
   go_wp2_with fail
   refine(HC.out _ hlow a).mono ?_;rintro e w1 ⟨rfl,a1,B1⟩;have l1:=hlow.on B1;have c7:=a1.c7;clear a
   go_wp2_with fail
   refine(CI.out _).mono ?_;rintro e w1 ⟨rfl,rfl⟩
   go_wp2_with fail
   refine(CC.out _ l1.1.2).mono ?_;rintro e w2 ⟨rfl,b2⟩;have a2:=a1.below b2;have B2:=B1.trans (b2.mono (zT a1.lt));have hB1:=a1.lt;clear c7 a1 B1;have l2:=l1.on (b2.mono (zT hB1));clear b2 l1;have c7:=a2.c7;have c6:=a2.c6;have f6:=a2.free 6;have a3:=a2.set6 PA;have B3:=B2.setCell (p:=⟨B,6,none⟩) (zL _) (.string PA);have l3:=l2.on ((zB B w2).setCell (p:=⟨B,6,none⟩) (zL _) (.string PA))
   go_wp2_with fail
   clear c7 c6 f6 a2 B2 l2;generalize w2.setCell ⟨B,6,none⟩ (.string PA)=w3 at a3 B3 l3 ⊢;refine(CL.out _).mono ?_;rintro e w4 ⟨rfl,b4⟩;have a4:=a3.below b4;have B4:=B3.trans (b4.mono (zT a3.lt));have l4:=l3.on (b4.mono (zT a3.lt));clear a3 B3 l3 b4
   go_wp2_with fail
   refine(HH.out _ a4).mono ?_;rintro e w5 ⟨rfl,B5⟩
   go_wp2
   go_ret
   exact⟨rfl,B4.trans B5⟩
theorem wX (L S R U PA NM N PT:ByteArray) (B:Nat) (HC:Hid (aG4 B L S R)) (E:Nat) (n:Int) (CI:Hid (∀ W,Calls Tryz.prog 178 #[.string R,.string ⟨#[47]⟩] W fun e w'=>e=.returned (.int .i64 n)/\w'=W)) (hn:(n = -1/\E=R.size)\/(n=(E:Int))) (hE:E<=R.size)
 (s1:∀ W,(Instr.slice 9 (.string R) none (some (.int .i64 (E:Int))) none).run Tryz.prog W=.ok (.string U) W) (s2:∀ W,(Instr.slice 9 (.string R) (some (.int .i64 (E:Int))) none none).run Tryz.prog W=.ok (.string PA) W)
 (CC:Hid (∀ W,aQ W->Calls Tryz.prog 179 #[.string U,.string ⟨#[58]⟩] W fun e w'=>e=.returned (.tuple #[.string NM,.string PT,.bool false])/\Below W.heap.size W w')) (CL:Hid (∀ W,Calls Tryz.prog 48 #[.string NM] W fun e w'=>e=.returned (.string N)/\Below W.heap.size W w')) (H:ByteArray) (wd:Bool) (HH:Hid (∀ W,CX W B 12 ⟨#[]⟩ S ⟨#[]⟩ false 0 PA R->Calls Tryz.prog 180 #[.pointer (some ⟨B,0,none⟩),.string N] W fun e w'=>e=.returned (.bool true)/\CX w' B 12 ⟨#[]⟩ S H wd 0 PA R/\Below B W w')) (w:World) (hlow:eW B w) (a:CX w B 12 ⟨#[]⟩ ⟨#[]⟩ ⟨#[]⟩ false 0 ⟨#[]⟩ L) :
 Calls Tryz.prog 127 #[.pointer (some ⟨B,0,none⟩)] w fun e w'=>e=.returned (.bool true)/\CX w' B 12 ⟨#[]⟩ S H wd 0 PA R/\Below B w w':=by
 rcases hn with ⟨rfl,rfl⟩ | rfl
 · show _
   go_enter Tryz.func127,Tryz.ntmps127
   go_wp2_with fail
   refine(HC.out _ hlow a).mono ?_;rintro e w1 ⟨rfl,a1,B1⟩;have l1:=hlow.on B1;have c7:=a1.c7;clear a
   go_wp2_with fail
   refine(CI.out _).mono ?_;rintro e w1 ⟨rfl,rfl⟩
   go_wp2_with fail
   refine(CC.out _ l1.1.2).mono ?_;rintro e w2 ⟨rfl,b2⟩;have a2:=a1.below b2;have B2:=B1.trans (b2.mono (zT a1.lt));have hB1:=a1.lt;clear c7 a1 B1;have l2:=l1.on (b2.mono (zT hB1));clear b2 l1;have c7:=a2.c7;have c6:=a2.c6;have f6:=a2.free 6;have a3:=a2.set6 PA;have B3:=B2.setCell (p:=⟨B,6,none⟩) (zL _) (.string PA);have l3:=l2.on ((zB B w2).setCell (p:=⟨B,6,none⟩) (zL _) (.string PA))
   go_wp2_with fail
   clear c7 c6 f6 a2 B2 l2;generalize w2.setCell ⟨B,6,none⟩ (.string PA)=w3 at a3 B3 l3 ⊢;refine(CL.out _).mono ?_;rintro e w4 ⟨rfl,b4⟩;have a4:=a3.below b4;have B4:=B3.trans (b4.mono (zT a3.lt));have l4:=l3.on (b4.mono (zT a3.lt));clear a3 B3 l3 b4
   go_wp2_with fail
   refine(HH.out _ a4).mono ?_;rintro e w5 ⟨rfl,a5,B5⟩;have l5:=l4.on B5;have B6:=B4.trans B5;clear a4 B4 l4 B5
   go_wp2
   go_ret
   exact⟨rfl,a5,B6⟩
 · have hz:¬ (E:Int)<0:=by omega
   go_enter Tryz.func127,Tryz.ntmps127
   go_wp2_with fail
   refine(HC.out _ hlow a).mono ?_;rintro e w1 ⟨rfl,a1,B1⟩;have l1:=hlow.on B1;have c7:=a1.c7;clear a
   go_wp2_with fail
   refine(CI.out _).mono ?_;rintro e w1 ⟨rfl,rfl⟩
   go_wp2_with fail
   refine(CC.out _ l1.1.2).mono ?_;rintro e w2 ⟨rfl,b2⟩;have a2:=a1.below b2;have B2:=B1.trans (b2.mono (zT a1.lt));have hB1:=a1.lt;clear c7 a1 B1;have l2:=l1.on (b2.mono (zT hB1));clear b2 l1;have c7:=a2.c7;have c6:=a2.c6;have f6:=a2.free 6;have a3:=a2.set6 PA;have B3:=B2.setCell (p:=⟨B,6,none⟩) (zL _) (.string PA);have l3:=l2.on ((zB B w2).setCell (p:=⟨B,6,none⟩) (zL _) (.string PA))
   go_wp2_with fail
   clear c7 c6 f6 a2 B2 l2;generalize w2.setCell ⟨B,6,none⟩ (.string PA)=w3 at a3 B3 l3 ⊢;refine(CL.out _).mono ?_;rintro e w4 ⟨rfl,b4⟩;have a4:=a3.below b4;have B4:=B3.trans (b4.mono (zT a3.lt));have l4:=l3.on (b4.mono (zT a3.lt));clear a3 B3 l3 b4
   go_wp2_with fail
   refine(HH.out _ a4).mono ?_;rintro e w5 ⟨rfl,a5,B5⟩;have l5:=l4.on B5;have B6:=B4.trans B5;clear a4 B4 l4 B5
   go_wp2
   go_ret
   exact⟨rfl,a5,B6⟩
theorem aN3 (L S R U PA NM N PT:ByteArray) (B:Nat) (HC:Hid (aG4 B L S R)) (E:Nat) (n:Int) (CI:Hid (∀ W,Calls Tryz.prog 178 #[.string R,.string ⟨#[47]⟩] W fun e w'=>e=.returned (.int .i64 n)/\w'=W)) (hn:(n = -1/\E=R.size)\/(n=(E:Int))) (hE:E<=R.size)
 (s1:∀ W,(Instr.slice 9 (.string R) none (some (.int .i64 (E:Int))) none).run Tryz.prog W=.ok (.string U) W) (s2:∀ W,(Instr.slice 9 (.string R) (some (.int .i64 (E:Int))) none none).run Tryz.prog W=.ok (.string PA) W)
 (CC:Hid (∀ W,aQ W->Calls Tryz.prog 179 #[.string U,.string ⟨#[58]⟩] W fun e w'=>e=.returned (.tuple #[.string NM,.string PT,.bool true])/\Below W.heap.size W w')) (CL:Hid (∀ W,Calls Tryz.prog 48 #[.string NM] W fun e w'=>e=.returned (.string N)/\Below W.heap.size W w')) (H:ByteArray) (wd:Bool) (HH:Hid (∀ W,CX W B 12 ⟨#[]⟩ S ⟨#[]⟩ false 0 PA R->Calls Tryz.prog 180 #[.pointer (some ⟨B,0,none⟩),.string N] W fun e w'=>e=.returned (.bool true)/\CX w' B 12 ⟨#[]⟩ S H wd 0 PA R/\Below B W w')) (q:Int) (HP:Hid (∀ W,CX W B 12 ⟨#[]⟩ S H wd 0 PA R->Calls Tryz.prog 181 #[.pointer (some ⟨B,0,none⟩),.string PT] W fun e w'=>e=.returned (.bool true)/\CX w' B 12 ⟨#[]⟩ S H wd q PA R/\Below B W w')) (w:World) (hlow:eW B w) (a:CX w B 12 ⟨#[]⟩ ⟨#[]⟩ ⟨#[]⟩ false 0 ⟨#[]⟩ L) :
 Calls Tryz.prog 127 #[.pointer (some ⟨B,0,none⟩)] w fun e w'=>e=.returned (.bool true)/\CX w' B 12 ⟨#[]⟩ S H wd q PA R/\Below B w w':=by
 rcases hn with ⟨rfl,rfl⟩ | rfl
 · show _
   go_enter Tryz.func127,Tryz.ntmps127
   go_wp2_with fail
   refine(HC.out _ hlow a).mono ?_;rintro e w1 ⟨rfl,a1,B1⟩;have l1:=hlow.on B1;have c7:=a1.c7;clear a
   go_wp2_with fail
   refine(CI.out _).mono ?_;rintro e w1 ⟨rfl,rfl⟩
   go_wp2_with fail
   refine(CC.out _ l1.1.2).mono ?_;rintro e w2 ⟨rfl,b2⟩;have a2:=a1.below b2;have B2:=B1.trans (b2.mono (zT a1.lt));have hB1:=a1.lt;clear c7 a1 B1;have l2:=l1.on (b2.mono (zT hB1));clear b2 l1;have c7:=a2.c7;have c6:=a2.c6;have f6:=a2.free 6;have a3:=a2.set6 PA;have B3:=B2.setCell (p:=⟨B,6,none⟩) (zL _) (.string PA);have l3:=l2.on ((zB B w2).setCell (p:=⟨B,6,none⟩) (zL _) (.string PA))
   go_wp2_with fail
   clear c7 c6 f6 a2 B2 l2;generalize w2.setCell ⟨B,6,none⟩ (.string PA)=w3 at a3 B3 l3 ⊢;refine(CL.out _).mono ?_;rintro e w4 ⟨rfl,b4⟩;have a4:=a3.below b4;have B4:=B3.trans (b4.mono (zT a3.lt));have l4:=l3.on (b4.mono (zT a3.lt));clear a3 B3 l3 b4
   go_wp2_with fail
   refine(HH.out _ a4).mono ?_;rintro e w5 ⟨rfl,a5,B5⟩;have l5:=l4.on B5;have B6:=B4.trans B5;clear a4 B4 l4 B5
   go_wp2_with fail
   refine(HP.out _ a5).mono ?_;rintro e w6 ⟨rfl,a6,B7⟩
   go_wp2
   go_ret
   exact⟨rfl,a6,B6.trans B7⟩
 · have hz:¬ (E:Int)<0:=by omega
   go_enter Tryz.func127,Tryz.ntmps127
   go_wp2_with fail
   refine(HC.out _ hlow a).mono ?_;rintro e w1 ⟨rfl,a1,B1⟩;have l1:=hlow.on B1;have c7:=a1.c7;clear a
   go_wp2_with fail
   refine(CI.out _).mono ?_;rintro e w1 ⟨rfl,rfl⟩
   go_wp2_with fail
   refine(CC.out _ l1.1.2).mono ?_;rintro e w2 ⟨rfl,b2⟩;have a2:=a1.below b2;have B2:=B1.trans (b2.mono (zT a1.lt));have hB1:=a1.lt;clear c7 a1 B1;have l2:=l1.on (b2.mono (zT hB1));clear b2 l1;have c7:=a2.c7;have c6:=a2.c6;have f6:=a2.free 6;have a3:=a2.set6 PA;have B3:=B2.setCell (p:=⟨B,6,none⟩) (zL _) (.string PA);have l3:=l2.on ((zB B w2).setCell (p:=⟨B,6,none⟩) (zL _) (.string PA))
   go_wp2_with fail
   clear c7 c6 f6 a2 B2 l2;generalize w2.setCell ⟨B,6,none⟩ (.string PA)=w3 at a3 B3 l3 ⊢;refine(CL.out _).mono ?_;rintro e w4 ⟨rfl,b4⟩;have a4:=a3.below b4;have B4:=B3.trans (b4.mono (zT a3.lt));have l4:=l3.on (b4.mono (zT a3.lt));clear a3 B3 l3 b4
   go_wp2_with fail
   refine(HH.out _ a4).mono ?_;rintro e w5 ⟨rfl,a5,B5⟩;have l5:=l4.on B5;have B6:=B4.trans B5;clear a4 B4 l4 B5
   go_wp2_with fail
   refine(HP.out _ a5).mono ?_;rintro e w6 ⟨rfl,a6,B7⟩
   go_wp2
   go_ret
   exact⟨rfl,a6,B6.trans B7⟩
theorem bC0 (L S R U PA NM N PT:ByteArray) (B:Nat) (HC:Hid (aG4 B L S R)) (E:Nat) (n:Int) (CI:Hid (∀ W,Calls Tryz.prog 178 #[.string R,.string ⟨#[47]⟩] W fun e w'=>e=.returned (.int .i64 n)/\w'=W)) (hn:(n = -1/\E=R.size)\/(n=(E:Int))) (hE:E<=R.size)
 (s1:∀ W,(Instr.slice 9 (.string R) none (some (.int .i64 (E:Int))) none).run Tryz.prog W=.ok (.string U) W) (s2:∀ W,(Instr.slice 9 (.string R) (some (.int .i64 (E:Int))) none none).run Tryz.prog W=.ok (.string PA) W)
 (CC:Hid (∀ W,aQ W->Calls Tryz.prog 179 #[.string U,.string ⟨#[58]⟩] W fun e w'=>e=.returned (.tuple #[.string NM,.string PT,.bool true])/\Below W.heap.size W w')) (CL:Hid (∀ W,Calls Tryz.prog 48 #[.string NM] W fun e w'=>e=.returned (.string N)/\Below W.heap.size W w')) (H:ByteArray) (wd:Bool) (HH:Hid (∀ W,CX W B 12 ⟨#[]⟩ S ⟨#[]⟩ false 0 PA R->Calls Tryz.prog 180 #[.pointer (some ⟨B,0,none⟩),.string N] W fun e w'=>e=.returned (.bool true)/\CX w' B 12 ⟨#[]⟩ S H wd 0 PA R/\Below B W w')) (HP:Hid (∀ W,eW B W->CX W B 12 ⟨#[]⟩ S H wd 0 PA R->Calls Tryz.prog 181 #[.pointer (some ⟨B,0,none⟩),.string PT] W fun e w'=>e=.returned (.bool false)/\Below B W w')) (w:World) (hlow:eW B w) (a:CX w B 12 ⟨#[]⟩ ⟨#[]⟩ ⟨#[]⟩ false 0 ⟨#[]⟩ L) :
 Calls Tryz.prog 127 #[.pointer (some ⟨B,0,none⟩)] w fun e w'=>e=.returned (.bool false)/\Below B w w':=by
 rcases hn with ⟨rfl,rfl⟩ | rfl
 · show _
   go_enter Tryz.func127,Tryz.ntmps127
   go_wp2_with fail
   refine(HC.out _ hlow a).mono ?_;rintro e w1 ⟨rfl,a1,B1⟩;have l1:=hlow.on B1;have c7:=a1.c7;clear a
   go_wp2_with fail
   refine(CI.out _).mono ?_;rintro e w1 ⟨rfl,rfl⟩
   go_wp2_with fail
   refine(CC.out _ l1.1.2).mono ?_;rintro e w2 ⟨rfl,b2⟩;have a2:=a1.below b2;have B2:=B1.trans (b2.mono (zT a1.lt));have hB1:=a1.lt;clear c7 a1 B1;have l2:=l1.on (b2.mono (zT hB1));clear b2 l1;have c7:=a2.c7;have c6:=a2.c6;have f6:=a2.free 6;have a3:=a2.set6 PA;have B3:=B2.setCell (p:=⟨B,6,none⟩) (zL _) (.string PA);have l3:=l2.on ((zB B w2).setCell (p:=⟨B,6,none⟩) (zL _) (.string PA))
   go_wp2_with fail
   clear c7 c6 f6 a2 B2 l2;generalize w2.setCell ⟨B,6,none⟩ (.string PA)=w3 at a3 B3 l3 ⊢;refine(CL.out _).mono ?_;rintro e w4 ⟨rfl,b4⟩;have a4:=a3.below b4;have B4:=B3.trans (b4.mono (zT a3.lt));have l4:=l3.on (b4.mono (zT a3.lt));clear a3 B3 l3 b4
   go_wp2_with fail
   refine(HH.out _ a4).mono ?_;rintro e w5 ⟨rfl,a5,B5⟩;have l5:=l4.on B5;have B6:=B4.trans B5;clear a4 B4 l4 B5
   go_wp2_with fail
   refine(HP.out _ l5 a5).mono ?_;rintro e w6 ⟨rfl,B7⟩
   go_wp2
   go_ret
   exact⟨rfl,B6.trans B7⟩
 · have hz:¬ (E:Int)<0:=by omega
   go_enter Tryz.func127,Tryz.ntmps127
   go_wp2_with fail
   refine(HC.out _ hlow a).mono ?_;rintro e w1 ⟨rfl,a1,B1⟩;have l1:=hlow.on B1;have c7:=a1.c7;clear a
   go_wp2_with fail
   refine(CI.out _).mono ?_;rintro e w1 ⟨rfl,rfl⟩
   go_wp2_with fail
   refine(CC.out _ l1.1.2).mono ?_;rintro e w2 ⟨rfl,b2⟩;have a2:=a1.below b2;have B2:=B1.trans (b2.mono (zT a1.lt));have hB1:=a1.lt;clear c7 a1 B1;have l2:=l1.on (b2.mono (zT hB1));clear b2 l1;have c7:=a2.c7;have c6:=a2.c6;have f6:=a2.free 6;have a3:=a2.set6 PA;have B3:=B2.setCell (p:=⟨B,6,none⟩) (zL _) (.string PA);have l3:=l2.on ((zB B w2).setCell (p:=⟨B,6,none⟩) (zL _) (.string PA))
   go_wp2_with fail
   clear c7 c6 f6 a2 B2 l2;generalize w2.setCell ⟨B,6,none⟩ (.string PA)=w3 at a3 B3 l3 ⊢;refine(CL.out _).mono ?_;rintro e w4 ⟨rfl,b4⟩;have a4:=a3.below b4;have B4:=B3.trans (b4.mono (zT a3.lt));have l4:=l3.on (b4.mono (zT a3.lt));clear a3 B3 l3 b4
   go_wp2_with fail
   refine(HH.out _ a4).mono ?_;rintro e w5 ⟨rfl,a5,B5⟩;have l5:=l4.on B5;have B6:=B4.trans B5;clear a4 B4 l4 B5
   go_wp2_with fail
   refine(HP.out _ l5 a5).mono ?_;rintro e w6 ⟨rfl,B7⟩
   go_wp2
   go_ret
   exact⟨rfl,B6.trans B7⟩
end Go.Proofs.YthnogdodlhkldaaGreatDoor
namespace Go.Proofs.YthnogdodlhkldaaGreatDoor
open Go.RowKit
theorem jW (B:Nat)(L S R:ByteArray)(HC:Hid (aG4 B L S R))(hR:R.size<=1000000) :
 (∀(H PA:ByteArray) (wd:Bool) (p:Int),fO S.data.toList R.data.toList=some ⟨12,[],S.data.toList,H.data.toList,wd,p,PA.data.toList⟩->∀ w,eW B w->CX w B 12 ⟨#[]⟩ ⟨#[]⟩ ⟨#[]⟩ false 0 ⟨#[]⟩ L ->
   Calls Tryz.prog 127 #[.pointer (some ⟨B,0,none⟩)] w fun e w'=>e=.returned (.bool true)/\CX w' B 12 ⟨#[]⟩ S H wd p PA R/\Below B w w') /\
 (fO S.data.toList R.data.toList=none->∀ w,eW B w->CX w B 12 ⟨#[]⟩ ⟨#[]⟩ ⟨#[]⟩ false 0 ⟨#[]⟩ L ->
   Calls Tryz.prog 127 #[.pointer (some ⟨B,0,none⟩)] w fun e w'=>e=.returned (.bool false)/\Below B w w'):=by
 obtain⟨U,hU⟩:=aO (upto (eR 47) R.data.toList);obtain⟨PA,hPA⟩:=aO (dD (eR 47) R.data.toList);have hlen:=eL (eR 47) R.data.toList;rw[<- hU,<- hPA,aE,aE,aE]at hlen;obtain⟨NM,hNM⟩:=aO (upto (eR 58) U.data.toList);obtain⟨PT,hPT⟩:=aO ((dD (eR 58) U.data.toList).drop 1);have hlen2:=eL (eR 58) U.data.toList;rw[<- hNM,aE,aE]at hlen2;obtain⟨N,hN⟩:=aO (bB NM.data.toList);obtain⟨told,htold⟩:∃ x,(!(dD (eR 58) U.data.toList).isEmpty)=x:=⟨_,rfl⟩;have CC:=nY U ⟨#[58]⟩ NM PT told (by rw[hNM,hPT,<- htold];exact cut_58 _) (by omega);have CL:=dM NM N hN (by omega);obtain⟨n,hI⟩:∃ n,Lib.indexByte R.data.toList 47=n:=⟨_,rfl⟩
 have CI:Hid (∀ W,Calls Tryz.prog 178 #[.string R,.string ⟨#[47]⟩] W fun e w'=>e=.returned (.int .i64 n)/\w'=W):=zH fun W=>by
  rw[<- hI];exact Tryz.strings_Index_one R 47 W
 obtain⟨E,hn,hE,s1,s2⟩:∃ E:Nat,((n = -1/\E=R.size)\/(n=(E:Int)))/\E<=R.size/\(∀ W,(Instr.slice 9 (.string R) none (some (.int .i64 (E:Int))) none).run Tryz.prog W=.ok (.string U) W)/\(∀ W,(Instr.slice 9 (.string R) (some (.int .i64 (E:Int))) none none).run Tryz.prog W=.ok (.string PA) W):=by
  rcases byte_cut 47 R.data.toList with ⟨h1,h2,h3⟩ | ⟨k,h0,h1,h2,h3⟩
  · refine⟨R.size,.inl ⟨by rw[<- hI,h1],rfl⟩,zL _,iA R U R.size (zL _) ?_,fD R PA R.size (zL _) ?_⟩
    · rw[hU,h2,cQ]
    · rw[hPA,h3,<- aE,List.drop_length]
  · rw[aE]at h0
    refine⟨k,.inr (by rw[<- hI,h1]),by omega,iA R U k (by omega) ?_,fD R PA k (by omega) ?_⟩
    · rw[hU,h2]
    · rw[hPA,h3]
 have hO:fO S.data.toList R.data.toList=match jF N.data.toList with
  | none=>none
  | some (h,wd)=>mZ S.data.toList h wd PA.data.toList (dD (eR 58) U.data.toList):=by
  unfold fO;rw[<- hU,<- hPA,<- hNM,<- hN]
  cases jF N.data.toList<;>rfl
 have hUR:U.size<=R.size:=by omega
 clear hU hPA hlen hNM hlen2 hN hI
 cases hname:jF N.data.toList with
 | none =>
   rw[hname]at hO;refine⟨fun H PA2 wd p h => ?_,fun _ w hl a => ?_⟩
   · rw[hO]at h;cases h
   · exact bC1 L S R U PA NM N PT told B HC E n CI hn hE s1 s2 CC CL (zH fun W a=>takeH_no N hname B W 12 ⟨#[]⟩ S 0 PA R a) w hl a
 | some x =>
   obtain⟨hl,wd⟩:=x;obtain⟨H,hH⟩:=aO hl;rw[hname]at hO;simp only[]at hO;rw[<- hH]at hO hname;have HH:=fun q:Int=>zH fun W a=>aX4 N H wd hname B W 12 ⟨#[]⟩ S q PA R a
   cases hpt:dD (eR 58) U.data.toList with
   | nil =>
     obtain rfl:told=false:=by rw[<- htold,hpt];rfl
     rw[hpt]at hO;refine⟨fun H2 PA2 wd2 p h w hl a => ?_,fun h => ?_⟩
     · rw[hO]at h
       have h2:=Option.some.inj h;unfold mZ at h2;rw[bI.mk.injEq]at h2;obtain⟨_,_,_,e1,e2,e3,e4⟩:=h2;obtain rfl:H2=H:=(aM e1.symm).trans (aM rfl).symm;obtain rfl:PA2=PA:=(aM e4.symm).trans (aM rfl).symm;subst e2;subst e3;exact wX L S R U PA2 NM N PT B HC E n CI hn hE s1 s2 CC CL H2 wd (HH 0) w hl a
     · rw[hO]at h;cases h
   | cons c ds =>
     obtain rfl:told=true:=by rw[<- htold,hpt];rfl
     rw[hpt]at hO hPT;have hPT2:PT.data.toList=ds:=hPT
     cases hq:kK ds with
     | none =>
       unfold mZ at hO;simp only[hq,Option.map_none]at hO;refine⟨fun H2 PA2 wd2 p h => ?_,fun _ w hl a => ?_⟩
       · rw[hO]at h;cases h
       · have hPTs:PT.size<=1000000:=by
          have e1:=eL (eR 58) U.data.toList;rw[hpt,aE]at e1;rw[<- aE,hPT2];simp only[List.length_cons]at e1;have e3:U.size<=R.size:=hUR;omega
         exact bC0 L S R U PA NM N PT B HC E n CI hn hE s1 s2 CC CL H wd (HH 0) (zH fun W hw a=>takeP_no PT (by rw[hPT2];exact hq) hPTs B W hw 12 ⟨#[]⟩ S H wd 0 PA R a) w hl a
     | some q =>
       unfold mZ at hO;simp only[hq,Option.map_some]at hO;refine⟨fun H2 PA2 wd2 p h w hl a => ?_,fun h => ?_⟩
       · rw[hO]at h
         have h2:=Option.some.inj h;rw[bI.mk.injEq]at h2;obtain⟨_,_,_,e1,e2,e3,e4⟩:=h2;obtain rfl:H2=H:=(aM e1.symm).trans (aM rfl).symm;obtain rfl:PA2=PA:=(aM e4.symm).trans (aM rfl).symm;subst e2;subst e3;exact aN3 L S R U PA2 NM N PT B HC E n CI hn hE s1 s2 CC CL H2 wd (HH 0) q (zH fun W a=>aX2 PT q (by rw[hPT2];exact hq) B W 12 ⟨#[]⟩ S H2 wd 0 PA2 R a) w hl a
       · rw[hO]at h;cases h
def gH (l:List UInt8):Option bI:=match kN l with
 | some (sc,r)=>if sc=[] then none else fO (bB sc) r
 | none=>fO [] l
theorem eC {sc l:List UInt8}{a:bI}(h:fO sc l=some a):a.k=12/\a.t=[]/\a.s=sc:=by
 unfold fO at h;split at h
 · cases h
 · unfold mZ at h
   split at h
   · injection h with h
     subst h;exact⟨rfl,rfl,rfl⟩
   · rw[Option.map_eq_some_iff]at h
     obtain⟨_,_,h⟩:=h;subst h;exact⟨rfl,rfl,rfl⟩
theorem vV {l sc r:List UInt8}(h:kN l=some (sc,r)):sc.length+r.length<=l.length:=by
 rcases oX l with ⟨h1,_⟩ | ⟨x,y,h1,_,h3⟩
 · rw[h]at h1;cases h1
 · rw[h]at h1
   injection h1 with h1
   rw[Prod.mk.injEq]at h1;rw[h3,h1.1,h1.2];simp;omega
theorem aN8 (L R:ByteArray)(hs:kN L.data.toList=some ([],R.data.toList))(hL:L.size<=1000000)(B:Nat)(w:World)(hlow:eW B w)(a:CX w B 12 ⟨#[]⟩ ⟨#[]⟩ ⟨#[]⟩ false 0 ⟨#[]⟩ L) :
 Calls Tryz.prog 127 #[.pointer (some ⟨B,0,none⟩)] w fun e w'=>e=.returned (.bool false)/\Below B w w':=by
 have HC:=zH (cutS_bad L R hs hL B w hlow _ _ _ _ _ _ _ a);clear hs
 go_enter Tryz.func127,Tryz.ntmps127
 go_wp2_with fail
 refine HC.out.mono ?_;rintro e w1 ⟨rfl,B1⟩
 go_wp2
 go_ret
 exact⟨rfl,B1⟩
theorem aN7 (L S H PA:ByteArray)(wd:Bool)(p:Int)(h:gH L.data.toList=some ⟨12,[],S.data.toList,H.data.toList,wd,p,PA.data.toList⟩)(hL:L.size<=1000000)(B:Nat):Hid (∀ w,eW B w->CX w B 12 ⟨#[]⟩ ⟨#[]⟩ ⟨#[]⟩ false 0 ⟨#[]⟩ L ->
 Calls Tryz.prog 127 #[.pointer (some ⟨B,0,none⟩)] w fun e w'=>e=.returned (.bool true)/\(∃ l,CX w' B 12 ⟨#[]⟩ S H wd p PA l)/\Below B w w'):=zH fun w hl a=>by
 unfold gH at h
 cases hs:kN L.data.toList with
 | none =>
   rw[hs]at h;simp only[]at h;obtain rfl:S=⟨#[]⟩:=aM (eC h).2.2;exact((jW B L ⟨#[]⟩ L (zH fun W hw a=>vH L hs hL B W hw _ _ _ _ _ _ _ a) hL).1 H PA wd p h w hl a).mono fun e w' ⟨h1,h2,h3⟩=>⟨h1,⟨L,h2⟩,h3⟩
 | some x =>
   obtain⟨sc,r⟩:=x;rw[hs]at h;simp only[]at h
   by_cases h0:sc=[]
   · rw[if_pos h0]at h;cases h
   · rw[if_neg h0]at h
     have hS:S.data.toList=bB sc:=(eC h).2.2;obtain⟨R,hR⟩:=aO r;have hRs:R.size<=1000000:=by have:=vV hs;rw[<- hR,aE,aE]at this;omega
     rw[<- hR]at hs h;rw[<- hS]at h;exact((jW B L S R (zH fun W hw a=>vG L S R sc hs h0 hS hL B W hw _ _ _ _ _ _ _ a) hRs).1 H PA wd p h w hl a).mono fun e w' ⟨h1,h2,h3⟩=>⟨h1,⟨R,h2⟩,h3⟩
theorem bC2 (L:ByteArray)(h:gH L.data.toList=none)(hL:L.size<=1000000)(B:Nat):Hid (∀ w,eW B w->CX w B 12 ⟨#[]⟩ ⟨#[]⟩ ⟨#[]⟩ false 0 ⟨#[]⟩ L ->
 Calls Tryz.prog 127 #[.pointer (some ⟨B,0,none⟩)] w fun e w'=>e=.returned (.bool false)/\Below B w w'):=zH fun w hl a=>by
 unfold gH at h
 cases hs:kN L.data.toList with
 | none =>
   rw[hs]at h;simp only[]at h;exact(jW B L ⟨#[]⟩ L (zH fun W hw a=>vH L hs hL B W hw _ _ _ _ _ _ _ a) hL).2 h w hl a
 | some x =>
   obtain⟨sc,r⟩:=x;rw[hs]at h;simp only[]at h;obtain⟨R,hR⟩:=aO r;have hRs:R.size<=1000000:=by have:=vV hs;rw[<- hR,aE,aE]at this;omega
   rw[<- hR]at hs h
   by_cases h0:sc=[]
   · subst h0
     exact aN8 L R hs hL B w hl a
   · rw[if_neg h0]at h
     obtain⟨S,hS⟩:=aO (bB sc);rw[<- hS]at h;exact(jW B L S R (zH fun W hw a=>vG L S R sc hs h0 hS hL B W hw _ _ _ _ _ _ _ a) hRs).2 h w hl a
end Go.Proofs.YthnogdodlhkldaaGreatDoor
namespace Go.Proofs.YthnogdodlhkldaaGreatDoor
open Go.RowKit
def WX (w:World)(P:Nat)(x:ByteArray)(k:Int):Prop:=w.heap[P]? = some (.cells #[.string x,.int .i64 k] 184 (0,0))
theorem WX.below {w w':World}{P:Nat}{x:ByteArray}{k:Int}(a:WX w P x k)(hb:Below w.heap.size w w'):WX w' P x k:=by
 unfold WX at *;rw[hb.block P (aD a)];exact a
theorem WX.made (w:World)(x:ByteArray)(k:Int):WX (w.alloc (.cells #[.string x,.int .i64 k] 184)) w.heap.size x k:=aW w _
theorem WX.c0 {w:World}{P:Nat}{x:ByteArray}{k:Int}(a:WX w P x k):w.cell? ⟨P,0,none⟩=some (.string x):=by rw[aG a];rfl
theorem WX.c1 {w:World}{P:Nat}{x:ByteArray}{k:Int}(a:WX w P x k):w.cell? ⟨P,1,none⟩=some (.int .i64 k):=by rw[aG a];rfl
theorem bF2 {l:List UInt8}(h:∀ z:Int,1<=z->z<=8->bB l≠aN z):cI l=none:=by
 unfold cI;rw[List.find?_eq_none];intro z hz;have h2:=h z;simp only[List.mem_cons,List.not_mem_nil,or_false]at hz;rw[decide_eq_true_eq];exact h2 (by omega) (by omega)
theorem kept_at1 {l:List UInt8}(_h:∀ z:Int,1<=z->z<=0->bB l≠aN z)(e:bB l=aN 1):cI l=some 1:=by
 unfold cI;simp only[List.find?_cons];rw[decide_eq_true e]
theorem kept_at2 {l:List UInt8}(h:∀ z:Int,1<=z->z<=1->bB l≠aN z)(e:bB l=aN 2):cI l=some 2:=by
 unfold cI;simp only[List.find?_cons];rw[decide_eq_false (h 1 (by decide) (by decide))];simp only[];rw[decide_eq_true e]
theorem kept_at3 {l:List UInt8}(h:∀ z:Int,1<=z->z<=2->bB l≠aN z)(e:bB l=aN 3):cI l=some 3:=by
 unfold cI;simp only[List.find?_cons];rw[decide_eq_false (h 1 (by decide) (by decide))];simp only[];rw[decide_eq_false (h 2 (by decide) (by decide))];simp only[];rw[decide_eq_true e]
theorem kept_at4 {l:List UInt8}(h:∀ z:Int,1<=z->z<=3->bB l≠aN z)(e:bB l=aN 4):cI l=some 4:=by
 unfold cI;simp only[List.find?_cons];rw[decide_eq_false (h 1 (by decide) (by decide))];simp only[];rw[decide_eq_false (h 2 (by decide) (by decide))];simp only[];rw[decide_eq_false (h 3 (by decide) (by decide))];simp only[];rw[decide_eq_true e]
theorem kept_at5 {l:List UInt8}(h:∀ z:Int,1<=z->z<=4->bB l≠aN z)(e:bB l=aN 5):cI l=some 5:=by
 unfold cI;simp only[List.find?_cons];rw[decide_eq_false (h 1 (by decide) (by decide))];simp only[];rw[decide_eq_false (h 2 (by decide) (by decide))];simp only[];rw[decide_eq_false (h 3 (by decide) (by decide))];simp only[];rw[decide_eq_false (h 4 (by decide) (by decide))];simp only[];rw[decide_eq_true e]
theorem kept_at6 {l:List UInt8}(h:∀ z:Int,1<=z->z<=5->bB l≠aN z)(e:bB l=aN 6):cI l=some 6:=by
 unfold cI;simp only[List.find?_cons];rw[decide_eq_false (h 1 (by decide) (by decide))];simp only[];rw[decide_eq_false (h 2 (by decide) (by decide))];simp only[];rw[decide_eq_false (h 3 (by decide) (by decide))];simp only[];rw[decide_eq_false (h 4 (by decide) (by decide))];simp only[];rw[decide_eq_false (h 5 (by decide) (by decide))];simp only[];rw[decide_eq_true e]
theorem kept_at7 {l:List UInt8}(h:∀ z:Int,1<=z->z<=6->bB l≠aN z)(e:bB l=aN 7):cI l=some 7:=by
 unfold cI;simp only[List.find?_cons];rw[decide_eq_false (h 1 (by decide) (by decide))];simp only[];rw[decide_eq_false (h 2 (by decide) (by decide))];simp only[];rw[decide_eq_false (h 3 (by decide) (by decide))];simp only[];rw[decide_eq_false (h 4 (by decide) (by decide))];simp only[];rw[decide_eq_false (h 5 (by decide) (by decide))];simp only[];rw[decide_eq_false (h 6 (by decide) (by decide))];simp only[];rw[decide_eq_true e]
theorem kept_at8 {l:List UInt8}(h:∀ z:Int,1<=z->z<=7->bB l≠aN z)(e:bB l=aN 8):cI l=some 8:=by
 unfold cI;simp only[List.find?_cons];rw[decide_eq_false (h 1 (by decide) (by decide))];simp only[];rw[decide_eq_false (h 2 (by decide) (by decide))];simp only[];rw[decide_eq_false (h 3 (by decide) (by decide))];simp only[];rw[decide_eq_false (h 4 (by decide) (by decide))];simp only[];rw[decide_eq_false (h 5 (by decide) (by decide))];simp only[];rw[decide_eq_false (h 6 (by decide) (by decide))];simp only[];rw[decide_eq_false (h 7 (by decide) (by decide))];simp only[];rw[decide_eq_true e]
theorem cutK_any (L:ByteArray)(hL:L.size<=1000000)(B:Nat)(w:World)(hlow:eW B w)(k:Int)(t s h:ByteArray)(b:Bool)(p:Int)(pa:ByteArray)(a:CX w B k t s h b p pa L) :
 Calls Tryz.prog 123 #[.pointer (some ⟨B,0,none⟩)] w fun e w'=>∃ r,e=.returned (.bool r)/\((∃ k',cI L.data.toList=some k'/\r=true/\CX w' B k' t s h b p pa L)\/(cI L.data.toList=none/\r=false/\CX w' B k t s h b p pa L))/\Below B w w':=by
 have hlt:=a.lt;have hk:=hlow.2.1.2;have HG:Hid (eW B w):=zH hlow;have c0:w.cell? ⟨0,0,none⟩=some (.string ⟨#[39,110,111,110,101,39]⟩):=hk 0 (by decide);have c1:w.cell? ⟨0,1,none⟩=some (.int .i64 1):=hk 1 (by decide);have c2:w.cell? ⟨0,2,none⟩=some (.string ⟨#[39,115,101,108,102,39]⟩):=hk 2 (by decide);have c3:w.cell? ⟨0,3,none⟩=some (.int .i64 2):=hk 3 (by decide);have c4:w.cell? ⟨0,4,none⟩=some (.string ⟨#[39,117,110,115,97,102,101,45,105,110,108,105,110,101,39]⟩):=hk 4 (by decide);have c5:w.cell? ⟨0,5,none⟩=some (.int .i64 3):=hk 5 (by decide);have c6:w.cell? ⟨0,6,none⟩=some (.string ⟨#[39,117,110,115,97,102,101,45,101,118,97,108,39]⟩):=hk 6 (by decide);have c7:w.cell? ⟨0,7,none⟩=some (.int .i64 4):=hk 7 (by decide);have c8:w.cell? ⟨0,8,none⟩=some (.string ⟨#[39,119,97,115,109,45,117,110,115,97,102,101,45,101,118,97,108,39]⟩):=hk 8 (by decide);have c9:w.cell? ⟨0,9,none⟩=some (.int .i64 5):=hk 9 (by decide);have c10:w.cell? ⟨0,10,none⟩=some (.string ⟨#[39,115,116,114,105,99,116,45,100,121,110,97,109,105,99,39]⟩):=hk 10 (by decide);have c11:w.cell? ⟨0,11,none⟩=some (.int .i64 6):=hk 11 (by decide);have c12:w.cell? ⟨0,12,none⟩=some (.string ⟨#[39,117,110,115,97,102,101,45,104,97,115,104,101,115,39]⟩):=hk 12 (by decide);have c13:w.cell? ⟨0,13,none⟩=some (.int .i64 7):=hk 13 (by decide);have c14:w.cell? ⟨0,14,none⟩=some (.string ⟨#[39,114,101,112,111,114,116,45,115,97,109,112,108,101,39]⟩):=hk 14 (by decide);have c15:w.cell? ⟨0,15,none⟩=some (.int .i64 8):=hk 15 (by decide);have CS0:=fun r hr=>eQ L ⟨#[39,110,111,110,101,39]⟩ r hr (by omega) (by decide);have CS1:=fun r hr=>eQ L ⟨#[39,115,101,108,102,39]⟩ r hr (by omega) (by decide);have CS2:=fun r hr=>eQ L ⟨#[39,117,110,115,97,102,101,45,105,110,108,105,110,101,39]⟩ r hr (by omega) (by decide);have CS3:=fun r hr=>eQ L ⟨#[39,117,110,115,97,102,101,45,101,118,97,108,39]⟩ r hr (by omega) (by decide);have CS4:=fun r hr=>eQ L ⟨#[39,119,97,115,109,45,117,110,115,97,102,101,45,101,118,97,108,39]⟩ r hr (by omega) (by decide);have CS5:=fun r hr=>eQ L ⟨#[39,115,116,114,105,99,116,45,100,121,110,97,109,105,99,39]⟩ r hr (by omega) (by decide);have CS6:=fun r hr=>eQ L ⟨#[39,117,110,115,97,102,101,45,104,97,115,104,101,115,39]⟩ r hr (by omega) (by decide);have CS7:=fun r hr=>eQ L ⟨#[39,114,101,112,111,114,116,45,115,97,109,112,108,101,39]⟩ r hr (by omega) (by decide);clear hk hlow
 go_enter Tryz.func123,Tryz.ntmps123
 go_wp2
 clear c0 c1 c2 c3 c4 c5 c6 c7 c8 c9 c10 c11 c12 c13 c14 c15
 go_loopw [6] (fun i wr=>∃ j:Nat,j<=8/\i=.int .i64 j/\Hid (∀ z:Int,1<=z->z<=(j:Int)->bB L.data.toList≠aN z)/\CX wr B k t s h b p pa L/\Below B w wr) (fun i _=>8 - (intOf i).toNat)
 case atStart=>exact⟨0,by decide,rfl,zH (by intro z h1 h2;omega),a,zB _ _⟩
 case round =>
  obtain⟨j,hj,rfl,HN,ar,hb⟩:=hrel;clear a hlt;obtain rfl | rfl | rfl | rfl | rfl | rfl | rfl | rfl | rfl:j=0\/j=1\/j=2\/j=3\/j=4\/j=5\/j=6\/j=7\/j=8:=by omega
  · have ix:=kidx0
    obtain⟨r,hr⟩:∃ r,decide (bB L.data.toList=bB (⟨#[39,110,111,110,101,39]⟩:ByteArray).data.toList)=r:=⟨_,rfl⟩;have CS:=CS0 r hr;have HR:Hid (decide (bB L.data.toList=aN 1)=r):=zH hr;clear CS0 CS1 CS2 CS3 CS4 CS5 CS6 CS7 hr
    go_wp2
    have xw:=WX.made wr ⟨#[39,110,111,110,101,39]⟩ 1;have al:Below wr.heap.size wr (wr.alloc (.cells #[.string ⟨#[39,110,111,110,101,39]⟩,.int .i64 1] 184)):=(zB _ _).alloc (zL _) _;have x2:=ar.below al;have B2:=hb.trans (al.mono (zT ar.lt));have hne:wr.heap.size≠B:=by have:=ar.lt;omega
    generalize wr.heap.size=P at xw hne ⊢;generalize wr.alloc (.cells #[.string ⟨#[39,110,111,110,101,39]⟩,.int .i64 1] 184)=w2 at xw x2 B2 ⊢;clear ar hb al;obtain⟨C,hC⟩:∃ C:World->Prop,∀ w',C w'↔(CX w' B k t s h b p pa L/\WX w' P ⟨#[39,110,111,110,101,39]⟩ 1/\Below B w w'):=⟨_,fun _=>Iff.rfl⟩;have HC:=zH hC;clear hC;have hC0:C w2.drew:=(HC.out _).2 (⟨x2,xw,B2.drew⟩)
    have HK:Hid (∀ w',C w'->∀ w7,Below w'.heap.size w' w7->C w7):=zH fun w' hc w7 b=>by
     obtain⟨x7,y7,K7⟩:=(HC.out w').1 hc;exact(HC.out _).2 ⟨x7.below b,y7.below b,K7.trans (b.mono (zT x7.lt))⟩
    refine aY C (by kernel_rfl) (by kernel_rfl) hC0 ?_;clear hC0
    repeat
     first
      | go_big_quiet_skip
      | (go_big_quiet_want;go_big_quiet_op;go_big_quiet_on)
      | (refine BigFrame.wpQuiet_want rfl (fun K hK => ?_)
         apply Exists.intro
         refine⟨fun w' hc => ?_,hK _ ?_⟩
         · obtain⟨x7,y7,K7⟩:=(HC.out w').1 hc
           have d7:=x7.c7;have e0:=y7.c0;unfold Oper.quietAt
           go_simp
           first
            | done
            | rfl
            | ((with_reducible refine(CS.out _).mono ?_);rintro e w7 ⟨rfl,b7⟩;exact⟨rfl,HK.out w' hc w7 b7⟩)
         clear hK K
         simp only[Act.put,List.setIfInBounds_toArray,List.set_cons_zero,List.set_cons_succ])
    refine wpQuiet_nil ?_;intro w3 hc;obtain⟨xw3,yw3,Kw3⟩:=(HC.out w3).1 hc;clear hc HC HK;clear xw x2 B2;have d7:=xw3.c7;have e1:=yw3.c1;have f0:=xw3.free 0;have a3:=xw3.set0 1;have B3:=Kw3.setCell (p:=⟨B,0,none⟩) (zL _) (.int .i64 1);have d0:=xw3.c0
    cases r
    · have HN2:Hid (∀ z:Int,1<=z->z<=(1:Nat)->bB L.data.toList≠aN z):=zH (by
       intro z h1 h2 e
       by_cases h3:z<=0
       · exact HN.out z h1 (by simpa using h3) e
       · have:z=1:=by omega
         subst this
         exact absurd e (of_decide_eq_false HR.out))
      clear HN HR a3 B3
      go_wp2
      go_roundw
      case rel=>exact⟨1,by decide,rfl,HN2,xw3,Kw3⟩
      case measure=>decide
    · have HE:Hid (cI L.data.toList=some 1):=zH (kept_at1 (fun z h1 h2=>HN.out z h1 (by simpa using h2)) (of_decide_eq_true HR.out))
      clear HN HR
      go_wp2
      go_ret
      exact⟨_,rfl,.inl ⟨_,HE.out,rfl,a3⟩,B3⟩
  · have ix:=kidx1
    obtain⟨r,hr⟩:∃ r,decide (bB L.data.toList=bB (⟨#[39,115,101,108,102,39]⟩:ByteArray).data.toList)=r:=⟨_,rfl⟩;have CS:=CS1 r hr;have HR:Hid (decide (bB L.data.toList=aN 2)=r):=zH hr;clear CS0 CS1 CS2 CS3 CS4 CS5 CS6 CS7 hr
    go_wp2
    have xw:=WX.made wr ⟨#[39,115,101,108,102,39]⟩ 2;have al:Below wr.heap.size wr (wr.alloc (.cells #[.string ⟨#[39,115,101,108,102,39]⟩,.int .i64 2] 184)):=(zB _ _).alloc (zL _) _;have x2:=ar.below al;have B2:=hb.trans (al.mono (zT ar.lt));have hne:wr.heap.size≠B:=by have:=ar.lt;omega
    generalize wr.heap.size=P at xw hne ⊢;generalize wr.alloc (.cells #[.string ⟨#[39,115,101,108,102,39]⟩,.int .i64 2] 184)=w2 at xw x2 B2 ⊢;clear ar hb al;obtain⟨C,hC⟩:∃ C:World->Prop,∀ w',C w'↔(CX w' B k t s h b p pa L/\WX w' P ⟨#[39,115,101,108,102,39]⟩ 2/\Below B w w'):=⟨_,fun _=>Iff.rfl⟩;have HC:=zH hC;clear hC;have hC0:C w2.drew:=(HC.out _).2 (⟨x2,xw,B2.drew⟩)
    have HK:Hid (∀ w',C w'->∀ w7,Below w'.heap.size w' w7->C w7):=zH fun w' hc w7 b=>by
     obtain⟨x7,y7,K7⟩:=(HC.out w').1 hc;exact(HC.out _).2 ⟨x7.below b,y7.below b,K7.trans (b.mono (zT x7.lt))⟩
    refine aY C (by kernel_rfl) (by kernel_rfl) hC0 ?_;clear hC0
    repeat
     first
      | go_big_quiet_skip
      | (go_big_quiet_want;go_big_quiet_op;go_big_quiet_on)
      | (refine BigFrame.wpQuiet_want rfl (fun K hK => ?_)
         apply Exists.intro
         refine⟨fun w' hc => ?_,hK _ ?_⟩
         · obtain⟨x7,y7,K7⟩:=(HC.out w').1 hc
           have d7:=x7.c7;have e0:=y7.c0;unfold Oper.quietAt
           go_simp
           first
            | done
            | rfl
            | ((with_reducible refine(CS.out _).mono ?_);rintro e w7 ⟨rfl,b7⟩;exact⟨rfl,HK.out w' hc w7 b7⟩)
         clear hK K
         simp only[Act.put,List.setIfInBounds_toArray,List.set_cons_zero,List.set_cons_succ])
    refine wpQuiet_nil ?_;intro w3 hc;obtain⟨xw3,yw3,Kw3⟩:=(HC.out w3).1 hc;clear hc HC HK;clear xw x2 B2;have d7:=xw3.c7;have e1:=yw3.c1;have f0:=xw3.free 0;have a3:=xw3.set0 2;have B3:=Kw3.setCell (p:=⟨B,0,none⟩) (zL _) (.int .i64 2);have d0:=xw3.c0
    cases r
    · have HN2:Hid (∀ z:Int,1<=z->z<=(2:Nat)->bB L.data.toList≠aN z):=zH (by
       intro z h1 h2 e
       by_cases h3:z<=1
       · exact HN.out z h1 (by simpa using h3) e
       · have:z=2:=by omega
         subst this
         exact absurd e (of_decide_eq_false HR.out))
      clear HN HR a3 B3
      go_wp2
      go_roundw
      case rel=>exact⟨2,by decide,rfl,HN2,xw3,Kw3⟩
      case measure=>decide
    · have HE:Hid (cI L.data.toList=some 2):=zH (kept_at2 (fun z h1 h2=>HN.out z h1 (by simpa using h2)) (of_decide_eq_true HR.out))
      clear HN HR
      go_wp2
      go_ret
      exact⟨_,rfl,.inl ⟨_,HE.out,rfl,a3⟩,B3⟩
  · have ix:=kidx2
    obtain⟨r,hr⟩:∃ r,decide (bB L.data.toList=bB (⟨#[39,117,110,115,97,102,101,45,105,110,108,105,110,101,39]⟩:ByteArray).data.toList)=r:=⟨_,rfl⟩;have CS:=CS2 r hr;have HR:Hid (decide (bB L.data.toList=aN 3)=r):=zH hr;clear CS0 CS1 CS2 CS3 CS4 CS5 CS6 CS7 hr
    go_wp2
    have xw:=WX.made wr ⟨#[39,117,110,115,97,102,101,45,105,110,108,105,110,101,39]⟩ 3;have al:Below wr.heap.size wr (wr.alloc (.cells #[.string ⟨#[39,117,110,115,97,102,101,45,105,110,108,105,110,101,39]⟩,.int .i64 3] 184)):=(zB _ _).alloc (zL _) _;have x2:=ar.below al;have B2:=hb.trans (al.mono (zT ar.lt));have hne:wr.heap.size≠B:=by have:=ar.lt;omega
    generalize wr.heap.size=P at xw hne ⊢;generalize wr.alloc (.cells #[.string ⟨#[39,117,110,115,97,102,101,45,105,110,108,105,110,101,39]⟩,.int .i64 3] 184)=w2 at xw x2 B2 ⊢;clear ar hb al;obtain⟨C,hC⟩:∃ C:World->Prop,∀ w',C w'↔(CX w' B k t s h b p pa L/\WX w' P ⟨#[39,117,110,115,97,102,101,45,105,110,108,105,110,101,39]⟩ 3/\Below B w w'):=⟨_,fun _=>Iff.rfl⟩;have HC:=zH hC;clear hC;have hC0:C w2.drew:=(HC.out _).2 (⟨x2,xw,B2.drew⟩)
    have HK:Hid (∀ w',C w'->∀ w7,Below w'.heap.size w' w7->C w7):=zH fun w' hc w7 b=>by
     obtain⟨x7,y7,K7⟩:=(HC.out w').1 hc;exact(HC.out _).2 ⟨x7.below b,y7.below b,K7.trans (b.mono (zT x7.lt))⟩
    refine aY C (by kernel_rfl) (by kernel_rfl) hC0 ?_;clear hC0
    repeat
     first
      | go_big_quiet_skip
      | (go_big_quiet_want;go_big_quiet_op;go_big_quiet_on)
      | (refine BigFrame.wpQuiet_want rfl (fun K hK => ?_)
         apply Exists.intro
         refine⟨fun w' hc => ?_,hK _ ?_⟩
         · obtain⟨x7,y7,K7⟩:=(HC.out w').1 hc
           have d7:=x7.c7;have e0:=y7.c0;unfold Oper.quietAt
           go_simp
           first
            | done
            | rfl
            | ((with_reducible refine(CS.out _).mono ?_);rintro e w7 ⟨rfl,b7⟩;exact⟨rfl,HK.out w' hc w7 b7⟩)
         clear hK K
         simp only[Act.put,List.setIfInBounds_toArray,List.set_cons_zero,List.set_cons_succ])
    refine wpQuiet_nil ?_;intro w3 hc;obtain⟨xw3,yw3,Kw3⟩:=(HC.out w3).1 hc;clear hc HC HK;clear xw x2 B2;have d7:=xw3.c7;have e1:=yw3.c1;have f0:=xw3.free 0;have a3:=xw3.set0 3;have B3:=Kw3.setCell (p:=⟨B,0,none⟩) (zL _) (.int .i64 3);have d0:=xw3.c0
    cases r
    · have HN2:Hid (∀ z:Int,1<=z->z<=(3:Nat)->bB L.data.toList≠aN z):=zH (by
       intro z h1 h2 e
       by_cases h3:z<=2
       · exact HN.out z h1 (by simpa using h3) e
       · have:z=3:=by omega
         subst this
         exact absurd e (of_decide_eq_false HR.out))
      clear HN HR a3 B3
      go_wp2
      go_roundw
      case rel=>exact⟨3,by decide,rfl,HN2,xw3,Kw3⟩
      case measure=>decide
    · have HE:Hid (cI L.data.toList=some 3):=zH (kept_at3 (fun z h1 h2=>HN.out z h1 (by simpa using h2)) (of_decide_eq_true HR.out))
      clear HN HR
      go_wp2
      go_ret
      exact⟨_,rfl,.inl ⟨_,HE.out,rfl,a3⟩,B3⟩
  · have ix:=kidx3
    obtain⟨r,hr⟩:∃ r,decide (bB L.data.toList=bB (⟨#[39,117,110,115,97,102,101,45,101,118,97,108,39]⟩:ByteArray).data.toList)=r:=⟨_,rfl⟩;have CS:=CS3 r hr;have HR:Hid (decide (bB L.data.toList=aN 4)=r):=zH hr;clear CS0 CS1 CS2 CS3 CS4 CS5 CS6 CS7 hr
    go_wp2
    have xw:=WX.made wr ⟨#[39,117,110,115,97,102,101,45,101,118,97,108,39]⟩ 4;have al:Below wr.heap.size wr (wr.alloc (.cells #[.string ⟨#[39,117,110,115,97,102,101,45,101,118,97,108,39]⟩,.int .i64 4] 184)):=(zB _ _).alloc (zL _) _;have x2:=ar.below al;have B2:=hb.trans (al.mono (zT ar.lt));have hne:wr.heap.size≠B:=by have:=ar.lt;omega
    generalize wr.heap.size=P at xw hne ⊢;generalize wr.alloc (.cells #[.string ⟨#[39,117,110,115,97,102,101,45,101,118,97,108,39]⟩,.int .i64 4] 184)=w2 at xw x2 B2 ⊢;clear ar hb al;obtain⟨C,hC⟩:∃ C:World->Prop,∀ w',C w'↔(CX w' B k t s h b p pa L/\WX w' P ⟨#[39,117,110,115,97,102,101,45,101,118,97,108,39]⟩ 4/\Below B w w'):=⟨_,fun _=>Iff.rfl⟩;have HC:=zH hC;clear hC;have hC0:C w2.drew:=(HC.out _).2 (⟨x2,xw,B2.drew⟩)
    have HK:Hid (∀ w',C w'->∀ w7,Below w'.heap.size w' w7->C w7):=zH fun w' hc w7 b=>by
     obtain⟨x7,y7,K7⟩:=(HC.out w').1 hc;exact(HC.out _).2 ⟨x7.below b,y7.below b,K7.trans (b.mono (zT x7.lt))⟩
    refine aY C (by kernel_rfl) (by kernel_rfl) hC0 ?_;clear hC0
    repeat
     first
      | go_big_quiet_skip
      | (go_big_quiet_want;go_big_quiet_op;go_big_quiet_on)
      | (refine BigFrame.wpQuiet_want rfl (fun K hK => ?_)
         apply Exists.intro
         refine⟨fun w' hc => ?_,hK _ ?_⟩
         · obtain⟨x7,y7,K7⟩:=(HC.out w').1 hc
           have d7:=x7.c7;have e0:=y7.c0;unfold Oper.quietAt
           go_simp
           first
            | done
            | rfl
            | ((with_reducible refine(CS.out _).mono ?_);rintro e w7 ⟨rfl,b7⟩;exact⟨rfl,HK.out w' hc w7 b7⟩)
         clear hK K
         simp only[Act.put,List.setIfInBounds_toArray,List.set_cons_zero,List.set_cons_succ])
    refine wpQuiet_nil ?_;intro w3 hc;obtain⟨xw3,yw3,Kw3⟩:=(HC.out w3).1 hc;clear hc HC HK;clear xw x2 B2;have d7:=xw3.c7;have e1:=yw3.c1;have f0:=xw3.free 0;have a3:=xw3.set0 4;have B3:=Kw3.setCell (p:=⟨B,0,none⟩) (zL _) (.int .i64 4);have d0:=xw3.c0
    cases r
    · have HN2:Hid (∀ z:Int,1<=z->z<=(4:Nat)->bB L.data.toList≠aN z):=zH (by
       intro z h1 h2 e
       by_cases h3:z<=3
       · exact HN.out z h1 (by simpa using h3) e
       · have:z=4:=by omega
         subst this
         exact absurd e (of_decide_eq_false HR.out))
      clear HN HR a3 B3
      go_wp2
      go_roundw
      case rel=>exact⟨4,by decide,rfl,HN2,xw3,Kw3⟩
      case measure=>decide
    · have HE:Hid (cI L.data.toList=some 4):=zH (kept_at4 (fun z h1 h2=>HN.out z h1 (by simpa using h2)) (of_decide_eq_true HR.out))
      clear HN HR
      go_wp2
      go_ret
      exact⟨_,rfl,.inl ⟨_,HE.out,rfl,a3⟩,B3⟩
  · have ix:=kidx4
    obtain⟨r,hr⟩:∃ r,decide (bB L.data.toList=bB (⟨#[39,119,97,115,109,45,117,110,115,97,102,101,45,101,118,97,108,39]⟩:ByteArray).data.toList)=r:=⟨_,rfl⟩;have CS:=CS4 r hr;have HR:Hid (decide (bB L.data.toList=aN 5)=r):=zH hr;clear CS0 CS1 CS2 CS3 CS4 CS5 CS6 CS7 hr
    go_wp2
    have xw:=WX.made wr ⟨#[39,119,97,115,109,45,117,110,115,97,102,101,45,101,118,97,108,39]⟩ 5;have al:Below wr.heap.size wr (wr.alloc (.cells #[.string ⟨#[39,119,97,115,109,45,117,110,115,97,102,101,45,101,118,97,108,39]⟩,.int .i64 5] 184)):=(zB _ _).alloc (zL _) _;have x2:=ar.below al;have B2:=hb.trans (al.mono (zT ar.lt));have hne:wr.heap.size≠B:=by have:=ar.lt;omega
    generalize wr.heap.size=P at xw hne ⊢;generalize wr.alloc (.cells #[.string ⟨#[39,119,97,115,109,45,117,110,115,97,102,101,45,101,118,97,108,39]⟩,.int .i64 5] 184)=w2 at xw x2 B2 ⊢;clear ar hb al;obtain⟨C,hC⟩:∃ C:World->Prop,∀ w',C w'↔(CX w' B k t s h b p pa L/\WX w' P ⟨#[39,119,97,115,109,45,117,110,115,97,102,101,45,101,118,97,108,39]⟩ 5/\Below B w w'):=⟨_,fun _=>Iff.rfl⟩;have HC:=zH hC;clear hC;have hC0:C w2.drew:=(HC.out _).2 (⟨x2,xw,B2.drew⟩)
    have HK:Hid (∀ w',C w'->∀ w7,Below w'.heap.size w' w7->C w7):=zH fun w' hc w7 b=>by
     obtain⟨x7,y7,K7⟩:=(HC.out w').1 hc;exact(HC.out _).2 ⟨x7.below b,y7.below b,K7.trans (b.mono (zT x7.lt))⟩
    refine aY C (by kernel_rfl) (by kernel_rfl) hC0 ?_;clear hC0
    repeat
     first
      | go_big_quiet_skip
      | (go_big_quiet_want;go_big_quiet_op;go_big_quiet_on)
      | (refine BigFrame.wpQuiet_want rfl (fun K hK => ?_)
         apply Exists.intro
         refine⟨fun w' hc => ?_,hK _ ?_⟩
         · obtain⟨x7,y7,K7⟩:=(HC.out w').1 hc
           have d7:=x7.c7;have e0:=y7.c0;unfold Oper.quietAt
           go_simp
           first
            | done
            | rfl
            | ((with_reducible refine(CS.out _).mono ?_);rintro e w7 ⟨rfl,b7⟩;exact⟨rfl,HK.out w' hc w7 b7⟩)
         clear hK K
         simp only[Act.put,List.setIfInBounds_toArray,List.set_cons_zero,List.set_cons_succ])
    refine wpQuiet_nil ?_;intro w3 hc;obtain⟨xw3,yw3,Kw3⟩:=(HC.out w3).1 hc;clear hc HC HK;clear xw x2 B2;have d7:=xw3.c7;have e1:=yw3.c1;have f0:=xw3.free 0;have a3:=xw3.set0 5;have B3:=Kw3.setCell (p:=⟨B,0,none⟩) (zL _) (.int .i64 5);have d0:=xw3.c0
    cases r
    · have HN2:Hid (∀ z:Int,1<=z->z<=(5:Nat)->bB L.data.toList≠aN z):=zH (by
       intro z h1 h2 e
       by_cases h3:z<=4
       · exact HN.out z h1 (by simpa using h3) e
       · have:z=5:=by omega
         subst this
         exact absurd e (of_decide_eq_false HR.out))
      clear HN HR a3 B3
      go_wp2
      go_roundw
      case rel=>exact⟨5,by decide,rfl,HN2,xw3,Kw3⟩
      case measure=>decide
    · have HE:Hid (cI L.data.toList=some 5):=zH (kept_at5 (fun z h1 h2=>HN.out z h1 (by simpa using h2)) (of_decide_eq_true HR.out))
      clear HN HR
      go_wp2
      go_ret
      exact⟨_,rfl,.inl ⟨_,HE.out,rfl,a3⟩,B3⟩
  · have ix:=kidx5
    obtain⟨r,hr⟩:∃ r,decide (bB L.data.toList=bB (⟨#[39,115,116,114,105,99,116,45,100,121,110,97,109,105,99,39]⟩:ByteArray).data.toList)=r:=⟨_,rfl⟩;have CS:=CS5 r hr;have HR:Hid (decide (bB L.data.toList=aN 6)=r):=zH hr;clear CS0 CS1 CS2 CS3 CS4 CS5 CS6 CS7 hr
    go_wp2
    have xw:=WX.made wr ⟨#[39,115,116,114,105,99,116,45,100,121,110,97,109,105,99,39]⟩ 6;have al:Below wr.heap.size wr (wr.alloc (.cells #[.string ⟨#[39,115,116,114,105,99,116,45,100,121,110,97,109,105,99,39]⟩,.int .i64 6] 184)):=(zB _ _).alloc (zL _) _;have x2:=ar.below al;have B2:=hb.trans (al.mono (zT ar.lt));have hne:wr.heap.size≠B:=by have:=ar.lt;omega
    generalize wr.heap.size=P at xw hne ⊢;generalize wr.alloc (.cells #[.string ⟨#[39,115,116,114,105,99,116,45,100,121,110,97,109,105,99,39]⟩,.int .i64 6] 184)=w2 at xw x2 B2 ⊢;clear ar hb al;obtain⟨C,hC⟩:∃ C:World->Prop,∀ w',C w'↔(CX w' B k t s h b p pa L/\WX w' P ⟨#[39,115,116,114,105,99,116,45,100,121,110,97,109,105,99,39]⟩ 6/\Below B w w'):=⟨_,fun _=>Iff.rfl⟩;have HC:=zH hC;clear hC;have hC0:C w2.drew:=(HC.out _).2 (⟨x2,xw,B2.drew⟩)
    have HK:Hid (∀ w',C w'->∀ w7,Below w'.heap.size w' w7->C w7):=zH fun w' hc w7 b=>by
     obtain⟨x7,y7,K7⟩:=(HC.out w').1 hc;exact(HC.out _).2 ⟨x7.below b,y7.below b,K7.trans (b.mono (zT x7.lt))⟩
    refine aY C (by kernel_rfl) (by kernel_rfl) hC0 ?_;clear hC0
    repeat
     first
      | go_big_quiet_skip
      | (go_big_quiet_want;go_big_quiet_op;go_big_quiet_on)
      | (refine BigFrame.wpQuiet_want rfl (fun K hK => ?_)
         apply Exists.intro
         refine⟨fun w' hc => ?_,hK _ ?_⟩
         · obtain⟨x7,y7,K7⟩:=(HC.out w').1 hc
           have d7:=x7.c7;have e0:=y7.c0;unfold Oper.quietAt
           go_simp
           first
            | done
            | rfl
            | ((with_reducible refine(CS.out _).mono ?_);rintro e w7 ⟨rfl,b7⟩;exact⟨rfl,HK.out w' hc w7 b7⟩)
         clear hK K
         simp only[Act.put,List.setIfInBounds_toArray,List.set_cons_zero,List.set_cons_succ])
    refine wpQuiet_nil ?_;intro w3 hc;obtain⟨xw3,yw3,Kw3⟩:=(HC.out w3).1 hc;clear hc HC HK;clear xw x2 B2;have d7:=xw3.c7;have e1:=yw3.c1;have f0:=xw3.free 0;have a3:=xw3.set0 6;have B3:=Kw3.setCell (p:=⟨B,0,none⟩) (zL _) (.int .i64 6);have d0:=xw3.c0
    cases r
    · have HN2:Hid (∀ z:Int,1<=z->z<=(6:Nat)->bB L.data.toList≠aN z):=zH (by
       intro z h1 h2 e
       by_cases h3:z<=5
       · exact HN.out z h1 (by simpa using h3) e
       · have:z=6:=by omega
         subst this
         exact absurd e (of_decide_eq_false HR.out))
      clear HN HR a3 B3
      go_wp2
      go_roundw
      case rel=>exact⟨6,by decide,rfl,HN2,xw3,Kw3⟩
      case measure=>decide
    · have HE:Hid (cI L.data.toList=some 6):=zH (kept_at6 (fun z h1 h2=>HN.out z h1 (by simpa using h2)) (of_decide_eq_true HR.out))
      clear HN HR
      go_wp2
      go_ret
      exact⟨_,rfl,.inl ⟨_,HE.out,rfl,a3⟩,B3⟩
  · have ix:=kidx6
    obtain⟨r,hr⟩:∃ r,decide (bB L.data.toList=bB (⟨#[39,117,110,115,97,102,101,45,104,97,115,104,101,115,39]⟩:ByteArray).data.toList)=r:=⟨_,rfl⟩;have CS:=CS6 r hr;have HR:Hid (decide (bB L.data.toList=aN 7)=r):=zH hr;clear CS0 CS1 CS2 CS3 CS4 CS5 CS6 CS7 hr
    go_wp2
    have xw:=WX.made wr ⟨#[39,117,110,115,97,102,101,45,104,97,115,104,101,115,39]⟩ 7;have al:Below wr.heap.size wr (wr.alloc (.cells #[.string ⟨#[39,117,110,115,97,102,101,45,104,97,115,104,101,115,39]⟩,.int .i64 7] 184)):=(zB _ _).alloc (zL _) _;have x2:=ar.below al;have B2:=hb.trans (al.mono (zT ar.lt));have hne:wr.heap.size≠B:=by have:=ar.lt;omega
    generalize wr.heap.size=P at xw hne ⊢;generalize wr.alloc (.cells #[.string ⟨#[39,117,110,115,97,102,101,45,104,97,115,104,101,115,39]⟩,.int .i64 7] 184)=w2 at xw x2 B2 ⊢;clear ar hb al;obtain⟨C,hC⟩:∃ C:World->Prop,∀ w',C w'↔(CX w' B k t s h b p pa L/\WX w' P ⟨#[39,117,110,115,97,102,101,45,104,97,115,104,101,115,39]⟩ 7/\Below B w w'):=⟨_,fun _=>Iff.rfl⟩;have HC:=zH hC;clear hC;have hC0:C w2.drew:=(HC.out _).2 (⟨x2,xw,B2.drew⟩)
    have HK:Hid (∀ w',C w'->∀ w7,Below w'.heap.size w' w7->C w7):=zH fun w' hc w7 b=>by
     obtain⟨x7,y7,K7⟩:=(HC.out w').1 hc;exact(HC.out _).2 ⟨x7.below b,y7.below b,K7.trans (b.mono (zT x7.lt))⟩
    refine aY C (by kernel_rfl) (by kernel_rfl) hC0 ?_;clear hC0
    repeat
     first
      | go_big_quiet_skip
      | (go_big_quiet_want;go_big_quiet_op;go_big_quiet_on)
      | (refine BigFrame.wpQuiet_want rfl (fun K hK => ?_)
         apply Exists.intro
         refine⟨fun w' hc => ?_,hK _ ?_⟩
         · obtain⟨x7,y7,K7⟩:=(HC.out w').1 hc
           have d7:=x7.c7;have e0:=y7.c0;unfold Oper.quietAt
           go_simp
           first
            | done
            | rfl
            | ((with_reducible refine(CS.out _).mono ?_);rintro e w7 ⟨rfl,b7⟩;exact⟨rfl,HK.out w' hc w7 b7⟩)
         clear hK K
         simp only[Act.put,List.setIfInBounds_toArray,List.set_cons_zero,List.set_cons_succ])
    refine wpQuiet_nil ?_;intro w3 hc;obtain⟨xw3,yw3,Kw3⟩:=(HC.out w3).1 hc;clear hc HC HK;clear xw x2 B2;have d7:=xw3.c7;have e1:=yw3.c1;have f0:=xw3.free 0;have a3:=xw3.set0 7;have B3:=Kw3.setCell (p:=⟨B,0,none⟩) (zL _) (.int .i64 7);have d0:=xw3.c0
    cases r
    · have HN2:Hid (∀ z:Int,1<=z->z<=(7:Nat)->bB L.data.toList≠aN z):=zH (by
       intro z h1 h2 e
       by_cases h3:z<=6
       · exact HN.out z h1 (by simpa using h3) e
       · have:z=7:=by omega
         subst this
         exact absurd e (of_decide_eq_false HR.out))
      clear HN HR a3 B3
      go_wp2
      go_roundw
      case rel=>exact⟨7,by decide,rfl,HN2,xw3,Kw3⟩
      case measure=>decide
    · have HE:Hid (cI L.data.toList=some 7):=zH (kept_at7 (fun z h1 h2=>HN.out z h1 (by simpa using h2)) (of_decide_eq_true HR.out))
      clear HN HR
      go_wp2
      go_ret
      exact⟨_,rfl,.inl ⟨_,HE.out,rfl,a3⟩,B3⟩
  · have ix:=kidx7
    obtain⟨r,hr⟩:∃ r,decide (bB L.data.toList=bB (⟨#[39,114,101,112,111,114,116,45,115,97,109,112,108,101,39]⟩:ByteArray).data.toList)=r:=⟨_,rfl⟩;have CS:=CS7 r hr;have HR:Hid (decide (bB L.data.toList=aN 8)=r):=zH hr;clear CS0 CS1 CS2 CS3 CS4 CS5 CS6 CS7 hr
    go_wp2
    have xw:=WX.made wr ⟨#[39,114,101,112,111,114,116,45,115,97,109,112,108,101,39]⟩ 8;have al:Below wr.heap.size wr (wr.alloc (.cells #[.string ⟨#[39,114,101,112,111,114,116,45,115,97,109,112,108,101,39]⟩,.int .i64 8] 184)):=(zB _ _).alloc (zL _) _;have x2:=ar.below al;have B2:=hb.trans (al.mono (zT ar.lt));have hne:wr.heap.size≠B:=by have:=ar.lt;omega
    generalize wr.heap.size=P at xw hne ⊢;generalize wr.alloc (.cells #[.string ⟨#[39,114,101,112,111,114,116,45,115,97,109,112,108,101,39]⟩,.int .i64 8] 184)=w2 at xw x2 B2 ⊢;clear ar hb al;obtain⟨C,hC⟩:∃ C:World->Prop,∀ w',C w'↔(CX w' B k t s h b p pa L/\WX w' P ⟨#[39,114,101,112,111,114,116,45,115,97,109,112,108,101,39]⟩ 8/\Below B w w'):=⟨_,fun _=>Iff.rfl⟩;have HC:=zH hC;clear hC;have hC0:C w2.drew:=(HC.out _).2 (⟨x2,xw,B2.drew⟩)
    have HK:Hid (∀ w',C w'->∀ w7,Below w'.heap.size w' w7->C w7):=zH fun w' hc w7 b=>by
     obtain⟨x7,y7,K7⟩:=(HC.out w').1 hc;exact(HC.out _).2 ⟨x7.below b,y7.below b,K7.trans (b.mono (zT x7.lt))⟩
    refine aY C (by kernel_rfl) (by kernel_rfl) hC0 ?_;clear hC0
    repeat
     first
      | go_big_quiet_skip
      | (go_big_quiet_want;go_big_quiet_op;go_big_quiet_on)
      | (refine BigFrame.wpQuiet_want rfl (fun K hK => ?_)
         apply Exists.intro
         refine⟨fun w' hc => ?_,hK _ ?_⟩
         · obtain⟨x7,y7,K7⟩:=(HC.out w').1 hc
           have d7:=x7.c7;have e0:=y7.c0;unfold Oper.quietAt
           go_simp
           first
            | done
            | rfl
            | ((with_reducible refine(CS.out _).mono ?_);rintro e w7 ⟨rfl,b7⟩;exact⟨rfl,HK.out w' hc w7 b7⟩)
         clear hK K
         simp only[Act.put,List.setIfInBounds_toArray,List.set_cons_zero,List.set_cons_succ])
    refine wpQuiet_nil ?_;intro w3 hc;obtain⟨xw3,yw3,Kw3⟩:=(HC.out w3).1 hc;clear hc HC HK;clear xw x2 B2;have d7:=xw3.c7;have e1:=yw3.c1;have f0:=xw3.free 0;have a3:=xw3.set0 8;have B3:=Kw3.setCell (p:=⟨B,0,none⟩) (zL _) (.int .i64 8);have d0:=xw3.c0
    cases r
    · have HN2:Hid (∀ z:Int,1<=z->z<=(8:Nat)->bB L.data.toList≠aN z):=zH (by
       intro z h1 h2 e
       by_cases h3:z<=7
       · exact HN.out z h1 (by simpa using h3) e
       · have:z=8:=by omega
         subst this
         exact absurd e (of_decide_eq_false HR.out))
      clear HN HR a3 B3
      go_wp2
      go_roundw
      case rel=>exact⟨8,by decide,rfl,HN2,xw3,Kw3⟩
      case measure=>decide
    · have HE:Hid (cI L.data.toList=some 8):=zH (kept_at8 (fun z h1 h2=>HN.out z h1 (by simpa using h2)) (of_decide_eq_true HR.out))
      clear HN HR
      go_wp2
      go_ret
      exact⟨_,rfl,.inl ⟨_,HE.out,rfl,a3⟩,B3⟩
  · have HE:Hid (cI L.data.toList=none):=zH (bF2 fun z h1 h2=>HN.out z h1 (by simpa using h2))
    clear HN CS0 CS1 CS2 CS3 CS4 CS5 CS6 CS7
    go_wp2
    go_ret
    exact⟨_,rfl,.inr ⟨HE.out,rfl,ar⟩,hb⟩
end Go.Proofs.YthnogdodlhkldaaGreatDoor
namespace Go.Proofs.YthnogdodlhkldaaGreatDoor
open Go.RowKit
theorem jQ (l:List UInt8)(c:UInt8):Lib.hasSuffix l [c]=decide (l.getLast? = some c):=by
 unfold Lib.hasSuffix;rw[Bool.eq_iff_iff,List.isSuffixOf_iff_suffix,decide_eq_true_eq];constructor
 · rintro⟨a,rfl⟩
   simp
 · intro h
   have hne:l≠[]:=by intro e;rw[e]at h;cases h
   rw[List.getLast?_eq_some_getLast hne]at h;exact⟨l.dropLast,by rw[<- Option.some.inj h];exact List.dropLast_concat_getLast hne⟩
theorem yM (l:List UInt8)(c:UInt8):Lib.trimSuffix l [c]=if l.getLast? = some c then l.dropLast else l:=by
 unfold Lib.trimSuffix;rw[jQ]
 by_cases h:l.getLast? = some c
 · rw[if_pos (decide_eq_true h),if_pos h,List.dropLast_eq_take]
   rfl
 · rw[if_neg (by simpa using h),if_neg h]
theorem aM9 (l:List UInt8)(c:UInt8):Lib.hasPrefix l [c]=decide (l.head? = some c):=by
 unfold Lib.hasPrefix
 cases l with
 | nil=>rfl
 | cons b l =>
   rw[lA,Bool.eq_iff_iff,decide_eq_true_eq,beq_iff_eq,List.head?_cons,Option.some.injEq];exact eq_comm
theorem mO (a:bI):∃ t s h pa:ByteArray,a=aJ a.k t s h a.w a.p pa :=
 ⟨⟨a.t.toArray⟩,⟨a.s.toArray⟩,⟨a.h.toArray⟩,⟨a.pa.toArray⟩,rfl⟩
theorem cutQ_any (L M:ByteArray)(r:Bool)(hr:decide (L.data.toList.getLast? = some 39)=r)(hM:M.data.toList=if L.data.toList.getLast? = some 39 then L.data.toList.dropLast else L.data.toList)(k2:Int)(t2:ByteArray)(hQ:jV M.data.toList=qJ k2 t2.data.toList)(hL:L.size<=10000)(B:Nat)(w:World)(a:CX w B 0 ⟨#[]⟩ ⟨#[]⟩ ⟨#[]⟩ false 0 ⟨#[]⟩ L) :
 Calls Tryz.prog 124 #[.pointer (some ⟨B,0,none⟩)] w fun e w'=>e=.returned (.bool r)/\(∃ l,CX w' B k2 t2 ⟨#[]⟩ ⟨#[]⟩ false 0 ⟨#[]⟩ l)/\Below B w w':=by
 have hlt:=a.lt
 have hMs:M.size<=L.size:=by
  rw[<- aE,hM,<- aE L];split
  · rw[List.length_dropLast];omega
  · exact zL _
 have C:Hid (∀ W,Calls Tryz.prog 172 #[.string L,.string ⟨#[39]⟩] W fun e w'=>e=.returned (.tuple #[.string M,.bool r])/\w'=W):=zH fun W=>by
  have:=Tryz.strings_CutSuffix L ⟨#[39]⟩ W (by omega);rw[show(⟨#[39]⟩:ByteArray).data.toList=[39]from rfl,jQ,yM,<- hM,hr,<- aM (T:=M) rfl]at this;exact this
 have c7:=a.c7;have f7:=a.free 7;have a1:=a.set7 M;have B1:Below B w (w.setCell ⟨B,7,none⟩ (.string M)):=((zB w.heap.size w).mono (zT hlt)).setCell (zL _) _;clear a hM;unfold jV at hQ
 cases h1:mV M.data.toList NON
 · rw[h1]at hQ
   simp only[Bool.false_eq_true,if_false]at hQ;have S1:=zH fun W a=>lQ ⟨#[39,110,111,110,99,101,45]⟩ M M false (by decide) h1 rfl (by omega) (by decide) B W 0 ⟨#[]⟩ ⟨#[]⟩ ⟨#[]⟩ false 0 ⟨#[]⟩ a
   cases h2:mV M.data.toList MRK
   · rw[h2]at hQ
     simp only[Bool.false_eq_true,if_false]at hQ
     have e:k2=0/\t2=⟨#[]⟩:=by
      have e1:=congrArg bI.k hQ;have e2:=congrArg bI.t hQ;exact⟨e1.symm,aM e2.symm⟩
     obtain⟨rfl,rfl⟩:=e;have S2:=zH fun W a=>lQ ⟨#[39,109,97,114,107,45]⟩ M M false (by decide) h2 rfl (by omega) (by decide) B W 0 ⟨#[]⟩ ⟨#[]⟩ ⟨#[]⟩ false 0 ⟨#[]⟩ a;clear h1 h2 hQ hr hMs hL
     go_enter Tryz.func124,Tryz.ntmps124
     go_wp2_with fail
     refine(C.out _).mono ?_;rintro e w ⟨rfl,rfl⟩
     go_wp2_with fail
     clear c7 f7;generalize w.setCell ⟨B,7,none⟩ (.string M)=w1 at a1 B1 ⊢;refine(S1.out _ a1).mono ?_;rintro e w2 ⟨rfl,a2,B2⟩;have B3:=B1.trans B2;clear a1 B1 B2
     go_wp2_with fail
     refine(S2.out _ a2).mono ?_;rintro e w4 ⟨rfl,a4,B4⟩
     go_wp2
     go_ret
     exact⟨rfl,⟨M,a4⟩,B3.trans B4⟩
   · rw[h2]at hQ
     simp only[if_true]at hQ;obtain⟨M3,hM3⟩:=aO (M.data.toList.drop 6);have hM3s:M3.size<=M.size:=by rw[<- aE,hM3,<- aE M,List.length_drop];omega
     have e:k2=10/\t2.data.toList=(mR M3.data.toList).1:=by
      rw[hM3];exact⟨(congrArg bI.k hQ).symm,(congrArg bI.t hQ).symm⟩
     obtain⟨rfl,e2⟩:=e;obtain⟨ok,hok⟩:∃ x,(mR M3.data.toList).2=x:=⟨_,rfl⟩;have CD:=aQ8 M3 (by omega) t2 ok (by rw[e2,<- hok]);have S2:=zH fun W a=>lQ ⟨#[39,109,97,114,107,45]⟩ M M3 true (by decide) h2 hM3 (by omega) (by decide) B W 0 ⟨#[]⟩ ⟨#[]⟩ ⟨#[]⟩ false 0 ⟨#[]⟩ a;clear h1 h2 hQ hr hMs hL hM3 hM3s e2 hok
     go_enter Tryz.func124,Tryz.ntmps124
     go_wp2_with fail
     refine(C.out _).mono ?_;rintro e w ⟨rfl,rfl⟩
     go_wp2_with fail
     clear c7 f7;generalize w.setCell ⟨B,7,none⟩ (.string M)=w1 at a1 B1 ⊢;refine(S1.out _ a1).mono ?_;rintro e w2 ⟨rfl,a2,B2⟩;have B3:=B1.trans B2;clear a1 B1 B2
     go_wp2_with fail
     refine(S2.out _ a2).mono ?_;rintro e w4 ⟨rfl,a4,B4⟩;have B5:=B3.trans B4;clear a2 B3 B4;have c0:=a4.c0;have f0:=a4.free 0;have a5:=a4.set0 10;have c7:=a5.c7;have B6:=B5.setCell (p:=⟨B,0,none⟩) (zL _) (.int .i64 10)
     go_wp2_with fail
     clear c7 c0 f0 a4 B5;generalize w4.setCell ⟨B,0,none⟩ (.int .i64 10)=w5 at a5 B6 ⊢;refine(CD.out _).mono ?_;rintro e w6 ⟨rfl,b6⟩;have a6:=a5.below b6;have B7:=B6.trans (b6.mono (zT a5.lt));have c1:=a6.c1;have f1:=a6.free 1;have a7:=a6.set1 t2;have B8:=B7.setCell (p:=⟨B,1,none⟩) (zL _) (.string t2);clear a5 B6 b6
     go_wp2
     go_ret
     exact⟨rfl,⟨M3,a7⟩,B8⟩
 · rw[h1]at hQ
   simp only[if_true]at hQ;have e:k2=9/\t2.data.toList=M.data.toList.drop 7:=⟨(congrArg bI.k hQ).symm,(congrArg bI.t hQ).symm⟩;obtain⟨rfl,e2⟩:=e;have S1:=zH fun W a=>lQ ⟨#[39,110,111,110,99,101,45]⟩ M t2 true (by decide) h1 e2 (by omega) (by decide) B W 0 ⟨#[]⟩ ⟨#[]⟩ ⟨#[]⟩ false 0 ⟨#[]⟩ a;clear h1 hQ hr hMs hL e2
   go_enter Tryz.func124,Tryz.ntmps124
   go_wp2_with fail
   refine(C.out _).mono ?_;rintro e w ⟨rfl,rfl⟩
   go_wp2_with fail
   clear c7 f7;generalize w.setCell ⟨B,7,none⟩ (.string M)=w1 at a1 B1 ⊢;refine(S1.out _ a1).mono ?_;rintro e w2 ⟨rfl,a2,B2⟩;have B3:=B1.trans B2;clear a1 B1 B2;have c7:=a2.c7;have c0:=a2.c0;have f0:=a2.free 0;have a3:=a2.set0 9;have c1:=a3.c1;have f1:=a3.free 1;have a4:=a3.set1 t2;have B4:=(B3.setCell (p:=⟨B,0,none⟩) (zL _) (.int .i64 9)).setCell (p:=⟨B,1,none⟩) (zL _) (.string t2);clear a3 B3
   go_wp2
   go_ret
   exact⟨rfl,⟨t2,a4⟩,B4⟩
theorem aR0 {l:List UInt8}(h1:¬ l.head? = some 39)(h2:¬ l.getLast? = some 58):mF l=gH l:=by
 unfold mF gH;rw[if_neg h1,if_neg h2]
 cases kN l with
 | none=>rfl
 | some x=>obtain⟨sc,r⟩:=x;rfl
theorem cut_all (L:ByteArray)(hL:L.size<=10000)(B:Nat)(w:World)(hlow:eW B w)(a:CX w B 0 ⟨#[]⟩ ⟨#[]⟩ ⟨#[]⟩ false 0 ⟨#[]⟩ L) :
 Calls Tryz.prog 92 #[.pointer (some ⟨B,0,none⟩)] w fun e w'=>((mF L.data.toList=none/\e=.returned (.bool false))\/∃ k t s h b p pa l,mF L.data.toList=some (aJ k t s h b p pa)/\e=.returned (.bool true)/\CX w' B k t s h b p pa l)/\Below B w w':=by
 have hlt:=a.lt;have c7:=a.c7;have hpre:=aM9 L.data.toList 39
 have CP:Hid (∀ W,Calls Tryz.prog 77 #[.string L,.string ⟨#[39]⟩] W fun e w'=>e=.returned (.bool (decide (L.data.toList.head? = some 39)))/\w'=W):=zH fun W=>by
  rw[<- hpre];exact Tryz.strings_HasPrefix L ⟨#[39]⟩ W
 clear hpre
 by_cases h1:L.data.toList.head? = some 39
 · rw[decide_eq_true h1]at CP
   have CK:=zH (cutK_any L (by omega) B w hlow 0 ⟨#[]⟩ ⟨#[]⟩ ⟨#[]⟩ false 0 ⟨#[]⟩ a);obtain⟨M,hM⟩:=aO (if L.data.toList.getLast? = some 39 then L.data.toList.dropLast else L.data.toList)
   obtain⟨k2,tl,hq⟩:∃ k2 tl,jV M.data.toList=qJ k2 tl:=by
    unfold jV;split
    · exact⟨_,_,rfl⟩
    · split
      · exact⟨_,_,rfl⟩
      · exact⟨0,[],rfl⟩
   obtain⟨t2,ht2⟩:=aO tl;rw[<- ht2]at hq;obtain⟨r,hr⟩:∃ x,decide (L.data.toList.getLast? = some 39)=x:=⟨_,rfl⟩;have CQ:=zH fun W a=>cutQ_any L M r hr hM k2 t2 hq hL B W a
   have HQ:Hid (cI L.data.toList=none->mF L.data.toList=if r then some (aJ k2 t2 ⟨#[]⟩ ⟨#[]⟩ false 0 ⟨#[]⟩) else none):=zH (fun hk=>by
    unfold mF;rw[if_pos h1,hk];simp only[]
    cases r
    · rw[if_neg (of_decide_eq_false hr)];rfl
    · have hz:=of_decide_eq_true hr
      rw[if_pos hz]at hM ⊢
      rw[<- hM,hq];rfl)
   have HK:Hid (∀ k,cI L.data.toList=some k->mF L.data.toList=some (aJ k ⟨#[]⟩ ⟨#[]⟩ ⟨#[]⟩ false 0 ⟨#[]⟩)):=zH (fun k hk=>by
    unfold mF
    rw[if_pos h1,hk];rfl)
   clear h1 hM hq ht2 hr hL hlow a
   go_enter Tryz.func92,Tryz.ntmps92
   go_wp2_with fail
   refine(CP.out _).mono ?_;rintro e w ⟨rfl,rfl⟩
   go_wp2_with fail
   refine CK.out.mono ?_;rintro e w1 ⟨r1,rfl,hx,B1⟩;rcases hx with ⟨k',hk',rfl,a1⟩ | ⟨hk',rfl,a1⟩
   · have HF:=zH (HK.out k' hk')
     clear hk' HK HQ
     go_wp2
     go_ret
     exact⟨.inr ⟨_,_,_,_,_,_,_,_,HF.out,rfl,a1⟩,B1⟩
   · have HF:=zH (HQ.out hk')
     clear hk' HK HQ
     go_wp2_with fail
     refine(CQ.out _ a1).mono ?_;rintro e w2 ⟨rfl,⟨l,a2⟩,B2⟩
     go_wp2
     go_ret
     refine⟨?_,B1.trans B2⟩
     cases r
     · exact .inl ⟨HF.out,rfl⟩
     · exact .inr ⟨_,_,_,_,_,_,_,_,HF.out,rfl,a2⟩
 rw[decide_eq_false h1]at CP;have hsuf:=jQ L.data.toList 58
 have CU:Hid (∀ W,Calls Tryz.prog 125 #[.string L,.string ⟨#[58]⟩] W fun e w'=>e=.returned (.bool (decide (L.data.toList.getLast? = some 58)))/\w'=W):=zH fun W=>by
  rw[<- hsuf];exact Tryz.strings_HasSuffix L ⟨#[58]⟩ W (by omega)
 clear hsuf
 by_cases h2:L.data.toList.getLast? = some 58
 · rw[decide_eq_true h2]at CU
   obtain⟨M,hM⟩:=aO L.data.toList.dropLast;have hMs:M.size<=L.size:=by rw[<- aE,hM,<- aE L,List.length_dropLast];omega
   have CT:Hid (∀ W,Calls Tryz.prog 126 #[.string L,.string ⟨#[58]⟩] W fun e w'=>e=.returned (.string M)/\w'=W):=zH fun W=>by
    have:=Tryz.strings_TrimSuffix L ⟨#[58]⟩ W (by omega);rw[show(⟨#[58]⟩:ByteArray).data.toList=[58]from rfl,yM,if_pos h2,<- hM,<- aM (T:=M) rfl]at this;exact this
   obtain⟨S,hS⟩:=aO (bB M.data.toList);have CL:=dM M S hS (by omega)
   have HF:Hid (mF L.data.toList=some (aJ 11 ⟨#[]⟩ S ⟨#[]⟩ false 0 ⟨#[]⟩)):=zH (by
    unfold mF aJ
    rw[if_neg h1,if_pos h2,hS,hM])
   clear h1 h2 hM hMs hS hL hlow
   go_enter Tryz.func92,Tryz.ntmps92
   go_wp2_with fail
   refine(CP.out _).mono ?_;rintro e w ⟨rfl,rfl⟩
   go_wp2_with fail
   refine(CU.out _).mono ?_;rintro e w ⟨rfl,rfl⟩
   go_wp2_with fail
   refine(CT.out _).mono ?_;rintro e w ⟨rfl,rfl⟩
   go_wp2_with fail
   refine(CL.out _).mono ?_;rintro e w1 ⟨rfl,b1⟩;have a1:=a.below b1;have c0:=a1.c0;have f0:=a1.free 0;have a2:=a1.set0 11;have c2:=a2.c2;have f2:=a2.free 2;have a3:=a2.set2 S;have B3:=((b1.mono (zT hlt)).setCell (p:=⟨B,0,none⟩) (zL _) (.int .i64 11)).setCell (p:=⟨B,2,none⟩) (zL _) (.string S);clear a2 b1 a c7
   go_wp2
   go_ret
   exact⟨.inr ⟨_,_,_,_,_,_,_,_,HF.out,rfl,a3⟩,B3⟩
 rw[decide_eq_false h2]at CU;have hP:=aR0 h1 h2;have c0:=a.c0;have f0:=a.free 0;have a1:=a.set0 12;have l1:=hlow.on ((zB B w).setCell (p:=⟨B,0,none⟩) (zL _) (.int .i64 12));have B1:=(zB B w).setCell (p:=⟨B,0,none⟩) (zL _) (.int .i64 12);clear a hlow h1 h2
 cases hpl:gH L.data.toList with
 | none =>
   rw[hpl]at hP;have HF:=zH hP;have CC:=bC2 L hpl (by omega) B;clear hP hpl hL
   go_enter Tryz.func92,Tryz.ntmps92
   go_wp2_with fail
   refine(CP.out _).mono ?_;rintro e w ⟨rfl,rfl⟩
   go_wp2_with fail
   refine(CU.out _).mono ?_;rintro e w ⟨rfl,rfl⟩
   go_wp2_with fail
   clear c0 f0 c7;generalize w.setCell ⟨B,0,none⟩ (.int .i64 12)=w1 at a1 B1 l1 ⊢;refine(CC.out _ l1 a1).mono ?_;rintro e w2 ⟨rfl,B2⟩
   go_wp2
   go_ret
   exact⟨.inl ⟨HF.out,rfl⟩,B1.trans B2⟩
 | some x =>
   rw[hpl]at hP
   have hform:x.k=12/\x.t=[]:=by
    unfold gH at hpl;split at hpl
    · split at hpl
      · cases hpl
      · exact⟨(eC hpl).1,(eC hpl).2.1⟩
    · exact⟨(eC hpl).1,(eC hpl).2.1⟩
   obtain⟨t,S,H,PA,hx⟩:=mO x;obtain⟨xk,xt,xs,xh,xw,xp,xpa⟩:=x;simp only[aJ]at hform hx;rw[bI.mk.injEq]at hx;obtain⟨_,e1,e2,e3,_,_,e4⟩:=hx;obtain⟨rfl,rfl⟩:=hform;obtain rfl:t=⟨#[]⟩:=aM e1.symm;subst e2;subst e3;subst e4;have HF:Hid (mF L.data.toList=some (aJ 12 ⟨#[]⟩ S H xw xp PA)):=zH hP;have CC:=aN7 L S H PA xw xp hpl (by omega) B;clear hP hpl hL e1
   go_enter Tryz.func92,Tryz.ntmps92
   go_wp2_with fail
   refine(CP.out _).mono ?_;rintro e w ⟨rfl,rfl⟩
   go_wp2_with fail
   refine(CU.out _).mono ?_;rintro e w ⟨rfl,rfl⟩
   go_wp2_with fail
   clear c0 f0 c7;generalize w.setCell ⟨B,0,none⟩ (.int .i64 12)=w1 at a1 B1 l1 ⊢;refine(CC.out _ l1 a1).mono ?_;rintro e w2 ⟨rfl,⟨l,a2⟩,B2⟩
   go_wp2
   go_ret
   exact⟨.inr ⟨_,_,_,_,_,_,_,_,HF.out,rfl,a2⟩,B1.trans B2⟩
end Go.Proofs.YthnogdodlhkldaaGreatDoor
namespace Go.Proofs.YthnogdodlhkldaaGreatDoor
open Go.RowKit
theorem aV (w:World)(x:Obj):(w.alloc x).heap.size=w.heap.size+1:=by show(w.heap.push x).size=_;simp
theorem aE7 (s:List UInt8):(mR s).1.length<=s.length:=by
 unfold mR;split
 · exact Nat.zero_le _
 · split
   · exact Nat.zero_le _
   · split
     · exact Nat.zero_le _
     · split
       · exact Nat.zero_le _
       · rw[List.length_map]
         have h1:=(nQ 8 (by decide) (gL (hd s))).1;have h2:=congrArg List.length h1;rw[List.length_append,eD]at h2;unfold gL at h2 ⊢;rw[eD,List.length_map]at h2;have:=aU6 s;omega
theorem bD7 {l h:List UInt8}{wd:Bool}(e:jF l=some (h,wd)):h.length<=l.length:=by
 unfold jF at e;split at e
 · cases e;exact Nat.zero_le _
 · split at e
   · split at e
     · cases e
     · cases e;rw[List.length_drop];omega
   · split at e
     · cases e
     · cases e;exact zL _
theorem rU {sc l:List UInt8}{a:bI}(h:fO sc l=some a):a.h.length<=l.length/\a.pa.length<=l.length:=by
 have h1:=eL (eR 47) l;have h2:=eL (eR 58) (upto (eR 47) l);unfold fO at h
 cases hn:jF (bB (upto (eR 58) (upto (eR 47) l)))with
 | none=>rw[hn]at h;cases h
 | some x =>
   obtain⟨ho,wd⟩:=x;rw[hn]at h;simp only[]at h;have h3:=bD7 hn;rw[dS]at h3;unfold mZ at h;split at h
   · cases h
     exact⟨by show ho.length<=_;omega,by show(dD (eR 47) l).length<=_;omega⟩
   · rw[Option.map_eq_some_iff]at h
     obtain⟨p,_,rfl⟩:=h;exact⟨by show ho.length<=_;omega,by show(dD (eR 47) l).length<=_;omega⟩
theorem aF1 {l:List UInt8}{a:bI}(h:mF l=some a):a.t.length<=l.length/\a.s.length<=l.length/\a.h.length<=l.length/\a.pa.length<=l.length:=by
 unfold mF at h;split at h
 · split at h
   · cases h;simp[qJ]
   · split at h
     · cases h
       have hd:=List.length_dropLast (xs:=l);unfold jV;split
       · simp[qJ,List.length_drop];omega
       · split
         · have:=aE7 (l.dropLast.drop 6)
           rw[List.length_drop]at this;simp[qJ];omega
         · simp[bI.zero]
     · cases h
 · split at h
   · cases h
     simp[dS]
   · split at h
     · rename_i sc r hs
       split at h
       · cases h
       · have h1:=vV hs
         obtain⟨h2,h3⟩:=rU h;obtain⟨_,h4,h5⟩:=eC h;rw[h4,h5,dS];exact⟨Nat.zero_le _,by omega,by omega,by omega⟩
     · obtain⟨h2,h3⟩:=rU h
       obtain⟨_,h4,h5⟩:=eC h;rw[h4,h5];exact⟨Nat.zero_le _,Nat.zero_le _,h2,h3⟩
structure dZ (w:World):Prop where
 m:aQ w
 t:aS w
 k:fU w
 s:∃ v,w.cell? ⟨7,0,none⟩=some v/\lN v
 r:∃ v,w.cell? ⟨8,0,none⟩=some v/\lN v
theorem dZ.below {w w':World}(h:dZ w)(hb:Below w.heap.size w w'):dZ w':=by
 obtain⟨m,t,k,⟨v,h1,h2⟩,⟨u,h3,h4⟩⟩:=h;exact⟨m.below hb,t.below hb,k.below hb,⟨v,by rw[hb.cell (aH h1)];exact h1,h2⟩,⟨u,by rw[hb.cell (aH h3)];exact h3,h4⟩⟩
theorem dZ.made {w:World}(h:dZ w)(x:Obj):dZ (w.alloc x):=h.below ((zB _ _).alloc (zL _) _)
theorem dZ.on {w:World}(h:dZ w){B:Nat}(hB:w.heap.size<=B):eW B w:=by
 obtain⟨⟨m,hm⟩,t,k,⟨v,h1,h2⟩,⟨u,h3,h4⟩⟩:=h;have hk:=k 0 (by decide);exact⟨⟨Nat.lt_of_lt_of_le (aH hm) hB,⟨m,hm⟩⟩,⟨Nat.lt_of_lt_of_le (aH hk) hB,k⟩,⟨Nat.lt_of_lt_of_le (aH h1) hB,v,h1,h2⟩,⟨Nat.lt_of_lt_of_le (aH h3) hB,u,h3,h4⟩⟩
theorem oL {w:World}{R:Nat}{k:Int}{t s h:ByteArray}{b:Bool}{p:Int}{pa:ByteArray}(a:SX w R k t s h b p pa)(k2:Int)(t2 s2 h2:ByteArray)(b2:Bool)(p2:Int)(pa2:ByteArray):SX (((((((w.setCell ⟨R,0,none⟩ (.int .i64 k2)).setCell ⟨R,1,none⟩ (.string t2)).setCell ⟨R,2,none⟩ (.string s2)).setCell ⟨R,3,none⟩ (.string h2)).setCell ⟨R,4,none⟩ (.bool b2)).setCell ⟨R,5,none⟩ (.int .i64 p2)).setCell ⟨R,6,none⟩ (.string pa2)) R k2 t2 s2 h2 b2 p2 pa2:=by
 unfold SX at *;rw[aI _ R 6 _ _ _ _ (aI _ R 5 _ _ _ _ (aI _ R 4 _ _ _ _ (aI _ R 3 _ _ _ _ (aI _ R 2 _ _ _ _ (aI _ R 1 _ _ _ _ (aI _ R 0 _ _ _ _ a))))))];rfl
theorem kQ {w0 w:World}{R R0:Nat}(hR:R0<=R)(hb:Below R0 w0 w)(k2:Int)(t2 s2 h2:ByteArray)(b2:Bool)(p2:Int)(pa2:ByteArray):Below R0 w0 (((((((w.setCell ⟨R,0,none⟩ (.int .i64 k2)).setCell ⟨R,1,none⟩ (.string t2)).setCell ⟨R,2,none⟩ (.string s2)).setCell ⟨R,3,none⟩ (.string h2)).setCell ⟨R,4,none⟩ (.bool b2)).setCell ⟨R,5,none⟩ (.int .i64 p2)).setCell ⟨R,6,none⟩ (.string pa2)) :=
 ((((((hb.setCell hR _).setCell hR _).setCell hR _).setCell hR _).setCell hR _).setCell hR _).setCell hR _
theorem uP (L:ByteArray)(hL:L.size<=10000)(w:World)(hw:dZ w) :
 Calls Tryz.prog 60 #[.string L] w fun e w'=>((cP L.data.toList=none/\e=.returned (.tuple #[aP 0 ⟨#[]⟩ ⟨#[]⟩ ⟨#[]⟩ false 0 ⟨#[]⟩,.bool false]))\/∃ k t s h b p pa,cP L.data.toList=some (aJ k t s h b p pa)/\e=.returned (.tuple #[aP k t s h b p pa,.bool true]))/\Below w.heap.size w w':=by
 have HO:=zH (aT8 L.data.toList)
 have HL:Hid (∀ k t s h b p pa,mF L.data.toList=some (aJ k t s h b p pa)->t.size<=100000/\s.size<=100000/\h.size<=100000/\pa.size<=100000):=zH (by
  intro k t s h b p pa e;obtain⟨h1,h2,h3,h4⟩:=aF1 e;simp only[aJ,aE]at h1 h2 h3 h4
  exact⟨by omega,by omega,by omega,by omega⟩)
 go_enter Tryz.func60,Tryz.ntmps60
 go_wp2_with fail
 have xz:=SX.made w 0 ⟨#[]⟩ ⟨#[]⟩ ⟨#[]⟩ false 0 ⟨#[]⟩;have w1:=hw.made (.cells #[.int .i64 0,.string ⟨#[]⟩,.string ⟨#[]⟩,.string ⟨#[]⟩,.bool false,.int .i64 0,.string ⟨#[]⟩] 75);have B1:Below w.heap.size w (w.alloc (.cells #[.int .i64 0,.string ⟨#[]⟩,.string ⟨#[]⟩,.string ⟨#[]⟩,.bool false,.int .i64 0,.string ⟨#[]⟩] 75)):=(zB _ _).alloc (zL _) _;have hsz:=aV w (.cells #[.int .i64 0,.string ⟨#[]⟩,.string ⟨#[]⟩,.string ⟨#[]⟩,.bool false,.int .i64 0,.string ⟨#[]⟩] 75);generalize hR:w.heap.size=R at xz B1 hsz ⊢;have HR:=zH hR;clear hR;generalize w.alloc (.cells #[.int .i64 0,.string ⟨#[]⟩,.string ⟨#[]⟩,.string ⟨#[]⟩,.bool false,.int .i64 0,.string ⟨#[]⟩] 75)=v1 at xz B1 w1 hsz ⊢;have y2:=CX.made v1 0 ⟨#[]⟩ ⟨#[]⟩ ⟨#[]⟩ false 0 ⟨#[]⟩ L;have al:Below v1.heap.size v1 (v1.alloc (.cells #[.int .i64 0,.string ⟨#[]⟩,.string ⟨#[]⟩,.string ⟨#[]⟩,.bool false,.int .i64 0,.string ⟨#[]⟩,.string L] 133)):=(zB _ _).alloc (zL _) _;have x2:=xz.below al;have w2:=w1.below al;have l2:=(w1.on (B:=v1.heap.size) (zL _)).on al;have B2:=B1.trans (al.mono (zT xz.lt));have hRB:R<v1.heap.size:=xz.lt;rw[hsz]at y2 l2 hRB
 try rw[hsz]
 obtain⟨B,hB⟩:∃ B,R+1=B:=⟨_,rfl⟩;rw[hB]at y2 l2 hRB ⊢;generalize v1.alloc (.cells #[.int .i64 0,.string ⟨#[]⟩,.string ⟨#[]⟩,.string ⟨#[]⟩,.bool false,.int .i64 0,.string ⟨#[]⟩,.string L] 133)=v2 at x2 y2 B2 w2 l2 ⊢;clear xz w1 B1 hsz al hB;refine(cut_all L hL B v2 l2 y2).mono ?_;rintro e v3 ⟨hx,b3⟩
 have x3:SX v3 R 0 ⟨#[]⟩ ⟨#[]⟩ ⟨#[]⟩ false 0 ⟨#[]⟩:=by
  unfold SX at *;rw[b3.block R hRB];exact x2
 have B3:=B2.trans (b3.mono (zT hRB));clear x2 y2 w2 l2 B2 b3;rcases hx with ⟨hc,rfl⟩ | ⟨k,t,s,h,b,p,pa,l,hc,rfl,y3⟩
 · have HF:Hid (cP L.data.toList=none):=zH (by rw[HO.out,hc];rfl)
   clear hc HO HL;obtain⟨r0,r1,r2,r3,r4,r5,r6⟩:=x3.cs;have f0:=aB x3 0;have f1:=aB x3 1;have f2:=aB x3 2;have f3:=aB x3 3;have f4:=aB x3 4;have f5:=aB x3 5;have f6:=aB x3 6;have xz:=oL x3 0 ⟨#[]⟩ ⟨#[]⟩ ⟨#[]⟩ false 0 ⟨#[]⟩;have bz:=kQ (R:=R) (zL R) B3 0 ⟨#[]⟩ ⟨#[]⟩ ⟨#[]⟩ false 0 ⟨#[]⟩;clear B3 x3
   go_wp2
   clear r0 r1 r2 r3 r4 r5 r6 f0 f1 f2 f3 f4 f5 f6;generalize((((((v3.setCell ⟨R,0,none⟩ (.int .i64 0)).setCell ⟨R,1,none⟩ (.string ⟨#[]⟩)).setCell ⟨R,2,none⟩ (.string ⟨#[]⟩)).setCell ⟨R,3,none⟩ (.string ⟨#[]⟩)).setCell ⟨R,4,none⟩ (.bool false)).setCell ⟨R,5,none⟩ (.int .i64 0)).setCell ⟨R,6,none⟩ (.string ⟨#[]⟩)=wz at xz bz ⊢;obtain⟨c0,c1,c2,c3,c4,c5,c6⟩:=xz.cs;exact bodyPost_ret (v := .tuple #[aP 0 ⟨#[]⟩ ⟨#[]⟩ ⟨#[]⟩ false 0 ⟨#[]⟩,.bool false]) (by simp[results,Tryz.results60,go_sem,aP,c0,c1,c2,c3,c4,c5,c6]) rfl ⟨.inl ⟨HF.out,rfl⟩,by rw[HR.out];exact bz⟩
 · obtain⟨h1,h2,h3,h4⟩:=HL.out k t s h b p pa hc
   obtain⟨r,hr⟩:∃ r,aL (aJ k t s h b p pa)=r:=⟨_,rfl⟩;have CR:=aJ2 k t s h b p pa h1 h2 h3 h4 r hr;unfold aP at CR;have w3:dZ v3:=hw.below (by rw[HR.out];exact B3)
   cases r
   · have HF:Hid (cP L.data.toList=none):=zH (by rw[HO.out,hc];simp[Option.filter,hr])
     clear hc HO HL hr h1 h2 h3 h4;obtain⟨c0,c1,c2,c3,c4,c5,c6⟩:=y3.cs
     go_wp2_with fail
     refine(CR.out _ w3.m w3.t w3.k).mono ?_;rintro e v4 ⟨rfl,b4⟩;have x4:=x3.below b4;have B4:=B3.trans (b4.mono (zT x3.lt));clear c0 c1 c2 c3 c4 c5 c6 y3 w3 b4 x3 B3;obtain⟨r0,r1,r2,r3,r4,r5,r6⟩:=x4.cs;have f0:=aB x4 0;have f1:=aB x4 1;have f2:=aB x4 2;have f3:=aB x4 3;have f4:=aB x4 4;have f5:=aB x4 5;have f6:=aB x4 6;have xz:=oL x4 0 ⟨#[]⟩ ⟨#[]⟩ ⟨#[]⟩ false 0 ⟨#[]⟩;have bz:=kQ (R:=R) (zL R) B4 0 ⟨#[]⟩ ⟨#[]⟩ ⟨#[]⟩ false 0 ⟨#[]⟩;clear B4 x4
     go_wp2
     clear r0 r1 r2 r3 r4 r5 r6 f0 f1 f2 f3 f4 f5 f6;generalize((((((v4.setCell ⟨R,0,none⟩ (.int .i64 0)).setCell ⟨R,1,none⟩ (.string ⟨#[]⟩)).setCell ⟨R,2,none⟩ (.string ⟨#[]⟩)).setCell ⟨R,3,none⟩ (.string ⟨#[]⟩)).setCell ⟨R,4,none⟩ (.bool false)).setCell ⟨R,5,none⟩ (.int .i64 0)).setCell ⟨R,6,none⟩ (.string ⟨#[]⟩)=wz at xz bz ⊢;obtain⟨c0,c1,c2,c3,c4,c5,c6⟩:=xz.cs;exact bodyPost_ret (v := .tuple #[aP 0 ⟨#[]⟩ ⟨#[]⟩ ⟨#[]⟩ false 0 ⟨#[]⟩,.bool false]) (by simp[results,Tryz.results60,go_sem,aP,c0,c1,c2,c3,c4,c5,c6]) rfl ⟨.inl ⟨HF.out,rfl⟩,by rw[HR.out];exact bz⟩
   · have HF:Hid (cP L.data.toList=some (aJ k t s h b p pa)):=zH (by rw[HO.out,hc];simp[Option.filter,hr])
     clear hc HO HL hr h1 h2 h3 h4;obtain⟨c0,c1,c2,c3,c4,c5,c6⟩:=y3.cs
     go_wp2_with fail
     refine(CR.out _ w3.m w3.t w3.k).mono ?_;rintro e v4 ⟨rfl,b4⟩;have x4:=x3.below b4;have y4:=y3.below b4;have B4:=B3.trans (b4.mono (zT x3.lt));clear c0 c1 c2 c3 c4 c5 c6 y3 w3 b4 x3 B3;obtain⟨c0,c1,c2,c3,c4,c5,c6⟩:=y4.cs;obtain⟨r0,r1,r2,r3,r4,r5,r6⟩:=x4.cs;have f0:=aB x4 0;have f1:=aB x4 1;have f2:=aB x4 2;have f3:=aB x4 3;have f4:=aB x4 4;have f5:=aB x4 5;have f6:=aB x4 6;have xz:=oL x4 k t s h b p pa;have bz:=kQ (R:=R) (zL R) B4 k t s h b p pa;clear B4 x4 y4
     go_wp2
     clear r0 r1 r2 r3 r4 r5 r6 f0 f1 f2 f3 f4 f5 f6 c0 c1 c2 c3 c4 c5 c6;generalize((((((v4.setCell ⟨R,0,none⟩ (.int .i64 k)).setCell ⟨R,1,none⟩ (.string t)).setCell ⟨R,2,none⟩ (.string s)).setCell ⟨R,3,none⟩ (.string h)).setCell ⟨R,4,none⟩ (.bool b)).setCell ⟨R,5,none⟩ (.int .i64 p)).setCell ⟨R,6,none⟩ (.string pa)=wz at xz bz ⊢;obtain⟨c0,c1,c2,c3,c4,c5,c6⟩:=xz.cs;exact bodyPost_ret (v := .tuple #[aP k t s h b p pa,.bool true]) (by simp[results,Tryz.results60,go_sem,aP,c0,c1,c2,c3,c4,c5,c6]) rfl ⟨.inr ⟨_,_,_,_,_,_,_,HF.out,rfl⟩,by rw[HR.out];exact bz⟩
theorem srcM_inj {k k' p p':Int}{t t' s s' h h' pa pa':ByteArray}{b b':Bool}(e:aJ k t s h b p pa=aJ k' t' s' h' b' p' pa'):k=k'/\t=t'/\s=s'/\h=h'/\b=b'/\p=p'/\pa=pa':=by
 unfold aJ at e;rw[bI.mk.injEq]at e;obtain⟨h1,h2,h3,h4,h5,h6,h7⟩:=e;exact⟨h1,(aM h2).trans (aM rfl).symm,(aM h3).trans (aM rfl).symm,(aM h4).trans (aM rfl).symm,h5,h6,(aM h7).trans (aM rfl).symm⟩
theorem bC7 (L:ByteArray)(hL:L.size<=10000)(k:Int)(t s h:ByteArray)(b:Bool)(p:Int)(pa:ByteArray)(hp:cP L.data.toList=some (aJ k t s h b p pa)):Hid (∀ W,dZ W->Calls Tryz.prog 60 #[.string L] W fun e w'=>e=.returned (.tuple #[aP k t s h b p pa,.bool true])/\Below W.heap.size W w'):=zH fun W hw =>
 (uP L hL W hw).mono fun e w' ⟨h1,h2⟩=>by
   rcases h1 with ⟨h1,_⟩ | ⟨k',t',s',h',b',p',pa',h1,rfl⟩
   · rw[hp]at h1;cases h1
   · rw[hp]at h1
     obtain⟨rfl,rfl,rfl,rfl,rfl,rfl,rfl⟩:=srcM_inj (Option.some.inj h1);exact⟨rfl,h2⟩
theorem aN9 (L:ByteArray)(hL:L.size<=10000)(hp:cP L.data.toList=none):Hid (∀ W,dZ W->Calls Tryz.prog 60 #[.string L] W fun e w'=>e=.returned (.tuple #[aP 0 ⟨#[]⟩ ⟨#[]⟩ ⟨#[]⟩ false 0 ⟨#[]⟩,.bool false])/\Below W.heap.size W w'):=zH fun W hw =>
 (uP L hL W hw).mono fun e w' ⟨h1,h2⟩=>by
   rcases h1 with ⟨_,rfl⟩ | ⟨k',t',s',h',b',p',pa',h1,_⟩
   · exact⟨rfl,h2⟩
   · rw[hp]at h1;cases h1
def srcP (a:Option bI):bI:=a.getD bI.zero
theorem bC6 (L:ByteArray)(hL:L.size<=10000):∃(k:Int) (t s h:ByteArray) (b:Bool) (p:Int) (pa:ByteArray) (r:Bool),aJ k t s h b p pa=srcP (cP L.data.toList)/\(cP L.data.toList).isSome=r/\Hid (∀ W,dZ W->Calls Tryz.prog 60 #[.string L] W fun e w'=>e=.returned (.tuple #[aP k t s h b p pa,.bool r])/\Below W.heap.size W w'):=by
 cases hp:cP L.data.toList with
 | none=>exact⟨0,⟨#[]⟩,⟨#[]⟩,⟨#[]⟩,false,0,⟨#[]⟩,false,rfl,rfl,aN9 L hL hp⟩
 | some a =>
   obtain⟨t,s,h,pa,ha⟩:=mO a;exact⟨a.k,t,s,h,a.w,a.p,pa,true,ha.symm,rfl,bC7 L hL _ _ _ _ _ _ _ (by rw[hp];exact congrArg some ha)⟩
end Go.Proofs.YthnogdodlhkldaaGreatDoor
