/- A drawn region walked once over a class of worlds. Words and parts: the program's. Small letters, trimmed texts, words, parts, rows of texts: the document's. Rows of texts that came in, appended; those that are too big to be looked at: the document's. -/
import Derived.BigQuiet
import Derived.Test.YthnogdodlhkldaaGreatDoorRefZ
import Derived.Shelf.Strings.FieldsFuncAny
import Derived.Lib.SmallJoins
import Derived.Deep.LoopGhost
set_option maxRecDepth 1000000
set_option maxHeartbeats 4000000
namespace Go.Proofs.YthnogdodlhkldaaGreatDoor
open Go.RowKit
theorem aY {P:Program} {id:Nat} {Q:Exit->Act->World->Prop} {a:Act} {w:World} {l:List Oper} (C:World->Prop) (hm:P.follows .mixedOrders=true) (hB:Region.lexB .any l.toArray=true) (hC:C w.drew)
 (h:wpQuiet P l.toArray C (fun a'=>∀ w',C w'->Q .normal a' w') l a):(Code.region id l.toArray true).wp P Q a w :=
 wp_region_quiet (C:=C) hm hB hC (by simpa using h)
end Go.Proofs.YthnogdodlhkldaaGreatDoor
namespace Go.Proofs.YthnogdodlhkldaaGreatDoor
open Go.RowKit Go.Lib
theorem hasA_any (c:UInt8)(w:World):Calls Tryz.prog 195 #[.string ⟨#[9,10,12,13,32]⟩,.int .u8 (c.toNat:Int)] w fun e w'=>e=.returned (.bool (eZ c))/\w=w':=by
 have hI:=fun W=>Tryz.strings_IndexByte ⟨#[9,10,12,13,32]⟩ (c.toNat:Int) W;have e:((c.toNat:Int)).toNat.toUInt8=c:=by simp
 rw[e]at hI;have hm:=dT [9,10,12,13,32] c;change (eZ c=true/\_)\/(eZ c=false/\_)at hm;change ∀ W,Calls Tryz.prog 120 _ W fun e w'=>e=.returned (.int .i64 (Lib.indexByte [9,10,12,13,32] c))/\w'=W at hI;generalize Lib.indexByte [9,10,12,13,32] c=n at hm hI;generalize eZ c=bl at hm ⊢;have HI:=zH hI;clear hI e;rcases hm with ⟨rfl,h⟩ | ⟨rfl,rfl⟩
 · go_enter Tryz.func195,Tryz.ntmps195
   go_wp2_with (go_at_call 120;refine(HI.out _).mono ?_;rintro e w' ⟨rfl,rfl⟩)
   go_ret
   exact⟨rfl,rfl⟩
 · go_enter Tryz.func195,Tryz.ntmps195
   go_wp2_with (go_at_call 120;refine(HI.out _).mono ?_;rintro e w' ⟨rfl,rfl⟩)
   go_ret
   exact⟨rfl,rfl⟩
theorem aD8 (x:Nat)(hx:x<=1114111)(w:World):Calls Tryz.prog 143 #[.string ⟨#[9,10,12,13,32]⟩,.int .i32 (x:Int)] w fun e w'=>e=.returned (.bool (pr x))/\w=w':=by
 by_cases h:x<128
 · have hz:(x:Int)<128:=by omega
   have e1:(x.toUInt8.toNat:Int)=(x:Int):=by simp;omega
   have e2:pr x=eZ x.toUInt8:=by unfold pr;rw[decide_eq_true h];rfl
   have hh:=fun W=>hasA_any x.toUInt8 W;rw[e1]at hh;rw[e2];generalize eZ x.toUInt8=bl at hh ⊢;have HH:=zH hh;clear hh e1 e2
   go_enter Tryz.func143,Tryz.ntmps143
   go_wp2_with (go_at_call 195;refine(HH.out _).mono ?_;rintro e w' ⟨rfl,rfl⟩)
   go_ret
   exact⟨rfl,rfl⟩
 · have hz:¬ (x:Int)<128:=by omega
   have e2:pr x=false:=by unfold pr;rw[decide_eq_false h];rfl
   rw[e2];clear e2
   go_enter Tryz.func143,Tryz.ntmps143
   go_wp2
   go_ret
   exact⟨rfl,rfl⟩
def nN (L:List (List UInt8))(k:Nat):List (List UInt8):=(L.take k).map eI++L.drop k
theorem bD8 (L:List (List UInt8)):nN L 0=L:=by simp[nN]
theorem mixT_all (L:List (List UInt8)):nN L L.length=L.map eI:=by simp[nN]
theorem mixT_at (L:List (List UInt8))(k:Nat)(h:k<L.length):(nN L k)[k]? = some L[k]:=by
 unfold nN;rw[List.getElem?_append_right (by simp;omega)];simp only[List.length_map,List.length_take,List.getElem?_drop];rw[<- List.getElem?_eq_getElem h];congr 1;omega
theorem aQ5 {L:List (List UInt8)}{k:Nat}(h:k<L.length):L.drop k=L[k] :: L.drop (k+1):=List.drop_eq_getElem_cons h
theorem bD9 (L:List (List UInt8))(k:Nat)(h:k<L.length):nN L (k+1)=(nN L k).set k (eI L[k]):=by
 have hl:((L.take k).map eI).length=k:=by simp;omega
 unfold nN;rw[List.set_append_right _ _ (by omega),hl,Nat.sub_self,aQ5 h,List.set_cons_zero];rw[List.take_succ_eq_append_getElem h,List.map_append,List.append_assoc];rfl
theorem vS (L:List (List UInt8))(k:Nat)(x:List UInt8):aC (L.set k x)=(aC L).set k (dA x):=by
 unfold aC;rw[List.map_set]
theorem conv_new (w:World)(zs:List Int)(l:List UInt8)(n:Nat)(hn:n=l.length)(hl:l.map (fun b=>(b.toNat:Int))=zs)(c:Nat)(C:Array Value)(hC:C=(zs.map (Value.int .u8)).toArray) :
 (convert 85 9 (.slice (some ⟨w.heap.size,0,none⟩) n c)).run Tryz.prog (w.alloc (.cells C 5))=.ok (.string ⟨l.toArray⟩) (w.alloc (.cells C 5)):=by
 subst hn;refine run_convert_bytes_back (P:=Tryz.prog) _ 85 9 5 ⟨w.heap.size,0,none⟩ c l Tryz.underlying85 Tryz.underlying5 Tryz.underlying9 (fun j hj => ?_);have e:(⟨w.heap.size,0,none⟩:Addr).add j=⟨w.heap.size,j,none⟩:=by simp[Addr.add];omega
 rw[e,World.cell?_alloc_mark,hC,<- hl];simp[List.getElem?_eq_getElem hj]
theorem uO (s:ByteArray)(c:UInt8)(w:World)(hs:s.size<=1000000000)(hm:aQ w) :
 Calls Tryz.prog 63 #[.string s,.int .u8 (c.toNat:Int)] w fun e w'=>∃ v,e=.returned v/\w'.ownsRow (w.heap.size+1) 9 1 v (parts s.data.toList c).length (aC (parts s.data.toList c))/\Below w.heap.size w w':=by
 have hconv:=conv_new w [(c.toNat:Int)] [c] 1 rfl rfl 1 #[.int .u8 (c.toNat:Int)] rfl;have hsp:=uG s c (w.alloc (.cells #[.int .u8 (c.toNat:Int)] 5)) (by omega) (hm.below ((zB _ _).alloc (zL _) _));have hcl:∀ x∈cut (· == c) s.data.toList,x.length<=1000000000:=fun x hx=>by have:=nX _ _ x hx;rw[aE]at this;omega
 have hpd:parts s.data.toList c=(cut (· == c) s.data.toList).map eI:=rfl;rw[hpd];have hlen:s.data.toList.length<=1000000000:=by rw[aE];exact hs
 have h2:=eU (· == c) s.data.toList;have h3:=dU (· == c) s.data.toList;have hn:(cut (· == c) s.data.toList).length<=1000000001:=by omega
 clear h2 h3 hlen hpd hm;generalize cut (· == c) s.data.toList=L at *;obtain⟨n,hnl⟩:∃ n,L.length=n:=⟨_,rfl⟩;rw[hnl]at hsp hn;have HN:=zH hnl;have HS:=zH hsp;have HC:=zH hcl;clear hnl hsp hcl
 go_enter Tryz.func63,Tryz.ntmps63
 go_wp2_with fail
 refine HS.out.mono ?_;rintro e w1 ⟨rfl,hown1,hb1⟩;have hb1':Below w.heap.size w w1:=((zB _ _).alloc (zL _) _).trans (hb1.mono (by simp));clear hb1 hconv;have hz:(w.alloc (.cells #[.int .u8 (c.toNat:Int)] 5)).heap.size=w.heap.size+1:=by simp
 rw[hz]at hown1;clear hz;have hown0:w1.ownsRow (w.heap.size+1) 9 1 (.slice (some ⟨w.heap.size+1,0,none⟩) n n) n (aC (nN L 0)):=by rw[bD8];exact hown1
 clear hown1
 go_wp2
 go_loopw [6,7,15] (fun _ _ i wr=>∃ k:Nat,i=.int .i64 k/\k<=n/\wr.ownsRow (w.heap.size+1) 9 1 (.slice (some ⟨w.heap.size+1,0,none⟩) n n) n (aC (nN L k))/\Below w.heap.size w wr) (fun _ _ i _=>n - (intOf i).toNat)
 case atStart=>exact⟨0,rfl,Nat.zero_le _,hown0,hb1'⟩
 case round =>
  obtain⟨k,rfl,hk,hown,hbw⟩:=hrel;clear hown0 hb1'
  by_cases hlt:k<n
  · have hlt2:k<L.length:=by rw[HN.out];exact hlt
    obtain⟨x,hx⟩:∃ x,L[k]=x:=⟨_,rfl⟩;have hxl:=HC.out x (by rw[<- hx];exact List.getElem_mem hlt2);obtain⟨X,hX⟩:∃ X:ByteArray,X=⟨x.toArray⟩:=⟨_,rfl⟩;obtain⟨T,hT⟩:∃ T:ByteArray,T=⟨(eI x).toArray⟩:=⟨_,rfl⟩
    have hcell:wr.cell? ⟨w.heap.size+1,k,none⟩=some (.string X):=by
     rw[hown.cellAt k (by omega)];unfold aC;rw[List.getElem?_map,mixT_at L k hlt2,hx,hX];rfl
    have hmix:(aC (nN L k)).set k (.string T)=aC (nN L (k+1)):=by
     rw[bD9 L k hlt2,vS,hx,hT];rfl
    have ct:=fun W=>yN X W (by rw[hX,bsize];omega);have hXd:X.data.toList=x:=by rw[hX]
    rw[hXd,<- hT]at ct;have CT:=zH ct;have HM:=zH hmix;clear ct hmix hXd hX hT hx hxl
    go_wp2_with (go_at_call 90;refine(CT.out _).mono ?_;rintro e w2 ⟨rfl,hb2⟩
                 have hbw2:=hbw.trans (hb2.mono hbw.size);have hown2:=aX hown hb2;have hfree2:=hown2.frozenAt k;have hcell2:w2.cell? ⟨w.heap.size+1,k,none⟩=some (.string X):=by rw[hb2.cell (aH hcell)];exact hcell
                 have hst:=(hown2.stored k (.string T)).1;have hbst:=hbw2.setCell (p:=⟨w.heap.size+1,k,none⟩) (by simp) (.string T)
                 clear hb2 hown2)
    go_roundw
    case rel=>exact⟨k+1,by go_num,by omega,by rw[<- HM.out];exact hst,hbst⟩
    case measure=>simp[intOf];omega
  · obtain rfl:k=n:=by omega
    have hfin:Hid (wr.ownsRow (w.heap.size+1) 9 1 (.slice (some ⟨w.heap.size+1,0,none⟩) k k) (L.map eI).length (aC (L.map eI))):=zH (by
     have e:nN L k=L.map eI:=by rw[<- HN.out,mixT_all]
     have hl:(L.map eI).length=k:=by rw[List.length_map];exact HN.out
     rw[e]at hown
     rw[hl];exact hown)
    clear hown
    go_wp2
    go_ret
    exact⟨_,rfl,hfin.out,hbw⟩
theorem bJ5:(Tryz.prog.info? 195).map (fun i=>(i.zero,i.size,i.bytes))=some (some (.agg #[.int .i64 0,.int .i64 0]),2,16):=by kernel_rfl
def SZ (st:Option Nat)(z:Int):Prop:=match st with
 | none => -9223372036854775808<=z/\z<0
 | some a=>z=(a:Int)
theorem yX (s:ByteArray)(SP:List (Nat × Nat)):SP.map (fun x=>Value.string (s.extract x.1 x.2))=aC (fE s.data.toList SP):=by
 unfold aC fE;rw[List.map_map]
 apply List.map_congr_left
 intro x _;show Value.string _=Value.string _;rw[sK (l:=((s.data.toList.drop x.1).take (x.2 - x.1))) rfl]
theorem aQ3 (s:ByteArray)(w:World)(hs:s.size<=1099511627776) :
 Calls Tryz.prog 142 #[.string s,.func (.func 143) #[.string ⟨#[9,10,12,13,32]⟩] #[]] w fun e w'=>∃ v,e=.returned v/\w'.ownsRow w.heap.size 9 1 v (bY s.data.toList).length (aC (bY s.data.toList))/\Below w.heap.size w w':=by
 obtain⟨i0,hi,hz0,hz1,hz2⟩:=info_parts bJ5;obtain⟨W0,hmk,hown0,hg0⟩:=run_make_own (P:=Tryz.prog) w w.heap.size 193 195 i0 _ 2 Tryz.underlying193 hi hz0 hz1 .i64 .i64 32 (by rw[hz2];decide) (by unfold maxLen;decide) (zL _);rw[show((32:Nat):Int)=32 from rfl]at hmk;have hb0:Below w.heap.size w W0:=(zB _ w).grown hg0 (zL _) (fun k hk=>by cases hk);have eg:∀ args w,(callFunc 143 args).run Tryz.prog w=.ok (.enter 143 args) w:=enters_of Tryz.func143 (by kernel_rfl) rfl;have hll:=aE s;have HLL:=zH hll;clear hll
 go_enter Tryz.func142,Tryz.ntmps142
 go_wp2
 go_loopg [5,6] s.size (fun gf s5 s6 wx=>∃(pos:Nat) (st:Option Nat) (acc:List (Nat × Nat)) (z:Int),s6=.int .i64 z/\SZ st z /\
  wx.ownsRow w.heap.size 195 2 s5 acc.length (Lib.spanCells acc)/\wx.heap[W0.heap.size]? = some (.stringIter s pos)/\Below w.heap.size w wx /\
  Hid (Read s.data.toList pos st acc)/\s.size<=pos+gf/\pos<=s.size/\s5 ≠ .slice none 0 0)
 case atStart =>
  exact⟨0,none,[],-1,rfl,⟨by omega,by omega⟩,hown0.alloc _,World.iter_heap W0 s 0,hb0.alloc hb0.size _,zH (aM0 _),by omega,Nat.zero_le _,(fun h=>by cases h)⟩
 case round =>
  obtain⟨pos,st,acc,z,rfl,hz,hown,hit,hbw,HR,hfu,hps,hnn⟩:=hrel
  by_cases hlt:pos<s.size
  · obtain⟨g',rfl⟩:∃ g',gk=g'+1:=⟨gk - 1,by omega⟩
    have hnx:∀ ty,(Instr.next (.pointer (some ⟨W0.heap.size,0,none⟩)) true ty).run Tryz.prog wr=_:=fun ty=>Lib.run_next_any_at wr W0.heap.size s pos ty hit hlt;have hstep:=step_of s pos hlt;have hrl:=Lib.rune_le s pos;obtain⟨R,hR⟩:∃ R,(Utf8.decode s pos).1=R:=⟨_,rfl⟩;obtain⟨K,hK⟩:∃ K,(Utf8.decode s pos).2=K:=⟨_,rfl⟩;rw[hR,hK]at hnx hstep;rw[hR]at hrl;have hit2:=Lib.iterAt_heap wr W0.heap.size s pos (pos+K) hit;have hbw2:=Lib.below_iterAt hbw (k:=W0.heap.size) hb0.size s (pos+K);have hown2:=own_iterAt hown hit (pos+K);obtain⟨W,hWd⟩:∃ W,wr.iterAt W0.heap.size s (pos+K)=W:=⟨_,rfl⟩;rw[hWd]at hnx hit2 hbw2 hown2;have cS:=aD8 R hrl W;clear hown hit hbw hR hK hWd;rcases hstep with ⟨hp,rfl,hbk⟩ | ⟨hp,hk1,hk2,hnb⟩
    · rw[hp]at cS
      obtain⟨b,hb1,hb2,_⟩:=iS hlt;rw[hb2]at hbk;clear hp hb2
      cases st with
      | none =>
        obtain⟨hz1',hz2'⟩:=hz;have HN:Hid (Read s.data.toList (pos+1) none acc):=zH (aM2 HR.out hb1 hbk);clear HR hb1 hbk
        go_wp2_with (go_at_fn 143;go_must (refine cS.mono ?_;rintro e W' ⟨rfl,rfl⟩))
        go_roundg g'
        case measure=>omega
        case rel=>exact⟨pos+1,none,acc,z,rfl,⟨hz1',hz2'⟩,hown2,hit2,hbw2,HN,by omega,by omega,hnn⟩
      | some a =>
        have hz':z=(a:Int):=hz;subst hz';clear hz;have HN:Hid (Read s.data.toList (pos+1) none (acc++[(a,pos)])):=zH (aM1 HR.out hb1 hbk);have hap:a<pos:=(HR.out.open_ a rfl).1;have hacc:acc.length<=pos:=HR.out.few;have hITW:W0.heap.size<W.heap.size:=(Array.getElem?_eq_some_iff.1 hit2).1;have hX:=hown2.alloc (.cells #[.int .i64 (a:Int),.int .i64 (pos:Int)] 195);clear HR hb1 hbk
        go_wp2_with (first
         | (go_at_fn 143;go_must (refine cS.mono ?_;rintro e W' ⟨rfl,rfl⟩))
         | (at_builtin;go_must (refine wpList_append_own _ rfl (.tmp 24) (.tmp 28) 193 rfl w.heap.size 195 i0 (.agg #[.int .i64 0,.int .i64 0]) 2 16 Tryz.underlying193 hi hz0 hz1 hz2 rfl (by decide) _ _ _ rfl hX ⟨W.heap.size,0,none⟩ 1 1 [.int .i64 (a:Int),.int .i64 (pos:Int)] rfl rfl (cell_two_new' _ _ _ _) (by intro u hu;simp at hu;rcases hu with rfl | rfl<;>rfl) (by unfold maxLen;omega) (by omega) (by have:=hbw2.size;simp;omega) ?_;intro v3 w3 hown3 hgrow3 hnil3)))
        rw[i64_not a (by omega)]
        go_roundg g'
        case measure=>omega
        case rel =>
         refine⟨pos+1,none,acc++[(a,pos)],-1 - (a:Int),rfl,⟨by omega,by omega⟩,by rw[List.length_append,Lib.spanCells_snoc];exact hown3,?_,?_,HN,by omega,by omega,fun h=>by have:=(hnil3.1 h).2;omega⟩
         · exact(hgrow3.block W0.heap.size (by simp;omega) (own_ne_iter hown2 hit2)).trans ((Below.heap_alloc _ _ _ hITW).trans hit2)
         · exact(hbw2.alloc hbw2.size _).grown hgrow3 (by have:=hbw2.size;simp;omega) (fun j hj=>(hX.lt j hj).1)
    · rw[hp]at cS
      have HNB:=zH hnb;clear hp hnb
      cases st with
      | none =>
        obtain⟨hz1',hz2'⟩:=hz;have HN:Hid (Read s.data.toList (pos+K) (some pos) acc):=zH (read_new HR.out hk1 (by rw[HLL.out];exact hk2) HNB.out);clear HR HNB
        go_wp2_with (go_at_fn 143;go_must (refine cS.mono ?_;rintro e W' ⟨rfl,rfl⟩))
        go_roundg g'
        case measure=>omega
        case rel=>exact⟨pos+K,some pos,acc,pos,rfl,rfl,hown2,hit2,hbw2,HN,by omega,hk2,hnn⟩
      | some a =>
        have hz':z=(a:Int):=hz;subst hz';clear hz;have HN:Hid (Read s.data.toList (pos+K) (some a) acc):=zH (read_in HR.out hk1 (by rw[HLL.out];exact hk2) HNB.out);have hap:a<pos:=(HR.out.open_ a rfl).1;clear HR HNB
        go_wp2_with (go_at_fn 143;go_must (refine cS.mono ?_;rintro e W' ⟨rfl,rfl⟩))
        go_roundg g'
        case measure=>omega
        case rel=>exact⟨pos+K,some a,acc,a,rfl,rfl,hown2,hit2,hbw2,HN,by omega,hk2,hnn⟩
  · obtain rfl:pos=s.size:=by omega
    have hnx:∀ ty,(Instr.next (.pointer (some ⟨W0.heap.size,0,none⟩)) true ty).run Tryz.prog wr=_:=fun ty=>Lib.run_next_end_at wr W0.heap.size s s.size ty hit hlt;have hacc:acc.length<=s.size:=HR.out.few
    go_upto_if 36 with fail
    go_cut [5] (fun s5 wx=>∃ SP:List (Nat × Nat),wx.ownsRow w.heap.size 195 2 s5 SP.length (Lib.spanCells SP)/\Below w.heap.size w wx/\s5 ≠ .slice none 0 0/\SP.length<=s.size+1/\Hid (fE s.data.toList SP=bY s.data.toList/\∀ x∈SP,x.1<=x.2/\x.2<=s.size))
    case first =>
     cases st with
     | none =>
       obtain⟨hz1',hz2'⟩:=hz
       have HF:Hid (fE s.data.toList acc=bY s.data.toList/\∀ x∈acc,x.1<=x.2/\x.2<=s.size):=zH (by
        have h:=HR.out;rw[<- HLL.out]at h ⊢
        exact⟨read_end h,h.spans⟩)
       clear HR
       go_wp2_with fail
       go_meet
       exact⟨acc,hown,hbw,hnn,by omega,HF⟩
     | some a =>
       have hz':z=(a:Int):=hz;subst hz';clear hz
       have HF:Hid (fE s.data.toList (acc++[(a,s.size)])=bY s.data.toList/\∀ x∈acc++[(a,s.size)],x.1<=x.2/\x.2<=s.size):=zH (by
        have h:=HR.out;rw[<- HLL.out]at h ⊢
        exact tM h)
       have hX:=hown.alloc (.cells #[.int .i64 (a:Int),.int .i64 (s.size:Int)] 195);clear HR
       go_wp2_with (at_builtin;go_must (refine wpList_append_own _ rfl (.tmp 37) (.tmp 42) 193 rfl w.heap.size 195 i0 (.agg #[.int .i64 0,.int .i64 0]) 2 16 Tryz.underlying193 hi hz0 hz1 hz2 rfl (by decide) _ _ _ rfl hX ⟨wr.heap.size,0,none⟩ 1 1 [.int .i64 (a:Int),.int .i64 (s.size:Int)] rfl rfl (cell_two_new' _ _ _ _) (by intro u hu;simp at hu;rcases hu with rfl | rfl<;>rfl) (by unfold maxLen;omega) (by omega) (by have:=hbw.size;simp;omega) ?_;intro v3 w3 hown3 hgrow3 hnil3))
       go_wp2_with fail
       go_meet
       exact⟨acc++[(a,s.size)],by rw[List.length_append,Lib.spanCells_snoc];exact hown3,(hbw.alloc hbw.size _).grown hgrow3 (by have:=hbw.size;simp;omega) (fun j hj=>(hX.lt j hj).1),fun h=>by have:=(hnil3.1 h).2;omega,by simp;omega,HF⟩
    case rest =>
     obtain⟨SP,hownS,hbS,hnnS,hlenS,HF⟩:=hcut;clear hown hit hbw HR hnn hnx hacc hz
     obtain⟨g5,cap5,rfl⟩:∃ g5 cap5,u5=.slice (some ⟨g5,0,none⟩) SP.length cap5:=by
      rcases bS hownS with ⟨h,h2⟩ | h
      · exact absurd h hnnS
      · exact h
     clear hnnS;have hg5:g5<wc.heap.size:=(hownS.lt g5 rfl).2;obtain⟨i9,hi9',hz90,hz91,hz92⟩:=info_parts pI;obtain⟨W5,hmk5,hown5,hgr5⟩:=run_make_full (P:=Tryz.prog) wc w.heap.size 34 9 i9 _ 1 Tryz.underlying34 hi9' hz90 hz91 .i64 .i64 SP.length (by rw[hz92];omega) (by unfold maxLen;omega) hbS.size;have hS5:=hownS.kept hgr5 (Classical.em _);have hb5:Below w.heap.size w W5:=hbS.grown hgr5 hbS.size (fun k hk=>by cases hk);rw[show(Value.string ⟨#[]⟩).cells=#[Value.string ⟨#[]⟩]from rfl,Nat.mul_one,toList_madeCells_one,<- Lib.rowAt_zero s SP]at hown5
     go_wp2
     go_loopg [49] SP.length (fun gf s49 wx=>∃ i:Nat,i+gf=SP.length/\s49=.int .i64 i/\wx.ownsRow w.heap.size 9 1 (.slice (some ⟨wc.heap.size,0,none⟩) SP.length SP.length) SP.length (Lib.rowAt s SP i) /\
      wx.ownsRow w.heap.size 195 2 (.slice (some ⟨g5,0,none⟩) SP.length cap5) SP.length (Lib.spanCells SP)/\Below w.heap.size w wx)
     case atStart=>exact⟨0,by omega,rfl,hown5,hS5,hb5⟩
     case round =>
      obtain⟨i,hig,rfl,hA,hS,hbr⟩:=hrel
      cases gk with
      | zero =>
        have hin:¬ ((i:Int)<(SP.length:Int)):=by omega
        obtain rfl:i=SP.length:=by omega
        rw[Lib.rowAt_all,yX]at hA;have hlp:(fE s.data.toList SP).length=SP.length:=by simp[fE]
        have HV:Hid (wr.ownsRow w.heap.size 9 1 (.slice (some ⟨wc.heap.size,0,none⟩) SP.length SP.length) (bY s.data.toList).length (aC (bY s.data.toList))):=zH (by
         have h2:wr.ownsRow w.heap.size 9 1 (.slice (some ⟨wc.heap.size,0,none⟩) SP.length SP.length) (fE s.data.toList SP).length (aC (fE s.data.toList SP)):=by rw[hlp];exact hA
         rw[HF.out.1]at h2
         exact h2)
        clear hA hlp HF
        go_wp2
        go_ret
        exact⟨_,rfl,HV.out,hbr⟩
      | succ gf =>
        have hin:(i:Int)<(SP.length:Int):=by omega
        obtain⟨x,hx⟩:∃ x,SP[i]? = some x:=⟨_,List.getElem?_eq_getElem (by omega)⟩;have hxo:=HF.out.2 x (List.mem_of_getElem? hx);have hc0:wr.cell? ⟨g5,i * 2,none⟩=some (.int .i64 x.1):=(hS.cellAt (i * 2) (by omega)).trans (Lib.spanCells_at SP i x hx).1;have hc1:wr.cell? ⟨g5,i * 2+1,none⟩=some (.int .i64 x.2):=(hS.cellAt (i * 2+1) (by omega)).trans (Lib.spanCells_at SP i x hx).2;have hA':=hA.alloc (.cells #[.int .i64 (x.1:Int),.int .i64 (x.2:Int)] 195);have hS':=hS.alloc (.cells #[.int .i64 (x.1:Int),.int .i64 (x.2:Int)] 195);obtain⟨old,hold⟩:∃ old,(Lib.rowAt s SP i)[i]? = some old:=⟨_,List.getElem?_eq_getElem (by have:=hA.1;omega)⟩;have hcA:=(hA'.cellAt i (by omega)).trans hold;have hfA:=hA'.frozenAt i;have hst':=hA'.stored i (.string (s.extract x.1 x.2));rw[Lib.rowAt_set s SP i x hx]at hst';have HST:=zH hst';have HX:=zH hx;clear hst' hx hold
        go_wp2
        go_roundg gf
        case measure=>omega
        case rel =>
         refine⟨i+1,by omega,by go_num,HST.out.1,hS'.kept HST.out.2 (by simp[Value.ownBlock];omega),?_⟩;exact(hbr.alloc hbr.size _).grown HST.out.2 (by have:=hbr.size;simp;omega) (fun k hk=>by cases hk;exact hbS.size)
theorem aV9 (s:ByteArray)(w:World)(hs:s.size<=1099511627776) :
 Calls Tryz.prog 101 #[.string s] w fun e w'=>∃ v,e=.returned v/\w'.ownsRow w.heap.size 9 1 v (bY s.data.toList).length (aC (bY s.data.toList))/\Below w.heap.size w w':=by
 have hmf:∀(fn:Fn) (first cap:Array Value) (w:World),(Instr.makeFunc fn first cap).run Tryz.prog w=.ok (.func fn first cap) w:=fun _ _ _ _=>rfl;have hF:=fun W=>aQ3 s W hs;have HF:=zH hF;clear hF
 go_enter Tryz.func101,Tryz.ntmps101
 go_wp2_with (go_at_call 142;refine(HF.out _).mono ?_;rintro e w' ⟨v,rfl,hv,hb⟩)
 go_ret
 exact⟨_,rfl,hv,hb⟩
end Go.Proofs.YthnogdodlhkldaaGreatDoor
namespace Go.Proofs.YthnogdodlhkldaaGreatDoor
open Go.RowKit
def aV1 (p q:List (List UInt8)):Bool:=decide (p=q)
theorem str_eq (a b:List UInt8):((⟨a.toArray⟩:ByteArray).toList==(⟨b.toArray⟩:ByteArray).toList)=decide (a=b):=fZ _ _
theorem oK (p q:List (List UInt8))(u v:Value)(w:World)(hp:aR w u p)(hq:aR w v q)(hl:p.length<=9223372036854775807)(hl2:q.length<=9223372036854775807) :
 Calls Tryz.prog 16 #[u,v] w fun e w'=>e=.returned (.bool (aV1 p q))/\∃ n,w'=w.drewN n:=by
 have hu:=hp.form;have hv:=hq.form
 by_cases hne:p.length=q.length
 · by_cases h0:p.length=0
   · obtain⟨a,c,rfl⟩:=hu
     obtain⟨a2,c2,rfl⟩:=hv;have e1:p=[]:=List.length_eq_zero_iff.1 h0;have e2:q=[]:=List.length_eq_zero_iff.1 (by omega);subst e1 e2;clear hp hq hl hl2 hne h0
     go_enter Tryz.func16,Tryz.ntmps16
     go_wp2
     refine wp_loop_rounds 1 ?_;rw[rounds_succ]
     go_wp2
     go_ret
     exact⟨rfl,0,rfl⟩
   · rcases hp with ⟨_,rfl⟩ | ⟨B,off,cap,rfl,hc⟩
     · exact absurd rfl h0
     rcases hq with ⟨_,rfl⟩ | ⟨B2,off2,cap2,rfl,hc2⟩
     · exact absurd hne h0
     clear hu hv;have g2:((p.length:Int) != (q.length:Int))=false:=by simp[hne]
     have HN:=zH hne;have h0':0<p.length:=by omega
     clear hne h0
     go_enter Tryz.func16,Tryz.ntmps16
     go_wp2
     go_loopw [5] (fun i wr=>∃ k n:Nat,i=.int .i64 k/\k<=p.length/\wr=w.drewN n/\Hid (p.take k=q.take k)) (fun i _=>p.length - (intOf i).toNat)
     case atStart=>exact⟨0,0,rfl,Nat.zero_le _,rfl,rfl⟩
     case round =>
      obtain⟨k,n,rfl,hk,rfl,HS⟩:=hrel
      by_cases hlt:k<p.length
      · have hlt2:k<q.length:=by have:=HN.out;omega
        have hcell:=hc k hlt;have hcell2:=hc2 k hlt2;have hix:(k:Int)<(p.length:Int):=by omega
        have hix2:(k:Int)<(q.length:Int):=by omega
        have hT:Hid (p.take (k+1)=p.take k++[p[k]]/\q.take (k+1)=q.take k++[q[k]]):=⟨by rw[List.take_succ_eq_append_getElem hlt],by rw[List.take_succ_eq_append_getElem hlt2]⟩
        have hE:Hid (p[k]≠q[k]->aV1 p q=false):=fun h=>by
         unfold aV1;rw[decide_eq_false];rintro rfl;exact h rfl
        generalize p[k]=x at *;generalize q[k]=y at *;have hb:=str_eq x y;unfold dA at hcell hcell2;obtain⟨X,hX⟩:∃ X:ByteArray,X=⟨x.toArray⟩:=⟨_,rfl⟩;obtain⟨Y,hY⟩:∃ Y:ByteArray,Y=⟨y.toArray⟩:=⟨_,rfl⟩;rw[<- hX]at hcell hb;rw[<- hY]at hcell2 hb;clear hc hc2 hX hY
        by_cases hxy:x=y
        · subst hxy
          rw[decide_eq_true rfl]at hb
          go_wp2_with fail
          go_quiet (fail)
          go_wp2
          go_roundw
          case rel=>exact⟨k+1,n+nq,by go_num,by omega,rfl,by show _=_;rw[hT.out.1,hT.out.2,HS.out]⟩
          case measure=>simp[intOf];omega
        · rw[decide_eq_false hxy]at hb
          have e:=hE.out hxy;have HE:=zH e;clear e hxy
          go_wp2_with fail
          go_quiet (fail)
          go_wp2
          go_ret
          exact⟨by rw[HE.out];rfl,n+nq,World.drewN_drewN _ _ _⟩
      · obtain rfl:k=p.length:=by omega
        have e:aV1 p q=true:=by
         unfold aV1;have h1:=HS.out;rw[List.take_length,List.take_of_length_le (by have:=HN.out;omega)]at h1;rw[decide_eq_true h1]
        have HE:=zH e;clear e hc hc2
        go_wp2
        go_ret
        exact⟨by rw[HE.out];rfl,n,rfl⟩
 · obtain⟨a,c,rfl⟩:=hu
   obtain⟨a2,c2,rfl⟩:=hv;have g2:((p.length:Int) != (q.length:Int))=true:=by simp;omega
   have e:aV1 p q=false:=by unfold aV1;rw[decide_eq_false];intro h;exact hne (by rw[h])
   rw[e];clear hne e hp hq
   go_enter Tryz.func16,Tryz.ntmps16
   go_wp2
   go_ret
   exact⟨rfl,0,rfl⟩
theorem eqT_self (p:List (List UInt8)):aV1 p p=true:=by unfold aV1;rw[decide_eq_true rfl]
end Go.Proofs.YthnogdodlhkldaaGreatDoor
namespace Go.Proofs.YthnogdodlhkldaaGreatDoor
open Go.RowKit
theorem nil_app {w:World}{base:Nat}{v:Value}{n:Nat}{xs:List Value}(hown:w.ownsRow base 9 1 v n xs)(ty:TypeId)(c:Nat):(Builtin.append_ #[34,34] ty #[v,.slice none 0 c]).run Tryz.prog w=.ok v w:=by
 obtain⟨i0,hi,hz0,hz1,hz2⟩:=info_parts pI;rcases hown.2 with ⟨rfl,rfl⟩ | ⟨g,cap,cur,rfl,_,_,hnc,_⟩
 · simp[Builtin.append_,run_underlying Tryz.underlying34,sizeOf,typeInfo,hi,Builtin.lenOf,Builtin.firstCells]
 · simp[Builtin.append_,run_underlying Tryz.underlying34,sizeOf,typeInfo,hi,Builtin.lenOf,Builtin.firstCells,hnc,storeCells]
theorem bG {w:World} {ops:Array Oper} {rest:List Oper} {o:Oper} {a:Act} {Q:Exit->Act->World->Prop} (hgd:o.guard=none) (s x:Operand)
 (ho:o.op=.call { callee := .builtin .append,args:=#[s,x],argTypes:=#[34,34] }) (base:Nat) (v0:Value) (n:Nat) (xs:List Value)
 (hs:a.eval s=v0) (hown:w.ownsRow base 9 1 v0 n xs) (u:Value) (l:List (List UInt8)) (hx:a.eval x=u) (hin:aR w u l)
 (h63:n+l.length<=1099511627776) (hbase:base<=w.heap.size)
 (h:∀ v' w',w'.ownsRow base 9 1 v' (n+l.length) (xs++aC l)->w.grownBy w' v0.ownBlock->wpList Tryz.prog ops Q rest (a.put o.dst v') w'):wpList Tryz.prog ops Q (o :: rest) a w:=by
 obtain⟨i0,hi,hz0,hz1,hz2⟩:=info_parts pI
 have via:∀(ad:Addr) (c:Nat),u=.slice (some ad) l.length c->(∀ j v,(aC l)[j]? = some v->w.cell? (ad.add j)=some v)->wpList Tryz.prog ops Q (o :: rest) a w:=fun ad c hu hc=>by
  refine wpList_append_own w hgd s x 34 ho base 9 i0 (.string ⟨#[]⟩) 1 16 Tryz.underlying34 hi hz0 hz1 hz2 rfl (by decide) _ n xs hs hown ad l.length c (aC l) (by rw[hx,hu]) (by simp[aC]) hc (fun v hv => ?_) (by unfold maxLen;omega) (by omega) hbase ?_
  · obtain⟨b,_,rfl⟩:=List.mem_map.1 hv
    rfl
  · intro v' w' h1 h2 _
    exact h v' w' h1 h2
 rcases hin with ⟨⟨a0,c0,rfl⟩,rfl⟩ | ⟨B,off,cap,rfl,hc⟩
 · cases a0 with
   | none =>
     refine wpList_plain hgd fun K hK => ?_;have hrun:=nil_app hown o.type c0;unfold Oper.wp execOp;simp only[ho,resolve,invoke,builtin,Sem.run_bind,Sem.run_pure,Result.andThen_ok,List.map_toArray,List.map_cons,List.map_nil,hs,hx,hrun];exact hK _ _ (h _ _ (by simpa [aC] using hown) (World.grownBy.refl w _))
   | some ad=>exact via ad c0 rfl (fun j v hj=>by simp[aC]at hj)
 · refine via ⟨B,off,none⟩ cap rfl (fun j v hj => ?_)
   have hj':j<l.length:=by
    have:=(List.getElem?_eq_some_iff.1 hj).1
    simpa [aC] using this
   have e:(⟨B,off,none⟩:Addr).add j=⟨B,off+j,none⟩:=by unfold Addr.add;split<;>simp_all
   rw[e,hc j hj'];simp[aC,List.getElem?_eq_getElem hj']at hj;rw[<- hj]
theorem cE (W:World)(p:List (List UInt8))(C:Array Value)(hC:C=(aC p).toArray)(n:Nat)(hn:n=p.length)(c:Nat):aR (W.alloc (.cells C 9)) (.slice (some ⟨W.heap.size,0,none⟩) n c) p:=by
 subst hn hC;refine .inr ⟨_,0,c,rfl,fun j hj => ?_⟩;rw[Nat.zero_add,World.cell?_alloc_mark];simp[aC,List.getElem?_eq_getElem hj]
def yF (M L:Nat)(p:List (List UInt8))(w:World)(e:Ending)(w':World):Prop:=∃ b,e=.returned (.bool b)/\w=w'/\(b=false->p.length<=M/\∀ t∈p,t.length<=L)
theorem aL8 (M L:Nat)(hM:M<=1000000)(p:List (List UInt8))(v:Value)(w:World)(hp:aR w v p)(hl:p.length<=9223372036854775807):Calls Tryz.prog 35 #[v,.int .i64 (M:Int),.int .i64 (L:Int)] w (yF M L p w):=by
 obtain⟨a,c,rfl⟩:=hp.form
 by_cases h20:M<p.length
 · have hz:(M:Int)<(p.length:Int):=by omega
   clear hp h20
   go_enter Tryz.func35,Tryz.ntmps35
   go_wp2
   go_ret
   exact⟨true,rfl,rfl,fun h=>by cases h⟩
 · have hz:¬ (M:Int)<(p.length:Int):=by omega
   have hp20:p.length<=M:=by omega
   have hcell:Hid (∀ j,(h:j<p.length)->∃ B off,a=some ⟨B,off,none⟩/\w.cell? ⟨B,off+j,none⟩=some (dA p[j])):=zH fun j h=>by
    rcases hp with ⟨_,h2⟩ | ⟨B,off,cap,h1,h2⟩
    · subst h2;simp at h
    · cases h1
      exact⟨B,off,rfl,h2 j h⟩
   clear hp h20
   go_enter Tryz.func35,Tryz.ntmps35
   go_wp2
   go_loop [7] (fun i=>∃ k:Nat,k<=p.length/\i=.int .i64 k/\Hid (∀ j,(h:j<p.length)->j<k->(p[j]).length<=L)) (fun i=>p.length - (intOf i).toNat)
   case atStart=>exact⟨0,Nat.zero_le _,rfl,fun j _ h=>absurd h (Nat.not_lt_zero _)⟩
   case round =>
    obtain⟨k,hk,rfl,HS⟩:=hrel
    by_cases hlt:k<p.length
    · obtain⟨B,off,rfl,hc⟩:=hcell.out k hlt
      have HN:Hid (p[k].length<=L->∀ j,(h:j<p.length)->j<k+1->(p[j]).length<=L):=fun h1 j hj hjk=>by
       by_cases e:j=k
       · subst e;exact h1
       · exact HS.out j hj (by omega)
      obtain⟨T,hT⟩:=aO p[k];have hc2:w.cell? ⟨B,off+k,none⟩=some (.string T):=by rw[hc,aM hT];rfl
      have hTs:T.size=p[k].length:=by rw[<- hT];simp
      rw[<- hTs]at HN;clear hc hT hTs
      by_cases hg:L<T.size
      · have hz2:(L:Int)<(T.size:Int):=by omega
        go_wp2
        go_ret
        exact⟨true,rfl,rfl,fun h=>by cases h⟩
      · have hz2:¬ (L:Int)<(T.size:Int):=by omega
        have HM:=zH (HN.out (by omega));clear hg
        go_wp2
        go_round
        case rel=>exact⟨k+1,by omega,by go_num,HM⟩
        case measure=>simp[intOf];omega
    · obtain rfl:k=p.length:=by omega
      go_wp2
      go_ret
      exact⟨false,rfl,rfl,fun _=>⟨hp20,fun t ht=>by obtain⟨j,hj,rfl⟩:=List.getElem_of_mem ht;exact HS.out j hj hj⟩⟩
end Go.Proofs.YthnogdodlhkldaaGreatDoor
