/- The program's nodes: has a node nothing that only elements have; the place of an attribute; do names differ. The program's nodes: may a node be. The program's nodes: is a number a node; has each that stands anywhere its place (the kids marked one by one). The program's nodes: how many are reached from those that stand nowhere. -/
import Derived.Laws.OwnMore
import Derived.Test.YtlnfbjbagmfpiaaGreatDoorDoZG
set_option maxRecDepth 100000
set_option maxHeartbeats 16000000
namespace Go.Proofs.YtlnfbjbagmfpiaaGreatDoor.Dm
open Go.RowKit
theorem bare_one (k:Int)(N D:ByteArray)(p:Int)(b s:Bool)(n:Nat)(a:Option Addr)(c:Nat)(kv:Value)(w:World):Calls Tryz.prog 127 #[.agg #[.int .i64 k,.string N,.string D,.slice a n c,.int .i64 p,kv,.bool b,.bool s]] w fun e w'=>e=.returned (.bool (decide (n=0) && !b && !s&&decide (N.data.toList=[])))/\Below w.heap.size w w':=by
 have al:=(Below.refl w.heap.size w).alloc (Nat.le_refl _) (.cells #[.int .i64 k,.string N,.string D,.slice a n c,.int .i64 p,kv,.bool b,.bool s] 39);have hbx:=new_block w (.cells #[.int .i64 k,.string N,.string D,.slice a n c,.int .i64 p,kv,.bool b,.bool s] 39);generalize hw1:w.alloc (.cells #[.int .i64 k,.string N,.string D,.slice a n c,.int .i64 p,kv,.bool b,.bool s] 39)=w1 at al hbx;have e1:=cell_of hbx 1;have e3:=cell_of hbx 3;have e6:=cell_of hbx 6;have e7:=cell_of hbx 7;have HB:=Lib.hid al;clear al hbx
 go_enter Tryz.func127,Tryz.ntmps127
 go_wp2
 all_goals go_ret
 all_goals refine⟨?_,HB.out⟩
 all_goals clear hw1 e1 e3 e6 e7
 all_goals simp_all [ByteArray.toList_eq]
 all_goals first | done | exact arr_empty _
theorem bare_hid (x:Nd):Hid (∀ W av kv,AtIn W av x.a->Calls Tryz.prog 127 #[nodeV x av kv] W fun e w'=>e=.returned (.bool (bareM x))/\Below W.heap.size W w'):=Lib.hid fun w av kv ha=>by
 obtain⟨a,c,rfl⟩:=ha.form;obtain⟨N,hN⟩:=text_of x.n;obtain⟨D,hD⟩:=text_of x.d;unfold nodeV;rw[strV_of hN,strV_of hD];unfold bareM;rw[<- hN]
 have e0:decide (x.a=[])=decide (x.a.length=0):=by
  by_cases h:x.a=[]
  · rw[h];rfl
  · rw[decide_eq_false h,decide_eq_false (by have:=List.length_pos_iff.2 h;omega)]
 rw[e0];exact bare_one x.k N D x.p x.b x.s x.a.length a c kv w
def capN (Nb:Nat):Value := .func (.func 106) #[] #[.pointer (some ⟨Nb,0,none⟩)]
def textN (w:World)(Nb:Nat)(X:ByteArray):Prop:=w.cell? ⟨Nb,0,none⟩=some (.string X)
theorem textN.below {w w':World}{Nb:Nat}{X:ByteArray}(h:textN w Nb X)(b:Below w.heap.size w w'):textN w' Nb X:=by
 unfold textN at *;rw[b.cell (lt_of_cell h)];exact h
theorem same_name (NM VL X:ByteArray)(Nb:Nat)(b:Bool)(h:decide (NM.data.toList=X.data.toList)=b):Hid (∀ W,textN W Nb X->Calls Tryz.prog 106 #[.agg #[.string NM,.string VL],.pointer (some ⟨Nb,0,none⟩)] W fun e w'=>e=.returned (.bool b)/\Below W.heap.size W w'):=Lib.hid fun w hx=>by
 have al:=(Below.refl w.heap.size w).alloc (Nat.le_refl _) (.cells #[.string NM,.string VL] 41);have x1:(w.alloc (.cells #[.string NM,.string VL] 41)).cell? ⟨Nb,0,none⟩=some (.string X):=hx.below al;have g:(NM.toList==X.toList)=b:=by rw[text_lit,ByteArray.toList_eq];exact h
 have HAL:=Lib.hid al;clear h hx al
 go_enter Tryz.func106,Tryz.ntmps106
 go_wp2
 go_ret
 exact⟨rfl,HAL.out⟩
theorem indexFunc_hid (A:List (List UInt8 × List UInt8))(X:ByteArray)(Nb:Nat)(hl:A.length<=1000000):Hid (∀ W av,AtIn W av A->textN W Nb X->Calls Tryz.prog 105 #[av,capN Nb] W fun e w'=>e=.returned (.int .i64 (findI X.data.toList A))/\Below W.heap.size W w'):=Lib.hid fun w av ha hx=>by
 obtain⟨a,c,rfl⟩:=ha.form;have HA:=Lib.hid ha;have HX:=Lib.hid hx;clear ha hx;unfold capN
 go_enter Tryz.func105,Tryz.ntmps105
 go_wp2
 go_loopw [5,8] (fun _ j wr=>∃ k:Nat,j=.int .i64 k/\k<=A.length/\Below w.heap.size w wr/\Hid (∀ i,(h:i<A.length)->i<k->A[i].1≠X.data.toList)) (fun _ j _=>A.length - (intOf j).toNat)
 case atStart=>exact⟨0,rfl,Nat.zero_le _,Below.refl _ _,Lib.hid fun i _ h=>by omega⟩
 case round =>
  obtain⟨k,rfl,hk,hb,HN⟩:=hrel
  by_cases hlt:k<A.length
  · have har:=HA.out.below hb
    obtain⟨B,off,rfl,c0,c1⟩:=har.at hlt;obtain⟨NM,hNM⟩:=text_of A[k].1;obtain⟨VL,hVL⟩:=text_of A[k].2;rw[strV_of hNM]at c0;rw[strV_of hVL]at c1;have hxr:=HX.out.below hb;obtain⟨b,hbb⟩:∃ b,decide (NM.data.toList=X.data.toList)=b:=⟨_,rfl⟩;have CC:=same_name NM VL X Nb b hbb;have HB:Hid (b=decide (A[k].1=X.data.toList)):=Lib.hid (by rw[<- hbb,hNM]);have hsz:=hb.size;clear hbb hVL hNM har
    cases b with
    | false =>
      have HN2:Hid (∀ i,(h:i<A.length)->i<k+1->A[i].1≠X.data.toList):=Lib.hid fun i hi h2=>by
       by_cases e:i=k
       · subst e
         exact of_decide_eq_false HB.out.symm
       · exact HN.out i hi (by omega)
      clear HN HB
      go_wp2_with fail
      (refine(CC.out _ hxr).mono ?_)
      rintro e w1 ⟨rfl,b1⟩;have hb1:=hb.trans (b1.mono hsz);clear hb b1 hxr c0 c1
      go_wp2
      go_roundw
      case rel=>exact⟨k+1,by go_num,by omega,hb1,HN2⟩
      case measure=>simp[intOf];omega
    | true =>
      have HF:Hid (findI X.data.toList A=(k:Int)):=Lib.hid (by unfold findI;rw[atM_here hlt HN.out (of_decide_eq_true HB.out.symm),if_pos hlt]);clear HN HB
      go_wp2_with fail
      (refine(CC.out _ hxr).mono ?_)
      rintro e w1 ⟨rfl,b1⟩;have hb1:=hb.trans (b1.mono hsz);clear hb b1 hxr c0 c1
      go_wp2
      go_ret
      exact⟨by rw[HF.out];rfl,hb1⟩
  · obtain rfl:k=A.length:=by omega
    have HF:Hid (findI X.data.toList A = -1):=Lib.hid (by unfold findI;rw[if_neg];rw[atM_none fun j hj=>HN.out j hj hj];omega);clear HN
    go_wp2
    go_ret
    exact⟨by rw[HF.out];rfl,hb⟩
theorem place_hid (A:List (List UInt8 × List UInt8))(X:ByteArray)(hl:A.length<=1000000):Hid (∀ W av,AtIn W av A->Calls Tryz.prog 69 #[av,.string X] W fun e w'=>e=.returned (.int .i64 (findI X.data.toList A))/\Below W.heap.size W w'):=Lib.hid fun w av ha=>by
 have al:=(Below.refl w.heap.size w).alloc (Nat.le_refl _) (.cells #[.string X] 9);have hbx:=new_block w (.cells #[.string X] 9);have C:=Lib.hid ((indexFunc_hid A X w.heap.size hl).out _ av (ha.below al) (cell_of hbx 0));obtain⟨a,c,rfl⟩:=ha.form;have HB:=Lib.hid al;clear ha al hbx;have hmf:∀(fn:Fn) (first cap:Array Value) (w:World),(Instr.makeFunc fn first cap).run Tryz.prog w=.ok (.func fn first cap) w:=fun _ _ _ _=>rfl;unfold capN at C;generalize findI X.data.toList A=r at C ⊢
 go_enter Tryz.func69,Tryz.ntmps69
 go_wp2_with fail
 refine C.out.mono ?_;rintro e w1 ⟨rfl,b1⟩;have HB1:=Lib.hid (HB.out.trans (b1.mono HB.out.size));clear C b1 HB
 go_wp2
 go_ret
 exact⟨rfl,HB1.out⟩
theorem AtIn.take {w:World}{a:Option Addr}{c:Nat}{A:List (List UInt8 × List UInt8)}(h:AtIn w (.slice a A.length c) A){k:Nat}(hk:k<=A.length):AtIn w (.slice a k c) (A.take k):=by
 have hl:(A.take k).length=k:=by simp;omega
 by_cases h0:k=0
 · subst h0
   exact AtIn.nil w a c
 · refine⟨by rw[atC_length],atC_one _,.inr ?_⟩
   rcases h.2.2 with ⟨_,e⟩ | ⟨B,off,cap,e1,e2⟩
   · omega
   · cases e1
     refine⟨B,off,c,by rw[hl],fun j v hj=>e2 j v ?_⟩
     have e:atC A=atC (A.take k)++atC (A.drop k):=by
      conv=>lhs;rw[<- List.take_append_drop k A]
      unfold atC;rw[List.flatMap_append]
     rw[e,List.getElem?_append_left (List.getElem?_eq_some_iff.1 hj).1];exact hj
theorem findI_none {name:List UInt8}{A:List (List UInt8 × List UInt8)}:findI name A<0↔name ∉ A.map Prod.fst:=by
 unfold findI
 by_cases h:atM name A<A.length
 · rw[if_pos h]
   refine⟨fun h=>by omega,fun hn=>absurd ?_ hn⟩;have e:=findA_at name A;rw[List.getElem?_eq_getElem h]at e
   by_cases hm:name∈A.map Prod.fst
   · exact hm
   · rw[find_none.2 hm]at e
     cases e
 · rw[if_neg h]
   refine⟨fun _ => ?_,fun _=>by omega⟩;rw[<- find_none,findA_at,List.getElem?_eq_none (by omega)];rfl
theorem nodup_take {A:List (List UInt8 × List UInt8)}{k:Nat}(hk:k<A.length)(h:((A.take k).map Prod.fst).Nodup)(hn:A[k].1 ∉ (A.take k).map Prod.fst):((A.take (k+1)).map Prod.fst).Nodup:=by
 rw[List.take_succ_eq_append_getElem hk,List.map_append]
 exact List.nodup_append.2 ⟨h,by simp,fun a ha b hb=>by
  simp only[List.map_cons,List.map_nil,List.mem_singleton]at hb;subst hb;rintro rfl
  exact hn ha⟩
theorem nodup_not {A:List (List UInt8 × List UInt8)}{k:Nat}(hk:k<A.length)(hn:A[k].1∈(A.take k).map Prod.fst):¬ (A.map Prod.fst).Nodup:=fun h=>by
 have h1:((A.take (k+1)).map Prod.fst).Nodup:=h.sublist ((List.take_sublist _ _).map _);rw[List.take_succ_eq_append_getElem hk,List.map_append]at h1;exact(List.nodup_append.1 h1).2.2 _ hn _ (by simp) rfl
theorem differ_hid (A:List (List UInt8 × List UInt8))(hl:A.length<=1000000):Hid (∀ W a c,AtIn W (.slice a A.length c) A->A.length<=c->Calls Tryz.prog 126 #[.slice a A.length c] W fun e w'=>e=.returned (.bool (decide (A.map Prod.fst).Nodup))/\Below W.heap.size W w'):=Lib.hid fun w a c ha hcap=>by
 have HA:=Lib.hid ha;clear ha
 go_enter Tryz.func126,Tryz.ntmps126
 go_wp2
 go_loopw [7] (fun j wr=>∃ k:Nat,j=.int .i64 k/\k<=A.length/\Below w.heap.size w wr/\Hid (((A.take k).map Prod.fst).Nodup)) (fun j _=>A.length - (intOf j).toNat)
 case atStart=>exact⟨0,rfl,Nat.zero_le _,Below.refl _ _,Lib.hid (by simp)⟩
 case round =>
  obtain⟨k,rfl,hk,hb,HN⟩:=hrel
  by_cases hlt:k<A.length
  · have har:=HA.out.below hb
    have hat:=AtIn.take har hk;obtain⟨B,off,rfl,c0,c1⟩:=har.at hlt;obtain⟨NM,hNM⟩:=text_of A[k].1;obtain⟨VL,hVL⟩:=text_of A[k].2;rw[strV_of hNM]at c0;rw[strV_of hVL]at c1;have al:=(Below.refl wr.heap.size wr).alloc (Nat.le_refl _) (.cells #[.string NM,.string VL] 41);have hbx:=new_block wr (.cells #[.string NM,.string VL] 41)
    have CP:Hid (∀ W,Below (wr.heap.size+1) (wr.alloc (.cells #[.string NM,.string VL] 41)) W->Calls Tryz.prog 69 #[.slice (some ⟨B,off,none⟩) k c,.string NM] W fun e w'=>e=.returned (.int .i64 (findI NM.data.toList (A.take k)))/\Below w.heap.size w w'):=Lib.hid fun W b=>by
     have b2:=al.trans (b.mono (Nat.le_succ _));exact((place_hid (A.take k) NM (by simp;omega)).out W _ (hat.below b2)).mono fun e w' h=>⟨h.1,(hb.trans (b2.mono hb.size)).trans (h.2.mono (Nat.le_trans hb.size b2.size))⟩
    have HI:Hid (findI NM.data.toList (A.take k)<0↔A[k].1 ∉ (A.take k).map Prod.fst):=Lib.hid (by rw[hNM];exact findI_none);generalize hw1:wr.alloc (.cells #[.string NM,.string VL] 41)=w1 at al hbx CP;have hs1:wr.heap.size+1=w1.heap.size:=by rw[<- hw1];simp
    rw[hs1]at CP;have e0:=cell_of hbx 0;generalize findI NM.data.toList (A.take k)=r at CP HI;have kk:(k:Int)<=(c:Int):=by omega
    have k0:(0:Int)<=(k:Int):=by omega
    have kz:k<=c:=by omega
    clear hNM hVL har hat al hbx hb hs1
    by_cases hr:(0:Int)<=r
    · have HE:Hid ((decide (A.map Prod.fst).Nodup)=false):=Lib.hid (decide_eq_false (nodup_not hlt (Decidable.byContradiction fun h=>by have:=HI.out.2 h;omega)))
      clear HI HN
      go_wp2_with fail
      go_region_with (go_at_call 69;refine(CP.out _ (by first | exact Below.refl _ _ | exact belowN (Below.refl _ _) _ | exact(Below.refl _ _).drew)).mono ?_;rintro e w2 ⟨rfl,b2⟩)
      all_goals
       go_wp2
       go_ret
       exact⟨by rw[HE.out];rfl,b2⟩
    · have HN2:Hid (((A.take (k+1)).map Prod.fst).Nodup):=Lib.hid (nodup_take hlt HN.out (HI.out.1 (by omega)))
      clear HI HN
      go_wp2_with fail
      go_region_with (go_at_call 69;refine(CP.out _ (by first | exact Below.refl _ _ | exact belowN (Below.refl _ _) _ | exact(Below.refl _ _).drew)).mono ?_;rintro e w2 ⟨rfl,b2⟩)
      all_goals
       go_wp2
       go_roundw
       case rel=>exact⟨k+1,by go_num,by omega,b2,HN2⟩
       case measure=>simp[intOf];omega
  · obtain rfl:k=A.length:=by omega
    have HE:Hid ((A.map Prod.fst).Nodup):=Lib.hid (by have:=HN.out;rw[List.take_length]at this;exact this);clear HN
    go_wp2
    go_ret
    exact⟨by rw[decide_eq_true HE.out];rfl,hb⟩
end Go.Proofs.YtlnfbjbagmfpiaaGreatDoor.Dm
namespace Go.Proofs.YtlnfbjbagmfpiaaGreatDoor.Dm
open Go.RowKit
theorem maybe_three (x:Nd)(N D:ByteArray)(hN:N.data.toList=x.n)(hD:D.data.toList=x.d)(a ka:Option Addr)(c kc:Nat)(w:World)(ha:AtIn w (.slice a x.a.length c) x.a):Calls Tryz.prog 95 #[.agg #[.int .i64 3,.string N,.string D,.slice a x.a.length c,.int .i64 x.p,.slice ka x.c.length kc,.bool x.b,.bool x.s]] w fun e w'=>e=.returned (.bool (bareM x&&decide (x.c.length=0)))/\Below w.heap.size w w':=by
 have al:=(Below.refl w.heap.size w).alloc (Nat.le_refl _) (.cells #[.int .i64 3,.string N,.string D,.slice a x.a.length c,.int .i64 x.p,.slice ka x.c.length kc,.bool x.b,.bool x.s] 39);have hbx:=new_block w (.cells #[.int .i64 3,.string N,.string D,.slice a x.a.length c,.int .i64 x.p,.slice ka x.c.length kc,.bool x.b,.bool x.s] 39);have hat:=ha.below al;generalize hw1:w.alloc (.cells #[.int .i64 3,.string N,.string D,.slice a x.a.length c,.int .i64 x.p,.slice ka x.c.length kc,.bool x.b,.bool x.s] 39)=w1 at al hbx hat;have e0:=cell_of hbx 0;have e1:=cell_of hbx 1;have e2:=cell_of hbx 2;have e3:=cell_of hbx 3;have e4:=cell_of hbx 4;have e5:=cell_of hbx 5;have e6:=cell_of hbx 6;have e7:=cell_of hbx 7;have CB:=(bare_hid { x with k:=3 });have HB:=Lib.hid al;have HA:=Lib.hid hat;unfold nodeV at CB;simp only[strV_of hN,strV_of hD]at CB;have hbe:bareM { x with k:=3 }=bareM x:=rfl;rw[hbe]at CB;clear ha al hbx hat hbe hN hD;generalize bareM x=bm at CB ⊢
 go_enter Tryz.func95,Tryz.ntmps95
 go_wp2_with fail
 (refine(CB.out _ _ _ HA.out).mono ?_)
 rintro e w2 ⟨rfl,b2⟩;have HB2:=Lib.hid (HB.out.trans (b2.mono HB.out.size));have g5:w2.cell? ⟨w.heap.size,5,none⟩=_:=(b2.cell (lt_of_cell e5)).trans e5;clear CB b2 HB hw1 e0 e1 e2 e3 e4 e6 e7 e5
 cases bm with
 | false =>
   go_wp2
   go_ret
   exact⟨rfl,HB2.out⟩
 | true =>
   have HP:Hid ((((x.c.length:Int))==0)=(true&&decide (x.c.length=0))):=Lib.hid (natCast_eq x.c.length 0)
   go_wp2
   go_ret
   exact⟨congrArg (fun b=>Ending.returned (Value.bool b)) HP.out,HB2.out⟩
theorem maybe_four (x:Nd)(N D:ByteArray)(hN:N.data.toList=x.n)(hD:D.data.toList=x.d)(a ka:Option Addr)(c kc:Nat)(w:World)(ha:AtIn w (.slice a x.a.length c) x.a):Calls Tryz.prog 95 #[.agg #[.int .i64 4,.string N,.string D,.slice a x.a.length c,.int .i64 x.p,.slice ka x.c.length kc,.bool x.b,.bool x.s]] w fun e w'=>e=.returned (.bool (bareM x&&decide (x.c.length=0)))/\Below w.heap.size w w':=by
 have al:=(Below.refl w.heap.size w).alloc (Nat.le_refl _) (.cells #[.int .i64 4,.string N,.string D,.slice a x.a.length c,.int .i64 x.p,.slice ka x.c.length kc,.bool x.b,.bool x.s] 39);have hbx:=new_block w (.cells #[.int .i64 4,.string N,.string D,.slice a x.a.length c,.int .i64 x.p,.slice ka x.c.length kc,.bool x.b,.bool x.s] 39);have hat:=ha.below al;generalize hw1:w.alloc (.cells #[.int .i64 4,.string N,.string D,.slice a x.a.length c,.int .i64 x.p,.slice ka x.c.length kc,.bool x.b,.bool x.s] 39)=w1 at al hbx hat;have e0:=cell_of hbx 0;have e1:=cell_of hbx 1;have e2:=cell_of hbx 2;have e3:=cell_of hbx 3;have e4:=cell_of hbx 4;have e5:=cell_of hbx 5;have e6:=cell_of hbx 6;have e7:=cell_of hbx 7;have CB:=(bare_hid { x with k:=4 });have HB:=Lib.hid al;have HA:=Lib.hid hat;unfold nodeV at CB;simp only[strV_of hN,strV_of hD]at CB;have hbe:bareM { x with k:=4 }=bareM x:=rfl;rw[hbe]at CB;clear ha al hbx hat hbe hN hD;generalize bareM x=bm at CB ⊢
 go_enter Tryz.func95,Tryz.ntmps95
 go_wp2_with fail
 (refine(CB.out _ _ _ HA.out).mono ?_)
 rintro e w2 ⟨rfl,b2⟩;have HB2:=Lib.hid (HB.out.trans (b2.mono HB.out.size));have g5:w2.cell? ⟨w.heap.size,5,none⟩=_:=(b2.cell (lt_of_cell e5)).trans e5;clear CB b2 HB hw1 e0 e1 e2 e3 e4 e6 e7 e5
 cases bm with
 | false =>
   go_wp2
   go_ret
   exact⟨rfl,HB2.out⟩
 | true =>
   have HP:Hid ((((x.c.length:Int))==0)=(true&&decide (x.c.length=0))):=Lib.hid (natCast_eq x.c.length 0)
   go_wp2
   go_ret
   exact⟨congrArg (fun b=>Ending.returned (Value.bool b)) HP.out,HB2.out⟩
theorem maybe_one (x:Nd)(N D:ByteArray)(hN:N.data.toList=x.n)(hD:D.data.toList=x.d)(a ka:Option Addr)(c kc:Nat)(w:World)(ha:AtIn w (.slice a x.a.length c) x.a):Calls Tryz.prog 95 #[.agg #[.int .i64 1,.string N,.string D,.slice a x.a.length c,.int .i64 x.p,.slice ka x.c.length kc,.bool x.b,.bool x.s]] w fun e w'=>e=.returned (.bool (bareM x&&decide (D.data.toList=[])))/\Below w.heap.size w w':=by
 have al:=(Below.refl w.heap.size w).alloc (Nat.le_refl _) (.cells #[.int .i64 1,.string N,.string D,.slice a x.a.length c,.int .i64 x.p,.slice ka x.c.length kc,.bool x.b,.bool x.s] 39);have hbx:=new_block w (.cells #[.int .i64 1,.string N,.string D,.slice a x.a.length c,.int .i64 x.p,.slice ka x.c.length kc,.bool x.b,.bool x.s] 39);have hat:=ha.below al;generalize hw1:w.alloc (.cells #[.int .i64 1,.string N,.string D,.slice a x.a.length c,.int .i64 x.p,.slice ka x.c.length kc,.bool x.b,.bool x.s] 39)=w1 at al hbx hat;have e0:=cell_of hbx 0;have e1:=cell_of hbx 1;have e2:=cell_of hbx 2;have e3:=cell_of hbx 3;have e4:=cell_of hbx 4;have e5:=cell_of hbx 5;have e6:=cell_of hbx 6;have e7:=cell_of hbx 7;have CB:=(bare_hid { x with k:=1 });have HB:=Lib.hid al;have HA:=Lib.hid hat;unfold nodeV at CB;simp only[strV_of hN,strV_of hD]at CB;have hbe:bareM { x with k:=1 }=bareM x:=rfl;rw[hbe]at CB;clear ha al hbx hat hbe hN hD;generalize bareM x=bm at CB ⊢
 go_enter Tryz.func95,Tryz.ntmps95
 go_wp2_with fail
 (refine(CB.out _ _ _ HA.out).mono ?_)
 rintro e w2 ⟨rfl,b2⟩;have HB2:=Lib.hid (HB.out.trans (b2.mono HB.out.size));have g2:w2.cell? ⟨w.heap.size,2,none⟩=_:=(b2.cell (lt_of_cell e2)).trans e2;clear CB b2 HB hw1 e0 e1 e2 e3 e4 e6 e7 e5
 cases bm with
 | false =>
   go_wp2
   go_ret
   exact⟨rfl,HB2.out⟩
 | true =>
   go_wp2
   all_goals go_ret
   all_goals refine⟨?_,HB2.out⟩
   all_goals simp_all [ByteArray.toList_eq]
   all_goals first | done | exact arr_empty _
theorem maybe_two (x:Nd)(N D:ByteArray)(a ka:Option Addr)(c kc:Nat)(w:World)(ha:AtIn w (.slice a x.a.length c) x.a)(hl:x.a.length<=1000)(hcap:x.a.length<=c):Calls Tryz.prog 95 #[.agg #[.int .i64 2,.string N,.string D,.slice a x.a.length c,.int .i64 x.p,.slice ka x.c.length kc,.bool x.b,.bool x.s]] w fun e w'=>e=.returned (.bool (decide (N.data.toList≠[])&&decide (D.data.toList=[])&&decide (x.a.length<=30)&&decide (x.a.map Prod.fst).Nodup))/\Below w.heap.size w w':=by
 have al:=(Below.refl w.heap.size w).alloc (Nat.le_refl _) (.cells #[.int .i64 2,.string N,.string D,.slice a x.a.length c,.int .i64 x.p,.slice ka x.c.length kc,.bool x.b,.bool x.s] 39);have hbx:=new_block w (.cells #[.int .i64 2,.string N,.string D,.slice a x.a.length c,.int .i64 x.p,.slice ka x.c.length kc,.bool x.b,.bool x.s] 39);have hat:=ha.below al;generalize hw1:w.alloc (.cells #[.int .i64 2,.string N,.string D,.slice a x.a.length c,.int .i64 x.p,.slice ka x.c.length kc,.bool x.b,.bool x.s] 39)=w1 at al hbx hat;have e0:=cell_of hbx 0;have e1:=cell_of hbx 1;have e2:=cell_of hbx 2;have e3:=cell_of hbx 3;have e4:=cell_of hbx 4;have e5:=cell_of hbx 5;have e6:=cell_of hbx 6;have e7:=cell_of hbx 7;have CD:=differ_hid x.a (by omega);have HB:=Lib.hid al;have HA:=Lib.hid hat;clear ha al hbx hat;generalize decide (x.a.map Prod.fst).Nodup=df at CD ⊢
 by_cases h1:N=⟨#[]⟩
 · subst h1
   go_enter Tryz.func95,Tryz.ntmps95
   go_wp2
   go_ret
   exact⟨rfl,HB.out⟩
 have h1n:decide (N.data.toList≠[])=true:=decide_eq_true fun h=>h1 (text_ext h);have z1:(N.toList==[])=false:=by rw[text_lit];exact decide_eq_false fun h=>h1 (text_ext h)
 by_cases h2:D=⟨#[]⟩
 case neg =>
  have h2n:decide (D.data.toList=[])=false:=decide_eq_false fun h=>h2 (text_ext h);rw[h1n,h2n];clear h1n h2n CD HA;have z2:(D.toList==[])=false:=by rw[text_lit];exact decide_eq_false fun h=>h2 (text_ext h)
  go_enter Tryz.func95,Tryz.ntmps95
  go_wp2
  go_ret
  exact⟨rfl,HB.out⟩
 subst h2
 by_cases h3:x.a.length<=30
 · have z3:(x.a.length:Int)<=30:=by omega
   rw[h1n,decide_eq_true h3];clear h1n
   go_enter Tryz.func95,Tryz.ntmps95
   go_wp2_with fail
   (refine(CD.out _ _ _ HA.out hcap).mono ?_)
   rintro e w2 ⟨rfl,b2⟩;have HB2:=Lib.hid (HB.out.trans (b2.mono HB.out.size));clear CD b2 HB hw1 e0 e1 e2 e3 e4 e6 e7 e5
   go_wp2
   go_ret
   exact⟨rfl,HB2.out⟩
 · have z3:¬ ((x.a.length:Int)<=30):=by omega
   rw[h1n,decide_eq_false h3];clear h1n CD
   go_enter Tryz.func95,Tryz.ntmps95
   go_wp2
   go_ret
   exact⟨rfl,HB.out⟩
theorem maybe_none (x:Nd)(k:Int)(h1:k≠1)(h2:k≠2)(h3:k≠3)(h4:k≠4)(N D:ByteArray)(av kv:Value)(w:World):Calls Tryz.prog 95 #[.agg #[.int .i64 k,.string N,.string D,av,.int .i64 x.p,kv,.bool x.b,.bool x.s]] w fun e w'=>e=.returned (.bool false)/\Below w.heap.size w w':=by
 have al:=(Below.refl w.heap.size w).alloc (Nat.le_refl _) (.cells #[.int .i64 k,.string N,.string D,av,.int .i64 x.p,kv,.bool x.b,.bool x.s] 39);have hbx:=new_block w (.cells #[.int .i64 k,.string N,.string D,av,.int .i64 x.p,kv,.bool x.b,.bool x.s] 39);generalize hw1:w.alloc (.cells #[.int .i64 k,.string N,.string D,av,.int .i64 x.p,kv,.bool x.b,.bool x.s] 39)=w1 at al hbx;have e0:=cell_of hbx 0;have HB:=Lib.hid al;clear al hbx
 go_enter Tryz.func95,Tryz.ntmps95
 go_wp2
 go_ret
 exact⟨rfl,HB.out⟩
def CapV:Value->Prop
 | .slice _ n c=>n<=c
 | _=>False
theorem mayBe_hid (x:Nd)(hl:x.a.length<=1000):Hid (∀ W av kv,AtIn W av x.a->IntIn W kv x.c->CapV av->Calls Tryz.prog 95 #[nodeV x av kv] W fun e w'=>e=.returned (.bool (mayN x))/\Below W.heap.size W w'):=Lib.hid fun w av kv ha hk hcap=>by
 obtain⟨a,c,rfl⟩:=ha.form;obtain⟨ka,kc,rfl⟩:=hk.form;obtain⟨N,hN⟩:=text_of x.n;obtain⟨D,hD⟩:=text_of x.d;unfold nodeV;rw[strV_of hN,strV_of hD];have hcap:x.a.length<=c:=hcap;unfold mayN mayM holdM
 by_cases h1:x.k=1
 · rw[if_pos h1,h1]
   refine(maybe_one x N D hN hD a ka c kc w ha).mono fun e w' h=>⟨?_,h.2⟩;rw[h.1,hD];simp
 rw[if_neg h1]
 by_cases h3:x.k=3
 · rw[if_pos (.inl h3),h3]
   refine(maybe_three x N D hN hD a ka c kc w ha).mono fun e w' h=>⟨?_,h.2⟩;rw[h.1];simp
 by_cases h4:x.k=4
 · rw[if_pos (.inr h4),h4]
   refine(maybe_four x N D hN hD a ka c kc w ha).mono fun e w' h=>⟨?_,h.2⟩;rw[h.1];simp
 rw[if_neg (by omega)]
 by_cases h2:x.k=2
 · rw[if_pos h2,h2]
   refine(maybe_two x N D a ka c kc w ha hl hcap).mono fun e w' h=>⟨?_,h.2⟩;rw[h.1,hN,hD]
   congr 2
   simp only[decide_true,Bool.or_true,Bool.and_true];generalize decide (x.a.map Prod.fst).Nodup=b1;generalize decide (x.n≠[])=b2;generalize decide (x.d=[])=b3;generalize decide (x.a.length<=30)=b4
   cases b1<;>cases b2<;>cases b3<;>cases b4<;>rfl
 · rw[if_neg h2]
   exact maybe_none x x.k h1 h2 h3 h4 N D _ _ w
end Go.Proofs.YtlnfbjbagmfpiaaGreatDoor.Dm
namespace Go.Proofs.YtlnfbjbagmfpiaaGreatDoor.Dm
open Go.RowKit
theorem isNode_any (a:Option Addr)(n c:Nat)(y:Int)(w:World):Calls Tryz.prog 98 #[.slice a n c,.int .i64 y] w fun e w'=>e=.returned (.bool (decide (0<=y)&&decide (y<(n:Int))))/\w'=w:=by
 by_cases h1:0<=y
 · by_cases h2:y<(n:Int)
   · rw[decide_eq_true h1,decide_eq_true h2]
     go_enter Tryz.func98,Tryz.ntmps98
     go_wp2
     go_ret
     exact⟨rfl,rfl⟩
   · rw[decide_eq_true h1,decide_eq_false h2]
     go_enter Tryz.func98,Tryz.ntmps98
     go_wp2
     go_ret
     exact⟨rfl,rfl⟩
 · rw[decide_eq_false h1]
   go_enter Tryz.func98,Tryz.ntmps98
   go_wp2
   go_ret
   exact⟨rfl,rfl⟩
def blC (l:List Bool):List Value:=l.map Value.bool
theorem blC_set (l:List Bool)(i:Nat)(b:Bool):(blC l).set i (.bool b)=blC (l.set i b):=by simp[blC,List.map_set]
theorem info4:(Tryz.prog.info? 4).map (fun i=>(i.zero,i.size,i.bytes))=some (some (.bool false),1,1):=by kernel_rfl
def MarksAt (w:World)(B g:Nat)(l:List Bool):Prop:=w.ownsRow B 4 1 (.slice (some ⟨g,0,none⟩) l.length l.length) l.length (blC l)
theorem marks_made (w:World)(n:Nat)(hn:n<=1000):∃ w',(Instr.makeSlice 172 (.int .i64 (n:Int)) (.int .i64 (n:Int))).run Tryz.prog w=.ok (.slice (some ⟨w.heap.size,0,none⟩) n n) w'/\MarksAt w' w.heap.size w.heap.size (List.replicate n false)/\Below w.heap.size w w':=by
 obtain⟨i0,hi,hz0,hz1,hz2⟩:=info_parts info4;obtain⟨w',h1,h2,h3⟩:=run_make_full (P:=Tryz.prog) w w.heap.size 172 4 i0 _ 1 Tryz.underlying172 hi hz0 hz1 .i64 .i64 n (by rw[hz2];omega) (by unfold maxLen;omega) (Nat.le_refl _);rw[show(Value.bool false).cells=#[Value.bool false]from rfl,Nat.mul_one,toList_madeCells_one]at h2;refine⟨w',h1,?_,Below.grown (Below.refl _ _) h3 (Nat.le_refl _) (fun j hj=>by cases hj)⟩;unfold MarksAt;rw[List.length_replicate,show blC (List.replicate n false)=List.replicate n (Value.bool false) by simp[blC]];exact h2
theorem MarksAt.at {w:World}{B g:Nat}{l:List Bool}(h:MarksAt w B g l){i:Nat}(hi:i<l.length):w.cell? ⟨g,i,none⟩=some (.bool l[i]):=by
 rw[h.cellAt i (by omega)];simp[blC,hi]
theorem MarksAt.below {w w':World}{B g:Nat}{l:List Bool}(h:MarksAt w B g l)(b:Below w.heap.size w w'):MarksAt w' B g l:=row_below h b
theorem MarksAt.set {w:World}{B g:Nat}{l:List Bool}(h:MarksAt w B g l)(i:Nat):MarksAt (w.setCell ⟨g,i,none⟩ (.bool true)) B g (l.set i true):=by
 have h1:=ownsRow_set h i (.bool true);unfold MarksAt;rw[<- blC_set,List.length_set];exact h1
def BoolR (P:Prop)(W:World)(e:Ending)(w':World):Prop:=∃ b,e=.returned (.bool b)/\(b=true↔P)/\Below W.heap.size W w'
theorem seen_at {D:List Nd}{i j y:Nat}(hy:y<D.length){w:World}{B g:Nat}(h:MarksAt w B g (marksM D i j)):w.cell? ⟨g,y,none⟩=some (.bool (decide ((y:Int)∈seenK D i j))):=by
 rw[h.at (by rw[marks_len];exact hy),marks_get]
theorem placedP_hid (D:List Nd)(hf:FitD D)(h0:0<D.length):Hid (∀ W sl A K,DocIn W sl D A K->Calls Tryz.prog 96 #[sl] W (BoolR (Pl D) W)):=Lib.hid fun w sl A K hd=>by
 obtain⟨a,c,rfl⟩:=hd.form;obtain⟨B,off,rfl,-⟩:=hd.node h0;have hfl:=hf.1;obtain⟨w1,hmk,hm1,hb1⟩:=marks_made w D.length (by omega);obtain⟨g,hg⟩:∃ g,w.heap.size=g:=⟨_,rfl⟩;rw[<- marks_zero]at hm1;rw[hg]at hmk;have hm1':MarksAt w1 w.heap.size g (marksM D 0 0):=by rw[<- hg];exact hm1
 have HD:=Lib.hid hd;have H1:Hid (SeenP D 0 0/\MarksAt w1 w.heap.size g (marksM D 0 0)/\Below w.heap.size w w1):=Lib.hid ⟨SeenP.zero D,hm1',hb1⟩;have HF:=Lib.hid hf;clear hd hm1 hm1' hb1 hf
 go_enter Tryz.func96,Tryz.ntmps96
 go_wp2
 clear hmk
 go_loopw [15] (fun i wr=>∃ u:Nat,i=.int .i64 u/\u<=D.length/\Hid (SeenP D u 0/\MarksAt wr w.heap.size g (marksM D u 0)/\Below w.heap.size w wr)) (fun i _=>D.length - (intOf i).toNat)
 case atStart=>exact⟨0,rfl,Nat.zero_le _,H1⟩
 case round =>
  clear H1;obtain⟨u,rfl,hu,HX⟩:=hrel
  by_cases hlt:u<D.length
  · have zu:(u:Int)<(D.length:Int):=by omega
    obtain⟨B',off',hB,c0,c1,c2,c3,c4,c5,c6,c7⟩:=(HD.out.below HX.out.2.2).node hlt
    cases hB
    obtain⟨N,hN⟩:=text_of D[u].n;obtain⟨T,hT⟩:=text_of D[u].d;rw[strV_of hN]at c1;rw[strV_of hT]at c2;obtain⟨aa,ac,ha⟩:=(HD.out.at' u hlt).form;obtain⟨ka,kc,hk⟩:=(HD.out.kd u hlt).form;rw[ha]at c3;rw[hk]at c5;have HK:Hid (IntIn w (.slice ka D[u].c.length kc) D[u].c):=Lib.hid (by rw[<- hk];exact HD.out.kd u hlt);have HU:Hid (kid D u=D[u].c):=Lib.hid (kid_at hlt);have hlc:=(HF.out.2 _ (List.getElem_mem hlt)).2.2.2.1;clear hN hT ha hk;generalize D[u].k=xk at c0;generalize D[u].a.length=al at c3;generalize D[u].p=xp at c4;generalize D[u].b=xb at c6;generalize D[u].s=xs at c7;generalize D[u].c=C at c5 HK HU hlc
    have HX1:Hid (∀ o,SeenP D u 0/\MarksAt (wr.alloc o) w.heap.size g (marksM D u 0)/\Below w.heap.size w (wr.alloc o)):=Lib.hid fun o=>by
     have b:=(Below.refl wr.heap.size wr).alloc (Nat.le_refl _) o;exact⟨HX.out.1,HX.out.2.1.below b,HX.out.2.2.trans (b.mono HX.out.2.2.size)⟩
    clear HX
    go_wp2
    go_loopw [23] (fun j wr=>∃ v:Nat,j=.int .i64 v/\v<=C.length/\Hid (SeenP D u v/\MarksAt wr w.heap.size g (marksM D u v)/\Below w.heap.size w wr)) (fun j _=>C.length - (intOf j).toNat)
    case atStart=>exact⟨0,rfl,Nat.zero_le _,Lib.hid (HX1.out _)⟩
    case round =>
     clear HX1;obtain⟨v,rfl,hv,HY⟩:=hrel
     by_cases hlv:v<C.length
     · have zv:(v:Int)<(C.length:Int):=by omega
       obtain⟨B2,off2,rfl,k0⟩:=(HK.out.below HY.out.2.2).at hlv;have hj:v<(kid D u).length:=by rw[HU.out];exact hlv
       have hy:(kid D u)[v]=C[v]:=by simp only[HU.out]
       generalize C[v]=y at k0 hy;have CN:=isNode_any (some ⟨B,off,none⟩) D.length c y
       by_cases hy0:0<=y
       case neg =>
        rw[decide_eq_false hy0]at CN;have HE:Hid (false=true↔Pl D):=Lib.hid ⟨(fun h=>by cases h),fun h=>absurd h (not_pl_kid hj (by rw[hy];exact fun h=>hy0 h.1))⟩;have HB:=Lib.hid HY.out.2.2;clear HY hy hj
        go_wp2_with (go_at_call 98;refine(CN _).mono ?_;rintro e w2 ⟨rfl,rfl⟩)
        go_ret
        exact⟨false,rfl,HE.out,HB.out⟩
       by_cases hy1:y<(D.length:Int)
       case neg =>
        rw[decide_eq_true hy0,decide_eq_false hy1]at CN;have HE:Hid (false=true↔Pl D):=Lib.hid ⟨(fun h=>by cases h),fun h=>absurd h (not_pl_kid hj (by rw[hy];exact fun h=>hy1 h.2.1))⟩;have HB:=Lib.hid HY.out.2.2;clear HY hy hj
        go_wp2_with (go_at_call 98;refine(CN _).mono ?_;rintro e w2 ⟨rfl,rfl⟩)
        go_ret
        exact⟨false,rfl,HE.out,HB.out⟩
       rw[decide_eq_true hy0,decide_eq_true hy1]at CN;obtain⟨t,rfl⟩:∃ t:Nat,y=(t:Int):=⟨y.toNat,by omega⟩;have ht:t<D.length:=by omega
       obtain⟨B',off',hB,-,-,-,-,p4,-⟩:=(HD.out.below HY.out.2.2).node ht
       cases hB
       have hpt:=par_at ht;generalize D[t].p=tp at p4 hpt
       by_cases hp:tp=(u:Int)
       case neg =>
        have HE:Hid (false=true↔Pl D):=Lib.hid ⟨(fun h=>by cases h),fun h=>absurd h (not_pl_kid hj (by rw[hy,Int.toNat_natCast,hpt];exact fun h=>hp h.2.2))⟩;have HB:=Lib.hid HY.out.2.2;clear HY hy hj hpt
        go_wp2_with (go_at_call 98;refine(CN _).mono ?_;rintro e w2 ⟨rfl,rfl⟩)
        go_ret
        exact⟨false,rfl,HE.out,HB.out⟩
       subst hp;have s0:=seen_at ht HY.out.2.1
       by_cases hs:(t:Int)∈seenK D u v
       · rw[decide_eq_true hs]at s0
         have HE:Hid (false=true↔Pl D):=Lib.hid ⟨(fun h=>by cases h),fun h=>absurd h (not_pl_twice hlt hj (by rw[hy];exact hs))⟩;have HB:=Lib.hid HY.out.2.2;clear HY hy hj hpt hs
         go_wp2_with (go_at_call 98;refine(CN _).mono ?_;rintro e w2 ⟨rfl,rfl⟩)
         go_ret
         exact⟨false,rfl,HE.out,HB.out⟩
       · rw[decide_eq_false hs]at s0
         have hst:=HY.out.1.step hj (by rw[hy,Int.toNat_natCast];exact⟨by omega,by omega,hpt⟩) (by rw[hy];exact hs)
         have HZ:Hid (SeenP D u (v+1)/\MarksAt (wr.setCell ⟨g,t,none⟩ (.bool true)) w.heap.size g (marksM D u (v+1))/\Below w.heap.size w (wr.setCell ⟨g,t,none⟩ (.bool true))):=Lib.hid (by
          obtain⟨cur,hcur,hgb⟩:=row_open HY.out.2.1;refine⟨hst,?_,HY.out.2.2.setCell (p:=⟨g,t,none⟩) hgb _⟩;rw[marks_step hj hy]
          exact HY.out.2.1.set t)
         obtain⟨cur,hcur,-⟩:=row_open HY.out.2.1;have o1:=open_of hcur t;clear HY hy hj hpt hs hst hcur
         go_wp2_with (go_at_call 98;refine(CN _).mono ?_;rintro e w2 ⟨rfl,rfl⟩)
         go_roundw
         case rel=>exact⟨v+1,by go_num,by omega,HZ⟩
         case measure=>simp[intOf];omega
     · obtain rfl:v=C.length:=by omega
       have HX:Hid (SeenP D (u+1) 0/\MarksAt wr w.heap.size g (marksM D (u+1) 0)/\Below w.heap.size w wr):=Lib.hid (by
        obtain⟨h1,h3,h4⟩:=HY.out;rw[<- HU.out]at h1 h3;rw[marks_next hlt]at h3
        exact⟨h1.next hlt,h3,h4⟩)
       clear HY
       go_wp2
       go_roundw
       case rel=>exact⟨u+1,by go_num,by omega,HX⟩
       case measure=>simp[intOf];omega
  · obtain rfl:u=D.length:=by omega
    have HS:=Lib.hid HX.out.1;have HM:=Lib.hid HX.out.2;clear HX
    go_wp2
    go_loopw [53] (fun i wr=>∃ u:Nat,i=.int .i64 u/\u<=D.length/\Hid (∀ j,j<u->par D j ≠ -1->(j:Int)∈allK D)/\Hid (MarksAt wr w.heap.size g (marksM D D.length 0)/\Below w.heap.size w wr)) (fun i _=>D.length - (intOf i).toNat)
    case atStart=>exact⟨0,rfl,Nat.zero_le _,Lib.hid (fun j h=>absurd h (Nat.not_lt_zero _)),HM⟩
    case round =>
     clear HM;obtain⟨u,rfl,hu,HV,HX⟩:=hrel
     by_cases hlt:u<D.length
     · have zu:(u:Int)<(D.length:Int):=by omega
       obtain⟨B',off',hB,c0,c1,c2,c3,c4,c5,c6,c7⟩:=(HD.out.below HX.out.2).node hlt
       cases hB
       obtain⟨N,hN⟩:=text_of D[u].n;obtain⟨T,hT⟩:=text_of D[u].d;rw[strV_of hN]at c1;rw[strV_of hT]at c2;obtain⟨aa,ac,ha⟩:=(HD.out.at' u hlt).form;obtain⟨ka,kc,hk⟩:=(HD.out.kd u hlt).form;rw[ha]at c3;rw[hk]at c5;have hpu:=par_at hlt;have s0:∀ o,(wr.alloc o).cell? ⟨g,u,none⟩=some (.bool (decide ((u:Int)∈seenK D D.length 0))):=fun o=>seen_at hlt (HX.out.1.below ((Below.refl wr.heap.size wr).alloc (Nat.le_refl _) o));clear hN hT ha hk;generalize D[u].k=xk at c0;generalize D[u].a.length=al at c3;generalize D[u].p=xp at c4 hpu;generalize D[u].b=xb at c6;generalize D[u].s=xs at c7;generalize D[u].c.length=cl at c5
       have HX1:Hid (∀ o,MarksAt (wr.alloc o) w.heap.size g (marksM D D.length 0)/\Below w.heap.size w (wr.alloc o)):=Lib.hid fun o=>by
        have b:=(Below.refl wr.heap.size wr).alloc (Nat.le_refl _) o;exact⟨HX.out.1.below b,HX.out.2.trans (b.mono HX.out.2.size)⟩
       clear HX
       by_cases hp:xp = -1
       · subst hp
         have HV2:Hid (∀ j,j<u+1->par D j ≠ -1->(j:Int)∈allK D):=Lib.hid fun j hj hjp=>by
          by_cases e:j=u
          · subst e
            exact absurd hpu hjp
          · exact HV.out j (by omega) hjp
         clear HV hpu s0
         go_wp2
         go_roundw
         case rel=>exact⟨u+1,by go_num,by omega,HV2,Lib.hid (HX1.out _)⟩
         case measure=>simp[intOf];omega
       · by_cases hm:(u:Int)∈seenK D D.length 0
         · rw[decide_eq_true hm]at s0
           have HV2:Hid (∀ j,j<u+1->par D j ≠ -1->(j:Int)∈allK D):=Lib.hid fun j hj hjp=>by
            by_cases e:j=u
            · subst e
              rw[<- seenK_end];exact hm
            · exact HV.out j (by omega) hjp
           clear HV hpu hm
           go_wp2
           go_roundw
           case rel=>exact⟨u+1,by go_num,by omega,HV2,Lib.hid (HX1.out _)⟩
           case measure=>simp[intOf];omega
         · rw[decide_eq_false hm]at s0
           have HE:Hid (false=true↔Pl D):=Lib.hid ⟨(fun h=>by cases h),fun h=>absurd h (not_pl_st hlt (by rw[hpu];exact hp) (by rw[<- seenK_end];exact hm))⟩;clear HV hpu hm
           go_wp2
           go_ret
           exact⟨false,rfl,HE.out,(HX1.out _).2⟩
     · obtain rfl:u=D.length:=by omega
       have HE:Hid (Pl D):=Lib.hid (HS.out.end' HV.out);have HB:=Lib.hid HX.out.2;clear HX HV
       go_wp2
       go_ret
       exact⟨true,rfl,⟨fun _=>HE.out,fun _=>rfl⟩,HB.out⟩
end Go.Proofs.YtlnfbjbagmfpiaaGreatDoor.Dm
namespace Go.Proofs.YtlnfbjbagmfpiaaGreatDoor.Dm
open Go.RowKit
theorem kidN_nats {D:List Nd}(P:Pl D)(i:Nat):natsI (kidN D i)=kid D i:=by
 unfold natsI kidN;rw[List.map_map]
 conv=>rhs;rw[<- List.map_id (kid D i)]
 exact List.map_congr_left fun y hy=>by
  have:=(P.kp i y hy).1;show((y.toNat:Nat):Int)=y;omega
def CountR (D:List Nd)(W:World)(e:Ending)(w':World):Prop:=∃ n:Nat,e=.returned (.int .i64 (n:Int))/\(n=D.length↔∀ i,i<D.length->∃ k,DepP D k i)/\Below W.heap.size W w'
theorem reached_hid (D:List Nd)(hf:FitD D)(h0:0<D.length)(P:Pl D):Hid (∀ W sl A K,DocIn W sl D A K->Calls Tryz.prog 97 #[sl] W (CountR D W)):=Lib.hid fun w sl A K hd=>by
 obtain⟨a,c,rfl⟩:=hd.form;obtain⟨B,off,rfl,-⟩:=hd.node h0;have hfl:=hf.1;obtain⟨i0,hi3,hz0,hz1,hz2⟩:=info_parts Tinfo3;have HD:=Lib.hid hd;have HF:=Lib.hid hf;have HP:=Lib.hid P;clear hd hf P
 go_enter Tryz.func97,Tryz.ntmps97
 go_wp2
 go_loopw [3,9] (fun v i wr=>∃ u:Nat,i=.int .i64 u/\u<=D.length/\Hid (OwnI wr w.heap.size v (rootsM D u)/\Below w.heap.size w wr)) (fun _ i _=>D.length - (intOf i).toNat)
 case atStart=>exact⟨0,rfl,Nat.zero_le _,Lib.hid ⟨World.ownsRow_nil _ _ _ _,Below.refl _ _⟩⟩
 case round =>
  obtain⟨u,rfl,hu,HX⟩:=hrel
  by_cases hlt:u<D.length
  · have zu:(u:Int)<(D.length:Int):=by omega
    obtain⟨B',off',hB,c0,c1,c2,c3,c4,c5,c6,c7⟩:=(HD.out.below HX.out.2).node hlt
    cases hB
    obtain⟨N,hN⟩:=text_of D[u].n;obtain⟨T,hT⟩:=text_of D[u].d;rw[strV_of hN]at c1;rw[strV_of hT]at c2;obtain⟨aa,ac,ha⟩:=(HD.out.at' u hlt).form;obtain⟨ka,kc,hk⟩:=(HD.out.kd u hlt).form;rw[ha]at c3;rw[hk]at c5;have hpu:=par_at hlt;clear hN hT ha hk;generalize D[u].k=xk at c0;generalize D[u].a.length=al at c3;generalize D[u].p=xp at c4 hpu;generalize D[u].b=xb at c6;generalize D[u].s=xs at c7;generalize D[u].c.length=cl at c5
    have HX1:Hid (∀ o,OwnI (wr.alloc o) w.heap.size u3 (rootsM D u)/\Below w.heap.size w (wr.alloc o)):=Lib.hid fun o=>by
     have b:=(Below.refl wr.heap.size wr).alloc (Nat.le_refl _) o;exact⟨HX.out.1.below b,HX.out.2.trans (b.mono HX.out.2.size)⟩
    clear HX;have hst:=roots_step D u;rw[hpu]at hst;have hrl:=roots_len D u
    by_cases hp:xp = -1
    · subst hp
      rw[if_pos rfl]at hst;have HST:=Lib.hid hst;have hbx:=new_block wr (.cells #[.int .i64 xk,.string N,.string T,.slice aa al ac,.int .i64 (-1),.slice ka cl kc,.bool xb,.bool xs] 39);generalize hwa:wr.alloc (.cells #[.int .i64 xk,.string N,.string T,.slice aa al ac,.int .i64 (-1),.slice ka cl kc,.bool xb,.bool xs] 39)=wa;have HXa:=HX1.out (.cells #[.int .i64 xk,.string N,.string T,.slice aa al ac,.int .i64 (-1),.slice ka cl kc,.bool xb,.bool xs] 39);rw[hwa]at HXa hbx;have e4:=cell_of hbx 4;clear hbx;have al5:=(Below.refl wa.heap.size wa).alloc (Nat.le_refl _) (.cells #[.int .i64 (u:Int)] 3);have hro:=RowIn.made wa #[.int .i64 (u:Int)] 3 1 1 rfl (fun x hx=>by simp at hx;rw[hx];rfl);have H5:=Lib.hid (And.intro hro (And.intro (row_below HXa.1 al5) (HXa.2.trans (al5.mono HXa.2.size))));have hws:=H5.out.2.2.size;clear hro al5 hst hpu HX1 HXa
      go_wp2_with (at_builtin
                   refine wpList_append_rowG rfl _ _ 37 3 i0 (.int .i64 0) 1 8 Tryz.underlying37 hi3 hz0 hz1 hz2 rfl (by decide) rfl w.heap.size _ _ _ rfl H5.out.2.1 _ 1 _ rfl H5.out.1 (by unfold maxLen;omega) (by omega) hws ?_;intro v6 w6 hown6 hgrow6 hat6;have H6:Hid (OwnI w6 w.heap.size v6 (rootsM D (u+1))/\Below w.heap.size w w6):=Lib.hid ⟨by rw[HST.out];unfold OwnI;rw[List.length_append,natsI_app,inC_app];exact hown6,Below.grown H5.out.2.2 hgrow6 hws (fun j hj=>(H5.out.2.1.lt j hj).1)⟩
                   clear hown6 hgrow6 hat6 H5)
      go_roundw
      case rel=>exact⟨u+1,by go_num,by omega,H6⟩
      case measure=>simp[intOf];omega
    · rw[if_neg hp,List.append_nil]at hst
      have HX2:Hid (∀ o,OwnI (wr.alloc o) w.heap.size u3 (rootsM D (u+1))/\Below w.heap.size w (wr.alloc o)):=Lib.hid (by rw[hst];exact HX1.out);clear hst HX1 hpu
      go_wp2
      go_roundw
      case rel=>exact⟨u+1,by go_num,by omega,Lib.hid (HX2.out _)⟩
      case measure=>simp[intOf];omega
  · obtain rfl:u=D.length:=by omega
    obtain⟨ra,rc,rfl⟩:=HX.out.1.form;have H2:=Lib.hid (And.intro (RowP.start D) HX.out);clear HX
    go_wp2
    go_loopw [3,6] (fun v i wr=>∃(row:List Nat) (t:Nat) (ra:Option Addr) (rc:Nat),v=.slice ra row.length rc/\i=.int .i64 t/\t<=row.length/\Hid (RowP D row t/\OwnI wr w.heap.size (.slice ra row.length rc) row/\Below w.heap.size w wr)) (fun _ i _=>D.length - (intOf i).toNat)
    case atStart=>exact⟨rootsM D D.length,0,ra,rc,rfl,rfl,Nat.zero_le _,H2⟩
    case round =>
     clear H2;obtain⟨row,t,ra,rc,rfl,rfl,ht,HY⟩:=hrel;have hrl:=HY.out.1.len
     by_cases hlt:t<row.length
     · have zt:(t:Int)<(row.length:Int):=by omega
       have hin:=HY.out.2.1.in';rw[<- natsI_length row]at hin;obtain⟨B2,off2,rfl,y0⟩:=hin.at (k:=t) (by rw[natsI_length];exact hlt);have hyt:(natsI row)[t]'(by rw[natsI_length];exact hlt)=((row[t]:Nat):Int):=by simp[natsI]
       rw[hyt]at y0;have hx:=(HY.out.1.dp row[t] (List.getElem_mem hlt)).1;have hstep:=HY.out.1.step HP.out hlt;have hkn:=kidN_nats HP.out row[t];rw[kid_at hx]at hkn;have hkl:(kidN D row[t]).length=D[row[t]].c.length:=by rw[<- hkn,natsI_length]
       obtain⟨B',off',hB,-,-,-,-,-,k5,-,-⟩:=(HD.out.below HY.out.2.2).node hx
       cases hB
       obtain⟨ka,kc,hk⟩:=(HD.out.kd row[t] hx).form;have hkin:=(HD.out.below HY.out.2.2).kd row[t] hx;rw[hk]at k5 hkin;obtain⟨C,hC⟩:∃ C,D[row[t]].c=C:=⟨_,rfl⟩;obtain⟨kl,hkl0⟩:∃ kl,kidN D row[t]=kl:=⟨_,rfl⟩;rw[hC]at k5 hkin hkn hkl;rw[hkl0]at hkn hkl hstep;have hrl2:=hstep.len;rw[List.length_append,hkl]at hrl2;have zx:((row[t]:Nat):Int)<(D.length:Int):=by omega
       clear hk hC hkl0 hx hin hyt;generalize row[t]=x at y0 zx k5;have H5:=Lib.hid (And.intro hstep (And.intro HY.out.2.1 (And.intro hkin HY.out.2.2)));have hws:=H5.out.2.2.2.size;have HKN:=Lib.hid (And.intro hkn hkl);clear hstep hkn hkl hkin HY
       go_wp2_with (at_builtin
                    refine wpList_append_rowG rfl _ _ 37 3 i0 (.int .i64 0) 1 8 Tryz.underlying37 hi3 hz0 hz1 hz2 rfl (by decide) rfl w.heap.size _ _ _ rfl H5.out.2.1 _ C.length (inC C) rfl H5.out.2.2.1 (by unfold maxLen;omega) (by omega) hws ?_;intro v6 w6 hown6 hgrow6 hat6;have H6:Hid (OwnI w6 w.heap.size v6 (row++kl)/\Below w.heap.size w w6/\RowP D (row++kl) (t+1)):=Lib.hid ⟨by unfold OwnI;rw[List.length_append,HKN.out.2,natsI_app,inC_app,HKN.out.1];exact hown6,Below.grown H5.out.2.2.2 hgrow6 hws (fun j hj=>(H5.out.2.1.lt j hj).1),H5.out.1⟩;obtain⟨va,vc,rfl⟩:=H6.out.1.form
                    clear hown6 hgrow6 hat6 H5)
       go_roundw
       case rel=>exact⟨row++kl,t+1,va,vc,by rw[List.length_append],by go_num,by rw[List.length_append];omega,Lib.hid ⟨H6.out.2.2,H6.out.1,H6.out.2.1⟩⟩
       case measure=>simp[intOf];omega
     · obtain rfl:t=row.length:=by omega
       have HE:Hid (row.length=D.length↔∀ i,i<D.length->∃ k,DepP D k i):=Lib.hid (HY.out.1.all HP.out);have HB:=Lib.hid HY.out.2.2;clear HY
       go_wp2
       go_ret
       exact⟨row.length,rfl,HE.out,HB.out⟩
end Go.Proofs.YtlnfbjbagmfpiaaGreatDoor.Dm
