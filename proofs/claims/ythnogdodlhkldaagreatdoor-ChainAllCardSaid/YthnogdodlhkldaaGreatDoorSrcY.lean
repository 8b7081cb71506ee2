/- Is a source right, part by part: the program's isNonce, isScheme, isHost, isPath. The table of kept words, in memory; a kept kind's word: the program's keptText. A source in a block of its own; is a place right: the program's isPlace. Two sources compared. Is a source right: the program's isRight. -/
import Derived.Test.YthnogdodlhkldaaGreatDoorWalkZ
import Derived.Test.YthnogdodlhkldaaGreatDoorAny5
import Derived.Test.YthnogdodlhkldaaGreatDoorBaseZ
import Derived.Test.YthnogdodlhkldaaGreatDoorRefSZ
import Derived.Laws.StructEq
set_option maxRecDepth 100000
set_option maxHeartbeats 8000000
namespace Go.Proofs.YthnogdodlhkldaaGreatDoor
open Go.RowKit
theorem aO5 (s:ByteArray)(b:Bool)(hb:(decide (s.data.toList.length<=200)&&cU s.data.toList)=b)(hs:s.size<=100000)(w:World):Calls Tryz.prog 128 #[.string s] w fun e w'=>e=.returned (.bool b)/\w'=w:=by
 obtain⟨f,hf⟩:∃ f,cU s.data.toList=f:=⟨_,rfl⟩;have CF:=sG s (by omega) f hf;rw[hf,aE]at hb
 by_cases h:s.size<=200
 · have hz:(s.size:Int)<=200:=by omega
   have HR:Hid (f=b):=zH (by rw[<- hb,decide_eq_true h,Bool.true_and]);clear h hb hf
   go_enter Tryz.func128,Tryz.ntmps128
   go_wp2_with (go_at_call 182;(with_reducible refine(CF.out _).mono ?_);rintro e w ⟨rfl,rfl⟩)
   go_ret
   exact⟨aA HR.out,rfl⟩
 · have hz:¬ (s.size:Int)<=200:=by omega
   have HR:Hid (false=b):=zH (by rw[<- hb,decide_eq_false h,Bool.false_and]);clear h hb hf
   go_enter Tryz.func128,Tryz.ntmps128
   go_wp2
   go_ret
   exact⟨aA HR.out,rfl⟩
theorem aO4 (s:ByteArray)(b:Bool)(hb:(decide (s.data.toList.length<=200)&&cU s.data.toList)=b)(hs:s.size<=100000):Hid (∀ W,Calls Tryz.prog 128 #[.string s] W fun e w'=>e=.returned (.bool b)/\w'=W) :=
 zH fun W=>aO5 s b hb hs W
theorem aZ2 {s:ByteArray}(h:kM s.data.toList=0):aT (uM true s ⟨#[]⟩ 0 ⟨#[]⟩ ⟨#[]⟩)=dR s.data.toList:=by
 unfold aT cY uM kH bH;simp only[if_true,h]
 cases hs:dR s.data.toList
 · rfl
 · have hl:s.data.toList.length<=20:=by
    cases hd:s.data.toList with
    | nil=>simp
    | cons b l =>
      rw[hd,oO]at hs;simp only[Bool.and_eq_true,decide_eq_true_eq]at hs;have:=hs.1.1;simp;omega
   rw[decide_eq_true (p:=(s.data.toList++58 :: ([]:List UInt8)).length<=500) (by simp at hl ⊢;omega)];rfl
theorem aZ4 (h:ByteArray):aT (uM false ⟨#[104,116,116,112]⟩ h 0 ⟨#[47]⟩ ⟨#[]⟩)=bW h.data.toList:=by
 unfold aT cW uM kH;simp only[Bool.false_eq_true,if_false];rw[show decide (kM (⟨#[104,116,116,112]⟩:ByteArray).data.toList≠0)=true by decide,show decide ((0:Int)≠((kM (⟨#[104,116,116,112]⟩:ByteArray).data.toList:Nat):Int))=true by decide,show fI (⟨#[47]⟩:ByteArray).data.toList=true by decide,show fW (⟨#[]⟩:ByteArray).data.toList=true by decide]
 cases hs:bW h.data.toList
 · rfl
 · have hl:h.data.toList.length<=100:=by
    unfold bW at hs;simp only[Bool.and_eq_true,decide_eq_true_eq]at hs;exact hs.1
   simp[show iQ 0=[]from rfl]at hl ⊢;omega
theorem schP_any (s:ByteArray)(hs:s.size<=100000)(w:World)(hmx:aQ w)(ht:aS w):Calls Tryz.prog 129 #[.string s] w fun e w'=>e=.returned (.bool (dR s.data.toList))/\Below w.heap.size w w':=by
 obtain⟨d,hd⟩:∃ d,kM s.data.toList=d:=⟨_,rfl⟩;have CD:=gK s d hd
 by_cases h0:d=0
 · subst h0
   have hr:=aZ2 hd
   cases hx:dR s.data.toList
   · rw[hx]at hr
     have CC:=eV true s ⟨#[]⟩ 0 ⟨#[]⟩ ⟨#[]⟩ 50 (lZ hr) hs (by decide) (by decide) (by decide);clear hr hd hx hs;unfold uV at CC
     go_enter Tryz.func129,Tryz.ntmps129
     go_wp2_with (first | (go_at_call 84;(with_reducible refine(CD.out _).mono ?_);rintro e w ⟨rfl,rfl⟩) | (go_at_call 34;(with_reducible refine(CC.out _ hmx ht).mono ?_);rintro e w1 ⟨rfl,b1⟩))
     go_ret
     exact⟨rfl,b1⟩
   · rw[hx]at hr
     have CC:=eV true s ⟨#[]⟩ 0 ⟨#[]⟩ ⟨#[]⟩ 0 (mA hr) hs (by decide) (by decide) (by decide);clear hr hd hx hs;unfold uV at CC
     go_enter Tryz.func129,Tryz.ntmps129
     go_wp2_with (first | (go_at_call 84;(with_reducible refine(CD.out _).mono ?_);rintro e w ⟨rfl,rfl⟩) | (go_at_call 34;(with_reducible refine(CC.out _ hmx ht).mono ?_);rintro e w1 ⟨rfl,b1⟩))
     go_ret
     exact⟨rfl,b1⟩
 · have hx:dR s.data.toList=true:=aV2 (by omega)
   have g1:((d:Int) != 0)=true:=by rw[bne_iff_ne];omega
   rw[hx];clear hx hd h0 hs
   go_enter Tryz.func129,Tryz.ntmps129
   go_wp2_with (go_at_call 84;(with_reducible refine(CD.out _).mono ?_);rintro e w ⟨rfl,rfl⟩)
   go_ret
   exact⟨rfl,zB _ _⟩
theorem zG (s:ByteArray)(b:Bool)(hb:dR s.data.toList=b)(hs:s.size<=100000):Hid (∀ W,aQ W->aS W->Calls Tryz.prog 129 #[.string s] W fun e w'=>e=.returned (.bool b)/\Below W.heap.size W w') :=
 zH fun W hm ht=>by rw[<- hb];exact schP_any s hs W hm ht
theorem bG4 (s:ByteArray)(hs:s.size<=100000)(w:World)(hmx:aQ w)(ht:aS w):Calls Tryz.prog 183 #[.string s] w fun e w'=>e=.returned (.bool (bW s.data.toList))/\Below w.heap.size w w':=by
 have hr:=aZ4 s
 cases hx:bW s.data.toList
 · rw[hx]at hr
   have CC:=eV false ⟨#[104,116,116,112]⟩ s 0 ⟨#[47]⟩ ⟨#[]⟩ 50 (lZ hr) (by decide) hs (by decide) (by decide);clear hr hx hs;unfold uV at CC
   go_enter Tryz.func183,Tryz.ntmps183
   go_wp2_with (go_at_call 34;(with_reducible refine(CC.out _ hmx ht).mono ?_);rintro e w1 ⟨rfl,b1⟩)
   go_ret
   exact⟨rfl,b1⟩
 · rw[hx]at hr
   have CC:=eV false ⟨#[104,116,116,112]⟩ s 0 ⟨#[47]⟩ ⟨#[]⟩ 0 (mA hr) (by decide) hs (by decide) (by decide);clear hr hx hs;unfold uV at CC
   go_enter Tryz.func183,Tryz.ntmps183
   go_wp2_with (go_at_call 34;(with_reducible refine(CC.out _ hmx ht).mono ?_);rintro e w1 ⟨rfl,b1⟩)
   go_ret
   exact⟨rfl,b1⟩
theorem bG3 (s:ByteArray)(b:Bool)(hb:bW s.data.toList=b)(hs:s.size<=100000):Hid (∀ W,aQ W->aS W->Calls Tryz.prog 183 #[.string s] W fun e w'=>e=.returned (.bool b)/\Below W.heap.size W w') :=
 zH fun W hm ht=>by rw[<- hb];exact bG4 s hs W hm ht
theorem bG1 (l:List UInt8):l.all bJ8=(!l.any [63,35,44,59,58].contains&&l.all (fun b=>decide (33<=b.toNat/\b.toNat<=126))):=by
 induction l with
 | nil=>rfl
 | cons b l ih =>
   rw[List.all_cons,List.all_cons,List.any_cons,ih];unfold bJ8 aD2;generalize[63,35,44,59,58].contains b=x;generalize decide (33<=b.toNat/\b.toNat<=126)=y;generalize List.any l _=z;generalize List.all l _=u
   cases x<;>cases y<;>cases z<;>cases u<;>rfl
theorem aH7 (s:ByteArray)(hs:s.size<=100000)(w:World):Calls Tryz.prog 184 #[.string s] w fun e w'=>e=.returned (.bool (cF s.data.toList))/\Below w.heap.size w w':=by
 by_cases h0:s.data.toList=[]
 · obtain rfl:s=⟨#[]⟩:=aM h0
   go_enter Tryz.func184,Tryz.ntmps184
   go_wp2
   go_ret
   exact⟨rfl,zB _ _⟩
 have g0:s.toList.isEmpty=false:=by rw[aF];simpa using h0
 by_cases hl:(200:Int)<(s.size:Int)
 · have HR:Hid (false=cF s.data.toList):=zH (by unfold cF;rw[decide_eq_false (by rw[aE];omega)];rfl)
   clear h0
   go_enter Tryz.func184,Tryz.ntmps184
   go_wp2
   go_ret
   exact⟨aA HR.out,zB _ _⟩
 have hl2:s.data.toList.length<=200:=by rw[aE];omega
 have hM:cF s.data.toList=((s.data.toList.head? == some 47)&&s.data.toList.all bJ8):=by
  unfold cF;rw[decide_eq_true hl2,<- aF,g0];rfl
 have hpre:Lib.hasPrefix s.data.toList [47]=(s.data.toList.head? == some 47):=by
  cases hd:s.data.toList with
  | nil=>exact absurd hd h0
  | cons b l =>
    have hbb:∀ b:UInt8,(47==b)=(b==47):=jL (by decide +kernel);simp[Lib.hasPrefix,List.isPrefixOf,hbb]
 rw[bG1]at hM
 cases hc:s.data.toList.any [63,35,44,59,58].contains
 case true =>
  have CC:=nZ s true (by omega) hc;have HR:Hid (false=cF s.data.toList):=zH (by rw[hM,hc];simp);clear h0 hl2 hM hpre hc
  go_enter Tryz.func184,Tryz.ntmps184
  go_wp2_with (go_at_call 228;(with_reducible refine(CC.out _).mono ?_);rintro e w1 ⟨rfl,b1⟩)
  go_ret
  exact⟨aA HR.out,b1⟩
 rw[hc]at hM;simp only[Bool.not_false,Bool.true_and]at hM;have CC:=nZ s false (by omega) hc;obtain⟨hp,hhp⟩:∃ hp,(s.data.toList.head? == some (47:UInt8))=hp:=⟨_,rfl⟩;rw[hhp]at hpre hM
 have CP:Hid (∀ W,Calls Tryz.prog 77 #[.string s,.string ⟨#[47]⟩] W fun e w'=>e=.returned (.bool hp)/\w'=W):=zH fun W=>by
  rw[<- hpre];exact Tryz.strings_HasPrefix s ⟨#[47]⟩ W
 have HP:=zH hM;clear h0 hl2 hM hpre hc hhp
 go_enter Tryz.func184,Tryz.ntmps184
 go_wp2_with (go_at_call 228;(with_reducible refine(CC.out _).mono ?_);rintro e w1 ⟨rfl,b1⟩)
 have HB1:=zH b1;clear b1
 go_loop [15] (fun i=>∃ k:Nat,k<=s.size/\i=.int .i64 k/\Hid ((s.data.toList.take k).all (fun b=>decide (33<=b.toNat/\b.toNat<=126))=true)) (fun i=>s.size - (intOf i).toNat)
 case atStart=>exact⟨0,by omega,rfl,zH rfl⟩
 case round =>
  obtain⟨k,hk,rfl,HS⟩:=hrel
  by_cases hlt:k<s.size
  · have hst:=eO (fun b=>decide (33<=b.toNat/\b.toNat<=126)) hlt HS.out
    by_cases h1:(s[k].toNat:Int)<33
    · have HR:Hid (false=cF s.data.toList):=zH (by rw[HP.out,hst.2 (decide_eq_false (by omega))];simp)
      clear hst
      go_wp2
      go_ret
      exact⟨aA HR.out,HB1.out⟩
    by_cases h2:126<(s[k].toNat:Int)
    · have HR:Hid (false=cF s.data.toList):=zH (by rw[HP.out,hst.2 (decide_eq_false (by omega))];simp)
      clear hst
      go_wp2
      go_ret
      exact⟨aA HR.out,HB1.out⟩
    have HS2:=zH (hst.1 (decide_eq_true (by omega)));clear hst
    go_wp2
    go_round
    case rel=>exact⟨k+1,by omega,by go_num,HS2⟩
    case measure=>simp[intOf];omega
  · obtain rfl:k=s.size:=by omega
    have HR:Hid (hp=cF s.data.toList):=zH (by
     rw[HP.out];have:=HS.out;rw[cQ]at this
     rw[this,Bool.and_true])
    go_wp2_with (go_at_call 77;(with_reducible refine(CP.out _).mono ?_);rintro e w1 ⟨rfl,rfl⟩)
    go_ret
    exact⟨aA HR.out,HB1.out⟩
theorem aH6 (s:ByteArray)(b:Bool)(hb:cF s.data.toList=b)(hs:s.size<=100000):Hid (∀ W,Calls Tryz.prog 184 #[.string s] W fun e w'=>e=.returned (.bool b)/\Below W.heap.size W w') :=
 zH fun W=>by rw[<- hb];exact aH7 s hs W
end Go.Proofs.YthnogdodlhkldaaGreatDoor
namespace Go.Proofs.YthnogdodlhkldaaGreatDoor
open Go.RowKit
def KA:Array Value:=#[.string ⟨#[39,110,111,110,101,39]⟩,.int .i64 1,.string ⟨#[39,115,101,108,102,39]⟩,.int .i64 2,.string ⟨#[39,117,110,115,97,102,101,45,105,110,108,105,110,101,39]⟩,.int .i64 3,.string ⟨#[39,117,110,115,97,102,101,45,101,118,97,108,39]⟩,.int .i64 4,.string ⟨#[39,119,97,115,109,45,117,110,115,97,102,101,45,101,118,97,108,39]⟩,.int .i64 5,.string ⟨#[39,115,116,114,105,99,116,45,100,121,110,97,109,105,99,39]⟩,.int .i64 6,.string ⟨#[39,117,110,115,97,102,101,45,104,97,115,104,101,115,39]⟩,.int .i64 7,.string ⟨#[39,114,101,112,111,114,116,45,115,97,109,112,108,101,39]⟩,.int .i64 8]
def fU (w:World):Prop:=∀ j,j<16->w.cell? ⟨0,j,none⟩=KA[j]?
theorem fU.below {w w':World}(h:fU w)(hb:Below w.heap.size w w'):fU w':=fun j hj=>by
 have e:=h j hj;have:∃ v,KA[j]? = some v:=⟨_,Array.getElem?_eq_getElem (show j<KA.size from hj)⟩;obtain⟨v,hv⟩:=this;rw[hv]at e ⊢;rw[hb.cell (aH e)];exact e
theorem fU.made {w:World}(h:fU w)(x:Obj):fU (w.alloc x):=h.below ((zB _ _).alloc (zL _) _)
theorem kidx0 (w:World):(Instr.index 185 (.agg #[.string ⟨#[39,110,111,110,101,39]⟩,.int .i64 1,.string ⟨#[39,115,101,108,102,39]⟩,.int .i64 2,.string ⟨#[39,117,110,115,97,102,101,45,105,110,108,105,110,101,39]⟩,.int .i64 3,.string ⟨#[39,117,110,115,97,102,101,45,101,118,97,108,39]⟩,.int .i64 4,.string ⟨#[39,119,97,115,109,45,117,110,115,97,102,101,45,101,118,97,108,39]⟩,.int .i64 5,.string ⟨#[39,115,116,114,105,99,116,45,100,121,110,97,109,105,99,39]⟩,.int .i64 6,.string ⟨#[39,117,110,115,97,102,101,45,104,97,115,104,101,115,39]⟩,.int .i64 7,.string ⟨#[39,114,101,112,111,114,116,45,115,97,109,112,108,101,39]⟩,.int .i64 8]) (.int .i64 0)).run Tryz.prog w=.ok (.agg #[.string ⟨#[39,110,111,110,101,39]⟩,.int .i64 1]) w:=by kernel_rfl
theorem kidx1 (w:World):(Instr.index 185 (.agg #[.string ⟨#[39,110,111,110,101,39]⟩,.int .i64 1,.string ⟨#[39,115,101,108,102,39]⟩,.int .i64 2,.string ⟨#[39,117,110,115,97,102,101,45,105,110,108,105,110,101,39]⟩,.int .i64 3,.string ⟨#[39,117,110,115,97,102,101,45,101,118,97,108,39]⟩,.int .i64 4,.string ⟨#[39,119,97,115,109,45,117,110,115,97,102,101,45,101,118,97,108,39]⟩,.int .i64 5,.string ⟨#[39,115,116,114,105,99,116,45,100,121,110,97,109,105,99,39]⟩,.int .i64 6,.string ⟨#[39,117,110,115,97,102,101,45,104,97,115,104,101,115,39]⟩,.int .i64 7,.string ⟨#[39,114,101,112,111,114,116,45,115,97,109,112,108,101,39]⟩,.int .i64 8]) (.int .i64 1)).run Tryz.prog w=.ok (.agg #[.string ⟨#[39,115,101,108,102,39]⟩,.int .i64 2]) w:=by kernel_rfl
theorem kidx2 (w:World):(Instr.index 185 (.agg #[.string ⟨#[39,110,111,110,101,39]⟩,.int .i64 1,.string ⟨#[39,115,101,108,102,39]⟩,.int .i64 2,.string ⟨#[39,117,110,115,97,102,101,45,105,110,108,105,110,101,39]⟩,.int .i64 3,.string ⟨#[39,117,110,115,97,102,101,45,101,118,97,108,39]⟩,.int .i64 4,.string ⟨#[39,119,97,115,109,45,117,110,115,97,102,101,45,101,118,97,108,39]⟩,.int .i64 5,.string ⟨#[39,115,116,114,105,99,116,45,100,121,110,97,109,105,99,39]⟩,.int .i64 6,.string ⟨#[39,117,110,115,97,102,101,45,104,97,115,104,101,115,39]⟩,.int .i64 7,.string ⟨#[39,114,101,112,111,114,116,45,115,97,109,112,108,101,39]⟩,.int .i64 8]) (.int .i64 2)).run Tryz.prog w=.ok (.agg #[.string ⟨#[39,117,110,115,97,102,101,45,105,110,108,105,110,101,39]⟩,.int .i64 3]) w:=by kernel_rfl
theorem kidx3 (w:World):(Instr.index 185 (.agg #[.string ⟨#[39,110,111,110,101,39]⟩,.int .i64 1,.string ⟨#[39,115,101,108,102,39]⟩,.int .i64 2,.string ⟨#[39,117,110,115,97,102,101,45,105,110,108,105,110,101,39]⟩,.int .i64 3,.string ⟨#[39,117,110,115,97,102,101,45,101,118,97,108,39]⟩,.int .i64 4,.string ⟨#[39,119,97,115,109,45,117,110,115,97,102,101,45,101,118,97,108,39]⟩,.int .i64 5,.string ⟨#[39,115,116,114,105,99,116,45,100,121,110,97,109,105,99,39]⟩,.int .i64 6,.string ⟨#[39,117,110,115,97,102,101,45,104,97,115,104,101,115,39]⟩,.int .i64 7,.string ⟨#[39,114,101,112,111,114,116,45,115,97,109,112,108,101,39]⟩,.int .i64 8]) (.int .i64 3)).run Tryz.prog w=.ok (.agg #[.string ⟨#[39,117,110,115,97,102,101,45,101,118,97,108,39]⟩,.int .i64 4]) w:=by kernel_rfl
theorem kidx4 (w:World):(Instr.index 185 (.agg #[.string ⟨#[39,110,111,110,101,39]⟩,.int .i64 1,.string ⟨#[39,115,101,108,102,39]⟩,.int .i64 2,.string ⟨#[39,117,110,115,97,102,101,45,105,110,108,105,110,101,39]⟩,.int .i64 3,.string ⟨#[39,117,110,115,97,102,101,45,101,118,97,108,39]⟩,.int .i64 4,.string ⟨#[39,119,97,115,109,45,117,110,115,97,102,101,45,101,118,97,108,39]⟩,.int .i64 5,.string ⟨#[39,115,116,114,105,99,116,45,100,121,110,97,109,105,99,39]⟩,.int .i64 6,.string ⟨#[39,117,110,115,97,102,101,45,104,97,115,104,101,115,39]⟩,.int .i64 7,.string ⟨#[39,114,101,112,111,114,116,45,115,97,109,112,108,101,39]⟩,.int .i64 8]) (.int .i64 4)).run Tryz.prog w=.ok (.agg #[.string ⟨#[39,119,97,115,109,45,117,110,115,97,102,101,45,101,118,97,108,39]⟩,.int .i64 5]) w:=by kernel_rfl
theorem kidx5 (w:World):(Instr.index 185 (.agg #[.string ⟨#[39,110,111,110,101,39]⟩,.int .i64 1,.string ⟨#[39,115,101,108,102,39]⟩,.int .i64 2,.string ⟨#[39,117,110,115,97,102,101,45,105,110,108,105,110,101,39]⟩,.int .i64 3,.string ⟨#[39,117,110,115,97,102,101,45,101,118,97,108,39]⟩,.int .i64 4,.string ⟨#[39,119,97,115,109,45,117,110,115,97,102,101,45,101,118,97,108,39]⟩,.int .i64 5,.string ⟨#[39,115,116,114,105,99,116,45,100,121,110,97,109,105,99,39]⟩,.int .i64 6,.string ⟨#[39,117,110,115,97,102,101,45,104,97,115,104,101,115,39]⟩,.int .i64 7,.string ⟨#[39,114,101,112,111,114,116,45,115,97,109,112,108,101,39]⟩,.int .i64 8]) (.int .i64 5)).run Tryz.prog w=.ok (.agg #[.string ⟨#[39,115,116,114,105,99,116,45,100,121,110,97,109,105,99,39]⟩,.int .i64 6]) w:=by kernel_rfl
theorem kidx6 (w:World):(Instr.index 185 (.agg #[.string ⟨#[39,110,111,110,101,39]⟩,.int .i64 1,.string ⟨#[39,115,101,108,102,39]⟩,.int .i64 2,.string ⟨#[39,117,110,115,97,102,101,45,105,110,108,105,110,101,39]⟩,.int .i64 3,.string ⟨#[39,117,110,115,97,102,101,45,101,118,97,108,39]⟩,.int .i64 4,.string ⟨#[39,119,97,115,109,45,117,110,115,97,102,101,45,101,118,97,108,39]⟩,.int .i64 5,.string ⟨#[39,115,116,114,105,99,116,45,100,121,110,97,109,105,99,39]⟩,.int .i64 6,.string ⟨#[39,117,110,115,97,102,101,45,104,97,115,104,101,115,39]⟩,.int .i64 7,.string ⟨#[39,114,101,112,111,114,116,45,115,97,109,112,108,101,39]⟩,.int .i64 8]) (.int .i64 6)).run Tryz.prog w=.ok (.agg #[.string ⟨#[39,117,110,115,97,102,101,45,104,97,115,104,101,115,39]⟩,.int .i64 7]) w:=by kernel_rfl
theorem kidx7 (w:World):(Instr.index 185 (.agg #[.string ⟨#[39,110,111,110,101,39]⟩,.int .i64 1,.string ⟨#[39,115,101,108,102,39]⟩,.int .i64 2,.string ⟨#[39,117,110,115,97,102,101,45,105,110,108,105,110,101,39]⟩,.int .i64 3,.string ⟨#[39,117,110,115,97,102,101,45,101,118,97,108,39]⟩,.int .i64 4,.string ⟨#[39,119,97,115,109,45,117,110,115,97,102,101,45,101,118,97,108,39]⟩,.int .i64 5,.string ⟨#[39,115,116,114,105,99,116,45,100,121,110,97,109,105,99,39]⟩,.int .i64 6,.string ⟨#[39,117,110,115,97,102,101,45,104,97,115,104,101,115,39]⟩,.int .i64 7,.string ⟨#[39,114,101,112,111,114,116,45,115,97,109,112,108,101,39]⟩,.int .i64 8]) (.int .i64 7)).run Tryz.prog w=.ok (.agg #[.string ⟨#[39,114,101,112,111,114,116,45,115,97,109,112,108,101,39]⟩,.int .i64 8]) w:=by kernel_rfl
theorem kept_out {k:Int}(h:k≠1/\k≠2/\k≠3/\k≠4/\k≠5/\k≠6/\k≠7/\k≠8):aN k=[]:=by
 unfold aN;rw[if_neg (by omega)]
theorem bF5 (k:Int)(T:ByteArray)(hT:T.data.toList=aN k)(w:World)(hk:fU w):Calls Tryz.prog 131 #[.int .i64 k] w fun e w'=>e=.returned (.string T)/\Below w.heap.size w w':=by
 have c0:w.cell? ⟨0,0,none⟩=some (.string ⟨#[39,110,111,110,101,39]⟩):=hk 0 (by decide);have c1:w.cell? ⟨0,1,none⟩=some (.int .i64 1):=hk 1 (by decide);have c2:w.cell? ⟨0,2,none⟩=some (.string ⟨#[39,115,101,108,102,39]⟩):=hk 2 (by decide);have c3:w.cell? ⟨0,3,none⟩=some (.int .i64 2):=hk 3 (by decide);have c4:w.cell? ⟨0,4,none⟩=some (.string ⟨#[39,117,110,115,97,102,101,45,105,110,108,105,110,101,39]⟩):=hk 4 (by decide);have c5:w.cell? ⟨0,5,none⟩=some (.int .i64 3):=hk 5 (by decide);have c6:w.cell? ⟨0,6,none⟩=some (.string ⟨#[39,117,110,115,97,102,101,45,101,118,97,108,39]⟩):=hk 6 (by decide);have c7:w.cell? ⟨0,7,none⟩=some (.int .i64 4):=hk 7 (by decide);have c8:w.cell? ⟨0,8,none⟩=some (.string ⟨#[39,119,97,115,109,45,117,110,115,97,102,101,45,101,118,97,108,39]⟩):=hk 8 (by decide);have c9:w.cell? ⟨0,9,none⟩=some (.int .i64 5):=hk 9 (by decide);have c10:w.cell? ⟨0,10,none⟩=some (.string ⟨#[39,115,116,114,105,99,116,45,100,121,110,97,109,105,99,39]⟩):=hk 10 (by decide);have c11:w.cell? ⟨0,11,none⟩=some (.int .i64 6):=hk 11 (by decide);have c12:w.cell? ⟨0,12,none⟩=some (.string ⟨#[39,117,110,115,97,102,101,45,104,97,115,104,101,115,39]⟩):=hk 12 (by decide);have c13:w.cell? ⟨0,13,none⟩=some (.int .i64 7):=hk 13 (by decide);have c14:w.cell? ⟨0,14,none⟩=some (.string ⟨#[39,114,101,112,111,114,116,45,115,97,109,112,108,101,39]⟩):=hk 14 (by decide);have c15:w.cell? ⟨0,15,none⟩=some (.int .i64 8):=hk 15 (by decide);clear hk;have HT:=zH hT;clear hT
 go_enter Tryz.func131,Tryz.ntmps131
 go_wp2
 clear c0 c1 c2 c3 c4 c5 c6 c7 c8 c9 c10 c11 c12 c13 c14 c15
 go_loopw [6] (fun i wr=>∃ j:Nat,j<=8/\i=.int .i64 j/\Hid (∀ z:Int,1<=z->z<=(j:Int)->k≠z)/\Below w.heap.size w wr) (fun i _=>8 - (intOf i).toNat)
 case atStart=>exact⟨0,by decide,rfl,zH (by intro z h1 h2;omega),zB _ _⟩
 case round =>
  obtain⟨j,hj,rfl,HN,hb⟩:=hrel;obtain rfl | rfl | rfl | rfl | rfl | rfl | rfl | rfl | rfl:j=0\/j=1\/j=2\/j=3\/j=4\/j=5\/j=6\/j=7\/j=8:=by omega
  · have ix:=kidx0
    by_cases h:k=1
    · have g:((1:Int)==k)=true:=by rw[beq_iff_eq];exact h.symm
      have HR:Hid ((⟨#[39,110,111,110,101,39]⟩:ByteArray)=T):=zH (by rw[aM HT.out,h];rfl);clear h HN
      go_wp2
      go_ret
      exact⟨congrArg (fun x=>Ending.returned (Value.string x)) HR.out,hb.alloc hb.size _⟩
    · have g:((1:Int)==k)=false:=by rw[beq_eq_false_iff_ne];exact fun e=>h e.symm
      have HN2:Hid (∀ z:Int,1<=z->z<=(1:Nat)->k≠z):=zH (by
       intro z h1 h2 e
       by_cases h3:z<=0
       · exact HN.out z h1 (by simpa using h3) e
       · have:z=1:=by omega
         exact h (e.trans this))
      clear h HN
      go_wp2
      go_roundw
      case rel=>exact⟨1,by decide,rfl,HN2,hb.alloc hb.size _⟩
      case measure=>decide
  · have ix:=kidx1
    by_cases h:k=2
    · have g:((2:Int)==k)=true:=by rw[beq_iff_eq];exact h.symm
      have HR:Hid ((⟨#[39,115,101,108,102,39]⟩:ByteArray)=T):=zH (by rw[aM HT.out,h];rfl);clear h HN
      go_wp2
      go_ret
      exact⟨congrArg (fun x=>Ending.returned (Value.string x)) HR.out,hb.alloc hb.size _⟩
    · have g:((2:Int)==k)=false:=by rw[beq_eq_false_iff_ne];exact fun e=>h e.symm
      have HN2:Hid (∀ z:Int,1<=z->z<=(2:Nat)->k≠z):=zH (by
       intro z h1 h2 e
       by_cases h3:z<=1
       · exact HN.out z h1 (by simpa using h3) e
       · have:z=2:=by omega
         exact h (e.trans this))
      clear h HN
      go_wp2
      go_roundw
      case rel=>exact⟨2,by decide,rfl,HN2,hb.alloc hb.size _⟩
      case measure=>decide
  · have ix:=kidx2
    by_cases h:k=3
    · have g:((3:Int)==k)=true:=by rw[beq_iff_eq];exact h.symm
      have HR:Hid ((⟨#[39,117,110,115,97,102,101,45,105,110,108,105,110,101,39]⟩:ByteArray)=T):=zH (by rw[aM HT.out,h];rfl);clear h HN
      go_wp2
      go_ret
      exact⟨congrArg (fun x=>Ending.returned (Value.string x)) HR.out,hb.alloc hb.size _⟩
    · have g:((3:Int)==k)=false:=by rw[beq_eq_false_iff_ne];exact fun e=>h e.symm
      have HN2:Hid (∀ z:Int,1<=z->z<=(3:Nat)->k≠z):=zH (by
       intro z h1 h2 e
       by_cases h3:z<=2
       · exact HN.out z h1 (by simpa using h3) e
       · have:z=3:=by omega
         exact h (e.trans this))
      clear h HN
      go_wp2
      go_roundw
      case rel=>exact⟨3,by decide,rfl,HN2,hb.alloc hb.size _⟩
      case measure=>decide
  · have ix:=kidx3
    by_cases h:k=4
    · have g:((4:Int)==k)=true:=by rw[beq_iff_eq];exact h.symm
      have HR:Hid ((⟨#[39,117,110,115,97,102,101,45,101,118,97,108,39]⟩:ByteArray)=T):=zH (by rw[aM HT.out,h];rfl);clear h HN
      go_wp2
      go_ret
      exact⟨congrArg (fun x=>Ending.returned (Value.string x)) HR.out,hb.alloc hb.size _⟩
    · have g:((4:Int)==k)=false:=by rw[beq_eq_false_iff_ne];exact fun e=>h e.symm
      have HN2:Hid (∀ z:Int,1<=z->z<=(4:Nat)->k≠z):=zH (by
       intro z h1 h2 e
       by_cases h3:z<=3
       · exact HN.out z h1 (by simpa using h3) e
       · have:z=4:=by omega
         exact h (e.trans this))
      clear h HN
      go_wp2
      go_roundw
      case rel=>exact⟨4,by decide,rfl,HN2,hb.alloc hb.size _⟩
      case measure=>decide
  · have ix:=kidx4
    by_cases h:k=5
    · have g:((5:Int)==k)=true:=by rw[beq_iff_eq];exact h.symm
      have HR:Hid ((⟨#[39,119,97,115,109,45,117,110,115,97,102,101,45,101,118,97,108,39]⟩:ByteArray)=T):=zH (by rw[aM HT.out,h];rfl);clear h HN
      go_wp2
      go_ret
      exact⟨congrArg (fun x=>Ending.returned (Value.string x)) HR.out,hb.alloc hb.size _⟩
    · have g:((5:Int)==k)=false:=by rw[beq_eq_false_iff_ne];exact fun e=>h e.symm
      have HN2:Hid (∀ z:Int,1<=z->z<=(5:Nat)->k≠z):=zH (by
       intro z h1 h2 e
       by_cases h3:z<=4
       · exact HN.out z h1 (by simpa using h3) e
       · have:z=5:=by omega
         exact h (e.trans this))
      clear h HN
      go_wp2
      go_roundw
      case rel=>exact⟨5,by decide,rfl,HN2,hb.alloc hb.size _⟩
      case measure=>decide
  · have ix:=kidx5
    by_cases h:k=6
    · have g:((6:Int)==k)=true:=by rw[beq_iff_eq];exact h.symm
      have HR:Hid ((⟨#[39,115,116,114,105,99,116,45,100,121,110,97,109,105,99,39]⟩:ByteArray)=T):=zH (by rw[aM HT.out,h];rfl);clear h HN
      go_wp2
      go_ret
      exact⟨congrArg (fun x=>Ending.returned (Value.string x)) HR.out,hb.alloc hb.size _⟩
    · have g:((6:Int)==k)=false:=by rw[beq_eq_false_iff_ne];exact fun e=>h e.symm
      have HN2:Hid (∀ z:Int,1<=z->z<=(6:Nat)->k≠z):=zH (by
       intro z h1 h2 e
       by_cases h3:z<=5
       · exact HN.out z h1 (by simpa using h3) e
       · have:z=6:=by omega
         exact h (e.trans this))
      clear h HN
      go_wp2
      go_roundw
      case rel=>exact⟨6,by decide,rfl,HN2,hb.alloc hb.size _⟩
      case measure=>decide
  · have ix:=kidx6
    by_cases h:k=7
    · have g:((7:Int)==k)=true:=by rw[beq_iff_eq];exact h.symm
      have HR:Hid ((⟨#[39,117,110,115,97,102,101,45,104,97,115,104,101,115,39]⟩:ByteArray)=T):=zH (by rw[aM HT.out,h];rfl);clear h HN
      go_wp2
      go_ret
      exact⟨congrArg (fun x=>Ending.returned (Value.string x)) HR.out,hb.alloc hb.size _⟩
    · have g:((7:Int)==k)=false:=by rw[beq_eq_false_iff_ne];exact fun e=>h e.symm
      have HN2:Hid (∀ z:Int,1<=z->z<=(7:Nat)->k≠z):=zH (by
       intro z h1 h2 e
       by_cases h3:z<=6
       · exact HN.out z h1 (by simpa using h3) e
       · have:z=7:=by omega
         exact h (e.trans this))
      clear h HN
      go_wp2
      go_roundw
      case rel=>exact⟨7,by decide,rfl,HN2,hb.alloc hb.size _⟩
      case measure=>decide
  · have ix:=kidx7
    by_cases h:k=8
    · have g:((8:Int)==k)=true:=by rw[beq_iff_eq];exact h.symm
      have HR:Hid ((⟨#[39,114,101,112,111,114,116,45,115,97,109,112,108,101,39]⟩:ByteArray)=T):=zH (by rw[aM HT.out,h];rfl);clear h HN
      go_wp2
      go_ret
      exact⟨congrArg (fun x=>Ending.returned (Value.string x)) HR.out,hb.alloc hb.size _⟩
    · have g:((8:Int)==k)=false:=by rw[beq_eq_false_iff_ne];exact fun e=>h e.symm
      have HN2:Hid (∀ z:Int,1<=z->z<=(8:Nat)->k≠z):=zH (by
       intro z h1 h2 e
       by_cases h3:z<=7
       · exact HN.out z h1 (by simpa using h3) e
       · have:z=8:=by omega
         exact h (e.trans this))
      clear h HN
      go_wp2
      go_roundw
      case rel=>exact⟨8,by decide,rfl,HN2,hb.alloc hb.size _⟩
      case measure=>decide
  · have HR:Hid ((⟨#[]⟩:ByteArray)=T):=zH (by
     have e:aN k=[]:=kept_out ⟨HN.out 1 (by decide) (by decide),HN.out 2 (by decide) (by decide),HN.out 3 (by decide) (by decide),HN.out 4 (by decide) (by decide),HN.out 5 (by decide) (by decide),HN.out 6 (by decide) (by decide),HN.out 7 (by decide) (by decide),HN.out 8 (by decide) (by decide)⟩
     rw[aM HT.out,e])
    clear HN
    go_wp2
    go_ret
    exact⟨congrArg (fun x=>Ending.returned (Value.string x)) HR.out,hb⟩
theorem bF4 (k:Int)(T:ByteArray)(hT:T.data.toList=aN k):Hid (∀ W,fU W->Calls Tryz.prog 131 #[.int .i64 k] W fun e w'=>e=.returned (.string T)/\Below W.heap.size W w'):=zH fun W hk=>bF5 k T hT W hk
end Go.Proofs.YthnogdodlhkldaaGreatDoor
namespace Go.Proofs.YthnogdodlhkldaaGreatDoor
open Go.RowKit
def SX (w:World)(R:Nat)(k:Int)(t s h:ByteArray)(b:Bool)(p:Int)(pa:ByteArray):Prop:=w.heap[R]? = some (.cells #[.int .i64 k,.string t,.string s,.string h,.bool b,.int .i64 p,.string pa] 75 (0,0))
theorem SX.lt {w:World}{R:Nat}{t s h pa:ByteArray}{b:Bool}{k p:Int}(a:SX w R k t s h b p pa):R<w.heap.size:=aD a
theorem SX.below {w w':World}{R:Nat}{t s h pa:ByteArray}{b:Bool}{k p:Int}(a:SX w R k t s h b p pa)(hb:Below w.heap.size w w'):SX w' R k t s h b p pa:=by
 unfold SX at *;rw[hb.block R (aD a)];exact a
theorem SX.made (w:World)(k:Int)(t s h:ByteArray)(b:Bool)(p:Int)(pa:ByteArray):SX (w.alloc (.cells #[.int .i64 k,.string t,.string s,.string h,.bool b,.int .i64 p,.string pa] 75)) w.heap.size k t s h b p pa:=aW w _
theorem SX.c0 {w:World}{R:Nat}{t s h pa:ByteArray}{b:Bool}{k p:Int}(a:SX w R k t s h b p pa):w.cell? ⟨R,0,none⟩=some (.int .i64 k):=by rw[aG a];rfl
theorem SX.c1 {w:World}{R:Nat}{t s h pa:ByteArray}{b:Bool}{k p:Int}(a:SX w R k t s h b p pa):w.cell? ⟨R,1,none⟩=some (.string t):=by rw[aG a];rfl
theorem SX.c2 {w:World}{R:Nat}{t s h pa:ByteArray}{b:Bool}{k p:Int}(a:SX w R k t s h b p pa):w.cell? ⟨R,2,none⟩=some (.string s):=by rw[aG a];rfl
theorem SX.c3 {w:World}{R:Nat}{t s h pa:ByteArray}{b:Bool}{k p:Int}(a:SX w R k t s h b p pa):w.cell? ⟨R,3,none⟩=some (.string h):=by rw[aG a];rfl
theorem SX.c4 {w:World}{R:Nat}{t s h pa:ByteArray}{b:Bool}{k p:Int}(a:SX w R k t s h b p pa):w.cell? ⟨R,4,none⟩=some (.bool b):=by rw[aG a];rfl
theorem SX.c5 {w:World}{R:Nat}{t s h pa:ByteArray}{b:Bool}{k p:Int}(a:SX w R k t s h b p pa):w.cell? ⟨R,5,none⟩=some (.int .i64 p):=by rw[aG a];rfl
theorem SX.c6 {w:World}{R:Nat}{t s h pa:ByteArray}{b:Bool}{k p:Int}(a:SX w R k t s h b p pa):w.cell? ⟨R,6,none⟩=some (.string pa):=by rw[aG a];rfl
theorem SX.cs {w:World}{R:Nat}{t s h pa:ByteArray}{b:Bool}{k p:Int}(a:SX w R k t s h b p pa):w.cell? ⟨R,0,none⟩=some (.int .i64 k)/\w.cell? ⟨R,1,none⟩=some (.string t)/\w.cell? ⟨R,2,none⟩=some (.string s)/\w.cell? ⟨R,3,none⟩=some (.string h)/\w.cell? ⟨R,4,none⟩=some (.bool b)/\w.cell? ⟨R,5,none⟩=some (.int .i64 p)/\w.cell? ⟨R,6,none⟩=some (.string pa):=⟨a.c0,a.c1,a.c2,a.c3,a.c4,a.c5,a.c6⟩
def cX (a:bI):Bool:=(a.s.isEmpty || dR a.s)&&((a.h.isEmpty&&a.w) || bW a.h)&&decide (-1<=a.p/\a.p<=65535)&&cF a.pa
theorem aD3:bW []=false:=by decide
theorem aN4 (a:bI):aZ a=(a.t.isEmpty&&cX a):=by
 unfold aZ cX
 cases hh:a.h with
 | nil =>
   rw[aD3]
   cases a.t.isEmpty<;>cases a.w<;>simp
 | cons c l =>
   cases a.t.isEmpty<;>simp
theorem aN6 (k:Int)(t s h:ByteArray)(b:Bool)(p:Int)(pa:ByteArray)(hs:s.size<=100000)(hh:h.size<=100000)(hpa:pa.size<=100000)(w:World)(hm:aQ w)(ht:aS w):Calls Tryz.prog 130 #[aP k t s h b p pa] w fun e w'=>e=.returned (.bool (cX (aJ k t s h b p pa)))/\Below w.heap.size w w':=by
 obtain⟨xs,hxs⟩:∃ x,dR s.data.toList=x:=⟨_,rfl⟩;obtain⟨xh,hxh⟩:∃ x,bW h.data.toList=x:=⟨_,rfl⟩;obtain⟨xp,hxp⟩:∃ x,cF pa.data.toList=x:=⟨_,rfl⟩;have CS:=zG s xs hxs hs;have CH:=bG3 h xh hxh hh;have CP:=aH6 pa xp hxp hpa;have HM:Hid (cX (aJ k t s h b p pa)=((s.toList.isEmpty || xs)&&((h.toList.isEmpty&&b) || xh)&&decide (-1<=p/\p<=65535)&&xp)):=zH (by rw[<- hxs,<- hxh,<- hxp,aF,aF];rfl)
 have HE:Hid (h.toList.isEmpty=true->xh=false):=zH (by
  intro e;rw[aF]at e;have e2:h.data.toList=[]:=by simpa using e
  rw[<- hxh,e2];exact aD3)
 clear hxs hxh hxp hs hh hpa;unfold aP
 cases gs:s.toList.isEmpty
 · rw[gs]at HM
   cases xs
   · show _
     have HF:Hid (false=cX (aJ k t s h b p pa)):=zH (by rw[HM.out];simp);clear HM HE
     go_enter Tryz.func130,Tryz.ntmps130
     go_wp2_with fail
     have xn:=SX.made w k t s h b p pa;have mw1:=hm.made (.cells #[.int .i64 k,.string t,.string s,.string h,.bool b,.int .i64 p,.string pa] 75);have tw1:=ht.made (.cells #[.int .i64 k,.string t,.string s,.string h,.bool b,.int .i64 p,.string pa] 75);have Bw1:Below w.heap.size w (w.alloc (.cells #[.int .i64 k,.string t,.string s,.string h,.bool b,.int .i64 p,.string pa] 75)):=((zB w.heap.size w).alloc (zL _) (.cells #[.int .i64 k,.string t,.string s,.string h,.bool b,.int .i64 p,.string pa] 75));generalize hR:w.heap.size=R at xn Bw1 ⊢;have HR:=zH hR;clear hR;generalize w.alloc (.cells #[.int .i64 k,.string t,.string s,.string h,.bool b,.int .i64 p,.string pa] 75)=w1 at xn mw1 tw1 Bw1 ⊢;have xR_w1:=xn;clear xn hm ht;refine(CS.out _ mw1 tw1).mono ?_;rintro e w2 ⟨rfl,b_⟩;have mw2:=mw1.below b_;have tw2:=tw1.below b_;have Bw2:=Bw1.trans (b_.mono (zT xR_w1.lt));have xR_w2:=xR_w1.below b_;clear b_ mw1 tw1 Bw1 xR_w1;obtain⟨dR0,dR1,dR2,dR3,dR4,dR5,dR6⟩:=xR_w2.cs
     go_wp2
     go_ret
     exact⟨aA HF.out,by rw[HR.out];exact Bw2⟩
   · show _
     cases gh:h.toList.isEmpty
     · rw[gh]at HM HE
       cases xh
       · show _
         have HF:Hid (false=cX (aJ k t s h b p pa)):=zH (by rw[HM.out];simp only[Bool.or_true,Bool.true_and];simp);clear HM HE
         go_enter Tryz.func130,Tryz.ntmps130
         go_wp2_with fail
         have xn:=SX.made w k t s h b p pa;have mw1:=hm.made (.cells #[.int .i64 k,.string t,.string s,.string h,.bool b,.int .i64 p,.string pa] 75);have tw1:=ht.made (.cells #[.int .i64 k,.string t,.string s,.string h,.bool b,.int .i64 p,.string pa] 75);have Bw1:Below w.heap.size w (w.alloc (.cells #[.int .i64 k,.string t,.string s,.string h,.bool b,.int .i64 p,.string pa] 75)):=((zB w.heap.size w).alloc (zL _) (.cells #[.int .i64 k,.string t,.string s,.string h,.bool b,.int .i64 p,.string pa] 75));generalize hR:w.heap.size=R at xn Bw1 ⊢;have HR:=zH hR;clear hR;generalize w.alloc (.cells #[.int .i64 k,.string t,.string s,.string h,.bool b,.int .i64 p,.string pa] 75)=w1 at xn mw1 tw1 Bw1 ⊢;have xR_w1:=xn;clear xn hm ht;refine(CS.out _ mw1 tw1).mono ?_;rintro e w2 ⟨rfl,b_⟩;have mw2:=mw1.below b_;have tw2:=tw1.below b_;have Bw2:=Bw1.trans (b_.mono (zT xR_w1.lt));have xR_w2:=xR_w1.below b_;clear b_ mw1 tw1 Bw1 xR_w1;obtain⟨dR0,dR1,dR2,dR3,dR4,dR5,dR6⟩:=xR_w2.cs
         go_wp2_with fail
         clear dR0 dR1 dR2 dR3 dR4 dR5 dR6;refine(CH.out _ mw2 tw2).mono ?_;rintro e w3 ⟨rfl,b_⟩;have mw3:=mw2.below b_;have tw3:=tw2.below b_;have Bw3:=Bw2.trans (b_.mono (zT xR_w2.lt));have xR_w3:=xR_w2.below b_;clear b_ mw2 tw2 Bw2 xR_w2;obtain⟨dR0,dR1,dR2,dR3,dR4,dR5,dR6⟩:=xR_w3.cs
         go_wp2
         go_ret
         exact⟨aA HF.out,by rw[HR.out];exact Bw3⟩
       · show _
         by_cases p1:p < -1
         · have q1:decide (-1<=p/\p<=65535)=false:=decide_eq_false (by omega)
           have HF:Hid (false=cX (aJ k t s h b p pa)):=zH (by rw[HM.out];simp only[Bool.or_true,Bool.true_and];rw[q1];simp);clear HM HE
           go_enter Tryz.func130,Tryz.ntmps130
           go_wp2_with fail
           have xn:=SX.made w k t s h b p pa;have mw1:=hm.made (.cells #[.int .i64 k,.string t,.string s,.string h,.bool b,.int .i64 p,.string pa] 75);have tw1:=ht.made (.cells #[.int .i64 k,.string t,.string s,.string h,.bool b,.int .i64 p,.string pa] 75);have Bw1:Below w.heap.size w (w.alloc (.cells #[.int .i64 k,.string t,.string s,.string h,.bool b,.int .i64 p,.string pa] 75)):=((zB w.heap.size w).alloc (zL _) (.cells #[.int .i64 k,.string t,.string s,.string h,.bool b,.int .i64 p,.string pa] 75));generalize hR:w.heap.size=R at xn Bw1 ⊢;have HR:=zH hR;clear hR;generalize w.alloc (.cells #[.int .i64 k,.string t,.string s,.string h,.bool b,.int .i64 p,.string pa] 75)=w1 at xn mw1 tw1 Bw1 ⊢;have xR_w1:=xn;clear xn hm ht;refine(CS.out _ mw1 tw1).mono ?_;rintro e w2 ⟨rfl,b_⟩;have mw2:=mw1.below b_;have tw2:=tw1.below b_;have Bw2:=Bw1.trans (b_.mono (zT xR_w1.lt));have xR_w2:=xR_w1.below b_;clear b_ mw1 tw1 Bw1 xR_w1;obtain⟨dR0,dR1,dR2,dR3,dR4,dR5,dR6⟩:=xR_w2.cs
           go_wp2_with fail
           clear dR0 dR1 dR2 dR3 dR4 dR5 dR6;refine(CH.out _ mw2 tw2).mono ?_;rintro e w3 ⟨rfl,b_⟩;have mw3:=mw2.below b_;have tw3:=tw2.below b_;have Bw3:=Bw2.trans (b_.mono (zT xR_w2.lt));have xR_w3:=xR_w2.below b_;clear b_ mw2 tw2 Bw2 xR_w2;obtain⟨dR0,dR1,dR2,dR3,dR4,dR5,dR6⟩:=xR_w3.cs
           go_wp2
           go_ret
           exact⟨aA HF.out,by rw[HR.out];exact Bw3⟩
         have p1' : -1<=p:=by omega
         by_cases p2:65535<p
         · have q1:decide (-1<=p/\p<=65535)=false:=decide_eq_false (by omega)
           have p2':¬ p<=65535:=by omega
           have HF:Hid (false=cX (aJ k t s h b p pa)):=zH (by rw[HM.out];simp only[Bool.or_true,Bool.true_and];rw[q1];simp);clear HM HE
           go_enter Tryz.func130,Tryz.ntmps130
           go_wp2_with fail
           have xn:=SX.made w k t s h b p pa;have mw1:=hm.made (.cells #[.int .i64 k,.string t,.string s,.string h,.bool b,.int .i64 p,.string pa] 75);have tw1:=ht.made (.cells #[.int .i64 k,.string t,.string s,.string h,.bool b,.int .i64 p,.string pa] 75);have Bw1:Below w.heap.size w (w.alloc (.cells #[.int .i64 k,.string t,.string s,.string h,.bool b,.int .i64 p,.string pa] 75)):=((zB w.heap.size w).alloc (zL _) (.cells #[.int .i64 k,.string t,.string s,.string h,.bool b,.int .i64 p,.string pa] 75));generalize hR:w.heap.size=R at xn Bw1 ⊢;have HR:=zH hR;clear hR;generalize w.alloc (.cells #[.int .i64 k,.string t,.string s,.string h,.bool b,.int .i64 p,.string pa] 75)=w1 at xn mw1 tw1 Bw1 ⊢;have xR_w1:=xn;clear xn hm ht;refine(CS.out _ mw1 tw1).mono ?_;rintro e w2 ⟨rfl,b_⟩;have mw2:=mw1.below b_;have tw2:=tw1.below b_;have Bw2:=Bw1.trans (b_.mono (zT xR_w1.lt));have xR_w2:=xR_w1.below b_;clear b_ mw1 tw1 Bw1 xR_w1;obtain⟨dR0,dR1,dR2,dR3,dR4,dR5,dR6⟩:=xR_w2.cs
           go_wp2_with fail
           clear dR0 dR1 dR2 dR3 dR4 dR5 dR6;refine(CH.out _ mw2 tw2).mono ?_;rintro e w3 ⟨rfl,b_⟩;have mw3:=mw2.below b_;have tw3:=tw2.below b_;have Bw3:=Bw2.trans (b_.mono (zT xR_w2.lt));have xR_w3:=xR_w2.below b_;clear b_ mw2 tw2 Bw2 xR_w2;obtain⟨dR0,dR1,dR2,dR3,dR4,dR5,dR6⟩:=xR_w3.cs
           go_wp2
           go_ret
           exact⟨aA HF.out,by rw[HR.out];exact Bw3⟩
         have p2':p<=65535:=by omega
         have q1:decide (-1<=p/\p<=65535)=true:=decide_eq_true (by omega);have HF:Hid (xp=cX (aJ k t s h b p pa)):=zH (by rw[HM.out];simp only[Bool.or_true,Bool.true_and];rw[q1];simp);clear HM HE
         go_enter Tryz.func130,Tryz.ntmps130
         go_wp2_with fail
         have xn:=SX.made w k t s h b p pa;have mw1:=hm.made (.cells #[.int .i64 k,.string t,.string s,.string h,.bool b,.int .i64 p,.string pa] 75);have tw1:=ht.made (.cells #[.int .i64 k,.string t,.string s,.string h,.bool b,.int .i64 p,.string pa] 75);have Bw1:Below w.heap.size w (w.alloc (.cells #[.int .i64 k,.string t,.string s,.string h,.bool b,.int .i64 p,.string pa] 75)):=((zB w.heap.size w).alloc (zL _) (.cells #[.int .i64 k,.string t,.string s,.string h,.bool b,.int .i64 p,.string pa] 75));generalize hR:w.heap.size=R at xn Bw1 ⊢;have HR:=zH hR;clear hR;generalize w.alloc (.cells #[.int .i64 k,.string t,.string s,.string h,.bool b,.int .i64 p,.string pa] 75)=w1 at xn mw1 tw1 Bw1 ⊢;have xR_w1:=xn;clear xn hm ht;refine(CS.out _ mw1 tw1).mono ?_;rintro e w2 ⟨rfl,b_⟩;have mw2:=mw1.below b_;have tw2:=tw1.below b_;have Bw2:=Bw1.trans (b_.mono (zT xR_w1.lt));have xR_w2:=xR_w1.below b_;clear b_ mw1 tw1 Bw1 xR_w1;obtain⟨dR0,dR1,dR2,dR3,dR4,dR5,dR6⟩:=xR_w2.cs
         go_wp2_with fail
         clear dR0 dR1 dR2 dR3 dR4 dR5 dR6;refine(CH.out _ mw2 tw2).mono ?_;rintro e w3 ⟨rfl,b_⟩;have mw3:=mw2.below b_;have tw3:=tw2.below b_;have Bw3:=Bw2.trans (b_.mono (zT xR_w2.lt));have xR_w3:=xR_w2.below b_;clear b_ mw2 tw2 Bw2 xR_w2;obtain⟨dR0,dR1,dR2,dR3,dR4,dR5,dR6⟩:=xR_w3.cs
         go_wp2_with fail
         clear dR0 dR1 dR2 dR3 dR4 dR5 dR6;refine(CP.out _ ).mono ?_;rintro e w4 ⟨rfl,b_⟩;have mw4:=mw3.below b_;have tw4:=tw3.below b_;have Bw4:=Bw3.trans (b_.mono (zT xR_w3.lt));have xR_w4:=xR_w3.below b_;clear b_ mw3 tw3 Bw3 xR_w3;obtain⟨dR0,dR1,dR2,dR3,dR4,dR5,dR6⟩:=xR_w4.cs
         go_wp2
         go_ret
         exact⟨aA HF.out,by rw[HR.out];exact Bw4⟩
     · rw[gh]at HM HE
       obtain rfl:=HE.out rfl
       cases b
       · show _
         have HF:Hid (false=cX (aJ k t s h false p pa)):=zH (by rw[HM.out];simp only[Bool.or_true,Bool.true_and];simp);clear HM HE
         go_enter Tryz.func130,Tryz.ntmps130
         go_wp2_with fail
         have xn:=SX.made w k t s h false p pa;have mw1:=hm.made (.cells #[.int .i64 k,.string t,.string s,.string h,.bool false,.int .i64 p,.string pa] 75);have tw1:=ht.made (.cells #[.int .i64 k,.string t,.string s,.string h,.bool false,.int .i64 p,.string pa] 75);have Bw1:Below w.heap.size w (w.alloc (.cells #[.int .i64 k,.string t,.string s,.string h,.bool false,.int .i64 p,.string pa] 75)):=((zB w.heap.size w).alloc (zL _) (.cells #[.int .i64 k,.string t,.string s,.string h,.bool false,.int .i64 p,.string pa] 75));generalize hR:w.heap.size=R at xn Bw1 ⊢;have HR:=zH hR;clear hR;generalize w.alloc (.cells #[.int .i64 k,.string t,.string s,.string h,.bool false,.int .i64 p,.string pa] 75)=w1 at xn mw1 tw1 Bw1 ⊢;have xR_w1:=xn;clear xn hm ht;refine(CS.out _ mw1 tw1).mono ?_;rintro e w2 ⟨rfl,b_⟩;have mw2:=mw1.below b_;have tw2:=tw1.below b_;have Bw2:=Bw1.trans (b_.mono (zT xR_w1.lt));have xR_w2:=xR_w1.below b_;clear b_ mw1 tw1 Bw1 xR_w1;obtain⟨dR0,dR1,dR2,dR3,dR4,dR5,dR6⟩:=xR_w2.cs
         go_wp2_with fail
         clear dR0 dR1 dR2 dR3 dR4 dR5 dR6;refine(CH.out _ mw2 tw2).mono ?_;rintro e w3 ⟨rfl,b_⟩;have mw3:=mw2.below b_;have tw3:=tw2.below b_;have Bw3:=Bw2.trans (b_.mono (zT xR_w2.lt));have xR_w3:=xR_w2.below b_;clear b_ mw2 tw2 Bw2 xR_w2;obtain⟨dR0,dR1,dR2,dR3,dR4,dR5,dR6⟩:=xR_w3.cs
         go_wp2
         go_ret
         exact⟨aA HF.out,by rw[HR.out];exact Bw3⟩
       · show _
         by_cases p1:p < -1
         · have q1:decide (-1<=p/\p<=65535)=false:=decide_eq_false (by omega)
           have HF:Hid (false=cX (aJ k t s h true p pa)):=zH (by rw[HM.out];simp only[Bool.or_true,Bool.true_and];rw[q1];simp);clear HM HE
           go_enter Tryz.func130,Tryz.ntmps130
           go_wp2_with fail
           have xn:=SX.made w k t s h true p pa;have mw1:=hm.made (.cells #[.int .i64 k,.string t,.string s,.string h,.bool true,.int .i64 p,.string pa] 75);have tw1:=ht.made (.cells #[.int .i64 k,.string t,.string s,.string h,.bool true,.int .i64 p,.string pa] 75);have Bw1:Below w.heap.size w (w.alloc (.cells #[.int .i64 k,.string t,.string s,.string h,.bool true,.int .i64 p,.string pa] 75)):=((zB w.heap.size w).alloc (zL _) (.cells #[.int .i64 k,.string t,.string s,.string h,.bool true,.int .i64 p,.string pa] 75));generalize hR:w.heap.size=R at xn Bw1 ⊢;have HR:=zH hR;clear hR;generalize w.alloc (.cells #[.int .i64 k,.string t,.string s,.string h,.bool true,.int .i64 p,.string pa] 75)=w1 at xn mw1 tw1 Bw1 ⊢;have xR_w1:=xn;clear xn hm ht;refine(CS.out _ mw1 tw1).mono ?_;rintro e w2 ⟨rfl,b_⟩;have mw2:=mw1.below b_;have tw2:=tw1.below b_;have Bw2:=Bw1.trans (b_.mono (zT xR_w1.lt));have xR_w2:=xR_w1.below b_;clear b_ mw1 tw1 Bw1 xR_w1;obtain⟨dR0,dR1,dR2,dR3,dR4,dR5,dR6⟩:=xR_w2.cs
           go_wp2
           go_ret
           exact⟨aA HF.out,by rw[HR.out];exact Bw2⟩
         have p1' : -1<=p:=by omega
         by_cases p2:65535<p
         · have q1:decide (-1<=p/\p<=65535)=false:=decide_eq_false (by omega)
           have p2':¬ p<=65535:=by omega
           have HF:Hid (false=cX (aJ k t s h true p pa)):=zH (by rw[HM.out];simp only[Bool.or_true,Bool.true_and];rw[q1];simp);clear HM HE
           go_enter Tryz.func130,Tryz.ntmps130
           go_wp2_with fail
           have xn:=SX.made w k t s h true p pa;have mw1:=hm.made (.cells #[.int .i64 k,.string t,.string s,.string h,.bool true,.int .i64 p,.string pa] 75);have tw1:=ht.made (.cells #[.int .i64 k,.string t,.string s,.string h,.bool true,.int .i64 p,.string pa] 75);have Bw1:Below w.heap.size w (w.alloc (.cells #[.int .i64 k,.string t,.string s,.string h,.bool true,.int .i64 p,.string pa] 75)):=((zB w.heap.size w).alloc (zL _) (.cells #[.int .i64 k,.string t,.string s,.string h,.bool true,.int .i64 p,.string pa] 75));generalize hR:w.heap.size=R at xn Bw1 ⊢;have HR:=zH hR;clear hR;generalize w.alloc (.cells #[.int .i64 k,.string t,.string s,.string h,.bool true,.int .i64 p,.string pa] 75)=w1 at xn mw1 tw1 Bw1 ⊢;have xR_w1:=xn;clear xn hm ht;refine(CS.out _ mw1 tw1).mono ?_;rintro e w2 ⟨rfl,b_⟩;have mw2:=mw1.below b_;have tw2:=tw1.below b_;have Bw2:=Bw1.trans (b_.mono (zT xR_w1.lt));have xR_w2:=xR_w1.below b_;clear b_ mw1 tw1 Bw1 xR_w1;obtain⟨dR0,dR1,dR2,dR3,dR4,dR5,dR6⟩:=xR_w2.cs
           go_wp2
           go_ret
           exact⟨aA HF.out,by rw[HR.out];exact Bw2⟩
         have p2':p<=65535:=by omega
         have q1:decide (-1<=p/\p<=65535)=true:=decide_eq_true (by omega);have HF:Hid (xp=cX (aJ k t s h true p pa)):=zH (by rw[HM.out];simp only[Bool.or_true,Bool.true_and];rw[q1];simp);clear HM HE
         go_enter Tryz.func130,Tryz.ntmps130
         go_wp2_with fail
         have xn:=SX.made w k t s h true p pa;have mw1:=hm.made (.cells #[.int .i64 k,.string t,.string s,.string h,.bool true,.int .i64 p,.string pa] 75);have tw1:=ht.made (.cells #[.int .i64 k,.string t,.string s,.string h,.bool true,.int .i64 p,.string pa] 75);have Bw1:Below w.heap.size w (w.alloc (.cells #[.int .i64 k,.string t,.string s,.string h,.bool true,.int .i64 p,.string pa] 75)):=((zB w.heap.size w).alloc (zL _) (.cells #[.int .i64 k,.string t,.string s,.string h,.bool true,.int .i64 p,.string pa] 75));generalize hR:w.heap.size=R at xn Bw1 ⊢;have HR:=zH hR;clear hR;generalize w.alloc (.cells #[.int .i64 k,.string t,.string s,.string h,.bool true,.int .i64 p,.string pa] 75)=w1 at xn mw1 tw1 Bw1 ⊢;have xR_w1:=xn;clear xn hm ht;refine(CS.out _ mw1 tw1).mono ?_;rintro e w2 ⟨rfl,b_⟩;have mw2:=mw1.below b_;have tw2:=tw1.below b_;have Bw2:=Bw1.trans (b_.mono (zT xR_w1.lt));have xR_w2:=xR_w1.below b_;clear b_ mw1 tw1 Bw1 xR_w1;obtain⟨dR0,dR1,dR2,dR3,dR4,dR5,dR6⟩:=xR_w2.cs
         go_wp2_with fail
         clear dR0 dR1 dR2 dR3 dR4 dR5 dR6;refine(CP.out _ ).mono ?_;rintro e w3 ⟨rfl,b_⟩;have mw3:=mw2.below b_;have tw3:=tw2.below b_;have Bw3:=Bw2.trans (b_.mono (zT xR_w2.lt));have xR_w3:=xR_w2.below b_;clear b_ mw2 tw2 Bw2 xR_w2;obtain⟨dR0,dR1,dR2,dR3,dR4,dR5,dR6⟩:=xR_w3.cs
         go_wp2
         go_ret
         exact⟨aA HF.out,by rw[HR.out];exact Bw3⟩
 · rw[gs]at HM
   cases gh:h.toList.isEmpty
   · rw[gh]at HM HE
     cases xh
     · show _
       have HF:Hid (false=cX (aJ k t s h b p pa)):=zH (by rw[HM.out];simp only[Bool.true_or,Bool.true_and];simp);clear HM HE
       go_enter Tryz.func130,Tryz.ntmps130
       go_wp2_with fail
       have xn:=SX.made w k t s h b p pa;have mw1:=hm.made (.cells #[.int .i64 k,.string t,.string s,.string h,.bool b,.int .i64 p,.string pa] 75);have tw1:=ht.made (.cells #[.int .i64 k,.string t,.string s,.string h,.bool b,.int .i64 p,.string pa] 75);have Bw1:Below w.heap.size w (w.alloc (.cells #[.int .i64 k,.string t,.string s,.string h,.bool b,.int .i64 p,.string pa] 75)):=((zB w.heap.size w).alloc (zL _) (.cells #[.int .i64 k,.string t,.string s,.string h,.bool b,.int .i64 p,.string pa] 75));generalize hR:w.heap.size=R at xn Bw1 ⊢;have HR:=zH hR;clear hR;generalize w.alloc (.cells #[.int .i64 k,.string t,.string s,.string h,.bool b,.int .i64 p,.string pa] 75)=w1 at xn mw1 tw1 Bw1 ⊢;have xR_w1:=xn;clear xn hm ht;refine(CH.out _ mw1 tw1).mono ?_;rintro e w2 ⟨rfl,b_⟩;have mw2:=mw1.below b_;have tw2:=tw1.below b_;have Bw2:=Bw1.trans (b_.mono (zT xR_w1.lt));have xR_w2:=xR_w1.below b_;clear b_ mw1 tw1 Bw1 xR_w1;obtain⟨dR0,dR1,dR2,dR3,dR4,dR5,dR6⟩:=xR_w2.cs
       go_wp2
       go_ret
       exact⟨aA HF.out,by rw[HR.out];exact Bw2⟩
     · show _
       by_cases p1:p < -1
       · have q1:decide (-1<=p/\p<=65535)=false:=decide_eq_false (by omega)
         have HF:Hid (false=cX (aJ k t s h b p pa)):=zH (by rw[HM.out];simp only[Bool.true_or,Bool.true_and];rw[q1];simp);clear HM HE
         go_enter Tryz.func130,Tryz.ntmps130
         go_wp2_with fail
         have xn:=SX.made w k t s h b p pa;have mw1:=hm.made (.cells #[.int .i64 k,.string t,.string s,.string h,.bool b,.int .i64 p,.string pa] 75);have tw1:=ht.made (.cells #[.int .i64 k,.string t,.string s,.string h,.bool b,.int .i64 p,.string pa] 75);have Bw1:Below w.heap.size w (w.alloc (.cells #[.int .i64 k,.string t,.string s,.string h,.bool b,.int .i64 p,.string pa] 75)):=((zB w.heap.size w).alloc (zL _) (.cells #[.int .i64 k,.string t,.string s,.string h,.bool b,.int .i64 p,.string pa] 75));generalize hR:w.heap.size=R at xn Bw1 ⊢;have HR:=zH hR;clear hR;generalize w.alloc (.cells #[.int .i64 k,.string t,.string s,.string h,.bool b,.int .i64 p,.string pa] 75)=w1 at xn mw1 tw1 Bw1 ⊢;have xR_w1:=xn;clear xn hm ht;refine(CH.out _ mw1 tw1).mono ?_;rintro e w2 ⟨rfl,b_⟩;have mw2:=mw1.below b_;have tw2:=tw1.below b_;have Bw2:=Bw1.trans (b_.mono (zT xR_w1.lt));have xR_w2:=xR_w1.below b_;clear b_ mw1 tw1 Bw1 xR_w1;obtain⟨dR0,dR1,dR2,dR3,dR4,dR5,dR6⟩:=xR_w2.cs
         go_wp2
         go_ret
         exact⟨aA HF.out,by rw[HR.out];exact Bw2⟩
       have p1' : -1<=p:=by omega
       by_cases p2:65535<p
       · have q1:decide (-1<=p/\p<=65535)=false:=decide_eq_false (by omega)
         have p2':¬ p<=65535:=by omega
         have HF:Hid (false=cX (aJ k t s h b p pa)):=zH (by rw[HM.out];simp only[Bool.true_or,Bool.true_and];rw[q1];simp);clear HM HE
         go_enter Tryz.func130,Tryz.ntmps130
         go_wp2_with fail
         have xn:=SX.made w k t s h b p pa;have mw1:=hm.made (.cells #[.int .i64 k,.string t,.string s,.string h,.bool b,.int .i64 p,.string pa] 75);have tw1:=ht.made (.cells #[.int .i64 k,.string t,.string s,.string h,.bool b,.int .i64 p,.string pa] 75);have Bw1:Below w.heap.size w (w.alloc (.cells #[.int .i64 k,.string t,.string s,.string h,.bool b,.int .i64 p,.string pa] 75)):=((zB w.heap.size w).alloc (zL _) (.cells #[.int .i64 k,.string t,.string s,.string h,.bool b,.int .i64 p,.string pa] 75));generalize hR:w.heap.size=R at xn Bw1 ⊢;have HR:=zH hR;clear hR;generalize w.alloc (.cells #[.int .i64 k,.string t,.string s,.string h,.bool b,.int .i64 p,.string pa] 75)=w1 at xn mw1 tw1 Bw1 ⊢;have xR_w1:=xn;clear xn hm ht;refine(CH.out _ mw1 tw1).mono ?_;rintro e w2 ⟨rfl,b_⟩;have mw2:=mw1.below b_;have tw2:=tw1.below b_;have Bw2:=Bw1.trans (b_.mono (zT xR_w1.lt));have xR_w2:=xR_w1.below b_;clear b_ mw1 tw1 Bw1 xR_w1;obtain⟨dR0,dR1,dR2,dR3,dR4,dR5,dR6⟩:=xR_w2.cs
         go_wp2
         go_ret
         exact⟨aA HF.out,by rw[HR.out];exact Bw2⟩
       have p2':p<=65535:=by omega
       have q1:decide (-1<=p/\p<=65535)=true:=decide_eq_true (by omega);have HF:Hid (xp=cX (aJ k t s h b p pa)):=zH (by rw[HM.out];simp only[Bool.true_or,Bool.true_and];rw[q1];simp);clear HM HE
       go_enter Tryz.func130,Tryz.ntmps130
       go_wp2_with fail
       have xn:=SX.made w k t s h b p pa;have mw1:=hm.made (.cells #[.int .i64 k,.string t,.string s,.string h,.bool b,.int .i64 p,.string pa] 75);have tw1:=ht.made (.cells #[.int .i64 k,.string t,.string s,.string h,.bool b,.int .i64 p,.string pa] 75);have Bw1:Below w.heap.size w (w.alloc (.cells #[.int .i64 k,.string t,.string s,.string h,.bool b,.int .i64 p,.string pa] 75)):=((zB w.heap.size w).alloc (zL _) (.cells #[.int .i64 k,.string t,.string s,.string h,.bool b,.int .i64 p,.string pa] 75));generalize hR:w.heap.size=R at xn Bw1 ⊢;have HR:=zH hR;clear hR;generalize w.alloc (.cells #[.int .i64 k,.string t,.string s,.string h,.bool b,.int .i64 p,.string pa] 75)=w1 at xn mw1 tw1 Bw1 ⊢;have xR_w1:=xn;clear xn hm ht;refine(CH.out _ mw1 tw1).mono ?_;rintro e w2 ⟨rfl,b_⟩;have mw2:=mw1.below b_;have tw2:=tw1.below b_;have Bw2:=Bw1.trans (b_.mono (zT xR_w1.lt));have xR_w2:=xR_w1.below b_;clear b_ mw1 tw1 Bw1 xR_w1;obtain⟨dR0,dR1,dR2,dR3,dR4,dR5,dR6⟩:=xR_w2.cs
       go_wp2_with fail
       clear dR0 dR1 dR2 dR3 dR4 dR5 dR6;refine(CP.out _ ).mono ?_;rintro e w3 ⟨rfl,b_⟩;have mw3:=mw2.below b_;have tw3:=tw2.below b_;have Bw3:=Bw2.trans (b_.mono (zT xR_w2.lt));have xR_w3:=xR_w2.below b_;clear b_ mw2 tw2 Bw2 xR_w2;obtain⟨dR0,dR1,dR2,dR3,dR4,dR5,dR6⟩:=xR_w3.cs
       go_wp2
       go_ret
       exact⟨aA HF.out,by rw[HR.out];exact Bw3⟩
   · rw[gh]at HM HE
     obtain rfl:=HE.out rfl
     cases b
     · show _
       have HF:Hid (false=cX (aJ k t s h false p pa)):=zH (by rw[HM.out];simp only[Bool.true_or,Bool.true_and];simp);clear HM HE
       go_enter Tryz.func130,Tryz.ntmps130
       go_wp2_with fail
       have xn:=SX.made w k t s h false p pa;have mw1:=hm.made (.cells #[.int .i64 k,.string t,.string s,.string h,.bool false,.int .i64 p,.string pa] 75);have tw1:=ht.made (.cells #[.int .i64 k,.string t,.string s,.string h,.bool false,.int .i64 p,.string pa] 75);have Bw1:Below w.heap.size w (w.alloc (.cells #[.int .i64 k,.string t,.string s,.string h,.bool false,.int .i64 p,.string pa] 75)):=((zB w.heap.size w).alloc (zL _) (.cells #[.int .i64 k,.string t,.string s,.string h,.bool false,.int .i64 p,.string pa] 75));generalize hR:w.heap.size=R at xn Bw1 ⊢;have HR:=zH hR;clear hR;generalize w.alloc (.cells #[.int .i64 k,.string t,.string s,.string h,.bool false,.int .i64 p,.string pa] 75)=w1 at xn mw1 tw1 Bw1 ⊢;have xR_w1:=xn;clear xn hm ht;refine(CH.out _ mw1 tw1).mono ?_;rintro e w2 ⟨rfl,b_⟩;have mw2:=mw1.below b_;have tw2:=tw1.below b_;have Bw2:=Bw1.trans (b_.mono (zT xR_w1.lt));have xR_w2:=xR_w1.below b_;clear b_ mw1 tw1 Bw1 xR_w1;obtain⟨dR0,dR1,dR2,dR3,dR4,dR5,dR6⟩:=xR_w2.cs
       go_wp2
       go_ret
       exact⟨aA HF.out,by rw[HR.out];exact Bw2⟩
     · show _
       by_cases p1:p < -1
       · have q1:decide (-1<=p/\p<=65535)=false:=decide_eq_false (by omega)
         have HF:Hid (false=cX (aJ k t s h true p pa)):=zH (by rw[HM.out];simp only[Bool.true_or,Bool.true_and];rw[q1];simp);clear HM HE
         go_enter Tryz.func130,Tryz.ntmps130
         go_wp2
         go_ret
         exact⟨aA HF.out,(zB _ _).alloc (zL _) _⟩
       have p1' : -1<=p:=by omega
       by_cases p2:65535<p
       · have q1:decide (-1<=p/\p<=65535)=false:=decide_eq_false (by omega)
         have p2':¬ p<=65535:=by omega
         have HF:Hid (false=cX (aJ k t s h true p pa)):=zH (by rw[HM.out];simp only[Bool.true_or,Bool.true_and];rw[q1];simp);clear HM HE
         go_enter Tryz.func130,Tryz.ntmps130
         go_wp2
         go_ret
         exact⟨aA HF.out,(zB _ _).alloc (zL _) _⟩
       have p2':p<=65535:=by omega
       have q1:decide (-1<=p/\p<=65535)=true:=decide_eq_true (by omega);have HF:Hid (xp=cX (aJ k t s h true p pa)):=zH (by rw[HM.out];simp only[Bool.true_or,Bool.true_and];rw[q1];simp);clear HM HE
       go_enter Tryz.func130,Tryz.ntmps130
       go_wp2_with fail
       have xn:=SX.made w k t s h true p pa;have mw1:=hm.made (.cells #[.int .i64 k,.string t,.string s,.string h,.bool true,.int .i64 p,.string pa] 75);have tw1:=ht.made (.cells #[.int .i64 k,.string t,.string s,.string h,.bool true,.int .i64 p,.string pa] 75);have Bw1:Below w.heap.size w (w.alloc (.cells #[.int .i64 k,.string t,.string s,.string h,.bool true,.int .i64 p,.string pa] 75)):=((zB w.heap.size w).alloc (zL _) (.cells #[.int .i64 k,.string t,.string s,.string h,.bool true,.int .i64 p,.string pa] 75));generalize hR:w.heap.size=R at xn Bw1 ⊢;have HR:=zH hR;clear hR;generalize w.alloc (.cells #[.int .i64 k,.string t,.string s,.string h,.bool true,.int .i64 p,.string pa] 75)=w1 at xn mw1 tw1 Bw1 ⊢;have xR_w1:=xn;clear xn hm ht;refine(CP.out _ ).mono ?_;rintro e w2 ⟨rfl,b_⟩;have mw2:=mw1.below b_;have tw2:=tw1.below b_;have Bw2:=Bw1.trans (b_.mono (zT xR_w1.lt));have xR_w2:=xR_w1.below b_;clear b_ mw1 tw1 Bw1 xR_w1;obtain⟨dR0,dR1,dR2,dR3,dR4,dR5,dR6⟩:=xR_w2.cs
       go_wp2
       go_ret
       exact⟨aA HF.out,by rw[HR.out];exact Bw2⟩
theorem aN5 (k:Int)(t s h:ByteArray)(b:Bool)(p:Int)(pa:ByteArray)(hs:s.size<=100000)(hh:h.size<=100000)(hpa:pa.size<=100000)(r:Bool)(hr:cX (aJ k t s h b p pa)=r):Hid (∀ W,aQ W->aS W->Calls Tryz.prog 130 #[aP k t s h b p pa] W fun e w'=>e=.returned (.bool r)/\Below W.heap.size W w'):=zH fun W hm ht=>by rw[<- hr];exact aN6 k t s h b p pa hs hh hpa W hm ht
end Go.Proofs.YthnogdodlhkldaaGreatDoor
namespace Go.Proofs.YthnogdodlhkldaaGreatDoor
open Go.RowKit
def yS (k:Int)(t s h:ByteArray)(b:Bool)(p:Int)(pa:ByteArray)(k':Int)(t' s' h':ByteArray)(b':Bool)(p':Int)(pa':ByteArray):Bool :=
 (k==k')&&(t.toList==t'.toList)&&(s.toList==s'.toList)&&(h.toList==h'.toList)&&(b==b')&&(p==p')&&(pa.toList==pa'.toList)
theorem qQ (k:Int)(t s h:ByteArray)(b:Bool)(p:Int)(pa:ByteArray)(k':Int)(t' s' h':ByteArray)(b':Bool)(p':Int)(pa':ByteArray)(W:World) :
 (Go.binOp .eql 75 (.agg #[.int .i64 k,.string t,.string s,.string h,.bool b,.int .i64 p,.string pa]) (.agg #[.int .i64 k',.string t',.string s',.string h',.bool b',.int .i64 p',.string pa'])).run Tryz.prog W=.ok (.bool (yS k t s h b p pa k' t' s' h' b' p' pa')) W:=by
 unfold yS;generalize h1:(t.toList==t'.toList)=x1;generalize h2:(s.toList==s'.toList)=x2;generalize h3:(h.toList==h'.toList)=x3;generalize h4:(pa.toList==pa'.toList)=x4;generalize h5:(k==k')=x5;generalize h6:(p==p')=x6;generalize h7:(b==b')=x7
 cases x5
 · simp[go_sem,h1,h2,h3,h4,h5,h6,h7]
 cases x1
 · simp[go_sem,h1,h2,h3,h4,h5,h6,h7]
 cases x2
 · simp[go_sem,h1,h2,h3,h4,h5,h6,h7]
 cases x3
 · simp[go_sem,h1,h2,h3,h4,h5,h6,h7]
 cases x7
 · simp[go_sem,h1,h2,h3,h4,h5,h6,h7]
 cases x6
 · simp[go_sem,h1,h2,h3,h4,h5,h6,h7]
 cases x4
 · simp[go_sem,h1,h2,h3,h4,h5,h6,h7]
 simp[go_sem,h1,h2,h3,h4,h5,h6,h7]
end Go.Proofs.YthnogdodlhkldaaGreatDoor
namespace Go.Proofs.YthnogdodlhkldaaGreatDoor
open Go.RowKit
theorem eG (s:ByteArray):(s.toList==(⟨#[]⟩:ByteArray).toList)=s.data.toList.isEmpty:=by
 rw[fZ,Bool.eq_iff_iff];simp
theorem qW (p:Int):(p==0)=decide (p=0):=by rw[Bool.eq_iff_iff];simp
theorem oZ (b:Bool):(b==false) = !b:=by cases b<;>rfl
theorem srcE_t (k:Int)(t s h:ByteArray)(b:Bool)(p:Int)(pa:ByteArray):yS k t s h b p pa k t ⟨#[]⟩ ⟨#[]⟩ false 0 ⟨#[]⟩=(bK (aJ k t s h b p pa)&&(aJ k t s h b p pa).s.isEmpty):=by
 unfold yS bK aJ;rw[eG,eG,eG,qW,oZ,show(k==k)=true by simp,show(t.toList==t.toList)=true by simp];generalize s.data.toList.isEmpty=x1;generalize h.data.toList.isEmpty=x2;generalize pa.data.toList.isEmpty=x3;generalize decide (p=0)=x4
 cases x1<;>cases x2<;>cases x3<;>cases x4<;>cases b<;>rfl
theorem srcE_s (k:Int)(t s h:ByteArray)(b:Bool)(p:Int)(pa:ByteArray):yS k t s h b p pa k ⟨#[]⟩ s ⟨#[]⟩ false 0 ⟨#[]⟩=(bK (aJ k t s h b p pa)&&(aJ k t s h b p pa).t.isEmpty):=by
 unfold yS bK aJ;rw[eG,eG,eG,qW,oZ,show(k==k)=true by simp,show(s.toList==s.toList)=true by simp];generalize t.data.toList.isEmpty=x1;generalize h.data.toList.isEmpty=x2;generalize pa.data.toList.isEmpty=x3;generalize decide (p=0)=x4
 cases x1<;>cases x2<;>cases x3<;>cases x4<;>cases b<;>rfl
theorem srcE_k (k:Int)(t s h:ByteArray)(b:Bool)(p:Int)(pa:ByteArray):yS k t s h b p pa k ⟨#[]⟩ ⟨#[]⟩ ⟨#[]⟩ false 0 ⟨#[]⟩=(bK (aJ k t s h b p pa)&&(aJ k t s h b p pa).s.isEmpty&&(aJ k t s h b p pa).t.isEmpty):=by
 unfold yS bK aJ;rw[eG,eG,eG,eG,qW,oZ,show(k==k)=true by simp];generalize t.data.toList.isEmpty=x0;generalize s.data.toList.isEmpty=x1;generalize h.data.toList.isEmpty=x2;generalize pa.data.toList.isEmpty=x3;generalize decide (p=0)=x4
 cases x0<;>cases x1<;>cases x2<;>cases x3<;>cases x4<;>cases b<;>rfl
theorem aJ3 (k:Int)(t s h:ByteArray)(b:Bool)(p:Int)(pa:ByteArray)(lt:t.size<=100000)(hs:s.size<=100000)(hh:h.size<=100000)(hpa:pa.size<=100000)(w:World)(hm:aQ w)(ht:aS w)(hk:fU w):Calls Tryz.prog 93 #[aP k t s h b p pa] w fun e w'=>e=.returned (.bool (aL (aJ k t s h b p pa)))/\Below w.heap.size w w':=by
 by_cases k9:k=9
 · subst k9
   have HQ:=qQ 9 t s h b p pa 9 t ⟨#[]⟩ ⟨#[]⟩ false 0 ⟨#[]⟩;rw[srcE_t]at HQ
   have e0:aL (aJ 9 t s h b p pa)=((bK (aJ 9 t s h b p pa)&&(aJ 9 t s h b p pa).s.isEmpty)&&(decide (t.data.toList.length<=200)&&cU t.data.toList)):=by
    unfold aL;rw[if_pos (show(aJ 9 t s h b p pa).k=9 from rfl),Bool.and_assoc];rfl
   generalize hr:(bK (aJ 9 t s h b p pa)&&(aJ 9 t s h b p pa).s.isEmpty)=r at HQ e0;generalize hn:(decide (t.data.toList.length<=200)&&cU t.data.toList)=n at e0;have CN:=aO4 t n hn lt
   cases n
   · show _
     have HF:Hid (false=aL (aJ 9 t s h b p pa)):=zH (by rw[e0];simp);clear e0 hr hn lt hs hh hpa;unfold aP
     go_enter Tryz.func93,Tryz.ntmps93
     go_wp2_with fail
     have xn:=SX.made w 9 t s h b p pa;have mw1:=hm.made (.cells #[.int .i64 9,.string t,.string s,.string h,.bool b,.int .i64 p,.string pa] 75);have tw1:=ht.made (.cells #[.int .i64 9,.string t,.string s,.string h,.bool b,.int .i64 p,.string pa] 75);have kw1:=hk.made (.cells #[.int .i64 9,.string t,.string s,.string h,.bool b,.int .i64 p,.string pa] 75);have Bw1:Below w.heap.size w (w.alloc (.cells #[.int .i64 9,.string t,.string s,.string h,.bool b,.int .i64 p,.string pa] 75)):=((zB w.heap.size w).alloc (zL _) (.cells #[.int .i64 9,.string t,.string s,.string h,.bool b,.int .i64 p,.string pa] 75));generalize hR:w.heap.size=R at xn Bw1 ⊢;have HR:=zH hR;clear hR;generalize w.alloc (.cells #[.int .i64 9,.string t,.string s,.string h,.bool b,.int .i64 p,.string pa] 75)=w1 at xn mw1 tw1 kw1 Bw1 ⊢;have xR_w1:=xn;clear xn hm ht hk;refine(CN.out _ ).mono ?_;rintro e w1 ⟨rfl,rfl⟩;obtain⟨dR0,dR1,dR2,dR3,dR4,dR5,dR6⟩:=xR_w1.cs
     go_wp2
     go_ret
     exact⟨aA HF.out,by rw[HR.out];exact Bw1⟩
   · show _
     have HF:Hid (r=aL (aJ 9 t s h b p pa)):=zH (by rw[e0];simp);clear e0 hr hn lt hs hh hpa;unfold aP
     go_enter Tryz.func93,Tryz.ntmps93
     go_wp2_with fail
     have xn:=SX.made w 9 t s h b p pa;have mw1:=hm.made (.cells #[.int .i64 9,.string t,.string s,.string h,.bool b,.int .i64 p,.string pa] 75);have tw1:=ht.made (.cells #[.int .i64 9,.string t,.string s,.string h,.bool b,.int .i64 p,.string pa] 75);have kw1:=hk.made (.cells #[.int .i64 9,.string t,.string s,.string h,.bool b,.int .i64 p,.string pa] 75);have Bw1:Below w.heap.size w (w.alloc (.cells #[.int .i64 9,.string t,.string s,.string h,.bool b,.int .i64 p,.string pa] 75)):=((zB w.heap.size w).alloc (zL _) (.cells #[.int .i64 9,.string t,.string s,.string h,.bool b,.int .i64 p,.string pa] 75));generalize hR:w.heap.size=R at xn Bw1 ⊢;have HR:=zH hR;clear hR;generalize w.alloc (.cells #[.int .i64 9,.string t,.string s,.string h,.bool b,.int .i64 p,.string pa] 75)=w1 at xn mw1 tw1 kw1 Bw1 ⊢;have xR_w1:=xn;clear xn hm ht hk;refine(CN.out _ ).mono ?_;rintro e w1 ⟨rfl,rfl⟩;obtain⟨dR0,dR1,dR2,dR3,dR4,dR5,dR6⟩:=xR_w1.cs
     go_wp2
     go_ret
     exact⟨aA HF.out,by rw[HR.out];exact Bw1⟩
 by_cases k10:k=10
 · subst k10
   have HQ:=qQ 10 t s h b p pa 10 t ⟨#[]⟩ ⟨#[]⟩ false 0 ⟨#[]⟩;rw[srcE_t]at HQ
   have e0:aL (aJ 10 t s h b p pa)=((bK (aJ 10 t s h b p pa)&&(aJ 10 t s h b p pa).s.isEmpty)&&decide (t.size=16)):=by
    unfold aL;rw[if_neg (show ¬ (aJ 10 t s h b p pa).k=9 from(show ¬ (10:Int)=9 by decide)),if_pos (show(aJ 10 t s h b p pa).k=10 from rfl),<- aE t];rfl
   generalize hr:(bK (aJ 10 t s h b p pa)&&(aJ 10 t s h b p pa).s.isEmpty)=r at HQ e0
   by_cases h16:t.size=16
   · have g16:((t.size:Int)==16)=true:=by rw[beq_iff_eq];omega
     have HF:Hid (r=aL (aJ 10 t s h b p pa)):=zH (by rw[e0,decide_eq_true h16,Bool.and_true]);clear e0 hr h16 lt hs hh hpa;have c0:(w.alloc (.cells #[.int .i64 10,.string t,.string s,.string h,.bool b,.int .i64 p,.string pa] 75)).cell? ⟨w.heap.size,0,none⟩=some (.int .i64 10):=(SX.made w 10 t s h b p pa).c0;have c1:(w.alloc (.cells #[.int .i64 10,.string t,.string s,.string h,.bool b,.int .i64 p,.string pa] 75)).cell? ⟨w.heap.size,1,none⟩=some (.string t):=(SX.made w 10 t s h b p pa).c1;have c2:(w.alloc (.cells #[.int .i64 10,.string t,.string s,.string h,.bool b,.int .i64 p,.string pa] 75)).cell? ⟨w.heap.size,2,none⟩=some (.string s):=(SX.made w 10 t s h b p pa).c2;have c3:(w.alloc (.cells #[.int .i64 10,.string t,.string s,.string h,.bool b,.int .i64 p,.string pa] 75)).cell? ⟨w.heap.size,3,none⟩=some (.string h):=(SX.made w 10 t s h b p pa).c3;have c4:(w.alloc (.cells #[.int .i64 10,.string t,.string s,.string h,.bool b,.int .i64 p,.string pa] 75)).cell? ⟨w.heap.size,4,none⟩=some (.bool b):=(SX.made w 10 t s h b p pa).c4;have c5:(w.alloc (.cells #[.int .i64 10,.string t,.string s,.string h,.bool b,.int .i64 p,.string pa] 75)).cell? ⟨w.heap.size,5,none⟩=some (.int .i64 p):=(SX.made w 10 t s h b p pa).c5;have c6:(w.alloc (.cells #[.int .i64 10,.string t,.string s,.string h,.bool b,.int .i64 p,.string pa] 75)).cell? ⟨w.heap.size,6,none⟩=some (.string pa):=(SX.made w 10 t s h b p pa).c6;unfold aP
     go_enter Tryz.func93,Tryz.ntmps93
     go_wp2
     go_ret
     exact⟨aA HF.out,(zB _ _).alloc (zL _) _⟩
   · have g16:((t.size:Int)==16)=false:=by rw[beq_eq_false_iff_ne];omega
     have HF:Hid (false=aL (aJ 10 t s h b p pa)):=zH (by rw[e0,decide_eq_false h16,Bool.and_false]);clear e0 hr h16 lt hs hh hpa;have c0:(w.alloc (.cells #[.int .i64 10,.string t,.string s,.string h,.bool b,.int .i64 p,.string pa] 75)).cell? ⟨w.heap.size,0,none⟩=some (.int .i64 10):=(SX.made w 10 t s h b p pa).c0;have c1:(w.alloc (.cells #[.int .i64 10,.string t,.string s,.string h,.bool b,.int .i64 p,.string pa] 75)).cell? ⟨w.heap.size,1,none⟩=some (.string t):=(SX.made w 10 t s h b p pa).c1;have c2:(w.alloc (.cells #[.int .i64 10,.string t,.string s,.string h,.bool b,.int .i64 p,.string pa] 75)).cell? ⟨w.heap.size,2,none⟩=some (.string s):=(SX.made w 10 t s h b p pa).c2;have c3:(w.alloc (.cells #[.int .i64 10,.string t,.string s,.string h,.bool b,.int .i64 p,.string pa] 75)).cell? ⟨w.heap.size,3,none⟩=some (.string h):=(SX.made w 10 t s h b p pa).c3;have c4:(w.alloc (.cells #[.int .i64 10,.string t,.string s,.string h,.bool b,.int .i64 p,.string pa] 75)).cell? ⟨w.heap.size,4,none⟩=some (.bool b):=(SX.made w 10 t s h b p pa).c4;have c5:(w.alloc (.cells #[.int .i64 10,.string t,.string s,.string h,.bool b,.int .i64 p,.string pa] 75)).cell? ⟨w.heap.size,5,none⟩=some (.int .i64 p):=(SX.made w 10 t s h b p pa).c5;have c6:(w.alloc (.cells #[.int .i64 10,.string t,.string s,.string h,.bool b,.int .i64 p,.string pa] 75)).cell? ⟨w.heap.size,6,none⟩=some (.string pa):=(SX.made w 10 t s h b p pa).c6;unfold aP
     go_enter Tryz.func93,Tryz.ntmps93
     go_wp2
     go_ret
     exact⟨aA HF.out,(zB _ _).alloc (zL _) _⟩
 by_cases k11:k=11
 · subst k11
   have HQ:=qQ 11 t s h b p pa 11 ⟨#[]⟩ s ⟨#[]⟩ false 0 ⟨#[]⟩;rw[srcE_s]at HQ
   have e0:aL (aJ 11 t s h b p pa)=((bK (aJ 11 t s h b p pa)&&(aJ 11 t s h b p pa).t.isEmpty)&&dR s.data.toList):=by
    unfold aL;rw[if_neg (show ¬ (aJ 11 t s h b p pa).k=9 from(show ¬ (11:Int)=9 by decide)),if_neg (show ¬ (aJ 11 t s h b p pa).k=10 from(show ¬ (11:Int)=10 by decide)),if_pos (show(aJ 11 t s h b p pa).k=11 from rfl)];rfl
   generalize hr:(bK (aJ 11 t s h b p pa)&&(aJ 11 t s h b p pa).t.isEmpty)=r at HQ e0;generalize hn:dR s.data.toList=n at e0;have CN:=zG s n hn hs
   cases n
   · show _
     have HF:Hid (false=aL (aJ 11 t s h b p pa)):=zH (by rw[e0];simp);clear e0 hr hn lt hs hh hpa;unfold aP
     go_enter Tryz.func93,Tryz.ntmps93
     go_wp2_with fail
     have xn:=SX.made w 11 t s h b p pa;have mw1:=hm.made (.cells #[.int .i64 11,.string t,.string s,.string h,.bool b,.int .i64 p,.string pa] 75);have tw1:=ht.made (.cells #[.int .i64 11,.string t,.string s,.string h,.bool b,.int .i64 p,.string pa] 75);have kw1:=hk.made (.cells #[.int .i64 11,.string t,.string s,.string h,.bool b,.int .i64 p,.string pa] 75);have Bw1:Below w.heap.size w (w.alloc (.cells #[.int .i64 11,.string t,.string s,.string h,.bool b,.int .i64 p,.string pa] 75)):=((zB w.heap.size w).alloc (zL _) (.cells #[.int .i64 11,.string t,.string s,.string h,.bool b,.int .i64 p,.string pa] 75));generalize hR:w.heap.size=R at xn Bw1 ⊢;have HR:=zH hR;clear hR;generalize w.alloc (.cells #[.int .i64 11,.string t,.string s,.string h,.bool b,.int .i64 p,.string pa] 75)=w1 at xn mw1 tw1 kw1 Bw1 ⊢;have xR_w1:=xn;clear xn hm ht hk;refine(CN.out _ mw1 tw1).mono ?_;rintro e w2 ⟨rfl,b_⟩;have mw2:=mw1.below b_;have tw2:=tw1.below b_;have kw2:=kw1.below b_;have Bw2:=Bw1.trans (b_.mono (zT xR_w1.lt));have xR_w2:=xR_w1.below b_;clear b_ mw1 tw1 kw1 Bw1 xR_w1;obtain⟨dR0,dR1,dR2,dR3,dR4,dR5,dR6⟩:=xR_w2.cs
     go_wp2
     go_ret
     exact⟨aA HF.out,by rw[HR.out];exact Bw2⟩
   · show _
     have HF:Hid (r=aL (aJ 11 t s h b p pa)):=zH (by rw[e0];simp);clear e0 hr hn lt hs hh hpa;unfold aP
     go_enter Tryz.func93,Tryz.ntmps93
     go_wp2_with fail
     have xn:=SX.made w 11 t s h b p pa;have mw1:=hm.made (.cells #[.int .i64 11,.string t,.string s,.string h,.bool b,.int .i64 p,.string pa] 75);have tw1:=ht.made (.cells #[.int .i64 11,.string t,.string s,.string h,.bool b,.int .i64 p,.string pa] 75);have kw1:=hk.made (.cells #[.int .i64 11,.string t,.string s,.string h,.bool b,.int .i64 p,.string pa] 75);have Bw1:Below w.heap.size w (w.alloc (.cells #[.int .i64 11,.string t,.string s,.string h,.bool b,.int .i64 p,.string pa] 75)):=((zB w.heap.size w).alloc (zL _) (.cells #[.int .i64 11,.string t,.string s,.string h,.bool b,.int .i64 p,.string pa] 75));generalize hR:w.heap.size=R at xn Bw1 ⊢;have HR:=zH hR;clear hR;generalize w.alloc (.cells #[.int .i64 11,.string t,.string s,.string h,.bool b,.int .i64 p,.string pa] 75)=w1 at xn mw1 tw1 kw1 Bw1 ⊢;have xR_w1:=xn;clear xn hm ht hk;refine(CN.out _ mw1 tw1).mono ?_;rintro e w2 ⟨rfl,b_⟩;have mw2:=mw1.below b_;have tw2:=tw1.below b_;have kw2:=kw1.below b_;have Bw2:=Bw1.trans (b_.mono (zT xR_w1.lt));have xR_w2:=xR_w1.below b_;clear b_ mw1 tw1 kw1 Bw1 xR_w1;obtain⟨dR0,dR1,dR2,dR3,dR4,dR5,dR6⟩:=xR_w2.cs
     go_wp2
     go_ret
     exact⟨aA HF.out,by rw[HR.out];exact Bw2⟩
 by_cases k12:k=12
 · subst k12
   have e0:aL (aJ 12 t s h b p pa)=(t.toList.isEmpty&&cX (aJ 12 t s h b p pa)):=by
    rw[aF];unfold aL;rw[if_neg (show ¬ (aJ 12 t s h b p pa).k=9 from(show ¬ (12:Int)=9 by decide)),if_neg (show ¬ (aJ 12 t s h b p pa).k=10 from(show ¬ (12:Int)=10 by decide)),if_neg (show ¬ (aJ 12 t s h b p pa).k=11 from(show ¬ (12:Int)=11 by decide)),if_pos (show(aJ 12 t s h b p pa).k=12 from rfl),aN4];rfl
   generalize hn:cX (aJ 12 t s h b p pa)=n at e0;have CN:=aN5 12 t s h b p pa hs hh hpa n hn;unfold aP at CN
   cases gt:t.toList.isEmpty
   · rw[gt]at e0
     have HF:Hid (false=aL (aJ 12 t s h b p pa)):=zH (by rw[e0];simp);clear e0 hn lt hs hh hpa CN;have c0:(w.alloc (.cells #[.int .i64 12,.string t,.string s,.string h,.bool b,.int .i64 p,.string pa] 75)).cell? ⟨w.heap.size,0,none⟩=some (.int .i64 12):=(SX.made w 12 t s h b p pa).c0;have c1:(w.alloc (.cells #[.int .i64 12,.string t,.string s,.string h,.bool b,.int .i64 p,.string pa] 75)).cell? ⟨w.heap.size,1,none⟩=some (.string t):=(SX.made w 12 t s h b p pa).c1;have c2:(w.alloc (.cells #[.int .i64 12,.string t,.string s,.string h,.bool b,.int .i64 p,.string pa] 75)).cell? ⟨w.heap.size,2,none⟩=some (.string s):=(SX.made w 12 t s h b p pa).c2;have c3:(w.alloc (.cells #[.int .i64 12,.string t,.string s,.string h,.bool b,.int .i64 p,.string pa] 75)).cell? ⟨w.heap.size,3,none⟩=some (.string h):=(SX.made w 12 t s h b p pa).c3;have c4:(w.alloc (.cells #[.int .i64 12,.string t,.string s,.string h,.bool b,.int .i64 p,.string pa] 75)).cell? ⟨w.heap.size,4,none⟩=some (.bool b):=(SX.made w 12 t s h b p pa).c4;have c5:(w.alloc (.cells #[.int .i64 12,.string t,.string s,.string h,.bool b,.int .i64 p,.string pa] 75)).cell? ⟨w.heap.size,5,none⟩=some (.int .i64 p):=(SX.made w 12 t s h b p pa).c5;have c6:(w.alloc (.cells #[.int .i64 12,.string t,.string s,.string h,.bool b,.int .i64 p,.string pa] 75)).cell? ⟨w.heap.size,6,none⟩=some (.string pa):=(SX.made w 12 t s h b p pa).c6;unfold aP
     go_enter Tryz.func93,Tryz.ntmps93
     go_wp2
     go_ret
     exact⟨aA HF.out,(zB _ _).alloc (zL _) _⟩
   · rw[gt]at e0
     have HF:Hid (n=aL (aJ 12 t s h b p pa)):=zH (by rw[e0];simp);clear e0 hn lt hs hh hpa;unfold aP
     go_enter Tryz.func93,Tryz.ntmps93
     go_wp2_with fail
     have xn:=SX.made w 12 t s h b p pa;have mw1:=hm.made (.cells #[.int .i64 12,.string t,.string s,.string h,.bool b,.int .i64 p,.string pa] 75);have tw1:=ht.made (.cells #[.int .i64 12,.string t,.string s,.string h,.bool b,.int .i64 p,.string pa] 75);have kw1:=hk.made (.cells #[.int .i64 12,.string t,.string s,.string h,.bool b,.int .i64 p,.string pa] 75);have Bw1:Below w.heap.size w (w.alloc (.cells #[.int .i64 12,.string t,.string s,.string h,.bool b,.int .i64 p,.string pa] 75)):=((zB w.heap.size w).alloc (zL _) (.cells #[.int .i64 12,.string t,.string s,.string h,.bool b,.int .i64 p,.string pa] 75));generalize hR:w.heap.size=R at xn Bw1 ⊢;have HR:=zH hR;clear hR;generalize w.alloc (.cells #[.int .i64 12,.string t,.string s,.string h,.bool b,.int .i64 p,.string pa] 75)=w1 at xn mw1 tw1 kw1 Bw1 ⊢;have xR_w1:=xn;clear xn hm ht hk;refine(CN.out _ mw1 tw1).mono ?_;rintro e w2 ⟨rfl,b_⟩;have mw2:=mw1.below b_;have tw2:=tw1.below b_;have kw2:=kw1.below b_;have Bw2:=Bw1.trans (b_.mono (zT xR_w1.lt));have xR_w2:=xR_w1.below b_;clear b_ mw1 tw1 kw1 Bw1 xR_w1;obtain⟨dR0,dR1,dR2,dR3,dR4,dR5,dR6⟩:=xR_w2.cs
     go_wp2
     go_ret
     exact⟨aA HF.out,by rw[HR.out];exact Bw2⟩
 have HQ:=qQ k t s h b p pa k ⟨#[]⟩ ⟨#[]⟩ ⟨#[]⟩ false 0 ⟨#[]⟩;rw[srcE_k]at HQ;obtain⟨T,hT⟩:=aO (aN k)
 have e0:aL (aJ k t s h b p pa)=((bK (aJ k t s h b p pa)&&(aJ k t s h b p pa).s.isEmpty&&(aJ k t s h b p pa).t.isEmpty) && !T.toList.isEmpty):=by
  unfold aL;rw[if_neg (show ¬ (aJ k t s h b p pa).k=9 from k9),if_neg (show ¬ (aJ k t s h b p pa).k=10 from k10),if_neg (show ¬ (aJ k t s h b p pa).k=11 from k11),if_neg (show ¬ (aJ k t s h b p pa).k=12 from k12),aF,hT,show(aJ k t s h b p pa).k=k from rfl];generalize(aN k).isEmpty=x;generalize bK _=y;generalize List.isEmpty _=z;generalize List.isEmpty _=u
  cases x<;>cases y<;>cases z<;>cases u<;>rfl
 generalize hr:(bK (aJ k t s h b p pa)&&(aJ k t s h b p pa).s.isEmpty&&(aJ k t s h b p pa).t.isEmpty)=r at HQ e0;have CN:=bF4 k T hT;have m9:(k==9)=false:=by rw[beq_eq_false_iff_ne];exact k9
 have m10:(k==10)=false:=by rw[beq_eq_false_iff_ne];exact k10
 have m11:(k==11)=false:=by rw[beq_eq_false_iff_ne];exact k11
 have m12:(k==12)=false:=by rw[beq_eq_false_iff_ne];exact k12
 cases gT:T.toList.isEmpty
 · rw[gT]at e0
   have HF:Hid (r=aL (aJ k t s h b p pa)):=zH (by rw[e0];simp);clear e0 hr hT lt hs hh hpa k9 k10 k11 k12;unfold aP
   go_enter Tryz.func93,Tryz.ntmps93
   go_wp2_with fail
   have xn:=SX.made w k t s h b p pa;have mw1:=hm.made (.cells #[.int .i64 k,.string t,.string s,.string h,.bool b,.int .i64 p,.string pa] 75);have tw1:=ht.made (.cells #[.int .i64 k,.string t,.string s,.string h,.bool b,.int .i64 p,.string pa] 75);have kw1:=hk.made (.cells #[.int .i64 k,.string t,.string s,.string h,.bool b,.int .i64 p,.string pa] 75);have Bw1:Below w.heap.size w (w.alloc (.cells #[.int .i64 k,.string t,.string s,.string h,.bool b,.int .i64 p,.string pa] 75)):=((zB w.heap.size w).alloc (zL _) (.cells #[.int .i64 k,.string t,.string s,.string h,.bool b,.int .i64 p,.string pa] 75));generalize hR:w.heap.size=R at xn Bw1 ⊢;have HR:=zH hR;clear hR;generalize w.alloc (.cells #[.int .i64 k,.string t,.string s,.string h,.bool b,.int .i64 p,.string pa] 75)=w1 at xn mw1 tw1 kw1 Bw1 ⊢;have xR_w1:=xn;clear xn hm ht hk;refine(CN.out _ kw1).mono ?_;rintro e w2 ⟨rfl,b_⟩;have mw2:=mw1.below b_;have tw2:=tw1.below b_;have kw2:=kw1.below b_;have Bw2:=Bw1.trans (b_.mono (zT xR_w1.lt));have xR_w2:=xR_w1.below b_;clear b_ mw1 tw1 kw1 Bw1 xR_w1;obtain⟨dR0,dR1,dR2,dR3,dR4,dR5,dR6⟩:=xR_w2.cs
   go_wp2
   go_ret
   exact⟨aA HF.out,by rw[HR.out];exact Bw2⟩
 · rw[gT]at e0
   have HF:Hid (false=aL (aJ k t s h b p pa)):=zH (by rw[e0];simp);clear e0 hr hT lt hs hh hpa k9 k10 k11 k12;unfold aP
   go_enter Tryz.func93,Tryz.ntmps93
   go_wp2_with fail
   have xn:=SX.made w k t s h b p pa;have mw1:=hm.made (.cells #[.int .i64 k,.string t,.string s,.string h,.bool b,.int .i64 p,.string pa] 75);have tw1:=ht.made (.cells #[.int .i64 k,.string t,.string s,.string h,.bool b,.int .i64 p,.string pa] 75);have kw1:=hk.made (.cells #[.int .i64 k,.string t,.string s,.string h,.bool b,.int .i64 p,.string pa] 75);have Bw1:Below w.heap.size w (w.alloc (.cells #[.int .i64 k,.string t,.string s,.string h,.bool b,.int .i64 p,.string pa] 75)):=((zB w.heap.size w).alloc (zL _) (.cells #[.int .i64 k,.string t,.string s,.string h,.bool b,.int .i64 p,.string pa] 75));generalize hR:w.heap.size=R at xn Bw1 ⊢;have HR:=zH hR;clear hR;generalize w.alloc (.cells #[.int .i64 k,.string t,.string s,.string h,.bool b,.int .i64 p,.string pa] 75)=w1 at xn mw1 tw1 kw1 Bw1 ⊢;have xR_w1:=xn;clear xn hm ht hk;refine(CN.out _ kw1).mono ?_;rintro e w2 ⟨rfl,b_⟩;have mw2:=mw1.below b_;have tw2:=tw1.below b_;have kw2:=kw1.below b_;have Bw2:=Bw1.trans (b_.mono (zT xR_w1.lt));have xR_w2:=xR_w1.below b_;clear b_ mw1 tw1 kw1 Bw1 xR_w1;obtain⟨dR0,dR1,dR2,dR3,dR4,dR5,dR6⟩:=xR_w2.cs
   go_wp2
   go_ret
   exact⟨aA HF.out,by rw[HR.out];exact Bw2⟩
theorem aJ2 (k:Int)(t s h:ByteArray)(b:Bool)(p:Int)(pa:ByteArray)(lt:t.size<=100000)(hs:s.size<=100000)(hh:h.size<=100000)(hpa:pa.size<=100000)(r:Bool)(hr:aL (aJ k t s h b p pa)=r):Hid (∀ W,aQ W->aS W->fU W->Calls Tryz.prog 93 #[aP k t s h b p pa] W fun e w'=>e=.returned (.bool r)/\Below W.heap.size W w'):=zH fun W hm ht hk=>by rw[<- hr];exact aJ3 k t s h b p pa lt hs hh hpa W hm ht hk
end Go.Proofs.YthnogdodlhkldaaGreatDoor
