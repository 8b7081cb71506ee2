/- Ground: texts, blocks, rows of bytes; code points' bytes (the program's and the document's). The table of signs, in memory; what a name stands for: the program's Name and the document's. The library's ParseUint, at bases 10 and 16, of at most eight bytes; the number between & and ;: the program's. A text encoded: the program's Encode. The document's digit, number, the first ; and a sign's text. The document's Decode and Encode. -/
import Derived.Deep.MidRow
import Derived.Laws.Closers25
import Derived.Laws.Closers25b
import Derived.Test.YtlnfbjbagmfpiaaGreatDoorBas
import Derived.Test.YtlnfbjbagmfpiaaGreatDoorPureZ
import Derived.Test.YtlnfbjbagmfpiaaGreatDoorShelf
set_option maxRecDepth 100000
set_option maxHeartbeats 16000000
namespace Go.Proofs.YtlnfbjbagmfpiaaGreatDoor
open Go.RowKit
theorem ret_bool {a b:Bool}(h:a=b):Ending.returned (.bool a)=.returned (.bool b):=by rw[h]
theorem text_same {T U:ByteArray}(h:T.data.toList=U.data.toList):T=U:=(text_is h).trans (text_is rfl).symm
theorem text_eq (s t:ByteArray):(s.toList==t.toList)=decide (s.data.toList=t.data.toList):=by
 rw[ByteArray.toList_eq,ByteArray.toList_eq,Bool.eq_iff_iff];simp
theorem byte_is {c d:UInt8}(h:(c.toNat:Int)=(d.toNat:Int)):c=d:=by
 apply UInt8.toNat_inj.1
 omega
theorem extract_toList (s:ByteArray)(i j:Nat):(s.extract i j).data.toList=(s.data.toList.drop i).take (j - i):=Lib.extract_data s i j
theorem cut_run (s T:ByteArray)(i j:Nat)(_hij:i<=j)(_hj:j<=s.size)(h:T.data.toList=(s.data.toList.drop i).take (j - i)):s.extract i j=T:=by
 apply ByteArray.ext
 apply Array.toList_inj.1
 rw[extract_toList,h]
theorem slice_to (L U:ByteArray)(k:Nat)(hk:k<=L.size)(h:U.data.toList=L.data.toList.take k):∀ W,(Instr.slice 9 (.string L) none (some (.int .i64 (k:Int))) none).run Tryz.prog W=.ok (.string U) W:=fun W=>by
 have e:L.extract 0 k=U:=cut_run L U 0 k (by omega) hk (by simpa using h);have hz:¬ L.size<k:=by omega
 simp[Instr.slice,go_sem,e,hz]
theorem slice_from (L R:ByteArray)(k:Nat)(hk:k<=L.size)(h:R.data.toList=L.data.toList.drop k):∀ W,(Instr.slice 9 (.string L) (some (.int .i64 (k:Int))) none none).run Tryz.prog W=.ok (.string R) W:=fun W=>by
 have e:L.extract k L.size=R:=cut_run L R k L.size hk (Nat.le_refl _) (by rw[h,List.take_of_length_le];rw[List.length_drop,lsize];exact Nat.le_refl _);have hz:¬ L.size<k:=by omega
 simp[Instr.slice,go_sem,e,hz]
theorem slice_mid (L U:ByteArray)(i j:Nat)(hij:i<=j)(hj:j<=L.size)(h:U.data.toList=(L.data.toList.drop i).take (j - i)):∀ W,(Instr.slice 9 (.string L) (some (.int .i64 (i:Int))) (some (.int .i64 (j:Int))) none).run Tryz.prog W=.ok (.string U) W:=fun W=>by
 have e:L.extract i j=U:=cut_run L U i j hij hj h;simp[Instr.slice,go_sem,e,hj,hij]
theorem Tinfo5:(Tryz.prog.info? 5).map (fun i=>(i.zero,i.size,i.bytes))=some (some (.int .u8 0),1,1):=by kernel_rfl
theorem Tinfo3:(Tryz.prog.info? 3).map (fun i=>(i.zero,i.size,i.bytes))=some (some (.int .i64 0),1,8):=by kernel_rfl
theorem ownsRow_below {w w':World}{base:Nat}{e:TypeId}{size:Nat}{v:Value}{n:Nat}{xs:List Value}(h:w.ownsRow base e size v n xs)(hb:Below w.heap.size w w'):w'.ownsRow base e size v n xs:=by
 obtain⟨h1,h2⟩:=h;refine⟨h1,?_⟩;rcases h2 with h2 | ⟨g,cap,cur,a,b,c,d⟩
 · exact .inl h2
 · exact .inr ⟨g,cap,cur,a,b,by rw[hb.block g (lt_of_block c)];exact c,d⟩
theorem byteCells_append (a b:List UInt8):Lib.byteCells (a++b)=Lib.byteCells a++Lib.byteCells b:=by simp[Lib.byteCells]
theorem byteCells_one (b:UInt8):Lib.byteCells [b]=[.int .u8 (b.toNat:Int)]:=by simp[Lib.byteCells]
theorem conv_row {w:World}{base:Nat}{v:Value}{n:Nat}{l:List UInt8}(h:w.ownsRow base 5 1 v n (Lib.byteCells l)) :
 (convert 66 9 v).run Tryz.prog w=.ok (.string ⟨l.toArray⟩) w:=by
 have hl:l.length=n:=by have:=h.1;simpa [Lib.byteCells_length] using this
 rcases rowForms h with ⟨rfl,h2⟩ | ⟨g,cap,rfl⟩
 · have e:l=[]:=List.length_eq_zero_iff.1 (by omega)
   rw[e];exact run_convert_bytes_nil (P:=Tryz.prog) w 66 5 Tryz.underlying66 Tryz.underlying5 0 0 9 Tryz.underlying9
 · subst hl
   refine run_convert_bytes_back (P:=Tryz.prog) w 66 9 5 ⟨g,0,none⟩ cap l Tryz.underlying66 Tryz.underlying5 Tryz.underlying9 (fun j hj => ?_);have e:(⟨g,0,none⟩:Addr).add j=⟨g,j,none⟩:=by simp[Addr.add];omega
   rw[e,h.cellAt j (by omega)];simp[Lib.byteCells,List.getElem?_eq_getElem hj]
theorem isPoint_any (n:Int)(w:World):Calls Tryz.prog 236 #[.int .i64 n] w fun e w'=>e=.returned (.bool (ptB n))/\w'=w:=by
 go_enter Tryz.func236,Tryz.ntmps236
 go_wp2
 all_goals go_ret
 all_goals refine⟨ret_bool ?_,rfl⟩
 all_goals (unfold ptB;rw[Bool.eq_iff_iff];simp only[Bool.or_eq_true,decide_eq_true_eq,Bool.false_eq_true,false_iff,true_iff];omega)
theorem isPoint_hid (n:Int)(b:Bool)(h:ptB n=b):Hid (∀ W,Calls Tryz.prog 236 #[.int .i64 n] W fun e w'=>e=.returned (.bool b)/\w'=W):=Lib.hid fun W=>by rw[<- h];exact isPoint_any n W
theorem runeCells_eq {c:Nat}(h:isPt c):Lib.runeCells (c:Int)=Lib.byteCells (encN c):=by
 rw[<- encodeRune_eq h,Lib.byteCells_encodeRune]
theorem textOne_any (c:Nat)(hp:isPt c)(T:ByteArray)(hT:T.data.toList=encN c)(g:Nat)(w:World)(hc:w.cell? ⟨g,0,none⟩=some (.int .i64 (c:Int))) :
 Calls Tryz.prog 232 #[.slice (some ⟨g,0,none⟩) 1 1] w fun e w'=>e=.returned (.tuple #[.string T,.int .i64 0])/\Below w.heap.size w w':=by
 obtain⟨i0,hi,hz0,hz1,hz2⟩:=info_parts Tinfo5;have C:=isPoint_hid (c:Int) true ((ptB_iff c).2 hp);have hpt0:c<=1114111:=hp.1;have HR:=Lib.hid (runeCells_eq hp);have HT:=Lib.hid hT;clear hp hT
 go_enter Tryz.func232,Tryz.ntmps232
 go_wp2_with (at_make;refine wpList_make_own _ rfl _ _ 66 rfl w.heap.size 5 i0 (.int .u8 0) 1 Tryz.underlying66 hi hz0 hz1 .i64 .i64 _ 1 rfl rfl rfl (by rw[hz2];omega) (by unfold maxLen;omega) (Nat.le_refl _) ?_;intro w0 hown0 hgrow0)
 have hbw0:Below w.heap.size w w0:=Below.grown (Below.refl _ _) hgrow0 (Nat.le_refl _) (fun j hj=>by cases hj);have hc0:w0.cell? ⟨g,0,none⟩=some (.int .i64 (c:Int)):=by rw[hbw0.cell (lt_of_cell hc),hc]
 clear hc;refine wp_loop_rounds 2 ?_;rw[rounds_succ]
 go_wp2_with fail
 refine(C.out _).mono ?_;rintro e w' ⟨rfl,rfl⟩
 go_wp2_with fail
 refine(Tryz.utf8_AppendRune_plain w.heap.size _ _ _ (c:Int) (by omega) (by omega) _ hown0 (by omega) (hbw0.size)).mono ?_;rintro e w3 ⟨v',rfl,hown3,o3,hgrow3⟩;have hbw3:Below w.heap.size w w3:=Below.grown (hbw0.alloc hbw0.size _) hgrow3 (by have:=hbw0.size;simp;omega) (fun j hj=>(hown0.lt _ hj).1);rw[HR.out]at hown3;have hconv:=conv_row (l:=encN c) hown3;clear hown3 hgrow3
 go_wp2_with fail
 rw[rounds_succ]
 go_wp2
 go_ret2
 exact⟨congrArg (fun x=>Ending.returned (.tuple #[.string x,.int .i64 0])) (text_is HT.out).symm,hbw3⟩
theorem textNo_any (n:Int)(hp:ptB n=false)(g:Nat)(w:World)(hc:w.cell? ⟨g,0,none⟩=some (.int .i64 n)) :
 Calls Tryz.prog 232 #[.slice (some ⟨g,0,none⟩) 1 1] w fun e w'=>e=.returned (.tuple #[.string ⟨#[]⟩,.int .i64 1])/\Below w.heap.size w w':=by
 obtain⟨i0,hi,hz0,hz1,hz2⟩:=info_parts Tinfo5;have C:=isPoint_hid n false hp;clear hp
 go_enter Tryz.func232,Tryz.ntmps232
 go_wp2_with (at_make;refine wpList_make_own _ rfl _ _ 66 rfl w.heap.size 5 i0 (.int .u8 0) 1 Tryz.underlying66 hi hz0 hz1 .i64 .i64 _ 1 rfl rfl rfl (by rw[hz2];omega) (by unfold maxLen;omega) (Nat.le_refl _) ?_;intro w0 hown0 hgrow0)
 have hbw0:Below w.heap.size w w0:=Below.grown (Below.refl _ _) hgrow0 (Nat.le_refl _) (fun j hj=>by cases hj);have hc0:w0.cell? ⟨g,0,none⟩=some (.int .i64 n):=by rw[hbw0.cell (lt_of_cell hc),hc]
 clear hc;refine wp_loop_rounds 1 ?_;rw[rounds_succ]
 go_wp2_with fail
 refine(C.out _).mono ?_;rintro e w' ⟨rfl,rfl⟩
 go_wp2
 go_ret2
 exact⟨rfl,hbw0⟩
theorem pointT_any (n:Nat)(T:ByteArray)(hT:T.data.toList=if n=0\/¬ isPt n then [] else encN n)(w:World) :
 Calls Tryz.prog 225 #[.int .i64 (n:Int)] w fun e w'=>e=.returned (.string T)/\Below w.heap.size w w':=by
 by_cases h0:n=0
 · subst h0
   rw[if_pos (.inl rfl)]at hT;obtain rfl:T=⟨#[]⟩:=text_is hT
   go_enter Tryz.func225,Tryz.ntmps225
   go_wp2
   go_ret
   exact⟨rfl,Below.refl _ _⟩
 have g:((n:Int)==0)=false:=by rw[beq_eq_false_iff_ne];omega
 by_cases hp:isPt n
 · rw[if_neg (by rintro(h | h);exact h0 h;exact h hp)]at hT
   have HT:=Lib.hid hT;have HP:=Lib.hid hp;clear hT hp h0
   go_enter Tryz.func225,Tryz.ntmps225
   go_wp2_with fail
   refine(textOne_any n HP.out T HT.out _ _ (by simp[World.cell?_alloc_mark])).mono ?_;rintro e w' ⟨rfl,b1⟩
   go_wp2
   go_ret
   exact⟨rfl,((Below.refl _ _).alloc (Nat.le_refl _) _).trans (b1.mono (by simp))⟩
 · rw[if_pos (.inr hp)]at hT
   obtain rfl:T=⟨#[]⟩:=text_is hT;have HP:Hid (ptB (n:Int)=false):=Lib.hid (by rw[ptB_dec,decide_eq_false hp]);clear hT hp h0
   go_enter Tryz.func225,Tryz.ntmps225
   go_wp2_with fail
   refine(textNo_any (n:Int) HP.out _ _ (by simp[World.cell?_alloc_mark])).mono ?_;rintro e w' ⟨rfl,b1⟩
   go_wp2
   go_ret
   exact⟨rfl,((Below.refl _ _).alloc (Nat.le_refl _) _).trans (b1.mono (by simp))⟩
theorem pointT_hid (n:Nat)(T:ByteArray)(hT:T.data.toList=if n=0\/¬ isPt n then [] else encN n):Hid (∀ W,Calls Tryz.prog 225 #[.int .i64 (n:Int)] W fun e w'=>e=.returned (.string T)/\Below W.heap.size W w'):=Lib.hid fun W=>pointT_any n T hT W
end Go.Proofs.YtlnfbjbagmfpiaaGreatDoor
namespace Go.Proofs.YtlnfbjbagmfpiaaGreatDoor
open Go.RowKit
def SL:List Value:=[.string ⟨#[97,109,112]⟩,.string ⟨#[38]⟩,.bool true,.string ⟨#[108,116]⟩,.string ⟨#[60]⟩,.bool true,.string ⟨#[103,116]⟩,.string ⟨#[62]⟩,.bool true,.string ⟨#[113,117,111,116]⟩,.string ⟨#[34]⟩,.bool true,.string ⟨#[97,112,111,115]⟩,.string ⟨#[39]⟩,.bool true,.string ⟨#[110,98,115,112]⟩,.string ⟨#[194,160]⟩,.bool false,.string ⟨#[99,111,108,111,110]⟩,.string ⟨#[58]⟩,.bool false,.string ⟨#[108,112,97,114]⟩,.string ⟨#[40]⟩,.bool false,.string ⟨#[114,112,97,114]⟩,.string ⟨#[41]⟩,.bool false,.string ⟨#[116,97,98]⟩,.string ⟨#[9]⟩,.bool false]
def SignsIn (w:World):Prop:=∀ j,j<30->w.cell? ⟨0,j,none⟩=SL[j]?
theorem SignsIn.below {w w':World}(h:SignsIn w)(hb:Below w.heap.size w w'):SignsIn w':=fun j hj=>by
 have e:=h j hj;have:∃ v,SL[j]? = some v:=⟨_,List.getElem?_eq_getElem (show j<SL.length from hj)⟩;obtain⟨v,hv⟩:=this;rw[hv]at e ⊢;rw[hb.cell (lt_of_cell e)];exact e
theorem SignsIn.range {w:World}(h:SignsIn w):w.rangeAt 0 0 SL:=fun j v hv=>by
 obtain⟨hj,_⟩:=List.getElem?_eq_some_iff.1 hv;rw[Nat.zero_add,h j hj,hv]
theorem sidx0 {TA:Value}(h:TA=.agg SL.toArray):∀ w,(Instr.index 117 TA (.int .i64 0)).run Tryz.prog w=.ok (.agg #[.string ⟨#[97,109,112]⟩,.string ⟨#[38]⟩,.bool true]) w:=by subst h;intro w;kernel_rfl
theorem sidx1 {TA:Value}(h:TA=.agg SL.toArray):∀ w,(Instr.index 117 TA (.int .i64 1)).run Tryz.prog w=.ok (.agg #[.string ⟨#[108,116]⟩,.string ⟨#[60]⟩,.bool true]) w:=by subst h;intro w;kernel_rfl
theorem sidx2 {TA:Value}(h:TA=.agg SL.toArray):∀ w,(Instr.index 117 TA (.int .i64 2)).run Tryz.prog w=.ok (.agg #[.string ⟨#[103,116]⟩,.string ⟨#[62]⟩,.bool true]) w:=by subst h;intro w;kernel_rfl
theorem sidx3 {TA:Value}(h:TA=.agg SL.toArray):∀ w,(Instr.index 117 TA (.int .i64 3)).run Tryz.prog w=.ok (.agg #[.string ⟨#[113,117,111,116]⟩,.string ⟨#[34]⟩,.bool true]) w:=by subst h;intro w;kernel_rfl
theorem sidx4 {TA:Value}(h:TA=.agg SL.toArray):∀ w,(Instr.index 117 TA (.int .i64 4)).run Tryz.prog w=.ok (.agg #[.string ⟨#[97,112,111,115]⟩,.string ⟨#[39]⟩,.bool true]) w:=by subst h;intro w;kernel_rfl
theorem sidx5 {TA:Value}(h:TA=.agg SL.toArray):∀ w,(Instr.index 117 TA (.int .i64 5)).run Tryz.prog w=.ok (.agg #[.string ⟨#[110,98,115,112]⟩,.string ⟨#[194,160]⟩,.bool false]) w:=by subst h;intro w;kernel_rfl
theorem sidx6 {TA:Value}(h:TA=.agg SL.toArray):∀ w,(Instr.index 117 TA (.int .i64 6)).run Tryz.prog w=.ok (.agg #[.string ⟨#[99,111,108,111,110]⟩,.string ⟨#[58]⟩,.bool false]) w:=by subst h;intro w;kernel_rfl
theorem sidx7 {TA:Value}(h:TA=.agg SL.toArray):∀ w,(Instr.index 117 TA (.int .i64 7)).run Tryz.prog w=.ok (.agg #[.string ⟨#[108,112,97,114]⟩,.string ⟨#[40]⟩,.bool false]) w:=by subst h;intro w;kernel_rfl
theorem sidx8 {TA:Value}(h:TA=.agg SL.toArray):∀ w,(Instr.index 117 TA (.int .i64 8)).run Tryz.prog w=.ok (.agg #[.string ⟨#[114,112,97,114]⟩,.string ⟨#[41]⟩,.bool false]) w:=by subst h;intro w;kernel_rfl
theorem sidx9 {TA:Value}(h:TA=.agg SL.toArray):∀ w,(Instr.index 117 TA (.int .i64 9)).run Tryz.prog w=.ok (.agg #[.string ⟨#[116,97,98]⟩,.string ⟨#[9]⟩,.bool false]) w:=by subst h;intro w;kernel_rfl
theorem lit_text (s:ByteArray)(l:List UInt8):(l==s.toList)=decide (s.data.toList=l):=by
 rw[<- text_lit,Bool.eq_iff_iff];simp only[beq_iff_eq];exact⟨fun h=>h.symm,fun h=>h.symm⟩
theorem ret_tb {S T:ByteArray}{a b:Bool}(h:S=T)(h2:a=b):Ending.returned (.tuple #[.string S,.bool a])=.returned (.tuple #[.string T,.bool b]):=by rw[h,h2]
theorem nameP_any (s T:ByteArray)(hT:T.data.toList=nameM s.data.toList)(r:Bool)(hr:decide (nameM s.data.toList≠[])=r)(w:World)(hk:SignsIn w) :
 Calls Tryz.prog 223 #[.string s] w fun e w'=>e=.returned (.tuple #[.string T,.bool r])/\Below w.heap.size w w':=by
 have HG:=Lib.hid hk.range;clear hk;have HT:=Lib.hid hT;have HR:=Lib.hid hr;clear hT hr
 go_enter Tryz.func223,Tryz.ntmps223
 go_wp2_with (refine wpList_load_mid (by rfl) 117 _ (by rfl) 0 0 (by rfl) SL _ HG.out Tryz.underlying117 (by rfl) (by kernel_rfl) ?_)
 generalize hTA:Value.agg SL.toArray=TA;have HIX:Hid (TA=.agg SL.toArray):=Lib.hid hTA.symm;clear hTA
 go_loopw [7] (fun i wr=>∃ j:Nat,j<=10/\i=.int .i64 j/\Hid (nameM s.data.toList=lookM (tabM.drop j) s.data.toList)/\Below w.heap.size w wr) (fun i _=>10 - (intOf i).toNat)
 case atStart=>exact⟨0,by decide,rfl,Lib.hid rfl,Below.refl _ _⟩
 case round =>
  obtain⟨j,hj,rfl,HN,hb⟩:=hrel;obtain rfl | rfl | rfl | rfl | rfl | rfl | rfl | rfl | rfl | rfl | rfl:j=0\/j=1\/j=2\/j=3\/j=4\/j=5\/j=6\/j=7\/j=8\/j=9\/j=10:=by omega
  · have ix:=sidx0 HIX.out
    have g:=lit_text s [97,109,112];have g2:=text_lit s [97,109,112]
    by_cases h:s.data.toList=[97,109,112]
    · rw[decide_eq_true h]at g g2
      have HV:Hid (nameM s.data.toList=[38]):=Lib.hid (by rw[HN.out,h];rfl);have HS:Hid ((⟨#[38]⟩:ByteArray)=T):=Lib.hid (by rw[text_is HT.out,HV.out]);have HB:Hid (true=r):=Lib.hid (by rw[<- HR.out,HV.out];rfl);clear h HN
      go_wp2
      go_ret2
      exact⟨ret_tb HS.out HB.out,hb.alloc hb.size _⟩
    · rw[decide_eq_false h]at g g2
      have HN2:Hid (nameM s.data.toList=lookM (tabM.drop 1) s.data.toList):=Lib.hid (by
       rw[HN.out]
       exact if_neg (fun e=>h e.symm))
      clear h HN
      go_wp2
      go_roundw
      case rel=>exact⟨1,by decide,rfl,HN2,hb.alloc hb.size _⟩
      case measure=>decide
  · have ix:=sidx1 HIX.out
    have g:=lit_text s [108,116];have g2:=text_lit s [108,116]
    by_cases h:s.data.toList=[108,116]
    · rw[decide_eq_true h]at g g2
      have HV:Hid (nameM s.data.toList=[60]):=Lib.hid (by rw[HN.out,h];rfl);have HS:Hid ((⟨#[60]⟩:ByteArray)=T):=Lib.hid (by rw[text_is HT.out,HV.out]);have HB:Hid (true=r):=Lib.hid (by rw[<- HR.out,HV.out];rfl);clear h HN
      go_wp2
      go_ret2
      exact⟨ret_tb HS.out HB.out,hb.alloc hb.size _⟩
    · rw[decide_eq_false h]at g g2
      have HN2:Hid (nameM s.data.toList=lookM (tabM.drop 2) s.data.toList):=Lib.hid (by
       rw[HN.out]
       exact if_neg (fun e=>h e.symm))
      clear h HN
      go_wp2
      go_roundw
      case rel=>exact⟨2,by decide,rfl,HN2,hb.alloc hb.size _⟩
      case measure=>decide
  · have ix:=sidx2 HIX.out
    have g:=lit_text s [103,116];have g2:=text_lit s [103,116]
    by_cases h:s.data.toList=[103,116]
    · rw[decide_eq_true h]at g g2
      have HV:Hid (nameM s.data.toList=[62]):=Lib.hid (by rw[HN.out,h];rfl);have HS:Hid ((⟨#[62]⟩:ByteArray)=T):=Lib.hid (by rw[text_is HT.out,HV.out]);have HB:Hid (true=r):=Lib.hid (by rw[<- HR.out,HV.out];rfl);clear h HN
      go_wp2
      go_ret2
      exact⟨ret_tb HS.out HB.out,hb.alloc hb.size _⟩
    · rw[decide_eq_false h]at g g2
      have HN2:Hid (nameM s.data.toList=lookM (tabM.drop 3) s.data.toList):=Lib.hid (by
       rw[HN.out]
       exact if_neg (fun e=>h e.symm))
      clear h HN
      go_wp2
      go_roundw
      case rel=>exact⟨3,by decide,rfl,HN2,hb.alloc hb.size _⟩
      case measure=>decide
  · have ix:=sidx3 HIX.out
    have g:=lit_text s [113,117,111,116];have g2:=text_lit s [113,117,111,116]
    by_cases h:s.data.toList=[113,117,111,116]
    · rw[decide_eq_true h]at g g2
      have HV:Hid (nameM s.data.toList=[34]):=Lib.hid (by rw[HN.out,h];rfl);have HS:Hid ((⟨#[34]⟩:ByteArray)=T):=Lib.hid (by rw[text_is HT.out,HV.out]);have HB:Hid (true=r):=Lib.hid (by rw[<- HR.out,HV.out];rfl);clear h HN
      go_wp2
      go_ret2
      exact⟨ret_tb HS.out HB.out,hb.alloc hb.size _⟩
    · rw[decide_eq_false h]at g g2
      have HN2:Hid (nameM s.data.toList=lookM (tabM.drop 4) s.data.toList):=Lib.hid (by
       rw[HN.out]
       exact if_neg (fun e=>h e.symm))
      clear h HN
      go_wp2
      go_roundw
      case rel=>exact⟨4,by decide,rfl,HN2,hb.alloc hb.size _⟩
      case measure=>decide
  · have ix:=sidx4 HIX.out
    have g:=lit_text s [97,112,111,115];have g2:=text_lit s [97,112,111,115]
    by_cases h:s.data.toList=[97,112,111,115]
    · rw[decide_eq_true h]at g g2
      have HV:Hid (nameM s.data.toList=[39]):=Lib.hid (by rw[HN.out,h];rfl);have HS:Hid ((⟨#[39]⟩:ByteArray)=T):=Lib.hid (by rw[text_is HT.out,HV.out]);have HB:Hid (true=r):=Lib.hid (by rw[<- HR.out,HV.out];rfl);clear h HN
      go_wp2
      go_ret2
      exact⟨ret_tb HS.out HB.out,hb.alloc hb.size _⟩
    · rw[decide_eq_false h]at g g2
      have HN2:Hid (nameM s.data.toList=lookM (tabM.drop 5) s.data.toList):=Lib.hid (by
       rw[HN.out]
       exact if_neg (fun e=>h e.symm))
      clear h HN
      go_wp2
      go_roundw
      case rel=>exact⟨5,by decide,rfl,HN2,hb.alloc hb.size _⟩
      case measure=>decide
  · have ix:=sidx5 HIX.out
    have g:=lit_text s [110,98,115,112];have g2:=text_lit s [110,98,115,112]
    by_cases h:s.data.toList=[110,98,115,112]
    · rw[decide_eq_true h]at g g2
      have HV:Hid (nameM s.data.toList=[194,160]):=Lib.hid (by rw[HN.out,h];rfl);have HS:Hid ((⟨#[194,160]⟩:ByteArray)=T):=Lib.hid (by rw[text_is HT.out,HV.out]);have HB:Hid (true=r):=Lib.hid (by rw[<- HR.out,HV.out];rfl);clear h HN
      go_wp2
      go_ret2
      exact⟨ret_tb HS.out HB.out,hb.alloc hb.size _⟩
    · rw[decide_eq_false h]at g g2
      have HN2:Hid (nameM s.data.toList=lookM (tabM.drop 6) s.data.toList):=Lib.hid (by
       rw[HN.out]
       exact if_neg (fun e=>h e.symm))
      clear h HN
      go_wp2
      go_roundw
      case rel=>exact⟨6,by decide,rfl,HN2,hb.alloc hb.size _⟩
      case measure=>decide
  · have ix:=sidx6 HIX.out
    have g:=lit_text s [99,111,108,111,110];have g2:=text_lit s [99,111,108,111,110]
    by_cases h:s.data.toList=[99,111,108,111,110]
    · rw[decide_eq_true h]at g g2
      have HV:Hid (nameM s.data.toList=[58]):=Lib.hid (by rw[HN.out,h];rfl);have HS:Hid ((⟨#[58]⟩:ByteArray)=T):=Lib.hid (by rw[text_is HT.out,HV.out]);have HB:Hid (true=r):=Lib.hid (by rw[<- HR.out,HV.out];rfl);clear h HN
      go_wp2
      go_ret2
      exact⟨ret_tb HS.out HB.out,hb.alloc hb.size _⟩
    · rw[decide_eq_false h]at g g2
      have HN2:Hid (nameM s.data.toList=lookM (tabM.drop 7) s.data.toList):=Lib.hid (by
       rw[HN.out]
       exact if_neg (fun e=>h e.symm))
      clear h HN
      go_wp2
      go_roundw
      case rel=>exact⟨7,by decide,rfl,HN2,hb.alloc hb.size _⟩
      case measure=>decide
  · have ix:=sidx7 HIX.out
    have g:=lit_text s [108,112,97,114];have g2:=text_lit s [108,112,97,114]
    by_cases h:s.data.toList=[108,112,97,114]
    · rw[decide_eq_true h]at g g2
      have HV:Hid (nameM s.data.toList=[40]):=Lib.hid (by rw[HN.out,h];rfl);have HS:Hid ((⟨#[40]⟩:ByteArray)=T):=Lib.hid (by rw[text_is HT.out,HV.out]);have HB:Hid (true=r):=Lib.hid (by rw[<- HR.out,HV.out];rfl);clear h HN
      go_wp2
      go_ret2
      exact⟨ret_tb HS.out HB.out,hb.alloc hb.size _⟩
    · rw[decide_eq_false h]at g g2
      have HN2:Hid (nameM s.data.toList=lookM (tabM.drop 8) s.data.toList):=Lib.hid (by
       rw[HN.out]
       exact if_neg (fun e=>h e.symm))
      clear h HN
      go_wp2
      go_roundw
      case rel=>exact⟨8,by decide,rfl,HN2,hb.alloc hb.size _⟩
      case measure=>decide
  · have ix:=sidx8 HIX.out
    have g:=lit_text s [114,112,97,114];have g2:=text_lit s [114,112,97,114]
    by_cases h:s.data.toList=[114,112,97,114]
    · rw[decide_eq_true h]at g g2
      have HV:Hid (nameM s.data.toList=[41]):=Lib.hid (by rw[HN.out,h];rfl);have HS:Hid ((⟨#[41]⟩:ByteArray)=T):=Lib.hid (by rw[text_is HT.out,HV.out]);have HB:Hid (true=r):=Lib.hid (by rw[<- HR.out,HV.out];rfl);clear h HN
      go_wp2
      go_ret2
      exact⟨ret_tb HS.out HB.out,hb.alloc hb.size _⟩
    · rw[decide_eq_false h]at g g2
      have HN2:Hid (nameM s.data.toList=lookM (tabM.drop 9) s.data.toList):=Lib.hid (by
       rw[HN.out]
       exact if_neg (fun e=>h e.symm))
      clear h HN
      go_wp2
      go_roundw
      case rel=>exact⟨9,by decide,rfl,HN2,hb.alloc hb.size _⟩
      case measure=>decide
  · have ix:=sidx9 HIX.out
    have g:=lit_text s [116,97,98];have g2:=text_lit s [116,97,98]
    by_cases h:s.data.toList=[116,97,98]
    · rw[decide_eq_true h]at g g2
      have HV:Hid (nameM s.data.toList=[9]):=Lib.hid (by rw[HN.out,h];rfl);have HS:Hid ((⟨#[9]⟩:ByteArray)=T):=Lib.hid (by rw[text_is HT.out,HV.out]);have HB:Hid (true=r):=Lib.hid (by rw[<- HR.out,HV.out];rfl);clear h HN
      go_wp2
      go_ret2
      exact⟨ret_tb HS.out HB.out,hb.alloc hb.size _⟩
    · rw[decide_eq_false h]at g g2
      have HN2:Hid (nameM s.data.toList=lookM (tabM.drop 10) s.data.toList):=Lib.hid (by
       rw[HN.out]
       exact if_neg (fun e=>h e.symm))
      clear h HN
      go_wp2
      go_roundw
      case rel=>exact⟨10,by decide,rfl,HN2,hb.alloc hb.size _⟩
      case measure=>decide
  · have HV:Hid (nameM s.data.toList=[]):=Lib.hid (by rw[HN.out];rfl)
    have HS:Hid ((⟨#[]⟩:ByteArray)=T):=Lib.hid (by rw[text_is HT.out,HV.out]);have HB:Hid (false=r):=Lib.hid (by rw[<- HR.out,HV.out];rfl);clear HN
    go_wp2
    go_ret2
    exact⟨ret_tb HS.out HB.out,hb⟩
theorem nameP_hid (s T:ByteArray)(hT:T.data.toList=nameM s.data.toList)(r:Bool)(hr:decide (nameM s.data.toList≠[])=r):Hid (∀ W,SignsIn W->Calls Tryz.prog 223 #[.string s] W fun e w'=>e=.returned (.tuple #[.string T,.bool r])/\Below W.heap.size W w'):=Lib.hid fun W hk=>nameP_any s T hT r hr W hk
end Go.Proofs.YtlnfbjbagmfpiaaGreatDoor
namespace Go.Proofs.YtlnfbjbagmfpiaaGreatDoor
open Go.RowKit
theorem byte_all {p:UInt8->Prop}(h:∀ n:Fin 256,p (UInt8.ofNat n.val))(b:UInt8):p b:=by
 have:=h ⟨b.toNat,b.toNat_lt⟩
 simpa using this
def lowI (c:UInt8):Int:=((c ||| 32).toNat:Int)
theorem lowI_bits (c:UInt8):bits .or .u8 (c.toNat:Int) 32=lowI c:=by
 revert c;exact byte_all (by decide +kernel)
theorem low_hid (c:UInt8)(L:Int)(h:lowI c=L):Hid (∀ W,Calls Tryz.prog 237 #[.int .u8 (c.toNat:Int)] W fun e w'=>e=.returned (.int .u8 L)/\w'=W):=Lib.hid fun W=>by
 rw[<- h,<- lowI_bits];exact Tryz.internal_strconv_lower _ W
theorem low95_hid:Hid (∀ W,Calls Tryz.prog 237 #[.int .u8 95] W fun e w'=>e=.returned (.int .u8 127)/\w'=W):=Lib.hid fun W=>by
 have h:=Tryz.internal_strconv_lower 95 W;rw[show bits .or .u8 95 32=127 by decide +kernel]at h;exact h
theorem dig_digit (B:Nat)(hB:10<=B)(c:UInt8)(h0:48<=c.toNat)(h1:c.toNat<=57):digM B c=some (c.toNat - 48):=by
 unfold digM;simp only;rw[if_pos ⟨h0,h1⟩,if_pos (by omega)]
theorem dig_ten (c:UInt8)(h:¬ (48<=c.toNat/\c.toNat<=57)):digM 10 c=none:=by
 unfold digM;simp only;rw[if_neg h]
 repeat' split
 all_goals first
  | rfl
  | (exfalso;omega)
theorem dig_low (c:UInt8):(48<=c.toNat/\c.toNat<=57)\/(97<=lowI c/\lowI c<=102/\digM 16 c=some (lowI c - 87).toNat)\/(¬ (97<=lowI c/\lowI c<=102)/\digM 16 c=none):=by
 revert c;exact byte_all (by decide +kernel)
def parseV (B:Nat)(l:List UInt8):Value:=match numD B l with
 | some n => .tuple #[.int .u64 (n:Int),.nilIface]
 | none => .tuple #[.int .u64 0,.iface 255 (.int .i64 2)]
theorem parseV_yes {B n:Nat}{l:List UInt8}(h:numD B l=some n):parseV B l=.tuple #[.int .u64 (n:Int),.nilIface]:=by unfold parseV;rw[h]
theorem parseV_no {B:Nat}{l:List UInt8}(h:numD B l=none):parseV B l=.tuple #[.int .u64 0,.iface 255 (.int .i64 2)]:=by unfold parseV;rw[h]
theorem numF_step {B:Nat}{n d:Nat}{c:UInt8}{r:List UInt8}(h:digM B c=some d):numF B n (c :: r)=numF B (n * B+d) r:=by
 conv=>lhs;unfold numF
 rw[h]
theorem numF_stop {B:Nat}{n:Nat}{c:UInt8}{r:List UInt8}(h:digM B c=none):numF B n (c :: r)=none:=by
 unfold numF;rw[h]
end Go.Proofs.YtlnfbjbagmfpiaaGreatDoor
namespace Go.Proofs.YtlnfbjbagmfpiaaGreatDoor
open Go.RowKit
theorem slice_one (L U:ByteArray)(k:Nat)(hk:k<L.size)(h:U.data.toList=[L.data.toList[k]'(by rw[lsize];exact hk)]):∀ W,(Instr.slice 9 (.string L) (some (.int .i64 (k:Int))) (some (.int .i64 ((k:Int)+1))) none).run Tryz.prog W=.ok (.string U) W:=by
 have e:U.data.toList=(L.data.toList.drop k).take (k+1 - k):=by
  rw[h,List.drop_eq_getElem_cons (show k<L.data.toList.length by rw[lsize];exact hk),show k+1 - k=1 by omega];rfl
 have:=slice_mid L U k (k+1) (by omega) hk e;rw[show((k+1:Nat):Int)=(k:Int)+1 by omega]at this;exact this
theorem encT_step (l:List UInt8)(k:Nat)(h:k<l.length):encT (l.take (k+1))=encT (l.take k)++encB l[k]:=by
 rw[List.take_succ_eq_append_getElem h,encT_append,encT_one]
def notJ (c:UInt8)(j:Nat):Prop:=(0<j->c≠38)/\(1<j->c≠60)/\(2<j->c≠62)/\(3<j->c≠34)/\(4<j->c≠39)
theorem notJ_all {c:UInt8}{j:Nat}(h:notJ c j)(hj:5<=j):encB c=[c]:=encB_other (h.1 (by omega)) (h.2.1 (by omega)) (h.2.2.1 (by omega)) (h.2.2.2.1 (by omega)) (h.2.2.2.2 (by omega))
theorem notJ_more {c:UInt8}{j:Nat}(h:notJ c j)(hj:5<=j):notJ c (j+1):=⟨fun _=>h.1 (by omega),fun _=>h.2.1 (by omega),fun _=>h.2.2.1 (by omega),fun _=>h.2.2.2.1 (by omega),fun _=>h.2.2.2.2 (by omega)⟩
theorem encode_any (s:ByteArray)(hs:s.size<=1000000)(w:World)(hlow:SignsIn w) :
 Calls Tryz.prog 36 #[.string s] w fun e w'=>e=.returned (.string ⟨(encT s.data.toList).toArray⟩)/\Below w.heap.size w w':=by
 obtain⟨i0,hi,hz0,hz1,hz2⟩:=info_parts Tinfo5;have HLow:=Lib.hid hlow;clear hlow
 go_enter Tryz.func36,Tryz.ntmps36
 go_wp2
 go_step3
 go_wp2_with (at_make;refine wpList_make_own _ rfl _ _ 66 rfl w.heap.size 5 i0 (.int .u8 0) 1 Tryz.underlying66 hi hz0 hz1 .i64 .i64 _ s.size rfl rfl rfl (by rw[hz2];omega) (by unfold maxLen;omega) (Nat.le_refl _) ?_;intro w0 hown0 hgrow0)
 have hbw0:Below w.heap.size w w0:=Below.grown (Below.refl _ _) hgrow0 (Nat.le_refl _) (fun j hj=>by cases hj)
 go_step3
 go_wp2
 go_loopw [3,12] (fun v i wr=>∃ k:Nat,k<=s.size/\i=.int .i64 k/\wr.ownsRow w.heap.size 5 1 v (encT (s.data.toList.take k)).length (Lib.byteCells (encT (s.data.toList.take k)))/\Below w.heap.size w wr) (fun _ i _=>s.size - (intOf i).toNat)
 case atStart=>exact⟨0,Nat.zero_le _,rfl,hown0,hbw0⟩
 case round =>
  clear hown0 hgrow0 hbw0;obtain⟨k,hk,rfl,hown,hb⟩:=hrel
  by_cases hlt:k<s.size
  · have hkl:k<s.data.toList.length:=by rw[lsize];exact hlt
    have hst:=encT_step s.data.toList k hkl;have hlen:=(encT_len (s.data.toList.take k)).2;rw[List.length_take]at hlen;have hg:s.data.toList[k]=s[k]:=rfl;rw[hg]at hst;have hU0:∃ U:ByteArray,U.data.toList=[s.data.toList[k]'hkl]:=⟨⟨#[s.data.toList[k]'hkl]⟩,rfl⟩;obtain⟨U,hU⟩:=hU0;have s1:=slice_one s U k hlt hU;rw[hg]at hU;obtain⟨c,hc⟩:∃ c,s[k]=c:=⟨_,rfl⟩;rw[hc]at hU hst;have HST:=Lib.hid hst;have HC:=Lib.hid hc;obtain⟨A,hA⟩:∃ A,encT (s.data.toList.take k)=A:=⟨_,rfl⟩;rw[hA]at hown hlen;rw[hA]at hst;have HE:Hid (encT (s.data.toList.take (k+1))=A++encB c):=Lib.hid hst;have HR:=(HLow.out.below hb).range;have HG:=Lib.hid HR;have hsz:=hb.size;clear hst HST hA hg HR hc;obtain⟨wm,rfl⟩:∃ wm:World,wm=wr:=⟨_,rfl⟩
    go_wp2_with (refine wpList_load_mid (by rfl) 117 _ (by rfl) 0 0 (by rfl) SL _ HG.out Tryz.underlying117 (by rfl) (by kernel_rfl) ?_)
    generalize hTA:Value.agg SL.toArray=TA;have HIX:Hid (TA=.agg SL.toArray):=Lib.hid hTA.symm;clear hTA
    go_loopw [3,16] (fun v i wr=>∃ j:Nat,j<=10/\i=.int .i64 j/\v=u3/\Hid (notJ c j)/\Below wm.heap.size wm wr) (fun _ i _=>10 - (intOf i).toNat)
    case atStart=>exact⟨0,by decide,rfl,rfl,Lib.hid ⟨fun h=>by omega,fun h=>by omega,fun h=>by omega,fun h=>by omega,fun h=>by omega⟩,Below.refl _ _⟩
    case round =>
     obtain⟨j,hj,rfl,rfl,HN,hbj⟩:=hrel;have hown2:=ownsRow_below hown hbj;have hb2:=hb.trans (hbj.mono hsz);clear hown hb HG;obtain rfl | rfl | rfl | rfl | rfl | rfl | rfl | rfl | rfl | rfl | rfl:j=0\/j=1\/j=2\/j=3\/j=4\/j=5\/j=6\/j=7\/j=8\/j=9\/j=10:=by omega
     · have ix:=sidx0 HIX.out
       have g0:=lit_text U [38];rw[hU]at g0
       by_cases h:c=38
       · have g:([38]==U.toList)=true:=by rw[g0,h];rfl
         clear g0;have hfull:((⟨#[38]⟩:ByteArray)++⟨#[97,109,112]⟩++⟨#[59]⟩)=⟨#[38,97,109,112,59]⟩:=by decide
         have HFull:=Lib.hid hfull;clear hfull;have HE2:Hid (encT (s.data.toList.take (k+1))=A++[38,97,109,112,59]):=Lib.hid (by rw[HE.out,h];rfl);clear h HN HE hU
         go_wp2_with fail
         go_quiet (fail)
         go_wp2_with (at_builtin;refine Lib.wpList_append_own_string _ rfl _ _ 66 9 rfl w.heap.size 5 i0 Tryz.underlying66 Tryz.underlying9 hi hz0 hz1 hz2 _ _ _ rfl (ownsRow_below (hown2.alloc _) (belowN (Below.refl _ _) _)) (⟨#[38]⟩++⟨#[97,109,112]⟩++⟨#[59]⟩) rfl (by rw[HFull.out];show A.length+5<=_;unfold maxLen;omega) (by rw[HFull.out];show A.length+5<=_;omega) (by have:=hb2.size;simp;omega) ?_;intro v' w3 hown3 hgrow3 hnil3)
         have hb3:Below w.heap.size w w3:=Below.grown (belowN (hb2.alloc hb2.size _) _) hgrow3 (by have:=hb2.size;simp;omega) (fun j hj=>(hown2.lt _ hj).1)
         have hown4:w3.ownsRow w.heap.size 5 1 v' (A++[38,97,109,112,59]).length (Lib.byteCells (A++[38,97,109,112,59])):=by
          rw[HFull.out]at hown3;rw[byteCells_append,List.length_append];exact hown3
         clear hown3 hgrow3 hnil3
         go_roundw
         case rel=>exact⟨k+1,by omega,by go_num,by rw[HE2.out];exact hown4,hb3⟩
         case measure=>simp[intOf];omega
       · have g:([38]==U.toList)=false:=by rw[g0];exact decide_eq_false (fun e=>h (by injection e))
         clear g0;have HN2:Hid (notJ c 1):=Lib.hid ⟨fun _=>h,fun e=>absurd e (by decide),fun e=>absurd e (by decide),fun e=>absurd e (by decide),fun e=>absurd e (by decide)⟩;clear h HN HE hU
         go_wp2_with fail
         go_quiet (fail)
         go_wp2
         go_roundw
         case rel=>exact⟨1,by decide,rfl,rfl,HN2,belowN (hbj.alloc hbj.size _) _⟩
         case measure=>decide
     · have ix:=sidx1 HIX.out
       have g0:=lit_text U [60];rw[hU]at g0
       by_cases h:c=60
       · have g:([60]==U.toList)=true:=by rw[g0,h];rfl
         clear g0;have hfull:((⟨#[38]⟩:ByteArray)++⟨#[108,116]⟩++⟨#[59]⟩)=⟨#[38,108,116,59]⟩:=by decide
         have HFull:=Lib.hid hfull;clear hfull;have HE2:Hid (encT (s.data.toList.take (k+1))=A++[38,108,116,59]):=Lib.hid (by rw[HE.out,h];rfl);clear h HN HE hU
         go_wp2_with fail
         go_quiet (fail)
         go_wp2_with (at_builtin;refine Lib.wpList_append_own_string _ rfl _ _ 66 9 rfl w.heap.size 5 i0 Tryz.underlying66 Tryz.underlying9 hi hz0 hz1 hz2 _ _ _ rfl (ownsRow_below (hown2.alloc _) (belowN (Below.refl _ _) _)) (⟨#[38]⟩++⟨#[108,116]⟩++⟨#[59]⟩) rfl (by rw[HFull.out];show A.length+4<=_;unfold maxLen;omega) (by rw[HFull.out];show A.length+4<=_;omega) (by have:=hb2.size;simp;omega) ?_;intro v' w3 hown3 hgrow3 hnil3)
         have hb3:Below w.heap.size w w3:=Below.grown (belowN (hb2.alloc hb2.size _) _) hgrow3 (by have:=hb2.size;simp;omega) (fun j hj=>(hown2.lt _ hj).1)
         have hown4:w3.ownsRow w.heap.size 5 1 v' (A++[38,108,116,59]).length (Lib.byteCells (A++[38,108,116,59])):=by
          rw[HFull.out]at hown3;rw[byteCells_append,List.length_append];exact hown3
         clear hown3 hgrow3 hnil3
         go_roundw
         case rel=>exact⟨k+1,by omega,by go_num,by rw[HE2.out];exact hown4,hb3⟩
         case measure=>simp[intOf];omega
       · have g:([60]==U.toList)=false:=by rw[g0];exact decide_eq_false (fun e=>h (by injection e))
         clear g0;have HN2:Hid (notJ c 2):=Lib.hid ⟨fun _=>HN.out.1 (by decide),fun _=>h,fun e=>absurd e (by decide),fun e=>absurd e (by decide),fun e=>absurd e (by decide)⟩;clear h HN HE hU
         go_wp2_with fail
         go_quiet (fail)
         go_wp2
         go_roundw
         case rel=>exact⟨2,by decide,rfl,rfl,HN2,belowN (hbj.alloc hbj.size _) _⟩
         case measure=>decide
     · have ix:=sidx2 HIX.out
       have g0:=lit_text U [62];rw[hU]at g0
       by_cases h:c=62
       · have g:([62]==U.toList)=true:=by rw[g0,h];rfl
         clear g0;have hfull:((⟨#[38]⟩:ByteArray)++⟨#[103,116]⟩++⟨#[59]⟩)=⟨#[38,103,116,59]⟩:=by decide
         have HFull:=Lib.hid hfull;clear hfull;have HE2:Hid (encT (s.data.toList.take (k+1))=A++[38,103,116,59]):=Lib.hid (by rw[HE.out,h];rfl);clear h HN HE hU
         go_wp2_with fail
         go_quiet (fail)
         go_wp2_with (at_builtin;refine Lib.wpList_append_own_string _ rfl _ _ 66 9 rfl w.heap.size 5 i0 Tryz.underlying66 Tryz.underlying9 hi hz0 hz1 hz2 _ _ _ rfl (ownsRow_below (hown2.alloc _) (belowN (Below.refl _ _) _)) (⟨#[38]⟩++⟨#[103,116]⟩++⟨#[59]⟩) rfl (by rw[HFull.out];show A.length+4<=_;unfold maxLen;omega) (by rw[HFull.out];show A.length+4<=_;omega) (by have:=hb2.size;simp;omega) ?_;intro v' w3 hown3 hgrow3 hnil3)
         have hb3:Below w.heap.size w w3:=Below.grown (belowN (hb2.alloc hb2.size _) _) hgrow3 (by have:=hb2.size;simp;omega) (fun j hj=>(hown2.lt _ hj).1)
         have hown4:w3.ownsRow w.heap.size 5 1 v' (A++[38,103,116,59]).length (Lib.byteCells (A++[38,103,116,59])):=by
          rw[HFull.out]at hown3;rw[byteCells_append,List.length_append];exact hown3
         clear hown3 hgrow3 hnil3
         go_roundw
         case rel=>exact⟨k+1,by omega,by go_num,by rw[HE2.out];exact hown4,hb3⟩
         case measure=>simp[intOf];omega
       · have g:([62]==U.toList)=false:=by rw[g0];exact decide_eq_false (fun e=>h (by injection e))
         clear g0;have HN2:Hid (notJ c 3):=Lib.hid ⟨fun _=>HN.out.1 (by decide),fun _=>HN.out.2.1 (by decide),fun _=>h,fun e=>absurd e (by decide),fun e=>absurd e (by decide)⟩;clear h HN HE hU
         go_wp2_with fail
         go_quiet (fail)
         go_wp2
         go_roundw
         case rel=>exact⟨3,by decide,rfl,rfl,HN2,belowN (hbj.alloc hbj.size _) _⟩
         case measure=>decide
     · have ix:=sidx3 HIX.out
       have g0:=lit_text U [34];rw[hU]at g0
       by_cases h:c=34
       · have g:([34]==U.toList)=true:=by rw[g0,h];rfl
         clear g0;have hfull:((⟨#[38]⟩:ByteArray)++⟨#[113,117,111,116]⟩++⟨#[59]⟩)=⟨#[38,113,117,111,116,59]⟩:=by decide
         have HFull:=Lib.hid hfull;clear hfull;have HE2:Hid (encT (s.data.toList.take (k+1))=A++[38,113,117,111,116,59]):=Lib.hid (by rw[HE.out,h];rfl);clear h HN HE hU
         go_wp2_with fail
         go_quiet (fail)
         go_wp2_with (at_builtin;refine Lib.wpList_append_own_string _ rfl _ _ 66 9 rfl w.heap.size 5 i0 Tryz.underlying66 Tryz.underlying9 hi hz0 hz1 hz2 _ _ _ rfl (ownsRow_below (hown2.alloc _) (belowN (Below.refl _ _) _)) (⟨#[38]⟩++⟨#[113,117,111,116]⟩++⟨#[59]⟩) rfl (by rw[HFull.out];show A.length+6<=_;unfold maxLen;omega) (by rw[HFull.out];show A.length+6<=_;omega) (by have:=hb2.size;simp;omega) ?_;intro v' w3 hown3 hgrow3 hnil3)
         have hb3:Below w.heap.size w w3:=Below.grown (belowN (hb2.alloc hb2.size _) _) hgrow3 (by have:=hb2.size;simp;omega) (fun j hj=>(hown2.lt _ hj).1)
         have hown4:w3.ownsRow w.heap.size 5 1 v' (A++[38,113,117,111,116,59]).length (Lib.byteCells (A++[38,113,117,111,116,59])):=by
          rw[HFull.out]at hown3;rw[byteCells_append,List.length_append];exact hown3
         clear hown3 hgrow3 hnil3
         go_roundw
         case rel=>exact⟨k+1,by omega,by go_num,by rw[HE2.out];exact hown4,hb3⟩
         case measure=>simp[intOf];omega
       · have g:([34]==U.toList)=false:=by rw[g0];exact decide_eq_false (fun e=>h (by injection e))
         clear g0;have HN2:Hid (notJ c 4):=Lib.hid ⟨fun _=>HN.out.1 (by decide),fun _=>HN.out.2.1 (by decide),fun _=>HN.out.2.2.1 (by decide),fun _=>h,fun e=>absurd e (by decide)⟩;clear h HN HE hU
         go_wp2_with fail
         go_quiet (fail)
         go_wp2
         go_roundw
         case rel=>exact⟨4,by decide,rfl,rfl,HN2,belowN (hbj.alloc hbj.size _) _⟩
         case measure=>decide
     · have ix:=sidx4 HIX.out
       have g0:=lit_text U [39];rw[hU]at g0
       by_cases h:c=39
       · have g:([39]==U.toList)=true:=by rw[g0,h];rfl
         clear g0;have hfull:((⟨#[38]⟩:ByteArray)++⟨#[97,112,111,115]⟩++⟨#[59]⟩)=⟨#[38,97,112,111,115,59]⟩:=by decide
         have HFull:=Lib.hid hfull;clear hfull;have HE2:Hid (encT (s.data.toList.take (k+1))=A++[38,97,112,111,115,59]):=Lib.hid (by rw[HE.out,h];rfl);clear h HN HE hU
         go_wp2_with fail
         go_quiet (fail)
         go_wp2_with (at_builtin;refine Lib.wpList_append_own_string _ rfl _ _ 66 9 rfl w.heap.size 5 i0 Tryz.underlying66 Tryz.underlying9 hi hz0 hz1 hz2 _ _ _ rfl (ownsRow_below (hown2.alloc _) (belowN (Below.refl _ _) _)) (⟨#[38]⟩++⟨#[97,112,111,115]⟩++⟨#[59]⟩) rfl (by rw[HFull.out];show A.length+6<=_;unfold maxLen;omega) (by rw[HFull.out];show A.length+6<=_;omega) (by have:=hb2.size;simp;omega) ?_;intro v' w3 hown3 hgrow3 hnil3)
         have hb3:Below w.heap.size w w3:=Below.grown (belowN (hb2.alloc hb2.size _) _) hgrow3 (by have:=hb2.size;simp;omega) (fun j hj=>(hown2.lt _ hj).1)
         have hown4:w3.ownsRow w.heap.size 5 1 v' (A++[38,97,112,111,115,59]).length (Lib.byteCells (A++[38,97,112,111,115,59])):=by
          rw[HFull.out]at hown3;rw[byteCells_append,List.length_append];exact hown3
         clear hown3 hgrow3 hnil3
         go_roundw
         case rel=>exact⟨k+1,by omega,by go_num,by rw[HE2.out];exact hown4,hb3⟩
         case measure=>simp[intOf];omega
       · have g:([39]==U.toList)=false:=by rw[g0];exact decide_eq_false (fun e=>h (by injection e))
         clear g0;have HN2:Hid (notJ c 5):=Lib.hid ⟨fun _=>HN.out.1 (by decide),fun _=>HN.out.2.1 (by decide),fun _=>HN.out.2.2.1 (by decide),fun _=>HN.out.2.2.2.1 (by decide),fun _=>h⟩;clear h HN HE hU
         go_wp2_with fail
         go_quiet (fail)
         go_wp2
         go_roundw
         case rel=>exact⟨5,by decide,rfl,rfl,HN2,belowN (hbj.alloc hbj.size _) _⟩
         case measure=>decide
     · have ix:=sidx5 HIX.out
       have HN2:Hid (notJ c 6):=Lib.hid (notJ_more HN.out (by decide));clear HN HE hU
       go_wp2_with fail
       go_quiet (fail)
       go_wp2
       go_roundw
       case rel=>exact⟨6,by decide,rfl,rfl,HN2,belowN (hbj.alloc hbj.size _) _⟩
       case measure=>decide
     · have ix:=sidx6 HIX.out
       have HN2:Hid (notJ c 7):=Lib.hid (notJ_more HN.out (by decide));clear HN HE hU
       go_wp2_with fail
       go_quiet (fail)
       go_wp2
       go_roundw
       case rel=>exact⟨7,by decide,rfl,rfl,HN2,belowN (hbj.alloc hbj.size _) _⟩
       case measure=>decide
     · have ix:=sidx7 HIX.out
       have HN2:Hid (notJ c 8):=Lib.hid (notJ_more HN.out (by decide));clear HN HE hU
       go_wp2_with fail
       go_quiet (fail)
       go_wp2
       go_roundw
       case rel=>exact⟨8,by decide,rfl,rfl,HN2,belowN (hbj.alloc hbj.size _) _⟩
       case measure=>decide
     · have ix:=sidx8 HIX.out
       have HN2:Hid (notJ c 9):=Lib.hid (notJ_more HN.out (by decide));clear HN HE hU
       go_wp2_with fail
       go_quiet (fail)
       go_wp2
       go_roundw
       case rel=>exact⟨9,by decide,rfl,rfl,HN2,belowN (hbj.alloc hbj.size _) _⟩
       case measure=>decide
     · have ix:=sidx9 HIX.out
       have HN2:Hid (notJ c 10):=Lib.hid (notJ_more HN.out (by decide));clear HN HE hU
       go_wp2_with fail
       go_quiet (fail)
       go_wp2
       go_roundw
       case rel=>exact⟨10,by decide,rfl,rfl,HN2,belowN (hbj.alloc hbj.size _) _⟩
       case measure=>decide
     · have HE2:Hid (encT (s.data.toList.take (k+1))=A++[c]):=Lib.hid (by rw[HE.out,notJ_all HN.out (by decide)])
       clear HN HE hU;have hcc:s[k]=c:=HC.out
       go_wp2_with (at_builtin;refine wpList_append_own _ rfl _ _ 66 rfl w.heap.size 5 i0 (.int .u8 0) 1 1 Tryz.underlying66 hi hz0 hz1 hz2 rfl (by decide) _ _ _ rfl (hown2.alloc _) ⟨wr.heap.size,0,none⟩ 1 1 [.int .u8 (c.toNat:Int)] rfl rfl (cell_one_new _ _ _) (fun x hx=>by simp at hx;subst hx;rfl) (by unfold maxLen;omega) (by omega) (by have:=hb2.size;simp;omega) ?_;intro v' w3 hown3 hgrow3 hnil3)
       have hb3:Below w.heap.size w w3:=Below.grown (hb2.alloc hb2.size _) hgrow3 (by have:=hb2.size;simp;omega) (fun j hj=>(hown2.lt _ hj).1);have hown4:w3.ownsRow w.heap.size 5 1 v' (A++[c]).length (Lib.byteCells (A++[c])):=by rw[byteCells_append,byteCells_one,List.length_append];exact hown3
       clear hown3 hgrow3 hnil3
       go_roundw
       case rel=>exact⟨k+1,by omega,by go_num,by rw[HE2.out];exact hown4,hb3⟩
       case measure=>simp[intOf];omega
  · obtain rfl:k=s.size:=by omega
    rw[show s.data.toList.take s.size=s.data.toList by rw[<- lsize,List.take_length]]at hown;have hconv:=conv_row hown
    go_wp2
    rw[Exit.noGoto_ret]
    go_ret
    exact⟨rfl,hb⟩
theorem encode_hid (s T:ByteArray)(hT:T.data.toList=encT s.data.toList)(hs:s.size<=1000000):Hid (∀ W,SignsIn W->Calls Tryz.prog 36 #[.string s] W fun e w'=>e=.returned (.string T)/\Below W.heap.size W w'):=Lib.hid fun W hW=>by
 rw[text_is hT];exact encode_any s hs W hW
end Go.Proofs.YtlnfbjbagmfpiaaGreatDoor
namespace Go.Proofs.YtlnfbjbagmfpiaaGreatDoor
open Go.RowKit
theorem index_at (L:ByteArray)(k:Nat)(c:UInt8)(h:L.data.toList[k]? = some c):∀ W,(Instr.index 9 (.string L) (.int .i64 (k:Int))).run Tryz.prog W=.ok (.int .u8 (c.toNat:Int)) W:=fun W=>by
 obtain⟨hk,hc⟩:=List.getElem?_eq_some_iff.1 h;rw[lsize]at hk
 have e3:∀(n:Nat) (hn:n<L.size),n=k->L[n]=c:=fun n hn hq=>by
  subst hq;exact hc
 rw[run_index_string W 9 L .i64 (k:Int) Tryz.underlying9,dif_pos ⟨by omega,by omega⟩,e3 _ _ (by omega)]
end Go.Proofs.YtlnfbjbagmfpiaaGreatDoor
namespace Go.Proofs.YtlnfbjbagmfpiaaGreatDoor
open Go.RowKit
theorem cat_list (a b:ByteArray):(a++b).data.toList=a.data.toList++b.data.toList:=by simp
theorem add_cat (S T:ByteArray)(hl:S.size+T.size<=9223372036854775807):∀ W,(Op.stringOp .add S T).run Tryz.prog W=.ok (.string (S++T)) W:=add_to S T (S++T) (cat_list S T) hl
theorem slice_one' (L U:ByteArray)(k:Nat)(c:UInt8)(hk:L.data.toList[k]? = some c)(h:U.data.toList=[c]):∀ W,(Instr.slice 9 (.string L) (some (.int .i64 (k:Int))) (some (.int .i64 ((k:Int)+1))) none).run Tryz.prog W=.ok (.string U) W:=by
 obtain⟨h1,h2⟩:=List.getElem?_eq_some_iff.1 hk;have hk':k<L.size:=by rw[<- lsize];exact h1
 have:=slice_mid L U k (k+1) (by omega) hk' (by rw[h,List.drop_eq_getElem_cons h1,h2,show k+1 - k=1 by omega];rfl);rw[show((k+1:Nat):Int)=(k:Int)+1 by omega]at this;exact this
theorem encT_step' (l:List UInt8)(k:Nat)(c:UInt8)(h:l[k]? = some c):encT (l.take (k+1))=encT (l.take k)++encB c:=by
 obtain⟨h1,h2⟩:=List.getElem?_eq_some_iff.1 h;rw[List.take_succ_eq_append_getElem h1,encT_append,encT_one,h2]
theorem refEncode_any (s:ByteArray)(hs:s.size<=100000)(w:World) :
 Calls Tryz.prog 93 #[.string s] w fun e w'=>e=.returned (.string ⟨(encT s.data.toList).toArray⟩)/\w'=w:=by
 go_enter Tryz.func93,Tryz.ntmps93
 go_wp2
 go_loop [3,4] (fun v i=>∃(k:Nat) (O:ByteArray),i=.int .i64 k/\v=.string O/\k<=s.size/\Hid (O.data.toList=encT (s.data.toList.take k))/\O.size<=6 * k) (fun _ i=>s.size - (intOf i).toNat)
 case atStart=>exact⟨0,⟨#[]⟩,rfl,rfl,Nat.zero_le _,Lib.hid rfl,by decide⟩
 case round =>
  obtain⟨k,O,rfl,rfl,hk,HS,hlo⟩:=hrel
  by_cases hlt:k<s.size
  · have hkl:k<s.data.toList.length:=by rw[lsize];exact hlt
    obtain⟨c,hc⟩:∃ c,s.data.toList[k]? = some c:=⟨_,List.getElem?_eq_getElem hkl⟩;have i0:=index_at s k c hc;have hst:=encT_step' s.data.toList k c hc;obtain⟨U,hU⟩:∃ U:ByteArray,U.data.toList=encB c:=⟨⟨(encB c).toArray⟩,rfl⟩;have hUl:=encB_len c;have hUs:U.size<=6:=by rw[<- lsize,hU];omega
    have a1:=add_cat O U (by omega);have HN:Hid ((O++U).data.toList=encT (s.data.toList.take (k+1))):=Lib.hid (by rw[hst,cat_list,HS.out,hU]);have hou:(O++U).size<=6 * (k+1):=by rw[<- lsize,cat_list,List.length_append,lsize,lsize];omega
    clear hkl HS hst hUl
    by_cases h38:c=38
    · subst h38
      have i0:∀ W,(Instr.index 9 (.string s) (.int .i64 (k:Int))).run Tryz.prog W=.ok (.int .u8 38) W:=i0;obtain rfl:U=⟨#[38,97,109,112,59]⟩:=text_is hU;clear hc hU
      go_wp2
      go_round
      case rel=>exact⟨k+1,_,by go_num,rfl,by omega,HN,hou⟩
      case measure=>simp[intOf];omega
    by_cases h60:c=60
    · subst h60
      have i0:∀ W,(Instr.index 9 (.string s) (.int .i64 (k:Int))).run Tryz.prog W=.ok (.int .u8 60) W:=i0;obtain rfl:U=⟨#[38,108,116,59]⟩:=text_is hU;clear hc hU
      go_wp2
      go_round
      case rel=>exact⟨k+1,_,by go_num,rfl,by omega,HN,hou⟩
      case measure=>simp[intOf];omega
    by_cases h62:c=62
    · subst h62
      have i0:∀ W,(Instr.index 9 (.string s) (.int .i64 (k:Int))).run Tryz.prog W=.ok (.int .u8 62) W:=i0;obtain rfl:U=⟨#[38,103,116,59]⟩:=text_is hU;clear hc hU
      go_wp2
      go_round
      case rel=>exact⟨k+1,_,by go_num,rfl,by omega,HN,hou⟩
      case measure=>simp[intOf];omega
    by_cases h34:c=34
    · subst h34
      have i0:∀ W,(Instr.index 9 (.string s) (.int .i64 (k:Int))).run Tryz.prog W=.ok (.int .u8 34) W:=i0;obtain rfl:U=⟨#[38,113,117,111,116,59]⟩:=text_is hU;clear hc hU
      go_wp2
      go_round
      case rel=>exact⟨k+1,_,by go_num,rfl,by omega,HN,hou⟩
      case measure=>simp[intOf];omega
    by_cases h39:c=39
    · subst h39
      have i0:∀ W,(Instr.index 9 (.string s) (.int .i64 (k:Int))).run Tryz.prog W=.ok (.int .u8 39) W:=i0;obtain rfl:U=⟨#[38,97,112,111,115,59]⟩:=text_is hU;clear hc hU
      go_wp2
      go_round
      case rel=>exact⟨k+1,_,by go_num,rfl,by omega,HN,hou⟩
      case measure=>simp[intOf];omega
    have e:encB c=[c]:=encB_other h38 h60 h62 h34 h39;rw[e]at hU;have s2:=slice_one' s U k c hc hU;have g1:((c.toNat:Int)==38)=false:=by rw[beq_eq_false_iff_ne];exact fun h=>h38 (byte_is (d:=38) h)
    have g2:((c.toNat:Int)==60)=false:=by rw[beq_eq_false_iff_ne];exact fun h=>h60 (byte_is (d:=60) h)
    have g3:((c.toNat:Int)==62)=false:=by rw[beq_eq_false_iff_ne];exact fun h=>h62 (byte_is (d:=62) h)
    have g4:((c.toNat:Int)==34)=false:=by rw[beq_eq_false_iff_ne];exact fun h=>h34 (byte_is (d:=34) h)
    have g5:((c.toNat:Int)==39)=false:=by rw[beq_eq_false_iff_ne];exact fun h=>h39 (byte_is (d:=39) h)
    clear h38 h60 h62 h34 h39 e hU hc
    go_wp2
    go_round
    case rel=>exact⟨k+1,O++U,by go_num,rfl,by omega,HN,hou⟩
    case measure=>simp[intOf];omega
  · obtain rfl:k=s.size:=by omega
    have HE:Hid (O=⟨(encT s.data.toList).toArray⟩):=Lib.hid (text_is (by rw[HS.out,<- lsize,List.take_length]));clear HS
    go_wp2
    go_ret
    exact⟨congrArg (fun x=>Ending.returned (Value.string x)) HE.out,rfl⟩
end Go.Proofs.YtlnfbjbagmfpiaaGreatDoor
