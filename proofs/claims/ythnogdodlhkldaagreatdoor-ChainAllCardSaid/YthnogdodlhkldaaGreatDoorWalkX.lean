/- Ground: texts, blocks, small letters and trimmed texts (the program's). Signs, numbers, schemes, names, queries: the program's. Rows of texts; a text split; hosts (the program's). A path cleaned: the program's. The first of some bytes in a text (the library's IndexAny at any text): bytes that are none of a text of code points, too. -/
import Derived.Test.YthnogdodlhkldaaGreatDoorPureA
import Derived.Test.YthnogdodlhkldaaGreatDoorShelf
import Derived.WalkKit
import Derived.WalkSpells
import Derived.WalkLawsBesides
import Derived.BigQuiet
import Derived.Deep.QuietTactic
import Derived.Deep.LoopGhost
import Derived.Deep.RegionHeld3
import Derived.Outline
import Derived.Lib.SlBytesRow
import Derived.Lib.SlBytesConst
import Derived.Lib.ConvBytes
import Derived.Lib.SmallJoins
import Derived.Lib.Hide
import Derived.OwnWalk
import Derived.Lib.SplitLaws
import Derived.Laws.Runes
import Derived.Laws.RangeString
import Derived.Laws.RangeAny
import Derived.Lib.OthersKept
import Derived.Shelf.Strings.IndexAny
set_option maxRecDepth 100000
set_option maxHeartbeats 2000000
namespace Go.Proofs.YthnogdodlhkldaaGreatDoor
open Go.RowKit
theorem cV {k:IntKind}{a b:Int}(h:a=b):Ending.returned (.int k a)=.returned (.int k b):=by rw[h]
theorem aA {a b:Bool}(h:a=b):Ending.returned (.bool a)=.returned (.bool b):=by rw[h]
theorem aO (l:List UInt8):∃ T:ByteArray,T.data.toList=l:=⟨⟨l.toArray⟩,rfl⟩
theorem aM {T:ByteArray}{l:List UInt8}(h:T.data.toList=l):T=⟨l.toArray⟩:=by
 apply ByteArray.ext
 apply Array.toList_inj.1
 rw[h]
theorem fZ (s t:ByteArray):(s.toList==t.toList)=decide (s.data.toList=t.data.toList):=by
 rw[ByteArray.toList_eq,ByteArray.toList_eq,Bool.eq_iff_iff];simp
theorem aF (s:ByteArray):s.toList.isEmpty=s.data.toList.isEmpty:=by rw[ByteArray.toList_eq]
theorem gF {c d:UInt8}(h:(c.toNat:Int)=(d.toNat:Int)):c=d:=by
 apply UInt8.toNat_inj.1
 omega
theorem bR (c d:UInt8):((c.toNat:Int)==(d.toNat:Int))=(c==d):=by
 rw[Bool.eq_iff_iff];simp only[beq_iff_eq];exact⟨gF,fun h=>by rw[h]⟩
theorem aI (w:World)(R j:Nat)(c:Array Value)(t:TypeId)(fr:Nat × Nat)(u:Value)(h:w.heap[R]? = some (.cells c t fr)):(w.setCell ⟨R,j,none⟩ u).heap[R]? = some (.cells (c.setIfInBounds j u) t fr):=by
 simp only[World.setCell,Array.getElem?_modify,h];simp
theorem aG {w:World}{b:Nat}{c:Array Value}{t:TypeId}{fr:Nat × Nat}(h:w.heap[b]? = some (.cells c t fr))(j:Nat):w.cell? ⟨b,j,none⟩=c[j]? :=by
 simp[World.cell?,h]
theorem aB {w:World}{b:Nat}{c:Array Value}{t:TypeId}(h:w.heap[b]? = some (.cells c t (0,0)))(j:Nat):w.frozen? ⟨b,j,none⟩=false:=by
 simp[World.frozen?,h]
theorem aW (w:World)(o:Obj):(w.alloc o).heap[w.heap.size]? = some o:=by
 show(w.heap.push o)[w.heap.size]? = some o;simp
theorem cL {B:Nat}{a w:World}(h:Below B a w)(n:Nat):Below B a (w.drewN n):=h.trans ⟨rfl,rfl,rfl,zL _,fun _ _=>rfl⟩
theorem dF (s:ByteArray)(i j:Nat):(s.extract i j).data.toList=(s.data.toList.drop i).take (j - i):=Lib.extract_data s i j
theorem dG (S T R:ByteArray)(h:R.data.toList=S.data.toList++T.data.toList)(hl:S.size+T.size<=9223372036854775807):∀ W,(Op.stringOp .add S T).run Tryz.prog W=.ok (.string R) W:=fun W=>by
 rw[run_string_add_sum (P:=Tryz.prog) W S T hl]
 congr 2
 apply ByteArray.ext
 apply Array.toList_inj.1
 rw[h];simp
theorem xP (s T:ByteArray)(i j:Nat)(_hij:i<=j)(_hj:j<=s.size)(h:T.data.toList=(s.data.toList.drop i).take (j - i)):s.extract i j=T:=by
 apply ByteArray.ext
 apply Array.toList_inj.1
 rw[dF,h]
theorem yC:(Tryz.prog.info? 5).map (fun i=>(i.zero,i.size,i.bytes))=some (some (.int .u8 0),1,1):=by kernel_rfl
theorem pI:(Tryz.prog.info? 9).map (fun i=>(i.zero,i.size,i.bytes))=some (some (.string ⟨#[]⟩),1,16):=by kernel_rfl
theorem aD {w:World}{g:Nat}{o:Obj}(h:w.heap[g]? = some o):g<w.heap.size:=by
 rcases Nat.lt_or_ge g w.heap.size with h' | h'
 · exact h'
 · simp[Array.getElem?_eq_none h']at h
theorem aX {w w':World}{base:Nat}{e:TypeId}{size:Nat}{v:Value}{n:Nat}{xs:List Value}(h:w.ownsRow base e size v n xs)(hb:Below w.heap.size w w'):w'.ownsRow base e size v n xs:=by
 obtain⟨h1,h2⟩:=h;refine⟨h1,?_⟩;rcases h2 with h2 | ⟨g,cap,cur,a,b,c,d⟩
 · exact .inl h2
 · exact .inr ⟨g,cap,cur,a,b,by rw[hb.block g (aD c)];exact c,d⟩
theorem bS {w:World}{base size n:Nat}{e:TypeId}{v:Value}{xs:List Value}(h:w.ownsRow base e size v n xs):(v=.slice none 0 0/\n=0)\/∃ g cap,v=.slice (some ⟨g,0,none⟩) n cap:=by
 rcases h.2 with h2 | ⟨g,cap,cur,a,_⟩
 · exact .inl h2
 · exact .inr ⟨g,cap,a⟩
theorem bsize (l:List UInt8):(⟨l.toArray⟩:ByteArray).size=l.length:=by
 show l.toArray.size=_;simp
theorem aE (s:ByteArray):s.data.toList.length=s.size:=by simp
theorem aH {w:World}{a:Addr}{v:Value}(hc:w.cell? a=some v):a.block<w.heap.size:=by
 rcases Nat.lt_or_ge a.block w.heap.size with h' | h'
 · exact h'
 · simp[World.cell?,Array.getElem?_eq_none h']at hc
structure oI (w:World) (g:Nat) (l:List UInt8):Prop where
 cell:∀ j b,l[j]? = some b->w.cell? ⟨g,j,none⟩=some (.int .u8 (b.toNat:Int))
 free:∀ j,j<l.length->w.frozen? ⟨g,j,none⟩=false
theorem oI.set {w:World}{g:Nat}{l:List UInt8}(h:oI w g l){k:Nat}(hk:k<l.length)(b:UInt8):oI (w.setCell ⟨g,k,none⟩ (.int .u8 (b.toNat:Int))) g (l.set k b):=by
 refine⟨fun j c hj => ?_,fun j hj=>by rw[World.frozen?_setCell];exact h.free j (by simpa using hj)⟩;rw[List.getElem?_set]at hj
 by_cases e:k=j
 · subst e
   rw[if_pos rfl,if_pos hk]at hj
   cases hj
   exact World.cell?_setCell_same _ _ _ (h.cell k l[k] (by rw[List.getElem?_eq_getElem hk]))
 · rw[if_neg e]at hj
   rw[World.cell?_setCell_other _ _ _ _ (by intro h;cases h;exact e rfl)];exact h.cell j c hj
theorem zK (w:World)(s:ByteArray):oI (Lib.bytesWorld w 5 s) w.heap.size s.data.toList:=by
 refine⟨fun j b hj => ?_,fun j hj => ?_⟩
 · rw[Lib.bytesWorld_cell w 5 s j (oY hj).2]
   simp only[List.getD_eq_getElem?_getD,hj,Option.getD_some]
 · have hg:=Lib.bytesWorld_at_new w 5 s
   have hsz:j<(Lib.bytesCells w 5 s).size:=by
    rw[aE]at hj;simp[Lib.bytesCells];omega
   unfold World.frozen?;rw[hg];simp;omega
theorem jM (w:World)(s:ByteArray):Below w.heap.size w (Lib.bytesWorld w 5 s):=by
 refine⟨?_,?_,?_,by rw[Lib.bytesWorld_size];omega,fun k hk=>Lib.bytesWorld_at_old w 5 s k hk⟩
 · simp[Lib.bytesWorld,World.freeze,World.alloc,World.drew,-World.alloc_eq,-World.drew_eq]
 · simp[Lib.bytesWorld,World.freeze,World.alloc,World.drew,-World.alloc_eq,-World.drew_eq]
 · simp[Lib.bytesWorld,World.freeze,World.alloc,World.drew,-World.alloc_eq,-World.drew_eq]
theorem oI.conv {w:World}{g:Nat}{l:List UInt8}(h:oI w g l)(n cap:Nat)(hn:n=l.length):(convert 85 9 (.slice (some ⟨g,0,none⟩) n cap)).run Tryz.prog w=.ok (.string ⟨l.toArray⟩) w:=by
 subst hn;refine run_convert_bytes_back (P:=Tryz.prog) w 85 9 5 ⟨g,0,none⟩ cap l Tryz.underlying85 Tryz.underlying5 Tryz.underlying9 (fun j hj => ?_);have e:(⟨g,0,none⟩:Addr).add j=⟨g,j,none⟩:=by simp[Addr.add];omega
 rw[e];exact h.cell j _ (by rw[List.getElem?_eq_getElem hj])
def aU1 (l:List UInt8)(k:Nat):List UInt8:=bB (l.take k)++l.drop k
theorem mQ (l:List UInt8)(k:Nat):(aU1 l k).length=l.length:=by
 simp only[aU1,bB,List.length_append,List.length_map,List.length_take,List.length_drop];omega
theorem mix_zero (l:List UInt8):aU1 l 0=l:=by simp[aU1,bB]
theorem mix_all (l:List UInt8):aU1 l l.length=bB l:=by simp[aU1]
theorem mix_at (l:List UInt8)(k:Nat)(b:UInt8)(h:l[k]? = some b):(aU1 l k)[k]? = some b:=by
 have hk:=(List.getElem?_eq_some_iff.1 h).1;unfold aU1;rw[List.getElem?_append_right (by simp[bB];omega)];simp only[bB,List.length_map,List.length_take,List.getElem?_drop];rw[<- h];congr 1;omega
theorem aC0 (l:List UInt8)(k:Nat)(b:UInt8)(h:l[k]? = some b):aU1 l (k+1)=(aU1 l k).set k (fA b):=by
 have hk:=List.getElem?_eq_some_iff.1 h;have hl:(bB (l.take k)).length=k:=by have:=hk.1;simp[bB];omega
 unfold aU1;rw[List.set_append_right _ _ (by omega),hl,Nat.sub_self,jJ h,List.set_cons_zero];rw[List.take_add_one,h];simp[bB]
theorem set_self {l:List UInt8}{k:Nat}{b:UInt8}(h:l[k]? = some b):l.set k b=l:=by
 apply List.ext_getElem?
 intro j;rw[List.getElem?_set];split
 · rename_i e
   subst e;rw[if_pos (List.getElem?_eq_some_iff.1 h).1,h]
 · rfl
theorem rZ {b:UInt8}(h:65<=(b.toNat:Int))(h2:(b.toNat:Int)<=90):((fA b).toNat:Int)=(b.toNat:Int)+32:=by
 unfold fA;rw[if_pos ⟨by omega,by omega⟩,UInt8.toNat_add];simp;omega
theorem rY {b:UInt8}(h:¬ (65<=(b.toNat:Int)/\(b.toNat:Int)<=90)):fA b=b:=by
 unfold fA;rw[if_neg (by omega)]
theorem bE3 (s:ByteArray)(w:World)(hs:s.size<=1099511627776) :
 Calls Tryz.prog 48 #[.string s] w fun e w'=>e=.returned (.string ⟨(bB s.data.toList).toArray⟩)/\Below w.heap.size w w':=by
 have hconv:=Lib.run_convert_string_bytes (P:=Tryz.prog) w 9 85 5 s Tryz.underlying9 Tryz.underlying85 Tryz.underlying5;have hrow:=zK w s;have hbel:=jM w s;have hsz:=Lib.bytesWorld_size w 5 s;generalize Lib.bytesWorld w 5 s=W at hconv hrow hbel hsz;generalize grownCap w s.size 0 5=cap at hconv;have HZ:w.heap.size<W.heap.size:=by omega
 clear hsz;have hll:=aE s;generalize hL:s.data.toList=l at *;generalize s.size=n at *;have HN:=zH hll;have HL:=zH hL;clear hll hL
 go_enter Tryz.func48,Tryz.ntmps48
 go_wp2
 go_loopw [4,5,10] (fun _ _ i wr=>∃ k:Nat,i=.int .i64 k/\k<=n/\oI wr w.heap.size (aU1 l k)/\Below w.heap.size w wr) (fun _ _ i _=>n - (intOf i).toNat)
 case atStart=>exact⟨0,rfl,Nat.zero_le _,by rw[mix_zero];exact hrow,hbel⟩
 case round =>
  obtain⟨k,rfl,hk,hr,hb⟩:=hrel;clear hrow hbel hconv
  by_cases hlt:k<n
  · obtain⟨b,hb1⟩:∃ b,l[k]? = some b:=⟨l[k]'(by rw[HN.out];exact hlt),List.getElem?_eq_getElem _⟩
    have hcell:=hr.cell k b (mix_at l k b hb1);have hfree:=hr.free k (by rw[mQ,HN.out];exact hlt);have hset:=hr.set (k:=k) (by rw[mQ,HN.out];exact hlt) (fA b);rw[<- aC0 l k b hb1]at hset
    have hsame:fA b=b->oI wr w.heap.size (aU1 l (k+1)):=fun e=>by
     rw[aC0 l k b hb1,e,set_self (mix_at l k b hb1)];exact hr
    have HS:=zH hset;have HM:=zH hsame;clear hset hsame;have hbs:=hb.setCell (p:=⟨w.heap.size,k,none⟩) (zL _) (.int .u8 ((fA b).toNat:Int))
    by_cases hg:65<=(b.toNat:Int)/\(b.toNat:Int)<=90
    · obtain⟨hg1,hg2⟩:=hg
      have e:=rZ hg1 hg2;rw[e]at HS hbs;clear e
      go_wp2
      go_roundw
      case rel=>exact⟨k+1,by go_num,by omega,HS.out,hbs⟩
      case measure=>simp[intOf];omega
    · have e:=HM.out (rY hg)
      by_cases hg1:65<=(b.toNat:Int)
      all_goals
       go_wp2
       go_roundw
       case rel=>exact⟨k+1,by go_num,by omega,e,hb⟩
       case measure=>simp[intOf];omega
  · obtain rfl:k=n:=by omega
    have hc:=oI.conv hr k cap (by rw[mQ,HN.out]);have hml:aU1 l k=bB l:=by rw[<- HN.out,mix_all]
    rw[hml]at hc;clear HN HL hr hml
    go_wp2
    go_ret
    exact⟨rfl,hb⟩
theorem yN (s:ByteArray)(w:World)(hs:s.size<=1099511627776) :
 Calls Tryz.prog 90 #[.string s] w fun e w'=>e=.returned (.string ⟨(eI s.data.toList).toArray⟩)/\Below w.heap.size w w':=by
 have hT:=fun W=>Tryz.strings_Trim_laid s ⟨#[9,10,12,13,32]⟩ W (by omega) (by decide) (ascii_of_all (by decide));have e:Lib.trimS s.data.toList (⟨#[9,10,12,13,32]⟩:ByteArray).data.toList=eI s.data.toList:=rfl;rw[e]at hT;generalize(⟨(eI s.data.toList).toArray⟩:ByteArray)=r at hT ⊢;have HT:=zH hT;clear hT e
 go_enter Tryz.func90,Tryz.ntmps90
 go_wp2_with (go_at_call 121;refine(HT.out _).mono ?_;rintro e w' ⟨rfl,hb⟩)
 go_ret
 exact⟨rfl,hb⟩
theorem dM (s T:ByteArray)(hT:T.data.toList=bB s.data.toList)(hs:s.size<=1099511627776):Hid (∀ W,Calls Tryz.prog 48 #[.string s] W fun e w'=>e=.returned (.string T)/\Below W.heap.size W w'):=zH fun W=>by
 rw[aM hT];exact bE3 s W hs
theorem trim_hid (s T:ByteArray)(hT:T.data.toList=eI s.data.toList)(hs:s.size<=1099511627776):Hid (∀ W,Calls Tryz.prog 90 #[.string s] W fun e w'=>e=.returned (.string T)/\Below W.heap.size W w'):=zH fun W=>by
 rw[aM hT];exact yN s W hs
end Go.Proofs.YthnogdodlhkldaaGreatDoor
namespace Go.Proofs.YthnogdodlhkldaaGreatDoor
open Go.RowKit
theorem aY2 (c:UInt8)(w:World):Calls Tryz.prog 118 #[.int .u8 (c.toNat:Int)] w fun e w'=>e=.returned (.bool (small c))/\w'=w:=by
 have hb:c.toNat<=255:=by have:=c.toNat_lt;omega
 by_cases h1:97<=(c.toNat:Int)
 · by_cases h2:(c.toNat:Int)<=122
   · have e:small c=true:=decide_eq_true ⟨by omega,by omega⟩
     rw[e];clear e
     go_enter Tryz.func118,Tryz.ntmps118
     go_wp2
     go_ret
     exact⟨rfl,rfl⟩
   · have e:small c=false:=decide_eq_false (by omega)
     rw[e];clear e
     go_enter Tryz.func118,Tryz.ntmps118
     go_wp2
     go_ret
     exact⟨rfl,rfl⟩
 · have e:small c=false:=decide_eq_false (by omega)
   rw[e];clear e
   go_enter Tryz.func118,Tryz.ntmps118
   go_wp2
   go_ret
   exact⟨rfl,rfl⟩
theorem bH2 (c:UInt8)(w:World):Calls Tryz.prog 119 #[.int .u8 (c.toNat:Int)] w fun e w'=>e=.returned (.bool (bQ c))/\w'=w:=by
 have hb:c.toNat<=255:=by have:=c.toNat_lt;omega
 by_cases h1:48<=(c.toNat:Int)
 · by_cases h2:(c.toNat:Int)<=57
   · have e:bQ c=true:=decide_eq_true ⟨by omega,by omega⟩
     rw[e];clear e
     go_enter Tryz.func119,Tryz.ntmps119
     go_wp2
     go_ret
     exact⟨rfl,rfl⟩
   · have e:bQ c=false:=decide_eq_false (by omega)
     rw[e];clear e
     go_enter Tryz.func119,Tryz.ntmps119
     go_wp2
     go_ret
     exact⟨rfl,rfl⟩
 · have e:bQ c=false:=decide_eq_false (by omega)
   rw[e];clear e
   go_enter Tryz.func119,Tryz.ntmps119
   go_wp2
   go_ret
   exact⟨rfl,rfl⟩
theorem fG (c:UInt8)(b:Bool)(h:small c=b):Hid (∀ W,Calls Tryz.prog 118 #[.int .u8 (c.toNat:Int)] W fun e w'=>e=.returned (.bool b)/\w'=W):=zH fun W=>by rw[<- h];exact aY2 c W
theorem lW (c:UInt8)(b:Bool)(h:bQ c=b):Hid (∀ W,Calls Tryz.prog 119 #[.int .u8 (c.toNat:Int)] W fun e w'=>e=.returned (.bool b)/\w'=W):=zH fun W=>by rw[<- h];exact bH2 c W
theorem xS {s:ByteArray}{k:Nat}(h:k<s.size):∃ b,s.data.toList[k]? = some b/\s.data.toList[k]'(by rw[aE];exact h)=b/\s[k]=b:=⟨s[k],by rw[List.getElem?_eq_getElem (by rw[aE];exact h)];rfl,rfl,rfl⟩
theorem fV {s:ByteArray}{k:Nat}(h:k<s.size):s.data.toList.take (k+1)=s.data.toList.take k++[s[k]]:=by
 rw[List.take_succ_eq_append_getElem (by simpa using h)];rfl
theorem cQ (s:ByteArray):s.data.toList.take s.size=s.data.toList:=List.take_of_length_le (by rw[aE];exact zL _)
theorem eO {s:ByteArray}{k:Nat}(p:UInt8->Bool)(h:k<s.size)(h1:(s.data.toList.take k).all p=true):(p s[k]=true->(s.data.toList.take (k+1)).all p=true)/\(p s[k]=false->s.data.toList.all p=false):=by
 constructor
 · intro hp
   rw[fV h,List.all_append,h1];simp[hp]
 · intro hp
   rw[List.all_eq_false];exact⟨s[k],List.getElem_mem (by rw[aE];exact h),by rw[hp];simp⟩
theorem dT (l:List UInt8)(c:UInt8):(l.contains c=true/\0<=Lib.indexByte l c)\/(l.contains c=false/\Lib.indexByte l c = -1):=by
 induction l with
 | nil=>exact .inr ⟨rfl,rfl⟩
 | cons b l ih =>
   unfold Lib.indexByte
   cases hb:(b==c)
   · have hb':(c==b)=false:=by rw[Bool.eq_false_iff]at hb ⊢;intro h;exact hb (by rw[eq_of_beq h];simp)
     simp only[List.contains_cons,hb',Bool.false_or,Bool.false_eq_true,if_false];rcases ih with ⟨h1,h2⟩ | ⟨h1,h2⟩
     · left
       refine⟨h1,?_⟩;rw[if_neg (by simp;omega)];omega
     · right
       refine⟨h1,?_⟩;rw[h2];rfl
   · left
     have:=eq_of_beq hb;subst this;simp
theorem gE (t:ByteArray)(c:UInt8)(n:Int)(hn:Lib.indexByte t.data.toList c=n):Hid (∀ W,Calls Tryz.prog 120 #[.string t,.int .u8 (c.toNat:Int)] W fun e w'=>e=.returned (.int .i64 n)/\w'=W) :=
 zH fun W=>by
  have h:=Tryz.strings_IndexByte t (c.toNat:Int) W;have e:((c.toNat:Int)).toNat.toUInt8=c:=by simp
  rw[e]at h;rw[<- hn];exact h
theorem aG8 (f:Nat)(t s:ByteArray)(hs:s.size<=1099511627776)(w:World):Calls Tryz.prog 89 #[.string s,.int .u8 (f:Int),.string t] w fun e w'=>e=.returned (.bool (bH f t.data.toList s.data.toList))/\w'=w:=by
 go_enter Tryz.func89,Tryz.ntmps89
 go_wp2
 go_loop [7,8,11] (fun _ _ i=>∃ k:Nat,k<=s.size/\i=.int .i64 k/\Hid ((s.data.toList.take k).all (aD2 f t.data.toList)=true)) (fun _ _ i=>s.size - (intOf i).toNat)
 case atStart=>exact⟨0,by omega,rfl,zH rfl⟩
 case round =>
  obtain⟨k,hk,rfl,HS⟩:=hrel
  by_cases hlt:k<s.size
  · obtain⟨n,hn⟩:∃ n,Lib.indexByte t.data.toList s[k]=n:=⟨_,rfl⟩
    have C:=gE t s[k] n hn;have hm:=dT t.data.toList s[k];rw[hn]at hm;have hst:=eO (aD2 f t.data.toList) hlt HS.out;have hin:aD2 f t.data.toList s[k]=(decide (f<=s[k].toNat/\s[k].toNat<=126) && !t.data.toList.contains s[k]):=rfl
    by_cases h1:(s[k].toNat:Int)<(f:Int)
    · have HR:Hid (false=bH f t.data.toList s.data.toList):=zH (by
       refine(hst.2 ?_).symm
       rw[hin,decide_eq_false (by omega)];rfl)
      clear hn hm hst hin
      go_wp2_with (go_at_call 120;refine(C.out _).mono ?_;rintro e w' ⟨rfl,rfl⟩)
      go_ret
      exact⟨aA HR.out,rfl⟩
    by_cases h2:126<(s[k].toNat:Int)
    · have HR:Hid (false=bH f t.data.toList s.data.toList):=zH (by
       refine(hst.2 ?_).symm
       rw[hin,decide_eq_false (by omega)];rfl)
      clear hn hm hst hin
      go_wp2_with (go_at_call 120;refine(C.out _).mono ?_;rintro e w' ⟨rfl,rfl⟩)
      go_ret
      exact⟨aA HR.out,rfl⟩
    rcases hm with ⟨hc,h0⟩ | ⟨hc,h0⟩
    · have HR:Hid (false=bH f t.data.toList s.data.toList):=zH (by
       refine(hst.2 ?_).symm
       rw[hin,hc];simp)
      clear hn hst hin hc
      go_wp2_with (go_at_call 120;refine(C.out _).mono ?_;rintro e w' ⟨rfl,rfl⟩)
      go_ret
      exact⟨aA HR.out,rfl⟩
    · have HR:=zH (hst.1 (by rw[hin,hc,decide_eq_true (by omega)];rfl))
      have hneg:¬ (0:Int)<=n:=by omega
      clear hn hst hin hc h0
      go_wp2_with (go_at_call 120;refine(C.out _).mono ?_;rintro e w' ⟨rfl,rfl⟩)
      go_round
      case rel=>exact⟨k+1,by omega,by go_num,HR⟩
      case measure=>simp[intOf];omega
  · obtain rfl:k=s.size:=by omega
    have HR:Hid (true=bH f t.data.toList s.data.toList):=zH (by
     have:=HS.out
     rw[cQ]at this;exact this.symm)
    go_wp2
    go_ret
    exact⟨aA HR.out,rfl⟩
theorem mL (f:Nat)(t s:ByteArray)(b:Bool)(h:bH f t.data.toList s.data.toList=b)(hs:s.size<=1099511627776):Hid (∀ W,Calls Tryz.prog 89 #[.string s,.int .u8 (f:Int),.string t] W fun e w'=>e=.returned (.bool b)/\w'=W) :=
 zH fun W=>by rw[<- h];exact aG8 f t s hs W
theorem bJ (s:ByteArray)(l:List UInt8):(s.toList==l)=decide (s.data.toList=l):=by
 rw[ByteArray.toList_eq,Bool.eq_iff_iff];simp
theorem aE5 (s:ByteArray)(w:World):Calls Tryz.prog 84 #[.string s] w fun e w'=>e=.returned (.int .i64 (kM s.data.toList:Int))/\w'=w:=by
 have g1:(s.toList==[104,116,116,112])=decide (s.data.toList=yD):=bJ _ _;have g2:(s.toList==[119,115])=decide (s.data.toList=WS):=bJ _ _;have g3:(s.toList==[104,116,116,112,115])=decide (s.data.toList=qL):=bJ _ _;have g4:(s.toList==[119,115,115])=decide (s.data.toList=WSS):=bJ _ _;have hd:kM s.data.toList=if s.data.toList=yD\/s.data.toList=WS then 80 else if s.data.toList=qL\/s.data.toList=WSS then 443 else 0:=rfl
 by_cases h1:s.data.toList=yD
 · rw[decide_eq_true h1]at g1
   rw[if_pos (.inl h1)]at hd;rw[hd];clear g2 g3 g4 h1 hd
   go_enter Tryz.func84,Tryz.ntmps84
   go_wp2
   go_ret
   exact⟨rfl,rfl⟩
 rw[decide_eq_false h1]at g1
 by_cases h2:s.data.toList=WS
 · rw[decide_eq_true h2]at g2
   rw[if_pos (.inr h2)]at hd;rw[hd];clear g3 g4 h1 h2 hd
   go_enter Tryz.func84,Tryz.ntmps84
   go_wp2
   go_ret
   exact⟨rfl,rfl⟩
 rw[decide_eq_false h2]at g2;rw[if_neg (by rintro(h | h);exact h1 h;exact h2 h)]at hd
 by_cases h3:s.data.toList=qL
 · rw[decide_eq_true h3]at g3
   rw[if_pos (.inl h3)]at hd;rw[hd];clear g4 h1 h2 h3 hd
   go_enter Tryz.func84,Tryz.ntmps84
   go_wp2
   go_ret
   exact⟨rfl,rfl⟩
 rw[decide_eq_false h3]at g3
 by_cases h4:s.data.toList=WSS
 · rw[decide_eq_true h4]at g4
   rw[if_pos (.inr h4)]at hd;rw[hd];clear h1 h2 h3 h4 hd
   go_enter Tryz.func84,Tryz.ntmps84
   go_wp2
   go_ret
   exact⟨rfl,rfl⟩
 · rw[decide_eq_false h4]at g4
   rw[if_neg (by rintro(h | h);exact h3 h;exact h4 h)]at hd;rw[hd];clear h1 h2 h3 h4 hd
   go_enter Tryz.func84,Tryz.ntmps84
   go_wp2
   go_ret
   exact⟨rfl,rfl⟩
theorem gK (s:ByteArray)(n:Nat)(h:kM s.data.toList=n):Hid (∀ W,Calls Tryz.prog 84 #[.string s] W fun e w'=>e=.returned (.int .i64 (n:Int))/\w'=W) :=
 zH fun W=>by rw[<- h];exact aE5 s W
theorem uQ (l:List UInt8)(b:UInt8):mD (l++[b])=mD l * 10+(b.toNat - 48):=by simp[mD]
theorem numV_lt (l:List UInt8)(h:l.all bQ=true):mD l<10 ^ l.length:=by
 induction l using gZ with
 | nil=>exact Nat.one_pos
 | append_singleton l b ih =>
   rw[List.all_append,Bool.and_eq_true]at h;have h1:=ih h.1;have h2:48<=b.toNat/\b.toNat<=57:=by simpa [bQ] using h.2
   rw[uQ,List.length_append,List.length_singleton,Nat.pow_succ];omega
theorem pow_five {k:Nat}(h:k<=5):10 ^ k<=100000:=Nat.pow_le_pow_right (n:=10) (by decide) h
theorem aI3 (s:ByteArray)(hs:s.size<=1099511627776)(w:World):Calls Tryz.prog 88 #[.string s] w fun e w'=>e=.returned (.bool (dR s.data.toList))/\w'=w:=by
 by_cases h0:s.size=0
 · have hl:s.data.toList=[]:=List.length_eq_zero_iff.1 (by rw[aE];exact h0)
   have g:s.toList.isEmpty=true:=by rw[aF,hl];rfl
   rw[hl];clear hl
   go_enter Tryz.func88,Tryz.ntmps88
   go_wp2
   go_ret
   exact⟨rfl,rfl⟩
 have hpos:0<s.size:=by omega
 obtain⟨b0,l0,hbl⟩:∃ b l,s.data.toList=b :: l:=by
  cases h:s.data.toList with
  | nil=>rw[<- aE,h]at hpos;cases hpos
  | cons b l=>exact⟨b,l,rfl⟩
 have g:s.toList.isEmpty=false:=by rw[aF,hbl];rfl
 have hb0:s[0]=b0:=by
  obtain⟨b,h1,_,h3⟩:=xS hpos;rw[hbl]at h1;simp at h1;rw[h3,h1]
 have hlen:l0.length+1=s.size:=by rw[<- aE s,hbl];rfl
 have hm:dR s.data.toList=(decide (s.size<=20)&&small s[0]&&s.data.toList.all kO):=by
  rw[hb0,hbl];show(decide (l0.length<20)&&small b0&&(b0 :: l0).all kO)=_
  congr 2
  rw[decide_eq_decide];omega
 clear hbl hb0 hlen
 by_cases h5:20<(s.size:Int)
 · have e:dR s.data.toList=false:=by rw[hm,decide_eq_false (by omega)];rfl
   rw[e];clear hm e
   go_enter Tryz.func88,Tryz.ntmps88
   go_wp2
   go_ret
   exact⟨rfl,rfl⟩
 rw[decide_eq_true (by omega)]at hm
 cases hsm:small s[0]
 · have C:=fG s[0] false hsm
   have e:dR s.data.toList=false:=by rw[hm,hsm];rfl
   rw[e];clear hm e hsm
   go_enter Tryz.func88,Tryz.ntmps88
   go_wp2_with (go_at_call 118;refine(C.out _).mono ?_;rintro e w' ⟨rfl,rfl⟩)
   go_ret
   exact⟨rfl,rfl⟩
 have C0:=fG s[0] true hsm;rw[hsm]at hm;have HM:Hid (dR s.data.toList=s.data.toList.all kO):=zH hm;clear hm hsm
 go_enter Tryz.func88,Tryz.ntmps88
 go_wp2_with (go_at_call 118;refine(C0.out _).mono ?_;rintro e w' ⟨rfl,rfl⟩)
 clear C0
 go_loop [3,4,20] (fun _ _ i=>∃ k:Nat,k<=s.size/\i=.int .i64 k/\Hid ((s.data.toList.take k).all kO=true)) (fun _ _ i=>s.size - (intOf i).toNat)
 case atStart=>exact⟨0,by omega,rfl,zH rfl⟩
 case round =>
  obtain⟨k,hk,rfl,HS⟩:=hrel
  by_cases hlt:k<s.size
  · have hst:=eO kO hlt HS.out
    have hB:kO s[k]=(small s[k] || bQ s[k] || s[k]==43 || s[k]==45 || s[k]==46):=rfl
    cases h1:small s[k]
    · cases h2:bQ s[k]
      · have C1:=fG s[k] false h1
        have C2:=lW s[k] false h2;have e1:=bR s[k] 43;have e2:=bR s[k] 45;have e3:=bR s[k] 46;rw[h1,h2,<- e1,<- e2,<- e3]at hB;change kO s[k]=(false || false || ((s[k].toNat:Int)==43) || ((s[k].toNat:Int)==45) || ((s[k].toNat:Int)==46))at hB;clear e1 e2 e3 h1 h2
        cases g1:((s[k].toNat:Int)==43)
        · cases g2:((s[k].toNat:Int)==45)
          · cases g3:((s[k].toNat:Int)==46)
            · have p1:((s[k].toNat:Int) != 43)=true:=by simpa using g1
              have p2:((s[k].toNat:Int) != 45)=true:=by simpa using g2
              have p3:((s[k].toNat:Int) != 46)=true:=by simpa using g3
              rw[g1,g2,g3]at hB;have HR:Hid (false=dR s.data.toList):=zH (by rw[HM.out,hst.2 hB]);clear hst hB
              go_wp2_with (first | (go_at_call 118;refine(C1.out _).mono ?_;rintro e w' ⟨rfl,rfl⟩) | (go_at_call 119;refine(C2.out _).mono ?_;rintro e w' ⟨rfl,rfl⟩))
              go_ret
              exact⟨aA HR.out,rfl⟩
            · have p1:((s[k].toNat:Int) != 43)=true:=by simpa using g1
              have p2:((s[k].toNat:Int) != 45)=true:=by simpa using g2
              have p3:((s[k].toNat:Int) != 46)=false:=by simpa using g3
              rw[g1,g2,g3]at hB;have HR:=zH (hst.1 hB);clear hst hB
              go_wp2_with (first | (go_at_call 118;refine(C1.out _).mono ?_;rintro e w' ⟨rfl,rfl⟩) | (go_at_call 119;refine(C2.out _).mono ?_;rintro e w' ⟨rfl,rfl⟩))
              go_round
              case rel=>exact⟨k+1,by omega,by go_num,HR⟩
              case measure=>simp[intOf];omega
          · have p1:((s[k].toNat:Int) != 43)=true:=by simpa using g1
            have p2:((s[k].toNat:Int) != 45)=false:=by simpa using g2
            rw[g1,g2]at hB;have HR:=zH (hst.1 (by rw[hB];rfl));clear hst hB
            go_wp2_with (first | (go_at_call 118;refine(C1.out _).mono ?_;rintro e w' ⟨rfl,rfl⟩) | (go_at_call 119;refine(C2.out _).mono ?_;rintro e w' ⟨rfl,rfl⟩))
            go_round
            case rel=>exact⟨k+1,by omega,by go_num,HR⟩
            case measure=>simp[intOf];omega
        · have p1:((s[k].toNat:Int) != 43)=false:=by simpa using g1
          rw[g1]at hB;have HR:=zH (hst.1 (by rw[hB];rfl));clear hst hB
          go_wp2_with (first | (go_at_call 118;refine(C1.out _).mono ?_;rintro e w' ⟨rfl,rfl⟩) | (go_at_call 119;refine(C2.out _).mono ?_;rintro e w' ⟨rfl,rfl⟩))
          go_round
          case rel=>exact⟨k+1,by omega,by go_num,HR⟩
          case measure=>simp[intOf];omega
      · have C1:=fG s[k] false h1
        have C2:=lW s[k] true h2;have HR:=zH (hst.1 (by rw[hB,h1,h2];rfl));clear hst hB h1 h2
        go_wp2_with (first | (go_at_call 118;refine(C1.out _).mono ?_;rintro e w' ⟨rfl,rfl⟩) | (go_at_call 119;refine(C2.out _).mono ?_;rintro e w' ⟨rfl,rfl⟩))
        go_round
        case rel=>exact⟨k+1,by omega,by go_num,HR⟩
        case measure=>simp[intOf];omega
    · have C1:=fG s[k] true h1
      have HR:=zH (hst.1 (by rw[hB,h1];rfl));clear hst hB h1
      go_wp2_with (go_at_call 118;refine(C1.out _).mono ?_;rintro e w' ⟨rfl,rfl⟩)
      go_round
      case rel=>exact⟨k+1,by omega,by go_num,HR⟩
      case measure=>simp[intOf];omega
  · obtain rfl:k=s.size:=by omega
    have HR:Hid (true=dR s.data.toList):=zH (by
     have:=HS.out
     rw[cQ]at this;rw[HM.out,this])
    go_wp2
    go_ret
    exact⟨aA HR.out,rfl⟩
theorem aI2 (s:ByteArray)(b:Bool)(h:dR s.data.toList=b)(hs:s.size<=1099511627776):Hid (∀ W,Calls Tryz.prog 88 #[.string s] W fun e w'=>e=.returned (.bool b)/\w'=W) :=
 zH fun W=>by rw[<- h];exact aI3 s hs W
theorem name_any (s:ByteArray)(hs:s.size<=1099511627776)(w:World):Calls Tryz.prog 116 #[.string s] w fun e w'=>e=.returned (.bool (iE s.data.toList))/\w'=w:=by
 have hm:iE s.data.toList=(!s.data.toList.isEmpty&&s.data.toList.all gI):=rfl;rw[<- aF]at hm;have HM:Hid (iE s.data.toList=(!s.toList.isEmpty&&s.data.toList.all gI)):=zH hm;clear hm;obtain⟨ie,hie⟩:∃ ie,s.toList.isEmpty=ie:=⟨_,rfl⟩;rw[hie]at HM
 go_enter Tryz.func116,Tryz.ntmps116
 go_wp2
 go_loop [3,4,7] (fun _ _ i=>∃ k:Nat,k<=s.size/\i=.int .i64 k/\Hid ((s.data.toList.take k).all gI=true)) (fun _ _ i=>s.size - (intOf i).toNat)
 case atStart=>exact⟨0,by omega,rfl,zH rfl⟩
 case round =>
  obtain⟨k,hk,rfl,HS⟩:=hrel
  by_cases hlt:k<s.size
  · have hst:=eO gI hlt HS.out
    have hB:gI s[k]=(small s[k] || bQ s[k] || s[k]==45):=rfl
    cases h1:small s[k]
    · cases h2:bQ s[k]
      · have C1:=fG s[k] false h1
        have C2:=lW s[k] false h2;have e2:=bR s[k] 45;rw[h1,h2,<- e2]at hB;change gI s[k]=(false || false || ((s[k].toNat:Int)==45))at hB;clear e2 h1 h2
        cases g2:((s[k].toNat:Int)==45)
        · rw[g2]at hB
          have HR:Hid (false=iE s.data.toList):=zH (by rw[HM.out,hst.2 hB];simp);clear hst hB
          go_wp2_with (first | (go_at_call 118;refine(C1.out _).mono ?_;rintro e w' ⟨rfl,rfl⟩) | (go_at_call 119;refine(C2.out _).mono ?_;rintro e w' ⟨rfl,rfl⟩))
          go_ret
          exact⟨aA HR.out,rfl⟩
        · rw[g2]at hB
          have HR:=zH (hst.1 (by rw[hB];rfl));clear hst hB
          go_wp2_with (first | (go_at_call 118;refine(C1.out _).mono ?_;rintro e w' ⟨rfl,rfl⟩) | (go_at_call 119;refine(C2.out _).mono ?_;rintro e w' ⟨rfl,rfl⟩))
          go_round
          case rel=>exact⟨k+1,by omega,by go_num,HR⟩
          case measure=>simp[intOf];omega
      · have C1:=fG s[k] false h1
        have C2:=lW s[k] true h2;have HR:=zH (hst.1 (by rw[hB,h1,h2];rfl));clear hst hB h1 h2
        go_wp2_with (first | (go_at_call 118;refine(C1.out _).mono ?_;rintro e w' ⟨rfl,rfl⟩) | (go_at_call 119;refine(C2.out _).mono ?_;rintro e w' ⟨rfl,rfl⟩))
        go_round
        case rel=>exact⟨k+1,by omega,by go_num,HR⟩
        case measure=>simp[intOf];omega
    · have C1:=fG s[k] true h1
      have HR:=zH (hst.1 (by rw[hB,h1];rfl));clear hst hB h1
      go_wp2_with (go_at_call 118;refine(C1.out _).mono ?_;rintro e w' ⟨rfl,rfl⟩)
      go_round
      case rel=>exact⟨k+1,by omega,by go_num,HR⟩
      case measure=>simp[intOf];omega
  · obtain rfl:k=s.size:=by omega
    have HR:Hid ((!ie)=iE s.data.toList):=zH (by
     have:=HS.out
     rw[cQ]at this;rw[HM.out,this,Bool.and_true])
    clear HM HS
    go_wp2
    go_ret
    exact⟨aA HR.out,rfl⟩
theorem aB8 (s:ByteArray)(b:Bool)(h:iE s.data.toList=b)(hs:s.size<=1099511627776):Hid (∀ W,Calls Tryz.prog 116 #[.string s] W fun e w'=>e=.returned (.bool b)/\w'=W) :=
 zH fun W=>by rw[<- h];exact name_any s hs W
theorem bB2 (s:ByteArray)(hs:s.size<=1099511627776)(w:World):Calls Tryz.prog 87 #[.string s] w fun e w'=>e=.returned (.bool (fW s.data.toList))/\w'=w:=by
 by_cases h0:s.size=0
 · have hl:s.data.toList=[]:=List.length_eq_zero_iff.1 (by rw[aE];exact h0)
   have g:s.toList.isEmpty=true:=by rw[aF,hl];rfl
   rw[hl];clear hl
   go_enter Tryz.func87,Tryz.ntmps87
   go_wp2
   go_ret
   exact⟨rfl,rfl⟩
 have hpos:0<s.size:=by omega
 obtain⟨b0,l0,hbl⟩:∃ b l,s.data.toList=b :: l:=by
  cases h:s.data.toList with
  | nil=>rw[<- aE,h]at hpos;cases hpos
  | cons b l=>exact⟨b,l,rfl⟩
 have g:s.toList.isEmpty=false:=by rw[aF,hbl];rfl
 have hb0:s[0]=b0:=by
  obtain⟨b,h1,_,h3⟩:=xS hpos;rw[hbl]at h1;simp at h1;rw[h3,h1]
 obtain⟨wi,hwi⟩:∃ wi,bH 33 [35] s.data.toList=wi:=⟨_,rfl⟩;have C:=mL 33 ⟨#[35]⟩ s wi hwi hs
 have hm:fW s.data.toList=((s[0]==63)&&wi):=by
  rw[<- hwi,hb0,hbl];rfl
 have e1:=bR s[0] 63;rw[<- e1]at hm;change fW s.data.toList=(((s[0].toNat:Int)==63)&&wi)at hm;clear e1 hbl hb0 hwi
 cases g1:((s[0].toNat:Int)==63)
 · rw[g1]at hm
   rw[hm];clear hm
   go_enter Tryz.func87,Tryz.ntmps87
   go_wp2_with (go_at_call 89;refine(C.out _).mono ?_;rintro e w' ⟨rfl,rfl⟩)
   go_ret
   exact⟨rfl,rfl⟩
 · rw[g1]at hm
   rw[hm];clear hm
   go_enter Tryz.func87,Tryz.ntmps87
   go_wp2_with (go_at_call 89;refine(C.out _).mono ?_;rintro e w' ⟨rfl,rfl⟩)
   go_ret
   exact⟨rfl,rfl⟩
theorem bB1 (s:ByteArray)(b:Bool)(h:fW s.data.toList=b)(hs:s.size<=1099511627776):Hid (∀ W,Calls Tryz.prog 87 #[.string s] W fun e w'=>e=.returned (.bool b)/\w'=W) :=
 zH fun W=>by rw[<- h];exact bB2 s hs W
end Go.Proofs.YthnogdodlhkldaaGreatDoor
namespace Go.Proofs.YthnogdodlhkldaaGreatDoor
open Go.RowKit
def dA (t:List UInt8):Value := .string ⟨t.toArray⟩
def aR (w:World)(v:Value)(ts:List (List UInt8)):Prop :=
 ((∃ a c,v=.slice a 0 c)/\ts=[])\/∃ B off cap,v=.slice (some ⟨B,off,none⟩) ts.length cap/\∀ j,(h:j<ts.length)->w.cell? ⟨B,off+j,none⟩=some (dA ts[j])
theorem aR.below {w w':World}{v:Value}{p:List (List UInt8)}(h:aR w v p)(hb:Below w.heap.size w w'):aR w' v p:=by
 rcases h with h | ⟨B,off,cap,h1,h2⟩
 · exact .inl h
 · exact .inr ⟨B,off,cap,h1,fun j hj=>by rw[hb.cell (aH (h2 j hj))];exact h2 j hj⟩
theorem aR.form {w:World}{v:Value}{p:List (List UInt8)}(h:aR w v p):∃ a c,v=.slice a p.length c:=by
 rcases h with ⟨⟨a,c,rfl⟩,rfl⟩ | ⟨B,off,cap,rfl,_⟩
 · exact⟨_,_,rfl⟩
 · exact⟨_,_,rfl⟩
def aC (p:List (List UInt8)):List Value:=p.map dA
theorem eF (p:List (List UInt8))(c:List UInt8):aC (p++[c])=aC p++[dA c]:=by simp[aC]
theorem aR.of_row {w:World}{base:Nat}{v:Value}{p:List (List UInt8)}(h:w.ownsRow base 9 1 v p.length (aC p)):aR w v p:=by
 rcases bS h with ⟨h1,h2⟩ | ⟨g,cap,rfl⟩
 · exact .inl ⟨⟨_,_,h1⟩,List.length_eq_zero_iff.1 h2⟩
 · refine .inr ⟨g,0,cap,rfl,fun j hj => ?_⟩
   rw[Nat.zero_add,h.cellAt j (by omega)];simp[aC,List.getElem?_eq_getElem hj]
theorem aU2 (L:List (List UInt8))(x:List UInt8)(h:x∈L):x.length<=(L.map List.length).sum:=by
 induction L with
 | nil=>cases h
 | cons a L ih =>
   rcases List.mem_cons.1 h with rfl | h
   · simp
   · have:=ih h;simp;omega
theorem nX (p:UInt8->Bool)(l:List UInt8)(x:List UInt8)(h:x∈cut p l):x.length<=l.length:=by
 have h1:=aU2 _ x h;have h2:=eU p l;omega
theorem yU (s:ByteArray)(c:UInt8):(Lib.splitB ⟨#[c]⟩ 0 (Lib.countB s ⟨#[c]⟩) s).map (fun t:ByteArray=>t.data.toList)=cut (· == c) s.data.toList:=by
 rw[Lib.splitB_data]
 exact rJ c _ _ (by
  show s.data.toList.count c<=Lib.count s.data.toList [c]
  rw[Lib.count_one];exact zL _)
theorem yW (s:ByteArray)(c:UInt8):(Lib.splitB ⟨#[c]⟩ 0 (Lib.countB s ⟨#[c]⟩) s).map Value.string=aC (cut (· == c) s.data.toList):=by
 rw[<- yU];unfold aC;rw[List.map_map];rfl
theorem yV (s:ByteArray)(c:UInt8):Lib.countB s ⟨#[c]⟩+1=(cut (· == c) s.data.toList).length:=by
 rw[dU];show Lib.count s.data.toList [c]+1=s.data.toList.count c+1;rw[Lib.count_one]
def aQ (w:World):Prop:=∃ m,w.cell? ⟨1,0,none⟩=some (.int .i64 m)
theorem aQ.below {w w':World}(h:aQ w)(hb:Below w.heap.size w w'):aQ w':=by
 obtain⟨m,hm⟩:=h;exact⟨m,by rw[hb.cell (aH hm)];exact hm⟩
theorem uG (s:ByteArray)(c:UInt8)(W:World)(hs:s.size<4294967281)(hm:aQ W) :
 Calls Tryz.prog 97 #[.string s,.string ⟨#[c]⟩] W fun e w'=>e=.returned (.slice (some ⟨W.heap.size,0,none⟩) (cut (· == c) s.data.toList).length (cut (· == c) s.data.toList).length) /\
  w'.ownsRow W.heap.size 9 1 (.slice (some ⟨W.heap.size,0,none⟩) (cut (· == c) s.data.toList).length (cut (· == c) s.data.toList).length) (cut (· == c) s.data.toList).length (aC (cut (· == c) s.data.toList))/\Below W.heap.size W w':=by
 obtain⟨m,hm⟩:=hm;have h:=Tryz.strings_Split s ⟨#[c]⟩ m W hs hm (show 1<=1 from zL 1);have hlen:s.data.toList.length<4294967281:=by rw[aE];exact hs
 have h2:=eU (· == c) s.data.toList;have h3:=dU (· == c) s.data.toList;rw[yW,yV]at h;refine h.mono fun e w' ⟨he,hw⟩=>⟨he,?_,?_⟩
 · rw[hw]
   have:=World.ownsRow_lit (e:=9) (size:=1) (base:=W.heap.size) W (aC (cut (· == c) s.data.toList)).toArray (cut (· == c) s.data.toList).length (zL _) (by unfold maxLen;omega) (by simp[aC])
   simpa using this
 · rw[hw]
   exact(zB _ _).alloc (zL _) _
theorem uF (s:ByteArray)(c:UInt8)(L:List (List UInt8))(hL:cut (· == c) s.data.toList=L)(hs:s.size<4294967281):Hid (∀ W,aQ W->Calls Tryz.prog 97 #[.string s,.string ⟨#[c]⟩] W fun e w'=>e=.returned (.slice (some ⟨W.heap.size,0,none⟩) L.length L.length) /\
 w'.ownsRow W.heap.size 9 1 (.slice (some ⟨W.heap.size,0,none⟩) L.length L.length) L.length (aC L)/\Below W.heap.size W w'):=zH fun W hm=>by
 rw[<- hL];exact uG s c W hs hm
theorem sU {α:Type}(p:α->Bool)(L:List α)(k:Nat)(h:k<L.length)(h1:(L.take k).all p=true):(p L[k]=true->(L.take (k+1)).all p=true)/\(p L[k]=false->L.all p=false):=by
 constructor
 · intro hp
   rw[List.take_succ_eq_append_getElem h,List.all_append,h1];simp[hp]
 · intro hp
   rw[List.all_eq_false];exact⟨L[k],List.getElem_mem h,by rw[hp];simp⟩
theorem host_any (s:ByteArray)(hs:s.size<=1000000000)(w:World)(hm:aQ w):Calls Tryz.prog 85 #[.string s] w fun e w'=>e=.returned (.bool (bW s.data.toList))/\Below w.heap.size w w':=by
 have hM:bW s.data.toList=(decide (s.size<=100)&&(cut pA s.data.toList).all iE):=by unfold bW;rw[aE]
 by_cases h1:100<(s.size:Int)
 · have e:bW s.data.toList=false:=by rw[hM,decide_eq_false (by omega)];rfl
   rw[e];clear hM e hm
   go_enter Tryz.func85,Tryz.ntmps85
   go_wp2
   go_ret
   exact⟨rfl,zB _ _⟩
 rw[decide_eq_true (by omega),Bool.true_and]at hM;have hcl:∀ x∈cut pA s.data.toList,x.length<=1000000000:=fun x hx=>by have:=nX _ _ x hx;rw[aE]at this;omega
 have hn:(cut pA s.data.toList).length<=1000000001:=by
  have h2:=eU pA s.data.toList;have h3:=dU pA s.data.toList;rw[aE]at h2;omega
 obtain⟨L,hL⟩:∃ L,cut pA s.data.toList=L:=⟨_,rfl⟩;have CS:=uF s 46 L hL (by omega);rw[hL]at hcl hn hM;have HM:=zH hM;have HC:=zH hcl;clear hL hM hcl
 go_enter Tryz.func85,Tryz.ntmps85
 go_wp2_with fail
 refine(CS.out _ hm).mono ?_;rintro e w1 ⟨rfl,hown,hb⟩
 have hcell:Hid (∀ j (h:j<L.length),w1.cell? ⟨w.heap.size,j,none⟩=some (dA L[j])):=zH fun j h=>by
  rw[hown.cellAt j (by omega)];simp[aC,List.getElem?_eq_getElem h]
 clear hown
 go_wp2
 go_loop [4,11] (fun _ i=>∃ k:Nat,k<=L.length/\i=.int .i64 k/\Hid ((L.take k).all iE=true)) (fun _ i=>L.length - (intOf i).toNat)
 case atStart=>exact⟨0,by omega,rfl,zH rfl⟩
 case round =>
  obtain⟨k,hk,rfl,HS⟩:=hrel
  by_cases hlt:k<L.length
  · have hc:=hcell.out k hlt
    obtain⟨X,hX⟩:=aO L[k];have hXs:X.size<=1000000000:=by have:=HC.out _ (List.getElem_mem hlt);rw[<- hX,aE]at this;exact this
    have hc2:w1.cell? ⟨w.heap.size,k,none⟩=some (.string X):=by rw[hc,<- hX];rfl
    have hst:=sU iE L k hlt HS.out;rw[<- hX]at hst;clear hc hX
    cases hb2:iE X.data.toList
    · have C:=aB8 X false hb2 (by omega)
      have HR:Hid (false=bW s.data.toList):=zH (by rw[HM.out,hst.2 hb2]);clear hst hb2
      go_wp2_with (go_at_call 116;refine(C.out _).mono ?_;rintro e w1 ⟨rfl,rfl⟩)
      go_ret
      exact⟨aA HR.out,hb⟩
    · have C:=aB8 X true hb2 (by omega)
      have HR:=zH (hst.1 hb2);clear hst hb2
      go_wp2_with (go_at_call 116;refine(C.out _).mono ?_;rintro e w1 ⟨rfl,rfl⟩)
      go_round
      case rel=>exact⟨k+1,by omega,by go_num,HR⟩
      case measure=>simp[intOf];omega
  · obtain rfl:k=L.length:=by omega
    have HR:Hid (true=bW s.data.toList):=zH (by
     have:=HS.out
     rw[List.take_length]at this;rw[HM.out,this])
    go_wp2
    go_ret
    exact⟨aA HR.out,hb⟩
theorem host_hid (s:ByteArray)(b:Bool)(h:bW s.data.toList=b)(hs:s.size<=1000000000):Hid (∀ W,aQ W->Calls Tryz.prog 85 #[.string s] W fun e w'=>e=.returned (.bool b)/\Below W.heap.size W w') :=
 zH fun W hm=>by rw[<- h];exact host_any s hs W hm
end Go.Proofs.YthnogdodlhkldaaGreatDoor
namespace Go.Proofs.YthnogdodlhkldaaGreatDoor
open Go.RowKit
theorem rR (s p:ByteArray)(b:Bool)(h:p.data.toList.isPrefixOf s.data.toList=b):Hid (∀ W,Calls Tryz.prog 77 #[.string s,.string p] W fun e w'=>e=.returned (.bool b)/\w'=W):=zH fun W=>by
 rw[<- h];exact Tryz.strings_HasPrefix s p W
theorem aD0 (W:World)(B:Nat)(L:List (List UInt8))(v:Value)(hL:L≠[])(hown:W.ownsRow B 9 1 v L.length (aC L))(J:ByteArray)(hJ:J.data.toList=Lib.join L [47])(hJl:J.size<=1000000000)(hLl:L.length<=1000000000) :
 Calls Tryz.prog 161 #[v,.string ⟨#[47]⟩] W fun e w'=>e=.returned (.string J)/\Below W.heap.size W w':=by
 obtain⟨h1,h2⟩:=hown;rcases h2 with ⟨_,h0⟩ | ⟨g,cap,cur,rfl,hg,hc,hn,hcap,hsz,htk⟩
 · exact absurd (List.length_eq_zero_iff.1 h0) hL
 have hmap:(L.map (fun l=>(⟨l.toArray⟩:ByteArray))).map (·.data.toList)=L:=by
  rw[List.map_map]
  conv=>rhs;rw[<- List.map_id L]
  congr 1
 have h:=Tryz.strings_Join g 0 cap (L.map (fun l=>(⟨l.toArray⟩:ByteArray))) ⟨#[47]⟩ W (fun j x hx=>by
  rw[List.getElem?_map]at hx
  have hlt:j<L.length:=by
   rcases Nat.lt_or_ge j L.length with h | h
   · exact h
   · rw[List.getElem?_eq_none h]at hx;cases hx
  rw[List.getElem?_eq_getElem hlt]at hx
  cases hx
  have hco:W.ownsRow B 9 1 (.slice (some ⟨g,0,none⟩) L.length cap) L.length (aC L):=⟨h1,.inr ⟨g,cap,cur,rfl,hg,hc,hn,hcap,hsz,htk⟩⟩;rw[Nat.zero_add,hco.cellAt j (by omega)];simp[aC,dA,List.getElem?_eq_getElem hlt]) (aD hc) (by rw[List.length_map];omega) (by rw[List.length_map];exact hn) (by
  rw[hmap];have:(Lib.join L (⟨#[47]⟩:ByteArray).data.toList).length=J.size:=by rw[<- aE,hJ]
  rw[this];omega)
 rw[hmap,List.length_map]at h
 have e:(⟨(Lib.join L (⟨#[47]⟩:ByteArray).data.toList).toArray⟩:ByteArray)=J:=by
  rw[aM hJ]
 rw[e]at h;exact h
theorem shrink {W:World}{B:Nat}{g m cap:Nat}{D:List (List UInt8)}{x:List UInt8}(h:W.ownsRow B 9 1 (.slice (some ⟨g,0,none⟩) (m+1) cap) (m+1) (aC (D++[x]))):W.ownsRow B 9 1 (.slice (some ⟨g,0,none⟩) m cap) m (aC D):=by
 obtain⟨h1,h2⟩:=h;rw[eF,List.length_append,List.length_singleton]at h1;rcases h2 with ⟨h2,_⟩ | ⟨g',cap',cur,hv,hg,hc,hn,hcap,hsz,htk⟩
 · cases h2
 · cases hv
   refine⟨by omega,.inr ⟨g,cap,cur,rfl,hg,hc,by omega,hcap,hsz,?_⟩⟩;have e:cur.toList.take (m * 1)=(cur.toList.take ((m+1) * 1)).take (m * 1):=by rw[List.take_take];congr 1;omega
   rw[e,htk,eF];rw[List.take_left' (by omega)]
theorem Tslice {W:World}(g m cap:Nat)(hc:m+1<=cap):(Instr.slice 34 (.slice (some ⟨g,0,none⟩) (m+1) cap) none (some (.int .i64 (m:Int))) none).run Tryz.prog W=.ok (.slice (some ⟨g,0,none⟩) m cap) W:=by
 simp[Instr.slice,go_sem];intro h;omega
theorem step_dot {L:List (List UInt8)}{k:Nat}(h:k<L.length)(hx:L[k]=[46]):taken (L.take (k+1))=taken (L.take k):=by
 rw[List.take_succ_eq_append_getElem h,dQ,hx];rfl
theorem step_up {L:List (List UInt8)}{k:Nat}(h:k<L.length)(hx:L[k]=[46,46]):taken (L.take (k+1))=(taken (L.take k)).dropLast:=by
 rw[List.take_succ_eq_append_getElem h,dQ,hx];rfl
theorem step_in {L:List (List UInt8)}{k:Nat}(h:k<L.length)(h1:L[k]≠[46])(h2:L[k]≠[46,46]):taken (L.take (k+1))=taken (L.take k)++[L[k]]:=by
 rw[List.take_succ_eq_append_getElem h,dQ];unfold jC;rw[if_neg h1,if_neg h2]
theorem endC_ne {L:List (List UInt8)}(h:L≠[]):iZ L (taken L)≠[]:=by
 rcases List.eq_nil_or_concat L with h0 | ⟨M,p,h0⟩
 · exact absurd h0 h
 · rw[h0,List.concat_eq_append,lV,dQ]
   cases hd:fX p
   · rw[jB hd];simp
   · simp
theorem bF7 {Z:List (List UInt8)}(h:Z≠[]){T J:ByteArray}(hT:T.data.toList=cG Z)(hJ:J.data.toList=Lib.join Z [47]):T.data.toList=(⟨#[47]⟩:ByteArray).data.toList++J.data.toList/\J.size+1=T.size:=by
 obtain⟨x,L,rfl⟩:=List.exists_cons_of_ne_nil h;have e:T.data.toList=47 :: J.data.toList:=by rw[hT,hJ,vW]
 refine⟨e,?_⟩;rw[<- aE T,<- aE J,e];rfl
theorem bI0 (s:ByteArray)(hs:s.size<=1000000)(T:ByteArray)(hT:T.data.toList=fT s.data.toList)(w:World)(hmx:aQ w):Calls Tryz.prog 117 #[.string s] w fun e w'=>e=.returned (.string T)/\Below w.heap.size w w':=by
 by_cases hp:[47].isPrefixOf s.data.toList=false
 · have C:=rR s ⟨#[47]⟩ false hp
   have e:fT s.data.toList=[]:=by
    cases h:s.data.toList with
    | nil=>rfl
    | cons b l =>
      rw[h]at hp
      have:sl b=false:=by
       cases hb:sl b
       · rfl
       · have:b=47:=by simpa [sl] using hb
         subst this;simp[List.isPrefixOf]at hp
      simp[fT,this]
   rw[e]at hT;obtain rfl:T=⟨#[]⟩:=aM hT;clear hT e hp
   go_enter Tryz.func117,Tryz.ntmps117
   go_wp2_with (go_at_call 77;refine(C.out _).mono ?_;rintro e w' ⟨rfl,rfl⟩)
   go_ret
   exact⟨rfl,zB _ _⟩
 have hp:[47].isPrefixOf s.data.toList=true:=by simpa using hp
 have C:=rR s ⟨#[47]⟩ true hp
 obtain⟨r,hr⟩:∃ r,s.data.toList=47 :: r:=by
  cases h:s.data.toList with
  | nil=>rw[h]at hp;cases hp
  | cons b l =>
    rw[h]at hp;have:b=47:=by simp[List.isPrefixOf]at hp;exact hp.symm
    exact⟨l,by rw[this]⟩
 have hrl:r.length+1=s.size:=by rw[<- aE s,hr];rfl
 have hsz1:1<=s.size:=by omega
 have hex:(s.extract 1 s.size).data.toList=r:=by rw[dF,hr];simp[<- hrl]
 have hexs:(s.extract 1 s.size).size=r.length:=by rw[<- aE,hex]
 obtain⟨L,hL⟩:∃ L,cut sl r=L:=⟨_,rfl⟩;have CS:=uF (s.extract 1 s.size) 47 L (by rw[hex];exact hL) (by omega);have hne:L≠[]:=hL ▸ kE sl r;have hwt:=wt_cut r;rw[hL]at hwt;have hT2:T.data.toList=cG (iZ L (taken L)):=by rw[hT,hr,<- hL];rfl
 have hTs:T.size<=s.size:=by rw[<- aE T,<- aE s,hT];exact tU _
 have hLn:L.length<=1000001:=by
  have h2:=dU sl r;have h3:r.countP sl<=r.length:=List.countP_le_length;rw[hL]at h2;omega
 have hXl:∀ x∈L,x.length<=1000000:=fun x hx=>by
  have:=nX sl r x (by rw[hL];exact hx);omega
 obtain⟨m,hm⟩:∃ m,L.length=m+1:=⟨L.length - 1,by have:=List.length_pos_iff.2 hne;omega⟩;have htl:=fun k=>nC (L.take k)
 have HTL:Hid (∀ k,(taken (L.take k)).length<=m+1):=zH fun k=>by
  have:=htl k;rw[List.length_take]at this;omega
 have HT2:=zH hT2;have HXL:=zH hXl;have HM:=zH hm;obtain⟨i0,hi,hz0,hz1,hz2⟩:=info_parts pI;rw[hm]at CS;clear hT hp hr hrl hex hexs hL hwt hT2 hXl htl hne;have hm9:m<=1000000:=by rw[hm]at hLn;omega
 clear hm hLn
 go_enter Tryz.func117,Tryz.ntmps117
 go_wp2_with (go_at_call 77;refine(C.out _).mono ?_;rintro e w ⟨rfl,rfl⟩)
 refine(CS.out _ hmx).mono ?_;rintro e w1 ⟨rfl,hown,hb⟩;have hB:w.heap.size<w1.heap.size:=(hown.lt _ rfl).2
 have hcell:Hid (∀ j (h:j<L.length),w1.cell? ⟨w.heap.size,j,none⟩=some (dA L[j])):=zH fun j h=>by
  rw[hown.cellAt j (by have:=HM.out;omega)];simp[aC,List.getElem?_eq_getElem h]
 obtain⟨W1,hmk,hown1,hgr⟩:=run_make_own (P:=Tryz.prog) w1 w1.heap.size 34 9 i0 _ 1 Tryz.underlying34 hi hz0 hz1 .i64 .i64 (m+1) (by rw[hz2];omega) (by unfold maxLen;omega) (zL _);have hmk2:(Instr.makeSlice 34 (.int .i64 0) (.int .i64 ((m:Int)+1))).run Tryz.prog w1=.ok (.slice (some ⟨w1.heap.size,0,none⟩) 0 (m+1)) W1:=hmk;have B1:Below w1.heap.size w1 W1:=Below.grown (zB _ _) hgr (zL _) (fun k hk=>by cases hk);generalize hv:(Value.slice (some ⟨w1.heap.size,0,none⟩) 0 (m+1))=v0 at hmk2 hown1;clear hmk hgr hv hown C CS hmx
 go_wp2
 go_loopw [4,19] (fun v i wr=>∃ k:Nat,k<=m+1/\i=.int .i64 k/\wr.ownsRow w1.heap.size 9 1 v (taken (L.take k)).length (aC (taken (L.take k)))/\Below w1.heap.size w1 wr) (fun _ i _=>m+1 - (intOf i).toNat)
 case atStart=>exact⟨0,Nat.zero_le _,rfl,hown1,B1⟩
 case round =>
  obtain⟨k,hk,rfl,hown,hbw⟩:=hrel;clear hown1 hmk2 B1
  by_cases hlt:k<m+1
  · have hltL:k<L.length:=by rw[HM.out];exact hlt
    have hc:=hcell.out k hltL;rw[<- hbw.cell hB]at hc;obtain⟨X,hX⟩:=aO L[k];have hXs:X.size<=1000000:=by have:=HXL.out _ (List.getElem_mem hltL);rw[<- hX,aE]at this;exact this
    have hc2:wr.cell? ⟨w.heap.size,k,none⟩=some (.string X):=by rw[hc,<- hX];rfl
    have g1:(X.toList==[46])=decide (L[k]=[46]):=by rw[bJ,hX]
    have g2:(X.toList==[46,46])=decide (L[k]=[46,46]):=by rw[bJ,hX]
    have hki:(k:Int)<(m:Int)+1:=by omega
    by_cases h1:L[k]=[46]
    · have e:=step_dot hltL h1
      rw[decide_eq_true h1]at g1;rw[<- e]at hown;clear g2 h1 e hc hX
      go_wp2
      go_roundw
      case rel=>exact⟨k+1,by omega,by go_num,hown,hbw⟩
      case measure=>simp[intOf];omega
    by_cases h2:L[k]=[46,46]
    · have e:=step_up hltL h2
      rw[decide_eq_false h1]at g1;rw[decide_eq_true h2]at g2;rcases List.eq_nil_or_concat (taken (L.take k))with h0 | ⟨D,x,h0⟩
      · rw[h0]at hown e
        have HE:Hid (taken (L.take (k+1))=[]):=zH e;rcases bS hown with ⟨rfl,_⟩ | ⟨g,cap,rfl⟩
        all_goals
         clear h1 h2 e hc hX h0
         go_wp2
         go_roundw
         case rel=>exact⟨k+1,by omega,by go_num,by rw[HE.out];exact hown,hbw⟩
         case measure=>simp[intOf];omega
      · rw[List.concat_eq_append]at h0
        rw[h0,List.dropLast_concat]at e;have HE:=zH e;rw[h0,List.length_append,List.length_singleton]at hown;obtain⟨d,hd⟩:∃ d,D.length=d:=⟨_,rfl⟩;rw[hd]at hown;have HD:=zH hd
        obtain⟨g,cap,rfl⟩:∃ g cap,u4=.slice (some ⟨g,0,none⟩) (d+1) cap:=by
         rcases bS hown with ⟨_,h⟩ | h
         · cases h
         · exact h
        have hcap:d+1<=cap:=by
         rcases hown.2 with ⟨h,_⟩ | ⟨_,_,_,h,_,_,h3,_⟩
         · cases h
         · cases h;exact h3
        have hsh:=shrink hown;have hsl:=Tslice (W:=wr) g d cap hcap
        have hd9:d<=1000000:=by
         have:=HTL.out (k+1);rw[HE.out,hd]at this;have h9:=HTL.out k;rw[h0,List.length_append,List.length_singleton,hd]at h9;omega
        clear h1 h2 e hc hX h0 hd hown
        go_wp2
        go_roundw
        case rel=>exact⟨k+1,by omega,by go_num,by rw[HE.out,HD.out];exact hsh,hbw⟩
        case measure=>simp[intOf];omega
    · have e:=step_in hltL h1 h2
      rw[decide_eq_false h1]at g1;rw[decide_eq_false h2]at g2;have hn9:=HTL.out k;rw[<- hX]at e;obtain⟨N,hN⟩:∃ N,(taken (L.take k)).length=N:=⟨_,rfl⟩;obtain⟨A,hA⟩:∃ A,aC (taken (L.take k))=A:=⟨_,rfl⟩
      have HE:Hid ((taken (L.take (k+1))).length=N+1/\aC (taken (L.take (k+1)))=A++[.string X]):=zH (by
       rw[e,List.length_append,List.length_singleton,hN,eF,hA]
       exact⟨rfl,rfl⟩)
      rw[hN,hA]at hown;rw[hN]at hn9;clear h1 h2 e hc hX hN hA
      go_wp2_with (at_builtin;refine wpList_append_own _ rfl _ _ 34 rfl w1.heap.size 9 i0 (.string ⟨#[]⟩) 1 16 Tryz.underlying34 hi hz0 hz1 hz2 rfl (by decide) _ _ _ rfl (hown.alloc _) ⟨wr.heap.size,0,none⟩ 1 1 [.string X] rfl rfl (cell_one_new _ _ _) (fun x hx=>by simp at hx;subst hx;rfl) (by unfold maxLen;omega) (by omega) (by have:=hbw.size;simp;omega) ?_;intro v' w3 hown' hgrow3 hnil3
                   have hbw3:Below w1.heap.size w1 w3:=Below.grown (hbw.alloc (by have:=hbw.size;omega) _) hgrow3 (by have:=hbw.size;simp;omega) (fun j hj=>by have:=(hown.lt _ hj).1;omega);have X9:Aside (w3.ownsRow w1.heap.size 9 1 v' (N+1) (A++[.string X])/\Below w1.heap.size w1 w3):=⟨hown',hbw3⟩
                   clear hown' hgrow3 hnil3)
      go_roundw
      case rel=>exact⟨k+1,by omega,by go_num,by rw[HE.out.1,HE.out.2];exact X9.out.1,X9.out.2⟩
      case measure=>simp[intOf];omega
  · obtain rfl:k=m+1:=by omega
    have hLt:L.take (m+1)=L:=List.take_of_length_le (by rw[HM.out];exact zL _);rw[hLt]at hown;have hltL:m<L.length:=by rw[HM.out];omega
    have hc:=hcell.out m hltL;rw[<- hbw.cell hB]at hc;obtain⟨X,hX⟩:=aO L[m];have hc2:wr.cell? ⟨w.heap.size,m,none⟩=some (.string X):=by rw[hc,<- hX];rfl
    have g1:(X.toList==[46])=decide (L[m]=[46]):=by rw[bJ,hX]
    have g2:(X.toList==[46,46])=decide (L[m]=[46,46]):=by rw[bJ,hX]
    have hls:L.getLast? = some L[m]:=by
     rw[List.getLast?_eq_getElem?,List.getElem?_eq_getElem (by rw[HM.out];omega)]
     congr 1
     simp[HM.out]
    have hE:iZ L (taken L)=if fX L[m] then taken L++[[]] else taken L:=by unfold iZ;rw[hls]
    have hne:iZ L (taken L)≠[]:=endC_ne (by intro h;rw[h]at hltL;cases hltL);obtain⟨J,hJ⟩:=aO (Lib.join (iZ L (taken L)) [47]);obtain⟨hTJ,hJs⟩:=bF7 hne HT2.out hJ;have hadd:=dG ⟨#[47]⟩ J T hTJ (by show 1+J.size<=_;omega);have hN9:=nC L;rw[HM.out]at hN9;have HJ:=zH hJ;have HNE:=zH hne;have hbw9:Below w.heap.size w wr:=hb.trans (hbw.mono (by omega));clear hc hls hJ hne hTJ hLt hcell HTL HXL
    by_cases hd:fX L[m]=true
    · rw[if_pos hd]at hE
      obtain⟨N,hN⟩:∃ N,(taken L).length=N:=⟨_,rfl⟩;obtain⟨A,hA⟩:∃ A,aC (taken L)=A:=⟨_,rfl⟩
      have HE:Hid ((iZ L (taken L)).length=N+1/\aC (iZ L (taken L))=A++[.string ⟨#[]⟩]):=zH (by
       rw[hE,List.length_append,List.length_singleton,hN,eF,hA]
       exact⟨rfl,rfl⟩)
      rw[hN]at hN9;rw[hN,hA]at hown
      have hd2:(L[m]=[46]/\X.toList==[46])\/((X.toList==[46])=false/\X.toList==[46,46]):=by
       rcases qT hd with h | h
       · rw[decide_eq_true h]at g1;exact .inl ⟨h,g1⟩
       · rw[decide_eq_true h]at g2
         rw[decide_eq_false (by rw[h];decide)]at g1;exact .inr ⟨g1,g2⟩
      clear g1 g2 hd hE hX hN hA;rcases hd2 with ⟨_,g1⟩ | ⟨g1,g2⟩
      all_goals
       go_wp2_with (at_builtin;refine wpList_append_own _ rfl _ _ 34 rfl w1.heap.size 9 i0 (.string ⟨#[]⟩) 1 16 Tryz.underlying34 hi hz0 hz1 hz2 rfl (by decide) _ _ _ rfl (hown.alloc _) ⟨wr.heap.size,0,none⟩ 1 1 [.string ⟨#[]⟩] rfl rfl (cell_one_new _ _ _) (fun x hx=>by simp at hx;subst hx;rfl) (by unfold maxLen;omega) (by omega) (by have:=hbw.size;simp;omega) ?_;intro v' w3 hown' hgrow3 hnil3
                    have hbw3:Below w1.heap.size w1 w3:=Below.grown (hbw.alloc (by have:=hbw.size;omega) _) hgrow3 (by have:=hbw.size;simp;omega) (fun j hj=>by have:=(hown.lt _ hj).1;omega);have X9:Aside (w3.ownsRow w1.heap.size 9 1 v' (iZ L (taken L)).length (aC (iZ L (taken L)))/\Below w1.heap.size w1 w3):=⟨by rw[HE.out.1,HE.out.2];exact hown',hbw3⟩
                    clear hown' hgrow3 hnil3)
       have hb9:Below w.heap.size w w3:=hb.trans (X9.out.2.mono (by omega));refine(aD0 w3 w1.heap.size (iZ L (taken L)) _ HNE.out X9.out.1 J HJ.out (by omega) (by rw[HE.out.1];omega)).mono ?_;rintro e w4 ⟨rfl,b4⟩;have B4:=hb9.trans (b4.mono hb9.size);clear b4 X9
       go_wp2
       go_ret
       exact⟨rfl,B4⟩
    · rw[if_neg hd]at hE
      have g1':(X.toList==[46])=false:=by rw[g1,decide_eq_false];intro h;rw[h]at hd;exact hd rfl
      have g2':(X.toList==[46,46])=false:=by rw[g2,decide_eq_false];intro h;rw[h]at hd;exact hd rfl
      have HO:Hid (wr.ownsRow w1.heap.size 9 1 u4 (iZ L (taken L)).length (aC (iZ L (taken L)))):=zH (by rw[hE];exact hown);have HL9:Hid ((iZ L (taken L)).length<=1000000000):=zH (by rw[hE];omega);clear g1 g2 hd hE hX hown hN9
      go_wp2_with fail
      refine(aD0 wr w1.heap.size (iZ L (taken L)) _ HNE.out HO.out J HJ.out (by omega) HL9.out).mono ?_;rintro e w4 ⟨rfl,b4⟩;have B4:=hbw9.trans (b4.mono hbw9.size);clear b4
      go_wp2
      go_ret
      exact⟨rfl,B4⟩
theorem bH9 (s:ByteArray)(hs:s.size<=1000000)(T:ByteArray)(hT:T.data.toList=fT s.data.toList):Hid (∀ W,aQ W->Calls Tryz.prog 117 #[.string s] W fun e w'=>e=.returned (.string T)/\Below W.heap.size W w') :=
 zH fun W hm=>bI0 s hs T hT W hm
theorem path_any (s:ByteArray)(hs:s.size<=1000000)(w:World)(hmx:aQ w):Calls Tryz.prog 86 #[.string s] w fun e w'=>e=.returned (.bool (fI s.data.toList))/\Below w.heap.size w w':=by
 have hm:fI s.data.toList=(!s.toList.isEmpty&&bH 33 [63,35] s.data.toList&&decide (fT s.data.toList=s.data.toList)):=by rw[aF];rfl
 obtain⟨T,hT⟩:=aO (fT s.data.toList);have C1:=bH9 s hs T hT;obtain⟨wi,hwi⟩:∃ wi,bH 33 [63,35] s.data.toList=wi:=⟨_,rfl⟩;have C2:=mL 33 ⟨#[63,35]⟩ s wi hwi (by omega);have hq:=fZ T s;rw[hT]at hq;rw[<- hq,hwi]at hm;obtain⟨q,hq2⟩:∃ q,(T.toList==s.toList)=q:=⟨_,rfl⟩;rw[hq2]at hm;clear hq hT hwi
 cases g:s.toList.isEmpty
 · cases wi
   · rw[g]at hm
     rw[hm];clear hm
     go_enter Tryz.func86,Tryz.ntmps86
     go_wp2_with (go_at_call 89;refine(C2.out _).mono ?_;rintro e w ⟨rfl,rfl⟩)
     go_ret
     exact⟨rfl,zB _ _⟩
   · rw[g]at hm
     rw[hm];clear hm
     go_enter Tryz.func86,Tryz.ntmps86
     go_wp2_with (first | (go_at_call 89;refine(C2.out _).mono ?_;rintro e w ⟨rfl,rfl⟩) | (go_at_call 117;refine(C1.out _ hmx).mono ?_;rintro e w1 ⟨rfl,hb⟩))
     all_goals go_ret
     all_goals exact⟨rfl,hb⟩
 · rw[g]at hm
   rw[hm];clear hm
   go_enter Tryz.func86,Tryz.ntmps86
   go_wp2
   go_ret
   exact⟨rfl,zB _ _⟩
theorem path_hid (s:ByteArray)(b:Bool)(h:fI s.data.toList=b)(hs:s.size<=1000000):Hid (∀ W,aQ W->Calls Tryz.prog 86 #[.string s] W fun e w'=>e=.returned (.bool b)/\Below W.heap.size W w') :=
 zH fun W hm=>by rw[<- h];exact path_any s hs W hm
end Go.Proofs.YthnogdodlhkldaaGreatDoor
namespace Go.Proofs.YthnogdodlhkldaaGreatDoor
open Go.RowKit Go.Lib
theorem lO (x:Nat)(b:Bool)(h:Lib.validRune (x:Int)=b):Hid (∀ W,Calls Tryz.prog 266 #[.int .i32 (x:Int)] W fun e w'=>e=.returned (.bool b)/\w'=W):=zH fun W=>by
 rw[<- h];exact Tryz.utf8_ValidRune (x:Int) W
theorem enc_of (x:Nat)(h1:128<=x)(hv:Lib.validRune (x:Int)=true):∃ E:ByteArray,2<=E.size/\E.size<=4/\(∀ h:E.size - 1<E.size,128<=(E[E.size - 1]'h).toNat)/\∀ W,(convert 21 9 (.int .i32 (x:Int))).run Tryz.prog W=.ok (.string E) W:=by
 have hvv:Utf8.valid (x:Int)=true:=by
  unfold Lib.validRune at hv;unfold Utf8.valid;simp at hv ⊢;omega
 obtain⟨e1,e2,e3⟩:=encode_facts (x:Int) hvv (by omega);exact⟨_,e1,e2,e3,fun W=>run_convert_int_string W 21 9 .i32 (x:Int) (by rw[Tryz.underlying21];rfl) Tryz.underlying9⟩
theorem bF8 (cs:List UInt8)(p:UInt8->Bool)(hp:∀ b,cs.contains b=p b)(l:List UInt8):(Lib.indexAny l cs = -1/\upto p l=l/\dD p l=[])\/∃ k:Nat,k<l.length/\Lib.indexAny l cs=k/\upto p l=l.take k/\dD p l=l.drop k:=by
 induction l with
 | nil=>exact .inl ⟨rfl,rfl,rfl⟩
 | cons b l ih =>
   unfold Lib.indexAny;rw[hp b]
   cases hb:p b
   · have e1:upto p (b :: l)=b :: upto p l:=by unfold upto;rw[List.takeWhile_cons,hb];rfl
     have e2:dD p (b :: l)=dD p l:=by unfold dD;rw[List.dropWhile_cons,hb];rfl
     rw[e1,e2];rcases ih with ⟨h1,h2,h3⟩ | ⟨k,h0,h1,h2,h3⟩
     · refine .inl ⟨?_,by rw[h2],h3⟩
       rw[h1];rfl
     · refine .inr ⟨k+1,by simp;omega,?_,by rw[h2];rfl,by rw[h3];rfl⟩
       rw[h1];simp only[Bool.false_eq_true,if_false];rw[if_neg (by simp)];rfl
   · refine .inr ⟨0,by simp,by simp,?_,?_⟩
     · unfold upto;rw[List.takeWhile_cons,hb];rfl
     · unfold dD;rw[List.dropWhile_cons,hb];rfl
end Go.Proofs.YthnogdodlhkldaaGreatDoor
