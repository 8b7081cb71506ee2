/- Rows of sources; rows that are too big to be looked at: the document's. One step, four bytes, the document's mark. The Maker: what it keeps; New, reckoned, Count, Mark, Add. Add: what stands behind what was added. Rows of texts: Big, Own, Join, Texts; the program's Of. -/
import Derived.Test.YthnogdodlhkldaaGreatDoorSrcZ
import Derived.WalkKit
import Derived.WalkSpells
import Derived.WalkLawsBesides
import Derived.BigQuiet
import Derived.Deep.QuietTactic
import Derived.Outline
import Derived.Lib.SlBytesRow
import Derived.Lib.SlBytesConst
import Derived.Lib.ConvBytes
import Derived.Lib.SmallJoins
import Derived.Lib.Hide
import Derived.OwnWalk
set_option maxRecDepth 100000
set_option maxHeartbeats 1000000
namespace Go.Proofs.YthnogdodlhkldaaGreatDoor
open Go.RowKit
def rI (a:bI):List Value:=[.int .i64 a.k,dA a.t,dA a.s,dA a.h,.bool a.w,.int .i64 a.p,dA a.pa]
def eJ (L:List bI):List Value:=L.flatMap rI
theorem lP (t:ByteArray):dA t.data.toList=.string t:=by unfold dA;exact congrArg Value.string (aM rfl).symm
theorem jR (k:Int)(t s h:ByteArray)(b:Bool)(p:Int)(pa:ByteArray):rI (aJ k t s h b p pa)=[.int .i64 k,.string t,.string s,.string h,.bool b,.int .i64 p,.string pa]:=by
 unfold rI aJ;simp only[lP]
theorem oN (L:List bI):(eJ L).length=L.length * 7:=by
 unfold eJ
 induction L with
 | nil=>rfl
 | cons a L ih=>rw[List.flatMap_cons,List.length_append,ih,List.length_cons];simp[rI];omega
theorem rH (L:List bI)(a:bI):eJ (L++[a])=eJ L++rI a:=by unfold eJ;rw[List.flatMap_append];simp
theorem yT (L:List bI)(i j:Nat)(hi:i<L.length)(hj:j<7):(eJ L)[i * 7+j]? = (rI L[i])[j]? :=by
 induction L generalizing i with
 | nil=>cases hi
 | cons a L ih =>
   have hl:(rI a).length=7:=rfl
   cases i with
   | zero =>
     unfold eJ;rw[List.flatMap_cons,List.getElem?_append_left (by omega)];simp
   | succ i =>
     unfold eJ;rw[List.flatMap_cons,List.getElem?_append_right (by omega),hl,show(i+1) * 7+j - 7=i * 7+j by omega];have:=ih i (by simpa using hi)
     simpa [eJ] using this
def aK (w:World)(v:Value)(L:List bI):Prop :=
 ((∃ a c,v=.slice a 0 c)/\L=[])\/∃ B off cap,v=.slice (some ⟨B,off,none⟩) L.length cap/\∀ i,(h:i<L.length)->∀ j u,(rI L[i])[j]? = some u->w.cell? ⟨B,off+i * 7+j,none⟩=some u
theorem aK.below {w w':World}{v:Value}{L:List bI}(h:aK w v L)(hb:Below w.heap.size w w'):aK w' v L:=by
 rcases h with h | ⟨B,off,cap,h1,h2⟩
 · exact .inl h
 · exact .inr ⟨B,off,cap,h1,fun i hi j u hu=>by rw[hb.cell (aH (h2 i hi j u hu))];exact h2 i hi j u hu⟩
theorem aK.form {w:World}{v:Value}{L:List bI}(h:aK w v L):∃ a c,v=.slice a L.length c:=by
 rcases h with ⟨⟨a,c,rfl⟩,rfl⟩ | ⟨B,off,cap,rfl,_⟩
 · exact⟨_,_,rfl⟩
 · exact⟨_,_,rfl⟩
theorem aK.of_row {w:World}{base:Nat}{v:Value}{L:List bI}(h:w.ownsRow base 75 7 v L.length (eJ L)):aK w v L:=by
 rcases bS h with ⟨h1,h2⟩ | ⟨g,cap,rfl⟩
 · exact .inl ⟨⟨_,_,h1⟩,List.length_eq_zero_iff.1 h2⟩
 · refine .inr ⟨g,0,cap,rfl,fun i hi j u hu => ?_⟩
   have hj:j<7:=by
    have:=(List.getElem?_eq_some_iff.1 hu).1;exact this
   have hl:=oN L;rw[Nat.zero_add,h.cellAt (i * 7+j) (by omega),yT L i j hi hj,hu]
theorem sO (w:World)(c:List Value)(t:TypeId):∀ j u,c[j]? = some u->(w.alloc (.cells c.toArray t)).cell? ((⟨w.heap.size,0,none⟩:Addr).add j)=some u:=by
 intro j u hj;have e:(⟨w.heap.size,0,none⟩:Addr).add j=⟨w.heap.size,j,none⟩:=by simp[Addr.add];omega
 rw[e,World.cell?_alloc_mark,<- hj];simp
theorem aK.at {w:World}{a:Option Addr}{n c:Nat}{L:List bI}(h:aK w (.slice a n c) L){k:Nat}(hk:k<L.length):∃ B off,a=some ⟨B,off,none⟩/\∀ j u,(rI L[k])[j]? = some u->w.cell? ⟨B,off+k * 7+j,none⟩=some u:=by
 rcases h with ⟨_,h2⟩ | ⟨B,off,cap,h1,h2⟩
 · rw[h2]at hk;cases hk
 · cases h1
   exact⟨B,off,rfl,h2 k hk⟩
end Go.Proofs.YthnogdodlhkldaaGreatDoor
namespace Go.Proofs.YthnogdodlhkldaaGreatDoor
open Go.RowKit
theorem step_257 (n:Nat)(b:UInt8)(w:World)(hn:n<=1000000006) :
 Calls Tryz.prog 83 #[.int .u64 (n:Int),.int .u64 257,.int .u8 (b.toNat:Int)] w fun e w'=>e=.returned (.int .u64 (nD 257 n b:Nat))/\w=w':=by
 have hb:b.toNat<=255:=by have:=b.toNat_lt;omega
 have hs:(nD 257 n b:Int)=((n:Int) * 257+(b.toNat:Int)+1) % 1000000007:=by unfold nD;omega
 generalize nD 257 n b=r at *;generalize b.toNat=c at *;have HS:=zH hs;clear hs
 go_enter Tryz.func83,Tryz.ntmps83
 go_wp2
 go_ret
 exact⟨cV HS.out.symm,rfl⟩
theorem aH3 (n:Nat)(b:UInt8)(w:World)(hn:n<=1000000006) :
 Calls Tryz.prog 83 #[.int .u64 (n:Int),.int .u64 65539,.int .u8 (b.toNat:Int)] w fun e w'=>e=.returned (.int .u64 (nD 65539 n b:Nat))/\w=w':=by
 have hb:b.toNat<=255:=by have:=b.toNat_lt;omega
 have hs:(nD 65539 n b:Int)=((n:Int) * 65539+(b.toNat:Int)+1) % 1000000007:=by unfold nD;omega
 generalize nD 65539 n b=r at *;generalize b.toNat=c at *;have HS:=zH hs;clear hs
 go_enter Tryz.func83,Tryz.ntmps83
 go_wp2
 go_ret
 exact⟨cV HS.out.symm,rfl⟩
theorem bH7 (w:World)(zs:List Int)(l:List UInt8)(n:Nat)(hn:n=l.length)(hl:l.map (fun b=>(b.toNat:Int))=zs)(c:Nat)(C:Array Value)(hC:C=(zs.map (Value.int .u8)).toArray) :
 (convert 85 9 (.slice (some ⟨w.heap.size,0,none⟩) n c)).run Tryz.prog (w.alloc (.cells C 5))=.ok (.string ⟨l.toArray⟩) (w.alloc (.cells C 5)):=by
 subst hn;refine run_convert_bytes_back (P:=Tryz.prog) _ 85 9 5 ⟨w.heap.size,0,none⟩ c l Tryz.underlying85 Tryz.underlying5 Tryz.underlying9 (fun j hj => ?_);have e:(⟨w.heap.size,0,none⟩:Addr).add j=⟨w.heap.size,j,none⟩:=by simp[Addr.add];omega
 rw[e,World.cell?_alloc_mark,hC,<- hl];simp[List.getElem?_eq_getElem hj]
theorem vA (n:Nat)(hn:n<=1000000006):(gJ n).map (fun b=>(b.toNat:Int))=[(n:Int) / 16777216,(n:Int) / 65536 % 256,(n:Int) / 256 % 256,(n:Int) % 256]:=by
 simp only[gJ,List.map_cons,List.map_nil,List.cons.injEq,and_true,Nat.toUInt8_eq,UInt8.toNat_ofNat'];omega
theorem four_any (n:Nat)(w:World)(hn:n<=1000000006) :
 Calls Tryz.prog 158 #[.int .i64 (n:Int)] w fun e w'=>e=.returned (.string ⟨(gJ n).toArray⟩)/\Below w.heap.size w w':=by
 have hc:=bH7 w [(n:Int) / 16777216,(n:Int) / 65536 % 256,(n:Int) / 256 % 256,(n:Int) % 256] (gJ n) 4 rfl (vA n hn) 4 #[.int .u8 ((n:Int) / 16777216),.int .u8 ((n:Int) / 65536 % 256),.int .u8 ((n:Int) / 256 % 256),.int .u8 ((n:Int) % 256)] rfl
 go_enter Tryz.func158,Tryz.ntmps158
 go_wp2
 go_ret
 exact⟨rfl,(zB _ _).alloc (zL _) _⟩
theorem qS (n:Nat)(T:ByteArray)(hT:T.data.toList=gJ n)(hn:n<=1000000006):Hid (∀ W,Calls Tryz.prog 158 #[.int .i64 (n:Int)] W fun e w'=>e=.returned (.string T)/\Below W.heap.size W w') :=
 zH fun W=>by
  have e:(⟨(gJ n).toArray⟩:ByteArray)=T:=by
   apply ByteArray.ext
   apply Array.toList_inj.1
   rw[hT]
  rw[<- e];exact four_any n W hn
theorem bB0 (s:ByteArray)(w:World)(hs:s.size<=1099511627776) :
 Calls Tryz.prog 110 #[.string s] w fun e w'=>e=.returned (.string ⟨(fR s.data.toList).toArray⟩)/\Below w.heap.size w w':=by
 go_enter Tryz.func110,Tryz.ntmps110
 go_wp2
 go_loop [3,4,5] (fun x y i=>∃ k a b:Nat,k<=s.size/\i=.int .i64 k/\x=.int .i64 a/\y=.int .i64 b/\a<=1000000006/\b<=1000000006/\Hid (a=rx (s.data.toList.take k)/\b=ry (s.data.toList.take k))) (fun _ _ i=>s.size - (intOf i).toNat)
 case atStart=>exact⟨0,7,11,Nat.zero_le _,rfl,rfl,rfl,by decide,by decide,⟨rfl,rfl⟩⟩
 case round =>
  obtain⟨k,a,b,hk,rfl,rfl,rfl,ha,hb,HR⟩:=hrel
  by_cases hlt:k<s.size
  · have hsn:=fV hlt
    have HX:Hid (nD 257 a s[k]=rx (s.data.toList.take (k+1))/\nD 65539 b s[k]=ry (s.data.toList.take (k+1))):=zH (by
     rw[hsn,aT3,aT2,<- HR.out.1,<- HR.out.2];exact⟨rfl,rfl⟩)
    have hx:Hid ((nD 257 a s[k]:Int)=((a:Int) * 257+(s[k].toNat:Int)+1) % 1000000007):=zH (by unfold nD;omega);have hy:Hid ((nD 65539 b s[k]:Int)=((b:Int) * 65539+(s[k].toNat:Int)+1) % 1000000007):=zH (by unfold nD;omega);have hx2:=rD 257 a s[k];have hy2:=rD 65539 b s[k];have hb8:s[k].toNat<=255:=by have:=s[k].toNat_lt;omega
    clear hsn
    go_wp2
    go_round
    case rel=>exact⟨k+1,nD 257 a s[k],nD 65539 b s[k],by omega,by go_num,by rw[hx.out],by rw[hy.out],hx2,hy2,HX⟩
    case measure=>simp[intOf];omega
  · obtain rfl:k=s.size:=by omega
    have h1:a=rx s.data.toList:=by rw[HR.out.1,List.take_of_length_le (by simp)]
    have h2:b=ry s.data.toList:=by rw[HR.out.2,List.take_of_length_le (by simp)]
    have hm:=mul_lt a b ha hb;have hmz:(a:Int) * (b:Int)<=1000000012000000036:=by rw[<- Int.natCast_mul];omega
    have hmz0:0<=(a:Int) * (b:Int):=by rw[<- Int.natCast_mul];omega
    have hpr:((a * b % 1000000007:Nat):Int)=(a:Int) * (b:Int) % 1000000007:=by rw[<- Int.natCast_mul];omega
    have hln:((s.size % 1000000007:Nat):Int)=(s.size:Int) % 1000000007:=by omega
    obtain⟨T1,hT1⟩:=aO (gJ a);obtain⟨T2,hT2⟩:=aO (gJ b);obtain⟨T3,hT3⟩:=aO (gJ (a * b % 1000000007));obtain⟨T4,hT4⟩:=aO (gJ (s.size % 1000000007));obtain⟨R1,hR1⟩:=aO (T1.data.toList++T2.data.toList);obtain⟨R2,hR2⟩:=aO (R1.data.toList++T3.data.toList);obtain⟨R3,hR3⟩:=aO (R2.data.toList++T4.data.toList)
    have HF:Hid (R3=⟨(fR s.data.toList).toArray⟩):=zH (by
     apply aM
     rw[hR3,hR2,hR1,hT1,hT2,hT3,hT4,h1,h2];unfold fR
     rw[aE])
    have z1:T1.size=4:=by rw[<- aE,hT1];rfl
    have z2:T2.size=4:=by rw[<- aE,hT2];rfl
    have z3:T3.size=4:=by rw[<- aE,hT3];rfl
    have z4:T4.size=4:=by rw[<- aE,hT4];rfl
    have y1:R1.size=8:=by rw[<- aE,hR1,List.length_append,aE,aE,z1,z2]
    have y2:R2.size=12:=by rw[<- aE,hR2,List.length_append,aE,aE,y1,z3]
    have a1:=dG T1 T2 R1 hR1 (by omega);have a2:=dG R1 T3 R2 hR2 (by omega);have a3:=dG R2 T4 R3 hR3 (by omega);have C1:=qS a T1 hT1 ha;have C2:=qS b T2 hT2 hb;have C3:=qS _ T3 hT3 (by omega);have C4:=qS _ T4 hT4 (by omega);rw[hpr]at C3;rw[hln]at C4;clear hT1 hT2 hT3 hT4 hR1 hR2 hR3 z1 z2 z3 z4 y1 y2 h1 h2 hpr hln HR hm
    go_wp2_with fail
    refine(C1.out _).mono ?_;rintro e w1 ⟨rfl,B1⟩
    go_wp2_with fail
    refine(C2.out _).mono ?_;rintro e w2 ⟨rfl,b2⟩;have B2:=B1.trans (b2.mono B1.size);clear b2
    go_wp2_with fail
    refine(C3.out _).mono ?_;rintro e w3 ⟨rfl,b3⟩;have B3:=B2.trans (b3.mono B2.size);clear b3
    go_wp2_with fail
    refine(C4.out _).mono ?_;rintro e w4 ⟨rfl,b4⟩;have B4:=B3.trans (b4.mono B3.size);clear b4
    go_wp2
    go_ret
    exact⟨congrArg (fun x=>Ending.returned (Value.string x)) HF.out,B4⟩
end Go.Proofs.YthnogdodlhkldaaGreatDoor
namespace Go.Proofs.YthnogdodlhkldaaGreatDoor
open Go.RowKit
structure AsideM (p:Prop):Prop where
 out:p
def mU (w:World)(R:Nat)(l:List UInt8):Prop:=∃ a b:Nat,w.heap[R]? = some (.cells #[.int .u64 (a:Int),.int .u64 (b:Int),.int .i64 (l.length:Int)] 124 (0,0))/\(l≠[]->a=rx l/\b=ry l)
theorem mU.lt {w:World}{R:Nat}{l:List UInt8}(h:mU w R l):R<w.heap.size:=by
 obtain⟨a,b,h,_⟩:=h;exact aD h
theorem mU.below {w w':World}{R:Nat}{l:List UInt8}(h:mU w R l)(hb:Below w.heap.size w w'):mU w' R l:=by
 have hl:=h.lt;obtain⟨a,b,h,h2⟩:=h;exact⟨a,b,by rw[hb.block R hl];exact h,h2⟩
theorem newM_any (w:World):Calls Tryz.prog 54 #[] w fun e w'=>e=.returned (.pointer (some ⟨w.heap.size,0,none⟩))/\mU w' w.heap.size []/\Below w.heap.size w w':=by
 go_enter Tryz.func54,Tryz.ntmps54
 go_wp2
 go_ret
 exact⟨rfl,⟨0,0,aW _ _,fun h=>absurd rfl h⟩,(zB _ _).alloc (zL _) _⟩
theorem wT (R:Nat)(l:List UInt8)(w:World)(hR:mU w R l):Calls Tryz.prog 82 #[.pointer (some ⟨R,0,none⟩)] w fun e w'=>e=.returned (.agg #[.int .u64 (rx l:Nat),.int .u64 (ry l:Nat)])/\Below w.heap.size w w':=by
 have hlt:=hR.lt;obtain⟨a,b,hc,hab⟩:=hR;have c0:=aG hc 0;have c1:=aG hc 1;have c2:=aG hc 2;simp only[List.getElem?_toArray,List.getElem?_cons_zero,List.getElem?_cons_succ]at c0 c1 c2;have hne:R≠w.heap.size:=by omega
 by_cases hl:l=[]
 · subst hl
   clear hab hc
   go_enter Tryz.func82,Tryz.ntmps82
   go_wp2
   exact bodyPost_ret (v := .agg #[.int .u64 7,.int .u64 11]) (by simp[results,Tryz.results82,go_sem]) rfl ⟨rfl,(zB _ _).alloc (zL _) _⟩
 · obtain⟨rfl,rfl⟩:=hab hl
   have hz:((l.length:Int)==0)=false:=by simpa using hl
   clear hab hc hl
   go_enter Tryz.func82,Tryz.ntmps82
   go_wp2
   exact bodyPost_ret (v := .agg #[.int .u64 (rx l:Nat),.int .u64 (ry l:Nat)]) (by simp[results,Tryz.results82,go_sem]) rfl ⟨rfl,(zB _ _).alloc (zL _) _⟩
def fH (x y n k:Nat):List UInt8:=(([x,y,x * y % 1000000007,n % 1000000007].take k).map gJ).flatten
theorem idx0 (a b c d:Int)(w:World):(Instr.index 127 (.agg #[.int .u64 a,.int .u64 b,.int .u64 c,.int .u64 d]) (.int .i64 0)).run Tryz.prog w=.ok (.int .u64 a) w:=by kernel_rfl
theorem idx1 (a b c d:Int)(w:World):(Instr.index 127 (.agg #[.int .u64 a,.int .u64 b,.int .u64 c,.int .u64 d]) (.int .i64 1)).run Tryz.prog w=.ok (.int .u64 b) w:=by kernel_rfl
theorem idx2 (a b c d:Int)(w:World):(Instr.index 127 (.agg #[.int .u64 a,.int .u64 b,.int .u64 c,.int .u64 d]) (.int .i64 2)).run Tryz.prog w=.ok (.int .u64 c) w:=by kernel_rfl
theorem idx3 (a b c d:Int)(w:World):(Instr.index 127 (.agg #[.int .u64 a,.int .u64 b,.int .u64 c,.int .u64 d]) (.int .i64 3)).run Tryz.prog w=.ok (.int .u64 d) w:=by kernel_rfl
theorem bH6 {w:World}{base:Nat}{v:Value}{n:Nat}{l:List UInt8}(h:w.ownsRow base 5 1 v n (Lib.byteCells l)) :
 (convert 85 9 v).run Tryz.prog w=.ok (.string ⟨l.toArray⟩) w:=by
 have hl:l.length=n:=by have:=h.1;simpa [Lib.byteCells_length] using this
 rcases bS h with ⟨rfl,h2⟩ | ⟨g,cap,rfl⟩
 · have e:l=[]:=List.length_eq_zero_iff.1 (by omega)
   rw[e];exact run_convert_bytes_nil (P:=Tryz.prog) w 85 5 Tryz.underlying85 Tryz.underlying5 0 0 9 Tryz.underlying9
 · subst hl
   refine run_convert_bytes_back (P:=Tryz.prog) w 85 9 5 ⟨g,0,none⟩ cap l Tryz.underlying85 Tryz.underlying5 Tryz.underlying9 (fun j hj => ?_);have e:(⟨g,0,none⟩:Addr).add j=⟨g,j,none⟩:=by simp[Addr.add];omega
   rw[e,h.cellAt j (by omega)];simp[Lib.byteCells,List.getElem?_eq_getElem hj]
theorem aJ0 (x y n k z:Nat)(h:[x,y,x * y % 1000000007,n % 1000000007][k]? = some z):fH x y n (k+1)=fH x y n k++gJ z:=by
 unfold fH;rw[List.take_add_one,h];simp
theorem oB (a b:List UInt8):Lib.byteCells (a++b)=Lib.byteCells a++Lib.byteCells b:=by simp[Lib.byteCells]
theorem sP (n:Nat)(hn:n<=1000000006)(z:Int)(hz:(n:Int)=z):Lib.byteCells (gJ n)=[.int .u8 (z / 16777216),.int .u8 (z / 65536 % 256),.int .u8 (z / 256 % 256),.int .u8 (z % 256)]:=by
 subst hz;have h:=congrArg (List.map (Value.int .u8)) (vA n hn);rw[List.map_map]at h;exact h
theorem nG {x y n z:Nat} (k:Nat) (hz:z<=1000000006) (h:[x,y,x * y % 1000000007,n % 1000000007][k]? = some z) {zi:Int} (hzi:(z:Int)=zi) {W:World} {b:Nat} {v:Value}
 (ho:W.ownsRow b 5 1 v (4 * k+4) (Lib.byteCells (fH x y n k)++[.int .u8 (zi / 16777216),.int .u8 (zi / 65536 % 256),.int .u8 (zi / 256 % 256),.int .u8 (zi % 256)])):W.ownsRow b 5 1 v (4 * (k+1)) (Lib.byteCells (fH x y n (k+1))):=by
 rw[aJ0 x y n k z h,oB,sP z hz zi hzi];exact ho
theorem nT (w:World)(a b c d:Value)(j:Nat)(u:Value)(h:[a,b,c,d][j]? = some u):(w.alloc (.cells #[a,b,c,d] 5)).cell? ((⟨w.heap.size,0,none⟩:Addr).add j)=some u:=by
 have e:(⟨w.heap.size,0,none⟩:Addr).add j=⟨w.heap.size,j,none⟩:=by simp[Addr.add];omega
 rw[e,World.cell?_alloc_mark,<- h];simp
theorem aT5 (R:Nat)(l:List UInt8):Hid (∀ W,mU W R l->Calls Tryz.prog 82 #[.pointer (some ⟨R,0,none⟩)] W fun e w'=>e=.returned (.agg #[.int .u64 (rx l:Nat),.int .u64 (ry l:Nat)])/\Below W.heap.size W w') :=
 zH fun W h=>wT R l W h
theorem bE2 (R:Nat)(l:List UInt8)(w:World)(hR:mU w R l)(hl:l.length<=1099511627776):Calls Tryz.prog 56 #[.pointer (some ⟨R,0,none⟩)] w fun e w'=>e=.returned (.string ⟨(fR l).toArray⟩)/\Below w.heap.size w w':=by
 have hlt:=hR.lt;have hx:=rx_lt l;have hy:=ry_lt l;have HR:=zH hR;have H1:=aT5 R l;clear hR;generalize hX:rx l=x at *;generalize hY:ry l=y at *;have HX:=zH hX;have HY:=zH hY;clear hX hY
 go_enter Tryz.func56,Tryz.ntmps56
 go_wp2_with fail
 refine(H1.out _ HR.out).mono ?_;rintro e w1 ⟨rfl,B1⟩
 have hc2:w1.cell? ⟨R,2,none⟩=some (.int .i64 (l.length:Int)):=by
  obtain⟨a,b,hc,_⟩:=HR.out.below B1;exact aG hc 2
 have hlt1:R<w1.heap.size:=by have:=B1.size;omega
 have hm:=mul_lt x y hx hy;have hmz:(x:Int) * (y:Int)<=1000000012000000036:=by rw[<- Int.natCast_mul];omega
 have hmz0:0<=(x:Int) * (y:Int):=by rw[<- Int.natCast_mul];omega
 have hne1:R≠w1.heap.size:=by omega
 have hne2:R≠w1.heap.size+1:=by omega
 go_wp2
 go_quiet (fail)
 have hc3:((w1.alloc (.cells #[.int .u64 (x:Int),.int .u64 (y:Int)] 122)).drewN nq).cell? ⟨R,2,none⟩=some (.int .i64 (l.length:Int)):=by
  show(w1.alloc (.cells #[.int .u64 (x:Int),.int .u64 (y:Int)] 122)).cell? ⟨R,2,none⟩=_;rw[World.cell?_alloc_lt _ _ _ hlt1];exact hc2
 have B2:Below w.heap.size w ((w1.alloc (.cells #[.int .u64 (x:Int),.int .u64 (y:Int)] 122)).drewN nq):=cL (B1.alloc B1.size _) nq;generalize(w1.alloc (.cells #[.int .u64 (x:Int),.int .u64 (y:Int)] 122)).drewN nq=w2 at *;obtain⟨i0,hi,hz0,hz1,hz2⟩:=info_parts yC;obtain⟨W3,hmk,hown,hgr⟩:=run_make_own (P:=Tryz.prog) w2 w.heap.size 85 5 i0 _ 1 Tryz.underlying85 hi hz0 hz1 .i64 .i64 16 (by rw[hz2];decide) (by unfold maxLen;decide) B2.size;have hmk2:(Instr.makeSlice 85 (.int .i64 0) (.int .i64 16)).run Tryz.prog w2=.ok (.slice (some ⟨w2.heap.size,0,none⟩) 0 16) W3:=hmk;have B3:Below w.heap.size w W3:=B2.grown hgr B2.size (fun k hk=>by cases hk)
 have hc4:W3.cell? ⟨R,2,none⟩=some (.int .i64 (l.length:Int)):=by
  rw[(Below.grown (zB w2.heap.size w2) hgr (zL _) (fun k hk=>by cases hk)).cell (aH hc3)];exact hc3
 generalize hv:(Value.slice (some ⟨w2.heap.size,0,none⟩) 0 16)=v0 at hmk2 hown;have HV:=zH hv;clear hmk hc3 hc2 B2 B1 hgr hv hlt hlt1 hne1 hne2
 go_wp2
 go_loopw [6,31] (fun v i wr=>∃ k:Nat,k<=4/\i=.int .i64 k/\wr.ownsRow w.heap.size 5 1 v (4 * k) (Lib.byteCells (fH x y l.length k))/\Below w.heap.size w wr) (fun _ i _=>4 - (intOf i).toNat)
 case atStart=>exact⟨0,by decide,rfl,hown,B3⟩
 case round =>
  obtain⟨k,hk,rfl,hown,hb⟩:=hrel;have hend:=bH6 (w:=wr) (base:=w.heap.size) (v:=u6) (n:=16) (l:=fH x y l.length 4);have HEND:=zH hend;clear hend;obtain rfl | rfl | rfl | rfl | rfl:k=0\/k=1\/k=2\/k=3\/k=4:=by omega
  · have ix:=fun c d=>idx0 x y c d
    have HA:Hid (∀(v':Value) (W:World),W.ownsRow w.heap.size 5 1 v' (4 * 0+4) (Lib.byteCells (fH x y l.length 0)++[.int .u8 ((x:Int) / 16777216),.int .u8 ((x:Int) / 65536 % 256),.int .u8 ((x:Int) / 256 % 256),.int .u8 ((x:Int) % 256)])->W.ownsRow w.heap.size 5 1 v' (4 * 1) (Lib.byteCells (fH x y l.length 1))):=zH fun v' W h=>nG (z:=x) 0 (by exact hx) rfl rfl h;clear HEND
    go_wp2_with (at_builtin;refine wpList_append_own _ rfl _ _ 85 rfl w.heap.size 5 i0 (.int .u8 0) 1 1 Tryz.underlying85 hi hz0 hz1 hz2 rfl (by decide) _ _ _ rfl (hown.alloc _) ⟨wr.heap.size,0,none⟩ 4 4 [.int .u8 ((x:Int) / 16777216),.int .u8 ((x:Int) / 65536 % 256),.int .u8 ((x:Int) / 256 % 256),.int .u8 ((x:Int) % 256)] rfl rfl (fun j u hj=>nT _ _ _ _ _ j u hj) (fun u hu=>by simp at hu;rcases hu with rfl | rfl | rfl | rfl<;>rfl) (by unfold maxLen;omega) (by omega) (by have:=hb.size;simp;omega) ?_;intro v' w5 hown' hgrow5 hnil5
                 have hb5:Below w.heap.size w w5:=Below.grown (hb.alloc hb.size _) hgrow5 (by have:=hb.size;simp;omega) (fun j hj=>by have:=(hown.lt _ hj).1;omega);have X:AsideM (w5.ownsRow w.heap.size 5 1 v' (4 * 0+4) (Lib.byteCells (fH x y l.length 0)++[.int .u8 ((x:Int) / 16777216),.int .u8 ((x:Int) / 65536 % 256),.int .u8 ((x:Int) / 256 % 256),.int .u8 ((x:Int) % 256)])/\Below w.heap.size w w5):=⟨hown',hb5⟩
                 clear hown' hgrow5 hnil5)
    go_roundw
    case rel=>exact⟨1,by decide,rfl,HA.out _ _ X.out.1,X.out.2⟩
    case measure=>decide
  · have ix:=fun c d=>idx1 x y c d
    have HA:Hid (∀(v':Value) (W:World),W.ownsRow w.heap.size 5 1 v' (4 * 1+4) (Lib.byteCells (fH x y l.length 1)++[.int .u8 ((y:Int) / 16777216),.int .u8 ((y:Int) / 65536 % 256),.int .u8 ((y:Int) / 256 % 256),.int .u8 ((y:Int) % 256)])->W.ownsRow w.heap.size 5 1 v' (4 * 2) (Lib.byteCells (fH x y l.length 2))):=zH fun v' W h=>nG (z:=y) 1 (by exact hy) rfl rfl h;clear HEND
    go_wp2_with (at_builtin;refine wpList_append_own _ rfl _ _ 85 rfl w.heap.size 5 i0 (.int .u8 0) 1 1 Tryz.underlying85 hi hz0 hz1 hz2 rfl (by decide) _ _ _ rfl (hown.alloc _) ⟨wr.heap.size,0,none⟩ 4 4 [.int .u8 ((y:Int) / 16777216),.int .u8 ((y:Int) / 65536 % 256),.int .u8 ((y:Int) / 256 % 256),.int .u8 ((y:Int) % 256)] rfl rfl (fun j u hj=>nT _ _ _ _ _ j u hj) (fun u hu=>by simp at hu;rcases hu with rfl | rfl | rfl | rfl<;>rfl) (by unfold maxLen;omega) (by omega) (by have:=hb.size;simp;omega) ?_;intro v' w5 hown' hgrow5 hnil5
                 have hb5:Below w.heap.size w w5:=Below.grown (hb.alloc hb.size _) hgrow5 (by have:=hb.size;simp;omega) (fun j hj=>by have:=(hown.lt _ hj).1;omega);have X:AsideM (w5.ownsRow w.heap.size 5 1 v' (4 * 1+4) (Lib.byteCells (fH x y l.length 1)++[.int .u8 ((y:Int) / 16777216),.int .u8 ((y:Int) / 65536 % 256),.int .u8 ((y:Int) / 256 % 256),.int .u8 ((y:Int) % 256)])/\Below w.heap.size w w5):=⟨hown',hb5⟩
                 clear hown' hgrow5 hnil5)
    go_roundw
    case rel=>exact⟨2,by decide,rfl,HA.out _ _ X.out.1,X.out.2⟩
    case measure=>decide
  · have ix:=fun c d=>idx2 x y c d
    have HA:Hid (∀(v':Value) (W:World),W.ownsRow w.heap.size 5 1 v' (4 * 2+4) (Lib.byteCells (fH x y l.length 2)++[.int .u8 (((x:Int) * (y:Int) % 1000000007) / 16777216),.int .u8 (((x:Int) * (y:Int) % 1000000007) / 65536 % 256),.int .u8 (((x:Int) * (y:Int) % 1000000007) / 256 % 256),.int .u8 (((x:Int) * (y:Int) % 1000000007) % 256)])->W.ownsRow w.heap.size 5 1 v' (4 * 3) (Lib.byteCells (fH x y l.length 3))):=zH fun v' W h=>nG (z:=(x * y % 1000000007)) 2 (by omega) rfl (by rw[Int.natCast_emod,Int.natCast_mul];rfl) h;clear HEND
    go_wp2_with (at_builtin;refine wpList_append_own _ rfl _ _ 85 rfl w.heap.size 5 i0 (.int .u8 0) 1 1 Tryz.underlying85 hi hz0 hz1 hz2 rfl (by decide) _ _ _ rfl (hown.alloc _) ⟨wr.heap.size,0,none⟩ 4 4 [.int .u8 (((x:Int) * (y:Int) % 1000000007) / 16777216),.int .u8 (((x:Int) * (y:Int) % 1000000007) / 65536 % 256),.int .u8 (((x:Int) * (y:Int) % 1000000007) / 256 % 256),.int .u8 (((x:Int) * (y:Int) % 1000000007) % 256)] rfl rfl (fun j u hj=>nT _ _ _ _ _ j u hj) (fun u hu=>by simp at hu;rcases hu with rfl | rfl | rfl | rfl<;>rfl) (by unfold maxLen;omega) (by omega) (by have:=hb.size;simp;omega) ?_;intro v' w5 hown' hgrow5 hnil5
                 have hb5:Below w.heap.size w w5:=Below.grown (hb.alloc hb.size _) hgrow5 (by have:=hb.size;simp;omega) (fun j hj=>by have:=(hown.lt _ hj).1;omega);have X:AsideM (w5.ownsRow w.heap.size 5 1 v' (4 * 2+4) (Lib.byteCells (fH x y l.length 2)++[.int .u8 (((x:Int) * (y:Int) % 1000000007) / 16777216),.int .u8 (((x:Int) * (y:Int) % 1000000007) / 65536 % 256),.int .u8 (((x:Int) * (y:Int) % 1000000007) / 256 % 256),.int .u8 (((x:Int) * (y:Int) % 1000000007) % 256)])/\Below w.heap.size w w5):=⟨hown',hb5⟩
                 clear hown' hgrow5 hnil5)
    go_roundw
    case rel=>exact⟨3,by decide,rfl,HA.out _ _ X.out.1,X.out.2⟩
    case measure=>decide
  · have ix:=fun c d=>idx3 x y c d
    have HA:Hid (∀(v':Value) (W:World),W.ownsRow w.heap.size 5 1 v' (4 * 3+4) (Lib.byteCells (fH x y l.length 3)++[.int .u8 (((l.length:Int) % 1000000007) / 16777216),.int .u8 (((l.length:Int) % 1000000007) / 65536 % 256),.int .u8 (((l.length:Int) % 1000000007) / 256 % 256),.int .u8 (((l.length:Int) % 1000000007) % 256)])->W.ownsRow w.heap.size 5 1 v' (4 * 4) (Lib.byteCells (fH x y l.length 4))):=zH fun v' W h=>nG (z:=(l.length % 1000000007)) 3 (by omega) rfl (by rw[Int.natCast_emod];rfl) h;clear HEND
    go_wp2_with (at_builtin;refine wpList_append_own _ rfl _ _ 85 rfl w.heap.size 5 i0 (.int .u8 0) 1 1 Tryz.underlying85 hi hz0 hz1 hz2 rfl (by decide) _ _ _ rfl (hown.alloc _) ⟨wr.heap.size,0,none⟩ 4 4 [.int .u8 (((l.length:Int) % 1000000007) / 16777216),.int .u8 (((l.length:Int) % 1000000007) / 65536 % 256),.int .u8 (((l.length:Int) % 1000000007) / 256 % 256),.int .u8 (((l.length:Int) % 1000000007) % 256)] rfl rfl (fun j u hj=>nT _ _ _ _ _ j u hj) (fun u hu=>by simp at hu;rcases hu with rfl | rfl | rfl | rfl<;>rfl) (by unfold maxLen;omega) (by omega) (by have:=hb.size;simp;omega) ?_;intro v' w5 hown' hgrow5 hnil5
                 have hb5:Below w.heap.size w w5:=Below.grown (hb.alloc hb.size _) hgrow5 (by have:=hb.size;simp;omega) (fun j hj=>by have:=(hown.lt _ hj).1;omega);have X:AsideM (w5.ownsRow w.heap.size 5 1 v' (4 * 3+4) (Lib.byteCells (fH x y l.length 3)++[.int .u8 (((l.length:Int) % 1000000007) / 16777216),.int .u8 (((l.length:Int) % 1000000007) / 65536 % 256),.int .u8 (((l.length:Int) % 1000000007) / 256 % 256),.int .u8 (((l.length:Int) % 1000000007) % 256)])/\Below w.heap.size w w5):=⟨hown',hb5⟩
                 clear hown' hgrow5 hnil5)
    go_roundw
    case rel=>exact⟨4,by decide,rfl,HA.out _ _ X.out.1,X.out.2⟩
    case measure=>decide
  · have hc:=HEND.out hown
    have HF:Hid ((⟨(fH x y l.length 4).toArray⟩:ByteArray)=⟨(fR l).toArray⟩):=zH (by rw[<- HX.out,<- HY.out];rfl);clear HEND hown
    go_wp2
    go_ret
    exact⟨congrArg (fun x=>Ending.returned (Value.string x)) HF.out,hb⟩
end Go.Proofs.YthnogdodlhkldaaGreatDoor
namespace Go.Proofs.YthnogdodlhkldaaGreatDoor
open Go.RowKit
theorem vT (n:Nat)(b:UInt8)(r:Nat)(hn:n<=1000000006)(hr:nD 257 n b=r):Hid (∀ W,Calls Tryz.prog 83 #[.int .u64 (n:Int),.int .u64 257,.int .u8 (b.toNat:Int)] W fun e w'=>e=.returned (.int .u64 (r:Int))/\W=w') :=
 zH fun W=>by rw[<- hr];exact step_257 n b W hn
theorem rE (n:Nat)(b:UInt8)(r:Nat)(hn:n<=1000000006)(hr:nD 65539 n b=r):Hid (∀ W,Calls Tryz.prog 83 #[.int .u64 (n:Int),.int .u64 65539,.int .u8 (b.toNat:Int)] W fun e w'=>e=.returned (.int .u64 (r:Int))/\W=w') :=
 zH fun W=>by rw[<- hr];exact aH3 n b W hn
theorem bG5 {s:ByteArray}{k:Nat}(h:k<s.size)(l:List UInt8):l++s.data.toList.take (k+1)=(l++s.data.toList.take k)++[s[k]]:=by
 rw[fV h,List.append_assoc]
theorem addM_any (R B:Nat)(l:List UInt8)(s:ByteArray)(w0 w:World)(hB:Below B w0 w)(hBR:B<=R)(hR:mU w R l)(hl:l.length+s.size<=1099511627776) :
 Calls Tryz.prog 55 #[.pointer (some ⟨R,0,none⟩),.string s] w fun e w'=>e=.returned (.int .i64 0)/\Below B w0 w'/\mU w' R (l++s.data.toList)/\w.heap.size<=w'.heap.size:=by
 have hlt:=hR.lt;have hx0:=rx_lt l;have hy0:=ry_lt l;have HR:=zH hR;have H1:=aT5 R l;clear hR;obtain⟨x0,hX⟩:∃ x,x=rx l:=⟨_,rfl⟩;obtain⟨y0,hY⟩:∃ y,y=ry l:=⟨_,rfl⟩;rw[<- hX,<- hY]at H1;rw[<- hX]at hx0;rw[<- hY]at hy0;have HX:=zH hX;have HY:=zH hY;clear hX hY
 go_enter Tryz.func55,Tryz.ntmps55
 go_wp2_with fail
 refine(H1.out _ HR.out).mono ?_;rintro e w1 ⟨rfl,B1⟩
 go_wp2
 go_quiet (fail)
 have hgr:w.heap.size<=((w1.alloc (.cells #[.int .u64 (x0:Int),.int .u64 (y0:Int)] 122)).drewN nq).heap.size:=by
  show w.heap.size<=(w1.alloc (.cells #[.int .u64 (x0:Int),.int .u64 (y0:Int)] 122)).heap.size;have:=B1.size;simp;omega
 have hb2:Below B w0 ((w1.alloc (.cells #[.int .u64 (x0:Int),.int .u64 (y0:Int)] 122)).drewN nq) :=
  hB.trans ((cL (B1.alloc B1.size _) nq).mono (by omega))
 have hk2:=HR.out.below (cL (B1.alloc B1.size (.cells #[.int .u64 (x0:Int),.int .u64 (y0:Int)] 122)) nq);generalize(w1.alloc (.cells #[.int .u64 (x0:Int),.int .u64 (y0:Int)] 122)).drewN nq=w2 at *;obtain⟨a,b,hblk,_⟩:=hk2;have c0:=aG hblk 0;have c1:=aG hblk 1;have c2:=aG hblk 2;have f0:=aB hblk 0;have f1:=aB hblk 1;have f2:=aB hblk 2;simp only[List.getElem?_toArray,List.getElem?_cons_zero,List.getElem?_cons_succ]at c0 c1 c2;have HBLK:=zH hblk;clear hblk B1 hlt
 go_wp2
 go_loop [6,7,19] (fun x y i=>∃ k a b:Nat,k<=s.size/\i=.int .i64 k/\x=.int .u64 a/\y=.int .u64 b/\a<=1000000006/\b<=1000000006/\Hid (a=rx (l++s.data.toList.take k)/\b=ry (l++s.data.toList.take k))) (fun _ _ i=>s.size - (intOf i).toNat)
 case atStart=>exact⟨0,x0,y0,Nat.zero_le _,rfl,rfl,rfl,hx0,hy0,zH ⟨by rw[HX.out];simp,by rw[HY.out];simp⟩⟩
 case round =>
  obtain⟨k,p,q,hk,rfl,rfl,rfl,hp,hq,HS⟩:=hrel
  by_cases hlt:k<s.size
  · have hsn:=bG5 hlt l
    have HN:Hid (nD 257 p s[k]=rx (l++s.data.toList.take (k+1))/\nD 65539 q s[k]=ry (l++s.data.toList.take (k+1))):=zH (by
     rw[hsn,aT3,aT2,<- HS.out.1,<- HS.out.2];exact⟨rfl,rfl⟩)
    have hx2:=rD 257 p s[k];have hy2:=rD 65539 q s[k];have C1:=vT p s[k] _ hp rfl;have C2:=rE q s[k] _ hq rfl;generalize nD 257 p s[k]=p2 at *;generalize nD 65539 q s[k]=q2 at *;clear hsn HS
    go_wp2_with (first
     | (go_at_call 83;(with_reducible refine(C1.out _).mono ?_);rintro e w' ⟨rfl,rfl⟩)
     | (go_at_call 83;(with_reducible refine(C2.out _).mono ?_);rintro e w' ⟨rfl,rfl⟩))
    go_round
    case rel=>exact⟨k+1,p2,q2,by omega,by go_num,rfl,rfl,hx2,hy2,HN⟩
    case measure=>simp[intOf];omega
  · obtain rfl:k=s.size:=by omega
    have HF:Hid (p=rx (l++s.data.toList)/\q=ry (l++s.data.toList)):=zH (by
     have:=HS.out
     rw[List.take_of_length_le (by simp)]at this;exact this)
    clear HS
    go_wp2
    go_ret
    refine⟨rfl,((hb2.setCell hBR _).setCell hBR _).setCell hBR _,⟨p,q,?_,fun _=>HF.out⟩,?_⟩
    · rw[aI _ R 2 _ 124 _ _ (aI _ R 1 _ 124 _ _ (aI _ R 0 _ 124 _ _ HBLK.out)),List.length_append,aE]
      simp
    · simp only[World.setCell,Array.size_modify];exact hgr
end Go.Proofs.YthnogdodlhkldaaGreatDoor
namespace Go.Proofs.YthnogdodlhkldaaGreatDoor
open Go.RowKit
theorem sH (p:List (List UInt8))(k:Nat)(h:k<p.length):(p.take (k+1)).flatten=(p.take k).flatten++p[k]:=by
 rw[List.take_succ_eq_append_getElem h,List.flatten_append,List.flatten_cons,List.flatten_nil,List.append_nil]
theorem flat_le (p:List (List UInt8))(k:Nat):(p.take k).flatten.length<=p.flatten.length:=by
 have h:=congrArg List.length (congrArg List.flatten (List.take_append_drop k p));rw[List.flatten_append,List.length_append]at h;omega
theorem flat_le2 (p:List (List UInt8))(k:Nat)(h:k<p.length):(p.take k).flatten.length+p[k].length<=p.flatten.length:=by
 have h1:=flat_le p (k+1);rw[sH p k h,List.length_append]at h1;exact h1
theorem mark_hid (R:Nat)(l:List UInt8)(hl:l.length<=1099511627776)(M:ByteArray)(hM:M.data.toList=fR l):Hid (∀ W,mU W R l->Calls Tryz.prog 56 #[.pointer (some ⟨R,0,none⟩)] W fun e w'=>e=.returned (.string M)/\Below W.heap.size W w') :=
 zH fun W h=>by rw[aM hM];exact bE2 R l W h hl
theorem of_any (p:List (List UInt8))(v:Value)(w:World)(M:ByteArray)(hM:M.data.toList=fR p.flatten)(hp:aR w v p)(hl:p.length<=1000000)(hf:p.flatten.length<=1000000):Calls Tryz.prog 31 #[v] w fun e w'=>e=.returned (.string M)/\Below w.heap.size w w':=by
 obtain⟨a,c,rfl⟩:=hp.form
 have hcell:Hid (∀ j,(h:j<p.length)->∃ B off,a=some ⟨B,off,none⟩/\B<w.heap.size/\w.cell? ⟨B,off+j,none⟩=some (dA p[j])):=zH fun j h=>by
  rcases hp with ⟨_,h2⟩ | ⟨B,off,cap,h1,h2⟩
  · subst h2;simp at h
  · cases h1
    exact⟨B,off,rfl,aH (h2 j h),h2 j h⟩
 have CM:=mark_hid w.heap.size p.flatten (by omega) M hM;clear hp hM
 go_enter Tryz.func31,Tryz.ntmps31
 go_wp2_with fail
 refine(newM_any _).mono ?_;rintro e w1 ⟨rfl,hk1,B1⟩;have H1:=zH hk1;have hgr1:=hk1.lt;clear hk1
 go_wp2
 go_loopw [9] (fun i wr=>∃ k:Nat,k<=p.length/\i=.int .i64 k/\Below w.heap.size w wr/\Hid (mU wr w.heap.size (p.take k).flatten)) (fun i _=>p.length - (intOf i).toNat)
 case atStart=>exact⟨0,Nat.zero_le _,rfl,B1,H1⟩
 case round =>
  obtain⟨k,hk,rfl,hb,HS⟩:=hrel
  by_cases hlt:k<p.length
  · obtain⟨B,off,rfl,hB,hc⟩:=hcell.out k hlt
    obtain⟨T,hT⟩:=aO p[k];have hc2:wr.cell? ⟨B,off+k,none⟩=some (.string T):=by rw[hb.cell hB,hc,aM hT];rfl
    have hle:(p.take k).flatten.length+T.size<=1099511627776:=by
     have:=flat_le2 p k hlt;rw[<- hT,aE]at this;omega
    have HN:Hid ((p.take k).flatten++T.data.toList=(p.take (k+1)).flatten):=zH (by rw[hT,sH p k hlt]);have C:=zH (addM_any w.heap.size w.heap.size (p.take k).flatten T w wr hb (zL _) HS.out hle);clear hc hT hle B1 H1
    go_wp2_with fail
    refine C.out.mono ?_;rintro e w2 ⟨rfl,B2,hk2,_⟩;have HK:Hid (mU w2 w.heap.size (p.take (k+1)).flatten):=by rw[<- HN.out];exact zH hk2
    clear hk2
    go_wp2
    go_roundw
    case rel=>exact⟨k+1,by omega,by go_num,B2,HK⟩
    case measure=>simp[intOf];omega
  · obtain rfl:k=p.length:=by omega
    have HK:Hid (mU wr w.heap.size p.flatten):=by have:=HS.out;rw[List.take_length]at this;exact zH this
    clear HS B1 H1
    go_wp2_with fail
    refine(CM.out _ HK.out).mono ?_;rintro e w2 ⟨rfl,b2⟩;have B2:=hb.trans (b2.mono hb.size);clear b2
    go_wp2
    go_ret
    exact⟨rfl,B2⟩
end Go.Proofs.YthnogdodlhkldaaGreatDoor
