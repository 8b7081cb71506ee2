/- Rows that are read, rows of one's own, texts: what later stages take of the elder ones. -/
import Derived.WalkKit
import Derived.WalkSpells
import Derived.WalkLawsBesides
import Derived.BigQuiet
import Derived.Deep.QuietTactic
import Derived.Deep.LoopGhost
import Derived.Outline
import Derived.Lib.SlBytesRow
import Derived.Lib.SlBytesConst
import Derived.Lib.ConvBytes
import Derived.Lib.SmallJoins
import Derived.Lib.Hide
import Derived.OwnWalk
import Derived.Lib.AppendStr
import Derived.Deep.RegionHeld3
import Derived.Maps.AppendAt
import Derived.Deep.AppendLies
import Derived.Deep.RegionLaw
import Derived.Lib.Builder
import Derived.Lib.UnsafeStr
import Derived.Laws.Externs
import Derived.ProofKit
import Derived.OpenShut
import Derived.Carry
import Derived.Test.YtlnfbjbagmfpiaaGreatDoorProg
set_option maxRecDepth 100000
set_option maxHeartbeats 4000000
namespace Go.Proofs.YtlnfbjbagmfpiaaGreatDoor
open Go.RowKit
theorem text_of (l:List UInt8):∃ T:ByteArray,T.data.toList=l:=⟨⟨l.toArray⟩,rfl⟩
theorem text_is {T:ByteArray}{l:List UInt8}(h:T.data.toList=l):T=⟨l.toArray⟩:=by
 apply ByteArray.ext
 apply Array.toList_inj.1
 rw[h]
theorem text_lit (s:ByteArray)(l:List UInt8):(s.toList==l)=decide (s.data.toList=l):=by
 rw[ByteArray.toList_eq,Bool.eq_iff_iff];simp
theorem text_empty (s:ByteArray):s.toList.isEmpty=s.data.toList.isEmpty:=by rw[ByteArray.toList_eq]
theorem cell_of {w:World}{b:Nat}{c:Array Value}{t:TypeId}{fr:Nat × Nat}(h:w.heap[b]? = some (.cells c t fr))(j:Nat):w.cell? ⟨b,j,none⟩=c[j]? :=by
 simp[World.cell?,h]
theorem open_of {w:World}{b:Nat}{c:Array Value}{t:TypeId}(h:w.heap[b]? = some (.cells c t (0,0)))(j:Nat):w.frozen? ⟨b,j,none⟩=false:=by
 simp[World.frozen?,h]
theorem new_block (w:World)(o:Obj):(w.alloc o).heap[w.heap.size]? = some o:=by
 show(w.heap.push o)[w.heap.size]? = some o;simp
theorem belowN {B:Nat}{a w:World}(h:Below B a w)(n:Nat):Below B a (w.drewN n):=h.trans ⟨rfl,rfl,rfl,Nat.le_refl _,fun _ _=>rfl⟩
theorem lsize (s:ByteArray):s.data.toList.length=s.size:=by simp
theorem add_to (S T R:ByteArray)(h:R.data.toList=S.data.toList++T.data.toList)(hl:S.size+T.size<=9223372036854775807):∀ W,(Op.stringOp .add S T).run Tryz.prog W=.ok (.string R) W:=fun W=>by
 rw[run_string_add_sum (P:=Tryz.prog) W S T hl]
 congr 2
 apply ByteArray.ext
 apply Array.toList_inj.1
 rw[h];simp
theorem lt_of_block {w:World}{g:Nat}{o:Obj}(h:w.heap[g]? = some o):g<w.heap.size:=by
 rcases Nat.lt_or_ge g w.heap.size with h' | h'
 · exact h'
 · simp[Array.getElem?_eq_none h']at h
theorem lt_of_cell {w:World}{a:Addr}{v:Value}(hc:w.cell? a=some v):a.block<w.heap.size:=by
 rcases Nat.lt_or_ge a.block w.heap.size with h' | h'
 · exact h'
 · simp[World.cell?,Array.getElem?_eq_none h']at hc
theorem rowForms {w:World}{base size n:Nat}{e:TypeId}{v:Value}{xs:List Value}(h:w.ownsRow base e size v n xs):(v=.slice none 0 0/\n=0)\/∃ g cap,v=.slice (some ⟨g,0,none⟩) n cap:=by
 rcases h.2 with h2 | ⟨g,cap,cur,a,_⟩
 · exact .inl h2
 · exact .inr ⟨g,cap,a⟩
end Go.Proofs.YtlnfbjbagmfpiaaGreatDoor
namespace Go.Proofs.YtlnfbjbagmfpiaaGreatDoor
open Go.RowKit
theorem cells_new (w:World)(cs:List Value)(t:TypeId):∀(j:Nat) u,cs[j]? = some u->(w.alloc (.cells cs.toArray t)).cell? ((⟨w.heap.size,0,none⟩:Addr).add j)=some u:=by
 intro j u h;have e:(⟨w.heap.size,0,none⟩:Addr).add j=⟨w.heap.size,j,none⟩:=by simp[Addr.add];omega
 rw[e,World.cell?_alloc_mark]
 simpa using h
end Go.Proofs.YtlnfbjbagmfpiaaGreatDoor
namespace Go.Proofs.YtlnfbjbagmfpiaaGreatDoor
open Go.RowKit
theorem heap_setCell_same (w:World)(R j:Nat)(c:Array Value)(t:TypeId)(fr:Nat × Nat)(u:Value)(h:w.heap[R]? = some (.cells c t fr)):(w.setCell ⟨R,j,none⟩ u).heap[R]? = some (.cells (c.setIfInBounds j u) t fr):=by
 simp only[World.setCell,Array.getElem?_modify,h];simp
end Go.Proofs.YtlnfbjbagmfpiaaGreatDoor
namespace Go.Proofs.YtlnfbjbagmfpiaaGreatDoor
open Go.RowKit
structure Kp (P:Nat->TypeId->Prop) (w w':World):Prop where
 os:w'.os=w.os
 tape:w'.tape=w.tape
 output:w'.output=w.output
 size:w.heap.size<=w'.heap.size
 same:∀ k o,w.heap[k]? = some o->(∀ c t fr,o=.cells c t fr->¬ P k t)->w'.heap[k]? = some o
theorem Kp.refl (P:Nat->TypeId->Prop)(w:World):Kp P w w:=⟨rfl,rfl,rfl,Nat.le_refl _,fun _ _ h _=>h⟩
theorem Kp.of_below {P:Nat->TypeId->Prop}{w w':World}(h:Below w.heap.size w w'):Kp P w w':=⟨h.os,h.tape,h.output,h.size,fun k _ hk _=>(h.block k (lt_of_block hk)).trans hk⟩
theorem Kp.trans {P:Nat->TypeId->Prop}{a b c:World}(h:Kp P a b)(k:Kp P b c):Kp P a c :=
 ⟨k.os.trans h.os,k.tape.trans h.tape,k.output.trans h.output,Nat.le_trans h.size k.size,fun j o hj hn=>k.same j o (h.same j o hj hn) hn⟩
theorem Kp.mono {P P':Nat->TypeId->Prop}{a b:World}(h:Kp P a b)(hs:∀ k c t fr,a.heap[k]? = some (.cells c t fr)->P k t->P' k t):Kp P' a b:=⟨h.os,h.tape,h.output,h.size,fun j o hj hn=>h.same j o hj fun c t fr e hp=>hn c t fr e (hs j c t fr (by rw[hj,e]) hp)⟩
theorem Kp.below {P:Nat->TypeId->Prop}{B:Nat}{w w':World}(h:Kp P w w')(hs:∀ k t,P k t->B<=k)(hB:B<=w.heap.size):Below B w w':=⟨h.os,h.tape,h.output,h.size,fun k hk=>by
 have h1:w.heap[k]? = some (w.heap[k]'(by omega)):=Array.getElem?_eq_getElem (by omega);rw[h1]
 exact h.same k _ h1 fun c t fr _ hp=>by have:=hs k t hp;omega⟩
theorem Kp.of_grown {P:Nat->TypeId->Prop}{w w':World}{row:Option Nat}(h:w.grownBy w' row)(hs:∀ k c t fr,row=some k->w.heap[k]? = some (.cells c t fr)->P k t)(hc:∀ k,row=some k->∃ c t fr,w.heap[k]? = some (.cells c t fr)):Kp P w w':=⟨h.os,h.tape,h.output,h.size,fun k o hk hn=>(h.block k (lt_of_block hk) fun e=>by
 obtain⟨c,t,fr,h1⟩:=hc k e.symm;rw[hk]at h1
 cases h1
 exact hn c t fr rfl (hs k c t fr e.symm hk)).trans hk⟩
theorem heap_setCell_ne (w:World)(a:Addr)(u:Value){k:Nat}(h:k≠a.block):(w.setCell a u).heap[k]? = w.heap[k]? :=Below.heap_setCell _ _ _ _ h
theorem Kp.of_set {P:Nat->TypeId->Prop}{w:World}{R j:Nat}{c:Array Value}{t:TypeId}{fr:Nat × Nat}(hR:w.heap[R]? = some (.cells c t fr))(u:Value)(hp:P R t):Kp P w (w.setCell ⟨R,j,none⟩ u) :=
 ⟨rfl,rfl,rfl,by simp[World.setCell],fun k o hk hn=>(heap_setCell_ne w _ u fun e=>by
   simp only at e;subst e;rw[hk]at hR
   cases hR
   exact hn c t fr rfl hp).trans hk⟩
theorem Kp.row {P:Nat->TypeId->Prop}{w w':World}(h:Kp P w w'){base size n:Nat}{e:TypeId}{v:Value}{xs:List Value}(r:w.ownsRow base e size v n xs)(hn:∀ k,v.ownBlock=some k->base<=k->¬ P k e):w'.ownsRow base e size v n xs:=by
 refine⟨r.1,?_⟩;rcases r.2 with h2 | ⟨g,cap,cur,a,b,c,d⟩
 · exact .inl h2
 · refine .inr ⟨g,cap,cur,a,b,h.same g _ c fun c' t' fr' e hp => ?_,d⟩
   cases e
   exact hn g (by rw[a];rfl) b hp
theorem Kp.cells {P:Nat->TypeId->Prop}{w w':World}(h:Kp P w w'){k:Nat}{c:Array Value}{t:TypeId}{fr:Nat × Nat}(hk:w.heap[k]? = some (.cells c t fr))(hn:¬ P k t):w'.heap[k]? = some (.cells c t fr):=h.same k _ hk fun c' t' fr' e=>by cases e;exact hn
theorem row_block {w:World}{base size n:Nat}{e:TypeId}{v:Value}{xs:List Value}(h:w.ownsRow base e size v n xs){k:Nat}(hk:v.ownBlock=some k):∃ cur,w.heap[k]? = some (.cells cur e (0,0))/\base<=k/\k<w.heap.size:=by
 rcases h.2 with ⟨e1,_⟩ | ⟨g,cap,cur,a,b,c,_⟩
 · rw[e1]at hk;cases hk
 · rw[a]at hk
   cases hk
   exact⟨cur,c,b,lt_of_block c⟩
theorem row_ne {w:World}{base size n:Nat}{e:TypeId}{v:Value}{xs:List Value}(h:w.ownsRow base e size v n xs){R:Nat}{c:Array Value}{t:TypeId}{fr:Nat × Nat}(hR:w.heap[R]? = some (.cells c t fr))(hne:t≠e):v.ownBlock≠some R:=fun hk=>by
 obtain⟨cur,h1,_⟩:=row_block h hk;rw[hR]at h1
 cases h1
 exact hne rfl
end Go.Proofs.YtlnfbjbagmfpiaaGreatDoor
namespace Go.Proofs.YtlnfbjbagmfpiaaGreatDoor
open Go.RowKit
def strV (l:List UInt8):Value := .string ⟨l.toArray⟩
theorem strV_of {T:ByteArray}{l:List UInt8}(h:T.data.toList=l):strV l=.string T:=by
 unfold strV;rw[<- text_is h]
def atC (A:List (List UInt8 × List UInt8)):List Value:=A.flatMap fun y=>[strV y.1,strV y.2]
theorem atC_snoc (A:List (List UInt8 × List UInt8))(y:List UInt8 × List UInt8):atC (A++[y])=atC A++[strV y.1,strV y.2]:=by simp[atC]
theorem atC_length (A:List (List UInt8 × List UInt8)):(atC A).length=A.length * 2:=by
 induction A with
 | nil=>rfl
 | cons a r ih=>simp[atC]at ih ⊢;omega
def AttrsBy (w:World)(B m:Nat)(av:Value)(A:List (List UInt8 × List UInt8)):Prop:=w.ownsRow B 41 2 av A.length (atC A)/\∀ k,av.ownBlock=some k->k<m
end Go.Proofs.YtlnfbjbagmfpiaaGreatDoor
namespace Go.Proofs.YtlnfbjbagmfpiaaGreatDoor
open Go.RowKit
theorem atC_at:∀(A:List (List UInt8 × List UInt8)) (i:Nat) (h:i<A.length),(atC A)[i * 2]? = some (strV A[i].1)/\(atC A)[i * 2+1]? = some (strV A[i].2)
 | y :: r,0,_=>⟨rfl,rfl⟩
 | y :: r,i+1,h=>by
   have:=atC_at r i (by simpa using h);rw[show atC (y :: r)=[strV y.1,strV y.2]++atC r from rfl];rw[List.getElem?_append_right (by simp;omega),List.getElem?_append_right (by simp;omega)];simp only[List.length_cons,List.length_nil,List.getElem_cons_succ];rw[show(i+1) * 2 - (0+1+1)=i * 2 by omega,show(i+1) * 2+1 - (0+1+1)=i * 2+1 by omega];exact this
end Go.Proofs.YtlnfbjbagmfpiaaGreatDoor
namespace Go.Proofs.YtlnfbjbagmfpiaaGreatDoor
open Go.RowKit
theorem ownsRow_set {w:World}{base:Nat}{e:TypeId}{size n g cap:Nat}{xs:List Value}(h:w.ownsRow base e size (.slice (some ⟨g,0,none⟩) n cap) n xs)(j:Nat)(u:Value):(w.setCell ⟨g,j,none⟩ u).ownsRow base e size (.slice (some ⟨g,0,none⟩) n cap) n (xs.set j u):=by
 refine⟨by rw[List.length_set];exact h.1,?_⟩;rcases h.2 with ⟨e1,_⟩ | ⟨g',cap',cur,a1,a2,a3,a4,a5,a6,a7⟩
 · cases e1
 · injection a1 with a1 _ a8
   injection a1 with a1
   injection a1 with a1
   subst a1 a8;refine .inr ⟨g,cap,_,rfl,a2,heap_setCell_same w g j cur e (0,0) u a3,a4,a5,by rw[Array.size_setIfInBounds];exact a6,?_⟩;rw[Array.toList_setIfInBounds,List.take_set,a7]
theorem row_open {w:World}{base:Nat}{e:TypeId}{size n g cap:Nat}{xs:List Value}(h:w.ownsRow base e size (.slice (some ⟨g,0,none⟩) n cap) n xs):∃ cur,w.heap[g]? = some (.cells cur e (0,0))/\base<=g:=by
 rcases h.2 with ⟨e1,_⟩ | ⟨g',cap',cur,a1,a2,a3,_⟩
 · cases e1
 · injection a1 with a1 _ _
   injection a1 with a1
   injection a1 with a1
   subst a1;exact⟨cur,a3,a2⟩
end Go.Proofs.YtlnfbjbagmfpiaaGreatDoor
namespace Go.Proofs.YtlnfbjbagmfpiaaGreatDoor
open Go.RowKit
def RowIn (w:World)(u:Value)(m size:Nat)(cs:List Value):Prop:=cs.length=m * size/\(∀ v∈cs,v.oneCell'=true)/\(((∃ a c,u=.slice a 0 c)/\m=0)\/∃ B off cap,u=.slice (some ⟨B,off,none⟩) m cap/\∀ j v,cs[j]? = some v->w.cell? ⟨B,off+j,none⟩=some v)
section
variable {w w':World} {u:Value} {m size:Nat} {cs:List Value}
theorem RowIn.below (h:RowIn w u m size cs)(hb:Below w.heap.size w w'):RowIn w' u m size cs:=by
 refine⟨h.1,h.2.1,?_⟩;rcases h.2.2 with h | ⟨B,off,cap,h1,h2⟩
 · exact .inl h
 · exact .inr ⟨B,off,cap,h1,fun j v hj=>by rw[hb.cell (lt_of_cell (h2 j v hj))];exact h2 j v hj⟩
theorem RowIn.form (h:RowIn w u m size cs):∃ a c,u=.slice a m c:=by
 rcases h.2.2 with ⟨⟨a,c,rfl⟩,rfl⟩ | ⟨B,off,cap,rfl,_⟩
 · exact⟨_,_,rfl⟩
 · exact⟨_,_,rfl⟩
theorem RowIn.of_own {base:Nat}{e:TypeId}(h:w.ownsRow base e size u m cs)(h1:∀ v∈cs,v.oneCell'=true):RowIn w u m size cs:=by
 refine⟨h.1,h1,?_⟩;rcases rowForms h with ⟨e1,e2⟩ | ⟨g,cap,rfl⟩
 · exact .inl ⟨⟨_,_,e1⟩,e2⟩
 · refine .inr ⟨g,0,cap,rfl,fun j v hj => ?_⟩
   have hlt:=(List.getElem?_eq_some_iff.1 hj).1;have hl:=h.1;rw[Nat.zero_add,h.cellAt j (by omega)];exact hj
theorem RowIn.at {a:Option Addr}{c:Nat}(h:RowIn w (.slice a m c) m size cs){k j:Nat}(hk:k<m){v:Value}(hv:cs[k * size+j]? = some v):∃ B off,a=some ⟨B,off,none⟩/\w.cell? ⟨B,off+(k * size+j),none⟩=some v:=by
 rcases h.2.2 with ⟨_,h2⟩ | ⟨B,off,cap,h1,h2⟩
 · omega
 · cases h1
   exact⟨B,off,rfl,h2 _ v hv⟩
end
def AtIn (w:World)(av:Value)(A:List (List UInt8 × List UInt8)):Prop:=RowIn w av A.length 2 (atC A)
theorem atC_one:∀(A:List (List UInt8 × List UInt8)),∀ v∈atC A,v.oneCell'=true:=fun A v hv=>by
 unfold atC at hv;rw[List.mem_flatMap]at hv;obtain⟨y,_,hy⟩:=hv;simp at hy;rcases hy with rfl | rfl<;>rfl
theorem AtIn.below {w w':World}{av:Value}{A:List (List UInt8 × List UInt8)}(h:AtIn w av A)(hb:Below w.heap.size w w'):AtIn w' av A:=RowIn.below h hb
theorem AtIn.form {w:World}{av:Value}{A:List (List UInt8 × List UInt8)}(h:AtIn w av A):∃ a c,av=.slice a A.length c:=RowIn.form h
theorem AtIn.of {w:World}{B m:Nat}{av:Value}{A:List (List UInt8 × List UInt8)}(h:AttrsBy w B m av A):AtIn w av A:=RowIn.of_own h.1 (atC_one A)
theorem AtIn.nil (w:World)(a:Option Addr)(c:Nat):AtIn w (.slice a 0 c) []:=⟨rfl,(fun _ h=>by cases h),.inl ⟨⟨a,c,rfl⟩,rfl⟩⟩
theorem AtIn.at {w:World}{a:Option Addr}{c:Nat}{A:List (List UInt8 × List UInt8)}(h:AtIn w (.slice a A.length c) A){k:Nat}(hk:k<A.length):∃ B off,a=some ⟨B,off,none⟩/\w.cell? ⟨B,off+k * 2,none⟩=some (strV A[k].1)/\w.cell? ⟨B,off+k * 2+1,none⟩=some (strV A[k].2):=by
 obtain⟨e1,e2⟩:=atC_at A k hk;obtain⟨B,off,h1,h2⟩:=RowIn.at h hk (j:=0) e1;obtain⟨B',off',h1',h2'⟩:=RowIn.at h hk (j:=1) e2;rw[h1]at h1'
 cases h1'
 exact⟨B,off,h1,h2,by rw[Nat.add_assoc];exact h2'⟩
end Go.Proofs.YtlnfbjbagmfpiaaGreatDoor
namespace Go.Proofs.YtlnfbjbagmfpiaaGreatDoor
open Go.RowKit
theorem attrsG_hid (A:List (List UInt8 × List UInt8))(hl:A.length<=100000000):Hid (∀ W u v,AtIn W u A->AtIn W v A->Calls Tryz.prog 63 #[u,v] W fun e w'=>e=.returned (.bool true)/\Below W.heap.size W w'):=Lib.hid fun w u v hu hv=>by
 obtain⟨a0,q0,rfl⟩:=hu.form;obtain⟨a1,q1,rfl⟩:=hv.form;have HU:=Lib.hid hu;have HV:=Lib.hid hv;have g0:((A.length:Int) != (A.length:Int))=false:=by simp
 clear hu hv
 go_enter Tryz.func63,Tryz.ntmps63
 go_wp2
 go_loopw [5] (fun i wr=>∃ k n:Nat,i=.int .i64 k/\k<=A.length/\wr=w.drewN n) (fun i _=>A.length - (intOf i).toNat)
 case atStart=>exact⟨0,0,rfl,Nat.zero_le _,rfl⟩
 case round =>
  obtain⟨k,n,rfl,hk,rfl⟩:=hrel
  by_cases hlt:k<A.length
  · obtain⟨B,off,rfl,c1,c2⟩:=HU.out.at hlt
    obtain⟨B',off',rfl,d1,d2⟩:=HV.out.at hlt;obtain⟨X,hX⟩:=text_of A[k].1;obtain⟨V,hV⟩:=text_of A[k].2;rw[strV_of hX]at c1 d1;rw[strV_of hV]at c2 d2;have hix:(k:Int)<(A.length:Int):=by omega
    clear hX hV
    go_wp2_with fail
    go_quiet (fail)
    go_wp2
    go_roundw
    case rel=>exact⟨k+1,n+nq,by go_num,by omega,rfl⟩
    case measure=>simp[intOf];omega
  · obtain rfl:k=A.length:=by omega
    go_wp2
    go_ret
    exact⟨rfl,belowN (Below.refl _ _) _⟩
end Go.Proofs.YtlnfbjbagmfpiaaGreatDoor
namespace Go.Proofs.YtlnfbjbagmfpiaaGreatDoor
open Go.RowKit
theorem nil_appG {w:World}{base:Nat}{e:TypeId}{size:Nat}{v:Value}{n:Nat}{xs:List Value}(hown:w.ownsRow base e size v n xs)(t ty:TypeId)(i:TypeInfo)(ht:Tryz.prog.underlying t=some (.slice e))(hi:Tryz.prog.info? e=some i)(c:Nat):(Builtin.append_ #[t,t] ty #[v,.slice none 0 c]).run Tryz.prog w=.ok v w:=by
 rcases hown.2 with ⟨rfl,rfl⟩ | ⟨g,cap,cur,rfl,_,_,hnc,_⟩
 · simp[Builtin.append_,run_underlying ht,sizeOf,typeInfo,hi,Builtin.lenOf,Builtin.firstCells]
 · simp[Builtin.append_,run_underlying ht,sizeOf,typeInfo,hi,Builtin.lenOf,Builtin.firstCells,hnc,storeCells]
theorem wpList_append_rowG {w:World} {ops:Array Oper} {rest:List Oper} {o:Oper} {a:Act} {Q:Exit->Act->World->Prop} (hgd:o.guard=none) (s x:Operand) (t e:TypeId) (i:TypeInfo) (z:Value) (size bytes:Nat)
 (ht:Tryz.prog.underlying t=some (.slice e)) (hi:Tryz.prog.info? e=some i) (hz:i.zero=some z) (hsize:i.size=size) (hby:i.bytes=bytes) (hzs:z.cells.size=size) (hsz:0<size)
 (ho:o.op=.call { callee := .builtin .append,args:=#[s,x],argTypes:=#[t,t] }) (base:Nat) (v0:Value) (n:Nat) (xs:List Value)
 (hs:a.eval s=v0) (hown:w.ownsRow base e size v0 n xs) (u:Value) (m:Nat) (cs:List Value) (hx:a.eval x=u) (hin:RowIn w u m size cs)
 (h63:n+m<=maxLen) (hbytes:(n+m) * bytes<=140737488355328) (hbase:base<=w.heap.size)
 (h:∀ v' w',w'.ownsRow base e size v' (n+m) (xs++cs)->w.grownBy w' v0.ownBlock->(v'.ownBlock=v0.ownBlock\/v'.ownBlock=some w.heap.size)->wpList Tryz.prog ops Q rest (a.put o.dst v') w'):wpList Tryz.prog ops Q (o :: rest) a w:=by
 obtain⟨hcl,hone,hin⟩:=hin
 have via:∀(ad:Addr) (c:Nat),u=.slice (some ad) m c->(∀ j v,cs[j]? = some v->w.cell? (ad.add j)=some v)->wpList Tryz.prog ops Q (o :: rest) a w:=fun ad c hu hc=>by
  refine wpList_append_own_at w hgd s x t ho base e i z size bytes ht hi hz hsize hby hzs hsz _ n xs hs hown ad m c cs (by rw[hx,hu]) hcl hc hone h63 hbytes hbase ?_;intro v' w' h1 h2 _ h3;exact h v' w' h1 h2 h3
 rcases hin with ⟨⟨a0,c0,rfl⟩,rfl⟩ | ⟨B,off,cap,rfl,hc⟩
 · have e:cs=[]:=List.length_eq_zero_iff.1 (by rw[hcl,Nat.zero_mul])
   subst e
   cases a0 with
   | none =>
     refine wpList_plain hgd fun K hK => ?_;have hrun:=nil_appG hown t o.type i ht hi c0;unfold Oper.wp execOp;simp only[ho,resolve,invoke,builtin,Sem.run_bind,Sem.run_pure,Result.andThen_ok,List.map_toArray,List.map_cons,List.map_nil,hs,hx,hrun];exact hK _ _ (h _ _ (by simpa using hown) (World.grownBy.refl w _) (.inl rfl))
   | some ad=>exact via ad c0 rfl (fun j v hj=>by simp at hj)
 · refine via ⟨B,off,none⟩ cap rfl (fun j v hj => ?_)
   have e:(⟨B,off,none⟩:Addr).add j=⟨B,off+j,none⟩:=by unfold Addr.add;split<;>simp_all
   rw[e];exact hc j v hj
end Go.Proofs.YtlnfbjbagmfpiaaGreatDoor
namespace Go.Proofs.YtlnfbjbagmfpiaaGreatDoor
open Go.RowKit
theorem RowIn.made (w:World)(C:Array Value)(e:TypeId)(m size:Nat)(hl:C.toList.length=m * size)(h1:∀ v∈C.toList,v.oneCell'=true):RowIn (w.alloc (.cells C e)) (.slice (some ⟨w.heap.size,0,none⟩) m m) m size C.toList:=by
 refine⟨hl,h1,.inr ⟨_,0,m,rfl,fun j v hj => ?_⟩⟩;rw[Nat.zero_add,World.cell?_alloc_mark,<- hj];simp
theorem size_alloc (w:World)(o:Obj):(w.alloc o).heap.size=w.heap.size+1:=by simp
end Go.Proofs.YtlnfbjbagmfpiaaGreatDoor
namespace Go.Proofs.YtlnfbjbagmfpiaaGreatDoor.U1
open Go.RowKit
def IntsIn (w:World)(v:Value)(p:List Int):Prop :=
 ((∃ a c,v=.slice a 0 c)/\p=[])\/∃ B off cap,v=.slice (some ⟨B,off,none⟩) p.length cap/\∀ j,(h:j<p.length)->w.cell? ⟨B,off+j,none⟩=some (.int .i64 p[j])
theorem lt_of_cell {w:World}{a:Addr}{v:Value}(hc:w.cell? a=some v):a.block<w.heap.size:=by
 rcases Nat.lt_or_ge a.block w.heap.size with h' | h'
 · exact h'
 · simp[World.cell?,Array.getElem?_eq_none h']at hc
end Go.Proofs.YtlnfbjbagmfpiaaGreatDoor.U1
namespace Go.Proofs.YtlnfbjbagmfpiaaGreatDoor.U1
open Go.RowKit
def eqL (p q:List Int):Bool:=decide (p=q)
theorem ints_any (p q:List Int)(u v:Value)(w:World)(hp:IntsIn w u p)(hq:IntsIn w v q)(hl:p.length<=9223372036854775807)(hl2:q.length<=9223372036854775807) :
 Calls Tryz.prog 33 #[u,v] w fun e w'=>e=.returned (.bool (eqL p q))/\∃ n,w'=w.drewN n:=by
 have hu:∃ a c,u=.slice a p.length c:=by
  rcases hp with ⟨⟨a0,c0,rfl⟩,rfl⟩ | ⟨B,off,cap,rfl,_⟩
  · exact⟨_,_,rfl⟩
  · exact⟨_,_,rfl⟩
 have hv:∃ a c,v=.slice a q.length c:=by
  rcases hq with ⟨⟨a0,c0,rfl⟩,rfl⟩ | ⟨B,off,cap,rfl,_⟩
  · exact⟨_,_,rfl⟩
  · exact⟨_,_,rfl⟩
 by_cases hne:p.length=q.length
 · by_cases h0:p.length=0
   · obtain⟨a,c,rfl⟩:=hu
     obtain⟨a2,c2,rfl⟩:=hv;have e1:p=[]:=List.length_eq_zero_iff.1 h0;have e2:q=[]:=List.length_eq_zero_iff.1 (by omega);subst e1 e2;clear hp hq hl hl2 hne h0
     go_enter Tryz.func33,Tryz.ntmps33
     go_wp2
     refine wp_loop_rounds 1 ?_;rw[rounds_succ]
     go_wp2
     go_ret
     exact⟨rfl,0,rfl⟩
   · rcases hp with ⟨_,rfl⟩ | ⟨B,off,cap,rfl,hc⟩
     · exact absurd rfl h0
     rcases hq with ⟨_,rfl⟩ | ⟨B2,off2,cap2,rfl,hc2⟩
     · exact absurd hne h0
     clear hu hv;have g2:((p.length:Int) != (q.length:Int))=false:=by simp[hne]
     have HN:=Lib.hid hne;have h0':0<p.length:=by omega
     clear hne h0
     go_enter Tryz.func33,Tryz.ntmps33
     go_wp2
     go_loopw [5] (fun i wr=>∃ k n:Nat,i=.int .i64 k/\k<=p.length/\wr=w.drewN n/\Hid (p.take k=q.take k)) (fun i _=>p.length - (intOf i).toNat)
     case atStart=>exact⟨0,0,rfl,Nat.zero_le _,rfl,rfl⟩
     case round =>
      obtain⟨k,n,rfl,hk,rfl,HS⟩:=hrel
      by_cases hlt:k<p.length
      · have hlt2:k<q.length:=by have:=HN.out;omega
        have hcell:=hc k hlt;have hcell2:=hc2 k hlt2;have hix:(k:Int)<(p.length:Int):=by omega
        have hix2:(k:Int)<(q.length:Int):=by omega
        have hT:Hid (p.take (k+1)=p.take k++[p[k]]/\q.take (k+1)=q.take k++[q[k]]):=⟨by rw[List.take_succ_eq_append_getElem hlt],by rw[List.take_succ_eq_append_getElem hlt2]⟩
        have hE:Hid (p[k]≠q[k]->eqL p q=false):=fun h=>by
         unfold eqL;rw[decide_eq_false];rintro rfl;exact h rfl
        generalize p[k]=x at *;generalize q[k]=y at *;clear hc hc2
        by_cases hxy:x=y
        · subst hxy
          have g:(x != x)=false:=by simp
          go_wp2_with fail
          go_quiet (fail)
          go_wp2
          go_roundw
          case rel=>exact⟨k+1,n+nq,by go_num,by omega,rfl,by show _=_;rw[hT.out.1,hT.out.2,HS.out]⟩
          case measure=>simp[intOf];omega
        · have g:(x != y)=true:=by simp[hxy]
          have e:=hE.out hxy;have HE:=Lib.hid e;clear e hxy
          go_wp2_with fail
          go_quiet (fail)
          go_wp2
          go_ret
          exact⟨by rw[HE.out];rfl,n+nq,World.drewN_drewN _ _ _⟩
      · obtain rfl:k=p.length:=by omega
        have e:eqL p q=true:=by
         unfold eqL;have h1:=HS.out;rw[List.take_length,List.take_of_length_le (by have:=HN.out;omega)]at h1;rw[decide_eq_true h1]
        have HE:=Lib.hid e;clear e hc hc2
        go_wp2
        go_ret
        exact⟨by rw[HE.out];rfl,n,rfl⟩
 · obtain⟨a,c,rfl⟩:=hu
   obtain⟨a2,c2,rfl⟩:=hv;have g2:((p.length:Int) != (q.length:Int))=true:=by simp;omega
   have e:eqL p q=false:=by unfold eqL;rw[decide_eq_false];intro h;exact hne (by rw[h])
   rw[e];clear hne e hp hq
   go_enter Tryz.func33,Tryz.ntmps33
   go_wp2
   go_ret
   exact⟨rfl,0,rfl⟩
end Go.Proofs.YtlnfbjbagmfpiaaGreatDoor.U1
namespace Go.Proofs.YtlnfbjbagmfpiaaGreatDoor.U1
open Go.ChangeShapes Go.WideShapes Go.ChangeAt Go.RowKit
end Go.Proofs.YtlnfbjbagmfpiaaGreatDoor.U1
