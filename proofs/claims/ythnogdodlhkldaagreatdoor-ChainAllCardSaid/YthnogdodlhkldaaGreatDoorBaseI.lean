/- A kept word's text: the document's. A number's bits, the number of bits, a text as it is written: the document's. Encode: the document's. Decode: the document's. -/
import Derived.Test.YthnogdodlhkldaaGreatDoorRefSZ
import Derived.Test.YthnogdodlhkldaaGreatDoorBaseZ
set_option maxRecDepth 100000
set_option maxHeartbeats 8000000
namespace Go.Proofs.YthnogdodlhkldaaGreatDoor
open Go.RowKit
theorem bF6 (k:Int)(T:ByteArray)(hT:T.data.toList=aN k)(w:World):Calls Tryz.prog 134 #[.int .i64 k] w fun e w'=>e=.returned (.string T)/\Below w.heap.size w w':=by
 have hT2:=aM hT;clear hT;have xA:=aW w (.cells #[.string ⟨#[39,110,111,110,101,39]⟩,.string ⟨#[39,115,101,108,102,39]⟩,.string ⟨#[39,117,110,115,97,102,101,45,105,110,108,105,110,101,39]⟩,.string ⟨#[39,117,110,115,97,102,101,45,101,118,97,108,39]⟩,.string ⟨#[39,119,97,115,109,45,117,110,115,97,102,101,45,101,118,97,108,39]⟩,.string ⟨#[39,115,116,114,105,99,116,45,100,121,110,97,109,105,99,39]⟩,.string ⟨#[39,117,110,115,97,102,101,45,104,97,115,104,101,115,39]⟩,.string ⟨#[39,114,101,112,111,114,116,45,115,97,109,112,108,101,39]⟩] 9);have BB:Hid (Below w.heap.size w (w.alloc (.cells #[.string ⟨#[39,110,111,110,101,39]⟩,.string ⟨#[39,115,101,108,102,39]⟩,.string ⟨#[39,117,110,115,97,102,101,45,105,110,108,105,110,101,39]⟩,.string ⟨#[39,117,110,115,97,102,101,45,101,118,97,108,39]⟩,.string ⟨#[39,119,97,115,109,45,117,110,115,97,102,101,45,101,118,97,108,39]⟩,.string ⟨#[39,115,116,114,105,99,116,45,100,121,110,97,109,105,99,39]⟩,.string ⟨#[39,117,110,115,97,102,101,45,104,97,115,104,101,115,39]⟩,.string ⟨#[39,114,101,112,111,114,116,45,115,97,109,112,108,101,39]⟩] 9))):=zH ((zB _ _).alloc (zL _) _)
 by_cases h1:k<1
 · have e:aN k=[]:=by unfold aN;rw[if_neg (by omega)]
   rw[e]at hT2;subst hT2;clear xA e
   go_enter Tryz.func134,Tryz.ntmps134
   go_wp2
   go_ret
   exact⟨rfl,BB.out⟩
 by_cases h2:8<k
 · have e:aN k=[]:=by unfold aN;rw[if_neg (by omega)]
   rw[e]at hT2;subst hT2;clear xA e
   go_enter Tryz.func134,Tryz.ntmps134
   go_wp2
   go_ret
   exact⟨rfl,BB.out⟩
 have hc:k=1\/k=2\/k=3\/k=4\/k=5\/k=6\/k=7\/k=8:=by omega
 clear h1 h2;rcases hc with rfl | rfl | rfl | rfl | rfl | rfl | rfl | rfl
 · have e:aN 1=[39,110,111,110,101,39]:=by decide
   rw[e]at hT2;have cx:(w.alloc (.cells #[.string ⟨#[39,110,111,110,101,39]⟩,.string ⟨#[39,115,101,108,102,39]⟩,.string ⟨#[39,117,110,115,97,102,101,45,105,110,108,105,110,101,39]⟩,.string ⟨#[39,117,110,115,97,102,101,45,101,118,97,108,39]⟩,.string ⟨#[39,119,97,115,109,45,117,110,115,97,102,101,45,101,118,97,108,39]⟩,.string ⟨#[39,115,116,114,105,99,116,45,100,121,110,97,109,105,99,39]⟩,.string ⟨#[39,117,110,115,97,102,101,45,104,97,115,104,101,115,39]⟩,.string ⟨#[39,114,101,112,111,114,116,45,115,97,109,112,108,101,39]⟩] 9)).cell? ⟨w.heap.size,0,none⟩=some (.string ⟨#[39,110,111,110,101,39]⟩):=by rw[aG xA];rfl
   subst hT2;clear xA e
   go_enter Tryz.func134,Tryz.ntmps134
   go_wp2
   go_ret
   exact⟨rfl,BB.out⟩
 · have e:aN 2=[39,115,101,108,102,39]:=by decide
   rw[e]at hT2;have cx:(w.alloc (.cells #[.string ⟨#[39,110,111,110,101,39]⟩,.string ⟨#[39,115,101,108,102,39]⟩,.string ⟨#[39,117,110,115,97,102,101,45,105,110,108,105,110,101,39]⟩,.string ⟨#[39,117,110,115,97,102,101,45,101,118,97,108,39]⟩,.string ⟨#[39,119,97,115,109,45,117,110,115,97,102,101,45,101,118,97,108,39]⟩,.string ⟨#[39,115,116,114,105,99,116,45,100,121,110,97,109,105,99,39]⟩,.string ⟨#[39,117,110,115,97,102,101,45,104,97,115,104,101,115,39]⟩,.string ⟨#[39,114,101,112,111,114,116,45,115,97,109,112,108,101,39]⟩] 9)).cell? ⟨w.heap.size,1,none⟩=some (.string ⟨#[39,115,101,108,102,39]⟩):=by rw[aG xA];rfl
   subst hT2;clear xA e
   go_enter Tryz.func134,Tryz.ntmps134
   go_wp2
   go_ret
   exact⟨rfl,BB.out⟩
 · have e:aN 3=[39,117,110,115,97,102,101,45,105,110,108,105,110,101,39]:=by decide
   rw[e]at hT2;have cx:(w.alloc (.cells #[.string ⟨#[39,110,111,110,101,39]⟩,.string ⟨#[39,115,101,108,102,39]⟩,.string ⟨#[39,117,110,115,97,102,101,45,105,110,108,105,110,101,39]⟩,.string ⟨#[39,117,110,115,97,102,101,45,101,118,97,108,39]⟩,.string ⟨#[39,119,97,115,109,45,117,110,115,97,102,101,45,101,118,97,108,39]⟩,.string ⟨#[39,115,116,114,105,99,116,45,100,121,110,97,109,105,99,39]⟩,.string ⟨#[39,117,110,115,97,102,101,45,104,97,115,104,101,115,39]⟩,.string ⟨#[39,114,101,112,111,114,116,45,115,97,109,112,108,101,39]⟩] 9)).cell? ⟨w.heap.size,2,none⟩=some (.string ⟨#[39,117,110,115,97,102,101,45,105,110,108,105,110,101,39]⟩):=by rw[aG xA];rfl
   subst hT2;clear xA e
   go_enter Tryz.func134,Tryz.ntmps134
   go_wp2
   go_ret
   exact⟨rfl,BB.out⟩
 · have e:aN 4=[39,117,110,115,97,102,101,45,101,118,97,108,39]:=by decide
   rw[e]at hT2;have cx:(w.alloc (.cells #[.string ⟨#[39,110,111,110,101,39]⟩,.string ⟨#[39,115,101,108,102,39]⟩,.string ⟨#[39,117,110,115,97,102,101,45,105,110,108,105,110,101,39]⟩,.string ⟨#[39,117,110,115,97,102,101,45,101,118,97,108,39]⟩,.string ⟨#[39,119,97,115,109,45,117,110,115,97,102,101,45,101,118,97,108,39]⟩,.string ⟨#[39,115,116,114,105,99,116,45,100,121,110,97,109,105,99,39]⟩,.string ⟨#[39,117,110,115,97,102,101,45,104,97,115,104,101,115,39]⟩,.string ⟨#[39,114,101,112,111,114,116,45,115,97,109,112,108,101,39]⟩] 9)).cell? ⟨w.heap.size,3,none⟩=some (.string ⟨#[39,117,110,115,97,102,101,45,101,118,97,108,39]⟩):=by rw[aG xA];rfl
   subst hT2;clear xA e
   go_enter Tryz.func134,Tryz.ntmps134
   go_wp2
   go_ret
   exact⟨rfl,BB.out⟩
 · have e:aN 5=[39,119,97,115,109,45,117,110,115,97,102,101,45,101,118,97,108,39]:=by decide
   rw[e]at hT2;have cx:(w.alloc (.cells #[.string ⟨#[39,110,111,110,101,39]⟩,.string ⟨#[39,115,101,108,102,39]⟩,.string ⟨#[39,117,110,115,97,102,101,45,105,110,108,105,110,101,39]⟩,.string ⟨#[39,117,110,115,97,102,101,45,101,118,97,108,39]⟩,.string ⟨#[39,119,97,115,109,45,117,110,115,97,102,101,45,101,118,97,108,39]⟩,.string ⟨#[39,115,116,114,105,99,116,45,100,121,110,97,109,105,99,39]⟩,.string ⟨#[39,117,110,115,97,102,101,45,104,97,115,104,101,115,39]⟩,.string ⟨#[39,114,101,112,111,114,116,45,115,97,109,112,108,101,39]⟩] 9)).cell? ⟨w.heap.size,4,none⟩=some (.string ⟨#[39,119,97,115,109,45,117,110,115,97,102,101,45,101,118,97,108,39]⟩):=by rw[aG xA];rfl
   subst hT2;clear xA e
   go_enter Tryz.func134,Tryz.ntmps134
   go_wp2
   go_ret
   exact⟨rfl,BB.out⟩
 · have e:aN 6=[39,115,116,114,105,99,116,45,100,121,110,97,109,105,99,39]:=by decide
   rw[e]at hT2;have cx:(w.alloc (.cells #[.string ⟨#[39,110,111,110,101,39]⟩,.string ⟨#[39,115,101,108,102,39]⟩,.string ⟨#[39,117,110,115,97,102,101,45,105,110,108,105,110,101,39]⟩,.string ⟨#[39,117,110,115,97,102,101,45,101,118,97,108,39]⟩,.string ⟨#[39,119,97,115,109,45,117,110,115,97,102,101,45,101,118,97,108,39]⟩,.string ⟨#[39,115,116,114,105,99,116,45,100,121,110,97,109,105,99,39]⟩,.string ⟨#[39,117,110,115,97,102,101,45,104,97,115,104,101,115,39]⟩,.string ⟨#[39,114,101,112,111,114,116,45,115,97,109,112,108,101,39]⟩] 9)).cell? ⟨w.heap.size,5,none⟩=some (.string ⟨#[39,115,116,114,105,99,116,45,100,121,110,97,109,105,99,39]⟩):=by rw[aG xA];rfl
   subst hT2;clear xA e
   go_enter Tryz.func134,Tryz.ntmps134
   go_wp2
   go_ret
   exact⟨rfl,BB.out⟩
 · have e:aN 7=[39,117,110,115,97,102,101,45,104,97,115,104,101,115,39]:=by decide
   rw[e]at hT2;have cx:(w.alloc (.cells #[.string ⟨#[39,110,111,110,101,39]⟩,.string ⟨#[39,115,101,108,102,39]⟩,.string ⟨#[39,117,110,115,97,102,101,45,105,110,108,105,110,101,39]⟩,.string ⟨#[39,117,110,115,97,102,101,45,101,118,97,108,39]⟩,.string ⟨#[39,119,97,115,109,45,117,110,115,97,102,101,45,101,118,97,108,39]⟩,.string ⟨#[39,115,116,114,105,99,116,45,100,121,110,97,109,105,99,39]⟩,.string ⟨#[39,117,110,115,97,102,101,45,104,97,115,104,101,115,39]⟩,.string ⟨#[39,114,101,112,111,114,116,45,115,97,109,112,108,101,39]⟩] 9)).cell? ⟨w.heap.size,6,none⟩=some (.string ⟨#[39,117,110,115,97,102,101,45,104,97,115,104,101,115,39]⟩):=by rw[aG xA];rfl
   subst hT2;clear xA e
   go_enter Tryz.func134,Tryz.ntmps134
   go_wp2
   go_ret
   exact⟨rfl,BB.out⟩
 · have e:aN 8=[39,114,101,112,111,114,116,45,115,97,109,112,108,101,39]:=by decide
   rw[e]at hT2;have cx:(w.alloc (.cells #[.string ⟨#[39,110,111,110,101,39]⟩,.string ⟨#[39,115,101,108,102,39]⟩,.string ⟨#[39,117,110,115,97,102,101,45,105,110,108,105,110,101,39]⟩,.string ⟨#[39,117,110,115,97,102,101,45,101,118,97,108,39]⟩,.string ⟨#[39,119,97,115,109,45,117,110,115,97,102,101,45,101,118,97,108,39]⟩,.string ⟨#[39,115,116,114,105,99,116,45,100,121,110,97,109,105,99,39]⟩,.string ⟨#[39,117,110,115,97,102,101,45,104,97,115,104,101,115,39]⟩,.string ⟨#[39,114,101,112,111,114,116,45,115,97,109,112,108,101,39]⟩] 9)).cell? ⟨w.heap.size,7,none⟩=some (.string ⟨#[39,114,101,112,111,114,116,45,115,97,109,112,108,101,39]⟩):=by rw[aG xA];rfl
   subst hT2;clear xA e
   go_enter Tryz.func134,Tryz.ntmps134
   go_wp2
   go_ret
   exact⟨rfl,BB.out⟩
theorem uU (k:Int)(T:ByteArray)(hT:T.data.toList=aN k):Hid (∀ W,Calls Tryz.prog 134 #[.int .i64 k] W fun e w'=>e=.returned (.string T)/\Below W.heap.size W w'):=zH fun W=>bF6 k T hT W
end Go.Proofs.YthnogdodlhkldaaGreatDoor
namespace Go.Proofs.YthnogdodlhkldaaGreatDoor
open Go.RowKit
def bV (m:List Bool):List Value:=m.map Value.bool
theorem pF (m:List Bool):(bV m).length=m.length:=by simp[bV]
theorem pH (a b:List Bool):bV (a++b)=bV a++bV b:=by simp[bV]
def cO (w:World)(v:Value)(l:List Bool):Prop :=
 ((∃ a c,v=.slice a 0 c)/\l=[])\/∃ B off cap,v=.slice (some ⟨B,off,none⟩) l.length cap/\∀ j,(h:j<l.length)->w.cell? ⟨B,off+j,none⟩=some (.bool l[j])
theorem cO.below {w w':World}{v:Value}{p:List Bool}(h:cO w v p)(hb:Below w.heap.size w w'):cO w' v p:=by
 rcases h with h | ⟨B,off,cap,h1,h2⟩
 · exact .inl h
 · exact .inr ⟨B,off,cap,h1,fun j hj=>by rw[hb.cell (aH (h2 j hj))];exact h2 j hj⟩
theorem cO.form {w:World}{v:Value}{p:List Bool}(h:cO w v p):∃ a c,v=.slice a p.length c:=by
 rcases h with ⟨⟨a,c,rfl⟩,rfl⟩ | ⟨B,off,cap,rfl,_⟩
 · exact⟨_,_,rfl⟩
 · exact⟨_,_,rfl⟩
theorem cO.of_row {w:World}{base:Nat}{v:Value}{p:List Bool}(h:w.ownsRow base 4 1 v p.length (bV p)):cO w v p:=by
 rcases bS h with ⟨h1,h2⟩ | ⟨g,cap,rfl⟩
 · exact .inl ⟨⟨_,_,h1⟩,List.length_eq_zero_iff.1 h2⟩
 · refine .inr ⟨g,0,cap,rfl,fun j hj => ?_⟩
   rw[Nat.zero_add,h.cellAt j (by omega)];simp[bV,List.getElem?_eq_getElem hj]
theorem cO.piece {w:World}{B off n c:Nat}{p:List Bool}(h:cO w (.slice (some ⟨B,off,none⟩) n c) p)(a b r:List Bool)(e:p=a++(b++r))(o:Nat)(ho:o=off+a.length)(m:Nat)(hm:m=b.length)(c':Nat):cO w (.slice (some ⟨B,o,none⟩) m c') b:=by
 subst ho hm;rcases h with ⟨_,h2⟩ | ⟨B',off',cap,h1,h2⟩
 · subst h2
   have:b=[]:=by
    have:=congrArg List.length e;simp only[List.length_append,List.length_nil]at this;exact List.length_eq_zero_iff.1 (by omega)
   subst this;exact .inl ⟨⟨_,_,rfl⟩,rfl⟩
 · cases h1
   refine .inr ⟨B,off+a.length,c',rfl,fun j hj => ?_⟩;have hlen:=congrArg List.length e;simp only[List.length_append]at hlen;have h3:=h2 (a.length+j) (by omega);rw[Nat.add_assoc,h3]
   congr 2
   have:p[a.length+j]? = b[j]? :=by
    rw[e,List.getElem?_append_right (by omega),Nat.add_sub_cancel_left,List.getElem?_append_left hj]
   rw[List.getElem?_eq_getElem (by omega),List.getElem?_eq_getElem hj]at this;exact Option.some.inj this
theorem bit_row (B:List Bool)(n:Nat)(b:Bool)(h:B[n]? = some b):((List.replicate (n+1) false++B.drop (n+1)).map Value.bool).set n (.bool b)=(List.replicate n false++B.drop n).map Value.bool:=by
 have hk:=List.getElem?_eq_some_iff.1 h;have hd:B.drop n=b :: B.drop (n+1):=by rw[List.drop_eq_getElem_cons hk.1,hk.2]
 rw[hd,List.replicate_succ',List.append_assoc,List.map_append,List.map_append,List.set_append_right _ _ (by simp)];simp
theorem bits_any (x t:Nat)(hx:x<=255)(ht:t<=8)(w:World) :
 Calls Tryz.prog 186 #[.int .i64 (x:Int),.int .i64 (t:Int)] w fun e w'=>(∃ g c,e=.returned (.slice (some ⟨g,0,none⟩) t c)/\cO w' (.slice (some ⟨g,0,none⟩) t c) (bU t x))/\Below w.heap.size w w':=by
 obtain⟨i0,hi,hz0,hz1,hz2⟩:=info_parts Tinfo4;have hmk:=run_make (P:=Tryz.prog) w 188 4 i0 _ Tryz.underlying188 hi hz0 .i64 .i64 (t:Int) (t:Int) (by omega) (Int.le_refl _) (by rw[hz2];omega) (by omega);have ez:(Value.bool false).cells=#[.bool false]:=rfl;rw[hz1,Int.toNat_natCast,Nat.mul_one,ez]at hmk;have hrow:=qN.made w (.bool false) t 4;have hb1:Below w.heap.size w (w.alloc (.cells (madeCells #[.bool false] t) 4)):=(zB _ _).alloc (zL _) _
 have em:List.replicate t (Value.bool false)=(List.replicate t false++(bU t x).drop t).map Value.bool:=by
  rw[List.drop_of_length_le (by rw[cA];exact zL _)];simp
 rw[em]at hrow;generalize hW1:w.alloc (.cells (madeCells #[.bool false] t) 4)=W1 at hmk hrow hb1;clear hW1 ez em
 go_enter Tryz.func186,Tryz.ntmps186
 go_wp2
 go_loopw [0,6] (fun y i wr=>∃(m X:Nat) (z:Int),m<=t/\z+1=(m:Int)/\i=.int .i64 z/\y=.int .i64 (X:Int)/\Hid (X=x / 2 ^ (t - m))/\X<=255/\qN wr w.heap.size ((List.replicate m false++(bU t x).drop m).map Value.bool)/\Below w.heap.size w wr) (fun _ i _=>(intOf i+1).toNat)
 case atStart=>exact⟨t,x,(t:Int) - 1,zL _,by omega,rfl,rfl,zH (by rw[Nat.sub_self,Nat.pow_zero,Nat.div_one]),hx,hrow,hb1⟩
 case round =>
  obtain⟨m,X,z,hm,hz,rfl,rfl,HX,hX63,hr,hb⟩:=hrel;clear hrow hb1 hmk
  by_cases h0:m=0
  · subst h0
    obtain rfl:z = -1:=by omega
    have hBn:cO wr (.slice (some ⟨w.heap.size,0,none⟩) t t) (bU t x):=by
     refine .inr ⟨w.heap.size,0,t,by rw[cA],fun j hj => ?_⟩;rw[Nat.zero_add];refine hr.cell j _ ?_;simp[List.getElem?_eq_getElem hj]
    have HB:=zH hBn;clear hBn hr
    go_wp2
    go_ret
    exact⟨⟨_,_,rfl,HB.out⟩,hb⟩
  · obtain⟨n,rfl⟩:∃ n,m=n+1:=⟨m - 1,by omega⟩
    obtain rfl:z=(n:Int):=by omega
    have hget:(bU t x)[n]? = some (X % 2==1):=by
     rw[vL t x n (by omega),HX.out];have:t - 1 - n=t - (n+1):=by omega
     rw[this]
    obtain⟨b,hbit⟩:∃ b,(X % 2==1)=b:=⟨_,rfl⟩
    have hbz:((X:Int) % 2==1)=b:=by
     rw[<- hbit,Bool.eq_iff_iff];simp;omega
    rw[hbit]at hget
    have hlen:((List.replicate (n+1) false++(bU t x).drop (n+1)).map Value.bool).length=t:=by
     simp[cA];omega
    have hfree:=hr.free n (by rw[hlen];omega)
    have hcell:=hr.cell n (.bool false) (by
     rw[List.map_append,List.getElem?_append_left (by simp)]
     simp)
    have hset:=hr.set (k:=n) (by rw[hlen];omega) (.bool b);rw[bit_row _ n b hget]at hset;have hbs:=hb.setCell (p:=⟨w.heap.size,n,none⟩) (zL _) (.bool b);have HS:=zH hset;have HBs:=zH hbs
    have HX2:Hid (X / 2=x / 2 ^ (t - n)):=zH (by
     have:t - n=(t - (n+1))+1:=by omega
     rw[HX.out,Nat.div_div_eq_div_mul,this,Nat.pow_succ])
    clear hset hbs hlen hget hr hbit
    go_wp2
    go_roundw
    case rel=>exact⟨n,X / 2,(n:Int) - 1,by omega,by omega,rfl,by go_num,HX2,by omega,HS.out,HBs.out⟩
    case measure=>simp[intOf]
theorem num_take (l:List Bool)(k:Nat)(h:k<l.length):mE (l.take (k+1))=2 * mE (l.take k)+(l[k]).toNat:=by
 rw[List.take_succ_eq_append_getElem h,kY]
theorem num_255 (l:List Bool)(h:l.length<=8)(k:Nat):mE (l.take k)<=255:=by
 have h1:=aO3 (l.take k);have h2:2 ^ (l.take k).length<=2 ^ 8:=Nat.pow_le_pow_right (by decide) (by rw[List.length_take];omega);omega
theorem aT9 (l:List Bool)(v:Value)(w:World)(hin:cO w v l)(hl:l.length<=8):Calls Tryz.prog 188 #[v] w fun e w'=>e=.returned (.int .i64 (mE l:Nat))/\w'=w:=by
 obtain⟨a,c,rfl⟩:=hin.form
 have hcell:Hid (∀ j,(h:j<l.length)->∃ B off,a=some ⟨B,off,none⟩/\w.cell? ⟨B,off+j,none⟩=some (.bool l[j])):=zH fun j h=>by
  rcases hin with ⟨_,h2⟩ | ⟨B,off,cap,h1,h2⟩
  · subst h2;simp at h
  · cases h1
    exact⟨B,off,rfl,h2 j h⟩
 clear hin
 go_enter Tryz.func188,Tryz.ntmps188
 go_wp2
 go_loop [3,4] (fun n i=>∃ k N:Nat,k<=l.length/\i=.int .i64 k/\n=.int .i64 N/\N<=255/\Hid (N=mE (l.take k))) (fun _ i=>l.length - (intOf i).toNat)
 case atStart=>exact⟨0,0,Nat.zero_le _,rfl,rfl,by decide,zH rfl⟩
 case round =>
  obtain⟨k,N,hk,rfl,rfl,hN,HS⟩:=hrel
  by_cases hlt:k<l.length
  · obtain⟨B,off,rfl,hc⟩:=hcell.out k hlt
    have hn:=num_take l k hlt;have h255:=num_255 l hl (k+1);rw[<- HS.out]at hn
    cases hb:l[k]with
    | false =>
      rw[hb]at hc hn;have HN:Hid (2 * N=mE (l.take (k+1))):=zH (by rw[hn];rfl);rw[hn]at h255;have h2:2 * N<=255:=h255;clear hn h255 hb
      go_wp2
      go_round
      case rel=>exact⟨k+1,2 * N,by omega,by go_num,by go_num,h2,HN⟩
      case measure=>simp[intOf];omega
    | true =>
      rw[hb]at hc hn;have HN:Hid (2 * N+1=mE (l.take (k+1))):=zH (by rw[hn];rfl);rw[hn]at h255;have h2:2 * N+1<=255:=h255;clear hn h255 hb
      go_wp2
      go_round
      case rel=>exact⟨k+1,2 * N+1,by omega,by go_num,by go_num,h2,HN⟩
      case measure=>simp[intOf];omega
  · obtain rfl:k=l.length:=by omega
    have HR:Hid ((N:Int)=(mE l:Nat)):=zH (by rw[HS.out,List.take_length]);clear HS
    go_wp2
    go_ret
    exact⟨cV HR.out,rfl⟩
end Go.Proofs.YthnogdodlhkldaaGreatDoor
namespace Go.Proofs.YthnogdodlhkldaaGreatDoor
open Go.RowKit
theorem cO.news {w:World}{g n c:Nat}{l:List Bool}(h:cO w (.slice (some ⟨g,0,none⟩) n c) l):∀ j u,(bV l)[j]? = some u->w.cell? ((⟨g,0,none⟩:Addr).add j)=some u:=fun j u hj=>by
 have hj':j<l.length:=by
  have:=(List.getElem?_eq_some_iff.1 hj).1
  simpa [bV] using this
 rcases h with ⟨_,h2⟩ | ⟨B,off,cap,h1,h2⟩
 · subst h2;simp at hj'
 · cases h1
   have e:(⟨g,0,none⟩:Addr).add j=⟨g,0+j,none⟩:=by unfold Addr.add;split<;>simp_all
   rw[e,h2 j hj'];simp[bV,List.getElem?_eq_getElem hj']at hj;rw[<- hj]
theorem bool_one {l:List Bool}:∀ u∈bV l,u.oneCell'=true:=fun u hu=>by
 obtain⟨b,_,rfl⟩:=List.mem_map.1 hu;rfl
theorem bits_hid (x t:Nat)(hx:x<=255)(ht:t<=8):Hid (∀ W,Calls Tryz.prog 186 #[.int .i64 (x:Int),.int .i64 (t:Int)] W fun e w'=>(∃ g c,e=.returned (.slice (some ⟨g,0,none⟩) t c)/\cO w' (.slice (some ⟨g,0,none⟩) t c) (bU t x))/\Below W.heap.size W w') :=
 zH fun W=>bits_any x t hx ht W
theorem bits_six (x:Nat)(hx:x<=255):Hid (∀ W,Calls Tryz.prog 186 #[.int .i64 (x:Int),.int .i64 6] W fun e w'=>(∃ g c,e=.returned (.slice (some ⟨g,0,none⟩) 6 c)/\cO w' (.slice (some ⟨g,0,none⟩) 6 c) (bU 6 x))/\Below W.heap.size W w'):=bits_hid x 6 hx (by decide)
theorem rowCap {w:World}{base size n:Nat}{e:TypeId}{v:Value}{xs:List Value}(h:w.ownsRow base e size v n xs):(v=.slice none 0 0/\n=0)\/∃ g cap,v=.slice (some ⟨g,0,none⟩) n cap/\n<=cap:=by
 rcases h.2 with h2 | ⟨g,cap,cur,a,_,_,b,_⟩
 · exact .inl h2
 · exact .inr ⟨g,cap,a,b⟩
end Go.Proofs.YthnogdodlhkldaaGreatDoor
namespace Go.Proofs.YthnogdodlhkldaaGreatDoor
open Go.RowKit
theorem zC (g N c P:Nat)(h:P+8<=c):∀ W,(Instr.slice 188 (.slice (some ⟨g,0,none⟩) N c) (some (.int .i64 (P:Int))) (some (.int .i64 ((P:Int)+8))) none).run Tryz.prog W=.ok (.slice (some ⟨g,P,none⟩) 8 (c - P)) W:=fun W=>by
 have e:((P:Int)+8)=((P+8:Nat):Int):=rfl;rw[e]
 have key:∀ Q:Nat,Q=P+8->(Instr.slice 188 (.slice (some ⟨g,0,none⟩) N c) (some (.int .i64 (P:Int))) (some (.int .i64 (Q:Int))) none).run Tryz.prog W=.ok (.slice (some ⟨g,P,none⟩) (Q - P) (c - P)) W:=fun Q hQ=>by
  have h1:Q<=c:=by omega
  have h2:P<=Q:=by omega
  have h3:c≠P:=by omega
  simp[Instr.slice,run_underlying Tryz.underlying188,Instr.sliceBounds,run_sliceBound,h1,h2,h3,Addr.add];exact fun h=>h.symm
 have:=key (P+8) rfl;rw[Nat.add_sub_cancel_left]at this;exact this
theorem yZ (g N c P:Nat)(h:P<=N)(_:N<=c)(o:Nat)(ho:o=if c=P then 0 else P):∀ W,(Instr.slice 188 (.slice (some ⟨g,0,none⟩) N c) (some (.int .i64 (P:Int))) none none).run Tryz.prog W=.ok (.slice (some ⟨g,o,none⟩) (N - P) (c - P)) W:=fun W=>by
 subst ho
 by_cases h3:c=P
 · simp[Instr.slice,run_underlying Tryz.underlying188,Instr.sliceBounds,run_sliceBound,h,h3]
 · simp[Instr.slice,run_underlying Tryz.underlying188,Instr.sliceBounds,run_sliceBound,h,h3,Addr.add]
   exact fun h=>h.symm
theorem aE1 (E:List Nat)(r:List Bool)(k x:Nat)(h:E[k]? = some x):dO 8 E++r=dO 8 (E.take k)++(bU 8 x++(dO 8 (E.drop (k+1))++r)):=by
 have hk:=List.getElem?_eq_some_iff.1 h;have hd:E.drop k=x :: E.drop (k+1):=by rw[List.drop_eq_getElem_cons hk.1,hk.2]
 rw[<- List.append_assoc (bU 8 x),<- vB,<- hd,<- List.append_assoc,<- lD,List.take_append_drop]
theorem head_hid (s:ByteArray)(hs:s.size<=1099511627776):Hid (∀ W,Calls Tryz.prog 185 #[.string s] W fun e w'=>(∃ T:ByteArray,e=.returned (.string T)/\bJ7 s.data.toList T.data.toList)/\w'=W) :=
 zH fun W=>aD5 s hs W
theorem kV (s:ByteArray)(hs:s.size<=1099511627776)(b:Bool)(hb:cU s.data.toList=b):Hid (∀ W,Calls Tryz.prog 138 #[.string s] W fun e w'=>e=.returned (.bool b)/\w'=W) :=
 zH fun W=>by rw[<- hb];exact aA6 s hs W
theorem tL (s:ByteArray)(hs:s.size<=100000)(T:ByteArray)(b:Bool)(hT:(T.data.toList,b)=mR s.data.toList)(w:World) :
 Calls Tryz.prog 133 #[.string s] w fun e w'=>e=.returned (.tuple #[.string T,.bool b])/\Below w.heap.size w w':=by
 unfold mR at hT
 by_cases h0:s.data.toList=[]
 · have g:s.toList.isEmpty=true:=by rw[aF,h0];rfl
   rw[if_pos h0]at hT;obtain⟨h1,rfl⟩:=Prod.mk.inj hT;obtain rfl:T=⟨#[]⟩:=aM h1;clear hT h1 h0
   go_enter Tryz.func133,Tryz.ntmps133
   go_wp2
   go_ret2
   exact⟨rfl,zB _ _⟩
 have g:s.toList.isEmpty=false:=by
  rw[aF]
  cases h:s.data.toList with
  | nil=>exact absurd h h0
  | cons=>rfl
 rw[if_neg h0]at hT
 by_cases h1:cU s.data.toList=false
 · rw[if_pos h1]at hT
   obtain⟨h2,rfl⟩:=Prod.mk.inj hT;obtain rfl:T=⟨#[]⟩:=aM h2;have CF:=kV s (by omega) false h1;clear hT h1 h0 h2
   go_enter Tryz.func133,Tryz.ntmps133
   go_wp2_with fail
   refine(CF.out _).mono ?_;rintro e w' ⟨rfl,rfl⟩
   go_wp2
   go_ret2
   exact⟨rfl,zB _ _⟩
 rw[if_neg h1]at hT;have hform:cU s.data.toList=true:=by simpa using h1
 have CF:=kV s (by omega) true hform;have CH:=head_hid s (by omega);have HFORM:=zH hform;have HTT:=zH hT;obtain⟨i0,hi,hz0,hz1,hz2⟩:=info_parts Tinfo4;clear hT h1 h0 hform
 go_enter Tryz.func133,Tryz.ntmps133
 go_wp2_with fail
 refine(CF.out _).mono ?_;rintro e w ⟨rfl,rfl⟩
 go_wp2_with fail
 refine(CH.out _).mono ?_;rintro e w ⟨⟨D,rfl,hD⟩,rfl⟩;have hd:=head_is hD HFORM.out
 have hgood:iJ D.data.toList=true:=by
  have:=HFORM.out;unfold cU at this;rw[hd]at this;simp only[Bool.and_eq_true]at this;exact this.2
 have hDne:0<D.size:=by
  have:=HFORM.out;unfold cU at this;rw[hd]at this;rw[<- aE]
  cases h:D.data.toList with
  | nil=>rw[h]at this;simp at this
  | cons=>simp
 have hDs:D.size<=s.size:=by rw[<- aE D,<- aE s,<- hd];exact aU6 _
 have hT:=HTT.out;rw[hd,aE,aE]at hT;have HG:=zH (nR hgood);have HT:=zH hT;clear hT hd hD hgood HTT HFORM CF CH
 go_wp2
 go_loopw [5,6,7] (fun v i _ wr=>∃ k:Nat,i=.int .i64 k/\k<=D.size/\wr.ownsRow w.heap.size 4 1 v (6 * k) (bV (dO 6 ((D.data.toList.take k).map gO)))/\Below w.heap.size w wr) (fun _ i _ _=>D.size - (intOf i).toNat)
 case atStart=>exact⟨0,rfl,Nat.zero_le _,World.ownsRow_nil w w.heap.size 4 1,zB _ _⟩
 case round =>
  obtain⟨k,rfl,hk,hown,hb⟩:=hrel
  by_cases hlt:k<D.size
  · have hH:Hid (bV (dO 6 ((D.data.toList.take (k+1)).map gO))=bV (dO 6 ((D.data.toList.take k).map gO))++bV (bU 6 (gO D[k]))):=zH (by
     rw[fV hlt,List.map_append,lD,pH];rfl)
    have h0:=HG.out D[k] (List.getElem_mem (by rw[aE];exact hlt));have D1:=uB D[k] (gO D[k]:Int) (yJ h0).symm;have hv64:=vR D[k];have C:=bits_six (gO D[k]) (by omega);have hHl:(bV (bU 6 (gO D[k]))).length=6 * 1:=by rw[pF,cA]
    have hHo:=bool_one (l:=bU 6 (gO D[k]));generalize bV (dO 6 ((D.data.toList.take k).map gO))=A at *;clear h0;generalize gO D[k]=x at *
    go_wp2_with fail
    with_reducible refine(D1.out _).mono ?_
    rintro e w' ⟨rfl,rfl⟩
    go_wp2_with fail
    with_reducible refine(C.out _).mono ?_
    rintro e w1 ⟨⟨g,c,rfl,hbn⟩,b1⟩;have hnews:=hbn.news;have hown1:=aX hown b1;have B1:=hb.trans (b1.mono hb.size);clear hbn b1 hb hown;generalize bV (bU 6 x)=Z at *
    go_wp2_with (at_builtin;refine wpList_append_own _ rfl _ _ 188 rfl w.heap.size 4 i0 (.bool false) 1 1 Tryz.underlying188 hi hz0 hz1 hz2 rfl (by decide) _ _ _ rfl hown1 ⟨g,0,none⟩ 6 c Z rfl hHl hnews hHo (by unfold maxLen;omega) (by omega) B1.size ?_;intro v' w3 hown' hgrow3 hnil3
                 have hbw3:Below w.heap.size w w3:=Below.grown B1 hgrow3 B1.size (fun j hj=>by have:=(hown1.lt _ hj).1;omega);have X:Aside (w3.ownsRow w.heap.size 4 1 v' (6 * k+6) (A++Z)/\Below w.heap.size w w3):=⟨hown',hbw3⟩
                 clear hown' hgrow3 hnil3)
    go_roundw
    case rel=>exact⟨k+1,by go_num,by omega,by rw[hH.out];exact X.out.1,X.out.2⟩
    case measure=>simp[intOf];omega
  · obtain rfl:k=D.size:=by omega
    obtain⟨wo,rfl⟩:∃ wo:World,wo=wr:=⟨_,rfl⟩;rw[cQ]at hown;have hb6:dO 6 (D.data.toList.map gO)=gL D.data.toList:=rfl;rw[hb6]at hown;obtain⟨g1,g2,g3⟩:=nQ 8 (by decide) (gL D.data.toList);have hT:=HT.out;have hlen:(gL D.data.toList).length=6 * D.size:=by unfold gL;rw[eD,List.length_map,aE]
    have hBI:cO wo u5 (gL D.data.toList):=cO.of_row (base:=w.heap.size) (by rw[hlen];exact hown)
    obtain⟨gg,c,rfl,hNc⟩:∃ gg c,u5=.slice (some ⟨gg,0,none⟩) (6 * D.size) c/\6 * D.size<=c:=by
     rcases rowCap hown with ⟨_,h⟩ | ⟨g,cap,rfl,hcap⟩
     · omega
     · exact⟨g,cap,rfl,hcap⟩
    generalize kP 8 (gL D.data.toList)=p at *;obtain⟨m,r⟩:=p;simp only at g1 g2 g3 hT;have hl2:=congrArg List.length g1;rw[hlen,List.length_append,eD]at hl2;rw[g1]at hBI;obtain⟨N,hN⟩:∃ N,N=6 * D.size:=⟨_,rfl⟩;obtain⟨M,hM⟩:∃ M,M=m.length:=⟨_,rfl⟩;obtain⟨L,hL⟩:∃ L,L=r.length:=⟨_,rfl⟩;obtain⟨H,hH⟩:∃ H,H=mE r:=⟨_,rfl⟩;rw[<- hL,<- hH]at hT;rw[<- hN]at hNc hBI hl2 ⊢;rw[<- hL]at g2;rw[<- hM,<- hL]at hl2;have hq:(N:Int) / 8=(M:Int):=by omega
    obtain⟨Q,hQ⟩:∃ Q,Q=8 * M:=⟨_,rfl⟩;have hq8:(8:Int) * (M:Int)=(Q:Int):=by omega
    have hsl:=yZ gg N c Q (by omega) hNc _ rfl;have hNL:N - Q=L:=by omega
    rw[hNL]at hsl
    have hBr:cO wo (.slice (some ⟨gg,if c=Q then 0 else Q,none⟩) L (c - Q)) r:=by
     by_cases hr0:L=0
     · have:r=[]:=List.length_eq_zero_iff.1 (by omega)
       subst this;subst hr0;exact .inl ⟨⟨_,_,rfl⟩,rfl⟩
     · rw[if_neg (by omega)]
       exact hBI.piece (dO 8 m) r [] (by simp) _ (by rw[eD];omega) _ hL _
    have hH8:H<=127:=by rw[hH];exact xF (zL _) (by omega)
    have CN:=aT9 r _ wo hBr (by omega);rw[<- hH]at CN;have CN:=zH CN;have HBI:=zH hBI;have H256:=zH g3;have HM:=zH hM;have hMN:8 * M<=N:=by omega
    have hNz:N<=600000:=by omega
    generalize(if c=Q then 0 else Q)=o at *;have HNN:=zH hN;clear hBr hBI g1 g2 g3 hM hL hH hQ hN hNL hl2 hlen hown HT hb6 HG i0 hi hz0 hz1 hz2
    by_cases hr:6<=L\/H≠0
    · by_cases hcut:D.size<s.size/\s.size % 4≠0
      all_goals
       first
        | rw[if_pos hcut]at hT
        | rw[if_neg hcut,if_pos hr]at hT
       by_cases y1:(6:Int)<=(L:Int)
       · clear hr hcut
         obtain⟨h3,rfl⟩:=Prod.mk.inj hT;obtain rfl:T=⟨#[]⟩:=aM h3;clear hT h3
         go_wp2_with (go_at_call 188;(with_reducible refine CN.out.mono ?_);rintro e w' ⟨rfl,rfl⟩)
         go_ret2
         exact⟨rfl,hb⟩
       · have y2:((H:Int) != 0)=true:=by rw[bne_iff_ne];omega
         clear hr hcut;obtain⟨h3,rfl⟩:=Prod.mk.inj hT;obtain rfl:T=⟨#[]⟩:=aM h3;clear hT h3
         go_wp2_with (go_at_call 188;(with_reducible refine CN.out.mono ?_);rintro e w' ⟨rfl,rfl⟩)
         go_ret2
         exact⟨rfl,hb⟩
    · have y1:¬ (6:Int)<=(L:Int):=by omega
      have y2:((H:Int) != 0)=false:=by rw[bne_eq_false_iff_eq];omega
      by_cases hcut:D.size<s.size/\s.size % 4≠0
      · rw[if_pos hcut]at hT
        have y3:(D.size:Int)<(s.size:Int):=by omega
        have y4:((s.size:Int) % 4 != 0)=true:=by rw[bne_iff_ne];omega
        clear hr hcut;obtain⟨h3,rfl⟩:=Prod.mk.inj hT;obtain rfl:T=⟨#[]⟩:=aM h3;clear hT h3
        go_wp2_with (go_at_call 188;(with_reducible refine CN.out.mono ?_);rintro e w' ⟨rfl,rfl⟩)
        go_ret2
        exact⟨rfl,hb⟩
      · rw[if_neg hcut,if_neg hr]at hT
        by_cases y3:(D.size:Int)<(s.size:Int)
        all_goals
         try have y4:((s.size:Int) % 4 != 0)=false:=by rw[bne_eq_false_iff_eq];omega
         clear hr hcut;obtain⟨h3,rfl⟩:=Prod.mk.inj hT;obtain⟨i1,hi,hz0,hz1,hz2⟩:=info_parts yC;have HT3:=zH h3;clear hT h3
         go_wp2_with (go_at_call 188;(with_reducible refine CN.out.mono ?_);rintro e wo ⟨rfl,rfl⟩)
         go_loopw [10,11] (fun v i wr=>∃ k:Nat,k<=M/\i=.int .i64 k/\wr.ownsRow wo.heap.size 5 1 v k (cH (m.take k))/\Below wo.heap.size wo wr) (fun _ i _=>M - (intOf i).toNat)
         case atStart=>exact⟨0,Nat.zero_le _,rfl,World.ownsRow_nil wo wo.heap.size 5 1,zB _ _⟩
         case round =>
          obtain⟨k,hk,rfl,hown,hbw⟩:=hrel
          by_cases hlt:k<M
          · have hlm:k<m.length:=by have:=HM.out;omega
            have hat:m[k]? = some m[k]:=List.getElem?_eq_getElem hlm;obtain⟨P,hP⟩:∃ P,P=8 * k:=⟨_,rfl⟩;have hP8:(8:Int) * (k:Int)=(P:Int):=by omega
            have hsl2:=zC gg N c P (by omega);have hfl:=aE1 m r k _ hat;have hp:=(HBI.out.below hbw).piece _ _ _ hfl P (by rw[eD,List.length_take];omega) 8 (cA 8 _).symm (c - P);have hx:=H256.out _ (List.getElem_mem hlm);have hnx:=bD0 8 m[k] hx;have C:=aT9 _ _ wr hp (by rw[cA];decide);rw[hnx]at C;have CC:=zH C;have hx255:m[k]<=255:=by omega
            have hsn:cH (m.take (k+1))=cH (m.take k)++[.int .u8 (m[k]:Int)]:=by
             rw[List.take_add_one,hat];exact mH _ _
            have HSN:=zH hsn;clear C hp hfl hat hnx hsn hx CN hsl hq hq8;generalize cH (m.take k)=A at *;generalize m[k]=x at *;have HP:=zH hP;have hP63:P<=600000:=by omega
            clear hP
            go_wp2_with (first
             | (go_at_call 188;(with_reducible refine CC.out.mono ?_);rintro e wr ⟨rfl,rfl⟩)
             | (at_builtin;refine wpList_append_own _ rfl _ _ 85 rfl wo.heap.size 5 i1 (.int .u8 0) 1 1 Tryz.underlying85 hi hz0 hz1 hz2 rfl (by decide) _ _ _ rfl (hown.alloc _) ⟨wr.heap.size,0,none⟩ 1 1 [.int .u8 (x:Int)] rfl rfl (cell_one_new _ _ _) (fun x hx=>by simp at hx;subst hx;rfl) (by unfold maxLen;omega) (by omega) (by have:=hbw.size;simp;omega) ?_;intro v' w5 hown' hgrow5 hnil5
                have hb5:Below wo.heap.size wo w5:=Below.grown (hbw.alloc hbw.size _) hgrow5 (by have:=hbw.size;simp;omega) (fun j hj=>by have:=(hown.lt _ hj).1;omega);have X:Aside (w5.ownsRow wo.heap.size 5 1 v' (k+1) (A++[.int .u8 (x:Int)])/\Below wo.heap.size wo w5):=⟨hown',hb5⟩
                clear hown' hgrow5 hnil5))
            go_roundw
            case rel=>exact⟨k+1,by omega,by go_num,by rw[HSN.out];exact X.out.1,X.out.2⟩
            case measure=>simp[intOf];omega
          · obtain rfl:k=M:=by omega
            have htk:m.take k=m:=by rw[HM.out,List.take_length]
            rw[htk]at hown;have hown2:wr.ownsRow wo.heap.size 5 1 u10 m.length (cH m):=by rw[<- HM.out];exact hown
            have hcv:=vI hown2 H256.out;have et:(⟨(m.map Nat.toUInt8).toArray⟩:ByteArray)=T:=(aM HT3.out).symm;rw[et]at hcv;have B2:=hb.trans (hbw.mono hb.size);clear htk hown hown2 et CN hsl hq hq8
            go_wp2
            go_ret2
            exact⟨rfl,B2⟩
theorem tK (s:ByteArray)(hs:s.size<=100000)(T:ByteArray)(b:Bool)(hT:(T.data.toList,b)=mR s.data.toList):Hid (∀ W,Calls Tryz.prog 133 #[.string s] W fun e w'=>e=.returned (.tuple #[.string T,.bool b])/\Below W.heap.size W w') :=
 zH fun W=>tL s hs T b hT W
end Go.Proofs.YthnogdodlhkldaaGreatDoor
