/- Small letters, trimmed texts, blanks: the program's and the document's. What a step leaves as it was; a row that grows, its elder slice as it was; a builder that lies within a block. A strings.Builder that lies within a block: written, read, emptied. What stands at a place: letters, blanks and signs, a sign's text, a raw name's end tag (the program's text). -/
import Derived.Test.YtlnfbjbagmfpiaaGreatDoorEntZCa
import Derived.Test.YtlnfbjbagmfpiaaGreatDoorTkZK
set_option maxRecDepth 100000
set_option maxHeartbeats 4000000
namespace Go.Proofs.YtlnfbjbagmfpiaaGreatDoor
open Go.RowKit
theorem refEncode_hid (s T:ByteArray)(hT:T.data.toList=encT s.data.toList)(hs:s.size<=100000):Hid (∀ W,Calls Tryz.prog 93 #[.string s] W fun e w'=>e=.returned (.string T)/\w'=W):=Lib.hid fun W=>by
 rw[text_is hT];exact refEncode_any s hs W
structure RowAt (w:World) (g:Nat) (l:List UInt8):Prop where
 cell:∀ j b,l[j]? = some b->w.cell? ⟨g,j,none⟩=some (.int .u8 (b.toNat:Int))
 free:∀ j,j<l.length->w.frozen? ⟨g,j,none⟩=false
theorem RowAt.set {w:World}{g:Nat}{l:List UInt8}(h:RowAt w g l){k:Nat}(hk:k<l.length)(b:UInt8):RowAt (w.setCell ⟨g,k,none⟩ (.int .u8 (b.toNat:Int))) g (l.set k b):=by
 refine⟨fun j c hj => ?_,fun j hj=>by rw[World.frozen?_setCell];exact h.free j (by simpa using hj)⟩;rw[List.getElem?_set]at hj
 by_cases e:k=j
 · subst e
   rw[if_pos rfl,if_pos hk]at hj
   cases hj
   exact World.cell?_setCell_same _ _ _ (h.cell k l[k] (by rw[List.getElem?_eq_getElem hk]))
 · rw[if_neg e]at hj
   rw[World.cell?_setCell_other _ _ _ _ (by intro h;cases h;exact e rfl)];exact h.cell j c hj
theorem rowAt_world (w:World)(s:ByteArray):RowAt (Lib.bytesWorld w 5 s) w.heap.size s.data.toList:=by
 refine⟨fun j b hj => ?_,fun j hj => ?_⟩
 · rw[Lib.bytesWorld_cell w 5 s j (get_of hj).2]
   simp only[List.getD_eq_getElem?_getD,hj,Option.getD_some]
 · have hg:=Lib.bytesWorld_at_new w 5 s
   have hsz:j<(Lib.bytesCells w 5 s).size:=by
    rw[lsize]at hj;simp[Lib.bytesCells];omega
   unfold World.frozen?;rw[hg];simp;omega
theorem below_bytesWorld (w:World)(s:ByteArray):Below w.heap.size w (Lib.bytesWorld w 5 s):=by
 refine⟨?_,?_,?_,by rw[Lib.bytesWorld_size];omega,fun k hk=>Lib.bytesWorld_at_old w 5 s k hk⟩
 · simp[Lib.bytesWorld,World.freeze,World.alloc,World.drew,-World.alloc_eq,-World.drew_eq]
 · simp[Lib.bytesWorld,World.freeze,World.alloc,World.drew,-World.alloc_eq,-World.drew_eq]
 · simp[Lib.bytesWorld,World.freeze,World.alloc,World.drew,-World.alloc_eq,-World.drew_eq]
theorem RowAt.conv {w:World}{g:Nat}{l:List UInt8}(h:RowAt w g l)(n cap:Nat)(hn:n=l.length):(convert 66 9 (.slice (some ⟨g,0,none⟩) n cap)).run Tryz.prog w=.ok (.string ⟨l.toArray⟩) w:=by
 subst hn;refine run_convert_bytes_back (P:=Tryz.prog) w 66 9 5 ⟨g,0,none⟩ cap l Tryz.underlying66 Tryz.underlying5 Tryz.underlying9 (fun j hj => ?_);have e:(⟨g,0,none⟩:Addr).add j=⟨g,j,none⟩:=by simp[Addr.add];omega
 rw[e];exact h.cell j _ (by rw[List.getElem?_eq_getElem hj])
def mix (l:List UInt8)(k:Nat):List UInt8:=low (l.take k)++l.drop k
theorem mix_length (l:List UInt8)(k:Nat):(mix l k).length=l.length:=by
 simp only[mix,low,List.length_append,List.length_map,List.length_take,List.length_drop];omega
theorem mix_zero (l:List UInt8):mix l 0=l:=by simp[mix,low]
theorem mix_all (l:List UInt8):mix l l.length=low l:=by simp[mix]
theorem mix_at (l:List UInt8)(k:Nat)(b:UInt8)(h:l[k]? = some b):(mix l k)[k]? = some b:=by
 have hk:=(List.getElem?_eq_some_iff.1 h).1;unfold mix;rw[List.getElem?_append_right (by simp[low];omega)];simp only[low,List.length_map,List.length_take,List.getElem?_drop];rw[<- h];congr 1;omega
theorem mix_succ (l:List UInt8)(k:Nat)(b:UInt8)(h:l[k]? = some b):mix l (k+1)=(mix l k).set k (lowB b):=by
 have hk:=List.getElem?_eq_some_iff.1 h;have hl:(low (l.take k)).length=k:=by have:=hk.1;simp[low];omega
 unfold mix;rw[List.set_append_right _ _ (by omega),hl,Nat.sub_self,drop_cons h,List.set_cons_zero];rw[List.take_add_one,h];simp[low]
theorem set_self {l:List UInt8}{k:Nat}{b:UInt8}(h:l[k]? = some b):l.set k b=l:=by
 apply List.ext_getElem?
 intro j;rw[List.getElem?_set];split
 · rename_i e
   subst e;rw[if_pos (List.getElem?_eq_some_iff.1 h).1,h]
 · rfl
theorem lowB_great {b:UInt8}(h:65<=(b.toNat:Int))(h2:(b.toNat:Int)<=90):((lowB b).toNat:Int)=(b.toNat:Int)+32:=by
 unfold lowB;rw[if_pos ⟨by omega,by omega⟩,UInt8.toNat_add];simp;omega
theorem lowB_other {b:UInt8}(h:¬ (65<=(b.toNat:Int)/\(b.toNat:Int)<=90)):lowB b=b:=by
 unfold lowB;rw[if_neg (by omega)]
theorem lower_any (s:ByteArray)(w:World)(hs:s.size<=1099511627776) :
 Calls Tryz.prog 153 #[.string s] w fun e w'=>e=.returned (.string ⟨(low s.data.toList).toArray⟩)/\Below w.heap.size w w':=by
 have hconv:=Lib.run_convert_string_bytes (P:=Tryz.prog) w 9 66 5 s Tryz.underlying9 Tryz.underlying66 Tryz.underlying5;have hrow:=rowAt_world w s;have hbel:=below_bytesWorld w s;have hsz:=Lib.bytesWorld_size w 5 s;generalize Lib.bytesWorld w 5 s=W at hconv hrow hbel hsz;generalize grownCap w s.size 0 5=cap at hconv;have HZ:w.heap.size<W.heap.size:=by omega
 clear hsz;have hll:=lsize s;generalize hL:s.data.toList=l at *;generalize s.size=n at *;have HN:=Lib.hid hll;have HL:=Lib.hid hL;clear hll hL
 go_enter Tryz.func153,Tryz.ntmps153
 go_wp2
 go_loopw [4,5,10] (fun _ _ i wr=>∃ k:Nat,i=.int .i64 k/\k<=n/\RowAt wr w.heap.size (mix l k)/\Below w.heap.size w wr) (fun _ _ i _=>n - (intOf i).toNat)
 case atStart=>exact⟨0,rfl,Nat.zero_le _,by rw[mix_zero];exact hrow,hbel⟩
 case round =>
  obtain⟨k,rfl,hk,hr,hb⟩:=hrel;clear hrow hbel hconv
  by_cases hlt:k<n
  · obtain⟨b,hb1⟩:∃ b,l[k]? = some b:=⟨l[k]'(by rw[HN.out];exact hlt),List.getElem?_eq_getElem _⟩
    have hcell:=hr.cell k b (mix_at l k b hb1);have hfree:=hr.free k (by rw[mix_length,HN.out];exact hlt);have hset:=hr.set (k:=k) (by rw[mix_length,HN.out];exact hlt) (lowB b);rw[<- mix_succ l k b hb1]at hset
    have hsame:lowB b=b->RowAt wr w.heap.size (mix l (k+1)):=fun e=>by
     rw[mix_succ l k b hb1,e,set_self (mix_at l k b hb1)];exact hr
    have HS:=Lib.hid hset;have HM:=Lib.hid hsame;clear hset hsame;have hbs:=hb.setCell (p:=⟨w.heap.size,k,none⟩) (Nat.le_refl _) (.int .u8 ((lowB b).toNat:Int))
    by_cases hg:65<=(b.toNat:Int)/\(b.toNat:Int)<=90
    · obtain⟨hg1,hg2⟩:=hg
      have e:=lowB_great hg1 hg2;rw[e]at HS hbs;clear e
      go_wp2
      go_roundw
      case rel=>exact⟨k+1,by go_num,by omega,HS.out,hbs⟩
      case measure=>simp[intOf];omega
    · have e:=HM.out (lowB_other hg)
      by_cases hg1:65<=(b.toNat:Int)
      all_goals
       go_wp2
       go_roundw
       case rel=>exact⟨k+1,by go_num,by omega,e,hb⟩
       case measure=>simp[intOf];omega
  · obtain rfl:k=n:=by omega
    have hc:=RowAt.conv hr k cap (by rw[mix_length,HN.out]);have hml:mix l k=low l:=by rw[<- HN.out,mix_all]
    rw[hml]at hc;clear HN HL hr hml
    go_wp2
    go_ret
    exact⟨rfl,hb⟩
theorem trim_any (s:ByteArray)(w:World)(hs:s.size<=1099511627776) :
 Calls Tryz.prog 164 #[.string s] w fun e w'=>e=.returned (.string ⟨(trim s.data.toList).toArray⟩)/\Below w.heap.size w w':=by
 have hT:=fun W=>Tryz.strings_Trim_laid s ⟨#[9,10,12,13,32]⟩ W (by omega) (by decide) (ascii_of_all (by decide));have e:Lib.trimS s.data.toList (⟨#[9,10,12,13,32]⟩:ByteArray).data.toList=trim s.data.toList:=rfl;rw[e]at hT;generalize(⟨(trim s.data.toList).toArray⟩:ByteArray)=r at hT ⊢;have HT:=Lib.hid hT;clear hT e
 go_enter Tryz.func164,Tryz.ntmps164
 go_wp2_with (go_at_call 192;refine(HT.out _).mono ?_;rintro e w' ⟨rfl,hb⟩)
 go_ret
 exact⟨rfl,hb⟩
theorem lower_hid (s T:ByteArray)(hT:T.data.toList=low s.data.toList)(hs:s.size<=1099511627776):Hid (∀ W,Calls Tryz.prog 153 #[.string s] W fun e w'=>e=.returned (.string T)/\Below W.heap.size W w'):=Lib.hid fun W=>by
 rw[text_is hT];exact lower_any s W hs
theorem trim_hid (s T:ByteArray)(hT:T.data.toList=trim s.data.toList)(hs:s.size<=1099511627776):Hid (∀ W,Calls Tryz.prog 164 #[.string s] W fun e w'=>e=.returned (.string T)/\Below W.heap.size W w'):=Lib.hid fun W=>by
 rw[text_is hT];exact trim_any s W hs
theorem indexByte_mem (l:List UInt8)(c:UInt8):(l.contains c=true/\0<=Lib.indexByte l c)\/(l.contains c=false/\Lib.indexByte l c = -1):=by
 induction l with
 | nil=>exact .inr ⟨rfl,rfl⟩
 | cons b l ih =>
   unfold Lib.indexByte
   cases hb:(b==c)
   · have hb':(c==b)=false:=by rw[Bool.eq_false_iff]at hb ⊢;intro h;exact hb (by rw[eq_of_beq h];simp)
     simp only[List.contains_cons,hb',Bool.false_or,Bool.false_eq_true,if_false];rcases ih with ⟨h1,h2⟩ | ⟨h1,h2⟩
     · left
       refine⟨h1,?_⟩;rw[if_neg (by simp;omega)];omega
     · right
       refine⟨h1,?_⟩;rw[h2];rfl
   · left
     have:=eq_of_beq hb;subst this;simp
theorem has_any (c:UInt8)(w:World):Calls Tryz.prog 214 #[.string ⟨#[9,10,12,13,32]⟩,.int .u8 (c.toNat:Int)] w fun e w'=>e=.returned (.bool (blk c))/\w=w':=by
 have hI:=fun W=>Tryz.strings_IndexByte ⟨#[9,10,12,13,32]⟩ (c.toNat:Int) W;have e:((c.toNat:Int)).toNat.toUInt8=c:=by simp
 rw[e]at hI;have hm:=indexByte_mem [9,10,12,13,32] c;change (blk c=true/\_)\/(blk c=false/\_)at hm;change ∀ W,Calls Tryz.prog 199 _ W fun e w'=>e=.returned (.int .i64 (Lib.indexByte [9,10,12,13,32] c))/\w'=W at hI;generalize Lib.indexByte [9,10,12,13,32] c=n at hm hI;generalize blk c=bl at hm ⊢;have HI:=Lib.hid hI;clear hI e;rcases hm with ⟨rfl,h⟩ | ⟨rfl,rfl⟩
 · go_enter Tryz.func214,Tryz.ntmps214
   go_wp2_with (go_at_call 199;refine(HI.out _).mono ?_;rintro e w' ⟨rfl,rfl⟩)
   go_ret
   exact⟨rfl,rfl⟩
 · go_enter Tryz.func214,Tryz.ntmps214
   go_wp2_with (go_at_call 199;refine(HI.out _).mono ?_;rintro e w' ⟨rfl,rfl⟩)
   go_ret
   exact⟨rfl,rfl⟩
end Go.Proofs.YtlnfbjbagmfpiaaGreatDoor
namespace Go.Proofs.YtlnfbjbagmfpiaaGreatDoor
open Go.RowKit
theorem Kp.drew {P:Nat->TypeId->Prop}{w w':World}(h:Kp P w w'):Kp P w w'.drew:=⟨h.os,h.tape,h.output,h.size,h.same⟩
theorem rows_ne {w:World}{b1 b2 s1 s2 n1 n2:Nat}{e1 e2:TypeId}{v1 v2:Value}{x1 x2:List Value}(h1:w.ownsRow b1 e1 s1 v1 n1 x1)(h2:w.ownsRow b2 e2 s2 v2 n2 x2)(hne:e1≠e2){k:Nat}(hk:v1.ownBlock=some k):v2.ownBlock≠some k:=fun e=>by
 obtain⟨c1,g1,_⟩:=row_block h1 hk;obtain⟨c2,g2,_⟩:=row_block h2 e;rw[g1]at g2
 cases g2
 exact hne rfl
theorem append_elder (w:World) (base:Nat) (t ty e:TypeId) (i:TypeInfo) (z:Value) (size bytes:Nat) (ht:Tryz.prog.underlying t=some (.slice e)) (hi:Tryz.prog.info? e=some i) (hz:i.zero=some z)
 (hsize:i.size=size) (hby:i.bytes=bytes) (_hzs:z.cells.size=size) (_hsz:0<size)
 (v:Value) (n:Nat) (xs:List Value) (hown:w.ownsRow base e size v n xs)
 (a:Addr) (m c:Nat) (news:List Value) (hl:news.length=m * size) (hnews:∀ j u,news[j]? = some u->w.cell? (a.add j)=some u) (h1:∀ u∈news,u.oneCell'=true)
 (h63:n+m<=maxLen) (hbytes:(n+m) * bytes<=140737488355328) {v':Value} {w':World} (hr:(Builtin.append_ #[t,t] ty #[v,.slice (some a) m c]).run Tryz.prog w=.ok v' w'):w'.ownsRow base e size v n xs:=by
 subst hsize;subst hby;have hsmall:n+m<=9223372036854775807:=by simp only[maxLen]at h63;omega
 rcases hown.2 with ⟨rfl,rfl⟩ | ⟨g,cap,cur,rfl,hbg,hg,hnc,hcm,hcs,htake⟩
 · have hx:xs=[]:=List.eq_nil_of_length_eq_zero (by simpa using hown.1)
   subst hx;exact World.ownsRow_nil _ _ _ _
 · by_cases hroom:n+m<=cap
   · have hfit:n * i.size+news.length<=cur.size:=by rw[hl,hcs,<- Nat.add_mul];exact Nat.mul_le_mul_right _ hroom
     rw[run_append_room (P:=Tryz.prog) w t ty e i ht hi g n cap cur hg a m c news hl hnews h1 hroom hfit]at hr
     injection hr with _ hr
     subst hr;refine⟨hown.1,.inr ⟨g,cap,_,rfl,hbg,setRow_heap w g cur _ e _ hg,hnc,hcm,?_,?_⟩⟩
     · simp only[List.size_toArray,List.length_append,List.length_take,List.length_drop,Array.length_toList]
       omega
     · have hln:(cur.toList.take (n * i.size)).length=n * i.size:=by rw[htake];exact hown.1
       rw[show(cur.toList.take (n * i.size)++news++cur.toList.drop (n * i.size+news.length)).toArray.toList=cur.toList.take (n * i.size)++(news++cur.toList.drop (n * i.size+news.length)) by simp];rw[List.take_append_of_le_length (by omega),List.take_of_length_le (by omega)];exact htake
   · have holds:∀ j u,xs[j]? = some u->w.cell? ((⟨g,0,none⟩:Addr).add j)=some u:=hown.cells (g:=g) rfl
     rw[run_append_grow (P:=Tryz.prog) w t ty e i z ht hi hz ⟨g,0,none⟩ n cap xs hown.1 holds a m c news hl hnews (by omega) (by omega) (growslice_fits (by omega) hbytes)]at hr
     injection hr with _ hr
     subst hr;refine⟨hown.1,.inr ⟨g,cap,cur,rfl,hbg,?_,hnc,hcm,hcs,htake⟩⟩;rw[heap_alloc_old w.drew _ (lt_of_block hg)];exact hg
theorem wpList_append_elder {ops:Array Oper} {rest:List Oper} {o:Oper} {a:Act} {Q:Exit->Act->World->Prop} (w:World) (hgd:o.guard=none) (s x:Operand) (t:TypeId)
 (ho:o.op=.call { callee := .builtin .append,args:=#[s,x],argTypes:=#[t,t] })
 (base:Nat) (e:TypeId) (i:TypeInfo) (z:Value) (size bytes:Nat) (ht:Tryz.prog.underlying t=some (.slice e)) (hi:Tryz.prog.info? e=some i) (hz:i.zero=some z)
 (hsize:i.size=size) (hby:i.bytes=bytes) (hzs:z.cells.size=size) (hsz:0<size)
 (v:Value) (n:Nat) (xs:List Value) (hs:a.eval s=v) (hown:w.ownsRow base e size v n xs)
 (ad:Addr) (m c:Nat) (news:List Value) (hx:a.eval x=.slice (some ad) m c) (hl:news.length=m * size) (hnews:∀ j u,news[j]? = some u->w.cell? (ad.add j)=some u) (h1:∀ u∈news,u.oneCell'=true)
 (h63:n+m<=maxLen) (hbytes:(n+m) * bytes<=140737488355328) (hbase:base<=w.heap.size)
 (h:∀ v' w',w'.ownsRow base e size v' (n+m) (xs++news)->w'.ownsRow base e size v n xs->w.grownBy w' v.ownBlock->(v'.ownBlock=v.ownBlock\/v'.ownBlock=some w.heap.size)->wpList Tryz.prog ops Q rest (a.put o.dst v') w') :
 wpList Tryz.prog ops Q (o :: rest) a w:=by
 refine wpList_plain hgd fun K hK => ?_;obtain⟨v',w',hr,h2,h3,h4,h5⟩:=run_append_own_at (P:=Tryz.prog) w base t o.type e i z size bytes ht hi hz hsize hby hzs hsz v n xs hown ad m c news hl hnews h1 h63 hbytes hbase;have h6:=append_elder w base t o.type e i z size bytes ht hi hz hsize hby hzs hsz v n xs hown ad m c news hl hnews h1 h63 hbytes hr;unfold Oper.wp execOp;simp only[ho,resolve,invoke,builtin,Sem.run_bind,Sem.run_pure,Result.andThen_ok,List.map_toArray,List.map_cons,List.map_nil,hs,hx,hr];exact hK _ _ (h v' w' h2 h6 h3 h5)
end Go.Proofs.YtlnfbjbagmfpiaaGreatDoor
namespace Go.Proofs.YtlnfbjbagmfpiaaGreatDoor
open Go.RowKit
structure BD (w:World) (B R o:Nat) (H:List UInt8) (c:Array Value) (t:TypeId) (p bv:Value):Prop where
 blk:w.heap[R]? = some (.cells c t (0,0))
 c0:c[o]? = some p
 c1:c[o+1]? = some bv
 own:p=.pointer none\/p=.pointer (some ⟨R,o,none⟩)
 row:w.ownsRow B 5 1 bv H.length (Lib.byteCells H)
 nil:H=[]->bv=.slice none 0 0
def selfP (R o:Nat):Value := .pointer (some ⟨R,o,none⟩)
theorem TinfoBd:(Tryz.prog.info? 100).map (fun i=>i.size)=some 2:=by kernel_rfl
theorem cellsByte:Tryz.prog.cellsOf 5=1:=by kernel_rfl
theorem setSame {c:Array Value}{o:Nat}{p:Value}(h:c[o]? = some p):c.setIfInBounds o p=c:=by
 apply Array.ext (by simp)
 intro i h1 h2;rw[Array.getElem_setIfInBounds];split
 · rename_i e
   subst e;rw[Array.getElem?_eq_getElem h2]at h;exact(Option.some.inj h).symm
 · rfl
theorem check_any (R o:Nat) (c:Array Value) (t:TypeId) (p:Value) (w:World) (hb:w.heap[R]? = some (.cells c t (0,0))) (h0:c[o]? = some p) (hp:p=.pointer none\/p=.pointer (some ⟨R,o,none⟩)) (ho:o<c.size)
 (hl:liesAt Tryz.prog Tryz.prog.depth t (c.size / Tryz.prog.cellsOf t) o 100 1=true) :
 Calls Tryz.prog 100 #[.pointer (some ⟨R,o,none⟩)] w fun e w'=>e=.returned (.tuple #[])/\w'.heap[R]? = some (.cells (c.setIfInBounds o (selfP R o)) t (0,0))/\Kp (fun k _=>k=R) w w':=by
 obtain⟨j,hj,hjs⟩:=Option.map_eq_some_iff.1 TinfoBd;have hc0:=cell_of hb o;rw[h0]at hc0;have hfz:=open_of hb o;have hsh:w.shape? R=some (t,c.size):=by simp[World.shape?,hb]
 rcases hp with rfl | rfl
 · have HS:=Lib.hid (heap_setCell_same w R o c t (0,0) (selfP R o) hb)
   have HK:Hid (Kp (fun k _=>k=R) w (w.setCell ⟨R,o,none⟩ (selfP R o))):=Lib.hid (Kp.of_set hb _ rfl);unfold selfP at HS HK ⊢
   go_enter Tryz.func100,Tryz.ntmps100
   go_wp2
   rw[Lib.run_to_unsafe w ⟨R,o,none⟩ Tryz.underlying98 Tryz.underlying173 hj (by rw[hjs];decide) hsh ho];simp only[Result.andThen];rw[Oper.upon_value]
   go_wp2
   rw[run_callFunc_extern Tryz.func128 (by kernel_rfl) (by kernel_rfl) (by kernel_rfl) (e:=Extern.AbiNoEscape.same) (by kernel_rfl)];rw[Lib.run_noEscape];simp only[Result.andThen];rw[Oper.upon_value]
   go_wp2
   rw[Lib.run_from_unsafe w ⟨R,o,none⟩ Tryz.underlying173 Tryz.underlying98 hj hsh hl];simp only[Result.andThen];rw[Oper.upon_value]
   go_wp2
   go_end0
   exact⟨rfl,HS.out,HK.out⟩
 · have HS:=Lib.hid (show w.heap[R]? = some (.cells (c.setIfInBounds o (selfP R o)) t (0,0)) by unfold selfP;rw[setSame h0];exact hb)
   go_enter Tryz.func100,Tryz.ntmps100
   go_wp2
   rw[Lib.run_neq_ptr_same w _ Tryz.underlying98 hj]
   go_wp2
   go_end0
   exact⟨rfl,HS.out,Kp.refl _ _⟩
theorem BD.size {w:World}{B R o:Nat}{H:List UInt8}{c:Array Value}{t:TypeId}{p bv:Value}(h:BD w B R o H c t p bv):o+1<c.size:=(Array.getElem?_eq_some_iff.1 h.c1).1
theorem BD.form {w:World}{B R o:Nat}{H:List UInt8}{c:Array Value}{t:TypeId}{p bv:Value}(h:BD w B R o H c t p bv):∃ a k,bv=.slice a H.length k:=by
 rcases rowForms h.row with ⟨e1,e2⟩ | ⟨g,k,e1⟩
 · exact⟨none,0,by rw[e1,e2]⟩
 · exact⟨_,_,e1⟩
def wrB (B R:Nat)(k:Nat)(t:TypeId):Prop:=k=R\/(B<=k/\t=5)
theorem write_any (B R o:Nat) (H:List UInt8) (c:Array Value) (t:TypeId) (p bv:Value) (T:ByteArray) (w:World) (h:BD w B R o H c t p bv) (hB:B<=w.heap.size) (ht:t≠5) (hlen:H.length+T.size<=140737488355328)
 (hl:liesAt Tryz.prog Tryz.prog.depth t (c.size / Tryz.prog.cellsOf t) o 100 1=true) :
 Calls Tryz.prog 66 #[.pointer (some ⟨R,o,none⟩),.string T] w fun e w'=>e=.returned (.tuple #[.int .i64 T.size,.nilIface])/\∃ bv',BD w' B R o (H++T.data.toList) ((c.setIfInBounds o (selfP R o)).setIfInBounds (o+1) bv') t (selfP R o) bv'/\Kp (wrB B R) w w':=by
 obtain⟨i0,hi,hz0,hz1,hz2⟩:=info_parts Tinfo5;have hs:=h.size;have hnil:=h.nil;have C:=Lib.hid (check_any R o c t p w h.blk h.c0 h.own (by omega) hl);have hrow:=h.row;have hc1:=h.c1;have hblk:=h.blk;have hne:=row_ne hrow hblk ht;clear h
 go_enter Tryz.func66,Tryz.ntmps66
 go_wp2_with (go_at_call 100;refine C.out.mono ?_)
 rintro e w1 ⟨rfl,hb1,k1⟩;have hrow1:=k1.row hrow fun k hk _ e=>hne (by rw[hk,e])
 have hc1':(c.setIfInBounds o (selfP R o))[o+1]? = some bv:=by
  rw[Array.getElem?_setIfInBounds_ne (by omega)];exact hc1
 have hcell:=cell_of hb1 (o+1);rw[hc1']at hcell;have hop:=open_of hb1 (o+1);have hsz:=k1.size;clear hrow hblk C hc1
 go_wp2_with (
  at_builtin
  refine Lib.wpList_append_own_string _ rfl _ _ 66 9 rfl B 5 i0 Tryz.underlying66 Tryz.underlying9 hi hz0 hz1 hz2 _ _ _ rfl hrow1 T rfl (by unfold maxLen;omega) hlen (by omega) ?_;intro v' w2 hown' hgrow hnil2
  have hb2:w2.heap[R]? = some (.cells (c.setIfInBounds o (selfP R o)) t (0,0)):=by
   rw[hgrow.block R (lt_of_block hb1) (fun e=>hne e.symm)];exact hb1
  have hop2:=open_of hb2 (o+1);have hcell2:=cell_of hb2 (o+1);rw[hc1']at hcell2
  have K2:Kp (wrB B R) w w2:=(k1.mono fun k c' t' fr _ e=>Or.inl e).trans (Kp.of_grown hgrow (fun k c' t' fr hk hh=>by
   obtain⟨cur,h1,h2,_⟩:=row_block hrow1 hk;rw[hh]at h1
   cases h1
   exact Or.inr ⟨h2,rfl⟩) fun k hk=>by
   obtain⟨cur,h1,_⟩:=row_block hrow1 hk
   exact⟨_,_,_,h1⟩)
  have HB:=Lib.hid (heap_setCell_same w2 R (o+1) _ t (0,0) v' hb2);have HK:Hid (Kp (wrB B R) w (w2.setCell ⟨R,o+1,none⟩ v')):=Lib.hid (K2.trans (Kp.of_set hb2 _ (Or.inl rfl)))
  have HR:Hid ((w2.setCell ⟨R,o+1,none⟩ v').ownsRow B 5 1 v' (H++T.data.toList).length (Lib.byteCells (H++T.data.toList))):=Lib.hid (by
   have h1:w2.ownsRow B 5 1 v' (H++T.data.toList).length (Lib.byteCells (H++T.data.toList)):=by
    rw[byteCells_append,List.length_append,lsize];exact hown'
   exact(Kp.of_set (P:=fun k _=>k=R) hb2 v' rfl).row h1 fun k hk _ e=>row_ne h1 hb2 ht (by rw[hk,e]))
  have HN:Hid (H++T.data.toList=[]->v'=.slice none 0 0):=Lib.hid fun e=>hnil2.2 ⟨hnil (List.append_eq_nil_iff.1 e).1,by rw[<- lsize,(List.append_eq_nil_iff.1 e).2];rfl⟩
  have HF:Hid (∃ a k,v'=.slice a (H.length+T.size) k):=Lib.hid (by
   rcases rowForms hown' with ⟨e1,e2⟩ | ⟨g,k,e1⟩
   · exact⟨none,0,by rw[e1,e2]⟩
   · exact⟨_,_,e1⟩)
  clear hown' hgrow hnil2 hrow1 hnil K2;obtain⟨va,vk,rfl⟩:=HF.out
  clear HF)
 go_ret2
 refine⟨rfl,_,⟨HB.out,?_,?_,.inr rfl,HR.out,HN.out⟩,HK.out⟩
 · rw[Array.getElem?_setIfInBounds_ne (by omega),Array.getElem?_setIfInBounds_self_of_lt (by omega)]
 · rw[Array.getElem?_setIfInBounds_self_of_lt (by simp;omega)]
theorem len_any (B R o:Nat)(H:List UInt8)(c:Array Value)(t:TypeId)(p bv:Value)(w:World)(h:BD w B R o H c t p bv):Calls Tryz.prog 135 #[.pointer (some ⟨R,o,none⟩)] w fun e w'=>e=.returned (.int .i64 H.length)/\w'=w:=by
 obtain⟨a,k,rfl⟩:=h.form;have hc:=cell_of h.blk (o+1);rw[h.c1]at hc;clear h
 go_enter Tryz.func135,Tryz.ntmps135
 go_wp2
 go_ret
 exact⟨rfl,rfl⟩
theorem reset_any (B R o:Nat)(c:Array Value)(t:TypeId)(p bv:Value)(w:World)(hblk:w.heap[R]? = some (.cells c t (0,0)))(h0:c[o]? = some p)(h1:c[o+1]? = some bv) :
 Calls Tryz.prog 136 #[.pointer (some ⟨R,o,none⟩)] w fun e w'=>e=.returned (.tuple #[])/\BD w' B R o [] ((c.setIfInBounds o (.pointer none)).setIfInBounds (o+1) (.slice none 0 0)) t (.pointer none) (.slice none 0 0)/\Kp (fun k _=>k=R) w w':=by
 have hs:o+1<c.size:=(Array.getElem?_eq_some_iff.1 h1).1;have hc0:=cell_of hblk o;rw[h0]at hc0;have hc1:=cell_of hblk (o+1);rw[h1]at hc1;have ho0:=open_of hblk o;have ho1:=open_of hblk (o+1);have b1:=heap_setCell_same w R o c t (0,0) (.pointer none) hblk;have HB:=Lib.hid (heap_setCell_same _ R (o+1) _ t (0,0) (.slice none 0 0) b1);have HK:Hid (Kp (fun k _=>k=R) w ((w.setCell ⟨R,o,none⟩ (.pointer none)).setCell ⟨R,o+1,none⟩ (.slice none 0 0))):=Lib.hid ((Kp.of_set hblk _ rfl).trans (Kp.of_set b1 _ rfl));clear hblk b1
 go_enter Tryz.func136,Tryz.ntmps136
 go_wp2
 go_end0
 refine⟨rfl,⟨HB.out,?_,?_,.inl rfl,World.ownsRow_nil _ _ _ _,fun _=>rfl⟩,HK.out⟩
 · rw[Array.getElem?_setIfInBounds_ne (by omega),Array.getElem?_setIfInBounds_self_of_lt (by omega)]
 · rw[Array.getElem?_setIfInBounds_self_of_lt (by simp;omega)]
theorem Kp.froze {P:Nat->TypeId->Prop}{w:World}{g:Nat}{cur:Array Value}{t:TypeId}{fr:Nat × Nat}(hg:w.heap[g]? = some (.cells cur t fr))(n:Nat)(hp:P g t):Kp P w (w.freeze ⟨g,0,none⟩ n):=by
 unfold World.freeze;split
 · exact Kp.refl _ _
 · refine⟨rfl,rfl,rfl,by simp,fun k o hk hn => ?_⟩
   simp only[Array.getElem?_modify]
   by_cases e:g=k
   · subst e
     rw[hk]at hg
     cases hg
     exact absurd hp (hn _ _ _ rfl)
   · rw[if_neg e];exact hk
theorem string_any (B R o:Nat)(H:List UInt8)(c:Array Value)(t:TypeId)(p bv:Value)(w:World)(h:BD w B R o H c t p bv) :
 Calls Tryz.prog 59 #[.pointer (some ⟨R,o,none⟩)] w fun e w'=>e=.returned (.string ⟨H.toArray⟩)/\Kp (fun k t'=>B<=k/\t'=5) w w':=by
 have hc:=cell_of h.blk (o+1);rw[h.c1]at hc
 by_cases h0:H=[]
 · have e:=h.nil h0
   subst e;subst h0;have c1:w.drew.cell? ⟨R,o+1,none⟩=some (.slice none 0 0):=hc;have hSD:(Builtin.unsafeSliceData_ #[66] 138 #[.slice none 0 0]).run Tryz.prog w.drew=.ok (.pointer none) w.drew:=rfl;have hUS:(Builtin.unsafeString_ #[138,3] 9 #[.pointer none,.int .i64 0]).run Tryz.prog w.drew=.ok (.string .empty) w.drew:=Lib.run_unsafeString_none _ _ _ _ none;clear h
   go_enter Tryz.func59,Tryz.ntmps59
   go_wp2
   go_region
   all_goals (go_wp2;go_ret;exact⟨rfl,(Kp.refl _ _).drew⟩)
 · have hrow:=h.row
   have hl0:H.length≠0:=by simpa using h0
   obtain⟨g,cap,cur,rfl,hbg,hg,hnc,hcm,hcs,htake⟩:∃ g cap cur,bv=.slice (some ⟨g,0,none⟩) H.length cap/\B<=g/\w.heap[g]? = some (.cells cur 5 (0,0))/\H.length<=cap/\cap<=maxLen/\cur.size=cap * 1/\cur.toList.take (H.length * 1)=Lib.byteCells H:=by
    rcases hrow.2 with ⟨_,hz⟩ | r
    · exact absurd hz hl0
    · exact r
   have c1:w.drew.cell? ⟨R,o+1,none⟩=some (.slice (some ⟨g,0,none⟩) H.length cap):=hc;have hSD:(Builtin.unsafeSliceData_ #[66] 138 #[.slice (some ⟨g,0,none⟩) H.length cap]).run Tryz.prog w.drew=.ok (.pointer (some ⟨g,0,none⟩)) w.drew:=Lib.run_unsafeSliceData_row _ _ _ _ _ _ (by omega)
   have hUS:(Builtin.unsafeString_ #[138,3] 9 #[.pointer (some ⟨g,0,none⟩),.int .i64 H.length]).run Tryz.prog w.drew=.ok (.string ⟨H.toArray⟩) (w.drew.freeze ⟨g,0,none⟩ H.length):=by
    refine Lib.run_unsafeString_row w.drew 138 3 9 5 Tryz.underlying138 cellsByte g cur.size (by have hg':w.drew.heap[g]? = some (.cells cur 5 (0,0)):=hg;simp[World.shape?,hg']) H h0 (by omega) (by unfold maxLen at hcm;omega) ?_;intro j x hx;exact hrow.cells (g:=g) rfl j (.int .u8 x.toNat) (by simp[Lib.byteCells,hx])
   have hK:Kp (fun k t'=>B<=k/\t'=5) w (w.drew.freeze ⟨g,0,none⟩ H.length):=(Kp.refl _ _).drew.trans (Kp.froze (w:=w.drew) hg _ ⟨hbg,rfl⟩);have HK:=Lib.hid hK;clear h hrow hK htake
   go_enter Tryz.func59,Tryz.ntmps59
   go_wp2
   go_region
   all_goals (go_wp2;go_ret;exact⟨rfl,HK.out⟩)
end Go.Proofs.YtlnfbjbagmfpiaaGreatDoor
namespace Go.Proofs.YtlnfbjbagmfpiaaGreatDoor
open Go.RowKit
theorem index_ty {t:TypeId}(ht:Tryz.prog.underlying t=some .string)(L:ByteArray)(k:Nat)(c:UInt8)(h:L.data.toList[k]? = some c):∀ W,(Instr.index t (.string L) (.int .i64 (k:Int))).run Tryz.prog W=.ok (.int .u8 (c.toNat:Int)) W:=fun W=>by
 obtain⟨hk,hc⟩:=List.getElem?_eq_some_iff.1 h;rw[lsize]at hk
 have e3:∀(n:Nat) (hn:n<L.size),n=k->L[n]=c:=fun n hn hq=>by
  subst hq;exact hc
 rw[run_index_string W t L .i64 (k:Int) ht,dif_pos ⟨by omega,by omega⟩,e3 _ _ (by omega)]
theorem get_none {s:ByteArray}{k:Nat}(h:s.data.toList[k]? = none):s.size<=k:=by
 rw[List.getElem?_eq_none_iff,lsize]at h;exact h
theorem get_some {s:ByteArray}{k:Nat}{c:UInt8}(h:s.data.toList[k]? = some c):k<s.size:=by
 have:=(List.getElem?_eq_some_iff.1 h).1;rw[lsize]at this;exact this
theorem isLetter_any (s:ByteArray)(k:Nat)(w:World):Calls Tryz.prog 151 #[.string s,.int .i64 (k:Int)] w fun e w'=>e=.returned (.bool ((s.data.toList[k]?).any letB))/\w'=w:=by
 cases hc:s.data.toList[k]? with
 | none =>
   have h1:=get_none hc;have z:¬ (k:Int)<(s.size:Int):=by omega
   clear hc h1
   go_enter Tryz.func151,Tryz.ntmps151
   go_wp2
   go_ret
   exact⟨rfl,rfl⟩
 | some c =>
   have h1:=get_some hc;have z:(k:Int)<(s.size:Int):=by omega
   have i0:=index_ty Tryz.underlying143 s k c hc
   have HL:Hid (letB c=(decide (97<=(c.toNat:Int)/\(c.toNat:Int)<=122) || decide (65<=(c.toNat:Int)/\(c.toNat:Int)<=90))):=Lib.hid (by
    unfold letB;rw[Bool.eq_iff_iff];simp only[Bool.or_eq_true,decide_eq_true_eq]
    omega)
   clear hc h1
   go_enter Tryz.func151,Tryz.ntmps151
   go_wp2
   all_goals go_ret
   all_goals refine⟨ret_bool ?_,rfl⟩
   all_goals (try simp only[Option.any_some])
   all_goals rw[HL.out,Bool.eq_iff_iff]
   all_goals simp only[Bool.or_eq_true,decide_eq_true_eq,true_iff,Bool.false_eq_true,false_iff]
   all_goals omega
theorem isLetter_hid (s:ByteArray)(k:Nat)(b:Bool)(h:(s.data.toList[k]?).any letB=b):Hid (∀ W,Calls Tryz.prog 151 #[.string s,.int .i64 (k:Int)] W fun e w'=>e=.returned (.bool b)/\w'=W):=Lib.hid fun W=>by rw[<- h];exact isLetter_any s k W
theorem blank_hid (c:UInt8)(b:Bool)(h:blk c=b):Hid (∀ W,Calls Tryz.prog 198 #[.int .u8 (c.toNat:Int)] W fun e w'=>e=.returned (.bool b)/\w'=W):=Lib.hid fun W=>by
 have H:=Lib.hid fun W=>has_any c W;subst h;generalize blk c=b at *
 go_enter Tryz.func198,Tryz.ntmps198
 go_wp2_with (go_at_call 214;refine(H.out _).mono ?_;rintro e w' ⟨rfl,rfl⟩)
 go_ret
 exact⟨rfl,rfl⟩
def oneOf (L:List UInt8)(c:UInt8):Bool:=blk c || L.contains c
theorem isOneOf_any (s L:ByteArray)(k:Nat)(w:World):Calls Tryz.prog 186 #[.string s,.int .i64 (k:Int),.string L] w fun e w'=>e=.returned (.bool ((s.data.toList[k]?).any (oneOf L.data.toList)))/\w'=w:=by
 cases hc:s.data.toList[k]? with
 | none =>
   have h1:=get_none hc;have z:¬ (k:Int)<(s.size:Int):=by omega
   clear hc h1
   go_enter Tryz.func186,Tryz.ntmps186
   go_wp2
   go_ret
   exact⟨rfl,rfl⟩
 | some c =>
   have h1:=get_some hc;have z:(k:Int)<(s.size:Int):=by omega
   have i0:=index_ty Tryz.underlying143 s k c hc;have hI:=fun W=>Tryz.strings_IndexByte L (c.toNat:Int) W;have e:((c.toNat:Int)).toNat.toUInt8=c:=by simp
   rw[e]at hI;have hm:=indexByte_mem L.data.toList c;generalize Lib.indexByte L.data.toList c=n at hm hI;have HI:=Lib.hid hI;clear hI e hc h1
   cases hb:blk c with
   | true =>
     have CB:=blank_hid c true hb;have HV:Hid ((some c).any (oneOf L.data.toList)=true):=Lib.hid (by simp[oneOf,hb]);clear hb hm
     go_enter Tryz.func186,Tryz.ntmps186
     go_wp2_with (go_at_call 198;refine(CB.out _).mono ?_;rintro e w' ⟨rfl,rfl⟩)
     go_ret
     exact⟨ret_bool HV.out.symm,rfl⟩
   | false =>
     have CB:=blank_hid c false hb;rcases hm with ⟨hm,hn⟩ | ⟨hm,rfl⟩
     · have HV:Hid ((some c).any (oneOf L.data.toList)=true):=Lib.hid (by simpa [oneOf,hb] using hm)
       clear hb hm
       go_enter Tryz.func186,Tryz.ntmps186
       go_wp2_with (first | (go_at_call 198;refine(CB.out _).mono ?_;rintro e w' ⟨rfl,rfl⟩) | (go_at_call 199;refine(HI.out _).mono ?_;rintro e w' ⟨rfl,rfl⟩))
       go_ret
       exact⟨ret_bool HV.out.symm,rfl⟩
     · have HV:Hid ((some c).any (oneOf L.data.toList)=false):=Lib.hid (by simpa [oneOf,hb] using hm)
       clear hb hm
       go_enter Tryz.func186,Tryz.ntmps186
       go_wp2_with (first | (go_at_call 198;refine(CB.out _).mono ?_;rintro e w' ⟨rfl,rfl⟩) | (go_at_call 199;refine(HI.out _).mono ?_;rintro e w' ⟨rfl,rfl⟩))
       go_ret
       exact⟨ret_bool HV.out.symm,rfl⟩
theorem isOneOf_hid (s L:ByteArray)(k:Nat)(b:Bool)(h:(s.data.toList[k]?).any (oneOf L.data.toList)=b):Hid (∀ W,Calls Tryz.prog 186 #[.string s,.int .i64 (k:Int),.string L] W fun e w'=>e=.returned (.bool b)/\w'=W):=Lib.hid fun W=>by rw[<- h];exact isOneOf_any s L k W
theorem same_hid (a z:ByteArray)(b:Bool)(h:decide (low a.data.toList=low z.data.toList)=b)(ha:a.size<=1099511627776)(hz:z.size<=1099511627776):Hid (∀ W,Calls Tryz.prog 191 #[.string a,.string z] W fun e w'=>e=.returned (.bool b)/\Below W.heap.size W w'):=Lib.hid fun W=>by
 obtain⟨A,hA⟩:=text_of (low a.data.toList);obtain⟨Z,hZ⟩:=text_of (low z.data.toList);have C1:=lower_hid a A hA ha;have C2:=lower_hid z Z hZ hz;have g:(A.toList==Z.toList)=b:=by rw[text_eq,hA,hZ];exact h
 clear hA hZ h
 go_enter Tryz.func191,Tryz.ntmps191
 go_wp2_with fail
 (with_reducible refine(C1.out _).mono ?_)
 rintro e w1 ⟨rfl,b1⟩
 go_wp2_with fail
 (with_reducible refine(C2.out _).mono ?_)
 rintro e w2 ⟨rfl,b2⟩;have b3:=b1.trans (b2.mono b1.size);clear b1 b2
 go_wp2
 go_ret
 exact⟨rfl,b3⟩
theorem slice_ty {t:TypeId}(ht:Tryz.prog.underlying t=some .string)(L U:ByteArray)(i j:Nat)(hij:i<=j)(hj:j<=L.size)(h:U.data.toList=(L.data.toList.drop i).take (j - i)):∀ W,(Instr.slice t (.string L) (some (.int .i64 (i:Int))) (some (.int .i64 (j:Int))) none).run Tryz.prog W=.ok (.string U) W:=fun W=>by
 have e:L.extract i j=U:=cut_run L U i j hij hj h;simp[Instr.slice,go_sem,run_underlying ht,e,hj,hij]
theorem isAt_any (s z:ByteArray)(k:Nat)(hk:k<=s.size)(hz:low z.data.toList=z.data.toList)(hs:s.size<=1000000000)(hzs:z.size<=1000000000)(w:World):Calls Tryz.prog 161 #[.string s,.int .i64 (k:Int),.string z] w fun e w'=>e=.returned (.bool (beginsM z.data.toList (s.data.toList.drop k)))/\Below w.heap.size w w':=by
 by_cases h:k+z.size<=s.size
 · obtain⟨U,hU⟩:=text_of ((s.data.toList.drop k).take z.size)
   have g:=slice_ty Tryz.underlying143 s U k (k+z.size) (by omega) h (by rw[hU];congr 1;omega);rw[show(((k+z.size:Nat)):Int)=(k:Int)+(z.size:Int) by push_cast;rfl]at g;have hUs:U.size=z.size:=by rw[<- lsize,hU,List.length_take,List.length_drop,lsize];omega
   have C:=same_hid U z (beginsM z.data.toList (s.data.toList.drop k)) (by
    unfold beginsM;rw[hz,lsize,hU,show decide (z.size<=(s.data.toList.drop k).length)=true from decide_eq_true (by rw[List.length_drop,lsize];omega)]
    rfl) (by omega) (by omega)
   generalize beginsM z.data.toList (s.data.toList.drop k)=b at C ⊢;have z1:(k:Int)+(z.size:Int)<=(s.size:Int):=by omega
   have z0:(0:Int)<=(k:Int):=by omega
   have z2:(0:Int)<=(z.size:Int):=by omega
   have z3:(s.size:Int)<=1000000000:=by omega
   clear hU hUs h hz
   go_enter Tryz.func161,Tryz.ntmps161
   go_wp2_with fail
   (with_reducible refine(C.out _).mono ?_)
   rintro e w1 ⟨rfl,b1⟩
   go_wp2
   go_ret
   exact⟨rfl,b1⟩
 · have HV:Hid (beginsM z.data.toList (s.data.toList.drop k)=false):=Lib.hid (by
    unfold beginsM;rw[decide_eq_false (by rw[List.length_drop,lsize,lsize];omega)]
    rfl)
   have z1:¬ (k:Int)+(z.size:Int)<=(s.size:Int):=by omega
   have z0:(0:Int)<=(k:Int):=by omega
   have z2:(0:Int)<=(z.size:Int):=by omega
   have z3:(s.size:Int)<=1000000000:=by omega
   have z4:(k:Int)<=1000000000:=by omega
   have z5:(z.size:Int)<=1000000000:=by omega
   clear h hz
   go_enter Tryz.func161,Tryz.ntmps161
   go_wp2
   go_ret
   exact⟨ret_bool HV.out.symm,Below.refl _ _⟩
theorem isAt_hid (s z:ByteArray)(k:Nat)(b:Bool)(h:beginsM z.data.toList (s.data.toList.drop k)=b)(hk:k<=s.size)(hz:low z.data.toList=z.data.toList)(hs:s.size<=1000000000)(hzs:z.size<=1000000000):Hid (∀ W,Calls Tryz.prog 161 #[.string s,.int .i64 (k:Int),.string z] W fun e w'=>e=.returned (.bool b)/\Below W.heap.size W w'):=Lib.hid fun W=>by rw[<- h];exact isAt_any s z k hk hz hs hzs W
def endV (s x:List UInt8)(k:Nat):Value:=if endM x (s.drop k)<s.length - k then .tuple #[.int .i64 ((k+endM x (s.drop k):Nat):Int),.bool true] else .tuple #[.int .i64 0,.bool false]
theorem endV_here {s x:List UInt8}{k:Nat}(hk:k<s.length)(h:condM x (s.drop k)):endV s x k=.tuple #[.int .i64 (k:Int),.bool true]:=by
 have e:endM x (s.drop k)=0:=by
  rw[List.drop_eq_getElem_cons hk]at h ⊢;unfold endM;exact if_pos h
 unfold endV;rw[e,if_pos (by omega)];rfl
theorem endV_next {s x:List UInt8}{k:Nat}(hk:k<s.length)(h:¬ condM x (s.drop k)):endV s x k=endV s x (k+1):=by
 have e:endM x (s.drop k)=endM x (s.drop (k+1))+1:=by
  rw[List.drop_eq_getElem_cons hk]at h ⊢;unfold endM
  conv=>lhs;unfold endM
  exact if_neg h
 unfold endV;rw[e]
 by_cases h2:endM x (s.drop (k+1))<s.length - (k+1)
 · rw[if_pos (by omega),if_pos h2,show k+(endM x (s.drop (k+1))+1)=k+1+endM x (s.drop (k+1)) by omega]
 · rw[if_neg (by omega),if_neg h2]
theorem endV_end (s x:List UInt8):endV s x s.length=.tuple #[.int .i64 0,.bool false]:=by
 unfold endV;rw[if_neg (by omega)]
theorem ret_val {a b:Value}(h:a=b):Ending.returned a=.returned b:=by rw[h]
theorem nameE_oneOf:oneOf [47,62]=nameE:=by
 funext c
 unfold oneOf nameE;rw[Bool.or_assoc]
 congr 1
 rw[Bool.eq_iff_iff];simp
theorem endTag_any (s x:ByteArray)(p:Nat)(hp:p<=s.size)(hx:low x.data.toList=x.data.toList)(hs:s.size<=1000000)(hxs:x.size<=1000000)(w:World):Calls Tryz.prog 190 #[.string s,.int .i64 (p:Int),.string x] w fun e w'=>e=.returned (endV s.data.toList x.data.toList p)/\Below w.heap.size w w':=by
 obtain⟨Z,hZ⟩:=text_of (60 :: 47 :: x.data.toList);have hZs:Z.size=x.size+2:=by rw[<- lsize,hZ,<- lsize x];rfl
 have a1:=add_to ⟨#[60,47]⟩ x Z hZ (by show 2+x.size<=_;omega);have zz:(Z.size:Int)=(x.size:Int)+2:=by omega
 have HZ:=Lib.hid hZ;have HX:=Lib.hid hx;have hzl:Z.size<=1000002:=by omega
 clear hZ hx hZs zz;have z3:(s.size:Int)<=1000000:=by omega
 have z6:(Z.size:Int)<=1000002:=by omega
 have z7:(0:Int)<=(Z.size:Int):=by omega
 go_enter Tryz.func190,Tryz.ntmps190
 go_wp2
 go_loopw [1] (fun i wr=>∃ k:Nat,i=.int .i64 k/\k<=s.size/\Below w.heap.size w wr/\Hid (endV s.data.toList x.data.toList p=endV s.data.toList x.data.toList k)) (fun i _=>s.size - (intOf i).toNat)
 case atStart=>exact⟨p,rfl,hp,Below.refl _ _,Lib.hid rfl⟩
 case round =>
  obtain⟨k,rfl,hk,hb,HV⟩:=hrel
  by_cases hlt:k<s.size
  · have z0:(k:Int)<(s.size:Int):=by omega
    have hkl:k<s.data.toList.length:=by rw[lsize];exact hlt
    obtain⟨b,hbb⟩:∃ b,beginsM Z.data.toList (s.data.toList.drop k)=b:=⟨_,rfl⟩;have CA:=isAt_hid s Z k b hbb (by omega) (by rw[HZ.out];exact low_of_ok HX.out) (by omega) (by omega);obtain⟨d,hd⟩:∃ d,(s.data.toList[k+Z.size]?).any (oneOf [47,62])=d:=⟨_,rfl⟩;have CO:=isOneOf_hid s ⟨#[47,62]⟩ (k+Z.size) d hd;rw[show(((k+Z.size:Nat)):Int)=(k:Int)+(Z.size:Int) by push_cast;rfl]at CO
    have hcond:condM x.data.toList (s.data.toList.drop k)↔(b=true/\d=true):=by
     unfold condM;rw[<- hbb,<- hd,HZ.out,nameE_oneOf,List.getElem?_drop,show k+(2+x.data.toList.length)=k+Z.size by rw[<- lsize Z,HZ.out];simp;omega]
    have HB:=Lib.hid hcond;have hsz:=hb.size;clear hbb hd hcond
    cases b with
    | false =>
      have HN:Hid (endV s.data.toList x.data.toList p=endV s.data.toList x.data.toList (k+1)):=Lib.hid (HV.out.trans (endV_next hkl fun h=>absurd (HB.out.1 h).1 (by decide)));clear HV HB CO
      go_wp2_with fail
      (with_reducible refine(CA.out _).mono ?_)
      rintro e w1 ⟨rfl,b1⟩;have hb1:=hb.trans (b1.mono hsz);clear hb b1
      go_wp2
      go_roundw
      case rel=>exact⟨k+1,by go_num,by omega,hb1,HN⟩
      case measure=>simp[intOf];omega
    | true =>
      cases d with
      | false =>
        have HN:Hid (endV s.data.toList x.data.toList p=endV s.data.toList x.data.toList (k+1)):=Lib.hid (HV.out.trans (endV_next hkl fun h=>absurd (HB.out.1 h).2 (by decide)));clear HV HB
        go_wp2_with fail
        (with_reducible refine(CA.out _).mono ?_)
        rintro e w1 ⟨rfl,b1⟩;have hb1:=hb.trans (b1.mono hsz);clear hb b1
        go_wp2_with fail
        (with_reducible refine(CO.out _).mono ?_)
        rintro e w1 ⟨rfl,rfl⟩
        go_wp2
        go_roundw
        case rel=>exact⟨k+1,by go_num,by omega,hb1,HN⟩
        case measure=>simp[intOf];omega
      | true =>
        have HN:Hid (endV s.data.toList x.data.toList p=.tuple #[.int .i64 (k:Int),.bool true]):=Lib.hid (HV.out.trans (endV_here hkl (HB.out.2 ⟨rfl,rfl⟩)));clear HV HB
        go_wp2_with fail
        (with_reducible refine(CA.out _).mono ?_)
        rintro e w1 ⟨rfl,b1⟩;have hb1:=hb.trans (b1.mono hsz);clear hb b1
        go_wp2_with fail
        (with_reducible refine(CO.out _).mono ?_)
        rintro e w1 ⟨rfl,rfl⟩
        go_wp2
        go_ret2
        exact⟨ret_val HN.out.symm,hb1⟩
  · obtain rfl:k=s.size:=by omega
    have HN:Hid (endV s.data.toList x.data.toList p=.tuple #[.int .i64 0,.bool false]):=Lib.hid (HV.out.trans (by have:=endV_end s.data.toList x.data.toList;rw[lsize]at this;exact this));clear HV
    go_wp2
    go_ret2
    exact⟨ret_val HN.out.symm,hb⟩
theorem isCode_any (x:ByteArray)(w:World):Calls Tryz.prog 150 #[.string x] w fun e w'=>e=.returned (.bool (decide (x.data.toList=scriptN) || decide (x.data.toList=styleN)))/\w'=w:=by
 obtain⟨b,hb⟩:∃ b,decide (x.data.toList=scriptN)=b:=⟨_,rfl⟩;obtain⟨d,hd⟩:∃ d,decide (x.data.toList=styleN)=d:=⟨_,rfl⟩;have g1:(x.toList==[115,99,114,105,112,116])=b:=by rw[text_lit];exact hb
 have g2:(x.toList==[115,116,121,108,101])=d:=by rw[text_lit];exact hd
 rw[hb,hd];clear hb hd
 cases b<;>cases d
 all_goals
  go_enter Tryz.func150,Tryz.ntmps150
  go_wp2
  go_ret
  exact⟨rfl,rfl⟩
theorem isCode_hid (x:ByteArray)(b:Bool)(h:(decide (x.data.toList=scriptN) || decide (x.data.toList=styleN))=b):Hid (∀ W,Calls Tryz.prog 150 #[.string x] W fun e w'=>e=.returned (.bool b)/\w'=W):=Lib.hid fun W=>by rw[<- h];exact isCode_any x W
theorem rawP_any (x:ByteArray)(w:World):Calls Tryz.prog 159 #[.string x] w fun e w'=>e=.returned (.bool (rawM x.data.toList))/\w'=w:=by
 obtain⟨b,hb⟩:∃ b,(decide (x.data.toList=scriptN) || decide (x.data.toList=styleN))=b:=⟨_,rfl⟩;obtain⟨d,hd⟩:∃ d,decide (x.data.toList=areaN)=d:=⟨_,rfl⟩;obtain⟨f,hf⟩:∃ f,decide (x.data.toList=titleN)=f:=⟨_,rfl⟩;have g1:(x.toList==[116,101,120,116,97,114,101,97])=d:=by rw[text_lit];exact hd
 have g2:(x.toList==[116,105,116,108,101])=f:=by rw[text_lit];exact hf
 have C:=isCode_hid x b hb;unfold rawM;rw[hb,hd,hf];clear hb hd hf
 cases b<;>cases d<;>cases f
 all_goals
  go_enter Tryz.func159,Tryz.ntmps159
  go_wp2_with (go_at_call 150;refine(C.out _).mono ?_;rintro e w' ⟨rfl,rfl⟩)
  go_ret
  exact⟨rfl,rfl⟩
theorem rawP_hid (x:ByteArray)(b:Bool)(h:rawM x.data.toList=b):Hid (∀ W,Calls Tryz.prog 159 #[.string x] W fun e w'=>e=.returned (.bool b)/\w'=W):=Lib.hid fun W=>by rw[<- h];exact rawP_any x W
end Go.Proofs.YtlnfbjbagmfpiaaGreatDoor
