/- Who goes through the program's walk: what is collected of it; Below. The program's Text: a strings.Builder, in a block of its own, that a walk's rounds write to. Who goes through the program's walk: Text. The library's Clone at attributes, numbers, nodes. The program's copyNode: a node whose rows are in blocks of their own. -/
import Derived.Maps.OwnIn
import Derived.Shelf.AbstractIn
import Derived.Lib.SliceRun
import Derived.Test.YtlnfbjbagmfpiaaGreatDoorDoZO
import Derived.Test.YtlnfbjbagmfpiaaGreatDoorPdZE
set_option maxRecDepth 100000
set_option maxHeartbeats 4000000
namespace Go.Proofs.YtlnfbjbagmfpiaaGreatDoor.Dm
open Go.RowKit Go.Shelf
attribute [local go_sem] Oper.semAt_some
theorem ownsRow_same {A B:World}{base size n:Nat}{e:TypeId}{v:Value}{xs:List Value}(h:A.ownsRow base e size v n xs)(hs:∀ k,v.ownBlock=some k->k<A.heap.size->B.heap[k]? = A.heap[k]?):B.ownsRow base e size v n xs:=by
 obtain⟨h1,h2⟩:=h;refine⟨h1,?_⟩;rcases h2 with h2 | ⟨g,cap,cur,rfl,h3,h4,h5⟩
 · exact .inl h2
 · exact .inr ⟨g,cap,cur,rfl,h3,(hs g rfl (lt_of_block h4)).trans h4,h5⟩
structure Coll (w:World) (Bs:Nat) (T:Nat->Prop) (s:List Nat) (A:World):Prop where
 row:∃ v,A.heap[Bs]? = some (.cells #[v] 37 (0,0))/\OwnI A w.heap.size v s/\∀ k,T k↔k=Bs\/v.ownBlock=some k
 bl:Below w.heap.size w A
theorem Coll.lt' {w:World}{Bs:Nat}{T:Nat->Prop}{s:List Nat}{A:World}(h:Coll w Bs T s A):∀ k,T k->k<A.heap.size:=fun k hk=>by
 obtain⟨v,h1,h2,h3⟩:=h.row;rcases(h3 k).1 hk with rfl | h
 · exact lt_of_block h1
 · exact(h2.lt k h).2
theorem Coll.stay {w:World}{Bs n₁:Nat}{T:Nat->Prop}{s:List Nat}{A B:World}(h:Coll w Bs T s A)(hA:As n₁ T A B)(hn:w.heap.size<=n₁):Coll w Bs T s B:=by
 obtain⟨v,h1,h2,h3⟩:=h.row;exact⟨⟨v,hA.at h1 (.inr ((h3 _).2 (.inl rfl))),ownsRow_same h2 fun k hk hl=>hA.same k hl (.inr ((h3 k).2 (.inr hk))),h3⟩,hA.below h.bl hn (Nat.le_refl _)⟩
theorem coll_grown {w W3 w3 w6:World} {Bs:Nat} {T:Nat->Prop} {s:List Nat} {x:Nat} {v v6:Value} (q1:W3.heap[Bs]? = some (.cells #[v] 37 (0,0))) (q2:OwnI W3 w.heap.size v s) (q3:∀ k,T k↔k=Bs\/v.ownBlock=some k) (hBs:w.heap.size<=Bs) (qb:Below w.heap.size w W3) (al:Below W3.heap.size W3 w3)
 (hown:w6.ownsRow w.heap.size 3 1 v6 (s.length+1) (inC (natsI s)++[.int .i64 (x:Int)])) (hg:w3.grownBy w6 v.ownBlock) (hat:v6.ownBlock=v.ownBlock\/v6.ownBlock=some w3.heap.size) :
 w6.heap[Bs]? = some (.cells #[v] 37 (0,0))/\∃ T',Coll w Bs T' (s++[x]) (w6.setCell ⟨Bs,0,none⟩ v6)/\Fr T W3 T' (w6.setCell ⟨Bs,0,none⟩ v6):=by
 have hne:=row_ne q2 q1 (by decide);have q1a:=(al.block _ (lt_of_block q1)).trans q1;have q6:=(hg.block _ (lt_of_block q1a) (fun e=>hne e.symm)).trans q1a;have hn6:v6.ownBlock≠some Bs:=row_ne hown q6 (by decide);have b0:Below 0 w3 w6:=Below.grown (Below.refl 0 w3) hg (Nat.zero_le _) (fun _ _=>Nat.zero_le _);have hsz:=b0.size;have hsz2:=al.size;refine⟨q6,fun k=>k=Bs\/v6.ownBlock=some k,⟨⟨v6,heap_setCell_same _ _ _ _ _ _ _ q6,?_,fun k=>Iff.rfl⟩,?_⟩,?_⟩
 · refine ownsRow_same (A:=w6) ?_ fun k hk _=>heap_setCell_ne _ _ _ (fun e=>hn6 (by rw[hk,e]))
   have e:natsI (s++[x])=natsI s++[(x:Int)]:=by rw[natsI_app];rfl
   rw[List.length_append,e,inC_app];exact hown
 · refine(Below.grown (qb.trans (al.mono qb.size)) hg (by have:=qb.size;omega) (fun j hj=>(q2.lt j hj).1)).trans ?_
   exact⟨rfl,rfl,rfl,by simp,fun k hk=>heap_setCell_ne _ _ _ (by simp;omega)⟩
 · refine⟨b0.os.trans al.os,b0.tape.trans al.tape,b0.output.trans al.output,by simp;omega,fun k hk hT => ?_,fun k hk hT => ?_⟩
   · have h1:k≠Bs:=fun e=>hT ((q3 k).2 (.inl e))
     have h2:v.ownBlock≠some k:=fun e=>hT ((q3 k).2 (.inr e));exact(heap_setCell_ne _ _ _ h1).trans ((hg.block _ (by omega) (fun e=>h2 e.symm)).trans (al.block _ hk))
   · rcases hT with h | h
     · exact(q3 k).2 (.inl h)
     · rcases hat with h2 | h2
       · exact(q3 k).2 (.inr (by rw[<- h2];exact h))
       · rw[h]at h2
         injection h2 with h2
         omega
theorem appendSeq_hid (D:List Nd)(R:Right D)(hf:FitD D)(i:Nat)(hi:i<D.length)(Bn Bl:Nat):Hid (∀ w0 sl A K,DocIn w0 sl D A K->∀ W,Below w0.heap.size w0 W->W.heap[Bn]? = some (.cells #[.int .i64 (i:Int)] 3 (0,0))->W.heap[Bl]? = some (.cells #[sl] 22 (0,0))->Calls Tryz.prog 101 #[.slice none 0 0,.func (.func 99) #[] #[.pointer (some ⟨Bn,0,none⟩),.pointer (some ⟨Bl,0,none⟩)]] W fun e w'=>∃ v,e=.returned v/\OwnI w' W.heap.size v (downM D i)/\Below W.heap.size W w'):=Lib.hid fun w0 sl A K hd w b0 hbn hbl=>by
 obtain⟨a,c,rfl⟩:=hd.form;have hfl:=hf.1;have al1:=(Below.refl w.heap.size w).alloc (Nat.le_refl _) (.cells #[.slice none 0 0] 37);have hs:=new_block w (.cells #[.slice none 0 0] 37);generalize hw1:w.alloc (.cells #[.slice none 0 0] 37)=w1 at al1 hs;have hs1:w1.heap.size=w.heap.size+1:=by rw[<- hw1];simp
 have G:=goes_hid D R hf i hi;have hdl:=down_len R hi;have bn1:=(al1.block _ (lt_of_block hbn)).trans hbn;have bl1:=(al1.block _ (lt_of_block hbl)).trans hbl;have hnb:=lt_of_block hbn;have hlb:=lt_of_block hbl;have HD:=Lib.hid (And.intro hd (b0.trans (al1.mono b0.size)));have hb0:=b0.size;have HC:Hid (Coll w w.heap.size (fun k=>k=w.heap.size) [] w1):=Lib.hid ⟨⟨_,hs,World.ownsRow_nil _ _ _ _,fun k=>⟨.inl,fun h=>h.elim id (fun h=>by cases h)⟩⟩,al1⟩;obtain⟨i0,hi3,hz0,hz1,hz2⟩:=info_parts Tinfo3;clear hd b0 hs hbn hbl al1;refine(callsIn_wide (n:=0)).1 ?_;refine callsIn_of_wp_marks Tryz.func101 rfl trivial ?_ rfl;simp only[Tryz.ntmps101,List.size_toArray,List.length_cons,List.length_nil,Nat.reduceAdd,Nat.reduceSub,Array.replicate_succ,Array.replicate_zero,List.push_toArray,List.append_toArray,List.nil_append,List.cons_append]
 gi_wp2
 clear hw1
 refine range_fr (w:=w1) (gf:=99) (lb:=#[.pointer (some ⟨Bn,0,none⟩),.pointer (some ⟨Bl,0,none⟩)]) rfl (enters_of Tryz.func99 (by kernel_rfl) rfl) rfl (downM D i) (fun _=>False) (fun k hk=>hk.elim) (Coll w w.heap.size) (fun _ _ _=>False) (fun k=>k=w.heap.size)
  (fun T s A h=>h.lt') (fun T s A B h hA=>h.stay hA (by omega)) (fun T s A B h hA=>h) HC.out
  (fun l' Y' J' Jx' W' hE' hY' hb' hJ'=>G w0 _ A K HD.out.1 W'.heap.size l' Y' J' Jx' hE' (fun k=>k=w.heap.size) W' Bn Bl hJ' (Nat.le_refl _) hY' (HD.out.2.trans (hb'.mono HD.out.2.size)) (fun k h=>by omega) ((hb'.block _ (lt_of_block bn1)).trans bn1) ((hb'.block _ (lt_of_block bl1)).trans bl1) (fun h=>by omega) (fun h=>by omega))
  ?hround ?hdone ?hstop
 case hround =>
  rintro l' T' s x W' hl' ⟨r,hr'⟩ hTl' hI hs
  gi_wp2
  refine⟨trivial,fun r' => ?_⟩;have hI2:Coll w w.heap.size T' s (W'.putObj l' (.loop r')):=hI.stay (As.putObj (n₁:=w1.heap.size) (.loop r') hl' hTl') (by omega);generalize W'.putObj l' (.loop r')=W3 at hI2;obtain⟨⟨v,q1,q2,q3⟩,qb⟩:=hI2;obtain⟨va,vc,rfl⟩:=q2.form;have es:=cell_of q1 0;have hsl:=prefix_last hs;rw[List.length_append]at hsl;have hsl2:s.length+1<=400:=by simp at hsl;omega
  have al3:=(Below.refl W3.heap.size W3).alloc (Nat.le_refl _) (.cells #[.int .i64 (x:Int)] 3);have Q3:=Lib.hid (And.intro q1 (And.intro q2 (And.intro q3 (And.intro qb al3))));have hq:=qb.size;clear hI q1 q2 q3 qb al3
  gi_wp2_with (gi_at_builtin
               refine wpListIn_append_own_at _ rfl _ _ 37 rfl w.heap.size 3 i0 (.int .i64 0) 1 8 Tryz.underlying37 hi3 hz0 hz1 hz2 rfl (by decide) _ _ _ rfl (row_below Q3.out.2.1 Q3.out.2.2.2.2) ⟨W3.heap.size,0,none⟩ 1 1 [.int .i64 (x:Int)] rfl rfl (cells_new W3 [.int .i64 (x:Int)] 3) (by intro u hu;simp at hu;rw[hu];rfl) (by unfold maxLen;omega) (by omega) (by simp;omega) ?_;intro v6 w6 hown6 hgrow6 _ hat6;have H6:=Lib.hid (coll_grown Q3.out.1 Q3.out.2.1 Q3.out.2.2.1 (Nat.le_refl _) Q3.out.2.2.2.1 Q3.out.2.2.2.2 hown6 hgrow6 hat6);obtain⟨v6a,v6c,rfl⟩:=row_form hown6;clear hown6 hgrow6 hat6;have eo6:=open_of H6.out.1 0
               have ec6:=cell_of H6.out.1 0)
  exact H6.out.2
 case hdone =>
  rintro T' W' hI hf hd0 hdd;obtain⟨⟨v,q1,q2,q3⟩,qb⟩:=hI;have es:=cell_of q1 0;obtain⟨va,vc,rfl⟩:=q2.form;have hw1s:w.heap.size+1<=w1.heap.size:=by omega
  have hsh:As w1.heap.size T' W' (shut [w1.heap.size] W'):=As.shut [w1.heap.size] _ (fun E hE=>by simp at hE;subst hE;exact⟨Nat.le_refl _,hd0⟩);have HF:=Lib.hid (And.intro (ownsRow_same q2 fun k hk hl=>hsh.same k hl (.inr ((q3 k).2 (.inr hk)))) (hsh.below qb (by omega) (Nat.le_refl _)));have HQ:=Lib.hid hdd;clear q1 q2 q3 qb hf hd0 hdd hsh
  gi_wp2
  exact leave_marks [w1.heap.size] _ (by simp) (fun E hE2=>by simp at hE2;subst hE2;exact HQ.out) ⟨.slice va (downM D i).length vc,by simp[results,Tryz.results101,go_sem],_,rfl,HF.out⟩
 case hstop =>
  rintro T' q W' hq hjx;exact hjx.elim
theorem collect_hid (D:List Nd)(R:Right D)(hf:FitD D)(i:Nat)(hi:i<D.length)(Bn Bl:Nat):Hid (∀ w0 sl A K,DocIn w0 sl D A K->∀ W,Below w0.heap.size w0 W->W.heap[Bn]? = some (.cells #[.int .i64 (i:Int)] 3 (0,0))->W.heap[Bl]? = some (.cells #[sl] 22 (0,0))->Calls Tryz.prog 67 #[.func (.func 99) #[] #[.pointer (some ⟨Bn,0,none⟩),.pointer (some ⟨Bl,0,none⟩)]] W fun e w'=>∃ v,e=.returned v/\OwnI w' W.heap.size v (downM D i)/\Below W.heap.size W w'):=Lib.hid fun w0 sl A K hd w b0 hbn hbl=>by
 have C:=Lib.hid ((appendSeq_hid D R hf i hi Bn Bl).out w0 sl A K hd w b0 hbn hbl);clear hd b0 hbn hbl
 go_enter Tryz.func67,Tryz.ntmps67
 go_wp2_with fail
 refine C.out.mono ?_;rintro e w1 ⟨v,rfl,o1,b1⟩;have H1:=Lib.hid (And.intro o1 b1);obtain⟨va,vc,rfl⟩:=o1.form;clear C o1 b1
 go_wp2
 go_ret
 exact⟨_,rfl,H1.out⟩
theorem belowP_hid (D:List Nd)(hf:FitD D)(n:Int):Hid (∀ W sl A K,DocIn W sl D A K->Capd D A->Calls Tryz.prog 34 #[.agg #[sl],.int .i64 n] W fun e w'=>∃ v,e=.returned v/\OwnI w' W.heap.size v (belowM D n)/\Below W.heap.size W w'):=Lib.hid fun w sl A K hd hcap=>by
 obtain⟨a,c,rfl⟩:=hd.form;obtain⟨d1,b1,l1⟩:=docBox w hd;have CT:=isThere_hid D hf n;generalize hw1:w.alloc (.cells #[.slice a D.length c] 24)=w1 at d1 b1 l1;have e0:=cell_of b1 0;have H1:=Lib.hid (And.intro d1 (And.intro b1 l1));have HC:=Lib.hid hcap;clear hd d1 b1 l1 hcap
 cases ht:thereM D n with
 | false =>
   rw[ht]at CT;have HE:Hid (belowM D n=[]):=Lib.hid (by unfold belowM;rw[ht];rfl)
   go_enter Tryz.func34,Tryz.ntmps34
   go_wp2_with fail
   (refine(CT.out _ _ _ _ H1.out.1 HC.out).mono ?_)
   rintro e w2 ⟨rfl,b2⟩;have H2:=Lib.hid (H1.out.2.2.trans (b2.mono H1.out.2.2.size));clear b2 hw1 CT
   go_wp2
   go_ret
   exact⟨_,rfl,by rw[HE.out];exact World.ownsRow_nil _ _ _ _,H2.out⟩
 | true =>
   rw[ht]at CT;obtain⟨R,t,rfl,htl⟩:=there_right ht;have HE:Hid (belowM D (t:Int)=downM D t):=Lib.hid (by unfold belowM;rw[if_pos ht,Int.toNat_natCast]);clear ht
   go_enter Tryz.func34,Tryz.ntmps34
   go_wp2_with fail
   (refine(CT.out _ _ _ _ H1.out.1 HC.out).mono ?_)
   rintro e w2 ⟨rfl,b2⟩;obtain⟨d2,bx2⟩:=H1.out.1.boxed H1.out.2.1 b2;have e0:=cell_of bx2 0;have CW:=walk_any (.slice a D.length c) ⟨_,_,_,rfl⟩ (t:Int) w2;obtain⟨w5,hw5,b5,x0,x1,s5⟩:=walk_boxes w2 (.slice a D.length c) t;rw[hw5]at CW;have C:=Lib.hid ((collect_hid D R hf t htl (w2.heap.size+1) w2.heap.size).out w2 _ A K d2 w5 b5 x1 x0);have HB:=Lib.hid ((H1.out.2.2.trans (b2.mono H1.out.2.2.size)).trans (b5.mono (H1.out.2.2.trans (b2.mono H1.out.2.2.size)).size));clear b2 d2 bx2 H1 hw5 hw1 CT b5 x0 x1 s5
   go_wp2_with fail
   refine CW.mono ?_;rintro e w6 ⟨rfl,hw6⟩;rw[hw6];clear hw6 CW e0
   go_wp2_with fail
   refine C.out.mono ?_;rintro e w7 ⟨v,rfl,o7,b7⟩;obtain⟨va,vc,rfl⟩:=o7.form;have H7:=Lib.hid (And.intro (o7.low HB.out.size) (HB.out.trans (b7.mono HB.out.size)));clear C o7 b7
   go_wp2
   go_ret
   exact⟨_,rfl,by rw[HE.out];exact H7.out.1,H7.out.2⟩
end Go.Proofs.YtlnfbjbagmfpiaaGreatDoor.Dm
namespace Go.Proofs.YtlnfbjbagmfpiaaGreatDoor.Dm
open Go.RowKit
theorem Tinfo5:(Tryz.prog.info? 5).map (fun i=>(i.zero,i.size,i.bytes))=some (some (.int .u8 0),1,1):=by kernel_rfl
theorem byteCells_append (a b:List UInt8):Lib.byteCells (a++b)=Lib.byteCells a++Lib.byteCells b:=by simp[Lib.byteCells]
theorem run_append_string_at (w:World) (base:Nat) (t u ty e:TypeId) (i:TypeInfo) (ht:Tryz.prog.underlying t=some (.slice e)) (hu:Tryz.prog.underlying u=some .string) (hi:Tryz.prog.info? e=some i) (hz:i.zero=some (.int .u8 0)) (hsize:i.size=1) (hby:i.bytes=1)
 (v:Value) (n:Nat) (xs:List Value) (hown:w.ownsRow base e 1 v n xs) (s:ByteArray) (h63:n+s.size<=maxLen) (hbytes:n+s.size<=140737488355328) (hbase:base<=w.heap.size) :
 ∃ v' w',(Builtin.append_ #[t,u] ty #[v,.string s]).run Tryz.prog w=.ok v' w'/\w'.ownsRow base e 1 v' (n+s.size) (xs++Lib.strCells s)/\w.grownBy w' v.ownBlock/\(v'=.slice none 0 0↔v=.slice none 0 0/\s.size=0)/\(v'.ownBlock=v.ownBlock\/∃ k,v'.ownBlock=some k/\w.heap.size<=k):=by
 obtain⟨v',w',hr,h2,h3,h4⟩:=Lib.run_append_own_string (P:=Tryz.prog) w base t u ty e i ht hu hi hz hsize hby v n xs hown s h63 hbytes hbase;refine⟨v',w',hr,h2,h3,h4,?_⟩;rcases hown.2 with ⟨rfl,rfl⟩ | ⟨g,cap,cur,rfl,hbg,hg,hnc,hcm,hcs,htake⟩
 · have hx:xs=[]:=List.eq_nil_of_length_eq_zero (by simpa using hown.1)
   subst hx;obtain⟨v2,w2,hr2,k2,_,_⟩:=Lib.run_append_own_string (P:=Tryz.prog) w w.heap.size t u ty e i ht hu hi hz hsize hby (.slice none 0 0) 0 [] (World.ownsRow_nil _ _ _ _) s h63 hbytes (Nat.le_refl _);rw[hr]at hr2
   cases hr2
   rcases rowForms k2 with ⟨e1,_⟩ | ⟨g,c,e1⟩
   · exact .inl (by rw[e1])
   · exact .inr ⟨g,by rw[e1];rfl,(k2.lt g (by rw[e1];rfl)).1⟩
 · by_cases hroom:n+s.size<=cap
   · have hcs':cur.size=cap:=by simpa using hcs
     rw[Lib.run_append_room_string (P:=Tryz.prog) w t u ty e i ht hu hi hsize g n cap cur hg s hroom (by omega)]at hr
     cases hr
     exact .inl rfl
   · have hxl:xs.length=n:=by simpa using hown.1
     have holds:∀ j u,xs[j]? = some u->w.cell? ((⟨g,0,none⟩:Addr).add j)=some u:=hown.cells (g:=g) rfl;rw[Lib.run_append_grow_string (P:=Tryz.prog) w t u ty e i (.int .u8 0) ht hu hi hz ⟨g,0,none⟩ n cap xs (by rw[hsize];simpa using hxl) holds s (by omega) (by unfold maxLen at h63;omega) (by rw[hby];exact growslice_fits (by omega) (by omega))]at hr
     cases hr
     exact .inr ⟨w.heap.size,rfl,Nat.le_refl _⟩
theorem append_string_at (w:World) {ops:Array Oper} {rest:List Oper} {o:Oper} {a:Act} {Q:Exit->Act->World->Prop} (hgd:o.guard=none) (sl x:Operand) (t u:TypeId)
 (ho:o.op=.call { callee := .builtin .append,args:=#[sl,x],argTypes:=#[t,u] })
 (base:Nat) (e:TypeId) (i:TypeInfo) (ht:Tryz.prog.underlying t=some (.slice e)) (hu:Tryz.prog.underlying u=some .string) (hi:Tryz.prog.info? e=some i) (hz:i.zero=some (.int .u8 0)) (hsize:i.size=1) (hby:i.bytes=1)
 (v:Value) (n:Nat) (xs:List Value) (hs:a.eval sl=v) (hown:w.ownsRow base e 1 v n xs) (s:ByteArray) (hx:a.eval x=.string s) (h63:n+s.size<=maxLen) (hbytes:n+s.size<=140737488355328) (hbase:base<=w.heap.size)
 (h:∀ v' w',w'.ownsRow base e 1 v' (n+s.size) (xs++Lib.strCells s)->w.grownBy w' v.ownBlock->(v'=.slice none 0 0↔v=.slice none 0 0/\s.size=0)->(v'.ownBlock=v.ownBlock\/∃ k,v'.ownBlock=some k/\w.heap.size<=k)->wpList Tryz.prog ops Q rest (a.put o.dst v') w'):wpList Tryz.prog ops Q (o :: rest) a w:=by
 refine wpList_plain hgd fun K hK => ?_;obtain⟨v',w',hr,h2,h3,h4,h5⟩:=run_append_string_at w base t u o.type e i ht hu hi hz hsize hby v n xs hown s h63 hbytes hbase;unfold Oper.wp execOp;simp only[ho,resolve,invoke,builtin,Sem.run_bind,Sem.run_pure,Result.andThen_ok,List.map_toArray,List.map_cons,List.map_nil,hs,hx,hr];exact hK _ _ (h v' w' h2 h3 h4 h5)
structure WrR (R:Nat) (bv bv':Value) (w w':World):Prop where
 os:w'.os=w.os
 tape:w'.tape=w.tape
 output:w'.output=w.output
 size:w.heap.size<=w'.heap.size
 same:∀ k,k<w.heap.size->k≠R->bv.ownBlock≠some k->w'.heap[k]? = w.heap[k]?
 at':bv'.ownBlock=bv.ownBlock\/∃ k,bv'.ownBlock=some k/\w.heap.size<=k
theorem WrR.mk' {R:Nat}{bv v':Value}{w w1 w2:World}(k1:Kp (fun k _=>k=R) w w1)(hg:w1.grownBy w2 bv.ownBlock)(hat:v'.ownBlock=bv.ownBlock\/∃ k,v'.ownBlock=some k/\w1.heap.size<=k)(j:Nat):WrR R bv v' w (w2.setCell ⟨R,j,none⟩ v'):=by
 have b0:Below 0 w1 w2:=Below.grown (Below.refl 0 w1) hg (Nat.zero_le _) (fun _ _=>Nat.zero_le _);have h1:=b0.size;have h2:=k1.size;refine⟨b0.os.trans k1.os,b0.tape.trans k1.tape,b0.output.trans k1.output,by simp;omega,fun k hk hR hv => ?_,hat.imp id fun⟨k,e,h⟩=>⟨k,e,by omega⟩⟩;refine(heap_setCell_ne _ _ _ hR).trans ((hg.block _ (by omega) (fun e=>hv e.symm)).trans ?_);rw[Array.getElem?_eq_getElem hk];exact k1.same k _ (Array.getElem?_eq_getElem hk) fun _ _ _ _=>hR
structure BD (w:World) (B R o:Nat) (H:List UInt8) (c:Array Value) (t:TypeId) (p bv:Value):Prop where
 blk:w.heap[R]? = some (.cells c t (0,0))
 c0:c[o]? = some p
 c1:c[o+1]? = some bv
 own:p=.pointer none\/p=.pointer (some ⟨R,o,none⟩)
 row:w.ownsRow B 5 1 bv H.length (Lib.byteCells H)
 nil:H=[]->bv=.slice none 0 0
def selfP (R o:Nat):Value := .pointer (some ⟨R,o,none⟩)
theorem TinfoBd:(Tryz.prog.info? 100).map (fun i=>i.size)=some 2:=by kernel_rfl
theorem cellsByte:Tryz.prog.cellsOf 5=1:=by kernel_rfl
theorem setSame {c:Array Value}{o:Nat}{p:Value}(h:c[o]? = some p):c.setIfInBounds o p=c:=by
 apply Array.ext (by simp)
 intro i h1 h2;rw[Array.getElem_setIfInBounds];split
 · rename_i e
   subst e;rw[Array.getElem?_eq_getElem h2]at h;exact(Option.some.inj h).symm
 · rfl
theorem check_any (R o:Nat) (c:Array Value) (t:TypeId) (p:Value) (w:World) (hb:w.heap[R]? = some (.cells c t (0,0))) (h0:c[o]? = some p) (hp:p=.pointer none\/p=.pointer (some ⟨R,o,none⟩)) (ho:o<c.size)
 (hl:liesAt Tryz.prog Tryz.prog.depth t (c.size / Tryz.prog.cellsOf t) o 100 1=true) :
 Calls Tryz.prog 100 #[.pointer (some ⟨R,o,none⟩)] w fun e w'=>e=.returned (.tuple #[])/\w'.heap[R]? = some (.cells (c.setIfInBounds o (selfP R o)) t (0,0))/\Kp (fun k _=>k=R) w w':=by
 obtain⟨j,hj,hjs⟩:=Option.map_eq_some_iff.1 TinfoBd;have hc0:=cell_of hb o;rw[h0]at hc0;have hfz:=open_of hb o;have hsh:w.shape? R=some (t,c.size):=by simp[World.shape?,hb]
 rcases hp with rfl | rfl
 · have HS:=Lib.hid (heap_setCell_same w R o c t (0,0) (selfP R o) hb)
   have HK:Hid (Kp (fun k _=>k=R) w (w.setCell ⟨R,o,none⟩ (selfP R o))):=Lib.hid (Kp.of_set hb _ rfl);unfold selfP at HS HK ⊢
   go_enter Tryz.func100,Tryz.ntmps100
   go_wp2
   rw[Lib.run_to_unsafe w ⟨R,o,none⟩ Tryz.underlying98 Tryz.underlying173 hj (by rw[hjs];decide) hsh ho];simp only[Result.andThen];rw[Oper.upon_value]
   go_wp2
   rw[run_callFunc_extern Tryz.func128 (by kernel_rfl) (by kernel_rfl) (by kernel_rfl) (e:=Extern.AbiNoEscape.same) (by kernel_rfl)];rw[Lib.run_noEscape];simp only[Result.andThen];rw[Oper.upon_value]
   go_wp2
   rw[Lib.run_from_unsafe w ⟨R,o,none⟩ Tryz.underlying173 Tryz.underlying98 hj hsh hl];simp only[Result.andThen];rw[Oper.upon_value]
   go_wp2
   go_end0
   exact⟨rfl,HS.out,HK.out⟩
 · have HS:=Lib.hid (show w.heap[R]? = some (.cells (c.setIfInBounds o (selfP R o)) t (0,0)) by unfold selfP;rw[setSame h0];exact hb)
   go_enter Tryz.func100,Tryz.ntmps100
   go_wp2
   rw[Lib.run_neq_ptr_same w _ Tryz.underlying98 hj]
   go_wp2
   go_end0
   exact⟨rfl,HS.out,Kp.refl _ _⟩
theorem BD.size {w:World}{B R o:Nat}{H:List UInt8}{c:Array Value}{t:TypeId}{p bv:Value}(h:BD w B R o H c t p bv):o+1<c.size:=(Array.getElem?_eq_some_iff.1 h.c1).1
theorem BD.form {w:World}{B R o:Nat}{H:List UInt8}{c:Array Value}{t:TypeId}{p bv:Value}(h:BD w B R o H c t p bv):∃ a k,bv=.slice a H.length k:=by
 rcases rowForms h.row with ⟨e1,e2⟩ | ⟨g,k,e1⟩
 · exact⟨none,0,by rw[e1,e2]⟩
 · exact⟨_,_,e1⟩
theorem write_any (B R o:Nat) (H:List UInt8) (c:Array Value) (t:TypeId) (p bv:Value) (T:ByteArray) (w:World) (h:BD w B R o H c t p bv) (hB:B<=w.heap.size) (ht:t≠5) (hlen:H.length+T.size<=140737488355328)
 (hl:liesAt Tryz.prog Tryz.prog.depth t (c.size / Tryz.prog.cellsOf t) o 100 1=true) :
 Calls Tryz.prog 66 #[.pointer (some ⟨R,o,none⟩),.string T] w fun e w'=>e=.returned (.tuple #[.int .i64 T.size,.nilIface])/\∃ bv',BD w' B R o (H++T.data.toList) ((c.setIfInBounds o (selfP R o)).setIfInBounds (o+1) bv') t (selfP R o) bv'/\WrR R bv bv' w w':=by
 obtain⟨i0,hi,hz0,hz1,hz2⟩:=info_parts Tinfo5;have hs:=h.size;have hnil:=h.nil;have C:=Lib.hid (check_any R o c t p w h.blk h.c0 h.own (by omega) hl);have hrow:=h.row;have hc1:=h.c1;have hblk:=h.blk;have hne:=row_ne hrow hblk ht;clear h
 go_enter Tryz.func66,Tryz.ntmps66
 go_wp2_with (go_at_call 100;refine C.out.mono ?_)
 rintro e w1 ⟨rfl,hb1,k1⟩;have hrow1:=k1.row hrow fun k hk _ e=>hne (by rw[hk,e])
 have hc1':(c.setIfInBounds o (selfP R o))[o+1]? = some bv:=by
  rw[Array.getElem?_setIfInBounds_ne (by omega)];exact hc1
 have hcell:=cell_of hb1 (o+1);rw[hc1']at hcell;have hop:=open_of hb1 (o+1);have hsz:=k1.size;clear hrow hblk C hc1
 go_wp2_with (
  at_builtin
  refine append_string_at _ rfl _ _ 66 9 rfl B 5 i0 Tryz.underlying66 Tryz.underlying9 hi hz0 hz1 hz2 _ _ _ rfl hrow1 T rfl (by unfold maxLen;omega) hlen (by omega) ?_;intro v' w2 hown' hgrow hnil2 hat2
  have hb2:w2.heap[R]? = some (.cells (c.setIfInBounds o (selfP R o)) t (0,0)):=by
   rw[hgrow.block R (lt_of_block hb1) (fun e=>hne e.symm)];exact hb1
  have hop2:=open_of hb2 (o+1);have hcell2:=cell_of hb2 (o+1);rw[hc1']at hcell2;have HKX:=Lib.hid (WrR.mk' (R:=R) k1 hgrow hat2 (o+1));have HB:=Lib.hid (heap_setCell_same w2 R (o+1) _ t (0,0) v' hb2)
  have HR:Hid ((w2.setCell ⟨R,o+1,none⟩ v').ownsRow B 5 1 v' (H++T.data.toList).length (Lib.byteCells (H++T.data.toList))):=Lib.hid (by
   have h1:w2.ownsRow B 5 1 v' (H++T.data.toList).length (Lib.byteCells (H++T.data.toList)):=by
    rw[byteCells_append,List.length_append,lsize];exact hown'
   exact(Kp.of_set (P:=fun k _=>k=R) hb2 v' rfl).row h1 fun k hk _ e=>row_ne h1 hb2 ht (by rw[hk,e]))
  have HN:Hid (H++T.data.toList=[]->v'=.slice none 0 0):=Lib.hid fun e=>hnil2.2 ⟨hnil (List.append_eq_nil_iff.1 e).1,by rw[<- lsize,(List.append_eq_nil_iff.1 e).2];rfl⟩
  have HF:Hid (∃ a k,v'=.slice a (H.length+T.size) k):=Lib.hid (by
   rcases rowForms hown' with ⟨e1,e2⟩ | ⟨g,k,e1⟩
   · exact⟨none,0,by rw[e1,e2]⟩
   · exact⟨_,_,e1⟩)
  clear hown' hgrow hnil2 hrow1 hnil hat2;obtain⟨va,vk,rfl⟩:=HF.out
  clear HF)
 go_ret2
 refine⟨rfl,_,⟨HB.out,?_,?_,.inr rfl,HR.out,HN.out⟩,HKX.out⟩
 · rw[Array.getElem?_setIfInBounds_ne (by omega),Array.getElem?_setIfInBounds_self_of_lt (by omega)]
 · rw[Array.getElem?_setIfInBounds_self_of_lt (by simp;omega)]
theorem kp_drew {P:Nat->TypeId->Prop}(w:World):Kp P w w.drew:=⟨rfl,rfl,rfl,Nat.le_refl _,fun _ _ h _=>h⟩
theorem Kp.froze {P:Nat->TypeId->Prop}{w:World}{g:Nat}{cur:Array Value}{t:TypeId}{fr:Nat × Nat}(hg:w.heap[g]? = some (.cells cur t fr))(n:Nat)(hp:P g t):Kp P w (w.freeze ⟨g,0,none⟩ n):=by
 unfold World.freeze;split
 · exact Kp.refl _ _
 · refine⟨rfl,rfl,rfl,by simp,fun k o hk hn => ?_⟩
   simp only[Array.getElem?_modify]
   by_cases e:g=k
   · subst e
     rw[hk]at hg
     cases hg
     exact absurd hp (hn _ _ _ rfl)
   · rw[if_neg e];exact hk
theorem string_any (B R o:Nat)(H:List UInt8)(c:Array Value)(t:TypeId)(p bv:Value)(w:World)(h:BD w B R o H c t p bv) :
 Calls Tryz.prog 59 #[.pointer (some ⟨R,o,none⟩)] w fun e w'=>e=.returned (.string ⟨H.toArray⟩)/\Kp (fun k t'=>B<=k/\t'=5) w w':=by
 have hc:=cell_of h.blk (o+1);rw[h.c1]at hc
 by_cases h0:H=[]
 · have e:=h.nil h0
   subst e;subst h0;have c1:w.drew.cell? ⟨R,o+1,none⟩=some (.slice none 0 0):=hc;have hSD:(Builtin.unsafeSliceData_ #[66] 138 #[.slice none 0 0]).run Tryz.prog w.drew=.ok (.pointer none) w.drew:=rfl;have hUS:(Builtin.unsafeString_ #[138,3] 9 #[.pointer none,.int .i64 0]).run Tryz.prog w.drew=.ok (.string .empty) w.drew:=Lib.run_unsafeString_none _ _ _ _ none;clear h
   go_enter Tryz.func59,Tryz.ntmps59
   go_wp2
   go_region
   all_goals (go_wp2;go_ret;exact⟨rfl,kp_drew w⟩)
 · have hrow:=h.row
   have hl0:H.length≠0:=by simpa using h0
   obtain⟨g,cap,cur,rfl,hbg,hg,hnc,hcm,hcs,htake⟩:∃ g cap cur,bv=.slice (some ⟨g,0,none⟩) H.length cap/\B<=g/\w.heap[g]? = some (.cells cur 5 (0,0))/\H.length<=cap/\cap<=maxLen/\cur.size=cap * 1/\cur.toList.take (H.length * 1)=Lib.byteCells H:=by
    rcases hrow.2 with ⟨_,hz⟩ | r
    · exact absurd hz hl0
    · exact r
   have c1:w.drew.cell? ⟨R,o+1,none⟩=some (.slice (some ⟨g,0,none⟩) H.length cap):=hc;have hSD:(Builtin.unsafeSliceData_ #[66] 138 #[.slice (some ⟨g,0,none⟩) H.length cap]).run Tryz.prog w.drew=.ok (.pointer (some ⟨g,0,none⟩)) w.drew:=Lib.run_unsafeSliceData_row _ _ _ _ _ _ (by omega)
   have hUS:(Builtin.unsafeString_ #[138,3] 9 #[.pointer (some ⟨g,0,none⟩),.int .i64 H.length]).run Tryz.prog w.drew=.ok (.string ⟨H.toArray⟩) (w.drew.freeze ⟨g,0,none⟩ H.length):=by
    refine Lib.run_unsafeString_row w.drew 138 3 9 5 Tryz.underlying138 cellsByte g cur.size (by have hg':w.drew.heap[g]? = some (.cells cur 5 (0,0)):=hg;simp[World.shape?,hg']) H h0 (by omega) (by unfold maxLen at hcm;omega) ?_;intro j x hx;exact hrow.cells (g:=g) rfl j (.int .u8 x.toNat) (by simp[Lib.byteCells,hx])
   have hK:Kp (fun k t'=>B<=k/\t'=5) w (w.drew.freeze ⟨g,0,none⟩ H.length):=(kp_drew w).trans (Kp.froze (w:=w.drew) hg _ ⟨hbg,rfl⟩);have HK:=Lib.hid hK;clear h hrow hK htake
   go_enter Tryz.func59,Tryz.ntmps59
   go_wp2
   go_region
   all_goals (go_wp2;go_ret;exact⟨rfl,HK.out⟩)
end Go.Proofs.YtlnfbjbagmfpiaaGreatDoor.Dm
namespace Go.Proofs.YtlnfbjbagmfpiaaGreatDoor.Dm
open Go.RowKit Go.Shelf
attribute [local go_sem] Oper.semAt_some
theorem liesO:liesAt Tryz.prog Tryz.prog.depth 100 (2 / Tryz.prog.cellsOf 100) 0 100 1=true:=by kernel_rfl
structure TxtI (w:World) (sl:Value) (D:List Nd) (Db Rb:Nat) (T:Nat->Prop) (s:List Nat) (A:World):Prop where
 bd:∃ p bv,BD A w.heap.size Rb 0 (s.flatMap (dataM D)) #[p,bv] 100 p bv/\∀ k,T k↔k=Rb\/bv.ownBlock=some k
 db:A.heap[Db]? = some (.cells #[sl] 24 (0,0))
 nd:¬ T Db
 rb:w.heap.size<=Rb
 bl:Below w.heap.size w A
section
variable {w A B:World} {sl:Value} {D:List Nd} {Db Rb n₁:Nat} {T:Nat->Prop} {s:List Nat}
theorem TxtI.lt (h:TxtI w sl D Db Rb T s A):∀ k,T k->k<A.heap.size:=fun k hk=>by
 obtain⟨p,bv,h1,h2⟩:=h.bd;rcases(h2 k).1 hk with rfl | h
 · exact lt_of_block h1.blk
 · exact(h1.row.lt k h).2
theorem TxtI.from (h:TxtI w sl D Db Rb T s A):∀ k,T k->w.heap.size<=k:=fun k hk=>by
 obtain⟨p,bv,h1,h2⟩:=h.bd;rcases(h2 k).1 hk with rfl | h3
 · exact h.rb
 · exact(h1.row.lt k h3).1
theorem TxtI.stay (h:TxtI w sl D Db Rb T s A)(hA:As n₁ T A B)(hn:w.heap.size<=n₁)(hd:Db<n₁):TxtI w sl D Db Rb T s B:=by
 obtain⟨p,bv,h1,h2⟩:=h.bd;exact⟨⟨p,bv,⟨hA.at h1.blk (.inr ((h2 _).2 (.inl rfl))),h1.c0,h1.c1,h1.own,ownsRow_same h1.row fun k hk hl=>hA.same k hl (.inr ((h2 k).2 (.inr hk))),h1.nil⟩,h2⟩,hA.at h.db (.inl hd),h.nd,h.rb,hA.below h.bl hn (Nat.le_refl _)⟩
theorem TxtI.wrote (h:TxtI w sl D Db Rb T s A){q bv bv':Value}(h2:∀ k,T k↔k=Rb\/bv.ownBlock=some k){x:Nat}(bd:BD B w.heap.size Rb 0 ((s++[x]).flatMap (dataM D)) #[q,bv'] 100 q bv')(hw:WrR Rb bv bv' A B):∃ T',TxtI w sl D Db Rb T' (s++[x]) B/\Fr T A T' B:=by
 have hdl:=lt_of_block h.db;have hnd:Db≠Rb/\bv.ownBlock≠some Db:=⟨fun e=>h.nd ((h2 _).2 (.inl e)),fun e=>h.nd ((h2 _).2 (.inr e))⟩
 have hless:∀ k,k<A.heap.size->(k=Rb\/bv'.ownBlock=some k)->T k:=fun k hk hT=>by
  rcases hT with hT | hT
  · exact(h2 k).2 (.inl hT)
  · rcases hw.at' with e | ⟨j,e,hj⟩
    · exact(h2 k).2 (.inr (by rw[<- e];exact hT))
    · rw[hT]at e
      injection e with e
      omega
 refine⟨fun k=>k=Rb\/bv'.ownBlock=some k,⟨⟨q,bv',bd,fun k=>Iff.rfl⟩,(hw.same _ hdl hnd.1 hnd.2).trans h.db,fun hT=>h.nd (hless _ hdl hT),h.rb,?_⟩,?_⟩
 · exact h.bl.trans ⟨hw.os,hw.tape,hw.output,hw.size,fun k hk=>hw.same k (by have:=h.bl.size;omega) (by have:=h.rb;omega) fun e=>by have:=h.from k ((h2 k).2 (.inr e));omega⟩
 · exact⟨hw.os,hw.tape,hw.output,hw.size,fun k hk hT=>hw.same k hk (fun e=>hT ((h2 k).2 (.inl e))) (fun e=>hT ((h2 k).2 (.inr e))),hless⟩
end
theorem textP_hid (D:List Nd)(hf:FitD D)(n:Int):Hid (∀ W sl A K,DocIn W sl D A K->Capd D A->Calls Tryz.prog 32 #[.agg #[sl],.int .i64 n] W fun e w'=>e=.returned (strV (textsM D n))/\Below W.heap.size W w'):=Lib.hid fun w sl A K hd hcap=>by
 obtain⟨a,c,rfl⟩:=hd.form;obtain⟨d1,b1,l1⟩:=docBox w hd;have CT:=isThere_hid D hf n;generalize hw1:w.alloc (.cells #[.slice a D.length c] 24)=w1 at d1 b1 l1;have e0:=cell_of b1 0;have H1:=Lib.hid (And.intro d1 (And.intro b1 l1));have HC:=Lib.hid hcap;have HF:=Lib.hid hf;clear d1 b1 l1 hcap hf
 cases ht:thereM D n with
 | false =>
   rw[ht]at CT;have HE:Hid (textsM D n=[]):=Lib.hid (by unfold textsM belowM;rw[ht];rfl);clear hd
   go_enter Tryz.func32,Tryz.ntmps32
   go_wp2_with fail
   (refine(CT.out _ _ _ _ H1.out.1 HC.out).mono ?_)
   rintro e w2 ⟨rfl,b2⟩;have H2:=Lib.hid (H1.out.2.2.trans (b2.mono H1.out.2.2.size));clear b2 hw1 CT
   go_wp2
   go_ret
   exact⟨by rw[HE.out];rfl,H2.out⟩
 | true =>
   rw[ht]at CT;obtain⟨R,t,rfl,htl⟩:=there_right ht;have HE:Hid (textsM D (t:Int)=(downM D t).flatMap (dataM D)):=Lib.hid (by unfold textsM belowM;rw[if_pos ht,Int.toNat_natCast]);have G:=goes_hid D R HF.out t htl;have hdl:=down_len R htl;have hlt:∀ x∈downM D t,x<D.length:=fun x hx=>down_lt R htl hx;have HL:=Lib.hid (And.intro hlt hdl);have HD:=Lib.hid hd;clear ht hd hlt hdl;refine(callsIn_wide (n:=0)).1 ?_;refine callsIn_of_wp_marks Tryz.func32 rfl trivial ?_ rfl;simp only[Tryz.ntmps32,List.size_toArray,List.length_cons,List.length_nil,Nat.reduceAdd,Nat.reduceSub,Array.replicate_succ,Array.replicate_zero,List.push_toArray,List.append_toArray,List.nil_append,List.cons_append]
   gi_wp2_with fail
   refine⟨trivial,rfl,?_⟩;refine((callsIn_wide (n:=0)).2 (CT.out _ _ _ _ H1.out.1 HC.out)).mono ?_;rintro e w2 ⟨rfl,b2⟩;obtain⟨d2,bx2⟩:=H1.out.1.boxed H1.out.2.1 b2;have l2:=H1.out.2.2.trans (b2.mono H1.out.2.2.size);have hs1:w1.heap.size=w.heap.size+1:=by rw[<- hw1];simp
   have hs2:=b2.size;clear b2 d2 H1 CT hw1 e0;have al3:=(Below.refl w2.heap.size w2).alloc (Nat.le_refl _) (.cells #[.pointer none,.slice none 0 0] 100);have bd3:=new_block w2 (.cells #[.pointer none,.slice none 0 0] 100);have bx3:=(al3.block _ (lt_of_block bx2)).trans bx2;generalize hw3:w2.alloc (.cells #[.pointer none,.slice none 0 0] 100)=w3 at al3 bd3 bx3;have e0:=cell_of bx3 0;have CW:=walk_any (.slice a D.length c) ⟨_,_,_,rfl⟩ (t:Int) w3;obtain⟨w5,hw5,b5,x0,x1,s5⟩:=walk_boxes w3 (.slice a D.length c) t;rw[hw5]at CW;have l5:=(l2.trans (al3.mono l2.size)).trans (b5.mono (l2.trans (al3.mono l2.size)).size);have hs3:w3.heap.size=w2.heap.size+1:=by rw[<- hw3];simp
   have HT:Hid (TxtI w (.slice a D.length c) D w.heap.size w2.heap.size (fun k=>k=w2.heap.size) [] w5):=Lib.hid ⟨⟨.pointer none,.slice none 0 0,⟨(b5.block _ (lt_of_block bd3)).trans bd3,rfl,rfl,.inl rfl,World.ownsRow_nil _ _ _ _,fun _=>rfl⟩,fun k=>⟨.inl,fun h=>h.elim id (fun h=>by cases h)⟩⟩,(b5.block _ (lt_of_block bx3)).trans bx3,(by omega),by omega,l5⟩;rw[hs3]at x0 x1;have HB5:=Lib.hid (And.intro l5 (And.intro x0 x1));clear al3 bd3 bx2 bx3 l2 hw5 b5 x0 x1 l5
   gi_wp2_with fail
   refine⟨trivial,rfl,?_⟩;refine((callsIn_wide (n:=0)).2 CW).mono ?_;rintro e w6 ⟨rfl,hw6⟩;rw[hw6];clear hw6 CW hw3 e0
   gi_wp2
   have hn5:w.heap.size<w5.heap.size/\w2.heap.size<w5.heap.size:=by omega
   refine range_fr (w:=w5) (gf:=99) (lb:=#[.pointer (some ⟨w2.heap.size+1+1,0,none⟩),.pointer (some ⟨w2.heap.size+1,0,none⟩)]) rfl (enters_of Tryz.func99 (by kernel_rfl) rfl) rfl (downM D t) (fun _=>False) (fun k hk=>hk.elim) (TxtI w (.slice a D.length c) D w.heap.size w2.heap.size) (fun _ _ _=>False) (fun k=>k=w2.heap.size)
    (fun T s A h=>h.lt) (fun T s A B h hA=>h.stay hA (by omega) (by omega)) (fun T s A B h hA=>h) HT.out
    (fun l' Y' J' Jx' W' hE' hY' hb' hJ'=>G w _ A K HD.out W'.heap.size l' Y' J' Jx' hE' (fun k=>k=w2.heap.size) W' (w2.heap.size+1+1) (w2.heap.size+1) hJ' (Nat.le_refl _) hY' (HB5.out.1.trans (hb'.mono HB5.out.1.size)) (fun k h=>by omega) ((hb'.block _ (lt_of_block HB5.out.2.2)).trans HB5.out.2.2) ((hb'.block _ (lt_of_block HB5.out.2.1)).trans HB5.out.2.1) (fun h=>by omega) (fun h=>by omega))
    ?hround ?hdone ?hstop
   case hround =>
    rintro l' T' s x W' hl' ⟨r,hr'⟩ hTl' hI hs
    gi_wp2
    refine⟨trivial,fun r' => ?_⟩;have hI2:TxtI w (.slice a D.length c) D w.heap.size w2.heap.size T' s (W'.putObj l' (.loop r')):=hI.stay (As.putObj (n₁:=w5.heap.size) (.loop r') hl' hTl') (by omega) (by omega);generalize W'.putObj l' (.loop r')=W3 at hI2;have hx:x<D.length:=HL.out.1 x (hs.subset (by simp));have zx:(x:Int)<(D.length:Int):=by omega
    have hd3:=HD.out.below hI2.bl;obtain⟨B,off,rfl,c0,-,c2,-⟩:=hd3.node hx;have e0:=cell_of hI2.db 0;have hda:=dataM_at hx;obtain⟨X,hX⟩:=text_of D[x].d;rw[strV_of hX]at c2;rw[<- hX]at hda;have hfd:=(HF.out.2 _ (List.getElem_mem hx)).2.1;rw[<- hX,lsize]at hfd;generalize D[x].k=xk at c0 hda
    by_cases hk:xk=3
    · subst hk
      rw[if_pos rfl]at hda;obtain⟨p,bv,bd,h2⟩:=hI2.bd
      have hbound:(s.flatMap (dataM D)).length+X.size<=140737488355328:=by
       have h1:=List.prefix_iff_eq_take.1 ((List.prefix_append s [x]).trans hs);have h3:=take_bound HF.out (L:=downM D t) (by have:=HL.out.2;have:=HF.out.1;omega) HL.out.1 s.length;rw[<- h1]at h3;omega
      have CW:=Lib.hid (write_any w.heap.size w2.heap.size 0 _ _ _ p bv X W3 bd hI2.bl.size (by decide) hbound liesO);have HI:=Lib.hid hI2;have HDA:=Lib.hid hda;clear hI hI2 bd hda hd3
      gi_wp2_with fail
      refine⟨trivial,rfl,?_⟩;refine(CallsIn.inRound l' ((callsIn_wide (n:=0)).2 CW.out)).mono ?_;rintro e W4 ⟨rfl,bv',bd4,wr4⟩;have HFi:=Lib.hid (HI.out.wrote h2 (x:=x) (by rw[List.flatMap_append];simpa [HDA.out] using bd4) wr4);clear CW bd4 wr4 HI e0 c0 c2
      gi_wp2
      exact HFi.out
    · rw[if_neg hk]at hda
      have hkb:(xk==3)=false:=beq_eq_false_iff_ne.2 hk
      have HFi:Hid (∃ T'',TxtI w (.slice (some ⟨B,off,none⟩) D.length c) D w.heap.size w2.heap.size T'' (s++[x]) W3/\Fr T' W3 T'' W3):=Lib.hid ⟨T',⟨by
       obtain⟨p,bv,bd,h2⟩:=hI2.bd;refine⟨p,bv,?_,h2⟩;rw[List.flatMap_append]
       simpa [hda] using bd,hI2.db,hI2.nd,hI2.rb,hI2.bl⟩,Fr.refl _ _⟩
      clear hI hI2 hda hd3
      gi_wp2
      exact HFi.out
   case hdone =>
    rintro T' W' hI hf hd0 hdd;clear s5 hs3;obtain⟨p,bv,bd,h2⟩:=hI.bd;have CS:=Lib.hid (string_any w.heap.size w2.heap.size 0 _ _ _ p bv W' bd);have HI:=Lib.hid (And.intro hdd hI.bl);clear hI hf hd0 hdd bd h2
    gi_wp2_with fail
    refine⟨trivial,rfl,?_⟩;refine((callsIn_wide (n:=0)).2 CS.out).mono ?_;rintro e W4 ⟨rfl,k4⟩;have hw5:=hn5.1;have HQ:=Lib.hid (k4.same _ _ HI.out.1 (fun _ _ _ h=>by cases h));have HB:Hid (Below w.heap.size w (shut [w5.heap.size] W4)):=Lib.hid ((As.shut (n₁:=w.heap.size) (T:=fun _=>False) [w5.heap.size] _ (fun E hE=>by simp at hE;subst hE;exact⟨by omega,id⟩)).below (HI.out.2.trans (k4.below (fun j t h=>h.1) HI.out.2.size)) (Nat.le_refl _) (Nat.le_refl _));clear CS k4 HI
    gi_wp2
    refine leave_marks [w5.heap.size] _ (by simp) (fun E hE2=>by simp at hE2;subst hE2;exact HQ.out) ?_;refine⟨.string ⟨((downM D t).flatMap (dataM D)).toArray⟩,by simp[results,Tryz.results32,go_sem],?_⟩;rw[HE.out];exact⟨rfl,HB.out⟩
   case hstop =>
    rintro T' q W' hq hjx;exact hjx.elim
end Go.Proofs.YtlnfbjbagmfpiaaGreatDoor.Dm
namespace Go.Proofs.YtlnfbjbagmfpiaaGreatDoor.Dm
open Go.RowKit
theorem cloneA_hid (m:Nat)(cs:List Value)(hm:m<=1000000):Hid (∀ W u,RowIn W u m 2 cs->Calls Tryz.prog 112 #[u] W fun e w'=>∃ v,e=.returned v/\w'.ownsRow W.heap.size 41 2 v m cs/\Below W.heap.size W w'):=Lib.hid fun w u hu=>by
 obtain⟨a,c,rfl⟩:=hu.form;have qn:∀(w:World) (a:Option Addr) (n c n' c':Nat),(binOp .eql 36 (.slice a n c) (.slice none n' c')).run Tryz.prog w=.ok (.bool a.isNone) w:=fun w a n c n' c'=>Lib.run_eql_slice_nil w _ _ a n c n' c' Tryz.underlying36
 cases a with
 | none =>
   have hm0:m=0/\cs=[]:=by
    obtain⟨h1,_,h3⟩:=hu;rcases h3 with ⟨_,e⟩ | ⟨B,off,cap,e,_⟩
    · subst e
      exact⟨rfl,List.eq_nil_of_length_eq_zero h1⟩
    · cases e
   obtain⟨rfl,rfl⟩:=hm0;clear hu
   go_enter Tryz.func112,Tryz.ntmps112
   go_wp2
   go_ret
   exact⟨_,rfl,World.ownsRow_nil _ _ _ _,Below.refl _ _⟩
 | some ad =>
   obtain⟨i0,hi0,hz0,hz1,hz2⟩:=info_parts TinfoA;have al:=(Below.refl w.heap.size w).alloc (Nat.le_refl _) (.cells #[] 41);have HU:=Lib.hid (hu.below al);have HM:=Lib.hid (World.ownsRow_made w #[] 0 (e:=41) (size:=2) (base:=w.heap.size) (Nat.le_refl _) (Nat.zero_le _) (by simp));have HB:=Lib.hid al;have hws:w.heap.size<=(w.alloc (.cells #[] 41)).heap.size:=by simp
   clear hu al
   go_enter Tryz.func112,Tryz.ntmps112
   go_wp2_with (at_builtin
                refine wpList_append_rowG rfl _ _ 36 41 i0 (.agg #[.string ⟨#[]⟩,.string ⟨#[]⟩]) 2 32 Tryz.underlying36 hi0 hz0 hz1 hz2 rfl (by decide) rfl w.heap.size _ 0 _ rfl HM.out _ m cs rfl HU.out (by unfold maxLen;omega) (by omega) hws ?_;intro v6 w6 hown6 hgrow6 hat6;have H6:Hid (w6.ownsRow w.heap.size 41 2 v6 m cs/\Below w.heap.size w w6):=Lib.hid ⟨by simpa using hown6,Below.grown HB.out hgrow6 hws (fun j hj=>by cases hj;exact Nat.le_refl _)⟩;obtain⟨va,vc,rfl⟩:=row_form H6.out.1
                clear hown6 hgrow6 hat6)
   go_ret
   exact⟨_,rfl,H6.out⟩
theorem cloneI_hid (m:Nat)(cs:List Value)(hm:m<=1000000):Hid (∀ W u,RowIn W u m 1 cs->Calls Tryz.prog 113 #[u] W fun e w'=>∃ v,e=.returned v/\w'.ownsRow W.heap.size 3 1 v m cs/\Below W.heap.size W w'):=Lib.hid fun w u hu=>by
 obtain⟨a,c,rfl⟩:=hu.form;have qn:∀(w:World) (a:Option Addr) (n c n' c':Nat),(binOp .eql 37 (.slice a n c) (.slice none n' c')).run Tryz.prog w=.ok (.bool a.isNone) w:=fun w a n c n' c'=>Lib.run_eql_slice_nil w _ _ a n c n' c' Tryz.underlying37
 cases a with
 | none =>
   have hm0:m=0/\cs=[]:=by
    obtain⟨h1,_,h3⟩:=hu;rcases h3 with ⟨_,e⟩ | ⟨B,off,cap,e,_⟩
    · subst e
      exact⟨rfl,List.eq_nil_of_length_eq_zero h1⟩
    · cases e
   obtain⟨rfl,rfl⟩:=hm0;clear hu
   go_enter Tryz.func113,Tryz.ntmps113
   go_wp2
   go_ret
   exact⟨_,rfl,World.ownsRow_nil _ _ _ _,Below.refl _ _⟩
 | some ad =>
   obtain⟨i0,hi0,hz0,hz1,hz2⟩:=info_parts Tinfo3;have al:=(Below.refl w.heap.size w).alloc (Nat.le_refl _) (.cells #[] 3);have HU:=Lib.hid (hu.below al);have HM:=Lib.hid (World.ownsRow_made w #[] 0 (e:=3) (size:=1) (base:=w.heap.size) (Nat.le_refl _) (Nat.zero_le _) (by simp));have HB:=Lib.hid al;have hws:w.heap.size<=(w.alloc (.cells #[] 3)).heap.size:=by simp
   clear hu al
   go_enter Tryz.func113,Tryz.ntmps113
   go_wp2_with (at_builtin
                refine wpList_append_rowG rfl _ _ 37 3 i0 (.int .i64 0) 1 8 Tryz.underlying37 hi0 hz0 hz1 hz2 rfl (by decide) rfl w.heap.size _ 0 _ rfl HM.out _ m cs rfl HU.out (by unfold maxLen;omega) (by omega) hws ?_;intro v6 w6 hown6 hgrow6 hat6;have H6:Hid (w6.ownsRow w.heap.size 3 1 v6 m cs/\Below w.heap.size w w6):=Lib.hid ⟨by simpa using hown6,Below.grown HB.out hgrow6 hws (fun j hj=>by cases hj;exact Nat.le_refl _)⟩;obtain⟨va,vc,rfl⟩:=row_form H6.out.1
                clear hown6 hgrow6 hat6)
   go_ret
   exact⟨_,rfl,H6.out⟩
theorem cloneN_hid (m:Nat)(cs:List Value)(hm:m<=1000000):Hid (∀ W u,RowIn W u m 8 cs->Calls Tryz.prog 111 #[u] W fun e w'=>∃ v,e=.returned v/\w'.ownsRow W.heap.size 39 8 v m cs/\Below W.heap.size W w'):=Lib.hid fun w u hu=>by
 obtain⟨a,c,rfl⟩:=hu.form;have qn:∀(w:World) (a:Option Addr) (n c n' c':Nat),(binOp .eql 22 (.slice a n c) (.slice none n' c')).run Tryz.prog w=.ok (.bool a.isNone) w:=fun w a n c n' c'=>Lib.run_eql_slice_nil w _ _ a n c n' c' Tryz.underlying22
 cases a with
 | none =>
   have hm0:m=0/\cs=[]:=by
    obtain⟨h1,_,h3⟩:=hu;rcases h3 with ⟨_,e⟩ | ⟨B,off,cap,e,_⟩
    · subst e
      exact⟨rfl,List.eq_nil_of_length_eq_zero h1⟩
    · cases e
   obtain⟨rfl,rfl⟩:=hm0;clear hu
   go_enter Tryz.func111,Tryz.ntmps111
   go_wp2
   go_ret
   exact⟨_,rfl,World.ownsRow_nil _ _ _ _,Below.refl _ _⟩
 | some ad =>
   obtain⟨i0,hi0,hz0,hz1,hz2⟩:=info_parts TinfoN;have al:=(Below.refl w.heap.size w).alloc (Nat.le_refl _) (.cells #[] 39);have HU:=Lib.hid (hu.below al);have HM:=Lib.hid (World.ownsRow_made w #[] 0 (e:=39) (size:=8) (base:=w.heap.size) (Nat.le_refl _) (Nat.zero_le _) (by simp));have HB:=Lib.hid al;have hws:w.heap.size<=(w.alloc (.cells #[] 39)).heap.size:=by simp
   clear hu al
   go_enter Tryz.func111,Tryz.ntmps111
   go_wp2_with (at_builtin
                refine wpList_append_rowG rfl _ _ 22 39 i0 (.agg #[.int .i64 0,.string ⟨#[]⟩,.string ⟨#[]⟩,.slice none 0 0,.int .i64 0,.slice none 0 0,.bool false,.bool false]) 8 104 Tryz.underlying22 hi0 hz0 hz1 hz2 rfl (by decide) rfl w.heap.size _ 0 _ rfl HM.out _ m cs rfl HU.out (by unfold maxLen;omega) (by omega) hws ?_;intro v6 w6 hown6 hgrow6 hat6;have H6:Hid (w6.ownsRow w.heap.size 39 8 v6 m cs/\Below w.heap.size w w6):=Lib.hid ⟨by simpa using hown6,Below.grown HB.out hgrow6 hws (fun j hj=>by cases hj;exact Nat.le_refl _)⟩;obtain⟨va,vc,rfl⟩:=row_form H6.out.1
                clear hown6 hgrow6 hat6)
   go_ret
   exact⟨_,rfl,H6.out⟩
end Go.Proofs.YtlnfbjbagmfpiaaGreatDoor.Dm
namespace Go.Proofs.YtlnfbjbagmfpiaaGreatDoor.Dm
open Go.RowKit
theorem copyNode_hid (x:Nd)(hx:FitN x):Hid (∀ W av kv,AtIn W av x.a->IntIn W kv x.c->Calls Tryz.prog 174 #[nodeV x av kv] W fun e w'=>∃ av' kv',e=.returned (nodeV x av' kv')/\w'.ownsRow W.heap.size 41 2 av' x.a.length (atC x.a)/\w'.ownsRow W.heap.size 3 1 kv' x.c.length (inC x.c)/\Below W.heap.size W w'):=Lib.hid fun w av kv ha hk=>by
 obtain⟨aa,ac,rfl⟩:=ha.form;obtain⟨ka,kc,rfl⟩:=hk.form;obtain⟨N,hN⟩:=text_of x.n;obtain⟨T,hT⟩:=text_of x.d;unfold nodeV;rw[strV_of hN,strV_of hT];have CA:=cloneA_hid x.a.length (atC x.a) (by have:=hx.2.2.1;omega);have CK:=cloneI_hid x.c.length (inC x.c) (by have:=hx.2.2.2.1;omega);have ha2:RowIn w (.slice aa x.a.length ac) x.a.length 2 (atC x.a):=ha;clear ha;have ha:=ha2;clear ha2;generalize atC x.a=cA at CA ha ⊢;generalize x.k=xk;generalize x.p=xp;generalize x.b=xb;generalize x.s=xs;have al1:=(Below.refl w.heap.size w).alloc (Nat.le_refl _) (.cells #[.int .i64 xk,.string N,.string T,.slice aa x.a.length ac,.int .i64 xp,.slice ka x.c.length kc,.bool xb,.bool xs] 39);have hb1:=new_block w (.cells #[.int .i64 xk,.string N,.string T,.slice aa x.a.length ac,.int .i64 xp,.slice ka x.c.length kc,.bool xb,.bool xs] 39);have hs1:(w.alloc (.cells #[.int .i64 xk,.string N,.string T,.slice aa x.a.length ac,.int .i64 xp,.slice ka x.c.length kc,.bool xb,.bool xs] 39)).heap.size=w.heap.size+1:=by simp
 generalize hw1:w.alloc (.cells #[.int .i64 xk,.string N,.string T,.slice aa x.a.length ac,.int .i64 xp,.slice ka x.c.length kc,.bool xb,.bool xs] 39)=w1 at al1 hb1 hs1;have al2:=(Below.refl w1.heap.size w1).alloc (Nat.le_refl _) (.cells zeroN 39);have hb2:=new_block w1 (.cells zeroN 39);rw[hs1]at hb2;unfold zeroN at al2 hb2;generalize hw2:w1.alloc (.cells #[.int .i64 0,.string ⟨#[]⟩,.string ⟨#[]⟩,.slice none 0 0,.int .i64 0,.slice none 0 0,.bool false,.bool false] 39)=w2 at al2 hb2;have hb1':=(al2.block _ (lt_of_block hb1)).trans hb1;have hbel:=al1.trans (al2.mono (by omega));have HCA:Hid (∀ W,Below w2.heap.size w2 W->Calls Tryz.prog 112 #[.slice aa x.a.length ac] W fun e w'=>∃ v,e=.returned v/\w'.ownsRow w.heap.size 41 2 v x.a.length cA/\Below w2.heap.size w2 w'):=Lib.hid fun W b=>(CA.out W _ ((ha.below hbel).below b)).mono fun e w' ⟨v,h1,h2,h3⟩=>⟨v,h1,row_low h2 (Nat.le_trans hbel.size b.size),b.trans (h3.mono b.size)⟩;have HCK:Hid (∀ w3,Below w2.heap.size w2 w3->∀ W,Below w3.heap.size w3 W->Calls Tryz.prog 113 #[.slice ka x.c.length kc] W fun e w'=>∃ v,e=.returned v/\w'.ownsRow w.heap.size 3 1 v x.c.length (inC x.c)/\Below w3.heap.size w3 w'):=Lib.hid fun w3 b3 W b=>(CK.out W _ (((hk.below hbel).below b3).below b)).mono fun e w' ⟨v,h1,h2,h3⟩=>⟨v,h1,row_low h2 (Nat.le_trans (Nat.le_trans hbel.size b3.size) b.size),b.trans (h3.mono b.size)⟩;have hsz:=hbel.size;have e3:=cell_of hb1' 3;have e5:=cell_of hb1' 5;have HB:=Lib.hid (And.intro hb1' (And.intro hb2 hbel));have hlt:=lt_of_block hb1';clear ha hk al1 al2 hb1 hb2 hb1' hbel hN hT hx CA CK
 go_enter Tryz.func174,Tryz.ntmps174
 go_wp2_with fail
 clear hw2 hw1
 go_region_with (first
  | (go_at_call 112
     refine(HCA.out _ (by first | exact Below.refl _ _ | exact belowN (Below.refl _ _) _ | exact(Below.refl _ _).drew)).mono ?_;rintro e w3 ⟨av',rfl,o3,b3⟩;obtain⟨va,vc,rfl⟩:=row_form o3;have e5':=(b3.cell (p:=⟨w.heap.size,5,none⟩) hlt).trans e5;have x3:=(b3.block _ (lt_of_block HB.out.1)).trans HB.out.1;have f3:=open_of x3 3
     have f5:=open_of x3 5)
  | (go_at_call 113
     refine(HCK.out _ b3 _ (by first | exact Below.refl _ _ | exact belowN (Below.refl _ _) _ | exact(Below.refl _ _).drew)).mono ?_;rintro e w4 ⟨kv',rfl,o4,b4⟩;obtain⟨vk,vkc,rfl⟩:=row_form o4;have y3:=(b4.block _ (lt_of_block x3)).trans x3;have g3:=open_of y3 3;have g5:=open_of y3 5;have z3:=cell_of y3 3
     have z5:=cell_of y3 5))
 all_goals
  have z1:=(b4.block _ (by have:=b3.size;have:=lt_of_block HB.out.2.1;omega)).trans ((b3.block _ (lt_of_block HB.out.2.1)).trans HB.out.2.1);have p1:(w4.setCell ⟨w.heap.size,3,none⟩ (.slice va x.a.length vc)).heap[w.heap.size]? = some (.cells #[.int .i64 xk,.string N,.string T,.slice va x.a.length vc,.int .i64 xp,.slice ka x.c.length kc,.bool xb,.bool xs] 39 (0,0)):=heap_setCell_same w4 w.heap.size 3 _ _ _ (.slice va x.a.length vc) y3;have p2:((w4.setCell ⟨w.heap.size,3,none⟩ (.slice va x.a.length vc)).setCell ⟨w.heap.size,5,none⟩ (.slice vk x.c.length vkc)).heap[w.heap.size]? = some (.cells #[.int .i64 xk,.string N,.string T,.slice va x.a.length vc,.int .i64 xp,.slice vk x.c.length vkc,.bool xb,.bool xs] 39 (0,0)):=heap_setCell_same _ w.heap.size 5 _ _ _ (.slice vk x.c.length vkc) p1
  have q2:((w4.setCell ⟨w.heap.size,3,none⟩ (.slice va x.a.length vc)).setCell ⟨w.heap.size,5,none⟩ (.slice vk x.c.length vkc)).heap[w.heap.size+1]? = some (.cells #[.int .i64 0,.string ⟨#[]⟩,.string ⟨#[]⟩,.slice none 0 0,.int .i64 0,.slice none 0 0,.bool false,.bool false] 39 (0,0)):=by
   rw[heap_setCell_ne _ _ _ (by simp),heap_setCell_ne _ _ _ (by simp)];exact z1
  have K2:Kp (fun j t=>t=39/\w.heap.size<=j) w4 ((w4.setCell ⟨w.heap.size,3,none⟩ (.slice va x.a.length vc)).setCell ⟨w.heap.size,5,none⟩ (.slice vk x.c.length vkc)):=(Kp.of_set y3 (.slice va x.a.length vc) ⟨rfl,Nat.le_refl _⟩).trans (Kp.of_set p1 (.slice vk x.c.length vkc) ⟨rfl,Nat.le_refl _⟩);have B4:=HB.out.2.2.trans ((b3.trans (b4.mono b3.size)).mono HB.out.2.2.size);have H4:=Lib.hid (And.intro p2 (And.intro q2 (And.intro K2 (And.intro B4 (And.intro (row_below o3 b4) o4)))));generalize hw5:((w4.setCell ⟨w.heap.size,3,none⟩ (.slice va x.a.length vc)).setCell ⟨w.heap.size,5,none⟩ (.slice vk x.c.length vkc))=w5 at p2 q2 H4 ⊢;clear b3 b4 o3 o4 z1 p1 K2 B4 y3 g3 g5 z3 z5 x3 f3 f5 e3 e5 e5' hw5;have l0:=cell_of p2 0;have l1:=cell_of p2 1;have l2:=cell_of p2 2;have l3:=cell_of p2 3;have l4:=cell_of p2 4;have l5:=cell_of p2 5;have l6:=cell_of p2 6;have l7:=cell_of p2 7;have r0:=cell_of q2 0;have o0:=open_of q2 0;have r1:=cell_of q2 1;have o1:=open_of q2 1;have r2:=cell_of q2 2;have o2:=open_of q2 2;have r3:=cell_of q2 3;have o3:=open_of q2 3;have r4:=cell_of q2 4;have o4:=open_of q2 4;have r5:=cell_of q2 5;have o5:=open_of q2 5;have r6:=cell_of q2 6;have o6:=open_of q2 6;have r7:=cell_of q2 7;have o7:=open_of q2 7;clear p2 q2
  go_wp2
  obtain⟨q8,K8⟩:=set8 w5 (w.heap.size+1) _ _ _ _ _ _ _ _ _ (.int .i64 xk) (.string N) (.string T) (.slice va x.a.length vc) (.int .i64 xp) (.slice vk x.c.length vkc) (.bool xb) (.bool xs) H4.out.2.1;have c0:=cell_of q8 0;have c1:=cell_of q8 1;have c2:=cell_of q8 2;have c3:=cell_of q8 3;have c4:=cell_of q8 4;have c5:=cell_of q8 5;have c6:=cell_of q8 6;have c7:=cell_of q8 7;have hA:=(K8.row (H4.out.2.2.1.row H4.out.2.2.2.2.1 fun j _ _ e=>absurd e.1 (by decide)) (fun j hj _ e=>row_ne (H4.out.2.2.1.row H4.out.2.2.2.2.1 fun j _ _ e=>absurd e.1 (by decide)) H4.out.2.1 (by decide) (by rw[hj,e])));have hK:=(K8.row (H4.out.2.2.1.row H4.out.2.2.2.2.2 fun j _ _ e=>absurd e.1 (by decide)) (fun j hj _ e=>row_ne (H4.out.2.2.1.row H4.out.2.2.2.2.2 fun j _ _ e=>absurd e.1 (by decide)) H4.out.2.1 (by decide) (by rw[hj,e])));have hB5:=H4.out.2.2.2.1.trans (H4.out.2.2.1.below (fun j t e=>e.2) H4.out.2.2.2.1.size);have hB:=hB5.trans (K8.below (fun j t e=>by omega) hB5.size);exact bodyPost_ret (v := .agg #[.int .i64 xk,.string N,.string T,.slice va x.a.length vc,.int .i64 xp,.slice vk x.c.length vkc,.bool xb,.bool xs]) (by simp[results,Tryz.results174,go_sem,c0,c1,c2,c3,c4,c5,c6,c7]) rfl ⟨_,_,rfl,hA,hK,hB⟩
end Go.Proofs.YtlnfbjbagmfpiaaGreatDoor.Dm
