/- The program's copyDoc: a document whose rows are in blocks of their own. The program's copyDoc: the walk. The program's changed: a copy of a document, changed, handed back. The library's Index and Delete at numbers, a number struck from a row of one's own. The program's nodes: one is taken from where it stands; one is laid below another one. The program's nodes: one is laid below another one, last. The program's nodes: an attribute is set. The changes that Cut, Put and Set hand over, as closures. -/
import Derived.Laws.IdiomCopy
import Derived.Test.YtlnfbjbagmfpiaaGreatDoorDoZS
import Derived.Test.YtlnfbjbagmfpiaaGreatDoorPdZJ
set_option maxRecDepth 100000
set_option maxHeartbeats 4000000
namespace Go.Proofs.YtlnfbjbagmfpiaaGreatDoor.Dm
open Go.RowKit
theorem row_set8 {w:World}{B g cap n:Nat}{xs:List Value}(h:w.ownsRow B 39 8 (.slice (some ⟨g,0,none⟩) n cap) n xs)(j:Nat)(v0 v1 v2 v3 v4 v5 v6 v7:Value) :
 ((((((((w.setCell ⟨g,j,none⟩ v0).setCell ⟨g,j+1,none⟩ v1).setCell ⟨g,j+2,none⟩ v2).setCell ⟨g,j+3,none⟩ v3).setCell ⟨g,j+4,none⟩ v4).setCell ⟨g,j+5,none⟩ v5).setCell ⟨g,j+6,none⟩ v6).setCell ⟨g,j+7,none⟩ v7).ownsRow B 39 8 (.slice (some ⟨g,0,none⟩) n cap) n ((((((((xs.set j v0).set (j+1) v1).set (j+2) v2).set (j+3) v3).set (j+4) v4).set (j+5) v5).set (j+6) v6).set (j+7) v7)/\Kp (fun k _=>k=g) w ((((((((w.setCell ⟨g,j,none⟩ v0).setCell ⟨g,j+1,none⟩ v1).setCell ⟨g,j+2,none⟩ v2).setCell ⟨g,j+3,none⟩ v3).setCell ⟨g,j+4,none⟩ v4).setCell ⟨g,j+5,none⟩ v5).setCell ⟨g,j+6,none⟩ v6).setCell ⟨g,j+7,none⟩ v7):=by
 have k:∀ {w:World} {xs:List Value} (_:w.ownsRow B 39 8 (.slice (some ⟨g,0,none⟩) n cap) n xs) (j:Nat) (v:Value),Kp (fun k _=>k=g) w (w.setCell ⟨g,j,none⟩ v):=fun h j v=>by
  obtain⟨cur,h1,_⟩:=row_open h;exact Kp.of_set h1 v rfl
 have h0:=ownsRow_set h j v0;have h1:=ownsRow_set h0 (j+1) v1;have h2:=ownsRow_set h1 (j+2) v2;have h3:=ownsRow_set h2 (j+3) v3;have h4:=ownsRow_set h3 (j+4) v4;have h5:=ownsRow_set h4 (j+5) v5;have h6:=ownsRow_set h5 (j+6) v6;have h7:=ownsRow_set h6 (j+7) v7;exact⟨h7,((((((((k h j v0).trans (k h0 (j+1) v1)).trans (k h1 (j+2) v2)).trans (k h2 (j+3) v3)).trans (k h3 (j+4) v4)).trans (k h4 (j+5) v5)).trans (k h5 (j+6) v6)).trans (k h6 (j+7) v7))⟩
theorem set_same {l:List Value}{j:Nat}{v:Value}(h:l[j]? = some v):l.set j v=l:=by
 obtain⟨h1,h2⟩:=List.getElem?_eq_some_iff.1 h;rw[<- h2];exact List.set_getElem_self h1
theorem ndsC_set8 (D:List Nd)(A K:Nat->Value)(i:Nat)(hi:i<D.length)(av kv:Value):(((((((((ndsC D A K).set (i * 8) (.int .i64 D[i].k)).set ((i * 8)+1) (strV D[i].n)).set ((i * 8)+2) (strV D[i].d)).set ((i * 8)+3) av).set ((i * 8)+4) (.int .i64 D[i].p)).set ((i * 8)+5) kv).set ((i * 8)+6) (.bool D[i].b)).set ((i * 8)+7) (.bool D[i].s))=ndsC D (upd A i av) (upd K i kv):=by
 have at_:∀(A K:Nat->Value) (j:Nat) (v:Value),j<8->(ndC D[i] (A i) (K i))[j]? = some v->(ndsC D A K)[i * 8+j]? = some v:=fun A K j v hj h=>by rw[ndsC_at D A K i j hi hj];exact h
 rw[set_same (l:=ndsC D A K) (j:=i * 8) (at_ A K 0 _ (by decide) rfl),set_same (l:=ndsC D A K) (at_ A K 1 _ (by decide) rfl),set_same (l:=ndsC D A K) (at_ A K 2 _ (by decide) rfl),ndsC_setA D A K i hi av,set_same (l:=ndsC D (upd A i av) K) (at_ _ _ 4 _ (by decide) rfl),ndsC_setK D _ K i hi kv,set_same (l:=ndsC D (upd A i av) (upd K i kv)) (at_ _ _ 6 _ (by decide) rfl),set_same (l:=ndsC D (upd A i av) (upd K i kv)) (at_ _ _ 7 _ (by decide) rfl)]
structure CopyI (w0:World) (g cap:Nat) (D:List Nd) (A K:Nat->Value) (u:Nat) (w:World) (A' K':Nat->Value):Prop where
 row:w.ownsRow w0.heap.size 39 8 (.slice (some ⟨g,0,none⟩) D.length cap) D.length (ndsC D A' K')
 at':∀ i (h:i<D.length),i<u->w.ownsRow w0.heap.size 41 2 (A' i) D[i].a.length (atC D[i].a)
 kd:∀ i (h:i<D.length),i<u->w.ownsRow w0.heap.size 3 1 (K' i) D[i].c.length (inC D[i].c)
 na:∀ i j,i<u->j<u->i≠j->∀ k,(A' i).ownBlock=some k->(A' j).ownBlock≠some k
 nk:∀ i j,i<u->j<u->i≠j->∀ k,(K' i).ownBlock=some k->(K' j).ownBlock≠some k
 old:∀ i,u<=i->A' i=A i/\K' i=K i
theorem CopyI.below {w0:World}{g cap:Nat}{D:List Nd}{A K:Nat->Value}{u:Nat}{w w':World}{A' K':Nat->Value}(h:CopyI w0 g cap D A K u w A' K')(b:Below w.heap.size w w'):CopyI w0 g cap D A K u w' A' K' :=
 ⟨row_below h.row b,fun i hi hu=>row_below (h.at' i hi hu) b,fun i hi hu=>row_below (h.kd i hi hu) b,h.na,h.nk,h.old⟩
theorem CopyI.step {w0 wa w3:World} {g cap:Nat} {D:List Nd} {A K:Nat->Value} {u:Nat} {A' K':Nat->Value} {av kv:Value} (h:CopyI w0 g cap D A K u wa A' K') (hu:u<D.length) (b3:Below wa.heap.size wa w3) (hw:w0.heap.size<=wa.heap.size)
 (ra:w3.ownsRow wa.heap.size 41 2 av D[u].a.length (atC D[u].a)) (rk:w3.ownsRow wa.heap.size 3 1 kv D[u].c.length (inC D[u].c)) :
 CopyI w0 g cap D A K (u+1) ((((((((w3.setCell ⟨g,u * 8,none⟩ (.int .i64 D[u].k)).setCell ⟨g,u * 8+1,none⟩ (strV D[u].n)).setCell ⟨g,u * 8+2,none⟩ (strV D[u].d)).setCell ⟨g,u * 8+3,none⟩ av).setCell ⟨g,u * 8+4,none⟩ (.int .i64 D[u].p)).setCell ⟨g,u * 8+5,none⟩ kv).setCell ⟨g,u * 8+6,none⟩ (.bool D[u].b)).setCell ⟨g,u * 8+7,none⟩ (.bool D[u].s)) (upd A' u av) (upd K' u kv)/\Kp (fun k _=>k=g) w3 ((((((((w3.setCell ⟨g,u * 8,none⟩ (.int .i64 D[u].k)).setCell ⟨g,u * 8+1,none⟩ (strV D[u].n)).setCell ⟨g,u * 8+2,none⟩ (strV D[u].d)).setCell ⟨g,u * 8+3,none⟩ av).setCell ⟨g,u * 8+4,none⟩ (.int .i64 D[u].p)).setCell ⟨g,u * 8+5,none⟩ kv).setCell ⟨g,u * 8+6,none⟩ (.bool D[u].b)).setCell ⟨g,u * 8+7,none⟩ (.bool D[u].s)):=by
 obtain⟨h8,k8⟩:=row_set8 (row_below h.row b3) (u * 8) (.int .i64 D[u].k) (strV D[u].n) (strV D[u].d) av (.int .i64 D[u].p) kv (.bool D[u].b) (.bool D[u].s);rw[ndsC_set8 D A' K' u hu av kv]at h8;obtain⟨cur,hcur,_⟩:=row_open (row_below h.row b3);have hne:∀ {base size n:Nat} {e:TypeId} {v:Value} {xs:List Value},w3.ownsRow base e size v n xs->39≠e->∀ k,v.ownBlock=some k->base<=k->¬ k=g:=fun r he k hk _ e=>row_ne r hcur he (by rw[hk,e]);have hra:=row_low ra hw;have hrk:=row_low rk hw;refine⟨⟨h8,fun i hi hiu => ?_,fun i hi hiu => ?_,fun i j hi hj hij k hk => ?_,fun i j hi hj hij k hk => ?_,fun i hi=>⟨(upd_ne (by omega)).trans (h.old i (by omega)).1,(upd_ne (by omega)).trans (h.old i (by omega)).2⟩⟩,k8⟩
 · by_cases e:i=u
   · subst e
     rw[upd_self];exact k8.row hra (hne hra (by decide))
   · rw[upd_ne e]
     have r:=row_below (h.at' i hi (by omega)) b3;exact k8.row r (hne r (by decide))
 · by_cases e:i=u
   · subst e
     rw[upd_self];exact k8.row hrk (hne hrk (by decide))
   · rw[upd_ne e]
     have r:=row_below (h.kd i hi (by omega)) b3;exact k8.row r (hne r (by decide))
 · by_cases e:i=u
   · subst e
     rw[upd_self]at hk;rw[upd_ne (fun e=>hij e.symm)];intro h2;have h3:=(row_block (h.at' j (by omega) (by omega)) h2).choose_spec.2.2;have h4:=(ra.lt k hk).1;omega
   · rw[upd_ne e]at hk
     by_cases e2:j=u
     · subst e2
       rw[upd_self];intro h2;have h3:=(row_block (h.at' i (by omega) (by omega)) hk).choose_spec.2.2;have h4:=(ra.lt k h2).1;omega
     · rw[upd_ne e2]
       exact h.na i j (by omega) (by omega) hij k hk
 · by_cases e:i=u
   · subst e
     rw[upd_self]at hk;rw[upd_ne (fun e=>hij e.symm)];intro h2;have h3:=(row_block (h.kd j (by omega) (by omega)) h2).choose_spec.2.2;have h4:=(rk.lt k hk).1;omega
   · rw[upd_ne e]at hk
     by_cases e2:j=u
     · subst e2
       rw[upd_self];intro h2;have h3:=(row_block (h.kd i (by omega) (by omega)) hk).choose_spec.2.2;have h4:=(rk.lt k h2).1;omega
     · rw[upd_ne e2]
       exact h.nk i j (by omega) (by omega) hij k hk
theorem CopyI.done {w0 w:World}{g cap:Nat}{D:List Nd}{A K:Nat->Value}{A' K':Nat->Value}(h:CopyI w0 g cap D A K D.length w A' K'):OwnD w w0.heap.size (.slice (some ⟨g,0,none⟩) D.length cap) D A' K':=⟨h.row,fun i hi=>h.at' i hi hi,fun i hi=>h.kd i hi hi,h.na,h.nk⟩
end Go.Proofs.YtlnfbjbagmfpiaaGreatDoor.Dm
namespace Go.Proofs.YtlnfbjbagmfpiaaGreatDoor.Dm
open Go.RowKit
structure CopyL (w:World) (g cap:Nat) (D:List Nd) (A K:Nat->Value) (u:Nat) (wr:World):Prop where
 cp:∃ A' K',CopyI w g cap D A K u wr A' K'
 bx:wr.heap[w.heap.size]? = some (.cells #[.slice (some ⟨g,0,none⟩) D.length cap] 24 (0,0))
 rx:wr.heap[w.heap.size+1]? = some (.cells #[.slice none 0 0] 24 (0,0))
 bl:Below w.heap.size w wr
theorem CopyL.below {w:World}{g cap:Nat}{D:List Nd}{A K:Nat->Value}{u:Nat}{wr w':World}(h:CopyL w g cap D A K u wr)(b:Below wr.heap.size wr w'):CopyL w g cap D A K u w':=by
 obtain⟨A',K',h1⟩:=h.cp;exact⟨⟨A',K',h1.below b⟩,(b.block _ (lt_of_block h.bx)).trans h.bx,(b.block _ (lt_of_block h.rx)).trans h.rx,h.bl.trans (b.mono h.bl.size)⟩
theorem CopyL.step {w wa w3:World} {g cap:Nat} {D:List Nd} {A K:Nat->Value} {u:Nat} {av kv:Value} (h:CopyL w g cap D A K u wa) (hu:u<D.length) (b3:Below wa.heap.size wa w3)
 (ra:w3.ownsRow wa.heap.size 41 2 av D[u].a.length (atC D[u].a)) (rk:w3.ownsRow wa.heap.size 3 1 kv D[u].c.length (inC D[u].c)):CopyL w g cap D A K (u+1) ((((((((w3.setCell ⟨g,u * 8,none⟩ (.int .i64 D[u].k)).setCell ⟨g,u * 8+1,none⟩ (strV D[u].n)).setCell ⟨g,u * 8+2,none⟩ (strV D[u].d)).setCell ⟨g,u * 8+3,none⟩ av).setCell ⟨g,u * 8+4,none⟩ (.int .i64 D[u].p)).setCell ⟨g,u * 8+5,none⟩ kv).setCell ⟨g,u * 8+6,none⟩ (.bool D[u].b)).setCell ⟨g,u * 8+7,none⟩ (.bool D[u].s)):=by
 obtain⟨A',K',h1⟩:=h.cp;obtain⟨h2,k⟩:=h1.step hu b3 h.bl.size ra rk;obtain⟨cur,hcur,hgb⟩:=row_open (row_below h1.row b3);have x3:=(b3.block _ (lt_of_block h.bx)).trans h.bx;have y3:=(b3.block _ (lt_of_block h.rx)).trans h.rx;refine⟨⟨_,_,h2⟩,k.cells x3 fun e => ?_,k.cells y3 fun e => ?_,(h.bl.trans (b3.mono h.bl.size)).trans (k.below (fun j _ e=>by rw[e];exact hgb) (Nat.le_trans h.bl.size b3.size))⟩
 · subst e;rw[x3]at hcur;cases hcur
 · subst e;rw[y3]at hcur;cases hcur
theorem CopyL.node {w:World}{g cap:Nat}{D:List Nd}{A K:Nat->Value}{u:Nat}{wr:World}(h:CopyL w g cap D A K u wr)(hu:u<D.length):∀ j v,j<8->(ndC D[u] (A u) (K u))[j]? = some v->wr.cell? ⟨g,u * 8+j,none⟩=some v:=fun j v hj hv=>by
 obtain⟨A',K',h1⟩:=h.cp;have h2:=h1.row.cellAt (u * 8+j) (by omega);rw[h2,ndsC_at D A' K' u j hu hj,(h1.old u (Nat.le_refl _)).1,(h1.old u (Nat.le_refl _)).2];exact hv
theorem CopyL.eight {w:World}{g cap:Nat}{D:List Nd}{A K:Nat->Value}{u:Nat}{wr:World}(h:CopyL w g cap D A K u wr)(hu:u<D.length):wr.cell? ⟨g,u * 8,none⟩=some (.int .i64 D[u].k)/\wr.cell? ⟨g,u * 8+1,none⟩=some (strV D[u].n)/\wr.cell? ⟨g,u * 8+2,none⟩=some (strV D[u].d)/\wr.cell? ⟨g,u * 8+3,none⟩=some (A u)/\wr.cell? ⟨g,u * 8+4,none⟩=some (.int .i64 D[u].p)/\wr.cell? ⟨g,u * 8+5,none⟩=some (K u)/\wr.cell? ⟨g,u * 8+6,none⟩=some (.bool D[u].b)/\wr.cell? ⟨g,u * 8+7,none⟩=some (.bool D[u].s) :=
 ⟨h.node hu 0 _ (by decide) rfl,h.node hu 1 _ (by decide) rfl,h.node hu 2 _ (by decide) rfl,h.node hu 3 _ (by decide) rfl,h.node hu 4 _ (by decide) rfl,h.node hu 5 _ (by decide) rfl,h.node hu 6 _ (by decide) rfl,h.node hu 7 _ (by decide) rfl⟩
theorem CopyL.open' {w:World}{g cap:Nat}{D:List Nd}{A K:Nat->Value}{u:Nat}{wr:World}(h:CopyL w g cap D A K u wr)(j:Nat):wr.frozen? ⟨g,j,none⟩=false:=by
 obtain⟨A',K',h1⟩:=h.cp;obtain⟨cur,hcur,_⟩:=row_open h1.row;exact open_of hcur j
theorem copyDoc_hid (D:List Nd)(hf:FitD D)(h0:0<D.length):Hid (∀ W sl A K,DocIn W sl D A K->Calls Tryz.prog 177 #[.agg #[sl]] W fun e w'=>∃ sl',e=.returned (.agg #[sl'])/\OwnX w' W.heap.size sl' D/\Below W.heap.size W w'):=Lib.hid fun w sl A K hd=>by
 obtain⟨a,c,rfl⟩:=hd.form;have hfl:=hf.1;have CC:=cloneN_hid D.length (ndsC D A K) (by omega);have al1:=(Below.refl w.heap.size w).alloc (Nat.le_refl _) (.cells #[.slice a D.length c] 24);have hb1:=new_block w (.cells #[.slice a D.length c] 24);have hs1:(w.alloc (.cells #[.slice a D.length c] 24)).heap.size=w.heap.size+1:=by simp
 generalize hw1:w.alloc (.cells #[.slice a D.length c] 24)=w1 at al1 hb1 hs1;have al2:=(Below.refl w1.heap.size w1).alloc (Nat.le_refl _) (.cells #[.slice none 0 0] 24);have hb2:=new_block w1 (.cells #[.slice none 0 0] 24);rw[hs1]at hb2;generalize hw2:w1.alloc (.cells #[.slice none 0 0] 24)=w2 at al2 hb2;have hb1':=(al2.block _ (lt_of_block hb1)).trans hb1;have hbel:=al1.trans (al2.mono (by omega));have e0:=cell_of hb1' 0;have HB:=Lib.hid (And.intro hb1' (And.intro hb2 hbel));have HR:=Lib.hid (hd.below hbel).row;have HD:=Lib.hid hd;have HF:=Lib.hid hf;clear hd al1 al2 hb1 hb2 hb1' hbel hf
 go_enter Tryz.func177,Tryz.ntmps177
 go_wp2_with fail
 (refine(CC.out _ _ HR.out).mono ?_)
 rintro e w3 ⟨v3,rfl,r3,b3⟩
 obtain⟨g,cap,rfl⟩:∃ g cap,v3=.slice (some ⟨g,0,none⟩) D.length cap:=by
  rcases rowForms r3 with ⟨_,e⟩ | h
  · omega
  · exact h
 have x3:=(b3.block _ (lt_of_block HB.out.1)).trans HB.out.1;have y3:=(b3.block _ (lt_of_block HB.out.2.1)).trans HB.out.2.1;have o3:=open_of x3 0;have z3:=cell_of x3 0;have p3:=heap_setCell_same w3 w.heap.size 0 _ _ _ (.slice (some ⟨g,0,none⟩) D.length cap) x3;have k3:Kp (fun j _=>j=w.heap.size) w3 (w3.setCell ⟨w.heap.size,0,none⟩ (.slice (some ⟨g,0,none⟩) D.length cap)):=Kp.of_set x3 _ rfl;have hsz2:=HB.out.2.2.size;have HL:Hid (CopyL w g cap D A K 0 (w3.setCell ⟨w.heap.size,0,none⟩ (.slice (some ⟨g,0,none⟩) D.length cap))):=Lib.hid ⟨⟨A,K,⟨k3.row (row_low r3 hsz2) fun j hj _ e=>row_ne r3 x3 (by decide) (by rw[hj,e]),fun i _ h=>absurd h (Nat.not_lt_zero _),fun i _ h=>absurd h (Nat.not_lt_zero _),fun i j h=>absurd h (Nat.not_lt_zero _),fun i j h=>absurd h (Nat.not_lt_zero _),fun i _=>⟨rfl,rfl⟩⟩⟩,p3,(heap_setCell_ne _ _ _ (by simp)).trans y3,(HB.out.2.2.trans (b3.mono hsz2)).setCell (p:=⟨w.heap.size,0,none⟩) (Nat.le_refl _) _⟩;have e0:=cell_of p3 0;clear b3 r3 x3 y3 p3 k3 CC HR HB hw1 hw2
 go_wp2
 go_loopw [12] (fun i wr=>∃ u:Nat,i=.int .i64 u/\u<=D.length/\Hid (CopyL w g cap D A K u wr)) (fun i _=>D.length - (intOf i).toNat)
 case atStart=>exact⟨0,rfl,Nat.zero_le _,HL⟩
 case round =>
  clear HL e0 o3 z3;obtain⟨u,rfl,hu,HX⟩:=hrel
  by_cases hlt:u<D.length
  · have zu:(u:Int)<(D.length:Int):=by omega
    obtain⟨aa,ac,ha⟩:=(HD.out.at' u hlt).form;obtain⟨ka,kc,hk⟩:=(HD.out.kd u hlt).form;have hnd:=HX.out.node hlt;rw[ha,hk]at hnd;have c0:wr.cell? ⟨g,u * 8,none⟩=some (.int .i64 D[u].k):=hnd 0 _ (by decide) rfl;have c1:=hnd 1 _ (by decide) rfl;have c2:=hnd 2 _ (by decide) rfl;have c3:=hnd 3 _ (by decide) rfl;have c4:=hnd 4 _ (by decide) rfl;have c5:=hnd 5 _ (by decide) rfl;have c6:=hnd 6 _ (by decide) rfl;have c7:=hnd 7 _ (by decide) rfl;have CN:=copyNode_hid D[u] (HF.out.2 _ (List.getElem_mem hlt));have hat:=(HD.out.at' u hlt).below HX.out.bl;have hkd:=(HD.out.kd u hlt).below HX.out.bl;rw[ha]at hat;rw[hk]at hkd;obtain⟨N,hN⟩:=text_of D[u].n;obtain⟨T,hT⟩:=text_of D[u].d;have al:=(Below.refl wr.heap.size wr).alloc (Nat.le_refl _) (.cells #[.int .i64 D[u].k,.string N,.string T,.slice aa D[u].a.length ac,.int .i64 D[u].p,.slice ka D[u].c.length kc,.bool D[u].b,.bool D[u].s] 39);have hbx:=new_block wr (.cells #[.int .i64 D[u].k,.string N,.string T,.slice aa D[u].a.length ac,.int .i64 D[u].p,.slice ka D[u].c.length kc,.bool D[u].b,.bool D[u].s] 39);have HXa:=HX.out.below al
    have CN2:∀ W,Below (wr.alloc (.cells #[.int .i64 D[u].k,.string N,.string T,.slice aa D[u].a.length ac,.int .i64 D[u].p,.slice ka D[u].c.length kc,.bool D[u].b,.bool D[u].s] 39)).heap.size (wr.alloc (.cells #[.int .i64 D[u].k,.string N,.string T,.slice aa D[u].a.length ac,.int .i64 D[u].p,.slice ka D[u].c.length kc,.bool D[u].b,.bool D[u].s] 39)) W->Calls Tryz.prog 174 #[.agg #[.int .i64 D[u].k,.string N,.string T,.slice aa D[u].a.length ac,.int .i64 D[u].p,.slice ka D[u].c.length kc,.bool D[u].b,.bool D[u].s]] W fun e w3=>∃ va vac vk vkc,e=.returned (.agg #[.int .i64 D[u].k,.string N,.string T,.slice va D[u].a.length vac,.int .i64 D[u].p,.slice vk D[u].c.length vkc,.bool D[u].b,.bool D[u].s])/\CopyL w g cap D A K u w3/\CopyL w g cap D A K (u+1) ((((((((w3.setCell ⟨g,u * 8,none⟩ (.int .i64 D[u].k)).setCell ⟨g,u * 8+1,none⟩ (.string N)).setCell ⟨g,u * 8+2,none⟩ (.string T)).setCell ⟨g,u * 8+3,none⟩ (.slice va D[u].a.length vac)).setCell ⟨g,u * 8+4,none⟩ (.int .i64 D[u].p)).setCell ⟨g,u * 8+5,none⟩ (.slice vk D[u].c.length vkc)).setCell ⟨g,u * 8+6,none⟩ (.bool D[u].b)).setCell ⟨g,u * 8+7,none⟩ (.bool D[u].s)):=fun W b=>by
     have h:=CN.out W _ _ ((hat.below al).below b) ((hkd.below al).below b);unfold nodeV at h;rw[strV_of hN,strV_of hT]at h;refine h.mono ?_;rintro e w3 ⟨av,kv,rfl,ra,rk,b3⟩;obtain⟨va,vac,rfl⟩:=row_form ra;obtain⟨vk,vkc,rfl⟩:=row_form rk;have b4:=b.trans (b3.mono b.size);have hst:=HXa.step hlt b4 (row_low ra b.size) (row_low rk b.size);rw[strV_of hN,strV_of hT]at hst;exact⟨va,vac,vk,vkc,rfl,HXa.below b4,hst⟩
    rw[strV_of hN]at c1;rw[strV_of hT]at c2;have HC2:=Lib.hid CN2;clear CN CN2 hat hkd hnd HX ha hk hN hT al;generalize hwa:wr.alloc (.cells #[.int .i64 D[u].k,.string N,.string T,.slice aa D[u].a.length ac,.int .i64 D[u].p,.slice ka D[u].c.length kc,.bool D[u].b,.bool D[u].s] 39)=wa at HC2 hbx HXa;have d0:=cell_of hbx 0;have d1:=cell_of hbx 1;have d2:=cell_of hbx 2;have d3:=cell_of hbx 3;have d4:=cell_of hbx 4;have d5:=cell_of hbx 5;have d6:=cell_of hbx 6;have d7:=cell_of hbx 7;have e0:=cell_of HXa.bx 0;have hlb:=lt_of_block HXa.bx;clear hbx HXa
    go_wp2_with fail
    go_region_with (go_at_call 174
                    refine(HC2.out _ (by first | exact Below.refl _ _ | exact belowN (Below.refl _ _) _ | exact(Below.refl _ _).drew)).mono ?_;rintro e w3 ⟨va,vac,vk,vkc,rfl,hcl,hcs⟩;have HS:=Lib.hid hcs;obtain⟨j0,j1,j2,j3,j4,j5,j6,j7⟩:=hcl.eight hlt;have f0:=hcl.open' (u * 8);have f1:=hcl.open' (u * 8+1);have f2:=hcl.open' (u * 8+2);have f3:=hcl.open' (u * 8+3);have f4:=hcl.open' (u * 8+4);have f5:=hcl.open' (u * 8+5);have f6:=hcl.open' (u * 8+6);have f7:=hcl.open' (u * 8+7);have e0':=cell_of hcl.bx 0
                    clear hcs hcl)
    all_goals
     go_wp2
     go_roundw
     case rel=>exact⟨u+1,by go_num,by omega,HS⟩
     case measure=>simp[intOf];omega
  · obtain rfl:u=D.length:=by omega
    obtain⟨A',K',h1⟩:=HX.out.cp;have x0:=HX.out.bx;have y0:=HX.out.rx;have e0:=cell_of x0 0;have r0:=cell_of y0 0;have o0:=open_of y0 0;have q0:=heap_setCell_same wr (w.heap.size+1) 0 _ _ _ (.slice (some ⟨g,0,none⟩) D.length cap) y0;have c0:=cell_of q0 0;have HO:Hid (OwnX (wr.setCell ⟨w.heap.size+1,0,none⟩ (.slice (some ⟨g,0,none⟩) D.length cap)) w.heap.size (.slice (some ⟨g,0,none⟩) D.length cap) D/\Below w.heap.size w (wr.setCell ⟨w.heap.size+1,0,none⟩ (.slice (some ⟨g,0,none⟩) D.length cap))):=Lib.hid ⟨⟨A',K',h1.done.setDoc y0⟩,HX.out.bl.setCell (p:=⟨w.heap.size+1,0,none⟩) (by simp) _⟩;clear h1 x0 y0 q0 HX
    go_wp2
    exact bodyPost_ret (v := .agg #[.slice (some ⟨g,0,none⟩) D.length cap]) (by simp[results,Tryz.results177,go_sem,c0]) rfl ⟨_,rfl,HO.out⟩
end Go.Proofs.YtlnfbjbagmfpiaaGreatDoor.Dm
namespace Go.Proofs.YtlnfbjbagmfpiaaGreatDoor.Dm
open Go.RowKit
def chP (B Bo:Nat)(j:Nat)(t:TypeId):Prop:=B<=j/\(t=24->j=Bo)
def ChgEC (C B Bo:Nat)(E:List Nd)(W:World)(e:Ending)(w':World):Prop:=e=.returned (.tuple #[])/\∃ sl,w'.heap[Bo]? = some (.cells #[sl] 24 (0,0))/\OwnX w' C sl E/\Kp (chP B Bo) W w'
def ChgE (B Bo:Nat)(E:List Nd)(W:World)(e:Ending)(w':World):Prop:=ChgEC B B Bo E W e w'
def ChgPC (C:Nat)(w0:World)(f:Nat)(caps:Array Value)(D E:List Nd):Prop:=∀ W Bo sl,Below w0.heap.size w0 W->w0.heap.size<=Bo->W.heap[Bo]? = some (.cells #[sl] 24 (0,0))->OwnX W w0.heap.size sl D->Calls Tryz.prog f (#[.pointer (some ⟨Bo,0,none⟩)]++caps) W (ChgEC C w0.heap.size Bo E W)
def ChgP (w0:World)(f:Nat)(caps:Array Value)(D E:List Nd):Prop:=ChgPC w0.heap.size w0 f caps D E
theorem OwnX.low {w:World}{B B':Nat}{sl:Value}{D:List Nd}(h:OwnX w B sl D)(hB:B'<=B):OwnX w B' sl D:=by
 obtain⟨A,K,h⟩:=h;exact⟨A,K,h.low hB⟩
theorem OwnX.setDoc {w:World}{B g j:Nat}{sl v:Value}{D:List Nd}{c:Array Value}(h:OwnX w B sl D)(hg:w.heap[g]? = some (.cells c 24 (0,0))):OwnX (w.setCell ⟨g,j,none⟩ v) B sl D:=by
 obtain⟨A,K,h⟩:=h;exact⟨A,K,h.setDoc hg⟩
theorem changedDocC_hid (C:Nat)(D E:List Nd)(hf:FitD D)(h0:0<D.length)(f:Nat)(caps:Array Value)(hcf:∀ args w,(callFunc f args).run Tryz.prog w=.ok (.enter f args) w):Hid (∀ W sl A K,DocIn W sl D A K->ChgPC C W f caps D E->Calls Tryz.prog 176 #[.agg #[sl],.func (.func 177) #[] #[],.func (.func f) #[] caps] W fun e w'=>∃ sl',e=.returned (.agg #[sl'])/\OwnX w' C sl' E/\Below W.heap.size W w'):=Lib.hid fun w sl A K hd hch=>by
 obtain⟨a,c,rfl⟩:=hd.form;have CC:=copyDoc_hid D hf h0;have al1:=(Below.refl w.heap.size w).alloc (Nat.le_refl _) (.cells #[.slice a D.length c] 24);have hb1:=new_block w (.cells #[.slice a D.length c] 24);have hs1:(w.alloc (.cells #[.slice a D.length c] 24)).heap.size=w.heap.size+1:=by simp
 generalize hw1:w.alloc (.cells #[.slice a D.length c] 24)=w1 at al1 hb1 hs1;have al2:=(Below.refl w1.heap.size w1).alloc (Nat.le_refl _) (.cells #[.slice none 0 0] 24);have hb2:=new_block w1 (.cells #[.slice none 0 0] 24);rw[hs1]at hb2;generalize hw2:w1.alloc (.cells #[.slice none 0 0] 24)=w2 at al2 hb2;have hb1':=(al2.block _ (lt_of_block hb1)).trans hb1;have hbel:=al1.trans (al2.mono (by omega));have e0:=cell_of hb1' 0;have HB:=Lib.hid (And.intro hb2 hbel);have HD:=Lib.hid (hd.below hbel);have HCH:=Lib.hid hch;clear hd al1 al2 hb1 hb2 hb1' hbel hf hch
 go_enter Tryz.func176,Tryz.ntmps176
 go_wp2_with fail
 (refine(CC.out _ _ _ _ HD.out).mono ?_)
 rintro e w3 ⟨sl3,rfl,o3,b3⟩;obtain⟨a3,c3,rfl⟩:=o3.form;have y3:=(b3.block _ (lt_of_block HB.out.1)).trans HB.out.1;have al4:=(Below.refl w3.heap.size w3).alloc (Nat.le_refl _) (.cells #[.slice a3 D.length c3] 24);have hb4:=new_block w3 (.cells #[.slice a3 D.length c3] 24);generalize hw4:w3.alloc (.cells #[.slice a3 D.length c3] 24)=w4 at al4 hb4;have y4:=(al4.block _ (lt_of_block y3)).trans y3;have b4:=(HB.out.2.trans (b3.mono HB.out.2.size)).trans (al4.mono (HB.out.2.trans (b3.mono HB.out.2.size)).size);have hne:w.heap.size+1<w3.heap.size:=lt_of_block y3;have CX:=Lib.hid (HCH.out w4 w3.heap.size _ b4 (by omega) hb4 ((o3.low (HB.out.2.size)).below al4));have H4:=Lib.hid (And.intro y4 b4);clear b3 o3 y3 al4 hb4 y4 b4 CC HB HD HCH e0 hw1 hw2
 go_wp2_with fail
 refine CX.out.mono ?_;rintro e w5 ⟨rfl,sl5,x5,o5,k5⟩;have y5:=k5.cells H4.out.1 (fun h=>by have:=h.2 rfl;omega);obtain⟨a5,c5,rfl⟩:=o5.form;have e5:=cell_of x5 0;have r5:=cell_of y5 0;have p5:=open_of y5 0;have q5:=heap_setCell_same w5 (w.heap.size+1) 0 _ _ _ (.slice a5 E.length c5) y5;have z5:=cell_of q5 0;have HO:Hid (OwnX (w5.setCell ⟨w.heap.size+1,0,none⟩ (.slice a5 E.length c5)) C (.slice a5 E.length c5) E/\Below w.heap.size w (w5.setCell ⟨w.heap.size+1,0,none⟩ (.slice a5 E.length c5))):=Lib.hid ⟨o5.setDoc y5,(H4.out.2.trans (k5.below (fun j _ h=>h.1) H4.out.2.size)).setCell (p:=⟨w.heap.size+1,0,none⟩) (by simp) _⟩;clear CX x5 o5 k5 y5 q5 H4
 go_wp2
 exact bodyPost_ret (v := .agg #[.slice a5 E.length c5]) (by simp[results,Tryz.results176,go_sem,z5]) rfl ⟨_,rfl,HO.out⟩
theorem changedDoc_hid (D E:List Nd)(hf:FitD D)(h0:0<D.length)(f:Nat)(caps:Array Value)(hcf:∀ args w,(callFunc f args).run Tryz.prog w=.ok (.enter f args) w):Hid (∀ W sl A K,DocIn W sl D A K->ChgP W f caps D E->Calls Tryz.prog 176 #[.agg #[sl],.func (.func 177) #[] #[],.func (.func f) #[] caps] W fun e w'=>∃ sl',e=.returned (.agg #[sl'])/\OwnX w' W.heap.size sl' E/\Below W.heap.size W w'):=Lib.hid fun w sl A K hd hch=>(changedDocC_hid w.heap.size D E hf h0 f caps hcf).out w sl A K hd hch
end Go.Proofs.YtlnfbjbagmfpiaaGreatDoor.Dm
namespace Go.Proofs.YtlnfbjbagmfpiaaGreatDoor.Dm
open Go.RowKit
def IdxP (C:List Int)(y:Int)(r:Int):Prop:=(r = -1/\y ∉ C)\/∃ i:Nat,r=i/\∃ h:i<C.length,C[i]=y
theorem index_hid (C:List Int)(y:Int)(hl:C.length<=100000):Hid (∀ W kv,IntIn W kv C->Calls Tryz.prog 196 #[kv,.int .i64 y] W fun e w'=>(∃ r,e=.returned (.int .i64 r)/\IdxP C y r)/\w'=W):=Lib.hid fun w kv hk=>by
 obtain⟨a,c,rfl⟩:=hk.form;have HK:=Lib.hid hk;clear hk
 go_enter Tryz.func196,Tryz.ntmps196
 go_wp2
 go_loopw [5,8] (fun _ j wr=>∃ k:Nat,j=.int .i64 k/\k<=C.length/\Hid (∀ i,(h:i<C.length)->i<k->C[i]≠y)/\wr=w) (fun _ j _=>C.length - (intOf j).toNat)
 case atStart=>exact⟨0,rfl,Nat.zero_le _,Lib.hid fun i _ h=>by omega,rfl⟩
 case round =>
  obtain⟨k,rfl,hk,HN,rfl⟩:=hrel
  by_cases hlt:k<C.length
  · have zk:(k:Int)<(C.length:Int):=by omega
    obtain⟨B,off,rfl,c0⟩:=HK.out.at hlt
    by_cases he:C[k]=y
    · have HF:Hid (IdxP C y (k:Int)):=Lib.hid (.inr ⟨k,rfl,hlt,he⟩)
      rw[he]at c0;clear he HN
      go_wp2
      go_ret
      exact⟨⟨_,rfl,HF.out⟩,rfl⟩
    · have hb:(y==C[k])=false:=beq_eq_false_iff_ne.2 (fun e=>he e.symm)
      have HN2:Hid (∀ i,(h:i<C.length)->i<k+1->C[i]≠y):=Lib.hid fun i hi h2=>by
       by_cases e:i=k
       · subst e
         exact he
       · exact HN.out i hi (by omega)
      clear he HN
      go_wp2
      go_roundw
      case rel=>exact⟨k+1,by go_num,by omega,HN2,trivial⟩
      case measure=>simp[intOf];omega
  · obtain rfl:k=C.length:=by omega
    have HF:Hid (IdxP C y (-1)):=Lib.hid (.inl ⟨rfl,fun h=>by
     obtain⟨i,hi,e⟩:=List.mem_iff_getElem.1 h
     exact HN.out i hi hi e⟩)
    clear HN
    go_wp2
    go_ret
    exact⟨⟨_,rfl,HF.out⟩,rfl⟩
def setsL:List Value->Nat->List Value->List Value
 | xs,_,[]=>xs
 | xs,o,v :: vs=>setsL (xs.set o v) (o+1) vs
theorem setsL_get:∀(vs:List Value) (o:Nat) (xs:List Value) (k:Nat),o+vs.length<=xs.length->(setsL xs o vs)[k]? = if o<=k/\k<o+vs.length then vs[k - o]? else xs[k]?
 | [],o,xs,k,_=>by
   rw[if_neg (fun h=>by have:=h.2;simp at this;omega)];rfl
 | v :: vs,o,xs,k,h=>by
   simp only[List.length_cons]at h;show(setsL (xs.set o v) (o+1) vs)[k]? = _;rw[setsL_get vs (o+1) _ k (by rw[List.length_set];omega)]
   by_cases h1:k=o
   · subst h1
     rw[if_neg (by omega),if_pos (by simp),List.getElem?_set_self (by omega),Nat.sub_self];rfl
   · by_cases h2:o+1<=k/\k<o+1+vs.length
     · rw[if_pos h2,if_pos (by simp;omega),show k - o=(k - (o+1))+1 by omega,List.getElem?_cons_succ]
     · rw[if_neg h2,if_neg (by simp;omega),List.getElem?_set_ne (by omega)]
theorem sets_row {B g cap n:Nat}{e:TypeId}:∀(vs:List Value) (o:Nat) (w:World) (xs:List Value),w.ownsRow B e 1 (.slice (some ⟨g,0,none⟩) n cap) n xs->(w.setCells g o vs).ownsRow B e 1 (.slice (some ⟨g,0,none⟩) n cap) n (setsL xs o vs)/\Kp (fun k _=>k=g) w (w.setCells g o vs)
 | [],_,w,_,h=>⟨h,Kp.refl _ w⟩
 | v :: vs,o,w,xs,h=>by
   obtain⟨cur,hg,_⟩:=row_open h;obtain⟨h1,h2⟩:=sets_row vs (o+1) _ _ (ownsRow_set h o v);exact⟨h1,(Kp.of_set hg v rfl).trans h2⟩
theorem row_short {w:World}{B g cap n m:Nat}{e:TypeId}{xs:List Value}(h:w.ownsRow B e 1 (.slice (some ⟨g,0,none⟩) n cap) n xs)(hm:m<=n):w.ownsRow B e 1 (.slice (some ⟨g,0,none⟩) m cap) m (xs.take m):=by
 obtain⟨h1,h2⟩:=h;refine⟨by simp;omega,?_⟩;rcases h2 with ⟨h2,_⟩ | ⟨g',cap',cur,h3,h4,h5,h6,h7,h8,h9⟩
 · cases h2
 · cases h3
   refine .inr ⟨g,cap,cur,rfl,h4,h5,by omega,h7,h8,?_⟩;rw[<- h9,List.take_take]
   congr 1
   omega
theorem inC_drop (C:List Int)(n:Nat):inC (C.drop n)=(inC C).drop n:=by simp[inC,List.map_drop]
theorem struck (C:List Int)(i:Nat)(hi:i<C.length):(setsL (setsL (inC C) i (inC (C.drop (i+1)))) (C.length - 1) [.int .i64 0]).take (C.length - 1)=inC (C.eraseIdx i):=by
 have hl:(inC C).length=C.length:=by simp[inC]
 have hld:(inC (C.drop (i+1))).length=C.length - (i+1):=by simp[inC]
 have hls:(setsL (inC C) i (inC (C.drop (i+1)))).length=C.length:=by
  have:∀(vs:List Value) (o:Nat) (xs:List Value),(setsL xs o vs).length=xs.length:=fun vs=>by
   induction vs with
   | nil=>intro o xs;rfl
   | cons v vs ih=>intro o xs;show(setsL (xs.set o v) (o+1) vs).length=_;rw[ih,List.length_set]
  rw[this,hl]
 apply List.ext_getElem?
 intro k;rw[List.getElem?_take]
 have he:(inC (C.eraseIdx i))[k]? = if k<i then (inC C)[k]? else (inC C)[k+1]? :=by
  unfold inC;rw[List.getElem?_map,List.getElem?_eraseIdx];split<;>simp
 rw[he]
 by_cases hk:k<C.length - 1
 · rw[if_pos hk,setsL_get _ _ _ _ (by rw[hls];simp;omega),if_neg (by simp;omega),setsL_get _ _ _ _ (by rw[hl,hld];omega),hld]
   by_cases h1:k<i
   · rw[if_neg (by omega),if_pos h1]
   · rw[if_pos (by omega),if_neg h1,inC_drop,List.getElem?_drop]
     congr 1
     omega
 · rw[if_neg hk]
   symm
   split
   · exact List.getElem?_eq_none (by omega)
   · exact List.getElem?_eq_none (by omega)
theorem delete_hid (C:List Int)(i:Nat)(hi:i<C.length)(hl:C.length<=100000)(B g cap:Nat):Hid (∀ W,W.ownsRow B 3 1 (.slice (some ⟨g,0,none⟩) C.length cap) C.length (inC C)->Calls Tryz.prog 197 #[.slice (some ⟨g,0,none⟩) C.length cap,.int .i64 (i:Int),.int .i64 ((i:Int)+1)] W fun e w'=>e=.returned (.slice (some ⟨g,0,none⟩) (C.length - 1) cap)/\w'.ownsRow B 3 1 (.slice (some ⟨g,0,none⟩) (C.length - 1) cap) (C.length - 1) (inC (C.eraseIdx i))/\Kp (fun k _=>k=g) W w'):=Lib.hid fun w hr=>by
 obtain⟨i0,hi3,hz0,hz1,hz2⟩:=info_parts Tinfo3
 have hcap:C.length<=cap/\cap<=9223372036854775807:=by
  rcases hr.2 with ⟨h,_⟩ | ⟨g',cap',cur,h3,h4,h5,h6,h7,_⟩
  · cases h
  · cases h3
    exact⟨h6,by unfold maxLen at h7;omega⟩
 have hrd:w.drew.ownsRow B 3 1 (.slice (some ⟨g,0,none⟩) C.length cap) C.length (inC C):=hr;obtain⟨cur,hcur,hBg⟩:=row_open hrd
 have hcell:∀ j,j<C.length->(w.drew.cell? ⟨g,j,none⟩).isSome=true:=fun j hj=>by
  rw[hrd.cellAt j (by omega),List.getElem?_eq_getElem (by simp[inC];exact hj)];rfl
 obtain⟨news,hnews⟩:∃ news,news=inC (C.drop (i+1)):=⟨_,rfl⟩;have hnl:news.length=C.length - (i+1):=by rw[hnews];simp[inC]
 obtain⟨A,hA,hsrc⟩:∃ A:Addr,(if cap=i+1 then some (⟨g,0,none⟩:Addr) else some ⟨g,i+1,none⟩)=some A/\∀ t u,news[t]? = some u->w.drew.cell? (A.add t)=some u:=by
  by_cases h:cap=i+1
  · refine⟨⟨g,0,none⟩,by simp[h],fun t u hu => ?_⟩
    have:=(List.getElem?_eq_some_iff.1 hu).1;omega
  · refine⟨⟨g,i+1,none⟩,by simp[h],fun t u hu => ?_⟩
    have ht:=(List.getElem?_eq_some_iff.1 hu).1;rw[hnews,inC_drop,List.getElem?_drop]at hu;rw[Addr.add_lit,hrd.cellAt _ (by omega)];exact hu
 obtain⟨hr1,k1⟩:=sets_row news (0+i * 1) w.drew _ hrd;obtain⟨W1,hW1⟩:∃ W1,W1=w.drew.setCells g (0+i * 1) news:=⟨_,rfl⟩;rw[<- hW1]at hr1 k1;obtain⟨cur1,hcur1,_⟩:=row_open hr1
 have hcl:(Builtin.clear_ #[37] 0 #[.slice (some ⟨g,C.length - 1,none⟩) 1 (cap - (C.length - 1))]).run Tryz.prog W1=.ok (.tuple #[]) (W1.setCells g (C.length - 1) (List.replicate 1 (.int .i64 0))) :=
  Lib.run_clear_slice W1 _ _ 0 _ Tryz.underlying37 (fun w=>Tryz.zeroValue3 w) rfl rfl g (C.length - 1) 1 _ (by omega) (fun t ht=>by
   have h1:(setsL (inC C) (0+i * 1) news).length=C.length * 1:=hr1.1;rw[hr1.cellAt _ (by omega),List.getElem?_eq_getElem (by rw[h1];omega)]
   rfl) (fun t _=>open_of hcur1 _)
 obtain⟨hr2,k2⟩:=sets_row (List.replicate 1 (.int .i64 0)) (C.length - 1) W1 _ hr1
 have HE:Hid ((W1.setCells g (C.length - 1) (List.replicate 1 (.int .i64 0))).ownsRow B 3 1 (.slice (some ⟨g,0,none⟩) (C.length - 1) cap) (C.length - 1) (inC (C.eraseIdx i))/\Kp (fun k _=>k=g) w (W1.setCells g (C.length - 1) (List.replicate 1 (.int .i64 0)))):=Lib.hid (by
  have h3:=row_short hr2 (show C.length - 1<=C.length by omega);rw[hnews,Nat.mul_one,Nat.zero_add]at h3;have h4:=struck C i hi;rw[show List.replicate 1 (Value.int .i64 0)=[Value.int .i64 0]from rfl]at h3 ⊢;rw[h4]at h3
  exact⟨h3,⟨(k1.trans k2).os,(k1.trans k2).tape,(k1.trans k2).output,(k1.trans k2).size,(k1.trans k2).same⟩⟩)
 have s1:Hid (news.length=(C.length - (i+1)) * 1):=Lib.hid (by omega);have s2:Hid (∀ u∈news,u.oneCell'=true):=Lib.hid (by rw[hnews];exact inC_one _);have s3:Hid (∀ t,t<news.length->(w.drew.cell? ⟨g,0+i * 1+t,none⟩).isSome=true/\w.drew.frozen? ⟨g,0+i * 1+t,none⟩=false):=Lib.hid fun t ht=>⟨hcell _ (by omega),open_of hcur _⟩;have s4:=Lib.hid hsrc;have s5:Hid (W1=w.drew.setCells g (0+i * 1) news):=Lib.hid hW1;have h1:i+1<=cap:=by omega
 have h2:i<=cap:=by omega
 have z1:¬ ((i:Int)=(i:Int)+1):=by omega
 have z2:(0:Int)<=(i:Int)+1:=by omega
 have z3:(i:Int)+1<=(C.length:Int):=by omega
 have z4:(i:Int)<=(C.length:Int):=by omega
 have e1:i+(C.length - (i+1))=C.length - 1:=by omega
 clear hr hrd hcur hBg hcell hsrc hr1 k1 hW1 hcur1 hr2 k2 hnews hnl;obtain⟨m,hm⟩:∃ m,C.length=m+1:=⟨C.length - 1,by omega⟩;rw[hm,Nat.add_sub_cancel]at hcl HE e1;rw[hm]at s1 z3 z4 hcap;rw[hm,Nat.add_sub_cancel];rw[hm]at hi hl;rw[Nat.add_sub_add_right]at s1 e1;have z8:i<=m:=by omega
 have z5:(m:Int)<=((m+1:Nat):Int):=by omega
 have z6:m<=cap:=by omega
 have z7:m+1<=cap:=by omega
 clear hm;generalize C.eraseIdx i=C' at HE ⊢;clear hi hl
 go_enter Tryz.func197,Tryz.ntmps197
 go_wp2_with fail
 go_region_law (refine step_append_room rfl (.tmp 22) (.tmp 25) 37 rfl 3 i0 1 Tryz.underlying37 hi3 hz1 g 0 i cap (by simp[Act.eval,Act.put]) A (m - i) (cap - (i+1)) news (by simp[Act.eval,Act.put]) s1.out s4.out s2.out (by omega) s3.out ?_;rw[<- s5.out,e1])
 go_wp2
 go_ret
 exact⟨rfl,HE.out⟩
end Go.Proofs.YtlnfbjbagmfpiaaGreatDoor.Dm
namespace Go.Proofs.YtlnfbjbagmfpiaaGreatDoor.Dm
open Go.RowKit
theorem grown_of_kp {g:Nat}{w w':World}(k:Kp (fun j _=>j=g) w w'):w.grownBy w' (some g):=⟨k.os,k.tape,k.output,k.size,fun j hj hne=>by
 rw[Array.getElem?_eq_getElem hj]
 exact k.same j _ (Array.getElem?_eq_getElem hj) fun _ _ _ _ e=>hne (by rw[e])⟩
theorem noN_erase:∀ {C:List Int} {n i:Nat},C.Nodup->(hi:i<C.length)->C[i]=(n:Int)->noN n C=C.eraseIdx i
 | x :: C,n,0,hn,_,e=>by
   have e:x=(n:Int):=e;subst e;rw[List.nodup_cons]at hn;have h1:noN n ((n:Int) :: C)=noN n C:=by simp[noN]
   rw[h1,noN_none hn.1];rfl
 | x :: C,n,i+1,hn,hi,e=>by
   rw[List.nodup_cons]at hn;have hi:i<C.length:=by simpa using hi
   have e:C[i]=(n:Int):=by simpa using e
   have hx:x≠(n:Int):=fun h=>hn.1 (by rw[h,<- e];exact List.getElem_mem hi);have h1:noN n (x :: C)=x :: noN n C:=by simp[noN,hx]
   rw[h1,noN_erase hn.2 hi e];rfl
def tkP (B g:Nat)(j:Nat)(t:TypeId):Prop:=j=g\/(B<=j/\t=3)
def NdsE (B g cap:Nat)(E:List Nd)(W:World)(e:Ending)(w':World):Prop:=e=.returned (.tuple #[])/\(∃ A K,OwnD w' B (.slice (some ⟨g,0,none⟩) E.length cap) E A K)/\Kp (tkP B g) W w'
theorem take_hid (D:List Nd)(R:Right D)(hf:FitD D)(n:Nat)(hn:n<D.length)(B g cap:Nat):Hid (∀ W A K,OwnD W B (.slice (some ⟨g,0,none⟩) D.length cap) D A K->Calls Tryz.prog 182 #[.slice (some ⟨g,0,none⟩) D.length cap,.int .i64 (n:Int)] W (NdsE B g cap (cutM D n) W)):=Lib.hid fun w A K h=>by
 have zn:(n:Int)<(D.length:Int):=by omega
 obtain⟨B',off',hB,-,-,-,-,c4,-⟩:=h.doc.node hn
 cases hB
 simp only[Nat.zero_add]at c4;have hpar:=par_at hn;obtain⟨p,hp⟩:∃ p,D[n].p=p:=⟨_,rfl⟩;rw[hp]at c4 hpar
 by_cases hp1:p = -1
 · subst hp1
   have HE:Hid (NdsE B g cap (cutM D n) w (.returned (.tuple #[])) w):=Lib.hid ⟨rfl,by
    have e:cutM D n=D:=by
     rw[cut_same R hn hpar]
     have e2:({ D[n]with p := -1 }:Nd)=D[n]:=by
      have h3:=hp;generalize D[n]=x at h3
      cases x
      simp only at h3;rw[h3]
     rw[e2];exact List.set_getElem_self hn
    rw[e]
    exact⟨A,K,h⟩,Kp.refl _ _⟩
   clear h hp hpar
   go_enter Tryz.func182,Tryz.ntmps182
   go_wp2
   go_end0
   exact HE.out
 obtain⟨q,rfl,hq⟩:∃ q:Nat,p=q/\q<D.length:=by
  rcases R.neg hn with h1 | ⟨q,h1,h2⟩
  · omega
  · exact⟨q,by omega,h2⟩
 have hpb:((q:Int) == -1)=false:=beq_eq_false_iff_ne.2 (by omega);have hqn:=par_ne R hn hpar;have hcut:=cut_other R hn hpar hq hqn;have hmem:=(R.down hn hpar).1;have hnd:=R.kidNodup q;rw[kid_at hq]at hmem hnd;obtain⟨B',off',hB,-,-,-,-,-,d5,-⟩:=h.doc.node hq
 cases hB
 simp only[Nat.zero_add]at d5;have hkin:=h.doc.kd q hq;have hkr:=h.kd q hq;have hlen:=(hf.2 _ (List.getElem_mem hq)).2.2.2.1
 obtain⟨gk,capk,hk⟩:∃ gk capk,K q=.slice (some ⟨gk,0,none⟩) D[q].c.length capk:=by
  rcases rowForms hkr with ⟨_,e⟩ | h
  · rw[List.length_eq_zero_iff.1 e]at hmem
    cases hmem
  · exact h
 rw[hk]at d5 hkin hkr;have CI:=index_hid D[q].c (n:Int) (by omega);have zq:(q:Int)<(D.length:Int):=by omega
 have zq0:(0:Int)<=(q:Int):=by omega
 have CD:=fun(i:Nat) (hi:i<D[q].c.length)=>delete_hid D[q].c i hi (by omega) B gk capk;have hno:=fun(i:Nat) (hi:i<D[q].c.length) (e:D[q].c[i]=(n:Int))=>noN_erase (n:=n) (C:=D[q].c) (i:=i) hnd hi e;have HKQ:Hid (K q=.slice (some ⟨gk,0,none⟩) D[q].c.length capk):=Lib.hid hk;have H0:=Lib.hid (And.intro h (And.intro hkin hkr));have HCUT:=Lib.hid hcut;obtain⟨C,hC⟩:∃ C,D[q].c=C:=⟨_,rfl⟩;have HC:=Lib.hid hC;rw[hC]at d5 CI CD hno hmem H0 HKQ hlen;clear h hkin hkr hk hp hpar hcut hnd hC;have HNO:=Lib.hid hno;clear hno
 go_enter Tryz.func182,Tryz.ntmps182
 go_wp2_with fail
 (refine(CI.out _ _ H0.out.2.1).mono ?_)
 rintro e w2 ⟨⟨r,rfl,hr⟩,hw2⟩;rw[hw2];clear hw2 CI
 obtain⟨i,rfl,hi,hiv⟩:∃ i:Nat,r=i/\∃ hi:i<C.length,C[i]=(n:Int):=by
  rcases hr with ⟨_,h⟩ | h
  · exact absurd hmem h
  · exact h
 have CD:=CD i hi;have HER:Hid (noN n C=C.eraseIdx i):=Lib.hid (HNO.out i hi hiv);clear hr hmem hiv HNO
 go_wp2_with fail
 refine(CD.out _ H0.out.2.2).mono ?_;rintro e w3 ⟨rfl,r3,k3⟩;obtain⟨cur,hcur,hBg⟩:=H0.out.1.block;have hne:g≠gk:=fun e=>row_ne H0.out.2.2 hcur (by decide) (by rw[e];rfl);have hBk:B<=gk:=(H0.out.2.2.lt gk rfl).1;have x3:=k3.cells hcur (fun e=>hne e);have hl:(C.eraseIdx i).length=C.length - 1:=by rw[List.length_eraseIdx];simp[hi]
 obtain⟨h4,-⟩:=H0.out.1.growK hq (w6:=w3) (kv := .slice (some ⟨gk,0,none⟩) (C.length - 1) capk) (C:=C.eraseIdx i) (by rw[HKQ.out];exact grown_of_kp k3) (by rw[hl];exact r3) (.inl (by rw[HKQ.out];rfl));have h5:=h4;rw[<- HER.out]at h5;have hl4:(D.set q { D[q]with c:=noN n C }).length=D.length:=List.length_set;rw[<- hl4]at h5;obtain⟨cur4,hcur4,-⟩:=h5.block;have hn4:n<(D.set q { D[q]with c:=noN n C }).length:=by rw[hl4];exact hn
 have h6:=h5.setP hn4 (-1)
 have hcE:(D.set q { D[q]with c:=noN n C }).set n { (D.set q { D[q]with c:=noN n C })[n]with p := -1 }=cutM D n:=by
  rw[HCUT.out];have e:(D.set q { D[q]with c:=noN n C })[n]=D[n]:=List.getElem_set_ne (by omega) _;rw[e,HC.out]
 rw[hl4]at h6;have hl6:(cutM D n).length=D.length:=cut_len D n
 have HE:Hid (NdsE B g cap (cutM D n) w (.returned (.tuple #[])) ((w3.setCell ⟨g,q * 8+5,none⟩ (.slice (some ⟨gk,0,none⟩) (C.length - 1) capk)).setCell ⟨g,n * 8+4,none⟩ (.int .i64 (-1)))):=Lib.hid ⟨rfl,⟨A,_,by
  rw[hl6,<- hcE]
  exact h6⟩,(k3.mono fun k c t fr hk e => .inr (by subst e;exact⟨hBk,by obtain⟨c2,h,_⟩:=row_open H0.out.2.2;rw[h]at hk;cases hk;rfl⟩)).trans ((Kp.of_set x3 _ (.inl rfl)).trans (Kp.of_set hcur4 _ (.inl rfl)))⟩
 have y3:=x3;have f3:=open_of x3 (q * 8+5)
 have hd3:w3.cell? ⟨g,q * 8+5,none⟩=some (.slice (some ⟨gk,0,none⟩) C.length capk):=by
  rw[cell_of x3,<- cell_of hcur];exact d5
 have f4:=open_of hcur4 (n * 8+4)
 have hc4:(w3.setCell ⟨g,q * 8+5,none⟩ (.slice (some ⟨gk,0,none⟩) (C.length - 1) capk)).cell? ⟨g,n * 8+4,none⟩=some (.int .i64 (q:Int)):=by
  rw[World.cell?_setCell_other _ _ _ _ (by intro e;injection e with _ e;omega),cell_of x3,<- cell_of hcur];exact c4
 clear h4 h5 h6 x3 y3 hcur hcur4 r3 k3 H0 CD
 go_wp2
 go_end0
 exact HE.out
end Go.Proofs.YtlnfbjbagmfpiaaGreatDoor.Dm
namespace Go.Proofs.YtlnfbjbagmfpiaaGreatDoor.Dm
open Go.RowKit
def ndZ:Nd:=⟨0,[],[],[],0,[],false,false⟩
def layM (D:List Nd)(q n:Nat):List Nd:=match (D.set n { D[n]?.getD ndZ with p:=(q:Int) })[q]? with
 | some x=>(D.set n { D[n]?.getD ndZ with p:=(q:Int) }).set q { x with c:=x.c++[(n:Int)] }
 | none=>D
theorem layM_eq {D:List Nd}{q n:Nat}(hn:n<D.length){E:List Nd}(hE:E=D.set n { D[n]with p:=(q:Int) })(hq:q<E.length):layM D q n=E.set q { E[q]with c:=E[q].c++[(n:Int)] }:=by
 have e:D[n]?.getD ndZ=D[n]:=by rw[List.getElem?_eq_getElem hn];rfl
 unfold layM;rw[e,<- hE,List.getElem?_eq_getElem hq]
theorem lay_cut {D:List Nd}{q n:Nat}(hn:n<D.length)(hq:q<D.length)(hqn:q≠n):layM (cutM D n) q n=putM D q n:=by
 have hnc:n<(cutM D n).length:=by rw[cut_len];exact hn
 have hl:((cutM D n).set n { (cutM D n)[n]with p:=(q:Int) }).length=D.length:=by rw[List.length_set,cut_len]
 rw[layM_eq hnc rfl (by rw[hl];exact hq)];exact(put_of_cut hn hqn (E:=(cutM D n).set n { (cutM D n)[n]with p:=(q:Int) }) (fun _=>rfl) (by rw[hl];exact hq)).symm
theorem lay_hid (D:List Nd)(hc:∀ x∈D,x.c.length<=1000)(q n:Nat)(hq:q<D.length)(hn:n<D.length)(hqn:q≠n)(B g cap:Nat):Hid (∀ W A K,OwnD W B (.slice (some ⟨g,0,none⟩) D.length cap) D A K->B<=W.heap.size->Calls Tryz.prog 183 #[.slice (some ⟨g,0,none⟩) D.length cap,.int .i64 (q:Int),.int .i64 (n:Int)] W (NdsE B g cap (layM D q n) W)):=Lib.hid fun w A K h hB=>by
 have zn:(n:Int)<(D.length:Int):=by omega
 have zq:(q:Int)<(D.length:Int):=by omega
 obtain⟨i0,hi3,hz0,hz1,hz2⟩:=info_parts Tinfo3;obtain⟨cur,hcur,hBg⟩:=h.block;obtain⟨B',off',hB',-,-,-,-,c4,-⟩:=h.doc.node hn
 cases hB'
 simp only[Nat.zero_add]at c4;have f4:=open_of hcur (n * 8+4);have h1:=h.setP hn (q:Int);obtain⟨E,hE⟩:∃ E,E=D.set n { D[n]with p:=(q:Int) }:=⟨_,rfl⟩;have hEl:E.length=D.length:=by rw[hE,List.length_set]
 rw[<- hE,<- hEl]at h1;have hqE:q<E.length:=by omega
 have hM:=layM_eq hn hE hqE;obtain⟨B',off',hB',-,-,-,-,-,d5,-⟩:=h1.doc.node hqE
 cases hB'
 simp only[Nat.zero_add]at d5;obtain⟨ka,kc,hk⟩:=(h1.doc.kd q hqE).form;have hkr:=h1.kd q hqE;rw[hk]at d5 hkr
 have hkl:E[q].c.length<=1000:=by
  have h2:E[q]=D[q]:=by
   simp only[hE];exact List.getElem_set_ne (by omega) _
  rw[h2];exact hc _ (List.getElem_mem hq)
 have kS:Kp (fun j _=>j=g) w (w.setCell ⟨g,n * 8+4,none⟩ (.int .i64 (q:Int))):=Kp.of_set hcur _ rfl;have H1:=Lib.hid (And.intro h1 (And.intro hkr kS));have HK:=Lib.hid hk;have HM:=Lib.hid hM;obtain⟨C,hC⟩:∃ C,E[q].c=C:=⟨_,rfl⟩;rw[hC]at d5 hkl HM H1 HK;clear h h1 hkr kS hk hM hE hC
 go_enter Tryz.func183,Tryz.ntmps183
 generalize hw1:w.setCell ⟨g,n * 8+4,none⟩ (.int .i64 (q:Int))=w1 at d5 H1;have al:=(Below.refl w1.heap.size w1).alloc (Nat.le_refl _) (.cells #[.int .i64 (n:Int)] 3);have hro:=RowIn.made w1 #[.int .i64 (n:Int)] 3 1 1 rfl (fun x hx=>by simp at hx;rw[hx];rfl);have H5:=Lib.hid (And.intro hro (row_below H1.out.2.1 al));have hs1:w1.heap.size=w.heap.size:=by rw[<- hw1];simp
 have hws:B<=(w1.alloc (.cells #[.int .i64 (n:Int)] 3)).heap.size:=by simp;omega
 clear hs1;have d5':(w1.alloc (.cells #[.int .i64 (n:Int)] 3)).cell? ⟨g,q * 8+5,none⟩=some (.slice ka C.length kc):=(al.cell (lt_of_cell d5)).trans d5
 go_wp2_with (at_builtin
              refine wpList_append_rowG rfl _ _ 37 3 i0 (.int .i64 0) 1 8 Tryz.underlying37 hi3 hz0 hz1 hz2 rfl (by decide) rfl B _ _ _ rfl H5.out.2 _ 1 _ rfl H5.out.1 (by unfold maxLen;omega) (by omega) hws ?_;intro v6 w6 hown6 hgrow6 hat6;have G6:=Lib.hid (H1.out.1.below al |>.growK hqE (w6:=w6) (kv:=v6) (C:=C++[(n:Int)]) (by rw[HK.out];exact hgrow6) (by rw[List.length_append,inC_app];exact hown6) (by rw[HK.out];exact hat6));obtain⟨cg,hcg,-⟩:=(H1.out.1.below al).block;have x6:=(hgrow6.block _ (lt_of_block hcg) (fun e=>row_ne H5.out.2 hcg (by decide) e.symm)).trans hcg;have f6:=open_of x6 (q * 8+5);have d6:w6.cell? ⟨g,q * 8+5,none⟩=some (.slice ka C.length kc):=by rw[cell_of x6,<- cell_of hcg];exact d5'
              have HE:Hid (NdsE B g cap (layM D q n) w (.returned (.tuple #[])) (w6.setCell ⟨g,q * 8+5,none⟩ v6)):=Lib.hid ⟨rfl,⟨A,_,by rw[show(layM D q n).length=E.length by rw[HM.out,List.length_set],HM.out];exact G6.out.1⟩,((H1.out.2.2.mono fun _ _ _ _ _ e => .inl e).trans ((Kp.of_below al).trans (G6.out.2.mono fun _ _ _ _ _ e => .inr ⟨e.2,e.1⟩))).trans (Kp.of_set x6 _ (.inl rfl))⟩;obtain⟨va,vc,rfl⟩:=row_form hown6
              clear hown6 hgrow6 hat6 hcg x6)
 go_end0
 exact HE.out
end Go.Proofs.YtlnfbjbagmfpiaaGreatDoor.Dm
namespace Go.Proofs.YtlnfbjbagmfpiaaGreatDoor.Dm
open Go.RowKit
theorem atC_setV:∀(A:List (List UInt8 × List UInt8)) (i:Nat) (h:i<A.length) (v:List UInt8),(atC A).set (i * 2+1) (strV v)=atC (A.set i (A[i].1,v))
 | y :: A,0,_,v=>rfl
 | y :: A,i+1,h,v=>by
   have ih:=atC_setV A i (by simpa using h) v;show([strV y.1,strV y.2]++atC A).set ((i+1) * 2+1) (strV v)=[strV y.1,strV y.2]++atC (A.set i _);rw[show(i+1) * 2+1=([strV y.1,strV y.2]:List Value).length+(i * 2+1) by simp;omega,List.set_append_right _ _ (by omega),Nat.add_sub_cancel_left];exact congrArg _ ih
theorem OwnD.setV {w:World}{B g cap ga ca:Nat}{D:List Nd}{A K:Nat->Value}(h:OwnD w B (.slice (some ⟨g,0,none⟩) D.length cap) D A K){i at_:Nat}(hi:i<D.length)(hA:A i=.slice (some ⟨ga,0,none⟩) D[i].a.length ca)(ha:at_<D[i].a.length)(v:List UInt8) :
 OwnD (w.setCell ⟨ga,at_ * 2+1,none⟩ (strV v)) B (.slice (some ⟨g,0,none⟩) D.length cap) (D.set i { D[i]with a:=D[i].a.set at_ (D[i].a[at_].1,v) }) A K/\Kp (fun j _=>j=ga) w (w.setCell ⟨ga,at_ * 2+1,none⟩ (strV v))/\B<=ga/\∃ c,w.heap[ga]? = some (.cells c 41 (0,0)):=by
 have hr:=h.at' i hi;rw[hA]at hr;obtain⟨cur,hcur,hB⟩:=row_open hr;have k:Kp (fun j _=>j=ga) w (w.setCell ⟨ga,at_ * 2+1,none⟩ (strV v)):=Kp.of_set hcur _ rfl;refine⟨⟨?_,fun j hj => ?_,fun j hj => ?_,fun j l hj hl=>h.na j l (by simpa using hj) (by simpa using hl),fun j l hj hl=>h.nk j l (by simpa using hj) (by simpa using hl)⟩,k,hB,cur,hcur⟩
 · have h1:=k.row h.row fun j hj _ e=>row_ne h.row hcur (by decide) (by rw[hj,e])
   rw[set_kinds hi (y:={ D[i]with a:=D[i].a.set at_ (D[i].a[at_].1,v) }) ⟨rfl,rfl,rfl,rfl,rfl,rfl⟩]
   simpa using h1
 · have hj':j<D.length:=by simpa using hj
   rw[get_set hj]
   by_cases e:i=j
   · subst e
     rw[if_pos rfl];have h2:=ownsRow_set hr (at_ * 2+1) (strV v);rw[atC_setV _ _ ha]at h2;simp only[List.length_set];rw[hA];exact h2
   · rw[if_neg e]
     exact k.row (h.at' j hj') fun l hl _ e2=>by
      subst e2;exact h.na j i hj' hi (fun h=>e h.symm) _ hl (by rw[hA];rfl)
 · have hj':j<D.length:=by simpa using hj
   have h1:=k.row (h.kd j hj') fun l hl _ e=>row_ne (h.kd j hj') hcur (by decide) (by rw[hl,e]);rw[get_set hj]
   by_cases e:i=j
   · subst e
     rw[if_pos rfl];exact h1
   · rw[if_neg e]
     exact h1
end Go.Proofs.YtlnfbjbagmfpiaaGreatDoor.Dm
namespace Go.Proofs.YtlnfbjbagmfpiaaGreatDoor.Dm
open Go.RowKit
theorem OwnX.some {w:World}{B:Nat}{sl:Value}{D:List Nd}(h:OwnX w B sl D)(h0:0<D.length):∃ g cap A K,sl=.slice (some ⟨g,0,none⟩) D.length cap/\OwnD w B (.slice (some ⟨g,0,none⟩) D.length cap) D A K:=by
 obtain⟨A,K,h⟩:=h;rcases rowForms h.row with ⟨_,e⟩ | ⟨g,cap,e⟩
 · omega
 · exact⟨g,cap,A,K,e,by rw[<- e];exact h⟩
theorem NdsE.chg {B g cap Bo:Nat}{E:List Nd}{W w':World}{e:Ending}(h:NdsE B g cap E W e w')(hb:W.heap[Bo]? = some (.cells #[.slice (some ⟨g,0,none⟩) E.length cap] 24 (0,0)))(hg:∃ cur,W.heap[g]? = some (.cells cur 39 (0,0))/\B<=g):ChgE B Bo E W e w':=by
 obtain⟨rfl,⟨A,K,o⟩,k⟩:=h;obtain⟨cur,hg,hB⟩:=hg;refine⟨rfl,_,k.cells hb ?_,⟨A,K,o⟩,k.mono fun j c t fr hj hp => ?_⟩
 · rintro(rfl | ⟨_,h⟩)
   · rw[hg]at hb;cases hb
   · exact absurd h (by decide)
 · rcases hp with rfl | ⟨h1,h2⟩
   · rw[hg]at hj
     cases hj
     exact⟨hB,fun h=>absurd h (by decide)⟩
   · subst h2
     exact⟨h1,fun h=>absurd h (by decide)⟩
theorem ChgE.from {B Bo:Nat}{E:List Nd}{W W' w':World}{e:Ending}(h:ChgE B Bo E W' e w')(k:Kp (chP B Bo) W W'):ChgE B Bo E W e w':=by
 obtain⟨h1,sl,h2,h3,h4⟩:=h;exact⟨h1,sl,h2,h3,k.trans h4⟩
end Go.Proofs.YtlnfbjbagmfpiaaGreatDoor.Dm
