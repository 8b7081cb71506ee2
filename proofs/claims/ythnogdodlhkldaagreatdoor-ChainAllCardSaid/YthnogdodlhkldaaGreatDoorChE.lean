/- Policies are gone through: the program's. -/
import Derived.Test.YthnogdodlhkldaaGreatDoorChI
import Derived.Test.YthnogdodlhkldaaGreatDoorChD
set_option maxRecDepth 100000
set_option maxHeartbeats 8000000
namespace Go.Proofs.YthnogdodlhkldaaGreatDoor
open Go.RowKit
open Go.Shelf
attribute [local go_sem] Oper.semAt_some
def dH (w:World)(R:Nat)(b:Bool)(v:Value):Prop:=w.heap[R]? = some (.cells #[.bool b,v] 50 (0,0))
theorem dH.lt {w:World}{R:Nat}{b:Bool}{v:Value}(a:dH w R b v):R<w.heap.size:=aD a
theorem dH.below {w w':World}{R:Nat}{b:Bool}{v:Value}(a:dH w R b v)(hb:Below w.heap.size w w'):dH w' R b v:=by
 unfold dH at *;rw[hb.block R (aD a)];exact a
theorem dH.made (w:World)(b:Bool)(v:Value):dH (w.alloc (.cells #[.bool b,v] 50)) w.heap.size b v:=aW w _
theorem dH.c0 {w:World}{R:Nat}{b:Bool}{v:Value}(a:dH w R b v):w.cell? ⟨R,0,none⟩=some (.bool b):=by rw[aG a];rfl
theorem dH.c1 {w:World}{R:Nat}{b:Bool}{v:Value}(a:dH w R b v):w.cell? ⟨R,1,none⟩=some v:=by rw[aG a];rfl
theorem dH.set0 {w:World}{R:Nat}{b:Bool}{v:Value}(a:dH w R b v)(c:Bool):dH (w.setCell ⟨R,0,none⟩ (.bool c)) R c v:=aI w R 0 _ _ _ _ a
theorem dH.set1 {w:World}{R:Nat}{b:Bool}{v:Value}(a:dH w R b v)(u:Value):dH (w.setCell ⟨R,1,none⟩ u) R b u:=aI w R 1 _ _ _ _ a
theorem dN {w:World}{k R j:Nat}{x:Obj}(h:w.heap[k]? = some x)(hk:k≠R)(u:Value):(w.setCell ⟨R,j,none⟩ u).heap[k]? = some x:=by
 rw[Below.heap_setCell _ _ _ _ hk];exact h
theorem eN {A B:World}{ob:Option Nat}{k:Nat}{cs:Array Value}{t:TypeId}{fr:Nat × Nat}(h:A.heap[k]? = some (.cells cs t fr))(g:A.grownBy B ob)(hob:∀ k,ob=some k->∃ cs fr,A.heap[k]? = some (.cells cs 54 fr))(ht:t≠54):B.heap[k]? = some (.cells cs t fr):=by
 rw[g.block k (aD h) (fun e=>by
  obtain⟨c,f,h2⟩:=hob k e.symm;rw[h]at h2
  cases h2
  exact ht rfl)]
 exact h
theorem aT4 {A:World}{base n:Nat}{v:Value}{xs:List Value}(h:A.ownsRow base 54 3 v n xs):∀ k,v.ownBlock=some k->∃ cs fr,A.heap[k]? = some (.cells cs 54 fr):=fun k hk=>by
 rcases h.2 with ⟨rfl,_⟩ | ⟨g,cap,cur,rfl,_,h2,_⟩
 · cases hk
 · cases hk;exact⟨_,_,h2⟩
theorem aC9 {A B:World}{ob:Option Nat}(g:A.grownBy B ob)(hob:∀ k,ob=some k->∃ cs fr,A.heap[k]? = some (.cells cs 54 fr)):KeepsOthers A B :=
 ⟨g.size,fun k o ho hc=>by
   rw[g.block k (aD ho) (fun e=>by
    obtain⟨c,f,h2⟩:=hob k e.symm;rw[ho]at h2
    cases h2
    cases hc)]
   exact ho⟩
theorem aR.kept {lo:Nat}{A B:World}(k:bX lo A B){v:Value}{ts:List (List UInt8)}(h:aR A v ts):aR B v ts:=by
 rcases h with h | ⟨b,off,cap,h1,h2⟩
 · exact .inl h
 · exact .inr ⟨b,off,cap,h1,fun j hj=>k.cell (h2 j hj)⟩
theorem aU.kept {lo:Nat}{A B:World}(k:bX lo A B){v:Value}{ds:List D}(h:aU A v ds):aU B v ds:=by
 rcases h with h | ⟨b,off,cap,h1,h2⟩
 · exact .inl h
 · refine .inr ⟨b,off,cap,h1,fun j hj => ?_⟩
   obtain⟨k1,u,k2,k3⟩:=h2 j hj;exact⟨k.cell k1,u,k.cell k2,k3.kept k⟩
def aF4 (b:Brk):List Value:=[.int .i64 (b.i:Int),dA b.n,.bool b.r]
def fK (L:List Brk):List Value:=L.flatMap aF4
theorem bI8 (L:List Brk):(fK L).length=L.length * 3:=by
 induction L with
 | nil=>rfl
 | cons a L ih=>unfold fK at *;rw[List.flatMap_cons,List.length_append,ih,List.length_cons];show 3+_=_;omega
theorem sQ (L:List Brk)(a:Brk):fK (L++[a])=fK L++aF4 a:=by unfold fK;rw[List.flatMap_append];simp
theorem aG3:(Tryz.prog.info? 54).map (fun i=>(i.zero,i.size,i.bytes))=some (some (.agg #[.int .i64 0,.string ⟨#[]⟩,.bool false]),3,32):=by kernel_rfl
def qP (w:World)(rk:Int)(rt:ByteArray)(o:Bool)(s2 h2:ByteArray)(p:Int)(pa2 q2:ByteArray)(mv:Bool)(rn:ByteArray)(pr:Bool)(o3:Bool)(s3 h3:ByteArray)(p3:Int)(pa3 q3:ByteArray)(bs:List Brk)(W:World):Prop :=
 (∃ v,dH W (w.heap.size+2) (bs.all Brk.r) v/\W.ownsRow w.heap.size 54 3 v bs.length (fK bs))/\RX W w.heap.size rk rt o s2 h2 p pa2 q2 mv rn pr o3 s3 h3 p3 pa3 q3/\dH W (w.heap.size+1) false (.slice none 0 0)/\Below w.heap.size w W
theorem qP.kept {w A B:World}{lo:Nat}{rk:Int}{rt:ByteArray}{o:Bool}{s2 h2:ByteArray}{p:Int}{pa2 q2:ByteArray}{mv:Bool}{rn:ByteArray}{pr:Bool}{o3:Bool}{s3 h3:ByteArray}{p3:Int}{pa3 q3:ByteArray}{bs:List Brk}(h:qP w rk rt o s2 h2 p pa2 q2 mv rn pr o3 s3 h3 p3 pa3 q3 bs A)(k:bX lo A B)(hlo:w.heap.size<=lo):qP w rk rt o s2 h2 p pa2 q2 mv rn pr o3 s3 h3 p3 pa3 q3 bs B:=by
 obtain⟨⟨v,h1,h2⟩,h3,h4,h5⟩:=h;exact⟨⟨v,k.same _ _ h1 (.inr rfl),k.row h2⟩,k.same _ _ h3 (.inr rfl),k.same _ _ h4 (.inr rfl),k.low h5 hlo h5.size⟩
theorem fM {w:World}{base n:Nat}{v:Value}{xs:List Value}(h:w.ownsRow base 54 3 v n xs){R j:Nat}{cs:Array Value}{t:TypeId}{fr:Nat × Nat}(hR:w.heap[R]? = some (.cells cs t fr))(ht:t≠54){u:Value}:(w.setCell ⟨R,j,none⟩ u).ownsRow base 54 3 v n xs:=by
 refine⟨h.1,?_⟩;rcases h.2 with h2 | ⟨g,cap,cur,h1,h2,h3,h4⟩
 · exact .inl h2
 · refine .inr ⟨g,cap,cur,h1,h2,?_,h4⟩
   exact dN h3 (fun e=>by subst e;rw[h3]at hR;cases hR;exact ht rfl) u
theorem bI7 (ps:List (List D × Bool))(hl:ps.length<=1000)(hf:∀ p∈ps,eX p.1)(pv:Value)(rk:Int)(rt:ByteArray)(o:Bool)(s2 h2:ByteArray)(p:Int)(pa2 q2:ByteArray)(mv:Bool)(rn:ByteArray)(pr:Bool)(o3:Bool)(s3 h3:ByteArray)(p3:Int)(pa3 q3:ByteArray)(zt:rt.size<=100000)(su1:s2.size<=100000)(su2:h2.size<=100000)(su3:pa2.size<=100000)(su4:q2.size<=100000)(sv1:s3.size<=100000)(sv2:h3.size<=100000)(sv3:pa3.size<=100000)(sv4:q3.size<=100000)(w:World)(hw:dZ w)(hp:bM w pv ps):Calls Tryz.prog 25 #[pv,bN rk rt o s2 h2 p pa2 q2 mv rn pr o3 s3 h3 p3 pa3 q3] w fun e w'=>∃ u,e=.returned (.agg #[.bool (rV ps (dP rk rt o s2 h2 p pa2 q2 mv rn pr o3 s3 h3 p3 pa3 q3)),u])/\w'.ownsRow w.heap.size 54 3 u (bE ps (dP rk rt o s2 h2 p pa2 q2 mv rn pr o3 s3 h3 p3 pa3 q3)).length (fK (bE ps (dP rk rt o s2 h2 p pa2 q2 mv rn pr o3 s3 h3 p3 pa3 q3)))/\Below w.heap.size w w':=by
 obtain⟨pa,pc,rfl⟩:=hp.form;have HF:=zH hf;have HW:=zH hw;have HP:=zH hp;have C1:Hid (∀(ds:List D) (a:Option Addr) (c:Nat) (r:Bool) (W:World),eX ds->dZ W->aU W (.slice a ds.length c) ds->Calls Tryz.prog 22 #[.agg #[.slice a ds.length c,.bool r],bN rk rt o s2 h2 p pa2 q2 mv rn pr o3 s3 h3 p3 pa3 q3] W fun e w'=>∃ b N,e=.returned (.tuple #[.bool b,.string N])/\fQ ds (dP rk rt o s2 h2 p pa2 q2 mv rn pr o3 s3 h3 p3 pa3 q3)=(b,N.data.toList)/\Below W.heap.size W w'):=zH fun ds a c r W h1 h_ h3_=>pB ds _ r rk rt o s2 h2 p pa2 q2 mv rn pr o3 s3 h3 p3 pa3 q3 zt su1 su2 su3 su4 sv1 sv2 sv3 sv4 h1 W h_ h3_;have HB:Hid (∀ xs,pelS ps xs->iG xs (dP rk rt o s2 h2 p pa2 q2 mv rn pr o3 s3 h3 p3 pa3 q3)=bE ps (dP rk rt o s2 h2 p pa2 q2 mv rn pr o3 s3 h3 p3 pa3 q3)):=zH fun xs h=>bJ0 h _;have HOK:rV ps (dP rk rt o s2 h2 p pa2 q2 mv rn pr o3 s3 h3 p3 pa3 q3)=(bE ps (dP rk rt o s2 h2 p pa2 q2 mv rn pr o3 s3 h3 p3 pa3 q3)).all Brk.r:=rfl;rw[HOK];generalize bE ps (dP rk rt o s2 h2 p pa2 q2 mv rn pr o3 s3 h3 p3 pa3 q3)=bs at HB ⊢;obtain⟨okb,hokb⟩:∃ okb,bs.all Brk.r=okb:=⟨_,rfl⟩;rw[hokb];have HOKB:=zH hokb;clear hokb;have x1:=RX.made w rk rt o s2 h2 p pa2 q2 mv rn pr o3 s3 h3 p3 pa3 q3;have x2:=dH.made (w.alloc (.cells #[.int .i64 rk,.string rt,.bool o,.string s2,.string h2,.int .i64 p,.string pa2,.string q2,.bool mv,.string rn,.bool pr,.bool o3,.string s3,.string h3,.int .i64 p3,.string pa3,.string q3] 42)) false (.slice none 0 0);have x3:=dH.made ((w.alloc (.cells #[.int .i64 rk,.string rt,.bool o,.string s2,.string h2,.int .i64 p,.string pa2,.string q2,.bool mv,.string rn,.bool pr,.bool o3,.string s3,.string h3,.int .i64 p3,.string pa3,.string q3] 42)).alloc (.cells #[.bool false,.slice none 0 0] 50)) true (.slice none 0 0);have x4:=aW (((w.alloc (.cells #[.int .i64 rk,.string rt,.bool o,.string s2,.string h2,.int .i64 p,.string pa2,.string q2,.bool mv,.string rn,.bool pr,.bool o3,.string s3,.string h3,.int .i64 p3,.string pa3,.string q3] 42)).alloc (.cells #[.bool false,.slice none 0 0] 50)).alloc (.cells #[.bool true,.slice none 0 0] 50)) (.cells #[.slice pa ps.length pc] 27);simp only[World.size_alloc]at x2 x3 x4;have b2:Below (w.alloc (.cells #[.int .i64 rk,.string rt,.bool o,.string s2,.string h2,.int .i64 p,.string pa2,.string q2,.bool mv,.string rn,.bool pr,.bool o3,.string s3,.string h3,.int .i64 p3,.string pa3,.string q3] 42)).heap.size (w.alloc (.cells #[.int .i64 rk,.string rt,.bool o,.string s2,.string h2,.int .i64 p,.string pa2,.string q2,.bool mv,.string rn,.bool pr,.bool o3,.string s3,.string h3,.int .i64 p3,.string pa3,.string q3] 42)) ((((w.alloc (.cells #[.int .i64 rk,.string rt,.bool o,.string s2,.string h2,.int .i64 p,.string pa2,.string q2,.bool mv,.string rn,.bool pr,.bool o3,.string s3,.string h3,.int .i64 p3,.string pa3,.string q3] 42)).alloc (.cells #[.bool false,.slice none 0 0] 50)).alloc (.cells #[.bool true,.slice none 0 0] 50)).alloc (.cells #[.slice pa ps.length pc] 27)):=(((zB _ _).alloc (zL _) _).alloc (by simp) _).alloc (by simp only[World.size_alloc];omega) _;have b3:Below ((w.alloc (.cells #[.int .i64 rk,.string rt,.bool o,.string s2,.string h2,.int .i64 p,.string pa2,.string q2,.bool mv,.string rn,.bool pr,.bool o3,.string s3,.string h3,.int .i64 p3,.string pa3,.string q3] 42)).alloc (.cells #[.bool false,.slice none 0 0] 50)).heap.size ((w.alloc (.cells #[.int .i64 rk,.string rt,.bool o,.string s2,.string h2,.int .i64 p,.string pa2,.string q2,.bool mv,.string rn,.bool pr,.bool o3,.string s3,.string h3,.int .i64 p3,.string pa3,.string q3] 42)).alloc (.cells #[.bool false,.slice none 0 0] 50)) ((((w.alloc (.cells #[.int .i64 rk,.string rt,.bool o,.string s2,.string h2,.int .i64 p,.string pa2,.string q2,.bool mv,.string rn,.bool pr,.bool o3,.string s3,.string h3,.int .i64 p3,.string pa3,.string q3] 42)).alloc (.cells #[.bool false,.slice none 0 0] 50)).alloc (.cells #[.bool true,.slice none 0 0] 50)).alloc (.cells #[.slice pa ps.length pc] 27)):=((zB _ _).alloc (zL _) _).alloc (by simp) _;have b4:Below (((w.alloc (.cells #[.int .i64 rk,.string rt,.bool o,.string s2,.string h2,.int .i64 p,.string pa2,.string q2,.bool mv,.string rn,.bool pr,.bool o3,.string s3,.string h3,.int .i64 p3,.string pa3,.string q3] 42)).alloc (.cells #[.bool false,.slice none 0 0] 50)).alloc (.cells #[.bool true,.slice none 0 0] 50)).heap.size (((w.alloc (.cells #[.int .i64 rk,.string rt,.bool o,.string s2,.string h2,.int .i64 p,.string pa2,.string q2,.bool mv,.string rn,.bool pr,.bool o3,.string s3,.string h3,.int .i64 p3,.string pa3,.string q3] 42)).alloc (.cells #[.bool false,.slice none 0 0] 50)).alloc (.cells #[.bool true,.slice none 0 0] 50)) ((((w.alloc (.cells #[.int .i64 rk,.string rt,.bool o,.string s2,.string h2,.int .i64 p,.string pa2,.string q2,.bool mv,.string rn,.bool pr,.bool o3,.string s3,.string h3,.int .i64 p3,.string pa3,.string q3] 42)).alloc (.cells #[.bool false,.slice none 0 0] 50)).alloc (.cells #[.bool true,.slice none 0 0] 50)).alloc (.cells #[.slice pa ps.length pc] 27)):=(zB _ _).alloc (zL _) _;have bw:Below w.heap.size w ((((w.alloc (.cells #[.int .i64 rk,.string rt,.bool o,.string s2,.string h2,.int .i64 p,.string pa2,.string q2,.bool mv,.string rn,.bool pr,.bool o3,.string s3,.string h3,.int .i64 p3,.string pa3,.string q3] 42)).alloc (.cells #[.bool false,.slice none 0 0] 50)).alloc (.cells #[.bool true,.slice none 0 0] 50)).alloc (.cells #[.slice pa ps.length pc] 27)):=((zB _ _).alloc (zL _) _).trans (b2.mono (by simp));have sz:((((w.alloc (.cells #[.int .i64 rk,.string rt,.bool o,.string s2,.string h2,.int .i64 p,.string pa2,.string q2,.bool mv,.string rn,.bool pr,.bool o3,.string s3,.string h3,.int .i64 p3,.string pa3,.string q3] 42)).alloc (.cells #[.bool false,.slice none 0 0] 50)).alloc (.cells #[.bool true,.slice none 0 0] 50)).alloc (.cells #[.slice pa ps.length pc] 27)).heap.size=w.heap.size+4:=by simp
 have HIN:Hid (qP w rk rt o s2 h2 p pa2 q2 mv rn pr o3 s3 h3 p3 pa3 q3 [] ((((w.alloc (.cells #[.int .i64 rk,.string rt,.bool o,.string s2,.string h2,.int .i64 p,.string pa2,.string q2,.bool mv,.string rn,.bool pr,.bool o3,.string s3,.string h3,.int .i64 p3,.string pa3,.string q3] 42)).alloc (.cells #[.bool false,.slice none 0 0] 50)).alloc (.cells #[.bool true,.slice none 0 0] 50)).alloc (.cells #[.slice pa ps.length pc] 27))):=zH ⟨⟨_,x3.below b4,World.ownsRow_nil _ _ _ _⟩,x1.below b2,x2.below b3,bw⟩;have HX:=zH (And.intro x4 (And.intro bw sz));clear hf hw hp HOK x1 x2 x3 x4 b2 b3 b4 bw sz;unfold bN;refine(callsIn_wide (n:=0)).1 ?_;refine callsIn_of_wp_marks Tryz.func25 rfl trivial ?_ rfl;simp only[Tryz.ntmps25,List.size_toArray,List.length_cons,List.length_nil,Nat.reduceAdd,Nat.reduceSub,Array.replicate_succ,Array.replicate_zero,List.push_toArray,List.append_toArray,List.nil_append,List.cons_append]
 gi_wp2_with (refine⟨trivial,rfl,?_⟩;gi_at_call 47;(with_reducible refine(callsIn_wide.2 (aY5 pa ps.length pc _)).mono ?_);rintro e w4 ⟨rfl,rfl⟩)
 change Code.wpIn _ _ _ _ _ _ ((((w.alloc (.cells #[.int .i64 rk,.string rt,.bool o,.string s2,.string h2,.int .i64 p,.string pa2,.string q2,.bool mv,.string rn,.bool pr,.bool o3,.string s3,.string h3,.int .i64 p3,.string pa3,.string q3] 42)).alloc (.cells #[.bool false,.slice none 0 0] 50)).alloc (.cells #[.bool true,.slice none 0 0] 50)).alloc (.cells #[.slice pa ps.length pc] 27));obtain⟨x4,bw,sz⟩:=HX.out;clear HX;generalize((((w.alloc (.cells #[.int .i64 rk,.string rt,.bool o,.string s2,.string h2,.int .i64 p,.string pa2,.string q2,.bool mv,.string rn,.bool pr,.bool o3,.string s3,.string h3,.int .i64 p3,.string pa3,.string q3] 42)).alloc (.cells #[.bool false,.slice none 0 0] 50)).alloc (.cells #[.bool true,.slice none 0 0] 50)).alloc (.cells #[.slice pa ps.length pc] 27))=wl at HIN x4 bw sz ⊢;have TL:=zE ps (by omega) (.slice pa ps.length pc) w wl HP.out bw (w.heap.size+3) x4;clear x4 bw HP;refine aB2 (w:=wl) rfl (enters_of Tryz.func75 (by kernel_rfl) rfl) (encs:=pelV) (fun x=>rfl) (by omega) TL (fun pre=>qP w rk rt o s2 h2 p pa2 q2 mv rn pr o3 s3 h3 p3 pa3 q3 (iG pre (dP rk rt o s2 h2 p pa2 q2 mv rn pr o3 s3 h3 p3 pa3 q3))) (fun s A B h hb=>h.kept (bX.of_below hb) (zL _)) (fun s A l o o' h hl ho hc=>h.kept (bX.putObj (lo:=w.heap.size) ho hc (by omega) o') (zL _)) HIN.out ?round ?done
 case round =>
  rintro l pre ⟨xi,ds,xr,ua,uc⟩ W hlw ⟨rec,hrec⟩ hI ⟨hE,hmem⟩ hcnt;dsimp only at hE;dsimp only[vN.k]at hmem;have HI:=zH hI;have HE:=zH hE;clear hI hE TL HIN HB;dsimp only[pelV]
  gi_wp2
  refine⟨(KeepsOthers.alloc _ _).from _,fun r' => ?_⟩;have hsW:w.heap.size<=W.heap.size:=HI.out.2.2.2.size;have ba:Below W.heap.size W (W.alloc (.cells #[.slice ua ds.length uc,.bool xr] 24)):=(zB _ _).alloc (zL _) _;have xq:=aW W (.cells #[.slice ua ds.length uc,.bool xr] 24);have rla:(W.alloc (.cells #[.slice ua ds.length uc,.bool xr] 24)).heap[l]? = some (.loop rec):=(ba.block _ (aD hrec)).trans hrec;have hlW:l≠W.heap.size:=by have:=aD hrec;omega
  have k2:bX w.heap.size W ((W.alloc (.cells #[.slice ua ds.length uc,.bool xr] 24)).putObj l (.loop r')):=by
   have h1_:bX w.heap.size W (W.alloc (.cells #[.slice ua ds.length uc,.bool xr] 24)):=bX.of_below ba;have h2_:bX w.heap.size (W.alloc (.cells #[.slice ua ds.length uc,.bool xr] 24)) ((W.alloc (.cells #[.slice ua ds.length uc,.bool xr] 24)).putObj l (.loop r')):=bX.putObj rla rfl (by omega) _;exact⟨h2_.os.trans h1_.os,h2_.tape.trans h1_.tape,h2_.output.trans h1_.output,Nat.le_trans h1_.size h2_.size,fun j o hj hx=>h2_.same j o (h1_.same j o hj hx) hx⟩
  have bW2:Below w.heap.size W ((W.alloc (.cells #[.slice ua ds.length uc,.bool xr] 24)).putObj l (.loop r')):=k2.low (zB _ _) (zL _) hsW;have xp2:PX ((W.alloc (.cells #[.slice ua ds.length uc,.bool xr] 24)).putObj l (.loop r')) W.heap.size (.slice ua ds.length uc) xr:=(World.putObj_heap_other (fun e=>hlW e.symm)).trans xq;have hPW:w.heap.size+4<=W.heap.size:=by rw[<- sz];exact Nat.le_trans hlw (zT (aD hrec))
  generalize(W.alloc (.cells #[.slice ua ds.length uc,.bool xr] 24)).putObj l (.loop r')=W2 at k2 xp2 bW2 ⊢;generalize W.heap.size=Pb at xp2 hPW ⊢;obtain⟨⟨v,hV,hrow⟩,hRX,hZ,hBw⟩:=HI.out.kept k2 (zL _);have hone_:=C1.out ds ua uc xr W2 (HF.out _ hmem) (HW.out.below hBw) (HE.out.kept k2);have hbl:(iG pre (dP rk rt o s2 h2 p pa2 q2 mv rn pr o3 s3 h3 p3 pa3 q3)).length<=1000:=Nat.le_trans (bI9 _ _) (by omega);have HN:Hid (iG (pre++[⟨xi,ds,xr,ua,uc⟩]) (dP rk rt o s2 h2 p pa2 q2 mv rn pr o3 s3 h3 p3 pa3 q3)=iG pre (dP rk rt o s2 h2 p pa2 q2 mv rn pr o3 s3 h3 p3 pa3 q3)++lL xi (ds,xr) (dP rk rt o s2 h2 p pa2 q2 mv rn pr o3 s3 h3 p3 pa3 q3)):=zH (aR6 pre ⟨xi,ds,xr,ua,uc⟩ (dP rk rt o s2 h2 p pa2 q2 mv rn pr o3 s3 h3 p3 pa3 q3));rw[HN.out];unfold lL;dsimp only;generalize iG pre (dP rk rt o s2 h2 p pa2 q2 mv rn pr o3 s3 h3 p3 pa3 q3)=bs0 at hV hrow hbl ⊢;generalize fQ ds (dP rk rt o s2 h2 p pa2 q2 mv rn pr o3 s3 h3 p3 pa3 q3)=on at hone_ ⊢;obtain⟨ob,on2⟩:=on
  obtain⟨va,vc,rfl⟩:∃ va vc,v=.slice va bs0.length vc:=by
   rcases bS hrow with ⟨hz,hz2⟩ | ⟨g,cap,hz⟩
   · rw[hz2];exact⟨_,_,hz⟩
   · exact⟨_,_,hz⟩
  have HV:=zH hV;have HROW:=zH hrow;have HRX:=zH hRX;have HZ:=zH hZ;have HPX:=zH xp2;have HBW2:=zH bW2;have HBW:=zH hBw;have hs2:w.heap.size<=W2.heap.size:=hBw.size;have p0:=xp2.c0;have p1:=xp2.c1;obtain⟨d0,d1,d2,d3,d4,d5,d6,d7,d8,d9,d10,d11,d12,d13,d14,d15,d16⟩:=hRX.cs;clear hV hrow hRX hZ xp2 bW2 hBw ba xq rla hrec k2 HE HI HN hmem hcnt hlW hsW
  cases ob
  case true =>
   have CT:Hid (Calls Tryz.prog 22 #[.agg #[.slice ua ds.length uc,.bool xr],bN rk rt o s2 h2 p pa2 q2 mv rn pr o3 s3 h3 p3 pa3 q3] W2 fun e w'=>∃ N,e=.returned (.tuple #[.bool true,.string N])/\Below W2.heap.size W2 w'):=zH (hone_.mono fun e w' ⟨b,N,h1_,h2_,h3_⟩=>by cases h2_;exact⟨N,h1_,h3_⟩);clear hone_ C1;unfold bN at CT
   gi_wp2_with (refine⟨trivial,rfl,?_⟩;gi_at_call 22;(with_reducible refine(CallsIn.inRound l (callsIn_wide.2 CT.out)).mono ?_);rintro e w5 ⟨N,rfl,b5⟩)
   refine⟨⟨b5.size,fun k o _ ho _=>(b5.block _ (aD ho)).trans ho⟩,HBW2.out.trans (b5.mono hs2),?_⟩;exact⟨⟨_,HV.out.below b5,aX HROW.out b5⟩,HRX.out.below b5,HZ.out.below b5,HBW.out.trans (b5.mono hs2)⟩
  case false =>
   have CT:Hid (Calls Tryz.prog 22 #[.agg #[.slice ua ds.length uc,.bool xr],bN rk rt o s2 h2 p pa2 q2 mv rn pr o3 s3 h3 p3 pa3 q3] W2 fun e w'=>∃ N,e=.returned (.tuple #[.bool false,.string N])/\N.data.toList=on2/\Below W2.heap.size W2 w'):=zH (hone_.mono fun e w' ⟨b,N,h1_,h2_,h3_⟩=>by cases h2_;exact⟨N,h1_,rfl,h3_⟩);clear hone_ C1;unfold bN at CT;obtain⟨i0,hi,hz0,hz1,hz3⟩:=info_parts aG3;obtain⟨n,hn⟩:∃ n,bs0.length=n:=⟨_,rfl⟩;obtain⟨ok,hok⟩:∃ ok,bs0.all Brk.r=ok:=⟨_,rfl⟩;have HOK:=zH hok;have HNL:=zH hn;rw[hok,hn]at HV;rw[hn]at HROW hbl;clear hok hn;have hne:Pb≠w.heap.size+2:=by omega
   have hne2:w.heap.size≠w.heap.size+2:=by omega
   have hne3:w.heap.size+1≠w.heap.size+2:=by omega
   cases ok
   all_goals
    gi_wp2_with (first
     | (refine⟨trivial,rfl,?_⟩;gi_at_call 22;(with_reducible refine(CallsIn.inRound l (callsIn_wide.2 CT.out)).mono ?_);rintro e w5 ⟨N,rfl,hN,b5⟩
        have v5:=HV.out.below b5;have p5:=HPX.out.below b5;have e0:=v5.c0;have e1:=v5.c1;have g1:=aB v5 1;have q1:=p5.c1;have O5:=zH (aX HROW.out b5);have hs5:w.heap.size<=w5.heap.size:=Nat.le_trans hs2 b5.size;have H5:Aside (dH w5 (w.heap.size+2) _ _/\PX w5 Pb _ _/\RX w5 w.heap.size rk rt o s2 h2 p pa2 q2 mv rn pr o3 s3 h3 p3 pa3 q3/\dH w5 (w.heap.size+1) false (.slice none 0 0)/\Below W2.heap.size W2 w5/\N.data.toList=on2):=⟨v5,p5,HRX.out.below b5,HZ.out.below b5,b5,hN⟩
        clear v5 p5 b5 hN)
     | (gi_at_builtin;refine wpListIn_append_own_at _ rfl _ _ 48 rfl w.heap.size 54 i0 (.agg #[.int .i64 0,.string ⟨#[]⟩,.bool false]) 3 32 Tryz.underlying48 hi hz0 hz1 hz3 rfl (by decide) _ _ _ rfl (O5.out.alloc _) ⟨w5.heap.size,0,none⟩ 1 1 [.int .i64 (xi:Int),.string N,.bool xr] rfl rfl (sO _ _ _) (by intro u hu;simp at hu;rcases hu with rfl | rfl | rfl<;>rfl) (by unfold maxLen;omega) (by omega) (by simp;omega) ?_;intro v6 w6 hown6 hgrow6 hnil6 hat6
        obtain⟨a6,c6,rfl⟩:∃ a6 c6,v6=.slice a6 (n+1) c6:=by
         rcases bS hown6 with ⟨_,h_⟩ | ⟨g,cap,h_⟩
         · omega
         · exact⟨_,_,h_⟩
        have hob:=aT4 (O5.out.alloc (.cells #[.int .i64 (xi:Int),.string N,.bool xr] 54));have ba6:Below w5.heap.size w5 (w5.alloc (.cells #[.int .i64 (xi:Int),.string N,.bool xr] 54)):=(zB _ _).alloc (zL _) _;have v6:dH w6 (w.heap.size+2) _ _:=eN (H5.out.1.below ba6) hgrow6 hob (by decide);have p6:PX w6 Pb _ _:=eN (H5.out.2.1.below ba6) hgrow6 hob (by decide);have r6:RX w6 w.heap.size rk rt o s2 h2 p pa2 q2 mv rn pr o3 s3 h3 p3 pa3 q3:=eN (H5.out.2.2.1.below ba6) hgrow6 hob (by decide);have z6:dH w6 (w.heap.size+1) false (.slice none 0 0):=eN (H5.out.2.2.2.1.below ba6) hgrow6 hob (by decide);have b6:Below w.heap.size W2 w6:=Below.grown ((H5.out.2.2.2.2.1.mono hs2).alloc hs5 _) hgrow6 (by simp;omega) (fun q hq=>(O5.out.lt q hq).1);have k6:KeepsOthers W2 w6:=⟨b6.size,fun k o ho hc=>(aC9 hgrow6 hob).same k o (((ba6.block _ (aD ((H5.out.2.2.2.2.1.block _ (aD ho)).trans ho))).trans ((H5.out.2.2.2.2.1.block _ (aD ho)).trans ho))) hc⟩;have v7:=v6.set1 (.slice a6 (n+1) c6);have p7:PX (w6.setCell ⟨w.heap.size+2,1,none⟩ (.slice a6 (n+1) c6)) Pb _ _:=dN p6 hne _;have e60:=v6.c0;have e61:=v6.c1;have g61:=aB v6 1;have e70:=v7.c0;have g70:=aB v7 0;have q71:=p7.c1;have X6:Aside (dH w6 (w.heap.size+2) _ _/\RX w6 w.heap.size rk rt o s2 h2 p pa2 q2 mv rn pr o3 s3 h3 p3 pa3 q3/\dH w6 (w.heap.size+1) false (.slice none 0 0)/\Below w.heap.size W2 w6/\KeepsOthers W2 w6/\w6.ownsRow w.heap.size 54 3 (.slice a6 (n+1) c6) (n+1) _/\N.data.toList=on2):=⟨v6,r6,z6,b6,k6,hown6,H5.out.2.2.2.2.2⟩
        clear hown6 hgrow6 hnil6 hat6 hob ba6 v6 p6 r6 z6 b6 k6 v7 p7))
   all_goals
    obtain⟨v6,r6,z6,b6,k6,o6,hN⟩:=X6.out;have HL:(bs0++[(⟨xi,on2,xr⟩:Brk)]).length=n+1:=by rw[List.length_append,HNL.out];rfl
    have HA:(bs0++[(⟨xi,on2,xr⟩:Brk)]).all Brk.r=((bs0.all Brk.r)&&xr):=by rw[List.all_append];simp
    have HC:fK (bs0++[(⟨xi,on2,xr⟩:Brk)])=fK bs0++[.int .i64 (xi:Int),.string N,.bool xr]:=by
     rw[sQ];unfold aF4;rw[<- hN,lP]
    refine⟨((k6.trans (KeepsOthers.setCell _ _ _)).trans (KeepsOthers.setCell _ _ _)).from _,HBW2.out.trans ((b6.setCell (p:=⟨w.heap.size+2,1,none⟩) (Nat.le_add_right _ _) _).setCell (p:=⟨w.heap.size+2,0,none⟩) (Nat.le_add_right _ _) _),?_⟩;refine⟨⟨.slice a6 (n+1) c6,?_,?_⟩,?_,?_,?_⟩
    · rw[HA,HOK.out]
      exact(v6.set1 _).set0 _
    · rw[HL,HC]
      exact fM (fM o6 v6 (by decide)) (v6.set1 _) (by decide)
    · exact dN (dN r6 hne2 _) hne2 _
    · exact dN (dN z6 hne3 _) hne3 _
    · exact(HBW.out.trans (b6.setCell (p:=⟨w.heap.size+2,1,none⟩) (Nat.le_add_right _ _) _)).setCell (p:=⟨w.heap.size+2,0,none⟩) (Nat.le_add_right _ _) _
 case done =>
  intro D0 xs W hD hxs hI hdef;rw[HB.out xs hxs]at hI;obtain⟨⟨v,hV,hrow⟩,hRX,hZ,hBw⟩:=hI;clear TL HIN HB C1
  obtain⟨va,vc,rfl⟩:∃ va vc,v=.slice va bs.length vc:=by
   rcases bS hrow with ⟨hz,hz2⟩ | ⟨g,cap,hz⟩
   · rw[hz2];exact⟨_,_,hz⟩
   · exact⟨_,_,hz⟩
  rw[HOKB.out]at hV;have e0:=hV.c0;have e1:=hV.c1;have z0:=hZ.c0;have z1:=hZ.c1;have f0:=aB hZ 0;have f1:=aB hZ 1;have zf:=(hZ.set0 okb).set1 (.slice va bs.length vc);have kf:=(KeepsOthers.setCell W ⟨w.heap.size+1,0,none⟩ (.bool okb)).trans (KeepsOthers.setCell _ ⟨w.heap.size+1,1,none⟩ (.slice va bs.length vc));have rf:=fM (R:=w.heap.size+1) (j:=1) (u := .slice va bs.length vc) (fM (R:=w.heap.size+1) (j:=0) (u := .bool okb) hrow hZ (by decide)) (hZ.set0 okb) (by decide);have bf:=(hBw.setCell (p:=⟨w.heap.size+1,0,none⟩) (Nat.le_succ _) (.bool okb)).setCell (p:=⟨w.heap.size+1,1,none⟩) (Nat.le_succ _) (.slice va bs.length vc);have hd2:=kf.same _ _ hdef rfl;clear hV hZ hrow hRX hBw hdef kf
  gi_wp2
  clear e0 e1 z0 z1 f0 f1;generalize(W.setCell ⟨w.heap.size+1,0,none⟩ (.bool okb)).setCell ⟨w.heap.size+1,1,none⟩ (.slice va bs.length vc)=wz at zf rf bf hd2 ⊢;have kz:bX w.heap.size wz (wz.putObj D0 (.deferred none)):=bX.putObj hd2 rfl (by omega) _;have zz:dH (wz.putObj D0 (.deferred none)) (w.heap.size+1) okb (.slice va bs.length vc):=kz.same _ _ zf (.inr rfl);refine⟨by simp,.inl ⟨_,_,rfl,run_takeDeferred hd2,?_⟩⟩;have c0:=zz.c0;have c1:=zz.c1;refine⟨.agg #[.bool okb,.slice va bs.length vc],?_,_,rfl,kz.row rf,kz.low bf (zL _) bf.size⟩;simp[results,Tryz.results25,go_sem,c0,c1]
end Go.Proofs.YthnogdodlhkldaaGreatDoor
