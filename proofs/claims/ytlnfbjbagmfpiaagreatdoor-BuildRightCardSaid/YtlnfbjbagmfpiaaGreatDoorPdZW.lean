/- The change that Put hands over, as a closure. The program's own: New, Cut. The program's own: Put. -/
import Derived.Test.YtlnfbjbagmfpiaaGreatDoorPdZO
set_option maxRecDepth 100000
set_option maxHeartbeats 8000000
namespace Go.Proofs.YtlnfbjbagmfpiaaGreatDoor.Dm
open Go.RowKit
theorem cut_fit {D:List Nd}(hf:FitD D)(n:Nat):∀ x∈cutM D n,x.c.length<=1000:=fun x hx=>by
 obtain⟨i,hi,e⟩:=List.mem_iff_getElem.1 hx;have hi':i<D.length:=by rw[cut_len]at hi;exact hi
 have h1:=cut_get D n i;rw[List.getElem?_eq_getElem hi,List.getElem?_eq_getElem hi',e]at h1;simp only[Option.map_some,Option.some.injEq]at h1;rw[h1];exact Nat.le_trans (noN_len _ _) (hf.2 _ (List.getElem_mem hi')).2.2.2.1
theorem putChg (D:List Nd)(R:Right D)(hf:FitD D)(q n:Nat)(hq:q<D.length)(hn:n<D.length)(hqn:q≠n)(w0:World)(Nb Qb:Nat)(hnb:w0.heap[Nb]? = some (.cells #[.int .i64 (n:Int)] 3 (0,0)))(hqb:w0.heap[Qb]? = some (.cells #[.int .i64 (q:Int)] 3 (0,0))):ChgP w0 181 #[.pointer (some ⟨Nb,0,none⟩),.pointer (some ⟨Qb,0,none⟩)] D (putM D q n):=fun w Bo sl b hBo hbx ho=>by
 obtain⟨g,cap,A,K,rfl,o⟩:=ho.some (by omega);have CT:=take_hid D R hf n hn w0.heap.size g cap;have CL:=lay_hid (cutM D n) (cut_fit hf n) q n (by rw[cut_len];exact hq) (by rw[cut_len];exact hn) hqn w0.heap.size g cap;rw[lay_cut hn hq hqn,cut_len]at CL;have hnl:=lt_of_block hnb;have hql:=lt_of_block hqb;have hnb2:=(b.block _ hnl).trans hnb;have hqb2:=(b.block _ hql).trans hqb;obtain⟨cur,hcur,hB⟩:=o.block;have hgl:=lt_of_block hcur;have e0:=cell_of hbx 0;have e1:=cell_of hnb2 0;have e2:=cell_of hqb2 0
 have HC:Hid (∀ W,Below w.heap.size w W->Calls Tryz.prog 182 #[.slice (some ⟨g,0,none⟩) D.length cap,.int .i64 (n:Int)] W fun e w'=>e=.returned (.tuple #[])/\(∃ A K,OwnD w' w0.heap.size (.slice (some ⟨g,0,none⟩) D.length cap) (cutM D n) A K)/\w'.heap[Bo]? = some (.cells #[.slice (some ⟨g,0,none⟩) D.length cap] 24 (0,0))/\w'.heap[Nb]? = some (.cells #[.int .i64 (n:Int)] 3 (0,0))/\w'.heap[Qb]? = some (.cells #[.int .i64 (q:Int)] 3 (0,0))/\(∃ cur,w'.heap[g]? = some (.cells cur 39 (0,0)))/\Kp (chP w0.heap.size Bo) w w'/\w.heap.size<=w'.heap.size):=Lib.hid fun W bW=>(CT.out W A K (o.below bW)).mono fun e w' h=>by
  have h1:=h.1;subst h1;have hc:=h.chg (Bo:=Bo) (by rw[cut_len];exact(bW.block _ (lt_of_block hbx)).trans hbx) ⟨cur,(bW.block _ hgl).trans hcur,hB⟩;obtain⟨_,⟨A',K',o'⟩,k'⟩:=h;have orow:=o'.row;rw[cut_len]at o' orow;obtain⟨_,sl',h3,_,h5⟩:=hc;have hkc:Kp (chP w0.heap.size Bo) w w':=(Kp.of_below bW).trans h5;have hlow:Below w0.heap.size w w':=hkc.below (fun j _ h=>h.1) b.size
  have hbo:=k'.cells ((bW.block _ (lt_of_block hbx)).trans hbx) (by
   rintro(e | ⟨_,e⟩)
   · have:=(bW.block _ hgl).trans hcur
     rw[<- e,(bW.block _ (lt_of_block hbx)).trans hbx]at this
     cases this
   · exact absurd e (by decide))
  exact⟨rfl,⟨A',K',o'⟩,hbo,(hlow.block _ hnl).trans hnb2,(hlow.block _ hql).trans hqb2,(row_open orow).imp fun _ h=>h.1,hkc,hlow.size⟩
 have hws:w0.heap.size<=w.heap.size:=b.size;clear hbx o CT hnb2 hqb2 hcur ho
 go_enter Tryz.func181,Tryz.ntmps181
 go_wp2_with fail
 go_region_with (go_at_call 182;refine(HC.out _ (by first | exact Below.refl _ _ | exact belowN (Below.refl _ _) _ | exact(Below.refl _ _).drew)).mono ?_;rintro e w2 ⟨rfl,hE⟩;have HE:=Lib.hid hE;clear hE)
 all_goals
  clear e0 e1 e2 HC;obtain⟨⟨A2,K2,o2⟩,y0,y1,y2,⟨cur2,ycur⟩,k2,hs2⟩:=HE.out;have e0:=cell_of y0 0;have e1:=cell_of y1 0;have e2:=cell_of y2 0
  have HL:Hid (∀ W,Below w2.heap.size w2 W->Calls Tryz.prog 183 #[.slice (some ⟨g,0,none⟩) D.length cap,.int .i64 (q:Int),.int .i64 (n:Int)] W fun e w'=>e=.returned (.tuple #[])/\ChgE w0.heap.size Bo (putM D q n) w (.returned (.tuple #[])) w'):=Lib.hid fun W bW=>(CL.out W A2 K2 (o2.below bW) (by have:=bW.size;omega)).mono fun e w' h=>by
   have h1:=h.1;subst h1;exact⟨rfl,(h.chg (Bo:=Bo) (by rw[put_len];exact(bW.block _ (lt_of_block y0)).trans y0) ⟨cur2,(bW.block _ (lt_of_block ycur)).trans ycur,hB⟩).from (k2.trans (Kp.of_below bW))⟩
  clear o2 y0 y1 y2 ycur k2 CL HE
  go_wp2_with fail
  go_region_with (go_at_call 183;refine(HL.out _ (by first | exact Below.refl _ _ | exact belowN (Below.refl _ _) _ | exact(Below.refl _ _).drew)).mono ?_;rintro e w3 ⟨rfl,hE⟩;have HE:=Lib.hid hE;clear hE)
  all_goals
   go_wp2
   go_end0
   exact HE.out
end Go.Proofs.YtlnfbjbagmfpiaaGreatDoor.Dm
namespace Go.Proofs.YtlnfbjbagmfpiaaGreatDoor.Dm
open Go.RowKit Go.Shelf
def Bxs (w:World)(os:List Obj)(w':World):Prop:=(∀(i:Nat) (o:Obj),os[i]? = some o->w'.heap[w.heap.size+i]? = some o)/\Below w.heap.size w w'
theorem Bxs.below {w w' w2:World}{os:List Obj}(h:Bxs w os w')(b:Below w'.heap.size w' w2):Bxs w os w2:=⟨fun i o ho=>(b.block _ (lt_of_block (h.1 i o ho))).trans (h.1 i o ho),h.2.trans (b.mono h.2.size)⟩
theorem bxs_below:∀(os:List Obj) (w:World),Below w.heap.size w (os.foldl World.alloc w)
 | [],w=>Below.refl _ _
 | o :: os,w=>((Below.refl w.heap.size w).alloc (Nat.le_refl _) o).trans ((bxs_below os (w.alloc o)).mono (by simp))
theorem bxs (os:List Obj):∀(w:World),Bxs w os (os.foldl World.alloc w):=by
 induction os with
 | nil=>intro w;exact⟨fun i o h=>by simp at h,Below.refl _ _⟩
 | cons x os ih =>
   intro w;refine⟨fun i o ho => ?_,bxs_below (x :: os) w⟩;show(os.foldl World.alloc (w.alloc x)).heap[w.heap.size+i]? = _
   cases i with
   | zero =>
     obtain rfl:x=o:=by simpa using ho
     exact((bxs_below os (w.alloc x)).block _ (by simp)).trans (new_block w x)
   | succ i =>
     have:=(ih (w.alloc x)).1 i o (by simpa using ho);rw[World.size_alloc]at this;rw[show w.heap.size+(i+1)=w.heap.size+1+i by omega];exact this
theorem newP_hid:Hid (∀ W,Calls Tryz.prog 55 #[] W fun e w'=>∃ sl',e=.returned (.agg #[sl'])/\OwnX w' W.heap.size sl' newM/\Below W.heap.size W w'):=Lib.hid fun w=>by
 have al1:=(Below.refl w.heap.size w).alloc (Nat.le_refl _) (.cells #[.slice none 0 0] 24);have hb1:=new_block w (.cells #[.slice none 0 0] 24);have hs1:(w.alloc (.cells #[.slice none 0 0] 24)).heap.size=w.heap.size+1:=by simp
 generalize hw1:w.alloc (.cells #[.slice none 0 0] 24)=w1 at al1 hb1 hs1;have al2:=(Below.refl w1.heap.size w1).alloc (Nat.le_refl _) (.cells #[.int .i64 1,.string ⟨#[]⟩,.string ⟨#[]⟩,.slice none 0 0,.int .i64 (-1),.slice none 0 0,.bool false,.bool false] 39);have hrow:=row_made w1 #[.int .i64 1,.string ⟨#[]⟩,.string ⟨#[]⟩,.slice none 0 0,.int .i64 (-1),.slice none 0 0,.bool false,.bool false] 39 1 8 rfl (by decide);rw[hs1]at hrow;have hb1':=(al2.block _ (lt_of_block hb1)).trans hb1;have hbel:=al1.trans (al2.mono (by omega));generalize hw2:w1.alloc (.cells #[.int .i64 1,.string ⟨#[]⟩,.string ⟨#[]⟩,.slice none 0 0,.int .i64 (-1),.slice none 0 0,.bool false,.bool false] 39)=w2 at al2 hrow hb1' hbel;have o1:=open_of hb1' 0;have r1:=cell_of hb1' 0;have q1:=heap_setCell_same w2 w.heap.size 0 _ _ _ (.slice (some ⟨w.heap.size+1,0,none⟩) 1 1) hb1';have c0:(w2.setCell ⟨w.heap.size,0,none⟩ (.slice (some ⟨w.heap.size+1,0,none⟩) 1 1)).cell? ⟨w.heap.size,0,none⟩=some (.slice (some ⟨w.heap.size+1,0,none⟩) 1 1):=by rw[cell_of q1];rfl
 have kS:Kp (fun j t=>j=w.heap.size) w2 (w2.setCell ⟨w.heap.size,0,none⟩ (.slice (some ⟨w.heap.size+1,0,none⟩) 1 1)):=Kp.of_set hb1' _ rfl
 have HX:Hid (OwnD (w2.setCell ⟨w.heap.size,0,none⟩ (.slice (some ⟨w.heap.size+1,0,none⟩) 1 1)) w.heap.size (.slice (some ⟨w.heap.size+1,0,none⟩) 1 1) newM (fun _ => .slice none 0 0) (fun _ => .slice none 0 0)/\Below w.heap.size w (w2.setCell ⟨w.heap.size,0,none⟩ (.slice (some ⟨w.heap.size+1,0,none⟩) 1 1))) :=
  Lib.hid ⟨⟨row_low (kS.row hrow fun j hj _ e=>by cases hj;omega) (Nat.le_succ _),fun i hi=>by
   obtain rfl:i=0:=by simp[newM]at hi;omega
   exact World.ownsRow_nil _ _ _ _,fun i hi=>by
   obtain rfl:i=0:=by simp[newM]at hi;omega
   exact World.ownsRow_nil _ _ _ _,fun i j hi hj hij=>by simp[newM]at hi hj;omega,fun i j hi hj hij=>by simp[newM]at hi hj;omega⟩,hbel.trans (kS.below (fun j t e=>by omega) hbel.size)⟩
 clear al1 hb1 al2 hrow hb1' hbel q1 kS
 go_enter Tryz.func55,Tryz.ntmps55
 go_wp2
 refine bodyPost_ret (v := .agg #[.slice (some ⟨w.heap.size+1,0,none⟩) 1 1]) (by simp[results,Tryz.results55,go_sem,c0]) rfl ?_;exact⟨_,rfl,⟨_,_,HX.out.1⟩,HX.out.2⟩
end Go.Proofs.YtlnfbjbagmfpiaaGreatDoor.Dm
namespace Go.Proofs.YtlnfbjbagmfpiaaGreatDoor.Dm
open Go.RowKit Go.Shelf
theorem takes_hid (k:Int)(N D:ByteArray)(p:Int)(b s:Bool):Hid (∀ W av kv,Calls Tryz.prog 179 #[.agg #[.int .i64 k,.string N,.string D,av,.int .i64 p,kv,.bool b,.bool s]] W fun e w'=>e=.returned (.bool (decide (k=1) || decide (k=2)))/\Below W.heap.size W w'):=Lib.hid fun w av kv=>by
 have al:=(Below.refl w.heap.size w).alloc (Nat.le_refl _) (.cells #[.int .i64 k,.string N,.string D,av,.int .i64 p,kv,.bool b,.bool s] 39);have hbx:=new_block w (.cells #[.int .i64 k,.string N,.string D,av,.int .i64 p,kv,.bool b,.bool s] 39);have e0:=cell_of hbx 0;have HB:=Lib.hid al;clear al hbx
 by_cases h1:k=1
 · subst h1
   go_enter Tryz.func179,Tryz.ntmps179
   go_wp2
   go_ret
   exact⟨rfl,HB.out⟩
 · have z1:decide (k=1)=false:=decide_eq_false h1
   by_cases h2:k=2
   · subst h2
     go_enter Tryz.func179,Tryz.ntmps179
     go_wp2
     go_ret
     exact⟨rfl,HB.out⟩
   · have z2:decide (k=2)=false:=decide_eq_false h2
     go_enter Tryz.func179,Tryz.ntmps179
     go_wp2
     go_ret
     exact⟨by simp[h1,h2],HB.out⟩
theorem takesV_hid (x:Nd):Hid (∀ W av kv,Calls Tryz.prog 179 #[nodeV x av kv] W fun e w'=>e=.returned (.bool (holdM x))/\Below W.heap.size W w'):=Lib.hid fun w av kv=>by
 obtain⟨N,hN⟩:=text_of x.n;obtain⟨D,hD⟩:=text_of x.d;unfold nodeV;rw[strV_of hN,strV_of hD];exact(takes_hid x.k N D x.p x.b x.s).out w av kv
theorem putP_hid (D:List Nd)(hf:FitD D)(q n:Int):Hid (∀ W sl A K,DocIn W sl D A K->Capd D A->Calls Tryz.prog 144 #[.agg #[sl],.int .i64 q,.int .i64 n] W fun e w'=>∃ sl',e=.returned (.tuple #[.agg #[sl'],.int .i64 (putR D q n).2])/\OwnX w' W.heap.size sl' (putR D q n).1/\Below W.heap.size W w'):=Lib.hid fun w sl A K hd hcap=>by
 obtain⟨a,c,rfl⟩:=hd.form;have CK:=checkP_hid D hf;have hfl:=hf.1;have hx:=bxs [(.cells #[.slice a D.length c] 24),(.cells #[.int .i64 q] 3),(.cells #[.int .i64 n] 3),(.cells #[.slice none 0 0] 24)] w;generalize hw1:List.foldl World.alloc w [(.cells #[.slice a D.length c] 24),(.cells #[.int .i64 q] 3),(.cells #[.int .i64 n] 3),(.cells #[.slice none 0 0] 24)]=w1 at hx;simp only[List.foldl_cons,List.foldl_nil]at hw1;have H1:=Lib.hid hx;have HD:=Lib.hid hd;have HF:=Lib.hid hf;have HC:=Lib.hid hcap;have x0:w1.heap[w.heap.size]? = some (.cells #[.slice a D.length c] 24 (0,0)):=H1.out.1 0 _ rfl;have e0:=cell_of x0 0;clear x0;clear hx hd hf hcap
 go_enter Tryz.func144,Tryz.ntmps144
 go_wp2_with fail
 (refine(CK.out _ _ _ _ (HD.out.below H1.out.2) HC.out).mono ?_)
 rintro e w2 ⟨rfl,b2⟩;have H2:=Lib.hid (H1.out.below b2);clear hw1 e0 CK b2 H1;have x0:w2.heap[w.heap.size]? = some (.cells #[.slice a D.length c] 24 (0,0)):=H2.out.1 0 _ rfl;have e0:=cell_of x0 0;clear x0;have x1:w2.heap[w.heap.size+1]? = some (.cells #[.int .i64 q] 3 (0,0)):=H2.out.1 1 _ rfl;have e1:=cell_of x1 0;have x2:w2.heap[w.heap.size+1+1]? = some (.cells #[.int .i64 n] 3 (0,0)):=H2.out.1 2 _ rfl;have e2:=cell_of x2 0;clear x1 x2
 by_cases hc:checkM D=0
 case neg =>
  have HE:=Lib.hid (putR_e1 (q:=q) (n:=n) hc);have g1:(checkM D != 0)=true:=by rw[bne_iff_ne];exact hc
  have xr:w2.heap[w.heap.size+1+1+1]? = some (.cells #[.slice none 0 0] 24 (0,0)):=H2.out.1 3 _ rfl;have o2:=open_of xr 0;have r2:=cell_of xr 0;have q2:=heap_setCell_same w2 (w.heap.size+1+1+1) 0 _ _ _ (.slice none 0 0) xr;have c0:(w2.setCell ⟨w.heap.size+1+1+1,0,none⟩ (.slice none 0 0)).cell? ⟨w.heap.size+1+1+1,0,none⟩=some (.slice none 0 0):=by rw[cell_of q2];rfl
  have HB:Hid (Below w.heap.size w (w2.setCell ⟨w.heap.size+1+1+1,0,none⟩ (.slice none 0 0))):=Lib.hid (H2.out.2.setCell (p:=⟨w.heap.size+1+1+1,0,none⟩) (by show w.heap.size<=w.heap.size+1+1+1;omega) _);clear q2 xr
  go_wp2
  exact bodyPost_ret (v := .tuple #[.agg #[.slice none 0 0],.int .i64 (checkM D)]) (by simp[results,Tryz.results144,go_sem,c0]) rfl ⟨_,by rw[HE.out],by rw[HE.out];exact⟨fun _ => .slice none 0 0,fun _ => .slice none 0 0,OwnD.nil _ _ _ _⟩,HB.out⟩
 have HRt:=Lib.hid (check_right.1 hc);have hc0:=hc;rw[hc];have CQ:=isNode_any a D.length c q
 by_cases hin:(decide (0<=q)&&decide (q<(D.length:Int)))=true
 case neg =>
  have hin:(decide (0<=q)&&decide (q<(D.length:Int)))=false:=by simpa using hin
  have HE:=Lib.hid (putR_e2 (q:=q) (n:=n) hc0 (fun h=>by
   rw[decide_eq_true h.1,decide_eq_true h.2.1]at hin
   cases hin))
  rw[hin]at CQ
  go_wp2_with fail
  (refine(CQ _).mono ?_)
  rintro e w3 ⟨rfl,hw3⟩;rw[hw3];clear hw3 CQ;have xr:w2.heap[w.heap.size+1+1+1]? = some (.cells #[.slice none 0 0] 24 (0,0)):=H2.out.1 3 _ rfl;have o2:=open_of xr 0;have r2:=cell_of xr 0;have q2:=heap_setCell_same w2 (w.heap.size+1+1+1) 0 _ _ _ (.slice none 0 0) xr;have c0:(w2.setCell ⟨w.heap.size+1+1+1,0,none⟩ (.slice none 0 0)).cell? ⟨w.heap.size+1+1+1,0,none⟩=some (.slice none 0 0):=by rw[cell_of q2];rfl
  have HB:Hid (Below w.heap.size w (w2.setCell ⟨w.heap.size+1+1+1,0,none⟩ (.slice none 0 0))):=Lib.hid (H2.out.2.setCell (p:=⟨w.heap.size+1+1+1,0,none⟩) (by show w.heap.size<=w.heap.size+1+1+1;omega) _);clear q2 xr
  go_wp2
  exact bodyPost_ret (v := .tuple #[.agg #[.slice none 0 0],.int .i64 170]) (by simp[results,Tryz.results144,go_sem,c0]) rfl ⟨_,by rw[HE.out],by rw[HE.out];exact⟨fun _ => .slice none 0 0,fun _ => .slice none 0 0,OwnD.nil _ _ _ _⟩,HB.out⟩
 rw[hin]at CQ;rw[Bool.and_eq_true,decide_eq_true_eq,decide_eq_true_eq]at hin;obtain⟨q,rfl⟩:∃ m:Nat,q=(m:Int):=⟨q.toNat,by omega⟩;have hq:q<D.length:=by omega
 go_wp2_with fail
 (refine(CQ _).mono ?_)
 rintro e w3 ⟨rfl,hw3⟩;rw[hw3];clear hw3 CQ hin;have CN:=isNode_any a D.length c n
 by_cases hin:(decide (0<=n)&&decide (n<(D.length:Int)))=true
 case neg =>
  have hin:(decide (0<=n)&&decide (n<(D.length:Int)))=false:=by simpa using hin
  have HE:=Lib.hid (putR_e2 (q:=(q:Int)) (n:=n) hc0 (fun h=>by
   rw[decide_eq_true (show(0:Int)<=n by have:=h.2.2.1;omega),decide_eq_true h.2.2.2.1]at hin
   cases hin))
  rw[hin]at CN
  go_wp2_with fail
  (refine(CN _).mono ?_)
  rintro e w3 ⟨rfl,hw3⟩;rw[hw3];clear hw3 CN;have xr:w2.heap[w.heap.size+1+1+1]? = some (.cells #[.slice none 0 0] 24 (0,0)):=H2.out.1 3 _ rfl;have o2:=open_of xr 0;have r2:=cell_of xr 0;have q2:=heap_setCell_same w2 (w.heap.size+1+1+1) 0 _ _ _ (.slice none 0 0) xr;have c0:(w2.setCell ⟨w.heap.size+1+1+1,0,none⟩ (.slice none 0 0)).cell? ⟨w.heap.size+1+1+1,0,none⟩=some (.slice none 0 0):=by rw[cell_of q2];rfl
  have HB:Hid (Below w.heap.size w (w2.setCell ⟨w.heap.size+1+1+1,0,none⟩ (.slice none 0 0))):=Lib.hid (H2.out.2.setCell (p:=⟨w.heap.size+1+1+1,0,none⟩) (by show w.heap.size<=w.heap.size+1+1+1;omega) _);clear q2 xr
  go_wp2
  exact bodyPost_ret (v := .tuple #[.agg #[.slice none 0 0],.int .i64 170]) (by simp[results,Tryz.results144,go_sem,c0]) rfl ⟨_,by rw[HE.out],by rw[HE.out];exact⟨fun _ => .slice none 0 0,fun _ => .slice none 0 0,OwnD.nil _ _ _ _⟩,HB.out⟩
 rw[hin]at CN;rw[Bool.and_eq_true,decide_eq_true_eq,decide_eq_true_eq]at hin;obtain⟨n,rfl⟩:∃ m:Nat,n=(m:Int):=⟨n.toNat,by omega⟩;have hn:n<D.length:=by omega
 go_wp2_with fail
 (refine(CN _).mono ?_)
 rintro e w3 ⟨rfl,hw3⟩;rw[hw3];clear hw3 CN hin
 by_cases hn0:n=0
 · subst hn0
   have HE:=Lib.hid (putR_e2 (q:=(q:Int)) (n:=((0:Nat):Int)) hc0 (fun h=>by have:=h.2.2.1;omega));have xr:w2.heap[w.heap.size+1+1+1]? = some (.cells #[.slice none 0 0] 24 (0,0)):=H2.out.1 3 _ rfl;have o2:=open_of xr 0;have r2:=cell_of xr 0;have q2:=heap_setCell_same w2 (w.heap.size+1+1+1) 0 _ _ _ (.slice none 0 0) xr;have c0:(w2.setCell ⟨w.heap.size+1+1+1,0,none⟩ (.slice none 0 0)).cell? ⟨w.heap.size+1+1+1,0,none⟩=some (.slice none 0 0):=by rw[cell_of q2];rfl
   have HB:Hid (Below w.heap.size w (w2.setCell ⟨w.heap.size+1+1+1,0,none⟩ (.slice none 0 0))):=Lib.hid (H2.out.2.setCell (p:=⟨w.heap.size+1+1+1,0,none⟩) (by show w.heap.size<=w.heap.size+1+1+1;omega) _);clear q2 xr
   go_wp2
   exact bodyPost_ret (v := .tuple #[.agg #[.slice none 0 0],.int .i64 170]) (by simp[results,Tryz.results144,go_sem,c0]) rfl ⟨_,by rw[HE.out],by rw[HE.out];exact⟨fun _ => .slice none 0 0,fun _ => .slice none 0 0,OwnD.nil _ _ _ _⟩,HB.out⟩
 have zn:((n:Int)==0)=false:=beq_eq_false_iff_ne.2 (by omega);have zq:(q:Int)<(D.length:Int):=by omega
 have zq0:(0:Int)<=(q:Int):=by omega
 have CH:=takesV_hid D[q];obtain⟨B',off',hB,q0,q1,q2,q3,q4,q5,q6,q7⟩:=(HD.out.below H2.out.2).node hq
 cases hB
 obtain⟨N,hN⟩:=text_of D[q].n;obtain⟨T,hT⟩:=text_of D[q].d;unfold nodeV at CH;rw[strV_of hN,strV_of hT]at CH;rw[strV_of hN]at q1;rw[strV_of hT]at q2;have E2:=fun(h:holdM D[q]=false)=>putR_e2 (q:=(q:Int)) (n:=(n:Int)) hc0 (fun h2=>by have h5:=h2.2.2.2.2;rw[Int.toNat_natCast,holds_at hq,h]at h5;cases h5);have E3:=fun(h:holdM D[q]=true)=>putR_e3 (q:=q) (n:=n) hc0 ⟨zq0,zq,by omega,by omega,by rw[Int.toNat_natCast,holds_at hq,h]⟩;have E4:=fun(h:holdM D[q]=true)=>putR_ok (q:=q) (n:=n) hc0 ⟨zq0,zq,by omega,by omega,by rw[Int.toNat_natCast,holds_at hq,h]⟩;have HE3:=Lib.hid (And.intro E2 (And.intro E3 E4));generalize D[q].k=xk at q0 CH;generalize D[q].p=xp at q4 CH;generalize D[q].b=xb at q6 CH;generalize D[q].s=xs at q7 CH;obtain⟨hm,hhm⟩:∃ hm,holdM D[q]=hm:=⟨_,rfl⟩;rw[hhm]at CH HE3;clear hN hT hhm E2 E3 E4
 go_wp2_with fail
 (refine(CH.out _ _ _).mono ?_)
 rintro e w3 ⟨rfl,b3⟩;have H3:=Lib.hid (H2.out.below b3);clear b3 H2 q0 q1 q2 q3 q4 q5 q6 q7 CH e0 e1 e2;have x0:w3.heap[w.heap.size]? = some (.cells #[.slice (some ⟨B',off',none⟩) D.length c] 24 (0,0)):=H3.out.1 0 _ rfl;have x1:w3.heap[w.heap.size+1]? = some (.cells #[.int .i64 (q:Int)] 3 (0,0)):=H3.out.1 1 _ rfl;have x2:w3.heap[w.heap.size+1+1]? = some (.cells #[.int .i64 (n:Int)] 3 (0,0)):=H3.out.1 2 _ rfl;have e0:=cell_of x0 0;have e1:=cell_of x1 0;have e2:=cell_of x2 0;clear x0 x1 x2
 cases hm with
 | false =>
   have HE:=Lib.hid (HE3.out.1 (by trivial));clear HE3;have xr:w3.heap[w.heap.size+1+1+1]? = some (.cells #[.slice none 0 0] 24 (0,0)):=H3.out.1 3 _ rfl;have o2:=open_of xr 0;have r2:=cell_of xr 0;have q2:=heap_setCell_same w3 (w.heap.size+1+1+1) 0 _ _ _ (.slice none 0 0) xr;have c0:(w3.setCell ⟨w.heap.size+1+1+1,0,none⟩ (.slice none 0 0)).cell? ⟨w.heap.size+1+1+1,0,none⟩=some (.slice none 0 0):=by rw[cell_of q2];rfl
   have HB:Hid (Below w.heap.size w (w3.setCell ⟨w.heap.size+1+1+1,0,none⟩ (.slice none 0 0))):=Lib.hid (H3.out.2.setCell (p:=⟨w.heap.size+1+1+1,0,none⟩) (by show w.heap.size<=w.heap.size+1+1+1;omega) _);clear q2 xr
   go_wp2
   exact bodyPost_ret (v := .tuple #[.agg #[.slice none 0 0],.int .i64 170]) (by simp[results,Tryz.results144,go_sem,c0]) rfl ⟨_,by rw[HE.out],by rw[HE.out];exact⟨fun _ => .slice none 0 0,fun _ => .slice none 0 0,OwnD.nil _ _ _ _⟩,HB.out⟩
 | true =>
   have HE4:=Lib.hid (And.intro (HE3.out.2.1 (by trivial)) (HE3.out.2.2 (by trivial)));have CB:=isBelow_hid D HRt.out HF.out n hn q
   have hdu:decide (q∈downM D n)=upM D n q:=by
    cases hu:upM D n q with
    | true=>exact decide_eq_true ((mem_down HRt.out n hn q).2 ⟨hq,hu⟩)
    | false=>exact decide_eq_false (fun h=>by rw[((mem_down HRt.out n hn q).1 h).2]at hu;cases hu)
   rw[hdu]at CB;have hqn:upM D n q=false->q≠n:=fun h e=>by rw[e,upM_self]at h;cases h
   have HQN:=Lib.hid hqn;clear HE3 hdu hqn;generalize upM D n q=um at CB HE4 HQN
   go_wp2_with fail
   (refine(CB.out _ _ _ _ (HD.out.below H3.out.2)).mono ?_)
   rintro e w4 ⟨rfl,b4⟩;have H4:=Lib.hid (H3.out.below b4);clear b4 H3 CB e0 e1 e2;have x0:w4.heap[w.heap.size]? = some (.cells #[.slice (some ⟨B',off',none⟩) D.length c] 24 (0,0)):=H4.out.1 0 _ rfl;have e0:=cell_of x0 0;clear x0
   cases um with
   | true =>
     have HE:=Lib.hid (HE4.out.1 (by trivial));clear HE4 HQN;have xr:w4.heap[w.heap.size+1+1+1]? = some (.cells #[.slice none 0 0] 24 (0,0)):=H4.out.1 3 _ rfl;have o2:=open_of xr 0;have r2:=cell_of xr 0;have q2:=heap_setCell_same w4 (w.heap.size+1+1+1) 0 _ _ _ (.slice none 0 0) xr;have c0:(w4.setCell ⟨w.heap.size+1+1+1,0,none⟩ (.slice none 0 0)).cell? ⟨w.heap.size+1+1+1,0,none⟩=some (.slice none 0 0):=by rw[cell_of q2];rfl
     have HB:Hid (Below w.heap.size w (w4.setCell ⟨w.heap.size+1+1+1,0,none⟩ (.slice none 0 0))):=Lib.hid (H4.out.2.setCell (p:=⟨w.heap.size+1+1+1,0,none⟩) (by show w.heap.size<=w.heap.size+1+1+1;omega) _);clear q2 xr
     go_wp2
     exact bodyPost_ret (v := .tuple #[.agg #[.slice none 0 0],.int .i64 172]) (by simp[results,Tryz.results144,go_sem,c0]) rfl ⟨_,by rw[HE.out],by rw[HE.out];exact⟨fun _ => .slice none 0 0,fun _ => .slice none 0 0,OwnD.nil _ _ _ _⟩,HB.out⟩
   | false =>
     have HE:=Lib.hid (HE4.out.2 (by trivial));have hqn:=HQN.out (by trivial);clear HE4 HQN;have hmf:∀(fn:Fn) (first cap:Array Value) (w:World),(Instr.makeFunc fn first cap).run Tryz.prog w=.ok (.func fn first cap) w:=fun _ _ _ _=>rfl;have CG:=Lib.hid ((changedDoc_hid D (putM D q n) HF.out (by omega) 181 #[.pointer (some ⟨w.heap.size+1+1,0,none⟩),.pointer (some ⟨w.heap.size+1,0,none⟩)] (enters_of Tryz.func181 (by kernel_rfl) rfl)).out w4 _ A K (HD.out.below H4.out.2) (putChg D HRt.out HF.out q n hq hn hqn w4 _ _ (H4.out.1 2 _ rfl) (H4.out.1 1 _ rfl)))
     go_wp2_with fail
     (refine CG.out.mono ?_)
     rintro e w5 ⟨sl4,rfl,o4,b4⟩;obtain⟨a4,c4,rfl⟩:=o4.form;have H5:=Lib.hid (H4.out.below b4);have hsz:=H4.out.2.size;clear CG H4 b4 e0;have xr:w5.heap[w.heap.size+1+1+1]? = some (.cells #[.slice none 0 0] 24 (0,0)):=H5.out.1 3 _ rfl;have o2:=open_of xr 0;have r2:=cell_of xr 0;have q2:=heap_setCell_same w5 (w.heap.size+1+1+1) 0 _ _ _ (.slice a4 (putM D q n).length c4) xr;have c0:(w5.setCell ⟨w.heap.size+1+1+1,0,none⟩ (.slice a4 (putM D q n).length c4)).cell? ⟨w.heap.size+1+1+1,0,none⟩=some (.slice a4 (putM D q n).length c4):=by rw[cell_of q2];rfl
     have HB:Hid (Below w.heap.size w (w5.setCell ⟨w.heap.size+1+1+1,0,none⟩ (.slice a4 (putM D q n).length c4))):=Lib.hid (H5.out.2.setCell (p:=⟨w.heap.size+1+1+1,0,none⟩) (by show w.heap.size<=w.heap.size+1+1+1;omega) _);have HO:Hid (OwnX (w5.setCell ⟨w.heap.size+1+1+1,0,none⟩ (.slice a4 (putM D q n).length c4)) w.heap.size (.slice a4 (putM D q n).length c4) (putM D q n)):=Lib.hid ((o4.low hsz).setDoc xr);clear o4;clear q2 xr
     go_wp2
     exact bodyPost_ret (v := .tuple #[.agg #[.slice a4 (putM D q n).length c4],.int .i64 0]) (by simp[results,Tryz.results144,go_sem,c0]) rfl ⟨_,by rw[HE.out],by rw[HE.out];exact HO.out,HB.out⟩
end Go.Proofs.YtlnfbjbagmfpiaaGreatDoor.Dm
