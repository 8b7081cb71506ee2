/- The document's own: a new document; a node is made. The document's own: are two nodes, two documents the same (they are); is one more than is looked at. The document's own: is a node, is a document more than is looked at. Documents of one's own: a node's parent, its kids, its attributes are set. -/
import Derived.Test.YtlnfbjbagmfpiaaGreatDoorDoZG
set_option maxRecDepth 100000
set_option maxHeartbeats 16000000
namespace Go.Proofs.YtlnfbjbagmfpiaaGreatDoor.Dm
open Go.RowKit
def newM:List Nd:=[{ k:=1,n:=[],d:=[],a:=[],p := -1,c:=[],b:=false,s:=false }]
theorem newQ_hid:Hid (∀ W,Calls Tryz.prog 56 #[] W fun e w'=>∃ sl',e=.returned (.agg #[sl'])/\OwnX w' W.heap.size sl' newM/\Below W.heap.size W w'):=Lib.hid fun w=>by
 have al1:=(Below.refl w.heap.size w).alloc (Nat.le_refl _) (.cells #[.slice none 0 0] 24);have hb1:=new_block w (.cells #[.slice none 0 0] 24);have hs1:(w.alloc (.cells #[.slice none 0 0] 24)).heap.size=w.heap.size+1:=by simp
 generalize hw1:w.alloc (.cells #[.slice none 0 0] 24)=w1 at al1 hb1 hs1;have al2:=(Below.refl w1.heap.size w1).alloc (Nat.le_refl _) (.cells #[.int .i64 1,.string ⟨#[]⟩,.string ⟨#[]⟩,.slice none 0 0,.int .i64 (-1),.slice none 0 0,.bool false,.bool false] 39);have hrow:=row_made w1 #[.int .i64 1,.string ⟨#[]⟩,.string ⟨#[]⟩,.slice none 0 0,.int .i64 (-1),.slice none 0 0,.bool false,.bool false] 39 1 8 rfl (by decide);rw[hs1]at hrow;have hb1':=(al2.block _ (lt_of_block hb1)).trans hb1;have hbel:=al1.trans (al2.mono (by omega));generalize hw2:w1.alloc (.cells #[.int .i64 1,.string ⟨#[]⟩,.string ⟨#[]⟩,.slice none 0 0,.int .i64 (-1),.slice none 0 0,.bool false,.bool false] 39)=w2 at al2 hrow hb1' hbel;have o1:=open_of hb1' 0;have r1:=cell_of hb1' 0;have q1:=heap_setCell_same w2 w.heap.size 0 _ _ _ (.slice (some ⟨w.heap.size+1,0,none⟩) 1 1) hb1';have c0:(w2.setCell ⟨w.heap.size,0,none⟩ (.slice (some ⟨w.heap.size+1,0,none⟩) 1 1)).cell? ⟨w.heap.size,0,none⟩=some (.slice (some ⟨w.heap.size+1,0,none⟩) 1 1):=by rw[cell_of q1];rfl
 have kS:Kp (fun j t=>j=w.heap.size) w2 (w2.setCell ⟨w.heap.size,0,none⟩ (.slice (some ⟨w.heap.size+1,0,none⟩) 1 1)):=Kp.of_set hb1' _ rfl
 have HX:Hid (OwnD (w2.setCell ⟨w.heap.size,0,none⟩ (.slice (some ⟨w.heap.size+1,0,none⟩) 1 1)) w.heap.size (.slice (some ⟨w.heap.size+1,0,none⟩) 1 1) newM (fun _ => .slice none 0 0) (fun _ => .slice none 0 0)/\Below w.heap.size w (w2.setCell ⟨w.heap.size,0,none⟩ (.slice (some ⟨w.heap.size+1,0,none⟩) 1 1))) :=
  Lib.hid ⟨⟨row_low (kS.row hrow fun j hj _ e=>by cases hj;omega) (Nat.le_succ _),fun i hi=>by
   obtain rfl:i=0:=by simp[newM]at hi;omega
   exact World.ownsRow_nil _ _ _ _,fun i hi=>by
   obtain rfl:i=0:=by simp[newM]at hi;omega
   exact World.ownsRow_nil _ _ _ _,fun i j hi hj hij=>by simp[newM]at hi hj;omega,fun i j hi hj hij=>by simp[newM]at hi hj;omega⟩,hbel.trans (kS.below (fun j t e=>by omega) hbel.size)⟩
 clear al1 hb1 al2 hrow hb1' hbel q1 kS
 go_enter Tryz.func56,Tryz.ntmps56
 go_wp2
 refine bodyPost_ret (v := .agg #[.slice (some ⟨w.heap.size+1,0,none⟩) 1 1]) (by simp[results,Tryz.results56,go_sem,c0]) rfl ?_;exact⟨_,rfl,⟨_,_,HX.out.1⟩,HX.out.2⟩
def makeR (D:List Nd)(x:Nd):List Nd × Int × Int:=if checkM D≠0 then ([],0,checkM D) else if mayM x=false\/x.k=1 then ([],0,1) else if 300<=D.length then ([],0,2) else (makeM D x,(D.length:Int),0)
theorem make_e1 {D:List Nd}{x:Nd}(h:checkM D≠0):makeR D x=([],0,checkM D):=by unfold makeR;rw[if_pos h]
theorem make_e2 {D:List Nd}{x:Nd}(h:checkM D=0)(h2:mayM x=false\/x.k=1):makeR D x=([],0,1):=by unfold makeR;rw[if_neg (by simp[h]),if_pos h2]
theorem make_e3 {D:List Nd}{x:Nd}(h:checkM D=0)(h2:mayM x=true)(h3:x.k≠1)(h4:300<=D.length):makeR D x=([],0,2):=by unfold makeR;rw[if_neg (by simp[h]),if_neg (by simp[h2,h3]),if_pos h4]
theorem make_ok {D:List Nd}{x:Nd}(h:checkM D=0)(h2:mayM x=true)(h3:x.k≠1)(h4:D.length<300):makeR D x=(makeM D x,(D.length:Int),0):=by unfold makeR;rw[if_neg (by simp[h]),if_neg (by simp[h2,h3]),if_neg (by omega)]
theorem make_hid (D:List Nd)(hf:FitD D)(x:Nd)(hx:FitN x):Hid (∀ W sl A K av kv,DocIn W sl D A K->AtIn W av x.a->IntIn W kv x.c->Calls Tryz.prog 121 #[.agg #[sl],nodeV x av kv] W fun e w'=>∃ sl',e=.returned (.tuple #[.agg #[sl'],.int .i64 (makeR D x).2.1,.int .i64 (makeR D x).2.2])/\OwnX w' W.heap.size sl' (makeR D x).1/\Below W.heap.size W w'):=Lib.hid fun w sl A K av kv hd ha hk=>by
 obtain⟨a,c,rfl⟩:=hd.form;obtain⟨aa,ac,rfl⟩:=ha.form;obtain⟨ka,kc,rfl⟩:=hk.form;have CM:=may_hid x hx.2.2.1;have CO:=ownNode_hid x hx;have CK:=check_hid D hf;have CD:=own_hid D hf;have hfl:=hf.1;have H1:=fun(h:checkM D≠0)=>make_e1 (x:=x) h;have H2:=fun(h:checkM D=0) (h2:mayM x=false\/x.k=1)=>make_e2 h h2;have H3:=fun(h:checkM D=0) (h2:mayM x=true) (h3:x.k≠1) (h4:300<=D.length)=>make_e3 h h2 h3 h4;have H4:=fun(h:checkM D=0) (h2:mayM x=true) (h3:x.k≠1) (h4:D.length<300)=>make_ok h h2 h3 h4;have hmk:makeM D x=D++[{ x with p := -1,c:=[] }]:=rfl;rw[hmk]at H4;clear hmk;obtain⟨k,n,d,A1,p,C1,b,s⟩:=x;obtain⟨N,hN⟩:=text_of n;obtain⟨T,hT⟩:=text_of d;subst hN hT;unfold nodeV at CM CO ⊢;dsimp only at *;rw[strV_of (T:=N) rfl,strV_of (T:=T) rfl]at CM CO ⊢;have al1:=(Below.refl w.heap.size w).alloc (Nat.le_refl _) (.cells #[.slice a D.length c] 24);have hb1:=new_block w (.cells #[.slice a D.length c] 24);have hs1:(w.alloc (.cells #[.slice a D.length c] 24)).heap.size=w.heap.size+1:=by simp
 generalize hw1:w.alloc (.cells #[.slice a D.length c] 24)=w1 at al1 hb1 hs1;have al2:=(Below.refl w1.heap.size w1).alloc (Nat.le_refl _) (.cells #[.int .i64 k,.string N,.string T,.slice aa A1.length ac,.int .i64 p,.slice ka C1.length kc,.bool b,.bool s] 39);have hb2:=new_block w1 (.cells #[.int .i64 k,.string N,.string T,.slice aa A1.length ac,.int .i64 p,.slice ka C1.length kc,.bool b,.bool s] 39);have hs2:(w1.alloc (.cells #[.int .i64 k,.string N,.string T,.slice aa A1.length ac,.int .i64 p,.slice ka C1.length kc,.bool b,.bool s] 39)).heap.size=w.heap.size+2:=by rw[size_alloc,hs1]
 rw[hs1]at hb2;generalize hw2:w1.alloc (.cells #[.int .i64 k,.string N,.string T,.slice aa A1.length ac,.int .i64 p,.slice ka C1.length kc,.bool b,.bool s] 39)=w2 at al2 hb2 hs2;have al3:=(Below.refl w2.heap.size w2).alloc (Nat.le_refl _) (.cells #[.slice none 0 0] 24);have hb3:=new_block w2 (.cells #[.slice none 0 0] 24);rw[hs2]at hb3;generalize hw3:w2.alloc (.cells #[.slice none 0 0] 24)=w3 at al3 hb3;have b23:=al2.trans (al3.mono (by omega));have HX:=Lib.hid (And.intro ((b23.block _ (lt_of_block hb1)).trans hb1) (And.intro ((al3.block _ (lt_of_block hb2)).trans hb2) (And.intro hb3 (al1.trans (b23.mono (by omega))))));have e0:=cell_of HX.out.1 0;have HD:=Lib.hid (And.intro hd (And.intro ha hk));have HR:Hid (w.heap.size<=w.heap.size):=Lib.hid (Nat.le_refl _);clear hd ha hk al1 hb1 al2 hb2 al3 hb3 b23
 go_enter Tryz.func121,Tryz.ntmps121
 go_wp2_with fail
 (refine(CK.out _ _ _ _ (HD.out.1.below HX.out.2.2.2)).mono ?_)
 rintro e w4 ⟨rfl,b4⟩;clear hw1 hw2 hw3 hs1 hs2;have HY:=Lib.hid (And.intro ((b4.block _ (lt_of_block HX.out.1)).trans HX.out.1) (And.intro ((b4.block _ (lt_of_block HX.out.2.1)).trans HX.out.2.1) (And.intro ((b4.block _ (lt_of_block HX.out.2.2.1)).trans HX.out.2.2.1) (HX.out.2.2.2.trans (b4.mono HX.out.2.2.2.size)))));clear b4 HX CK;have e0:=cell_of HY.out.1 0;have m0:=cell_of HY.out.2.1 0;have m1:=cell_of HY.out.2.1 1;have m2:=cell_of HY.out.2.1 2;have m3:=cell_of HY.out.2.1 3;have m4:=cell_of HY.out.2.1 4;have m5:=cell_of HY.out.2.1 5;have m6:=cell_of HY.out.2.1 6;have m7:=cell_of HY.out.2.1 7
 by_cases hc:checkM D=0
 case neg =>
  have HE:=Lib.hid (H1 hc);have g1:(checkM D != 0)=true:=by rw[bne_iff_ne];exact hc
  clear H1 H2 H3 H4;have o2:=open_of HY.out.2.2.1 0;have r2:=cell_of HY.out.2.2.1 0;have q2:=heap_setCell_same w4 (w.heap.size+2) 0 _ _ _ (.slice none 0 0) HY.out.2.2.1;have c0:(w4.setCell ⟨w.heap.size+2,0,none⟩ (.slice none 0 0)).cell? ⟨w.heap.size+2,0,none⟩=some (.slice none 0 0):=by rw[cell_of q2];rfl
  have HB:Hid (Below w.heap.size w (w4.setCell ⟨w.heap.size+2,0,none⟩ (.slice none 0 0))):=Lib.hid (HY.out.2.2.2.trans ((Kp.of_set (P:=fun j _=>j=w.heap.size+2) HY.out.2.2.1 _ rfl).below (fun j t e=>by have:=HR.out;omega) HY.out.2.2.2.size));clear q2
  go_wp2
  exact bodyPost_ret (v := .tuple #[.agg #[.slice none 0 0],.int .i64 0,.int .i64 (checkM D)]) (by simp[results,Tryz.results121,go_sem,c0]) rfl ⟨_,by rw[HE.out],by rw[HE.out];exact⟨fun _ => .slice none 0 0,fun _ => .slice none 0 0,OwnD.nil _ _ _ _⟩,HB.out⟩
 have hc0:=hc;rw[hc];clear H1;generalize hmb:mayM ⟨k,N.data.toList,T.data.toList,A1,p,C1,b,s⟩=mb at CM H2 H3 H4
 go_wp2_with fail
 (refine(CM.out _ _ _ (HD.out.2.1.below HY.out.2.2.2)).mono ?_)
 rintro e w5 ⟨rfl,b5⟩;have HZ:=Lib.hid (And.intro ((b5.block _ (lt_of_block HY.out.1)).trans HY.out.1) (And.intro ((b5.block _ (lt_of_block HY.out.2.1)).trans HY.out.2.1) (And.intro ((b5.block _ (lt_of_block HY.out.2.2.1)).trans HY.out.2.2.1) (HY.out.2.2.2.trans (b5.mono HY.out.2.2.2.size)))));clear b5 HY CM e0 m0 m1 m2 m3 m4 m5 m6 m7;have e0:=cell_of HZ.out.1 0;have m0:=cell_of HZ.out.2.1 0;have m1:=cell_of HZ.out.2.1 1;have m2:=cell_of HZ.out.2.1 2;have m3:=cell_of HZ.out.2.1 3;have m4:=cell_of HZ.out.2.1 4;have m5:=cell_of HZ.out.2.1 5;have m6:=cell_of HZ.out.2.1 6;have m7:=cell_of HZ.out.2.1 7
 cases mb with
 | false =>
   have HE:=Lib.hid (H2 hc0 (.inl rfl));clear H2 H3 H4;have o2:=open_of HZ.out.2.2.1 0;have r2:=cell_of HZ.out.2.2.1 0;have q2:=heap_setCell_same w5 (w.heap.size+2) 0 _ _ _ (.slice none 0 0) HZ.out.2.2.1;have c0:(w5.setCell ⟨w.heap.size+2,0,none⟩ (.slice none 0 0)).cell? ⟨w.heap.size+2,0,none⟩=some (.slice none 0 0):=by rw[cell_of q2];rfl
   have HB:Hid (Below w.heap.size w (w5.setCell ⟨w.heap.size+2,0,none⟩ (.slice none 0 0))):=Lib.hid (HZ.out.2.2.2.trans ((Kp.of_set (P:=fun j _=>j=w.heap.size+2) HZ.out.2.2.1 _ rfl).below (fun j t e=>by have:=HR.out;omega) HZ.out.2.2.2.size));clear q2
   go_wp2
   exact bodyPost_ret (v := .tuple #[.agg #[.slice none 0 0],.int .i64 0,.int .i64 1]) (by simp[results,Tryz.results121,go_sem,c0]) rfl ⟨_,by rw[HE.out],by rw[HE.out];exact⟨fun _ => .slice none 0 0,fun _ => .slice none 0 0,OwnD.nil _ _ _ _⟩,HB.out⟩
 | true =>
   by_cases hk1:k=1
   · have HE:=Lib.hid (H2 hc0 (.inr hk1))
     have g1:(k==1)=true:=by rw[hk1];rfl
     clear H2 H3 H4;have o2:=open_of HZ.out.2.2.1 0;have r2:=cell_of HZ.out.2.2.1 0;have q2:=heap_setCell_same w5 (w.heap.size+2) 0 _ _ _ (.slice none 0 0) HZ.out.2.2.1;have c0:(w5.setCell ⟨w.heap.size+2,0,none⟩ (.slice none 0 0)).cell? ⟨w.heap.size+2,0,none⟩=some (.slice none 0 0):=by rw[cell_of q2];rfl
     have HB:Hid (Below w.heap.size w (w5.setCell ⟨w.heap.size+2,0,none⟩ (.slice none 0 0))):=Lib.hid (HZ.out.2.2.2.trans ((Kp.of_set (P:=fun j _=>j=w.heap.size+2) HZ.out.2.2.1 _ rfl).below (fun j t e=>by have:=HR.out;omega) HZ.out.2.2.2.size));clear q2
     go_wp2
     exact bodyPost_ret (v := .tuple #[.agg #[.slice none 0 0],.int .i64 0,.int .i64 1]) (by simp[results,Tryz.results121,go_sem,c0]) rfl ⟨_,by rw[HE.out],by rw[HE.out];exact⟨fun _ => .slice none 0 0,fun _ => .slice none 0 0,OwnD.nil _ _ _ _⟩,HB.out⟩
   have g1:(k==1)=false:=by rw[beq_eq_false_iff_ne];exact hk1
   by_cases hbig:300<=D.length
   · have HE:=Lib.hid (H3 hc0 rfl hk1 hbig)
     have g2:(300:Int)<=(D.length:Int):=by omega
     clear H2 H3 H4;have o2:=open_of HZ.out.2.2.1 0;have r2:=cell_of HZ.out.2.2.1 0;have q2:=heap_setCell_same w5 (w.heap.size+2) 0 _ _ _ (.slice none 0 0) HZ.out.2.2.1;have c0:(w5.setCell ⟨w.heap.size+2,0,none⟩ (.slice none 0 0)).cell? ⟨w.heap.size+2,0,none⟩=some (.slice none 0 0):=by rw[cell_of q2];rfl
     have HB:Hid (Below w.heap.size w (w5.setCell ⟨w.heap.size+2,0,none⟩ (.slice none 0 0))):=Lib.hid (HZ.out.2.2.2.trans ((Kp.of_set (P:=fun j _=>j=w.heap.size+2) HZ.out.2.2.1 _ rfl).below (fun j t e=>by have:=HR.out;omega) HZ.out.2.2.2.size));clear q2
     go_wp2
     exact bodyPost_ret (v := .tuple #[.agg #[.slice none 0 0],.int .i64 0,.int .i64 2]) (by simp[results,Tryz.results121,go_sem,c0]) rfl ⟨_,by rw[HE.out],by rw[HE.out];exact⟨fun _ => .slice none 0 0,fun _ => .slice none 0 0,OwnD.nil _ _ _ _⟩,HB.out⟩
   have HE:=Lib.hid (H4 hc0 rfl hk1 (by omega));have g2:¬ (300:Int)<=(D.length:Int):=by omega
   clear H2 H3 H4 hc hc0
   go_wp2_with fail
   (refine(CO.out _ _ _ (HD.out.2.1.below HZ.out.2.2.2) (HD.out.2.2.below HZ.out.2.2.2)).mono ?_)
   rintro e w6 ⟨av,kv,rfl,ra,rk,b6⟩;obtain⟨va,vk,rfl⟩:=row_form ra;obtain⟨ua,uk,rfl⟩:=row_form rk;clear m0 m1 m2 m3 m4 m5 m6 m7;have al7:=(Below.refl w6.heap.size w6).alloc (Nat.le_refl _) (.cells #[.int .i64 k,.string N,.string T,.slice va A1.length vk,.int .i64 (-1),.slice none 0 0,.bool b,.bool s] 39);have hx7:=new_block w6 (.cells #[.int .i64 k,.string N,.string T,.slice va A1.length vk,.int .i64 (-1),.slice none 0 0,.bool b,.bool s] 39);have b67:=b6.trans (al7.mono b6.size);have hsz7:(w6.alloc (.cells #[.int .i64 k,.string N,.string T,.slice va A1.length vk,.int .i64 (-1),.slice none 0 0,.bool b,.bool s] 39)).heap.size=w6.heap.size+1:=by simp
   generalize hw7:w6.alloc (.cells #[.int .i64 k,.string N,.string T,.slice va A1.length vk,.int .i64 (-1),.slice none 0 0,.bool b,.bool s] 39)=w7 at al7 hx7 b67 hsz7;have hlt6:∀ j,(Value.slice va A1.length vk).ownBlock=some j->j<w7.heap.size:=fun j hj=>by have:=(ra.lt j hj).2;omega
   have HV:=Lib.hid (And.intro ((b67.block _ (lt_of_block HZ.out.1)).trans HZ.out.1) (And.intro ((b67.block _ (lt_of_block HZ.out.2.2.1)).trans HZ.out.2.2.1) (And.intro (HZ.out.2.2.2.trans (b67.mono HZ.out.2.2.2.size)) (And.intro (row_below (row_low ra HZ.out.2.2.2.size) al7) (And.intro hx7 hlt6)))));have e0:=cell_of HV.out.1 0;obtain⟨X,hX⟩:∃ X,w6.heap.size=X:=⟨_,rfl⟩;rw[hX]at HV hsz7;clear b6 b67 ra rk HZ CO al7 hx7 hlt6
   go_wp2_with fail
   (refine(CD.out _ _ _ _ (HD.out.1.below HV.out.2.2.1)).mono ?_)
   rintro e w8 ⟨sl',rfl,o8,b8⟩;obtain⟨oa,oc,rfl⟩:=o8.form;have al9:=(Below.refl w8.heap.size w8).alloc (Nat.le_refl _) (.cells #[.slice oa D.length oc] 24);have hb9:=new_block w8 (.cells #[.slice oa D.length oc] 24);have hs9:(w8.alloc (.cells #[.slice oa D.length oc] 24)).heap.size=w8.heap.size+1:=by simp
   have b89:=b8.trans (al9.mono b8.size);generalize hw9:w8.alloc (.cells #[.slice oa D.length oc] 24)=w9 at al9 hb9 hs9 b89;have al10:=(Below.refl w9.heap.size w9).alloc (Nat.le_refl _) (.cells #[.int .i64 k,.string N,.string T,.slice va A1.length vk,.int .i64 (-1),.slice none 0 0,.bool b,.bool s] 39);have hro:=RowIn.made w9 #[.int .i64 k,.string N,.string T,.slice va A1.length vk,.int .i64 (-1),.slice none 0 0,.bool b,.bool s] 39 1 8 rfl (fun x hx=>by simp at hx;rcases hx with rfl | rfl | rfl | rfl | rfl | rfl | rfl | rfl<;>rfl);rw[hs9]at hro;have b90:=b89.trans (al10.mono b89.size);have x9:=(b89.block _ (lt_of_block HV.out.2.2.2.2.1)).trans HV.out.2.2.2.2.1;have n0:=cell_of x9 0;have n1:=cell_of x9 1;have n2:=cell_of x9 2;have n3:=cell_of x9 3;have n4:=cell_of x9 4;have n5:=cell_of x9 5;have n6:=cell_of x9 6;have n7:=cell_of x9 7;have p0:=cell_of hb9 0;generalize hw10:w9.alloc (.cells #[.int .i64 k,.string N,.string T,.slice va A1.length vk,.int .i64 (-1),.slice none 0 0,.bool b,.bool s] 39)=w10 at al10 hro b90;have hq9:=(al10.block _ (lt_of_block hb9)).trans hb9;have H10:=Lib.hid (And.intro ((b90.block _ (lt_of_block HV.out.1)).trans HV.out.1) (And.intro ((b90.block _ (lt_of_block HV.out.2.1)).trans HV.out.2.1) (And.intro (HV.out.2.2.1.trans (b90.mono HV.out.2.2.1.size)) (And.intro (row_below HV.out.2.2.2.1 b90) (And.intro hq9 (And.intro (o8.below (al9.trans (al10.mono al9.size))) (And.intro hro HV.out.2.2.2.2.2)))))));have hws:w.heap.size<=w10.heap.size:=H10.out.2.2.1.size;have hw7s:=HV.out.2.2.1.size;obtain⟨i0,hi0,hz0,hz1,hz2⟩:=info_parts TinfoN;have hlt2:=lt_of_block HV.out.2.1;have hb79:=b89.size;have hb910:=al10.size;have hw8s:=b8.size;clear b8 b89 b90 al9 al10 hb9 hro hq9 x9 o8 HV CD e0;obtain⟨A2,K2,o10⟩:=H10.out.2.2.2.2.2.1;have hw710:w7.heap.size<=w10.heap.size:=Nat.le_trans hb79 hb910
   go_wp2_with (at_builtin
                refine wpList_append_rowG rfl _ _ 22 39 i0 (.agg #[.int .i64 0,.string ⟨#[]⟩,.string ⟨#[]⟩,.slice none 0 0,.int .i64 0,.slice none 0 0,.bool false,.bool false]) 8 104 Tryz.underlying22 hi0 hz0 hz1 hz2 rfl (by decide) rfl w7.heap.size _ D.length (ndsC D A2 K2) rfl o10.row _ 1 _ rfl H10.out.2.2.2.2.2.2.1 (by unfold maxLen;omega) (by omega) hw710 ?_;intro v11 w11 hown11 hgrow11 hat11;obtain⟨xa,xc,rfl⟩:=row_form hown11;have kk:=o10.grown hgrow11;have d11:=kk.cells H10.out.1 (fun e=>absurd e.1 (by decide));have s11:=kk.cells H10.out.2.1 (fun e=>absurd e.1 (by decide));have t11:=kk.cells H10.out.2.2.2.2.1 (fun e=>absurd e.1 (by decide));have o9:=open_of t11 0;have r9:=cell_of t11 0;have q12:=heap_setCell_same w11 w8.heap.size 0 _ _ _ (.slice xa (D.length+1) xc) t11;have kS:Kp (fun j t=>j=w8.heap.size) w11 (w11.setCell ⟨w8.heap.size,0,none⟩ (.slice xa (D.length+1) xc)):=Kp.of_set t11 _ rfl;have d12:=kS.cells d11 (fun e=>by have e1:w.heap.size=w8.heap.size:=e;omega);have s12:=kS.cells s11 (fun e=>by have e1:w.heap.size+2=w8.heap.size:=e;omega);have e12:=cell_of d12 0;have p12:(w11.setCell ⟨w8.heap.size,0,none⟩ (.slice xa (D.length+1) xc)).cell? ⟨w8.heap.size,0,none⟩=some (.slice xa (D.length+1) xc):=by rw[cell_of q12];rfl
                have o13:=open_of s12 0;have r13:=cell_of s12 0;have H11:=Lib.hid (And.intro kk (And.intro hown11 (And.intro kS (And.intro s12 q12))))
                clear hown11 hgrow11 hat11 kk d11 s11 t11 q12 kS d12 s12)
   have HO:Hid (OwnX ((w11.setCell ⟨w8.heap.size,0,none⟩ (.slice xa (D.length+1) xc)).setCell ⟨w.heap.size+2,0,none⟩ (.slice xa (D.length+1) xc)) w.heap.size (.slice xa (D.length+1) xc) (D++[⟨k,N.data.toList,T.data.toList,A1,-1,[],b,s⟩])/\((w11.setCell ⟨w8.heap.size,0,none⟩ (.slice xa (D.length+1) xc)).setCell ⟨w.heap.size+2,0,none⟩ (.slice xa (D.length+1) xc)).cell? ⟨w.heap.size+2,0,none⟩=some (.slice xa (D.length+1) xc)/\Below w.heap.size w ((w11.setCell ⟨w8.heap.size,0,none⟩ (.slice xa (D.length+1) xc)).setCell ⟨w.heap.size+2,0,none⟩ (.slice xa (D.length+1) xc))):=Lib.hid (by
    obtain⟨kk,hown,kS,s12,q12⟩:=H11.out;have q13:=heap_setCell_same _ (w.heap.size+2) 0 _ _ _ (.slice xa (D.length+1) xc) s12;have t11:=kk.cells H10.out.2.2.2.2.1 (fun e=>absurd e.1 (by decide))
    have o11:=(o10.low hw7s).grow (kk.mono fun k c t fr _ e=>⟨e.1,Nat.le_trans hw7s e.2⟩) (x:=⟨k,N.data.toList,T.data.toList,A1,-1,[],b,s⟩) (av := .slice va A1.length vk) (kv := .slice none 0 0) (row_low hown hw7s) (kk.row H10.out.2.2.2.1 fun j _ _ e=>absurd e.1 (by decide)) (World.ownsRow_nil _ _ _ _) (fun i hi j hj e=>by
     have h1:=((o10.at' i hi).lt j hj).1;have h2:=H10.out.2.2.2.2.2.2.2 j e
     omega) (fun i hi j hj e=>by cases e)
    have b11:=H10.out.2.2.1.trans (kk.below (fun j t e=>Nat.le_trans hw7s e.2) hws);have b12:=b11.trans (kS.below (fun j t e=>by have e1:j=w8.heap.size:=e;omega) b11.size)
    exact⟨⟨_,_,(o11.setDoc t11).setDoc s12⟩,by rw[cell_of q13];rfl,b12.trans ((Kp.of_set (P:=fun j _=>j=w.heap.size+2) s12 _ rfl).below (fun j t e=>by have e1:j=w.heap.size+2:=e;omega) b12.size)⟩)
   clear H11 H10 o10;generalize hw12:w11.setCell ⟨w8.heap.size,0,none⟩ (.slice xa (D.length+1) xc)=w12 at *;clear n0 n1 n2 n3 n4 n5 n6 n7 p0 o9 r9
   go_region
   all_goals
    have c0:(w12.setCell ⟨w.heap.size+2,0,none⟩ (.slice xa (D.length+1) xc)).drew.cell? ⟨w.heap.size+2,0,none⟩=some (.slice xa (D.length+1) xc):=HO.out.2.1;have c1:=HO.out.2.1
    go_wp2
    exact bodyPost_ret (v := .tuple #[.agg #[.slice xa (D.length+1) xc],.int .i64 (D.length:Int),.int .i64 0]) (by simp[results,Tryz.results121,go_sem,c0]) rfl ⟨_,by rw[HE.out],by rw[HE.out];exact HO.out.1.below (Below.refl _ _).drew,HO.out.2.2.drew⟩
end Go.Proofs.YtlnfbjbagmfpiaaGreatDoor.Dm
namespace Go.Proofs.YtlnfbjbagmfpiaaGreatDoor.Dm
open Go.RowKit
theorem one_hid (x:Nd)(hx:FitN x):Hid (∀ W av kv av' kv',AtIn W av x.a->IntIn W kv x.c->AtIn W av' x.a->IntIn W kv' x.c->Calls Tryz.prog 30 #[nodeV x av kv,nodeV x av' kv'] W fun e w'=>e=.returned (.bool true)/\Below W.heap.size W w'):=Lib.hid fun w av kv av' kv' ha hk ha' hk'=>by
 obtain⟨N,hN⟩:=text_of x.n;obtain⟨T,hT⟩:=text_of x.d;unfold nodeV;rw[strV_of hN,strV_of hT];obtain⟨-,-,hal,hcl,-⟩:=hx;generalize x.k=k;generalize x.p=p;generalize x.b=b;generalize x.s=s;generalize x.a=A at ha ha' hal;generalize x.c=C at hk hk' hcl;clear hN hT;have al1:=(Below.refl w.heap.size w).alloc (Nat.le_refl _) (.cells #[.int .i64 k,.string N,.string T,av,.int .i64 p,kv,.bool b,.bool s] 39);have hb1:=new_block w (.cells #[.int .i64 k,.string N,.string T,av,.int .i64 p,kv,.bool b,.bool s] 39);have hs1:(w.alloc (.cells #[.int .i64 k,.string N,.string T,av,.int .i64 p,kv,.bool b,.bool s] 39)).heap.size=w.heap.size+1:=by simp
 generalize hw1:w.alloc (.cells #[.int .i64 k,.string N,.string T,av,.int .i64 p,kv,.bool b,.bool s] 39)=w1 at al1 hb1 hs1;have al2:=(Below.refl w1.heap.size w1).alloc (Nat.le_refl _) (.cells #[.int .i64 k,.string N,.string T,av',.int .i64 p,kv',.bool b,.bool s] 39);have hb2:=new_block w1 (.cells #[.int .i64 k,.string N,.string T,av',.int .i64 p,kv',.bool b,.bool s] 39);rw[hs1]at hb2;generalize hw2:w1.alloc (.cells #[.int .i64 k,.string N,.string T,av',.int .i64 p,kv',.bool b,.bool s] 39)=w2 at al2 hb2;have hb1':=(al2.block _ (lt_of_block hb1)).trans hb1;have hbel:=al1.trans (al2.mono (by omega));have e0:=cell_of hb1' 0;have e1:=cell_of hb1' 1;have e2:=cell_of hb1' 2;have e3:=cell_of hb1' 3;have e4:=cell_of hb1' 4;have e5:=cell_of hb1' 5;have e6:=cell_of hb1' 6;have e7:=cell_of hb1' 7;have f0:=cell_of hb2 0;have f1:=cell_of hb2 1;have f2:=cell_of hb2 2;have f3:=cell_of hb2 3;have f4:=cell_of hb2 4;have f5:=cell_of hb2 5;have f6:=cell_of hb2 6;have f7:=cell_of hb2 7;have CA:=attrsG_hid A (by omega);have CI:Hid (∀ W u v,IntIn W u C->IntIn W v C->Calls Tryz.prog 33 #[u,v] W fun e w'=>e=.returned (.bool true)/\Below W.heap.size W w'):=Lib.hid fun W u v h1 h2=>(U1.ints_any C C u v W h1.u1 h2.u1 (by omega) (by omega)).mono fun e w' ⟨he,n,hw⟩=>⟨by rw[he];unfold U1.eqL;rw[decide_eq_true rfl],by rw[hw];exact belowN (Below.refl _ _) n⟩;have HB:=Lib.hid (And.intro hbel (And.intro (ha.below hbel) (And.intro (hk.below hbel) (And.intro (ha'.below hbel) (And.intro (hk'.below hbel) (And.intro hb1' hb2))))));have g1:(k==k)=true:=by simp
 have g2:(N.toList==N.toList)=true:=by simp
 have g3:(T.toList==T.toList)=true:=by simp
 have g4:(b==b)=true:=by simp
 have g5:(s==s)=true:=by simp
 have g6:(p==p)=true:=by simp
 clear ha hk ha' hk' al1 hb1 al2 hb2 hb1' hbel
 go_enter Tryz.func30,Tryz.ntmps30
 go_wp2_with fail
 (refine(CA.out _ _ _ HB.out.2.1 HB.out.2.2.2.1).mono ?_)
 rintro e w3 ⟨rfl,b3⟩;have c5:=cell_of ((b3.block _ (lt_of_block HB.out.2.2.2.2.2.1)).trans HB.out.2.2.2.2.2.1) 5;have d5:=cell_of ((b3.block _ (lt_of_block HB.out.2.2.2.2.2.2)).trans HB.out.2.2.2.2.2.2) 5;have H3:=Lib.hid (And.intro (HB.out.1.trans (b3.mono HB.out.1.size)) (And.intro (HB.out.2.2.1.below b3) (HB.out.2.2.2.2.1.below b3)));clear b3 HB CA e0 e1 e2 e3 e4 e5 e6 e7 f0 f1 f2 f3 f4 f5 f6 f7 hw1 hw2 hs1
 go_wp2_with fail
 (refine(CI.out _ _ _ H3.out.2.1 H3.out.2.2).mono ?_)
 rintro e w4 ⟨rfl,b4⟩;have H4:=Lib.hid (H3.out.1.trans (b4.mono H3.out.1.size));clear b4 H3 CI
 go_wp2
 go_ret
 exact⟨rfl,H4.out⟩
theorem same_hid (D:List Nd)(hf:FitD D):Hid (∀ W sl A K sl' A' K',DocIn W sl D A K->DocIn W sl' D A' K'->Calls Tryz.prog 17 #[.agg #[sl],.agg #[sl']] W fun e w'=>e=.returned (.bool true)/\Below W.heap.size W w'):=Lib.hid fun w sl A K sl' A' K' hd hd'=>by
 obtain⟨a,c,rfl⟩:=hd.form;obtain⟨a',c',rfl⟩:=hd'.form;have hfl:=hf.1;have HF:=Lib.hid hf;have al1:=(Below.refl w.heap.size w).alloc (Nat.le_refl _) (.cells #[.slice a D.length c] 24);have hb1:=new_block w (.cells #[.slice a D.length c] 24);have hs1:(w.alloc (.cells #[.slice a D.length c] 24)).heap.size=w.heap.size+1:=by simp
 generalize hw1:w.alloc (.cells #[.slice a D.length c] 24)=w1 at al1 hb1 hs1;have al2:=(Below.refl w1.heap.size w1).alloc (Nat.le_refl _) (.cells #[.slice a' D.length c'] 24);have hb2:=new_block w1 (.cells #[.slice a' D.length c'] 24);rw[hs1]at hb2;generalize hw2:w1.alloc (.cells #[.slice a' D.length c'] 24)=w2 at al2 hb2;have hb1':=(al2.block _ (lt_of_block hb1)).trans hb1;have hbel:=al1.trans (al2.mono (by omega));have e0:=cell_of hb1' 0;have f0:=cell_of hb2 0;have g0:((D.length:Int) != (D.length:Int))=false:=by simp
 have H2:=Lib.hid (And.intro hb1' (And.intro hb2 hbel));have HD:=Lib.hid (And.intro hd hd');clear hd hd' hf al1 hb1 al2 hb2 hb1' hbel
 go_enter Tryz.func17,Tryz.ntmps17
 go_wp2
 clear hw1 hw2 hs1;generalize hR:w.heap.size=R at e0 f0 H2 ⊢;rw[<- hR]at H2;have HR:=Lib.hid hR;clear hR
 go_loopw [5] (fun i wr=>∃ u:Nat,i=.int .i64 u/\u<=D.length/\Hid (wr.heap[R]? = some (.cells #[.slice a D.length c] 24 (0,0))/\wr.heap[R+1]? = some (.cells #[.slice a' D.length c'] 24 (0,0))/\Below w.heap.size w wr)) (fun i _=>D.length - (intOf i).toNat)
 case atStart=>exact⟨0,rfl,Nat.zero_le _,Lib.hid ⟨by rw[<- HR.out];exact H2.out.1,by rw[<- HR.out];exact H2.out.2.1,H2.out.2.2⟩⟩
 case round =>
  clear H2 e0 f0;obtain⟨u,rfl,hu,HX⟩:=hrel;have e0:=cell_of HX.out.1 0;have f0:=cell_of HX.out.2.1 0
  by_cases hlt:u<D.length
  · have zu:(u:Int)<(D.length:Int):=by omega
    obtain⟨B,off,rfl,c0,c1,c2,c3,c4,c5,c6,c7⟩:=(HD.out.1.below HX.out.2.2).node hlt;obtain⟨B',off',rfl,d0,d1,d2,d3,d4,d5,d6,d7⟩:=(HD.out.2.below HX.out.2.2).node hlt;have CO:=one_hid D[u] (HF.out.2 _ (List.getElem_mem hlt));obtain⟨N,hN⟩:=text_of D[u].n;obtain⟨T,hT⟩:=text_of D[u].d;unfold nodeV at CO;rw[strV_of hN,strV_of hT]at CO;rw[strV_of hN]at c1 d1;rw[strV_of hT]at c2 d2;have HA:Hid (∀ W,Below wr.heap.size wr W->_):=Lib.hid fun W b=>CO.out W _ _ _ _ ((HD.out.1.below (HX.out.2.2.trans (b.mono HX.out.2.2.size))).at' u hlt) ((HD.out.1.below (HX.out.2.2.trans (b.mono HX.out.2.2.size))).kd u hlt) ((HD.out.2.below (HX.out.2.2.trans (b.mono HX.out.2.2.size))).at' u hlt) ((HD.out.2.below (HX.out.2.2.trans (b.mono HX.out.2.2.size))).kd u hlt);have HC:Hid (∀ W,Below wr.heap.size wr W->Calls Tryz.prog 30 #[.agg #[.int .i64 D[u].k,.string N,.string T,A u,.int .i64 D[u].p,K u,.bool D[u].b,.bool D[u].s],.agg #[.int .i64 D[u].k,.string N,.string T,A' u,.int .i64 D[u].p,K' u,.bool D[u].b,.bool D[u].s]] W fun e w'=>e=.returned (.bool true)/\Below wr.heap.size wr w'):=Lib.hid fun W b=>(HA.out W b).mono fun e w' ⟨h1,h2⟩=>⟨h1,b.trans (h2.mono b.size)⟩;clear HA CO hN hT
    go_wp2
    go_region_with (go_at_call 30;refine(HC.out _ (by first | exact Below.refl _ _ | exact belowN (Below.refl _ _) _ | exact(Below.refl _ _).drew)).mono ?_;rintro e w3 ⟨rfl,b3⟩)
    all_goals
     have H3:=Lib.hid (And.intro ((b3.block _ (lt_of_block HX.out.1)).trans HX.out.1) (And.intro ((b3.block _ (lt_of_block HX.out.2.1)).trans HX.out.2.1) (HX.out.2.2.trans (b3.mono HX.out.2.2.size))));clear b3 HX HC e0 f0 c0 c1 c2 c3 c4 c5 c6 c7 d0 d1 d2 d3 d4 d5 d6 d7
     go_wp2
     go_roundw
     case rel=>exact⟨u+1,by go_num,by omega,H3⟩
     case measure=>simp[intOf];omega
  · obtain rfl:u=D.length:=by omega
    go_wp2
    go_ret
    exact⟨rfl,HX.out.2.2⟩
end Go.Proofs.YtlnfbjbagmfpiaaGreatDoor.Dm
namespace Go.Proofs.YtlnfbjbagmfpiaaGreatDoor.Dm
open Go.RowKit
def FitS (x:Nd):Prop:=x.n.length<=300/\x.d.length<=3000/\x.a.length<=40/\x.c.length<=400/\∀ y∈x.a,y.1.length<=300/\y.2.length<=2000
def FitT (D:List Nd):Prop:=D.length<=310/\∀ x∈D,FitS x
theorem FitS.fit {x:Nd}(h:FitS x):FitN x:=⟨by have:=h.1;omega,by have:=h.2.1;omega,by have:=h.2.2.1;omega,by have:=h.2.2.2.1;omega,fun y hy=>by have:=h.2.2.2.2 y hy;omega⟩
theorem FitT.fit {D:List Nd}(h:FitT D):FitD D:=⟨by have:=h.1;omega,fun x hx=>(h.2 x hx).fit⟩
def BigR (P:Prop)(W:World)(e:Ending)(w':World):Prop:=∃ b,e=.returned (.bool b)/\(b=false->P)/\Below W.heap.size W w'
theorem bigNode_hid (x:Nd)(ha:x.a.length<=9223372036854775807)(hc:x.c.length<=9223372036854775807):Hid (∀ W av kv,AtIn W av x.a->IntIn W kv x.c->Calls Tryz.prog 57 #[nodeV x av kv] W (BigR (FitS x) W)):=Lib.hid fun w av kv hat hkd=>by
 obtain⟨aa,ac,rfl⟩:=hat.form;obtain⟨ka,kc,rfl⟩:=hkd.form;obtain⟨N,hN⟩:=text_of x.n;obtain⟨T,hT⟩:=text_of x.d;have HF:Hid (N.size<=300->T.size<=3000->x.a.length<=40->x.c.length<=400->(∀ j (h:j<x.a.length),x.a[j].1.length<=300/\x.a[j].2.length<=2000)->FitS x):=Lib.hid fun h1 h2 h3 h4 h5=>⟨by rw[<- hN,lsize];exact h1,by rw[<- hT,lsize];exact h2,h3,h4,fun y hy=>by obtain⟨j,hj,rfl⟩:=List.getElem_of_mem hy;exact h5 j hj⟩;unfold nodeV;rw[strV_of hN,strV_of hT];generalize x.k=k;generalize x.p=p;generalize x.b=b;generalize x.s=s;generalize hA:x.a=A at hat ha HF ⊢;generalize hC:x.c=C at hc HF ⊢;have al1:=(Below.refl w.heap.size w).alloc (Nat.le_refl _) (.cells #[.int .i64 k,.string N,.string T,.slice aa A.length ac,.int .i64 p,.slice ka C.length kc,.bool b,.bool s] 39);have hb1:=new_block w (.cells #[.int .i64 k,.string N,.string T,.slice aa A.length ac,.int .i64 p,.slice ka C.length kc,.bool b,.bool s] 39);generalize hw1:w.alloc (.cells #[.int .i64 k,.string N,.string T,.slice aa A.length ac,.int .i64 p,.slice ka C.length kc,.bool b,.bool s] 39)=w1 at al1 hb1;have e1:=cell_of hb1 1;have e2:=cell_of hb1 2;have e3:=cell_of hb1 3;have e5:=cell_of hb1 5;have H1:=Lib.hid (And.intro al1 (hat.below al1));have HX:=Lib.hid (And.intro hA hC);clear hat hkd hN hT al1 hb1 hA hC
 by_cases z1:(300:Int)<(N.size:Int)
 · go_enter Tryz.func57,Tryz.ntmps57
   go_wp2
   go_ret
   exact⟨true,rfl,(fun h=>by cases h),H1.out.1⟩
 by_cases z2:(3000:Int)<(T.size:Int)
 · go_enter Tryz.func57,Tryz.ntmps57
   go_wp2
   go_ret
   exact⟨true,rfl,(fun h=>by cases h),H1.out.1⟩
 by_cases z3:(40:Int)<(A.length:Int)
 · go_enter Tryz.func57,Tryz.ntmps57
   go_wp2
   go_ret
   exact⟨true,rfl,(fun h=>by cases h),H1.out.1⟩
 by_cases z4:(400:Int)<(C.length:Int)
 · go_enter Tryz.func57,Tryz.ntmps57
   go_wp2
   go_ret
   exact⟨true,rfl,(fun h=>by cases h),H1.out.1⟩
 have HM:=Lib.hid (HF.out (by omega) (by omega) (by omega) (by omega));clear HF
 go_enter Tryz.func57,Tryz.ntmps57
 go_wp2
 clear hw1;generalize w.heap.size=R at e1 e2 e3 e5 ⊢
 go_loopw [3] (fun i wr=>∃ u:Nat,i=.int .i64 u/\u<=A.length/\Hid (∀ j (h:j<A.length),j<u->A[j].1.length<=300/\A[j].2.length<=2000)/\wr=w1) (fun i _=>A.length - (intOf i).toNat)
 case atStart=>exact⟨0,rfl,Nat.zero_le _,Lib.hid (fun j _ h=>absurd h (Nat.not_lt_zero _)),rfl⟩
 case round =>
  obtain⟨u,rfl,hu,HV,rfl⟩:=hrel
  by_cases hlt:u<A.length
  · obtain⟨B,off,rfl,c0,c1⟩:=H1.out.2.at hlt
    obtain⟨X,hX⟩:=text_of A[u].1;obtain⟨V,hV⟩:=text_of A[u].2;rw[strV_of hX]at c0;rw[strV_of hV]at c1;have zu:(u:Int)<(A.length:Int):=by omega
    have HV2:Hid (X.size<=300->V.size<=2000->∀ j (h:j<A.length),j<u+1->A[j].1.length<=300/\A[j].2.length<=2000):=Lib.hid fun h1 h2 j hj hju=>by
     by_cases e:j=u
     · subst e
       exact⟨by rw[<- hX,lsize];exact h1,by rw[<- hV,lsize];exact h2⟩
     · exact HV.out j hj (by omega)
    clear hX hV HV
    by_cases z5:(300:Int)<(X.size:Int)
    · go_wp2
      go_ret
      exact⟨true,rfl,(fun h=>by cases h),H1.out.1⟩
    by_cases z6:(2000:Int)<(V.size:Int)
    · go_wp2
      go_ret
      exact⟨true,rfl,(fun h=>by cases h),H1.out.1⟩
    have HV3:=Lib.hid (HV2.out (by omega) (by omega));clear HV2
    go_wp2
    go_roundw
    case rel=>exact⟨u+1,by go_num,by omega,HV3,trivial⟩
    case measure=>simp[intOf];omega
  · obtain rfl:u=A.length:=by omega
    have HE:Hid (FitS x):=Lib.hid (HM.out fun j hj=>HV.out j hj hj);clear HV HM
    go_wp2
    go_ret
    exact⟨false,rfl,(fun _=>HE.out),H1.out.1⟩
theorem big_hid (D:List Nd)(hl:D.length<=9223372036854775807)(hk:∀ x∈D,x.a.length<=9223372036854775807/\x.c.length<=9223372036854775807):Hid (∀ W sl A K,DocIn W sl D A K->Calls Tryz.prog 26 #[.agg #[sl]] W (BigR (FitT D) W)):=Lib.hid fun w sl A K hd=>by
 obtain⟨a,c,rfl⟩:=hd.form;obtain⟨d1,b1,l1⟩:=docBox w hd;have HK:=Lib.hid hk;generalize hw1:w.alloc (.cells #[.slice a D.length c] 24)=w1 at d1 b1 l1;obtain⟨R,hR⟩:∃ R,w.heap.size=R:=⟨_,rfl⟩;have e0:=cell_of b1 0;have b1':=b1;rw[hR]at b1' e0;have H1:=Lib.hid (And.intro d1 (And.intro b1' l1));clear hd d1 b1 b1' l1 hk
 by_cases z1:(310:Int)<(D.length:Int)
 · go_enter Tryz.func26,Tryz.ntmps26
   go_wp2
   go_ret
   exact⟨true,rfl,(fun h=>by cases h),by first | exact H1.out.2.2 | (rw[<- hR];exact H1.out.2.2)⟩
 go_enter Tryz.func26,Tryz.ntmps26
 go_wp2
 clear hw1
 go_loopw [3] (fun i wr=>∃ u:Nat,i=.int .i64 u/\u<=D.length/\Hid (∀ j (h:j<D.length),j<u->FitS D[j])/\Hid (DocIn wr (.slice a D.length c) D A K/\wr.heap[R]? = some (.cells #[.slice a D.length c] 24 (0,0))/\Below w.heap.size w wr)) (fun i _=>D.length - (intOf i).toNat)
 case atStart=>exact⟨0,rfl,Nat.zero_le _,Lib.hid (fun j _ h=>absurd h (Nat.not_lt_zero _)),H1⟩
 case round =>
  clear H1 e0;obtain⟨u,rfl,hu,HV,HX⟩:=hrel;have e0:=cell_of HX.out.2.1 0
  by_cases hlt:u<D.length
  · have zu:(u:Int)<(D.length:Int):=by omega
    obtain⟨B,off,rfl,c0,c1,c2,c3,c4,c5,c6,c7⟩:=HX.out.1.node hlt;have CO:=bigNode_hid D[u] (HK.out _ (List.getElem_mem hlt)).1 (HK.out _ (List.getElem_mem hlt)).2;obtain⟨N,hN⟩:=text_of D[u].n;obtain⟨T,hT⟩:=text_of D[u].d;unfold nodeV at CO;rw[strV_of hN,strV_of hT]at CO;rw[strV_of hN]at c1;rw[strV_of hT]at c2;clear hN hT
    go_wp2_with fail
    (refine(CO.out _ _ _ (HX.out.1.at' u hlt) (HX.out.1.kd u hlt)).mono ?_)
    rintro e w3 ⟨bb,rfl,hb,b3⟩;obtain⟨d3,bx3⟩:=HX.out.1.boxed HX.out.2.1 b3;have e0:=cell_of bx3 0;have H3:=Lib.hid (And.intro d3 (And.intro bx3 (HX.out.2.2.trans (b3.mono HX.out.2.2.size))));have HB:=Lib.hid hb;clear b3 d3 bx3 HX CO c0 c1 c2 c3 c4 c5 c6 c7 hb
    cases bb with
    | true =>
      go_wp2
      go_ret
      exact⟨true,rfl,(fun h=>by cases h),by first | exact H3.out.2.2 | (rw[<- hR];exact H3.out.2.2)⟩
    | false =>
      have HV2:Hid (∀ j (h:j<D.length),j<u+1->FitS D[j]):=Lib.hid fun j hj hju=>by
       by_cases e:j=u
       · subst e;exact HB.out rfl
       · exact HV.out j hj (by omega)
      clear HV HB
      go_wp2
      go_roundw
      case rel=>exact⟨u+1,by go_num,by omega,HV2,H3⟩
      case measure=>simp[intOf];omega
  · obtain rfl:u=D.length:=by omega
    have HE:Hid (FitT D):=Lib.hid ⟨by omega,fun x hx=>by obtain⟨j,hj,rfl⟩:=List.getElem_of_mem hx;exact HV.out j hj hj⟩;clear HV
    go_wp2
    go_ret
    exact⟨false,rfl,(fun _=>HE.out),by first | exact HX.out.2.2 | (rw[<- hR];exact HX.out.2.2)⟩
end Go.Proofs.YtlnfbjbagmfpiaaGreatDoor.Dm
namespace Go.Proofs.YtlnfbjbagmfpiaaGreatDoor.Dm
open Go.RowKit
theorem set_kinds {D:List Nd}{i:Nat}(hi:i<D.length){y:Nd}(h:y.k=D[i].k/\y.n=D[i].n/\y.d=D[i].d/\y.p=D[i].p/\y.b=D[i].b/\y.s=D[i].s)(A K:Nat->Value):ndsC (D.set i y) A K=ndsC D A K:=by
 refine ndsC_same2 _ _ A K (by simp) fun j x z hx hz => ?_
 by_cases e:j=i
 · subst e
   rw[List.getElem?_set_self hi]at hx;rw[List.getElem?_eq_getElem hi]at hz
   cases hx
   cases hz
   exact h
 · rw[List.getElem?_set_ne (fun h=>e h.symm)]at hx
   rw[hx]at hz
   cases hz
   exact⟨rfl,rfl,rfl,rfl,rfl,rfl⟩
theorem get_set {D:List Nd}{i j:Nat}{y:Nd}(hj:j<(D.set i y).length):(D.set i y)[j]=if i=j then y else D[j]'(by simpa using hj):=List.getElem_set ..
section
variable {w:World} {B g cap:Nat} {D:List Nd} {A K:Nat->Value}
theorem OwnD.block (h:OwnD w B (.slice (some ⟨g,0,none⟩) D.length cap) D A K):∃ cur,w.heap[g]? = some (.cells cur 39 (0,0))/\B<=g:=row_open h.row
theorem OwnD.setP (h:OwnD w B (.slice (some ⟨g,0,none⟩) D.length cap) D A K){i:Nat}(hi:i<D.length)(p:Int):OwnD (w.setCell ⟨g,i * 8+4,none⟩ (.int .i64 p)) B (.slice (some ⟨g,0,none⟩) D.length cap) (D.set i { D[i]with p:=p }) A K:=by
 obtain⟨cur,hg,hB⟩:=h.block;have kS:Kp (fun k _=>k=g) w (w.setCell ⟨g,i * 8+4,none⟩ (.int .i64 p)):=Kp.of_set hg _ rfl;refine⟨?_,fun j hj => ?_,fun j hj => ?_,fun j k hj hk=>h.na j k (by simpa using hj) (by simpa using hk),fun j k hj hk=>h.nk j k (by simpa using hj) (by simpa using hk)⟩
 · have:=ownsRow_set h.row (i * 8+4) (.int .i64 p)
   rw[ndsC_setP D A K i hi p]at this
   simpa using this
 · have hj':j<D.length:=by simpa using hj
   have h1:=kS.row (h.at' j hj') fun k hk _ e=>row_ne (h.at' j hj') hg (by decide) (by rw[hk,e]);rw[get_set hj];split
   · rename_i e
     subst e;exact h1
   · exact h1
 · have hj':j<D.length:=by simpa using hj
   have h1:=kS.row (h.kd j hj') fun k hk _ e=>row_ne (h.kd j hj') hg (by decide) (by rw[hk,e]);rw[get_set hj];split
   · rename_i e
     subst e;exact h1
   · exact h1
theorem OwnD.setK (h:OwnD w B (.slice (some ⟨g,0,none⟩) D.length cap) D A K){i:Nat}(hi:i<D.length){kv:Value}{C:List Int}(hk:w.ownsRow B 3 1 kv C.length (inC C))(hf:∀ j,j<D.length->j≠i->∀ k,(K j).ownBlock=some k->kv.ownBlock≠some k):OwnD (w.setCell ⟨g,i * 8+5,none⟩ kv) B (.slice (some ⟨g,0,none⟩) D.length cap) (D.set i { D[i]with c:=C }) A (upd K i kv):=by
 obtain⟨cur,hg,hB⟩:=h.block;have kS:Kp (fun k _=>k=g) w (w.setCell ⟨g,i * 8+5,none⟩ kv):=Kp.of_set hg _ rfl;refine⟨?_,fun j hj => ?_,fun j hj => ?_,fun j k hj hk=>h.na j k (by simpa using hj) (by simpa using hk),fun j k hj hk hjk q hq => ?_⟩
 · have:=ownsRow_set h.row (i * 8+5) kv
   rw[ndsC_setK D A K i hi kv,<- set_kinds hi (y:={ D[i]with c:=C }) ⟨rfl,rfl,rfl,rfl,rfl,rfl⟩]at this
   simpa using this
 · have hj':j<D.length:=by simpa using hj
   have h1:=kS.row (h.at' j hj') fun k hk _ e=>row_ne (h.at' j hj') hg (by decide) (by rw[hk,e]);rw[get_set hj];split
   · rename_i e
     subst e;exact h1
   · exact h1
 · have hj':j<D.length:=by simpa using hj
   rw[get_set hj];split
   · rename_i e
     subst e;rw[upd_self];exact kS.row hk fun k hq _ e=>row_ne hk hg (by decide) (by rw[hq,e])
   · rename_i e
     rw[upd_ne (fun e2=>e e2.symm)];exact kS.row (h.kd j hj') fun k hk _ e=>row_ne (h.kd j hj') hg (by decide) (by rw[hk,e])
 · have hj':j<D.length:=by simpa using hj
   have hk':k<D.length:=by simpa using hk
   by_cases e1:j=i
   · subst e1
     rw[upd_self]at hq;rw[upd_ne (fun e=>hjk e.symm)];exact fun h2=>hf k hk' (fun e=>hjk e.symm) q h2 hq
   · rw[upd_ne e1]at hq
     by_cases e2:k=i
     · subst e2
       rw[upd_self];exact hf j hj' e1 q hq
     · rw[upd_ne e2]
       exact h.nk j k hj' hk' hjk q hq
end
theorem cut_same {D:List Nd}(R:Right D){n:Nat}(hn:n<D.length)(hp:par D n = -1):cutM D n=D.set n { D[n]with p := -1 }:=by
 refine List.ext_getElem? fun i => ?_;rw[cut_get]
 have hno:∀ j,noN n (kid D j)=kid D j:=fun j=>noN_none fun h=>by
  have:=(R.up h).1;rw[hp]at this;omega
 by_cases e:i=n
 · subst e
   rw[List.getElem?_set_self hn,List.getElem?_eq_getElem hn];have:=hno i;rw[kid_at hn]at this;simp[this]
 · rw[List.getElem?_set_ne (fun h=>e h.symm)]
   cases hx:D[i]? with
   | none=>rfl
   | some x =>
     have:=hno i;rw[kid_some hx]at this;simp[e,this]
theorem cut_other {D:List Nd}(R:Right D){n q:Nat}(hn:n<D.length)(hp:par D n=(q:Nat))(hq:q<D.length)(hqn:q≠n):cutM D n=(D.set q { D[q]with c:=noN n D[q].c }).set n { D[n]with p := -1 }:=by
 refine List.ext_getElem? fun i => ?_;rw[cut_get]
 have hno:∀ j,j≠q->noN n (kid D j)=kid D j:=fun j hj=>noN_none fun h=>by
  have:=(R.up h).1;rw[hp]at this;omega
 by_cases e:i=n
 · subst e
   rw[List.getElem?_set_self (by simpa using hn),List.getElem?_eq_getElem hn];have:=hno i (fun h=>hqn h.symm);rw[kid_at hn]at this;simp[this]
 · rw[List.getElem?_set_ne (fun h=>e h.symm)]
   by_cases e2:i=q
   · subst e2
     rw[List.getElem?_set_self hq,List.getElem?_eq_getElem hq];simp[e]
   · rw[List.getElem?_set_ne (fun h=>e2 h.symm)]
     cases hx:D[i]? with
     | none=>rfl
     | some x =>
       have:=hno i e2;rw[kid_some hx]at this;simp[e,this]
end Go.Proofs.YtlnfbjbagmfpiaaGreatDoor.Dm
