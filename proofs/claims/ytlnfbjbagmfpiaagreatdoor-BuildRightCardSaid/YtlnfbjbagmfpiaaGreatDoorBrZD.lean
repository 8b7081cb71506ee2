/- The document's own builder: one token. The document's own builder: tokens that are read; what a token leaves. The document's own: Into. -/
import Derived.Test.YtlnfbjbagmfpiaaGreatDoorBrZA
set_option maxRecDepth 100000
set_option maxHeartbeats 16000000
namespace Go.Proofs.YtlnfbjbagmfpiaaGreatDoor.Dm
open Go.RowKit
theorem OwnD.kpT {P:Nat->TypeId->Prop}{w w':World}{L T:Nat}{sl:Value}{D:List Nd}{A K:Nat->Value}(h:OwnD w L sl D A K)(hT:BlkT T D.length sl A K)(k:Kp P w w')(hp:∀ j t,L<=j->j<T->¬ P j t):OwnD w' L sl D A K :=
 ⟨k.row h.row fun j hj hL=>hp j _ hL (hT.1 j hj),fun i hi=>k.row (h.at' i hi) fun j hj hL=>hp j _ hL ((hT.2 i hi).1 j hj),fun i hi=>k.row (h.kd i hi) fun j hj hL=>hp j _ hL ((hT.2 i hi).2 j hj),h.na,h.nk⟩
theorem WkO.push {w w6:World}{B L T n:Nat}{k:Wk}{dv ov fv v6:Value}{A K:Nat->Value}(h:WkO w B k dv ov fv A K L T)(hg:w.grownBy w6 ov.ownBlock)(hown:w6.ownsRow B 3 1 v6 (k.o.length+1) (inC (natsI k.o.reverse)++[.int .i64 (n:Int)]))(hat:v6.ownBlock=ov.ownBlock\/v6.ownBlock=some w.heap.size):WkO w6 B { k with o:=n :: k.o } dv v6 fv A K L T/\Kp (fun j t=>t=3/\B<=j) w w6:=by
 have k0:Kp (fun j t=>ov.ownBlock=some j/\t=3/\B<=j) w w6:=Kp.of_grown hg (fun j c t fr hj hc=>by
  obtain⟨cur,e,hb,_⟩:=row_block h.o hj;rw[hc]at e
  cases e
  exact⟨hj,rfl,hb⟩) fun j hj=>by
  obtain⟨cur,e,_⟩:=row_block h.o hj;exact⟨_,_,_,e⟩
 refine⟨⟨h.d.kpT h.t k0 (fun j t h1 h2 h3=>by rcases h.s j h3.1 with h4 | h4<;>omega),h.t,?_,k0.row h.f fun j _ _ e=>absurd e.2.1 (by decide),fun g hg2 => ?_,h.l,Nat.le_trans h.h k0.size⟩,k0.mono fun _ _ _ _ _ e=>e.2⟩
 · rw[show inC (natsI (n :: k.o).reverse)=inC (natsI k.o.reverse)++[.int .i64 (n:Int)] by simp[inC,natsI]]
   exact hown
 · rcases hat with e | e
   · exact h.s g (by rw[<- e];exact hg2)
   · rw[e]at hg2
     cases hg2
     exact .inr h.h
def tokV (t:Tk)(av:Value):Value := .agg #[.int .i64 t.k,strV t.n,strV t.d,av,.bool t.c]
def FitK (t:Tk):Prop:=t.n.length<=1000/\t.d.length<=10000/\t.a.length<=1000/\∀ y∈t.a,y.1.length<=10000/\y.2.length<=10000
theorem FitK.text {t:Tk}(h:FitK t):FitN (textNd t.d):=⟨by simp[textNd],h.2.1,by simp[textNd],by simp[textNd],fun y hy=>by simp[textNd]at hy⟩
theorem FitK.note {t:Tk}(h:FitK t):FitN (noteN t.d):=⟨by simp[noteN],h.2.1,by simp[noteN],by simp[noteN],fun y hy=>by simp[noteN]at hy⟩
theorem FitK.elem {t:Tk}(h:FitK t)(p:Bool):FitN (elemN p t.n t.a):=⟨h.1,by simp[elemN],h.2.2.1,by simp[elemN],h.2.2.2⟩
theorem refVoid_hid (x:ByteArray)(b:Bool)(h:voidM x.data.toList=b):Hid (∀ W,Calls Tryz.prog 25 #[.string x] W fun e w'=>e=.returned (.bool b)/\w'=W):=Lib.hid fun W=>by rw[<- h];exact refVoid_any x W
theorem lay_o (k:Wk)(x:Nd):(layW k x).1.o=k.o/\(layW k x).1.f=k.f:=by
 unfold layW;split
 · exact⟨rfl,rfl⟩
 · split<;>exact⟨rfl,rfl⟩
theorem token_hid (k:Wk)(p:Bool)(Q B:Nat)(t:Tk)(at_:Nat)(hf:FitD k.D)(ht:FitK t)(tp:Nat)(r:List Nat)(ho:k.o=tp :: r)(hr:r.length<=100)(hl:k.f.length<=1000000)(hlt:∀ a∈k.o,a<k.D.length):Hid (∀ W av,WkI W Q B k p->AtIn W av t.a->Calls Tryz.prog 51 #[.pointer (some ⟨Q,0,none⟩),tokV t av,.int .i64 (at_:Int)] W fun e w'=>e=.returned (.tuple #[])/\WkI w' Q B (tokW p k t at_) p/\Below B W w'):=Lib.hid fun w av h hat=>by
 obtain⟨X,hX⟩:=text_of t.n;obtain⟨D,hD⟩:=text_of t.d;obtain⟨aa,ac,rfl⟩:=hat.form;have e0:strV []=.string ⟨#[]⟩:=rfl
 have C1:∀ W av kv,WkI W Q B k p->AtIn W av []->IntIn W kv []->Calls Tryz.prog 86 #[.pointer (some ⟨Q,0,none⟩),.agg #[.int .i64 3,.string ⟨#[]⟩,.string D,av,.int .i64 0,kv,.bool false,.bool false]] W fun e w'=>e=.returned (.int .i64 ((layW k (textNd t.d)).2:Int))/\WkI w' Q B (layW k (textNd t.d)).1 p/\Below B W w'/\Kp (fun j _=>j=Q) W w':=by
  have c:=(laidW_hid k p Q B (textNd t.d) hf ht.text tp r ho (by omega)).out;unfold nodeV at c;rw[show strV (textNd t.d).n=.string ⟨#[]⟩from e0,show strV (textNd t.d).d=.string D from strV_of hD]at c;exact c
 have C4:∀ W av kv,WkI W Q B k p->AtIn W av []->IntIn W kv []->Calls Tryz.prog 86 #[.pointer (some ⟨Q,0,none⟩),.agg #[.int .i64 4,.string ⟨#[]⟩,.string D,av,.int .i64 0,kv,.bool false,.bool false]] W fun e w'=>e=.returned (.int .i64 ((layW k (noteN t.d)).2:Int))/\WkI w' Q B (layW k (noteN t.d)).1 p/\Below B W w'/\Kp (fun j _=>j=Q) W w':=by
  have c:=(laidW_hid k p Q B (noteN t.d) hf ht.note tp r ho (by omega)).out;unfold nodeV at c;rw[show strV (noteN t.d).n=.string ⟨#[]⟩from e0,show strV (noteN t.d).d=.string D from strV_of hD]at c;exact c
 have C2:∀ W av kv,WkI W Q B k p->AtIn W av t.a->IntIn W kv []->Calls Tryz.prog 86 #[.pointer (some ⟨Q,0,none⟩),.agg #[.int .i64 2,.string X,.string ⟨#[]⟩,av,.int .i64 0,kv,.bool p,.bool false]] W fun e w'=>e=.returned (.int .i64 ((layW k (elemN p t.n t.a)).2:Int))/\WkI w' Q B (layW k (elemN p t.n t.a)).1 p/\Below B W w'/\Kp (fun j _=>j=Q) W w':=by
  have c:=(laidW_hid k p Q B (elemN p t.n t.a) hf (ht.elem p) tp r ho (by omega)).out;unfold nodeV at c;rw[show strV (elemN p t.n t.a).n=.string X from strV_of hX,show strV (elemN p t.n t.a).d=.string ⟨#[]⟩from e0]at c;exact c
 unfold tokV;rw[strV_of hX,strV_of hD];have HX:=Lib.hid (And.intro hX hD);have hol:k.o.length=r.length+1:=by rw[ho];rfl
 have CE:=end_hid k p Q B X at_ hl (by omega) (by omega) hlt (by have:=hf.1;omega);have HI:=Lib.hid h;have HA:=Lib.hid hat
 have hBw:B<=w.heap.size:=by
  obtain⟨hBQ,_,_,_,_,_,_,_,hx,_⟩:=h;have:=hx.lt;omega
 have al:=(Below.refl w.heap.size w).alloc (Nat.le_refl _) (.cells #[.int .i64 t.k,.string X,.string D,.slice aa t.a.length ac,.bool t.c] 57);have nb:=new_block w (.cells #[.int .i64 t.k,.string X,.string D,.slice aa t.a.length ac,.bool t.c] 57);have h1:=h.below al;have ha1:=AtIn.below hat al;generalize hw1:w.alloc (.cells #[.int .i64 t.k,.string X,.string D,.slice aa t.a.length ac,.bool t.c] 57)=w1 at al nb h1 ha1;have n0:=cell_of nb 0;have n1:=cell_of nb 1;have n2:=cell_of nb 2;have n3:=cell_of nb 3;have n4:=cell_of nb 4;have HW:=Lib.hid (And.intro h1 (And.intro ha1 (And.intro nb (al.mono hBw))));clear h hat hX hD e0 al nb h1 ha1 HA;replace C1:=Lib.hid C1;replace C4:=Lib.hid C4;replace C2:=Lib.hid C2
 by_cases k1:t.k=1
 · have HQ:Hid (tokW p k t at_=(layW k (textNd t.d)).1):=Lib.hid (by unfold tokW;rw[if_pos k1])
   rw[k1]at n0 hw1 ⊢
   go_enter Tryz.func51,Tryz.ntmps51
   go_wp2_with fail
   (refine(C1.out _ _ _ HW.out.1 (AtIn.nil _ none 0) (IntIn.nil _ none 0)).mono ?_)
   rintro e w2 ⟨rfl,h2,b2,-⟩;have HF:Hid (WkI w2 Q B (tokW p k t at_) p/\Below B w w2):=Lib.hid ⟨by rw[HQ.out];exact h2,HW.out.2.2.2.trans b2⟩;clear h2 b2
   go_wp2
   go_end0
   exact⟨rfl,HF.out.1,HF.out.2⟩
 by_cases k4:t.k=4
 · have HQ:Hid (tokW p k t at_=(layW k (noteN t.d)).1):=Lib.hid (by unfold tokW;rw[if_neg k1,if_pos k4])
   rw[k4]at n0 hw1 ⊢
   go_enter Tryz.func51,Tryz.ntmps51
   go_wp2_with fail
   (refine(C4.out _ _ _ HW.out.1 (AtIn.nil _ none 0) (IntIn.nil _ none 0)).mono ?_)
   rintro e w2 ⟨rfl,h2,b2,-⟩;have HF:Hid (WkI w2 Q B (tokW p k t at_) p/\Below B w w2):=Lib.hid ⟨by rw[HQ.out];exact h2,HW.out.2.2.2.trans b2⟩;clear h2 b2
   go_wp2
   go_end0
   exact⟨rfl,HF.out.1,HF.out.2⟩
 by_cases k3:t.k=3
 · have HQ:Hid (tokW p k t at_=endW k X.data.toList at_):=Lib.hid (by unfold tokW;rw[if_neg k1,if_neg k4,if_neg (by omega),if_pos k3,HX.out.1])
   rw[k3]at n0 hw1 ⊢
   go_enter Tryz.func51,Tryz.ntmps51
   go_wp2_with fail
   (refine(CE.out _ HW.out.1).mono ?_)
   rintro e w2 ⟨rfl,h2,b2⟩;have HF:Hid (WkI w2 Q B (tokW p k t at_) p/\Below B w w2):=Lib.hid ⟨by rw[HQ.out];exact h2,HW.out.2.2.2.trans b2⟩;clear h2 b2
   go_wp2
   go_end0
   exact⟨rfl,HF.out.1,HF.out.2⟩
 by_cases k2:t.k=2
 case neg =>
  have HQ:Hid (tokW p k t at_=k):=Lib.hid (by unfold tokW;rw[if_neg k1,if_neg k4,if_neg k2,if_neg k3]);have g1:(t.k==1)=false:=by simpa using k1
  have g2:(t.k==2)=false:=by simpa using k2
  have g3:(t.k==3)=false:=by simpa using k3
  have g4:(t.k==4)=false:=by simpa using k4
  have HF:Hid (WkI w1 Q B (tokW p k t at_) p/\Below B w w1):=Lib.hid ⟨by rw[HQ.out];exact HW.out.1,HW.out.2.2.2⟩;generalize t.k=tk at *;clear HQ
  go_enter Tryz.func51,Tryz.ntmps51
  go_wp2
  go_end0
  exact⟨rfl,HF.out.1,HF.out.2⟩
 have HL:=lay_o k (elemN p t.n t.a);have HQ:Hid (tokW p k t at_=if (layW k (elemN p t.n t.a)).1.b≠0\/t.c=true\/voidM t.n=true then (layW k (elemN p t.n t.a)).1 else if 30<=k.o.length then { (layW k (elemN p t.n t.a)).1 with f:=k.f++[(161,at_)] } else { (layW k (elemN p t.n t.a)).1 with o:=(layW k (elemN p t.n t.a)).2 :: k.o }):=Lib.hid (by unfold tokW;rw[if_neg k1,if_neg k4,if_pos k2]);obtain⟨k',hk'⟩:∃ k',(layW k (elemN p t.n t.a)).1=k':=⟨_,rfl⟩;obtain⟨id,hid⟩:∃ id,(layW k (elemN p t.n t.a)).2=id:=⟨_,rfl⟩;rw[hk']at HL HQ C2;rw[hid]at HQ C2;clear hk' hid;obtain⟨b0,hb0⟩:=(show ∃ b0,voidM t.n=b0 from⟨_,rfl⟩);have CV:=refVoid_hid X b0 (by rw[HX.out.1];exact hb0);rw[hb0]at HQ
 have c4:w1.cell? ⟨Q,4,none⟩=some (.bool p):=by
  obtain⟨_,_,_,_,_,_,_,_,hx,_⟩:=HW.out.1;exact hx.c4
 rw[k2]at n0 hw1 HW ⊢;clear C1 C4 CE
 have hQR:Q<w.heap.size:=by
  obtain⟨_,_,_,_,_,_,_,_,hx,_⟩:=HI.out;exact hx.lt
 obtain⟨R,hR⟩:∃ R,w.heap.size=R:=⟨_,rfl⟩;rw[hR]at n0 n1 n2 n3 n4 HW hQR;have hd:=HW.out.1.below (Below.refl _ _).drew;have ha:=AtIn.below HW.out.2.1 (Below.refl w1.heap.size w1).drew;have nbd:w1.drew.heap[R]? = some (.cells #[.int .i64 2,.string X,.string D,.slice aa t.a.length ac,.bool t.c] 57 (0,0)):=HW.out.2.2.1;have HK:=Lib.hid (And.intro hd (And.intro ha nbd));clear hd ha nbd
 go_enter Tryz.func51,Tryz.ntmps51
 go_wp2_with fail
 clear hw1;replace hR:=Lib.hid hR;have S0:w1.drew.cell? ⟨R,1,none⟩=some (.string X)/\w1.drew.cell? ⟨R,3,none⟩=some (.slice aa t.a.length ac)/\w1.drew.cell? ⟨Q,4,none⟩=some (.bool p):=⟨n1,n3,c4⟩
 go_region_held3 (fun w'=>w'.cell? ⟨R,1,none⟩=some (.string X)/\w'.cell? ⟨R,3,none⟩=some (.slice aa t.a.length ac)/\w'.cell? ⟨Q,4,none⟩=some (.bool p)) (first | assumption | fail) (first
  | (go_at_call 86
     (with_reducible refine(C2.out _ _ _ HK.out.1 HK.out.2.1 (IntIn.nil _ none 0)).mono ?_)
     rintro e w2 ⟨rfl,h2,b2,kq⟩;have nb2:=kq.cells HK.out.2.2 (fun e=>by have e1:R=Q:=e;omega)
     have S2:w2.cell? ⟨R,1,none⟩=some (.string X)/\w2.cell? ⟨R,3,none⟩=some (.slice aa t.a.length ac)/\w2.cell? ⟨Q,4,none⟩=some (.bool p):=⟨cell_of nb2 1,cell_of nb2 3,by
      obtain⟨_,_,_,_,_,_,_,_,hx,_⟩:=h2
      exact hx.c4⟩
     clear kq))
 obtain⟨hBQ,dv2,ov2,fv2,A2,K2,L2,T2,x2,o2⟩:=h2;have q3:=x2.c3;have m1:=cell_of nb2 1;have m4:=cell_of nb2 4;have f1:=x2.free 1;have c1:=x2.c1;have hx2l:=x2.lt;have hB2:Below B w w2:=HW.out.2.2.2.drew.trans b2;have hO2:k'.o.length=r.length+1:=by rw[HL.1];exact hol
 obtain⟨go,oc,rfl⟩:∃ go oc,ov2=.slice (some ⟨go,0,none⟩) k'.o.length oc:=by
  rcases rowForms o2.o with ⟨_,e⟩ | ⟨g,c,e⟩
  · omega
  · exact⟨g,c,e⟩
 have HE:=Lib.hid (show WkE w2 Q B k' p dv2 (.slice (some ⟨go,0,none⟩) k'.o.length oc) A2 K2 L2 T2 from⟨hBQ,fv2,x2,o2⟩);have HB2:=Lib.hid hB2;have CF:=failE_hid k' p Q B 161 at_ (by rw[HL.2];exact hl) dv2 (.slice (some ⟨go,0,none⟩) k'.o.length oc) A2 K2 L2 T2;have hf2:=HL.2;have ho2:=HL.1;replace HL:=Lib.hid HL;obtain⟨M,hM⟩:∃ M,k'.o.length=M:=⟨_,rfl⟩;rw[hM]at c1 CF HE hO2;rw[<- ho2,hM,<- hf2]at HQ;replace hM:=Lib.hid hM;have hMl:M<=101:=by omega
 clear hO2 hol;clear S0 S2 nb2 b2 hB2 hf2 ho2 n0 n1 n2 n3 n4 c4 C2 x2 o2
 have HP:Hid (k'.b≠0\/t.c=true\/b0=true->WkI w2 Q B (tokW p k t at_) p/\Below B w w2):=Lib.hid fun h=>by
  rw[HQ.out,if_pos h];exact⟨HE.out.i,HB2.out⟩
 generalize htc:t.c=tc at m4 HQ HP ⊢;replace htc:=Lib.hid htc
 by_cases hb:k'.b=0
 case neg =>
  have g1:(k'.b != 0)=true:=by rw[bne_iff_ne];exact hb
  have HF:=Lib.hid (HP.out (.inl hb));clear HP HQ
  go_wp2
  exact bodyPost_ret (v := .tuple #[]) (by simp[results,Tryz.results51,go_sem]) rfl ⟨rfl,HF.out.1,HF.out.2⟩
 rw[hb]at q3
 cases tc with
 | true =>
   have HF:=Lib.hid (HP.out (.inr (.inl rfl)));clear HP HQ
   go_wp2
   exact bodyPost_ret (v := .tuple #[]) (by simp[results,Tryz.results51,go_sem]) rfl ⟨rfl,HF.out.1,HF.out.2⟩
 | false =>
   cases b0 with
   | true =>
     have HF:=Lib.hid (HP.out (.inr (.inr rfl)));clear HP HQ
     go_wp2_with fail
     (refine(CV.out _).mono ?_)
     rintro e w3 ⟨rfl,hw3⟩;rw[hw3];clear hw3
     go_wp2
     exact bodyPost_ret (v := .tuple #[]) (by simp[results,Tryz.results51,go_sem]) rfl ⟨rfl,HF.out.1,HF.out.2⟩
   | false =>
     clear HP;have HQ2:=HQ.out;rw[if_neg (by simp[hb])]at HQ2;replace HQ2:=Lib.hid HQ2;clear HQ
     go_wp2_with fail
     (refine(CV.out _).mono ?_)
     rintro e w3 ⟨rfl,hw3⟩;rw[hw3];clear hw3
     by_cases h30:30<=M
     · have z30:(30:Int)<=(M:Int):=by omega
       go_wp2_with fail
       (refine(CF.out _ HE.out).mono ?_)
       rintro e w4 ⟨rfl,h4,b4⟩
       have HF:Hid (WkI w4 Q B (tokW p k t at_) p/\Below B w w4):=Lib.hid (by
        rw[HQ2.out,if_pos h30]
        exact⟨h4.i,HB2.out.trans b4⟩)
       clear h4 b4 HQ2
       go_wp2
       exact bodyPost_ret (v := .tuple #[]) (by simp[results,Tryz.results51,go_sem]) rfl ⟨rfl,HF.out.1,HF.out.2⟩
     · have z30:¬ (30:Int)<=(M:Int):=by omega
       have al:=(Below.refl w2.heap.size w2).alloc (Nat.le_refl _) (.cells #[.int .i64 (id:Int)] 3);have hro:=RowIn.made w2 #[.int .i64 (id:Int)] 3 1 1 rfl (fun x hx=>by simp at hx;rw[hx];rfl);obtain⟨hBQ,fv3,x3,o3⟩:=HE.out.below al;have hxl:=x3.lt;have f3:=x3.free 1;have c3:=x3.c1;obtain⟨i0,hi3,hz0,hz1,hz2⟩:=info_parts Tinfo3;have H5:=Lib.hid (And.intro hro (And.intro x3 (And.intro o3 al)));have hrow:=o3.o;rw[hM.out]at hrow;replace hrow:=Lib.hid hrow;clear al hro x3 o3
       go_wp2_with (at_builtin
                    refine wpList_append_rowG rfl _ _ 37 3 i0 (.int .i64 0) 1 8 Tryz.underlying37 hi3 hz0 hz1 hz2 rfl (by decide) rfl B _ _ _ rfl hrow.out _ 1 _ rfl H5.out.1 (by unfold maxLen;omega) (by omega) (by omega) ?_;intro v6 w6 hown6 hgrow6 hat6;have G6:=H5.out.2.2.1.push (n:=id) hgrow6 (by rw[hM.out];exact hown6) hat6;have x6:=H5.out.2.1.kp G6.2 (fun e=>absurd e.1 (by decide));have f6:=x6.free 1;have d6:=x6.c1
                    have HF:Hid (WkI (w6.setCell ⟨Q,1,none⟩ v6) Q B (tokW p k t at_) p/\Below B w (w6.setCell ⟨Q,1,none⟩ v6)):=Lib.hid (by
                     rw[HQ2.out,if_neg h30]
                     exact⟨⟨hBQ,_,_,_,_,_,_,_,x6.set1 v6,G6.1.setQ x6⟩,((HB2.out.trans (H5.out.2.2.2.mono (by omega))).trans (G6.2.below (fun _ _ e=>e.2) (by omega))).trans (x6.bel hBQ)⟩)
                    obtain⟨va,vc,rfl⟩:=row_form hown6
                    clear hown6 hgrow6 hat6 G6 x6)
       go_end0
       exact⟨rfl,HF.out.1,HF.out.2⟩
end Go.Proofs.YtlnfbjbagmfpiaaGreatDoor.Dm
namespace Go.Proofs.YtlnfbjbagmfpiaaGreatDoor.Dm
open Go.RowKit
def TksD (w:World)(v:Value)(L:List Tk):Prop:=∃ a c,v=.slice a L.length c/\∀ i (h:i<L.length),∃ B off av,a=some ⟨B,off,none⟩/\w.cell? ⟨B,off+i * 5,none⟩=some (.int .i64 L[i].k)/\w.cell? ⟨B,off+i * 5+1,none⟩=some (strV L[i].n)/\w.cell? ⟨B,off+i * 5+2,none⟩=some (strV L[i].d)/\w.cell? ⟨B,off+i * 5+3,none⟩=some av/\w.cell? ⟨B,off+i * 5+4,none⟩=some (.bool L[i].c)/\AtIn w av L[i].a
theorem TksD.below {w w':World}{v:Value}{L:List Tk}(h:TksD w v L)(b:Below w.heap.size w w'):TksD w' v L:=by
 obtain⟨a,c,h1,h2⟩:=h;refine⟨a,c,h1,fun i hi => ?_⟩;obtain⟨B,off,av,e,c0,c1,c2,c3,c4,c5⟩:=h2 i hi;exact⟨B,off,av,e,(b.cell (lt_of_cell c0)).trans c0,(b.cell (lt_of_cell c1)).trans c1,(b.cell (lt_of_cell c2)).trans c2,(b.cell (lt_of_cell c3)).trans c3,(b.cell (lt_of_cell c4)).trans c4,AtIn.below c5 b⟩
theorem end_keep (k:Wk)(nm:List UInt8)(i:Nat):(endW k nm i).D=k.D/\(endW k nm i).f.length<=k.f.length+1:=by
 unfold endW;split
 · refine⟨rfl,?_⟩
   show(if _ then _ else _:List Fl).length<=_;split
   · simp
   · omega
 · exact⟨rfl,by simp⟩
theorem tok_fails (p:Bool)(k:Wk)(t:Tk)(i:Nat):(tokW p k t i).f.length<=k.f.length+1:=by
 unfold tokW;split
 · rw[(lay_o k _).2];omega
 · split
   · rw[(lay_o k _).2];omega
   · split
     · split
       · rw[(lay_o k _).2];omega
       · split
         · simp
         · show(layW k (elemN p t.n t.a)).1.f.length<=_
           rw[(lay_o k _).2];omega
     · split
       · exact(end_keep k t.n i).2
       · omega
theorem tok_fit (p:Bool)(k:Wk)(t:Tk)(i:Nat)(hf:FitD k.D)(ht:FitK t):FitD (tokW p k t i).D:=by
 unfold tokW;split
 · exact fitLay hf ht.text
 · split
   · exact fitLay hf ht.note
   · split
     · split
       · exact fitLay hf (ht.elem p)
       · split
         · exact fitLay hf (ht.elem p)
         · exact fitLay hf (ht.elem p)
     · split
       · rw[(end_keep k t.n i).1];exact hf
       · exact hf
structure Mid (p:Bool) (n:Nat) (k0:Wk) (l:List Tk) (k:Wk) (u:Nat):Prop where
 run:runW p k0 l 0=runW p k (l.drop u) u
 fit:FitD k.D
 snd:k.b=0->Snd n k
 f:k.f.length<=u
theorem Mid.next {p:Bool}{n:Nat}{k0:Wk}{l:List Tk}{k:Wk}{u:Nat}(h:Mid p n k0 l k u)(hu:u<l.length)(hb:k.b=0)(ht:FitK l[u]):Mid p n k0 l (tokW p k l[u] u) (u+1):=by
 refine⟨?_,tok_fit p k _ u h.fit ht,fun hb2=>(h.snd hb).tok p _ u hb2,by have:=tok_fails p k l[u] u;have:=h.f;omega⟩;rw[h.run,List.drop_eq_getElem_cons hu,runW,if_neg (by simp[hb])]
theorem Mid.stop {p:Bool}{n:Nat}{k0:Wk}{l:List Tk}{k:Wk}{u:Nat}(h:Mid p n k0 l k u)(hs:k.b≠0\/l.length<=u):runW p k0 l 0=k:=by
 rw[h.run];rcases hs with hs | hs
 · exact run_bad p _ _ _ hs
 · rw[List.drop_of_length_le hs]
   rfl
end Go.Proofs.YtlnfbjbagmfpiaaGreatDoor.Dm
namespace Go.Proofs.YtlnfbjbagmfpiaaGreatDoor.Dm
open Go.RowKit
theorem into_e1 {d:List Nd}{n:Int}{l:List Tk}{p:Bool}(h:checkM d≠0):intoM d n l p=([],[],checkM d):=by unfold intoM;rw[if_pos h]
theorem into_e2 {d:List Nd}{n:Int}{l:List Tk}{p:Bool}(h:checkM d=0)(h2:¬ (0<=n/\n<(d.length:Int)/\holds d n.toNat=true)):intoM d n l p=([],[],170):=by unfold intoM;rw[if_neg (by simp[h]),if_pos h2]
theorem into_run {d:List Nd}{n:Nat}{l:List Tk}{p:Bool}{k:Wk}(h:checkM d=0)(hn:n<d.length)(hh:holds d n=true)(hr:runW p ⟨d,[n],[],0⟩ l 0=k):intoM d (n:Int) l p=if k.b≠0 then ([],[],k.b) else (k.D,k.f++if 1<k.o.length then [(162,l.length)] else [],0):=by
 unfold intoM;rw[if_neg (by simp[h]),if_neg (fun h2=>h2 ⟨by omega,by omega,by rw[Int.toNat_natCast];exact hh⟩),Int.toNat_natCast,hr]
theorem into_hid (D:List Nd)(hf:FitD D)(n:Int)(l:List Tk)(hl:l.length<=100000)(ht:∀ t∈l,FitK t)(p:Bool):Hid (∀ W sl A K lv,DocIn W sl D A K->TksD W lv l->Calls Tryz.prog 16 #[.agg #[sl],.int .i64 n,lv,.bool p] W fun e w'=>∃ sl' fv,e=.returned (.tuple #[.agg #[sl'],fv,.int .i64 (intoM D n l p).2.2])/\OwnX w' W.heap.size sl' (intoM D n l p).1/\w'.ownsRow W.heap.size 93 2 fv (intoM D n l p).2.1.length (flD (intoM D n l p).2.1)/\Below W.heap.size W w'):=Lib.hid fun w sl A K lv hd htk=>by
 obtain⟨a,c,rfl⟩:=hd.form;obtain⟨la,lc,rfl,-⟩:=(show ∃ a c,lv=.slice a l.length c/\True from by obtain⟨a,c,h,_⟩:=htk;exact⟨a,c,h,trivial⟩);have CK:=check_hid D hf;have CO:=own_hid D hf;have hfl:=hf.1;have al1:=(Below.refl w.heap.size w).alloc (Nat.le_refl _) (.cells #[.slice a D.length c] 24);have hb1:=new_block w (.cells #[.slice a D.length c] 24);have hs1:(w.alloc (.cells #[.slice a D.length c] 24)).heap.size=w.heap.size+1:=by simp
 generalize hw1:w.alloc (.cells #[.slice a D.length c] 24)=w1 at al1 hb1 hs1;have al2:=(Below.refl w1.heap.size w1).alloc (Nat.le_refl _) (.cells #[.slice none 0 0] 24);have hb2:=new_block w1 (.cells #[.slice none 0 0] 24);rw[hs1]at hb2;generalize hw2:w1.alloc (.cells #[.slice none 0 0] 24)=w2 at al2 hb2;have hb1':=(al2.block _ (lt_of_block hb1)).trans hb1;have hbel:=al1.trans (al2.mono (by omega));have e0:=cell_of hb1' 0;have H2:=Lib.hid (And.intro hb1' (And.intro hb2 hbel));have HD:=Lib.hid hd;have HF:=Lib.hid hf;have HTk:=Lib.hid htk;clear hd al1 hb1 al2 hb2 hb1' hbel hf htk
 go_enter Tryz.func16,Tryz.ntmps16
 go_wp2_with fail
 (refine(CK.out _ _ _ _ (HD.out.below H2.out.2.2)).mono ?_)
 rintro e w3 ⟨rfl,b3⟩;clear hw1 hw2 hs1 e0 CK;have H3:=Lib.hid (And.intro ((b3.block _ (lt_of_block H2.out.1)).trans H2.out.1) (And.intro ((b3.block _ (lt_of_block H2.out.2.1)).trans H2.out.2.1) (H2.out.2.2.trans (b3.mono H2.out.2.2.size))));clear b3 H2;have e0:=cell_of H3.out.1 0
 by_cases hc:checkM D=0
 case neg =>
  have g1:(checkM D != 0)=true:=by rw[bne_iff_ne];exact hc
  have HE:=Lib.hid (into_e1 (n:=n) (l:=l) (p:=p) hc);clear CO;have o2:=open_of H3.out.2.1 0;have r2:=cell_of H3.out.2.1 0;have q2:=heap_setCell_same w3 (w.heap.size+1) 0 _ _ _ (.slice none 0 0) H3.out.2.1;have c0:(w3.setCell ⟨w.heap.size+1,0,none⟩ (.slice none 0 0)).cell? ⟨w.heap.size+1,0,none⟩=some (.slice none 0 0):=by rw[cell_of q2];rfl
  have HB:Hid (Below w.heap.size w (w3.setCell ⟨w.heap.size+1,0,none⟩ (.slice none 0 0))):=Lib.hid (H3.out.2.2.trans ((Kp.of_set (P:=fun j _=>j=w.heap.size+1) H3.out.2.1 _ rfl).below (fun j t e=>by have e1:j=w.heap.size+1:=e;omega) H3.out.2.2.size));clear q2
  go_wp2
  exact bodyPost_ret (v := .tuple #[.agg #[.slice none 0 0],.slice none 0 0,.int .i64 (checkM D)]) (by simp[results,Tryz.results16,go_sem,c0]) rfl (by rw[HE.out];exact⟨_,_,rfl,⟨fun _ => .slice none 0 0,fun _ => .slice none 0 0,OwnD.nil _ _ _ _⟩,World.ownsRow_nil _ _ _ _,HB.out⟩)
 have HRt:=Lib.hid (check_right.1 hc);have hc0:=hc;rw[hc]
 by_cases h1:n<0
 · skip
   have HE:=Lib.hid (into_e2 (n:=n) (l:=l) (p:=p) hc0 (fun h=>by have:=h.1;omega));clear CO;have o2:=open_of H3.out.2.1 0;have r2:=cell_of H3.out.2.1 0;have q2:=heap_setCell_same w3 (w.heap.size+1) 0 _ _ _ (.slice none 0 0) H3.out.2.1;have c0:(w3.setCell ⟨w.heap.size+1,0,none⟩ (.slice none 0 0)).cell? ⟨w.heap.size+1,0,none⟩=some (.slice none 0 0):=by rw[cell_of q2];rfl
   have HB:Hid (Below w.heap.size w (w3.setCell ⟨w.heap.size+1,0,none⟩ (.slice none 0 0))):=Lib.hid (H3.out.2.2.trans ((Kp.of_set (P:=fun j _=>j=w.heap.size+1) H3.out.2.1 _ rfl).below (fun j t e=>by have e1:j=w.heap.size+1:=e;omega) H3.out.2.2.size));clear q2
   go_wp2
   exact bodyPost_ret (v := .tuple #[.agg #[.slice none 0 0],.slice none 0 0,.int .i64 170]) (by simp[results,Tryz.results16,go_sem,c0]) rfl (by rw[HE.out];exact⟨_,_,rfl,⟨fun _ => .slice none 0 0,fun _ => .slice none 0 0,OwnD.nil _ _ _ _⟩,World.ownsRow_nil _ _ _ _,HB.out⟩)
 by_cases h2:(D.length:Int)<=n
 · skip
   have HE:=Lib.hid (into_e2 (n:=n) (l:=l) (p:=p) hc0 (fun h=>by have:=h.2.1;omega));clear CO;have o2:=open_of H3.out.2.1 0;have r2:=cell_of H3.out.2.1 0;have q2:=heap_setCell_same w3 (w.heap.size+1) 0 _ _ _ (.slice none 0 0) H3.out.2.1;have c0:(w3.setCell ⟨w.heap.size+1,0,none⟩ (.slice none 0 0)).cell? ⟨w.heap.size+1,0,none⟩=some (.slice none 0 0):=by rw[cell_of q2];rfl
   have HB:Hid (Below w.heap.size w (w3.setCell ⟨w.heap.size+1,0,none⟩ (.slice none 0 0))):=Lib.hid (H3.out.2.2.trans ((Kp.of_set (P:=fun j _=>j=w.heap.size+1) H3.out.2.1 _ rfl).below (fun j t e=>by have e1:j=w.heap.size+1:=e;omega) H3.out.2.2.size));clear q2
   go_wp2
   exact bodyPost_ret (v := .tuple #[.agg #[.slice none 0 0],.slice none 0 0,.int .i64 170]) (by simp[results,Tryz.results16,go_sem,c0]) rfl (by rw[HE.out];exact⟨_,_,rfl,⟨fun _ => .slice none 0 0,fun _ => .slice none 0 0,OwnD.nil _ _ _ _⟩,World.ownsRow_nil _ _ _ _,HB.out⟩)
 obtain⟨n,rfl⟩:∃ m:Nat,n=(m:Int):=⟨n.toNat,by omega⟩;have hn:n<D.length:=by omega
 have zn:(n:Int)<(D.length:Int):=by omega
 have zn0:(0:Int)<=(n:Int):=by omega
 obtain⟨B',off',hB,q0,-⟩:=(HD.out.below H3.out.2.2).node hn
 cases hB
 have hkh:holds D n=true↔D[n].k<=2:=by
  have hm:=HRt.out.may n _ (List.getElem?_eq_getElem hn);rw[holds_some (List.getElem?_eq_getElem hn)];unfold mayM at hm;unfold holdM
  by_cases e1:D[n].k=1
  · simp[e1]
  · by_cases e2:D[n].k=2
    · simp[e2]
    · have h3:D[n].k=3\/D[n].k=4:=by
       rw[if_neg e1]at hm
       by_cases e3:D[n].k=3\/D[n].k=4
       · exact e3
       · rw[if_neg e3,if_neg e2]at hm
         cases hm
      rcases h3 with h3 | h3<;>simp[h3]
 by_cases hk:2<D[n].k
 · skip
   have HE:=Lib.hid (into_e2 (n:=(n:Int)) (l:=l) (p:=p) hc0 (fun h=>by have h3:=h.2.2;rw[Int.toNat_natCast,hkh]at h3;omega));clear CO;have o2:=open_of H3.out.2.1 0;have r2:=cell_of H3.out.2.1 0;have q2:=heap_setCell_same w3 (w.heap.size+1) 0 _ _ _ (.slice none 0 0) H3.out.2.1;have c0:(w3.setCell ⟨w.heap.size+1,0,none⟩ (.slice none 0 0)).cell? ⟨w.heap.size+1,0,none⟩=some (.slice none 0 0):=by rw[cell_of q2];rfl
   have HB:Hid (Below w.heap.size w (w3.setCell ⟨w.heap.size+1,0,none⟩ (.slice none 0 0))):=Lib.hid (H3.out.2.2.trans ((Kp.of_set (P:=fun j _=>j=w.heap.size+1) H3.out.2.1 _ rfl).below (fun j t e=>by have e1:j=w.heap.size+1:=e;omega) H3.out.2.2.size));clear q2
   go_wp2
   exact bodyPost_ret (v := .tuple #[.agg #[.slice none 0 0],.slice none 0 0,.int .i64 170]) (by simp[results,Tryz.results16,go_sem,c0]) rfl (by rw[HE.out];exact⟨_,_,rfl,⟨fun _ => .slice none 0 0,fun _ => .slice none 0 0,OwnD.nil _ _ _ _⟩,World.ownsRow_nil _ _ _ _,HB.out⟩)
 have hh:holds D n=true:=hkh.2 (by omega);generalize D[n].k=xk at q0 hk;clear hkh
 go_wp2_with fail
 (refine(CO.out _ _ _ _ (HD.out.below H3.out.2.2)).mono ?_)
 rintro e w4 ⟨sl',rfl,⟨A4,K4,o4⟩,b4⟩;obtain⟨oa,oc,rfl⟩:=o4.form;have H4:=Lib.hid (And.intro ((b4.block _ (lt_of_block H3.out.1)).trans H3.out.1) (And.intro ((b4.block _ (lt_of_block H3.out.2.1)).trans H3.out.2.1) (H3.out.2.2.trans (b4.mono H3.out.2.2.size))));have b3s:=H3.out.2.2.size;have b34:=b4.size;have b3l:=lt_of_block H3.out.2.1;have H4k:=Lib.hid (And.intro H4.out (b4.mono (Nat.le_refl _)));clear q0 CO e0;have al5:=(Below.refl w4.heap.size w4).alloc (Nat.le_refl _) (.cells #[.int .i64 (n:Int)] 3);have ro5:=row_made w4 #[.int .i64 (n:Int)] 3 1 1 rfl (by decide);have hs5:(w4.alloc (.cells #[.int .i64 (n:Int)] 3)).heap.size=w4.heap.size+1:=by simp
 have o5:=o4.below al5;have ht5:=o4.blk;generalize hw5:w4.alloc (.cells #[.int .i64 (n:Int)] 3)=w5 at al5 ro5 hs5 o5;have al6:=(Below.refl w5.heap.size w5).alloc (Nat.le_refl _) (.cells #[.slice oa D.length oc,.slice (some ⟨w4.heap.size,0,none⟩) 1 1,.slice none 0 0,.int .i64 0,.bool p] 89);have nb6:=new_block w5 (.cells #[.slice oa D.length oc,.slice (some ⟨w4.heap.size,0,none⟩) 1 1,.slice none 0 0,.int .i64 0,.bool p] 89);generalize hw6:w5.alloc (.cells #[.slice oa D.length oc,.slice (some ⟨w4.heap.size,0,none⟩) 1 1,.slice none 0 0,.int .i64 0,.bool p] 89)=w6 at al6 nb6;obtain⟨k0,hk0⟩:∃ k0:Wk,(⟨D,[n],[],0⟩:Wk)=k0:=⟨_,rfl⟩
 have W6:WkI w6 w5.heap.size w3.heap.size k0 p:=by
  rw[<- hk0];have b6:=(Below.refl w4.heap.size w4).trans (al5.trans (al6.mono (by omega)));exact⟨by omega,_,_,_,A4,K4,w3.heap.size,w4.heap.size,nb6,⟨o4.below b6,ht5,row_low (row_below ro5 al6) (by omega),World.ownsRow_nil _ _ _ _,fun g hg=>by cases hg;exact .inr (Nat.le_refl _),Nat.le_refl _,by have:=al6.size;omega⟩⟩
 have bb:Below w3.heap.size w3 w6:=b4.trans ((al5.mono b34).trans (al6.mono (by omega)));have hM0:Mid p n k0 l k0 0:=⟨rfl,by rw[<- hk0];exact HF.out,fun _=>by rw[<- hk0];exact start_snd HRt.out hn hh,by rw[<- hk0];exact Nat.zero_le _⟩;obtain⟨Q,hQ⟩:∃ Q,w5.heap.size=Q:=⟨_,rfl⟩;rw[hQ]at W6;obtain⟨B0,hB0⟩:∃ B0,w3.heap.size=B0:=⟨_,rfl⟩;rw[hB0]at W6 bb;have HI:=Lib.hid (And.intro W6 (And.intro bb hM0));replace hk0:=Lib.hid hk0;have hR1:w.heap.size+1<B0:=by omega
 have HT3:=Lib.hid (HTk.out.below H3.out.2.2);clear ro5 o5 ht5 o4 al5 nb6 al6 W6 bb hM0 H4 H4k b4 b34 hs5;replace hB0:=Lib.hid hB0
 go_wp2
 clear hw5 hw6
 go_loopw [13] (fun i wr=>∃(u:Nat) (k:Wk),i=.int .i64 (u:Int)/\u<=l.length/\Hid (WkI wr Q B0 k p/\Below B0 w3 wr/\Mid p n k0 l k u)) (fun i _=>l.length - (intOf i).toNat)
 case atStart=>exact⟨0,k0,rfl,Nat.zero_le _,HI⟩
 case round =>
  obtain⟨u,k,rfl,hu,HJ⟩:=hrel;clear HI
  have q3:wr.cell? ⟨Q,3,none⟩=some (.int .i64 k.b):=by
   obtain⟨_,_,_,_,_,_,_,_,hx,_⟩:=HJ.out.1;exact hx.c3
  have hres:wr.heap[w.heap.size+1]? = some (.cells #[.slice none 0 0] 24 (0,0)):=(HJ.out.2.1.block _ hR1).trans H3.out.2.1;have hbw:Below w.heap.size w wr:=H3.out.2.2.trans (HJ.out.2.1.mono (by omega));have HG:=Lib.hid (And.intro hres (And.intro hres hbw));clear hres hbw
  by_cases hlt:u<l.length
  · have zu:(u:Int)<(l.length:Int):=by omega
    have zu0:(0:Int)<=(u:Int):=by omega
    by_cases hb:k.b=0
    · rw[hb]at q3
      obtain⟨tp,r,ho⟩:=(HJ.out.2.2.snd hb).top;have hd30:=(HJ.out.2.2.snd hb).d;rw[ho]at hd30
      have hlo:∀ a∈k.o,a<k.D.length:=fun a ha=>by
       have hc:=(HJ.out.2.2.snd hb).c;rw[ho]at hc ha;exact(hc.lt a ha).1
      have CT:=token_hid k p Q B0 l[u] u HJ.out.2.2.fit (ht _ (List.getElem_mem hlt)) tp r ho (by simp at hd30;omega) (by have:=HJ.out.2.2.f;omega) hlo;have hbd:Below w3.heap.size w3 wr:=by rw[hB0.out];exact HJ.out.2.1
      obtain⟨la',lc',hle,hcs⟩:=HT3.out.below hbd;obtain⟨BL,oL,av,e,t0,t1,t2,t3,t4,t5⟩:=hcs u hlt
      injection hle with hle1 _ hle2
      subst hle1 hle2 e;obtain⟨X,hX⟩:=text_of l[u].n;obtain⟨Y,hY⟩:=text_of l[u].d;unfold tokV at CT;rw[strV_of hX,strV_of hY]at CT;rw[strV_of hX]at t1;rw[strV_of hY]at t2;replace CT:=Lib.hid CT.out;have HA:=Lib.hid t5;have HN:=Lib.hid (HJ.out.2.2.next hlt hb (ht _ (List.getElem_mem hlt)));generalize htk:tokW p k l[u] u=k' at CT HN;generalize l[u].k=tk at CT t0;generalize l[u].c=tc at CT t4;replace HA:=Lib.hid HA.out;clear t5 hX hY htk ho hd30 hlo hbd hcs HG
      go_wp2_with fail
      (refine(CT.out _ _ HJ.out.1 HA.out).mono ?_)
      rintro e w7 ⟨rfl,h7,b7⟩;have HK:=Lib.hid (And.intro h7 (And.intro (HJ.out.2.1.trans b7) HN.out));clear h7 b7 HJ HN
      go_wp2
      go_roundw
      case rel=>exact⟨u+1,k',by go_num,by omega,HK⟩
      case measure=>simp[intOf];omega
    · skip
      have HE:Hid (intoM D (n:Int) l p=([],[],k.b)):=Lib.hid (by rw[into_run (k:=k) hc0 hn hh (by rw[hk0.out];exact HJ.out.2.2.stop (.inl hb)),if_pos hb]);have g5:(k.b==0)=false:=by simpa using hb
      have g6:(k.b != 0)=true:=by rw[bne_iff_ne];exact hb
      have hBQ:=HJ.out.1.1;clear HJ;have o2:=open_of HG.out.2.1 0;have r2:=cell_of HG.out.2.1 0;have q2:=heap_setCell_same wr (w.heap.size+1) 0 _ _ _ (.slice none 0 0) HG.out.2.1;have c0:(wr.setCell ⟨w.heap.size+1,0,none⟩ (.slice none 0 0)).cell? ⟨w.heap.size+1,0,none⟩=some (.slice none 0 0):=by rw[cell_of q2];rfl
      have q3s:(wr.setCell ⟨w.heap.size+1,0,none⟩ (.slice none 0 0)).cell? ⟨Q,3,none⟩=some (.int .i64 k.b):=(World.cell?_of_block (a:=⟨Q,3,none⟩) (heap_setCell_ne wr ⟨w.heap.size+1,0,none⟩ (.slice none 0 0) (show Q≠w.heap.size+1 by omega))).trans q3;have HB:Hid (Below w.heap.size w (wr.setCell ⟨w.heap.size+1,0,none⟩ (.slice none 0 0))):=Lib.hid (HG.out.2.2.trans ((Kp.of_set (P:=fun j _=>j=w.heap.size+1) HG.out.2.1 _ rfl).below (fun j t e=>by have e1:j=w.heap.size+1:=e;omega) HG.out.2.2.size));clear q2
      go_wp2_with fail
      go_big_region
      all_goals
       have c0d:(wr.setCell ⟨w.heap.size+1,0,none⟩ (.slice none 0 0)).drew.cell? ⟨w.heap.size+1,0,none⟩=some (.slice none 0 0):=c0
       go_wp2
       exact bodyPost_ret (v := .tuple #[.agg #[.slice none 0 0],.slice none 0 0,.int .i64 k.b]) (by simp[results,Tryz.results16,go_sem,c0d]) rfl (by rw[HE.out];exact⟨_,_,rfl,⟨fun _ => .slice none 0 0,fun _ => .slice none 0 0,OwnD.nil _ _ _ _⟩,World.ownsRow_nil _ _ _ _,HB.out.drew⟩)
  · obtain rfl:u=l.length:=by omega
    by_cases hb:k.b=0
    case neg =>
     have HE:Hid (intoM D (n:Int) l p=([],[],k.b)):=Lib.hid (by rw[into_run (k:=k) hc0 hn hh (by rw[hk0.out];exact HJ.out.2.2.stop (.inl hb)),if_pos hb]);have g5:(k.b==0)=false:=by simpa using hb
     have g6:(k.b != 0)=true:=by rw[bne_iff_ne];exact hb
     have hBQ:=HJ.out.1.1;clear HJ;have o2:=open_of HG.out.2.1 0;have r2:=cell_of HG.out.2.1 0;have q2:=heap_setCell_same wr (w.heap.size+1) 0 _ _ _ (.slice none 0 0) HG.out.2.1;have c0:(wr.setCell ⟨w.heap.size+1,0,none⟩ (.slice none 0 0)).cell? ⟨w.heap.size+1,0,none⟩=some (.slice none 0 0):=by rw[cell_of q2];rfl
     have q3s:(wr.setCell ⟨w.heap.size+1,0,none⟩ (.slice none 0 0)).cell? ⟨Q,3,none⟩=some (.int .i64 k.b):=(World.cell?_of_block (a:=⟨Q,3,none⟩) (heap_setCell_ne wr ⟨w.heap.size+1,0,none⟩ (.slice none 0 0) (show Q≠w.heap.size+1 by omega))).trans q3;have HB:Hid (Below w.heap.size w (wr.setCell ⟨w.heap.size+1,0,none⟩ (.slice none 0 0))):=Lib.hid (HG.out.2.2.trans ((Kp.of_set (P:=fun j _=>j=w.heap.size+1) HG.out.2.1 _ rfl).below (fun j t e=>by have e1:j=w.heap.size+1:=e;omega) HG.out.2.2.size));clear q2
     go_wp2_with fail
     go_big_region
     all_goals
      have c0d:(wr.setCell ⟨w.heap.size+1,0,none⟩ (.slice none 0 0)).drew.cell? ⟨w.heap.size+1,0,none⟩=some (.slice none 0 0):=c0
      go_wp2
      exact bodyPost_ret (v := .tuple #[.agg #[.slice none 0 0],.slice none 0 0,.int .i64 k.b]) (by simp[results,Tryz.results16,go_sem,c0d]) rfl (by rw[HE.out];exact⟨_,_,rfl,⟨fun _ => .slice none 0 0,fun _ => .slice none 0 0,OwnD.nil _ _ _ _⟩,World.ownsRow_nil _ _ _ _,HB.out.drew⟩)
    rw[hb]at q3;have hst:=HJ.out.2.2.stop (.inr (Nat.le_refl _));have hkf:=HJ.out.2.2.f;obtain⟨hBQ,dv,ov,fv,A5,K5,L5,T5,x5,o5⟩:=HJ.out.1;obtain⟨tp,r,ho⟩:=(HJ.out.2.2.snd hb).top;have hd30:=(HJ.out.2.2.snd hb).d
    obtain⟨go,gc,rfl⟩:∃ go oc,ov=.slice (some ⟨go,0,none⟩) k.o.length oc:=by
     rcases rowForms o5.o with ⟨_,e⟩ | ⟨g,c,e⟩
     · rw[ho]at e;simp at e
     · exact⟨g,c,e⟩
    have hres:=HG.out.1;have hbw:=HG.out.2.2;have c1:=x5.c1;have HE1:=into_run (k:=k) hc0 hn hh (by rw[hk0.out];exact hst);rw[if_neg (by simp[hb])]at HE1;have WE:WkE wr Q B0 k p dv (.slice (some ⟨go,0,none⟩) k.o.length gc) A5 K5 L5 T5:=⟨hBQ,fv,x5,o5⟩;have hB0w:w.heap.size<=B0:=by omega
    have hLL:=o5.l;clear ho
    by_cases hM:1<k.o.length
    · rw[if_pos hM]at HE1
      have HE:=Lib.hid HE1;have CFF:=failE_hid k p Q B0 162 l.length (by omega) dv (.slice (some ⟨go,0,none⟩) k.o.length gc) A5 K5 L5 T5;replace WE:=Lib.hid WE;have HR:=Lib.hid (And.intro hres hbw);have zM:(1:Int)<(k.o.length:Int):=by omega
      clear HE1 x5 o5 hres hbw hst HG HJ
      go_wp2_with fail
      (refine(CFF.out _ WE.out).mono ?_)
      rintro e w8 ⟨rfl,⟨_,fv8,x8,o8⟩,b8⟩;have hres:=(b8.block _ hR1).trans HR.out.1;have hbw:=HR.out.2.trans (b8.mono hB0w);clear WE HR b8 c1 q3;have c0:=x8.c0;have c2:=x8.c2;obtain⟨da,dc,rfl⟩:=o8.d.form;obtain⟨fa,fc,rfl⟩:=row_form o8.f;have u2:=open_of hres 0;have v2:=cell_of hres 0;have q2:=heap_setCell_same w8 (w.heap.size+1) 0 _ _ _ (.slice da k.D.length dc) hres;have c9:(w8.setCell ⟨w.heap.size+1,0,none⟩ (.slice da k.D.length dc)).cell? ⟨w.heap.size+1,0,none⟩=some (.slice da k.D.length dc):=by rw[cell_of q2];rfl
      have HO:Hid (OwnX (w8.setCell ⟨w.heap.size+1,0,none⟩ (.slice da k.D.length dc)) w.heap.size (.slice da k.D.length dc) k.D/\(w8.setCell ⟨w.heap.size+1,0,none⟩ (.slice da k.D.length dc)).ownsRow w.heap.size 93 2 (.slice fa (k.f++[((162:Int),l.length)]).length fc) (k.f++[((162:Int),l.length)]).length (flD (k.f++[((162:Int),l.length)]))/\Below w.heap.size w (w8.setCell ⟨w.heap.size+1,0,none⟩ (.slice da k.D.length dc))):=Lib.hid (by
       have kS:Kp (fun j _=>j=w.heap.size+1) w8 (w8.setCell ⟨w.heap.size+1,0,none⟩ (.slice da k.D.length dc)):=Kp.of_set hres _ rfl
       exact⟨⟨_,_,(o8.d.setDoc hres).low (by have:=o8.l;omega)⟩,row_low (kS.row o8.f fun j hj _ e=>row_ne o8.f hres (by decide) (by rw[hj];exact congrArg _ e)) (by omega),hbw.trans (kS.below (fun j t e=>by have e1:j=w.heap.size+1:=e;omega) hbw.size)⟩)
      have s0:(w8.setCell ⟨w.heap.size+1,0,none⟩ (.slice da k.D.length dc)).cell? ⟨Q,0,none⟩=some (.slice da k.D.length dc):=(World.cell?_of_block (a:=⟨Q,0,none⟩) (heap_setCell_ne w8 ⟨w.heap.size+1,0,none⟩ (.slice da k.D.length dc) (show Q≠w.heap.size+1 by omega))).trans c0;have s2:(w8.setCell ⟨w.heap.size+1,0,none⟩ (.slice da k.D.length dc)).cell? ⟨Q,2,none⟩=some (.slice fa (k.f++[((162:Int),l.length)]).length fc):=(World.cell?_of_block (a:=⟨Q,2,none⟩) (heap_setCell_ne w8 ⟨w.heap.size+1,0,none⟩ (.slice da k.D.length dc) (show Q≠w.heap.size+1 by omega))).trans c2;clear q2 x8 o8 hres hbw
      go_wp2_with fail
      go_big_region
      all_goals
       have c9d:(w8.setCell ⟨w.heap.size+1,0,none⟩ (.slice da k.D.length dc)).drew.cell? ⟨w.heap.size+1,0,none⟩=some (.slice da k.D.length dc):=c9
       go_wp2
       exact bodyPost_ret (v := .tuple #[.agg #[.slice da k.D.length dc],.slice fa (k.f++[((162:Int),l.length)]).length fc,.int .i64 0]) (by simp[results,Tryz.results16,go_sem,c9d]) rfl (by rw[HE.out];exact⟨_,_,rfl,HO.out.1.below (Below.refl _ _).drew,row_below HO.out.2.1 (Below.refl _ _).drew,HO.out.2.2.drew⟩)
    · rw[if_neg hM,List.append_nil]at HE1
      have HE:=Lib.hid HE1;have zM:¬ (1:Int)<(k.o.length:Int):=by omega
      clear HE1 WE hst HG HJ;have c0:=x5.c0;have c2:=x5.c2;obtain⟨da,dc,rfl⟩:=o5.d.form;obtain⟨fa,fc,rfl⟩:=row_form o5.f;have u2:=open_of hres 0;have v2:=cell_of hres 0;have q2:=heap_setCell_same wr (w.heap.size+1) 0 _ _ _ (.slice da k.D.length dc) hres;have c9:(wr.setCell ⟨w.heap.size+1,0,none⟩ (.slice da k.D.length dc)).cell? ⟨w.heap.size+1,0,none⟩=some (.slice da k.D.length dc):=by rw[cell_of q2];rfl
      have HO:Hid (OwnX (wr.setCell ⟨w.heap.size+1,0,none⟩ (.slice da k.D.length dc)) w.heap.size (.slice da k.D.length dc) k.D/\(wr.setCell ⟨w.heap.size+1,0,none⟩ (.slice da k.D.length dc)).ownsRow w.heap.size 93 2 (.slice fa k.f.length fc) k.f.length (flD k.f)/\Below w.heap.size w (wr.setCell ⟨w.heap.size+1,0,none⟩ (.slice da k.D.length dc))):=Lib.hid (by
       have kS:Kp (fun j _=>j=w.heap.size+1) wr (wr.setCell ⟨w.heap.size+1,0,none⟩ (.slice da k.D.length dc)):=Kp.of_set hres _ rfl
       exact⟨⟨_,_,(o5.d.setDoc hres).low (by have:=o5.l;omega)⟩,row_low (kS.row o5.f fun j hj _ e=>row_ne o5.f hres (by decide) (by rw[hj];exact congrArg _ e)) (by omega),hbw.trans (kS.below (fun j t e=>by have e1:j=w.heap.size+1:=e;omega) hbw.size)⟩)
      have s0:(wr.setCell ⟨w.heap.size+1,0,none⟩ (.slice da k.D.length dc)).cell? ⟨Q,0,none⟩=some (.slice da k.D.length dc):=(World.cell?_of_block (a:=⟨Q,0,none⟩) (heap_setCell_ne wr ⟨w.heap.size+1,0,none⟩ (.slice da k.D.length dc) (show Q≠w.heap.size+1 by omega))).trans c0;have s2:(wr.setCell ⟨w.heap.size+1,0,none⟩ (.slice da k.D.length dc)).cell? ⟨Q,2,none⟩=some (.slice fa k.f.length fc):=(World.cell?_of_block (a:=⟨Q,2,none⟩) (heap_setCell_ne wr ⟨w.heap.size+1,0,none⟩ (.slice da k.D.length dc) (show Q≠w.heap.size+1 by omega))).trans c2;clear q2 x5 o5 hres hbw
      go_wp2_with fail
      go_big_region
      all_goals
       have c9d:(wr.setCell ⟨w.heap.size+1,0,none⟩ (.slice da k.D.length dc)).drew.cell? ⟨w.heap.size+1,0,none⟩=some (.slice da k.D.length dc):=c9
       go_wp2
       exact bodyPost_ret (v := .tuple #[.agg #[.slice da k.D.length dc],.slice fa k.f.length fc,.int .i64 0]) (by simp[results,Tryz.results16,go_sem,c9d]) rfl (by rw[HE.out];exact⟨_,_,rfl,HO.out.1.below (Below.refl _ _).drew,row_below HO.out.2.1 (Below.refl _ _).drew,HO.out.2.2.drew⟩)
end Go.Proofs.YtlnfbjbagmfpiaaGreatDoor.Dm
