/- Policies say just what the document says: the law. -/
import Derived.Test.YthnogdodlhkldaaGreatDoorRcD
import Derived.Deep.RegionHeld3
import Derived.Maps.AppendAt
set_option maxRecDepth 100000
set_option maxHeartbeats 8000000
namespace Go.Proofs.YthnogdodlhkldaaGreatDoor
open Go.RowKit
theorem all_law (ps:List (List D × Bool))(la:Option Addr)(lc:Nat)(ha:aS5 ps)(rk:Int)(rt:ByteArray)(o:Bool)(s2 h2:ByteArray)(p:Int)(pa2 q2:ByteArray)(mv:Bool)(rn:ByteArray)(pr:Bool)(o3:Bool)(s3 h3:ByteArray)(p3:Int)(pa3 q3:ByteArray)(w:World)(hw:dZ w)(hp:bM w (.slice la ps.length lc) ps):Calls Tryz.prog 5 #[.slice la ps.length lc,bN rk rt o s2 h2 p pa2 q2 mv rn pr o3 s3 h3 p3 pa3 q3] w fun e w'=>e=.returned (.bool true)/\Below w.heap.size w w':=by
 have AR:=kF;have LG:=aC8 ps (.slice la ps.length lc) ha rk rt o s2 h2 p pa2 q2 mv rn pr o3 s3 h3 p3 pa3 q3
 have HC:Hid (aG5 ps->iT rt s2 h2 pa2 q2 rn s3 h3 pa3 q3->∃(b:Bool) (bs:List Brk),bs.length<=1000000/\ps.length<=15/\(∀ q∈ps,q.1.length<=1000000/\∀ d∈q.1,d.w.length<=1000000)/\(∀ W pv,dZ W->bM W pv ps->Calls Tryz.prog 25 #[pv,bN rk rt o s2 h2 p pa2 q2 mv rn pr o3 s3 h3 p3 pa3 q3] W fun e w'=>∃ ua uc,e=.returned (.agg #[.bool b,.slice ua bs.length uc])/\dI w' (.slice ua bs.length uc) bs/\Below W.heap.size W w')/\(∀ W pv,dZ W->bM W pv ps->Calls Tryz.prog 26 #[pv,bN rk rt o s2 h2 p pa2 q2 mv rn pr o3 s3 h3 p3 pa3 q3] W fun e w'=>∃ ua uc,e=.returned (.agg #[.bool b,.slice ua bs.length uc])/\dI w' (.slice ua bs.length uc) bs/\Below W.heap.size W w')):=zH fun hp_ hr_=>by
  obtain⟨z1,_,⟨c1,c2,c3,c4⟩,⟨e1,e2,e3,e4⟩⟩:=hr_;have hf:∀ p∈ps,eX p.1:=fun p hp=>(hp_.2 p hp).fit;have h15:=hp_.1;refine⟨rV ps (dP rk rt o s2 h2 p pa2 q2 mv rn pr o3 s3 h3 p3 pa3 q3),bE ps (dP rk rt o s2 h2 p pa2 q2 mv rn pr o3 s3 h3 p3 pa3 q3),Nat.le_trans (mS _ _) (by omega),h15,fun q hq=>⟨(hf q hq).1,fun d hd=>((hf q hq).2 d hd).1⟩,?_,?_⟩
  · exact(pD ps (by omega) hf rk rt o s2 h2 p pa2 q2 mv rn pr o3 s3 h3 p3 pa3 q3 (by omega) (by omega) (by omega) (by omega) (by omega) (by omega) (by omega) (by omega) (by omega) _ rfl _ rfl).out
  · exact(bA1 ps (by omega) hf rk rt o s2 h2 p pa2 q2 mv rn pr o3 s3 h3 p3 pa3 q3 (by omega) (by omega) (by omega) (by omega) (by omega) (by omega) (by omega) (by omega) (by omega) _ rfl _ rfl).out
 have HAL:Hid ((∀ q∈ps,q.1.length<=1000000/\∀ d∈q.1,d.w.length<=1000000)->ps.length<=15->∀ W u v,bM W u ps->bM W v ps->Calls Tryz.prog 27 #[u,v] W fun e w'=>e=.returned (.bool true)/\Below W.heap.size W w'):=zH fun h1_ h2_ W u v hu hv=>(aL9 ps ps u v W hu hv (by omega) h1_ (fun p hp=>(h1_ p hp).2)).mono fun e w' h=>by
  obtain⟨h3_,h4_⟩:=h;exact⟨by rw[h3_];simp,h4_⟩
 unfold bN at *
 go_enter Tryz.func5,Tryz.ntmps5
 go_wp2_with fail
 have xn:=RX.made w rk rt o s2 h2 p pa2 q2 mv rn pr o3 s3 h3 p3 pa3 q3;have gw1:=hw.made (.cells #[.int .i64 rk,.string rt,.bool o,.string s2,.string h2,.int .i64 p,.string pa2,.string q2,.bool mv,.string rn,.bool pr,.bool o3,.string s3,.string h3,.int .i64 p3,.string pa3,.string q3] 42);have pw1:=hp.made (.cells #[.int .i64 rk,.string rt,.bool o,.string s2,.string h2,.int .i64 p,.string pa2,.string q2,.bool mv,.string rn,.bool pr,.bool o3,.string s3,.string h3,.int .i64 p3,.string pa3,.string q3] 42);have Bw1:Below w.heap.size w (w.alloc (.cells #[.int .i64 rk,.string rt,.bool o,.string s2,.string h2,.int .i64 p,.string pa2,.string q2,.bool mv,.string rn,.bool pr,.bool o3,.string s3,.string h3,.int .i64 p3,.string pa3,.string q3] 42)):=((zB w.heap.size w).alloc (zL _) _);generalize hR:w.heap.size=Ra at xn Bw1 ⊢;have HR:=zH hR;clear hR;generalize w.alloc (.cells #[.int .i64 rk,.string rt,.bool o,.string s2,.string h2,.int .i64 p,.string pa2,.string q2,.bool mv,.string rn,.bool pr,.bool o3,.string s3,.string h3,.int .i64 p3,.string pa3,.string q3] 42)=w1 at xn gw1 pw1 Bw1 ⊢;have xRa_w1:=xn;clear xn hw hp;refine(LG.out _ pw1).mono ?_;rintro e w2 ⟨b0,rfl,b_,hz⟩;have gw2:=gw1.below b_;have pw2:=pw1.below b_;have Bw2:=Bw1.trans (b_.mono (zT xRa_w1.lt));have xRa_w2:=xRa_w1.below b_;clear b_ gw1 pw1 Bw1 xRa_w1;have HZ:=zH hz;clear hz LG
 cases b0
 case true =>
  go_wp2
  go_ret
  exact⟨rfl,by rw[HR.out];exact Bw2⟩
 as_aux_lemma =>
  obtain⟨FP,FR⟩:=HZ.out (by trivial);obtain⟨b,bs,hbl,h15,hft,CA0,CB0⟩:=HC.out FP FR;have CA:=zH CA0;have CB:=zH CB0;have CL:=zH (HAL.out hft h15);have CS:=fun u v=>nH b bs u v hbl;have CSH:=zH CS;have HFT:=zH hft;clear HZ HC HAL CA0 CB0 FP FR hbl hft CS;have HG:=zH gw2;have HP:=zH pw2;have HX:=zH xRa_w2;have HBB:=zH (And.intro Bw2 (zT xRa_w2.lt));have HON:Hid (gQ w2 w2.heap.size (.slice none 0 0) []):=zH ⟨[],World.ownsRow_nil w2 w2.heap.size 24 2,jP.nil _ _ _⟩;clear gw2 pw2 xRa_w2 Bw2
  go_wp2
  go_loopw [5,6] (fun u i wr=>∃ k:Nat,k<=ps.length/\i=.int .i64 k/\gQ wr w2.heap.size u (ps.take k)/\Below w2.heap.size w2 wr) (fun _ i _=>ps.length - (intOf i).toNat)
  case atStart=>exact⟨0,Nat.zero_le _,rfl,HON.out,zB _ _⟩
  case round =>
   obtain⟨k,hk,rfl,op_,hb⟩:=hrel
   by_cases hlt:k<ps.length
   · obtain⟨B,off,du,e_,k1,k2,k3⟩:=HP.out.at hlt
     subst e_;obtain⟨ua,uc,rfl⟩:=k3.form;have kb1:=(hb.cell (aH k1)).trans k1;have kb2:=(hb.cell (aH k2)).trans k2;have HTK:Hid (ps.take (k+1)=ps.take k++[(ps[k].1,ps[k].2)]):=zH (List.take_succ_eq_append_getElem hlt);have h1_:=HFT.out ps[k] (List.getElem_mem hlt);have kd:=k3.below hb;have hlen:(ps.take k).length=k:=by rw[List.length_take];omega
     have HLEN:=zH hlen;generalize ps[k].1=q at kb1 kd h1_ HTK;generalize ps[k].2=rr at kb2 HTK;have CO:=zH (kU q (.slice ua q.length uc) rr wr kd h1_.1 h1_.2);unfold dX at CO;have hs1:w2.heap.size<=wr.heap.size:=hb.size;have HOP:=zH op_;have HB:=zH hb;clear op_ hb k1 k2 k3 kd h1_ hlen CA CB CL CSH HG HX AR
     go_wp2_with fail
     clear kb1 kb2;refine CO.out.mono ?_;rintro e w4 ⟨v,rfl,od,b4⟩;obtain⟨va,vc,rfl⟩:=od.in.form;obtain⟨cs,hrow,hpr⟩:=HOP.out;rw[HLEN.out]at hrow;have HOB:Hid (∀ z,u5.ownBlock=some z->w2.heap.size<=z/\z<wr.heap.size):=zH hrow.lt;have bA:Below w4.heap.size w4 ((w4.alloc (.cells #[.slice va q.length vc,.bool rr] 24)).alloc (.cells #[.slice va q.length vc,.bool rr] 24)):=((zB _ _).alloc (zL _) _).alloc (by simp) _;have bC:=b4.trans (bA.mono b4.size);have HB5:=zH (HB.out.trans (bC.mono hs1));have HROW:=zH (aX hrow bC);have HPR:=zH (hpr.keeps (bX.of_below (lo:=0) bC));have HOD:=zH (od.below bA)
     have NEW:Hid (∀ j u,([.slice va q.length vc,.bool rr]:List Value)[j]? = some u->((w4.alloc (.cells #[.slice va q.length vc,.bool rr] 24)).alloc (.cells #[.slice va q.length vc,.bool rr] 24)).cell? ((⟨w4.heap.size+1,0,none⟩:Addr).add j)=some u):=zH (by
      have:=cell_two_new' (w4.alloc (.cells #[.slice va q.length vc,.bool rr] 24)) (.slice va q.length vc) (.bool rr) 24
      rwa [World.size_alloc]at this)
     have hs4:wr.heap.size<=w4.heap.size:=b4.size;have x0:=PX.made w4 (.slice va q.length vc) rr;have d0:=x0.c0;have d1:=x0.c1;clear hrow hpr od b4 bA bC x0 HOP HB CO;obtain⟨i0,hi,hz0,hz1,hz3⟩:=info_parts oH
     go_wp2_with (at_builtin;refine wpList_append_own_at _ rfl _ _ 27 rfl w2.heap.size 24 i0 (.agg #[.slice none 0 0,.bool false]) 2 32 Tryz.underlying27 hi hz0 hz1 hz3 rfl (by decide) _ k cs rfl HROW.out ⟨w4.heap.size+1,0,none⟩ 1 1 [.slice va q.length vc,.bool rr] rfl rfl NEW.out (by intro u hu;simp at hu;rcases hu with rfl | rfl<;>rfl) (by unfold maxLen;omega) (by omega) (by simp;omega) ?_;intro v6 w6 hown6 hgr6 hnil6 hat6
                  have dby:eY ((w4.alloc (.cells #[.slice va q.length vc,.bool rr] 24)).alloc (.cells #[.slice va q.length vc,.bool rr] 24)) w2.heap.size u5.ownBlock (.slice va q.length vc) q:=HOD.out.by (by omega) (fun z hz=>by have:=(HOB.out z hz).2;omega);have op6:gQ w6 w2.heap.size v6 (ps.take k++[(q,rr)]):=gQ.grow (q,rr) (.slice va q.length vc) HPR.out dby (by rw[HLEN.out];exact hown6) hgr6 hat6;have b6:Below w2.heap.size w2 w6:=Below.grown HB5.out hgr6 (by simp;omega) (fun z hz=>(HOB.out z hz).1)
                  obtain⟨a6,c6,rfl⟩:∃ a c,v6=.slice a (k+1) c:=by
                   rcases bS hown6 with ⟨_,h_⟩ | ⟨g,cap,h_⟩
                   · omega
                   · exact⟨_,_,h_⟩
                  have Y6:AsideM (gQ w6 w2.heap.size (.slice a6 (k+1) c6) (ps.take k++[(q,rr)])/\Below w2.heap.size w2 w6):=⟨op6,b6⟩
                  clear hown6 hgr6 hnil6 hat6 dby op6 b6)
     obtain⟨y1,y2⟩:=Y6.out
     go_roundw
     case rel=>exact⟨k+1,by omega,by go_num,by rw[HTK.out];exact y1,y2⟩
     case measure=>simp[intOf];omega
   obtain rfl:k=ps.length:=by omega
   rw[List.take_length]at op_;have po:=op_.in;obtain⟨oa,oc,rfl⟩:=po.form;have g_:=HG.out.below hb;have p_:=HP.out.below hb;have x_:=HX.out.below hb;have B_:=HBB.out.1.trans (hb.mono HBB.out.2);clear op_ hb HG HP HX HBB HON HFT
   go_wp2_with fail
   obtain⟨C,hC⟩:∃ C:World->Prop,∀ w',C w'↔(RX w' Ra rk rt o s2 h2 p pa2 q2 mv rn pr o3 s3 h3 p3 pa3 q3/\Below Ra w w'/\dZ w'/\bM w' (.slice la ps.length lc) ps/\bM w' (.slice oa ps.length oc) ps):=⟨_,fun _=>Iff.rfl⟩;have HC:=zH hC;clear hC
   have HK:Hid (∀ w',C w'->∀ w7,Below w'.heap.size w' w7->C w7):=zH fun w' hc w7 b=>by
    obtain⟨xRa,K4,g7,p7,o7⟩:=(HC.out w').1 hc;exact(HC.out _).2 ⟨xRa.below b,K4.trans (b.mono (zT xRa.lt)),g7.below b,p7.below b,o7.below b⟩
   have HS:Hid (∀ w',C w'->(w'.cell? ⟨Ra,0,none⟩=some (.int .i64 rk)/\w'.cell? ⟨Ra,1,none⟩=some (.string rt)/\w'.cell? ⟨Ra,2,none⟩=some (.bool o)/\w'.cell? ⟨Ra,3,none⟩=some (.string s2)/\w'.cell? ⟨Ra,4,none⟩=some (.string h2)/\w'.cell? ⟨Ra,5,none⟩=some (.int .i64 p)/\w'.cell? ⟨Ra,6,none⟩=some (.string pa2)/\w'.cell? ⟨Ra,7,none⟩=some (.string q2)/\w'.cell? ⟨Ra,8,none⟩=some (.bool mv)/\w'.cell? ⟨Ra,9,none⟩=some (.string rn)/\w'.cell? ⟨Ra,10,none⟩=some (.bool pr)/\w'.cell? ⟨Ra,11,none⟩=some (.bool o3)/\w'.cell? ⟨Ra,12,none⟩=some (.string s3)/\w'.cell? ⟨Ra,13,none⟩=some (.string h3)/\w'.cell? ⟨Ra,14,none⟩=some (.int .i64 p3)/\w'.cell? ⟨Ra,15,none⟩=some (.string pa3)/\w'.cell? ⟨Ra,16,none⟩=some (.string q3)/\C w')):=zH fun w' hc=>by
    have x:=((HC.out w').1 hc).1;exact⟨x.c0,x.c1,x.c2,x.c3,x.c4,x.c5,x.c6,x.c7,x.c8,x.c9,x.c10,x.c11,x.c12,x.c13,x.c14,x.c15,x.c16,hc⟩
   have C0:C wr.drew:=(HC.out _).2 ⟨x_,B_.drew,g_.drew,p_.drew,po.drew⟩;have S0:=HS.out _ C0;clear x_ B_ g_ p_ po C0
   go_region_held3 (fun w'=>w'.cell? ⟨Ra,0,none⟩=some (.int .i64 rk)/\w'.cell? ⟨Ra,1,none⟩=some (.string rt)/\w'.cell? ⟨Ra,2,none⟩=some (.bool o)/\w'.cell? ⟨Ra,3,none⟩=some (.string s2)/\w'.cell? ⟨Ra,4,none⟩=some (.string h2)/\w'.cell? ⟨Ra,5,none⟩=some (.int .i64 p)/\w'.cell? ⟨Ra,6,none⟩=some (.string pa2)/\w'.cell? ⟨Ra,7,none⟩=some (.string q2)/\w'.cell? ⟨Ra,8,none⟩=some (.bool mv)/\w'.cell? ⟨Ra,9,none⟩=some (.string rn)/\w'.cell? ⟨Ra,10,none⟩=some (.bool pr)/\w'.cell? ⟨Ra,11,none⟩=some (.bool o3)/\w'.cell? ⟨Ra,12,none⟩=some (.string s3)/\w'.cell? ⟨Ra,13,none⟩=some (.string h3)/\w'.cell? ⟨Ra,14,none⟩=some (.int .i64 p3)/\w'.cell? ⟨Ra,15,none⟩=some (.string pa3)/\w'.cell? ⟨Ra,16,none⟩=some (.string q3)/\C w') (first | assumption | fail) (first
    | (go_at_call 15
       (with_reducible refine(AR.out _ ((HC.out _).1 (S0.2.2.2.2.2.2.2.2.2.2.2.2.2.2.2.2.2)).2.2.1).mono ?_)
       rintro e w5 ⟨rfl,b5⟩;have S5:=HS.out _ (HK.out _ (S0.2.2.2.2.2.2.2.2.2.2.2.2.2.2.2.2.2) _ b5)
       clear b5 S0)
    | (go_at_call 25
       (with_reducible refine(CA.out _ _ ((HC.out _).1 (S5.2.2.2.2.2.2.2.2.2.2.2.2.2.2.2.2.2)).2.2.1 ((HC.out _).1 (S5.2.2.2.2.2.2.2.2.2.2.2.2.2.2.2.2.2)).2.2.2.1).mono ?_)
       rintro e w6 ⟨ea,ec,rfl,y6,b6⟩;have S6:=HS.out _ (HK.out _ (S5.2.2.2.2.2.2.2.2.2.2.2.2.2.2.2.2.2) _ b6);have Y6:=zH y6
       clear b6 S5 y6)
    | (go_at_call 26
       (with_reducible refine(CB.out _ _ ((HC.out _).1 (S6.2.2.2.2.2.2.2.2.2.2.2.2.2.2.2.2.2)).2.2.1 ((HC.out _).1 (S6.2.2.2.2.2.2.2.2.2.2.2.2.2.2.2.2.2)).2.2.2.2).mono ?_)
       rintro e w7 ⟨fa,fc,rfl,y7,b7⟩;have S7:=HS.out _ (HK.out _ (S6.2.2.2.2.2.2.2.2.2.2.2.2.2.2.2.2.2) _ b7);have Y7:=zH (And.intro (Y6.out.below b7) y7)
       clear b7 S6 y7 Y6)
    | (go_at_call 24
       (with_reducible refine((CSH.out _ _).out _ Y7.out.1 Y7.out.2).mono ?_)
       rintro e w8 ⟨rfl,b8⟩;have S8:=HS.out _ (HK.out _ (S7.2.2.2.2.2.2.2.2.2.2.2.2.2.2.2.2.2) _ b8)
       clear b8 S7 Y7)
    | (go_at_call 27
       (with_reducible refine(CL.out _ _ _ ((HC.out _).1 (S8.2.2.2.2.2.2.2.2.2.2.2.2.2.2.2.2.2)).2.2.2.1 ((HC.out _).1 (S8.2.2.2.2.2.2.2.2.2.2.2.2.2.2.2.2.2)).2.2.2.2).mono ?_)
       rintro e w9 ⟨rfl,b9⟩;have S9:=HS.out _ (HK.out _ (S8.2.2.2.2.2.2.2.2.2.2.2.2.2.2.2.2.2) _ b9)
       clear b9 S8))
   all_goals
    have B9:=((HC.out _).1 (S9.2.2.2.2.2.2.2.2.2.2.2.2.2.2.2.2.2)).2.1
    go_wp2
    go_ret
    exact⟨rfl,by rw[HR.out];exact B9⟩
end Go.Proofs.YthnogdodlhkldaaGreatDoor
