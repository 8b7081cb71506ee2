/- Policies are gone through: the document's. -/
import Derived.Test.YthnogdodlhkldaaGreatDoorRcC
import Derived.Test.YthnogdodlhkldaaGreatDoorLawCK
import Derived.Deep.AppendLies
import Derived.Deep.RegionLaw
set_option maxRecDepth 100000
set_option maxHeartbeats 8000000
namespace Go.Proofs.YthnogdodlhkldaaGreatDoor
open Go.RowKit
theorem qP.below {w A B:World}{rk:Int}{rt:ByteArray}{o:Bool}{s2 h2:ByteArray}{p:Int}{pa2 q2:ByteArray}{mv:Bool}{rn:ByteArray}{pr:Bool}{o3:Bool}{s3 h3:ByteArray}{p3:Int}{pa3 q3:ByteArray}{bs:List Brk}(h:qP w rk rt o s2 h2 p pa2 q2 mv rn pr o3 s3 h3 p3 pa3 q3 bs A)(hb:Below A.heap.size A B):qP w rk rt o s2 h2 p pa2 q2 mv rn pr o3 s3 h3 p3 pa3 q3 bs B:=h.kept (bX.of_below hb) (zL _)
theorem qP.drew {w A:World}{rk:Int}{rt:ByteArray}{o:Bool}{s2 h2:ByteArray}{p:Int}{pa2 q2:ByteArray}{mv:Bool}{rn:ByteArray}{pr:Bool}{o3:Bool}{s3 h3:ByteArray}{p3:Int}{pa3 q3:ByteArray}{bs:List Brk}(h:qP w rk rt o s2 h2 p pa2 q2 mv rn pr o3 s3 h3 p3 pa3 q3 bs A):qP w rk rt o s2 h2 p pa2 q2 mv rn pr o3 s3 h3 p3 pa3 q3 bs A.drew:=h.below ((zB _ _).drew)
theorem uL (ps:List (List D × Bool))(hl:ps.length<=1000)(hf:∀ p∈ps,eX p.1)(pv:Value)(rk:Int)(rt:ByteArray)(o:Bool)(s2 h2:ByteArray)(p:Int)(pa2 q2:ByteArray)(mv:Bool)(rn:ByteArray)(pr:Bool)(o3:Bool)(s3 h3:ByteArray)(p3:Int)(pa3 q3:ByteArray)(zt:rt.size<=100000)(su1:s2.size<=100000)(su2:h2.size<=100000)(su3:pa2.size<=100000)(su4:q2.size<=100000)(sv1:s3.size<=100000)(sv2:h3.size<=100000)(sv3:pa3.size<=100000)(sv4:q3.size<=100000)(w:World)(hw:dZ w)(hp:bM w pv ps):Calls Tryz.prog 26 #[pv,bN rk rt o s2 h2 p pa2 q2 mv rn pr o3 s3 h3 p3 pa3 q3] w fun e w'=>∃ u,e=.returned (.agg #[.bool (rV ps (dP rk rt o s2 h2 p pa2 q2 mv rn pr o3 s3 h3 p3 pa3 q3)),u])/\w'.ownsRow w.heap.size 54 3 u (bE ps (dP rk rt o s2 h2 p pa2 q2 mv rn pr o3 s3 h3 p3 pa3 q3)).length (fK (bE ps (dP rk rt o s2 h2 p pa2 q2 mv rn pr o3 s3 h3 p3 pa3 q3)))/\Below w.heap.size w w':=by
 obtain⟨pa,pc,rfl⟩:=hp.form;have HF:=zH hf;have HW:=zH hw;have HP:=zH hp
 have C1:Hid (∀(ds:List D) (dv:Value) (r:Bool),eX ds->∃(b:Bool) (N:ByteArray),fQ ds (dP rk rt o s2 h2 p pa2 q2 mv rn pr o3 s3 h3 p3 pa3 q3)=(b,N.data.toList)/\∀(W:World),dZ W->aU W dv ds->Calls Tryz.prog 23 #[.agg #[dv,.bool r],bN rk rt o s2 h2 p pa2 q2 mv rn pr o3 s3 h3 p3 pa3 q3] W fun e w'=>e=.returned (.tuple #[.bool b,.string N])/\Below W.heap.size W w'):=zH fun ds dv r h1=>by
  obtain⟨N,hN⟩:=aO (fQ ds (dP rk rt o s2 h2 p pa2 q2 mv rn pr o3 s3 h3 p3 pa3 q3)).2;refine⟨(fQ ds (dP rk rt o s2 h2 p pa2 q2 mv rn pr o3 s3 h3 p3 pa3 q3)).1,N,by rw[hN],fun W h_ h3_=>(oP ds dv r rk rt o s2 h2 p pa2 q2 mv rn pr o3 s3 h3 p3 pa3 q3 zt su1 su2 su3 su4 sv1 sv2 sv3 sv4 h1 W h_ h3_).mono ?_⟩;rintro e w' ⟨b',M,rfl,k_,hb_⟩;rw[k_]at hN ⊢;obtain rfl:N=M:=by rw[aM hN]
  exact⟨rfl,hb_⟩
 have HOK:rV ps (dP rk rt o s2 h2 p pa2 q2 mv rn pr o3 s3 h3 p3 pa3 q3)=(bE ps (dP rk rt o s2 h2 p pa2 q2 mv rn pr o3 s3 h3 p3 pa3 q3)).all Brk.r:=rfl;rw[HOK];have HT:Hid (∀ k (hk:k<ps.length),bE (ps.take (k+1)) (dP rk rt o s2 h2 p pa2 q2 mv rn pr o3 s3 h3 p3 pa3 q3)=bE (ps.take k) (dP rk rt o s2 h2 p pa2 q2 mv rn pr o3 s3 h3 p3 pa3 q3)++lL k ps[k] (dP rk rt o s2 h2 p pa2 q2 mv rn pr o3 s3 h3 p3 pa3 q3)):=zH fun k hk=>qH ps (dP rk rt o s2 h2 p pa2 q2 mv rn pr o3 s3 h3 p3 pa3 q3) k hk;have HLN:Hid (∀ k,(bE (ps.take k) (dP rk rt o s2 h2 p pa2 q2 mv rn pr o3 s3 h3 p3 pa3 q3)).length<=1000):=zH fun k=>Nat.le_trans (mS _ _) (by rw[List.length_take];omega);have HEND:Hid (bE (ps.take ps.length) (dP rk rt o s2 h2 p pa2 q2 mv rn pr o3 s3 h3 p3 pa3 q3)=bE ps (dP rk rt o s2 h2 p pa2 q2 mv rn pr o3 s3 h3 p3 pa3 q3)):=zH (by rw[List.take_length]);generalize bE ps (dP rk rt o s2 h2 p pa2 q2 mv rn pr o3 s3 h3 p3 pa3 q3)=bs at HEND ⊢;obtain⟨okb,hokb⟩:∃ okb,bs.all Brk.r=okb:=⟨_,rfl⟩;rw[hokb];have HOKB:=zH hokb;clear hokb;have x1:=RX.made w rk rt o s2 h2 p pa2 q2 mv rn pr o3 s3 h3 p3 pa3 q3;have x2:=dH.made (w.alloc (.cells #[.int .i64 rk,.string rt,.bool o,.string s2,.string h2,.int .i64 p,.string pa2,.string q2,.bool mv,.string rn,.bool pr,.bool o3,.string s3,.string h3,.int .i64 p3,.string pa3,.string q3] 42)) false (.slice none 0 0);have x3:=dH.made ((w.alloc (.cells #[.int .i64 rk,.string rt,.bool o,.string s2,.string h2,.int .i64 p,.string pa2,.string q2,.bool mv,.string rn,.bool pr,.bool o3,.string s3,.string h3,.int .i64 p3,.string pa3,.string q3] 42)).alloc (.cells #[.bool false,.slice none 0 0] 50)) true (.slice none 0 0);simp only[World.size_alloc]at x2 x3;have b2:Below (w.alloc (.cells #[.int .i64 rk,.string rt,.bool o,.string s2,.string h2,.int .i64 p,.string pa2,.string q2,.bool mv,.string rn,.bool pr,.bool o3,.string s3,.string h3,.int .i64 p3,.string pa3,.string q3] 42)).heap.size (w.alloc (.cells #[.int .i64 rk,.string rt,.bool o,.string s2,.string h2,.int .i64 p,.string pa2,.string q2,.bool mv,.string rn,.bool pr,.bool o3,.string s3,.string h3,.int .i64 p3,.string pa3,.string q3] 42)) (((w.alloc (.cells #[.int .i64 rk,.string rt,.bool o,.string s2,.string h2,.int .i64 p,.string pa2,.string q2,.bool mv,.string rn,.bool pr,.bool o3,.string s3,.string h3,.int .i64 p3,.string pa3,.string q3] 42)).alloc (.cells #[.bool false,.slice none 0 0] 50)).alloc (.cells #[.bool true,.slice none 0 0] 50)):=((zB _ _).alloc (zL _) _).alloc (by simp) _;have b3:Below ((w.alloc (.cells #[.int .i64 rk,.string rt,.bool o,.string s2,.string h2,.int .i64 p,.string pa2,.string q2,.bool mv,.string rn,.bool pr,.bool o3,.string s3,.string h3,.int .i64 p3,.string pa3,.string q3] 42)).alloc (.cells #[.bool false,.slice none 0 0] 50)).heap.size ((w.alloc (.cells #[.int .i64 rk,.string rt,.bool o,.string s2,.string h2,.int .i64 p,.string pa2,.string q2,.bool mv,.string rn,.bool pr,.bool o3,.string s3,.string h3,.int .i64 p3,.string pa3,.string q3] 42)).alloc (.cells #[.bool false,.slice none 0 0] 50)) (((w.alloc (.cells #[.int .i64 rk,.string rt,.bool o,.string s2,.string h2,.int .i64 p,.string pa2,.string q2,.bool mv,.string rn,.bool pr,.bool o3,.string s3,.string h3,.int .i64 p3,.string pa3,.string q3] 42)).alloc (.cells #[.bool false,.slice none 0 0] 50)).alloc (.cells #[.bool true,.slice none 0 0] 50)):=(zB _ _).alloc (zL _) _;have bw:Below w.heap.size w (((w.alloc (.cells #[.int .i64 rk,.string rt,.bool o,.string s2,.string h2,.int .i64 p,.string pa2,.string q2,.bool mv,.string rn,.bool pr,.bool o3,.string s3,.string h3,.int .i64 p3,.string pa3,.string q3] 42)).alloc (.cells #[.bool false,.slice none 0 0] 50)).alloc (.cells #[.bool true,.slice none 0 0] 50)):=((zB _ _).alloc (zL _) _).trans (b2.mono (by simp));have HIN:Hid (qP w rk rt o s2 h2 p pa2 q2 mv rn pr o3 s3 h3 p3 pa3 q3 [] (((w.alloc (.cells #[.int .i64 rk,.string rt,.bool o,.string s2,.string h2,.int .i64 p,.string pa2,.string q2,.bool mv,.string rn,.bool pr,.bool o3,.string s3,.string h3,.int .i64 p3,.string pa3,.string q3] 42)).alloc (.cells #[.bool false,.slice none 0 0] 50)).alloc (.cells #[.bool true,.slice none 0 0] 50))):=zH ⟨⟨_,x3,World.ownsRow_nil _ _ _ _⟩,x1.below b2,x2.below b3,bw⟩;clear hf hw hp HOK x1 x2 x3 b2 b3 bw;unfold bN
 go_enter Tryz.func26,Tryz.ntmps26
 go_wp2
 try rw[show w.heap.size+1+1=w.heap.size+2 from rfl]
 generalize(((w.alloc (.cells #[.int .i64 rk,.string rt,.bool o,.string s2,.string h2,.int .i64 p,.string pa2,.string q2,.bool mv,.string rn,.bool pr,.bool o3,.string s3,.string h3,.int .i64 p3,.string pa3,.string q3] 42)).alloc (.cells #[.bool false,.slice none 0 0] 50)).alloc (.cells #[.bool true,.slice none 0 0] 50))=w3 at HIN ⊢
 go_loopw [6] (fun i wr=>∃ k:Nat,k<=ps.length/\i=.int .i64 k/\Hid (qP w rk rt o s2 h2 p pa2 q2 mv rn pr o3 s3 h3 p3 pa3 q3 (bE (ps.take k) (dP rk rt o s2 h2 p pa2 q2 mv rn pr o3 s3 h3 p3 pa3 q3)) wr)) (fun i _=>ps.length - (intOf i).toNat)
 case atStart=>exact⟨0,Nat.zero_le _,rfl,HIN⟩
 case round =>
  clear HIN;obtain⟨k,hk,rfl,HI⟩:=hrel
  by_cases hlt:k<ps.length
  case neg =>
   obtain rfl:k=ps.length:=by omega
   have hI:=HI.out;rw[HEND.out]at hI;obtain⟨⟨v,hV,hrow⟩,hRX,hZ,hBw⟩:=hI;clear HI HT HLN HEND C1
   obtain⟨va,vc,rfl⟩:∃ va vc,v=.slice va bs.length vc:=by
    rcases bS hrow with ⟨hz,hz2⟩ | ⟨g,cap,hz⟩
    · rw[hz2];exact⟨_,_,hz⟩
    · exact⟨_,_,hz⟩
   rw[HOKB.out]at hV;have e0:=hV.c0;have e1:=hV.c1;have z0:=hZ.c0;have z1:=hZ.c1;have f0:=aB hZ 0;have f1:=aB hZ 1;have zf:=(hZ.set0 okb).set1 (.slice va bs.length vc);have rf:=fM (R:=w.heap.size+1) (j:=1) (u := .slice va bs.length vc) (fM (R:=w.heap.size+1) (j:=0) (u := .bool okb) hrow hZ (by decide)) (hZ.set0 okb) (by decide);have bf:=(hBw.setCell (p:=⟨w.heap.size+1,0,none⟩) (Nat.le_succ _) (.bool okb)).setCell (p:=⟨w.heap.size+1,1,none⟩) (Nat.le_succ _) (.slice va bs.length vc);have HE:=zH (And.intro zf (And.intro rf bf));clear hV hZ hrow hRX hBw zf rf bf
   go_wp2
   clear e0 e1 z0 z1 f0 f1;generalize(wr.setCell ⟨w.heap.size+1,0,none⟩ (.bool okb)).setCell ⟨w.heap.size+1,1,none⟩ (.slice va bs.length vc)=wz at HE ⊢;obtain⟨zf,rf,bf⟩:=HE.out;have c0:=zf.c0;have c1:=zf.c1;exact bodyPost_ret (v := .agg #[.bool okb,.slice va bs.length vc]) (by simp[results,Tryz.results26,go_sem,c0,c1]) rfl ⟨_,rfl,rf,bf⟩
  obtain⟨B,off,u,e_,kc0,kc1,kd⟩:=HP.out.at hlt;subst e_;have HTk:=zH (HT.out k hlt);have hfk:=HF.out _ (List.getElem_mem hlt);have hix:(k:Int)<(ps.length:Int):=by omega
  have hln:=HLN.out k;generalize ps[k]=pk at kc0 kc1 kd HTk hfk;obtain⟨ds,rep⟩:=pk;dsimp only at kc0 kc1 kd hfk;obtain⟨ua,uc,rfl⟩:=kd.form;obtain⟨ob,N,hone,hCT⟩:=C1.out ds (.slice ua ds.length uc) rep hfk;have HBK:Hid (lL k (ds,rep) (dP rk rt o s2 h2 p pa2 q2 mv rn pr o3 s3 h3 p3 pa3 q3)=if ob then [] else [⟨k,N.data.toList,rep⟩]):=zH (by unfold lL;dsimp only;rw[hone]);have CT:=zH hCT;have hBlt:B<w.heap.size:=aH kc0;have HKC:=zH (And.intro kc0 (And.intro kc1 kd));clear hone hCT hfk kc0 kc1 kd;obtain⟨bs0,hbs0⟩:∃ bs0,bE (ps.take k) (dP rk rt o s2 h2 p pa2 q2 mv rn pr o3 s3 h3 p3 pa3 q3)=bs0:=⟨_,rfl⟩;rw[hbs0]at HI HTk hln;clear hbs0;have hI:=HI.out;clear HI;have kc0:=(hI.2.2.2.cell (p:=⟨B,off+k * 2,none⟩) hBlt).trans HKC.out.1;have kc1:=(hI.2.2.2.cell (p:=⟨B,off+k * 2+1,none⟩) hBlt).trans HKC.out.2.1
  go_wp2_with fail
  clear kc0 kc1;obtain⟨C,hC⟩:∃ C:World->Prop,∀ w',C w'↔qP w rk rt o s2 h2 p pa2 q2 mv rn pr o3 s3 h3 p3 pa3 q3 bs0 w':=⟨_,fun _=>Iff.rfl⟩;have HC:=zH hC;clear hC;have hC0:C wr.drew:=(HC.out _).2 hI.drew;clear hI;refine aY C (by kernel_rfl) (by kernel_rfl) hC0 ?_;clear hC0
  repeat
   first
    | go_big_quiet_skip
    | (go_big_quiet_want;go_big_quiet_op;go_big_quiet_on)
    | (refine BigFrame.wpQuiet_want rfl (fun K hK => ?_)
       apply Exists.intro
       refine⟨fun w' hc => ?_,hK _ ?_⟩
       · have hi:=(HC.out w').1 hc
         have hlw:=HW.out.below hi.2.2.2;have hdw:=HKC.out.2.2.below hi.2.2.2;have kc0:=(hi.2.2.2.cell (p:=⟨B,off+k * 2,none⟩) hBlt).trans HKC.out.1;have kc1:=(hi.2.2.2.cell (p:=⟨B,off+k * 2+1,none⟩) hBlt).trans HKC.out.2.1
         first
          | exact rQ rfl rfl hi.2.1.load
          | (unfold Oper.quietAt
             go_simp
             first
              | done
              | rfl
              | ((with_reducible refine(CT.out _ hlw hdw).mono ?_);rintro e w7 ⟨rfl,b7⟩;exact⟨rfl,(HC.out _).2 (hi.below b7)⟩))
       clear hK K
       simp only[Act.put,List.setIfInBounds_toArray,List.set_cons_zero,List.set_cons_succ])
  refine wpQuiet_nil ?_;intro w5 hc;have hI:=(HC.out w5).1 hc;clear hc HC CT
  cases ob
  case true =>
   have HN:Hid (qP w rk rt o s2 h2 p pa2 q2 mv rn pr o3 s3 h3 p3 pa3 q3 (bE (ps.take (k+1)) (dP rk rt o s2 h2 p pa2 q2 mv rn pr o3 s3 h3 p3 pa3 q3)) w5):=zH (by rw[HTk.out,HBK.out];simpa using hI);clear hI HTk HBK
   go_wp2
   go_roundw
   case rel=>exact⟨k+1,by omega,by go_num,HN⟩
   case measure=>simp[intOf];omega
  obtain⟨⟨v,hV,hrow⟩,hRX,hZ,hBw⟩:=hI
  obtain⟨va,vc,rfl⟩:∃ va vc,v=.slice va bs0.length vc:=by
   rcases bS hrow with ⟨hz,hz2⟩ | ⟨g,cap,hz⟩
   · rw[hz2];exact⟨_,_,hz⟩
   · exact⟨_,_,hz⟩
  obtain⟨i0,hi0,hz0,hz1,hz3⟩:=info_parts aG3;obtain⟨n,hn⟩:∃ n,bs0.length=n:=⟨_,rfl⟩;have HNL:=zH hn;rw[hn]at hrow hV hln;obtain⟨ok,hok⟩:∃ ok,bs0.all Brk.r=ok:=⟨_,rfl⟩;have HOK:=zH hok;rw[hok]at hV;clear hn hok;have e0:=hV.c0;have e1:=hV.c1;have g1:=aB hV 1;have kc1:=(hBw.cell (p:=⟨B,off+k * 2+1,none⟩) hBlt).trans HKC.out.2.1;have O5:Hid (w5.drew.ownsRow w.heap.size 54 3 (.slice va n vc) n (fK bs0)):=zH hrow;have H5:=zH (And.intro hV (And.intro hRX (And.intro hZ hBw)));have hs5:w.heap.size<=w5.heap.size:=hBw.size;have hne:B≠w.heap.size+2:=by omega
  have hne2:w.heap.size≠w.heap.size+2:=by omega
  have hne3:w.heap.size+1≠w.heap.size+2:=by omega
  have kc1_:=kc1;have bXa:Below w5.heap.size w5 (w5.alloc (.cells #[.int .i64 (k:Int),.string N,.bool rep] 54)):=(zB _ _).alloc (zL _) _;have e0a:=(hV.below bXa).c0;have e1a:=(hV.below bXa).c1;have kc1a:=((hBw.trans (bXa.mono hs5)).cell (p:=⟨B,off+k * 2+1,none⟩) hBlt).trans HKC.out.2.1;clear hV hrow hRX hZ hBw bXa
  go_wp2_with fail
  go_region_law (refine step_append_lies _ (by rfl) (.tmp 27) (.tmp 36) 48 (by rfl) w.heap.size 54 i0 (.agg #[.int .i64 0,.string ⟨#[]⟩,.bool false]) 3 32 Tryz.underlying48 hi0 hz0 hz1 hz3 rfl (by decide) _ _ _ (by rfl) (O5.out.alloc _) ⟨w5.heap.size,0,none⟩ 1 1 [.int .i64 (k:Int),.string N,.bool rep] (by rfl) rfl (World.news_of_block (aW _ _)) (by intro u hu;simp at hu;rcases hu with rfl | rfl | rfl<;>rfl) (by decide) (by unfold maxLen;omega) (by omega) (by simp;omega) _ rfl ?_
                 intro g cap w6 hown hgrow hat hlt6;have hob:=aT4 (O5.out.alloc (.cells #[.int .i64 (k:Int),.string N,.bool rep] 54));have ba6:Below w5.heap.size w5 (w5.drew.alloc (.cells #[.int .i64 (k:Int),.string N,.bool rep] 54)):=((zB w5.heap.size w5).drew).alloc (zL _) _;have v6:dH w6 (w.heap.size+2) _ _:=eN (H5.out.1.below ba6) hgrow hob (by decide);have r6:RX w6 w.heap.size rk rt o s2 h2 p pa2 q2 mv rn pr o3 s3 h3 p3 pa3 q3:=eN (H5.out.2.1.below ba6) hgrow hob (by decide);have z6:dH w6 (w.heap.size+1) false (.slice none 0 0):=eN (H5.out.2.2.1.below ba6) hgrow hob (by decide);have b6:Below w.heap.size w w6:=Below.grown (H5.out.2.2.2.trans (ba6.mono hs5)) hgrow (by simp;omega) (fun q hq=>(O5.out.lt q hq).1);have e60:=v6.c0;have e61:=v6.c1;have g61:=aB v6 1;have e70:=(v6.set1 (.slice (some ⟨g,0,none⟩) (n+1) cap)).c0;have g70:=aB (v6.set1 (.slice (some ⟨g,0,none⟩) (n+1) cap)) 0;have kc6:=(b6.cell (p:=⟨B,off+k * 2+1,none⟩) hBlt).trans HKC.out.2.1;have kc7:(w6.setCell ⟨w.heap.size+2,1,none⟩ (.slice (some ⟨g,0,none⟩) (n+1) cap)).cell? ⟨B,off+k * 2+1,none⟩=some (.bool rep):=((b6.setCell (p:=⟨w.heap.size+2,1,none⟩) (Nat.le_add_right _ _) _).cell (p:=⟨B,off+k * 2+1,none⟩) hBlt).trans HKC.out.2.1;have X6:Aside (dH w6 (w.heap.size+2) _ _/\RX w6 w.heap.size rk rt o s2 h2 p pa2 q2 mv rn pr o3 s3 h3 p3 pa3 q3/\dH w6 (w.heap.size+1) false (.slice none 0 0)/\Below w.heap.size w w6/\w6.ownsRow w.heap.size 54 3 (.slice (some ⟨g,0,none⟩) (n+1) cap) (n+1) _):=⟨v6,r6,z6,b6,hown⟩
                 clear hown hgrow hat hlt6 hob ba6 v6 r6 z6 b6)
  all_goals
   have HN:Hid (∀ wz,dH wz (w.heap.size+2) (ok&&rep) (.slice (some ⟨g,0,none⟩) (n+1) cap)->wz.ownsRow w.heap.size 54 3 (.slice (some ⟨g,0,none⟩) (n+1) cap) (n+1) (fK bs0++[.int .i64 (k:Int),.string N,.bool rep])->RX wz w.heap.size rk rt o s2 h2 p pa2 q2 mv rn pr o3 s3 h3 p3 pa3 q3->dH wz (w.heap.size+1) false (.slice none 0 0)->Below w.heap.size w wz->qP w rk rt o s2 h2 p pa2 q2 mv rn pr o3 s3 h3 p3 pa3 q3 (bE (ps.take (k+1)) (dP rk rt o s2 h2 p pa2 q2 mv rn pr o3 s3 h3 p3 pa3 q3)) wz):=zH fun wz h1_ h2_ h3_ h4_ h5_=>by
    have HL:(bs0++[(⟨k,N.data.toList,rep⟩:Brk)]).length=n+1:=by rw[List.length_append,HNL.out];rfl
    have HA:(bs0++[(⟨k,N.data.toList,rep⟩:Brk)]).all Brk.r=(ok&&rep):=by rw[List.all_append,HOK.out];simp
    have HCs:fK (bs0++[(⟨k,N.data.toList,rep⟩:Brk)])=fK bs0++[.int .i64 (k:Int),.string N,.bool rep]:=by
     rw[sQ];unfold aF4;rw[lP]
    rw[HTk.out,HBK.out];simp only[Bool.false_eq_true,if_false];exact⟨⟨_,by rw[HA];exact h1_,by rw[HL,HCs];exact h2_⟩,h3_,h4_,h5_⟩
   clear HTk HBK
   cases rep
   all_goals
    obtain⟨v6,r6,z6,b6,o6⟩:=X6.out;have q1:=HN.out (w6.setCell ⟨w.heap.size+2,1,none⟩ (.slice (some ⟨g,0,none⟩) (n+1) cap));have q2:=HN.out ((w6.setCell ⟨w.heap.size+2,1,none⟩ (.slice (some ⟨g,0,none⟩) (n+1) cap)).setCell ⟨w.heap.size+2,0,none⟩ (.bool false));have Q1:=zH fun h=>q1 h (fM o6 v6 (by decide)) (dN r6 hne2 _) (dN z6 hne3 _) (b6.setCell (p:=⟨w.heap.size+2,1,none⟩) (Nat.le_add_right _ _) _);have Q2:=zH fun h=>q2 h (fM (fM o6 v6 (by decide)) (v6.set1 _) (by decide)) (dN (dN r6 hne2 _) hne2 _) (dN (dN z6 hne3 _) hne3 _) ((b6.setCell (p:=⟨w.heap.size+2,1,none⟩) (Nat.le_add_right _ _) _).setCell (p:=⟨w.heap.size+2,0,none⟩) (Nat.le_add_right _ _) _);have V1:=zH (v6.set1 (.slice (some ⟨g,0,none⟩) (n+1) cap));clear q1 q2 v6 r6 z6 b6 o6 X6 HN O5 H5
    go_wp2
    go_roundw
    case rel=>first
     | exact⟨k+1,by omega,by go_num,zH (Q2.out (by rw[Bool.and_false];exact V1.out.set0 false))⟩
     | exact⟨k+1,by omega,by go_num,zH (Q1.out (by rw[Bool.and_true];exact V1.out))⟩
    case measure=>simp[intOf];omega
theorem bA1 (ps:List (List D × Bool))(hl:ps.length<=1000)(hf:∀ p∈ps,eX p.1)(rk:Int)(rt:ByteArray)(o:Bool)(s2 h2:ByteArray)(p:Int)(pa2 q2:ByteArray)(mv:Bool)(rn:ByteArray)(pr:Bool)(o3:Bool)(s3 h3:ByteArray)(p3:Int)(pa3 q3:ByteArray)(zt:rt.size<=100000)(su1:s2.size<=100000)(su2:h2.size<=100000)(su3:pa2.size<=100000)(su4:q2.size<=100000)(sv1:s3.size<=100000)(sv2:h3.size<=100000)(sv3:pa3.size<=100000)(sv4:q3.size<=100000)(b:Bool)(hb:rV ps (dP rk rt o s2 h2 p pa2 q2 mv rn pr o3 s3 h3 p3 pa3 q3)=b)(bs:List Brk)(hbs:bE ps (dP rk rt o s2 h2 p pa2 q2 mv rn pr o3 s3 h3 p3 pa3 q3)=bs):Hid (∀ W pv,dZ W->bM W pv ps->Calls Tryz.prog 26 #[pv,bN rk rt o s2 h2 p pa2 q2 mv rn pr o3 s3 h3 p3 pa3 q3] W fun e w'=>∃ ua uc,e=.returned (.agg #[.bool b,.slice ua bs.length uc])/\dI w' (.slice ua bs.length uc) bs/\Below W.heap.size W w'):=zH fun W pv h1_ h2_=>by
 refine(uL ps hl hf pv rk rt o s2 h2 p pa2 q2 mv rn pr o3 s3 h3 p3 pa3 q3 zt su1 su2 su3 su4 sv1 sv2 sv3 sv4 W h1_ h2_).mono ?_;rintro e w' ⟨u,he,ho,hbw⟩;rw[hb]at he;rw[hbs]at ho;have hi:=dI.of_row ho;obtain⟨ua,uc,rfl⟩:=hi.form;exact⟨ua,uc,he,hi,hbw⟩
end Go.Proofs.YthnogdodlhkldaaGreatDoor
