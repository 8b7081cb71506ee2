/- What a list of sources lets be: the document's; the law's own question. -/
import Derived.Test.YthnogdodlhkldaaGreatDoorAlwZ
import Derived.Test.YthnogdodlhkldaaGreatDoorLstQ
import Derived.Test.YthnogdodlhkldaaGreatDoorRefYB
set_option maxRecDepth 100000
set_option maxHeartbeats 4000000
namespace Go.Proofs.YthnogdodlhkldaaGreatDoor
open Go.RowKit
theorem aL3 (L:List bI)(v:Value)(hl:L.length<=1000000)(k0:Int)(b:Bool)(hb:dY L k0=b)(w:World)(hv:aK w v L):Calls Tryz.prog 70 #[v,.int .i64 k0] w fun e w'=>e=.returned (.bool b)/\Below w.heap.size w w':=by
 obtain⟨a0,c0,rfl⟩:=hv.form;have HV:=zH hv;have HR:=zH hb;clear hv hb
 go_enter Tryz.func70,Tryz.ntmps70
 go_wp2
 go_loop [5] (fun i=>∃ n:Nat,n<=L.length/\i=.int .i64 n/\Hid (∀ j,(h:j<L.length)->j<n->(fun a:bI=>decide (a.k=k0)) L[j]=false)) (fun i=>L.length - (intOf i).toNat)
 case atStart=>exact⟨0,Nat.zero_le _,rfl,zH fun j _ h=>absurd h (Nat.not_lt_zero _)⟩
 case round =>
  obtain⟨n,hn,rfl,HN⟩:=hrel
  by_cases hlt:n<L.length
  case neg =>
   obtain rfl:n=L.length:=by omega
   have HE:=zH ((iD (L:=L) (f:=fun a:bI=>decide (a.k=k0)) HN.out).symm.trans HR.out);clear HN HV HR
   go_wp2
   go_ret
   exact⟨aA HE.out,zB _ _⟩
  obtain⟨B,off,rfl,hcell⟩:=HV.out.at hlt;have HT:=zH (iF (f:=fun a:bI=>decide (a.k=k0)) hlt);have HM:=zH (iC (f:=fun a:bI=>decide (a.k=k0)) hlt HN.out);have c0:=hcell 0 (.int .i64 L[n].k) rfl;rw[Nat.add_zero]at c0;clear hcell HN;generalize L[n]=a at c0 HT HM;generalize a.k=K at c0 HT HM
  cases g:(K==k0)
  · have HM2:=zH (HM.out (decide_eq_false (beq_eq_false_iff_ne.1 g)))
    clear HM HT
    go_wp2
    go_round
    case rel=>exact⟨n+1,by omega,by go_num,HM2⟩
    case measure=>simp[intOf];omega
  · have HE:=zH ((HT.out (decide_eq_true (beq_iff_eq.1 g))).symm.trans HR.out)
    clear HM HT
    go_wp2
    go_ret
    exact⟨aA HE.out,zB _ _⟩
theorem dC (L:List bI)(v:Value)(hl:L.length<=1000000)(k0:Int)(b:Bool)(hb:dY L k0=b):Hid (∀ W,aK W v L->Calls Tryz.prog 70 #[v,.int .i64 k0] W fun e w'=>e=.returned (.bool b)/\Below W.heap.size W w') :=
 zH fun W hv=>aL3 L v hl k0 b hb W hv
theorem wE (L:List bI)(v:Value)(hl:L.length<=1000000)(k0:Int)(t0:ByteArray)(b:Bool)(hb:iN L k0 t0.data.toList=b)(w:World)(hv:aK w v L):Calls Tryz.prog 108 #[v,.int .i64 k0,.string t0] w fun e w'=>e=.returned (.bool b)/\Below w.heap.size w w':=by
 obtain⟨a0,c0,rfl⟩:=hv.form;have HR:=zH hb;have HV:=zH hv;clear hv hb
 go_enter Tryz.func108,Tryz.ntmps108
 go_wp2
 go_loop [7] (fun i=>∃ n:Nat,n<=L.length/\i=.int .i64 n/\Hid (∀ j,(h:j<L.length)->j<n->(fun a:bI=>decide (a.k=k0)&&decide (a.t=t0.data.toList)) L[j]=false)) (fun i=>L.length - (intOf i).toNat)
 case atStart=>exact⟨0,Nat.zero_le _,rfl,zH fun j _ h=>absurd h (Nat.not_lt_zero _)⟩
 case round =>
  obtain⟨n,hn,rfl,HN⟩:=hrel
  by_cases hlt:n<L.length
  case neg =>
   obtain rfl:n=L.length:=by omega
   have HE:=zH ((iD (L:=L) (f:=(fun a:bI=>decide (a.k=k0)&&decide (a.t=t0.data.toList))) HN.out).symm.trans HR.out);clear HN
   go_wp2
   go_ret
   exact⟨aA HE.out,zB _ _⟩
  obtain⟨B,off,rfl,hcell⟩:=HV.out.at hlt;have HT:=zH (iF (f:=(fun a:bI=>decide (a.k=k0)&&decide (a.t=t0.data.toList))) hlt);have HM:=zH (iC (f:=(fun a:bI=>decide (a.k=k0)&&decide (a.t=t0.data.toList))) hlt HN.out);obtain⟨T,S,H,PA,hM⟩:=mO L[n];generalize L[n].k=K at hM;generalize L[n].w=wd2 at hM;generalize L[n].p=sp2 at hM;rw[hM]at hcell HT HM;rw[jR]at hcell;have c0:=hcell 0 _ rfl;have c1:=hcell 1 _ rfl;rw[Nat.add_zero]at c0;clear hcell hM HN;obtain⟨b0,g0⟩:∃ b,(K==k0)=b:=⟨_,rfl⟩;obtain⟨b1,g1⟩:∃ b,(T.toList==t0.toList)=b:=⟨_,rfl⟩
  have HG:Hid ((fun a:bI=>decide (a.k=k0)&&decide (a.t=t0.data.toList)) (aJ K T S H wd2 sp2 PA)=(b0&&b1)):=zH (by
   rw[<- g0,<- g1,cZ]
   rfl)
  cases b0<;>cases b1
  · have HM2:=zH (HM.out HG.out)
    clear HM HT HG
    go_wp2
    go_round
    case rel=>exact⟨n+1,by omega,by go_num,HM2⟩
    case measure=>simp[intOf];omega
  · have HM2:=zH (HM.out HG.out)
    clear HM HT HG
    go_wp2
    go_round
    case rel=>exact⟨n+1,by omega,by go_num,HM2⟩
    case measure=>simp[intOf];omega
  · have HM2:=zH (HM.out HG.out)
    clear HM HT HG
    go_wp2
    go_round
    case rel=>exact⟨n+1,by omega,by go_num,HM2⟩
    case measure=>simp[intOf];omega
  · have HE:=zH ((HT.out HG.out).symm.trans HR.out)
    clear HM HT HG
    go_wp2
    go_ret
    exact⟨aA HE.out,zB _ _⟩
theorem nI (L:List bI)(v:Value)(hl:L.length<=1000000)(k0:Int)(t0:ByteArray)(b:Bool)(hb:iN L k0 t0.data.toList=b):Hid (∀ W,aK W v L->Calls Tryz.prog 108 #[v,.int .i64 k0,.string t0] W fun e w'=>e=.returned (.bool b)/\Below W.heap.size W w') :=
 zH fun W hv=>wE L v hl k0 t0 b hb W hv
theorem uuBlocks (w:World)(o:Bool)(s2 h2:ByteArray)(p:Int)(pa2 q2:ByteArray)(o3:Bool)(s3 h3:ByteArray)(p3:Int)(pa3 q3:ByteArray) :
 BX ((w.alloc (.cells #[.bool o,.string s2,.string h2,.int .i64 p,.string pa2,.string q2] 40)).alloc (.cells #[.bool o3,.string s3,.string h3,.int .i64 p3,.string pa3,.string q3] 40)) w.heap.size o s2 h2 p pa2 q2/\BX ((w.alloc (.cells #[.bool o,.string s2,.string h2,.int .i64 p,.string pa2,.string q2] 40)).alloc (.cells #[.bool o3,.string s3,.string h3,.int .i64 p3,.string pa3,.string q3] 40)) (w.heap.size+1) o3 s3 h3 p3 pa3 q3/\Below w.heap.size w ((w.alloc (.cells #[.bool o,.string s2,.string h2,.int .i64 p,.string pa2,.string q2] 40)).alloc (.cells #[.bool o3,.string s3,.string h3,.int .i64 p3,.string pa3,.string q3] 40)):=by
 refine⟨?_,?_,?_⟩
 · unfold BX
   rw[bT,dJ]<;>simp
 · unfold BX
   rw[dJ];simp
 · exact((zB w.heap.size w).alloc (zL _) _).alloc (by simp) _
structure EX (w:World) (B o:Nat) (k:Int) (t s h:ByteArray) (wd:Bool) (sp:Int) (pa:ByteArray):Prop where
 c0:w.cell? ⟨B,o,none⟩=some (.int .i64 k)
 c1:w.cell? ⟨B,o+1,none⟩=some (.string t)
 c2:w.cell? ⟨B,o+2,none⟩=some (.string s)
 c3:w.cell? ⟨B,o+3,none⟩=some (.string h)
 c4:w.cell? ⟨B,o+4,none⟩=some (.bool wd)
 c5:w.cell? ⟨B,o+5,none⟩=some (.int .i64 sp)
 c6:w.cell? ⟨B,o+6,none⟩=some (.string pa)
theorem EX.cs {w:World}{B o:Nat}{k:Int}{t s h:ByteArray}{wd:Bool}{sp:Int}{pa:ByteArray}(x:EX w B o k t s h wd sp pa):w.cell? ⟨B,o,none⟩=some (.int .i64 k)/\w.cell? ⟨B,o+1,none⟩=some (.string t)/\w.cell? ⟨B,o+2,none⟩=some (.string s)/\w.cell? ⟨B,o+3,none⟩=some (.string h)/\w.cell? ⟨B,o+4,none⟩=some (.bool wd)/\w.cell? ⟨B,o+5,none⟩=some (.int .i64 sp)/\w.cell? ⟨B,o+6,none⟩=some (.string pa):=⟨x.c0,x.c1,x.c2,x.c3,x.c4,x.c5,x.c6⟩
theorem EX.below {w w':World}{B o:Nat}{k:Int}{t s h:ByteArray}{wd:Bool}{sp:Int}{pa:ByteArray}(x:EX w B o k t s h wd sp pa)(hb:Below w.heap.size w w'):EX w' B o k t s h wd sp pa :=
 ⟨by rw[hb.cell (aH x.c0)];exact x.c0,by rw[hb.cell (aH x.c1)];exact x.c1,by rw[hb.cell (aH x.c2)];exact x.c2,by rw[hb.cell (aH x.c3)];exact x.c3,by rw[hb.cell (aH x.c4)];exact x.c4,by rw[hb.cell (aH x.c5)];exact x.c5,by rw[hb.cell (aH x.c6)];exact x.c6⟩
theorem EX.drew {w:World}{B o:Nat}{k:Int}{t s h:ByteArray}{wd:Bool}{sp:Int}{pa:ByteArray}(x:EX w B o k t s h wd sp pa):EX w.drew B o k t s h wd sp pa:=x.below (zB _ _).drew
theorem zP (o:Bool)(s2 h2:ByteArray)(p:Int)(pa2 q2:ByteArray)(o3:Bool)(s3 h3:ByteArray)(p3:Int)(pa3 q3:ByteArray)(m:Bool)(su1:s2.size<=100000)(su2:h2.size<=100000)(su3:pa2.size<=100000)(su4:q2.size<=100000)(sv1:s3.size<=100000)(sv2:h3.size<=100000)(sv3:pa3.size<=100000)(sv4:q3.size<=100000)(L:List bI)(v:Value)(hl:L.length<=1000000)(hL:∀ a∈L,a.h.length<=100000/\a.pa.length<=100000)(b:Bool)(hb:pM L (uM o s2 h2 p pa2 q2) (uM o3 s3 h3 p3 pa3 q3) m=b)(w:World)(hw:dZ w)(hv:aK w v L):Calls Tryz.prog 72 #[v,uV o s2 h2 p pa2 q2,uV o3 s3 h3 p3 pa3 q3,.bool m] w fun e w'=>e=.returned (.bool b)/\Below w.heap.size w w':=by
 obtain⟨a0,c0,rfl⟩:=hv.form;have HQ:=zH hb;clear hb;have HL:=zH hL;clear hL;unfold uV at *
 go_enter Tryz.func72,Tryz.ntmps72
 go_wp2
 obtain⟨x1,x2,BB⟩:=uuBlocks w o s2 h2 p pa2 q2 o3 s3 h3 p3 pa3 q3;have gB:=((hw.made (.cells #[.bool o,.string s2,.string h2,.int .i64 p,.string pa2,.string q2] 40)).made (.cells #[.bool o3,.string s3,.string h3,.int .i64 p3,.string pa3,.string q3] 40));have lB:=((hv.made (.cells #[.bool o,.string s2,.string h2,.int .i64 p,.string pa2,.string q2] 40)).made (.cells #[.bool o3,.string s3,.string h3,.int .i64 p3,.string pa3,.string q3] 40));clear hw hv;generalize hR:w.heap.size=Ra at x1 x2 BB ⊢;have HR:=zH hR;clear hR;obtain⟨Rb,hRb⟩:∃ Rb,Ra+1=Rb:=⟨_,rfl⟩;rw[hRb]at x2
 try rw[hRb]
 clear hRb;generalize(w.alloc (.cells #[.bool o,.string s2,.string h2,.int .i64 p,.string pa2,.string q2] 40)).alloc (.cells #[.bool o3,.string s3,.string h3,.int .i64 p3,.string pa3,.string q3] 40)=w1 at x1 x2 gB lB BB ⊢;have xRa_w1:=x1;have xRb_w1:=x2;clear x1 x2
 go_loopw [9] (fun i wr=>∃ n:Nat,n<=L.length/\i=.int .i64 n/\(BX wr Ra o s2 h2 p pa2 q2/\BX wr Rb o3 s3 h3 p3 pa3 q3/\Below Ra w wr/\dZ wr/\aK wr (.slice a0 L.length c0) L)/\Hid (∀ j,(h:j<L.length)->j<n->(fun a=>eH a (uM o s2 h2 p pa2 q2) (uM o3 s3 h3 p3 pa3 q3) m) L[j]=false)) (fun i _=>L.length - (intOf i).toNat)
 case atStart=>exact⟨0,Nat.zero_le _,rfl,⟨xRa_w1,xRb_w1,BB,gB,lB⟩,zH fun j _ h=>absurd h (Nat.not_lt_zero _)⟩
 case round =>
  obtain⟨n,hn,rfl,⟨xRa_wr,xRb_wr,Bwr,gwr,lwr⟩,HN⟩:=hrel;clear xRa_w1 xRb_w1 BB gB lB
  by_cases hlt:n<L.length
  case neg =>
   obtain rfl:n=L.length:=by omega
   have HE:=zH ((iD (L:=L) (f:=(fun a=>eH a (uM o s2 h2 p pa2 q2) (uM o3 s3 h3 p3 pa3 q3) m)) HN.out).symm.trans HQ.out);clear HN xRa_wr xRb_wr gwr lwr
   go_wp2
   go_ret
   exact⟨aA HE.out,by rw[HR.out];exact Bwr⟩
  obtain⟨B,off,rfl,hcell⟩:=lwr.at hlt;have HT:=zH (iF (f:=(fun a=>eH a (uM o s2 h2 p pa2 q2) (uM o3 s3 h3 p3 pa3 q3) m)) hlt);have HM:=zH (iC (f:=(fun a=>eH a (uM o s2 h2 p pa2 q2) (uM o3 s3 h3 p3 pa3 q3) m)) hlt HN.out);have HS:=zH (HL.out _ (List.getElem_mem hlt));obtain⟨T,S,H,PA,hM⟩:=mO L[n];generalize L[n].k=K at hM;generalize L[n].w=wd at hM;generalize L[n].p=sp at hM;rw[hM]at hcell HT HM HS;rw[jR]at hcell;have ewr:EX wr B (off+n * 7) K T S H wd sp PA:=⟨hcell 0 _ rfl,hcell 1 _ rfl,hcell 2 _ rfl,hcell 3 _ rfl,hcell 4 _ rfl,hcell 5 _ rfl,hcell 6 _ rfl⟩;clear hcell hM HN;obtain⟨b2,hb2⟩:∃ b,(fun a=>eH a (uM o s2 h2 p pa2 q2) (uM o3 s3 h3 p3 pa3 q3) m) (aJ K T S H wd sp PA)=b:=⟨_,rfl⟩;have CR:=aJ6 K T S H wd sp PA o s2 h2 p pa2 q2 o3 s3 h3 p3 pa3 q3 m (by have:=HS.out.1;unfold aJ at this;simp only[aE]at this;exact this) (by have:=HS.out.2;unfold aJ at this;simp only[aE]at this;exact this) su1 su2 su3 su4 sv1 sv2 sv3 sv4 b2 hb2;unfold aP uV at CR;have HB:=zH hb2;clear hb2 HS;obtain⟨dRa0,dRa1,dRa2,dRa3,dRa4,dRa5⟩:=xRa_wr.cs;obtain⟨dRb0,dRb1,dRb2,dRb3,dRb4,dRb5⟩:=xRb_wr.cs;obtain⟨s0_,s1_,s2_,s3_,s4_,s5_,s6_⟩:=ewr.cs
  go_wp2
  clear dRa0 dRa1 dRa2 dRa3 dRa4 dRa5 dRb0 dRb1 dRb2 dRb3 dRb4 dRb5;clear s0_ s1_ s2_ s3_ s4_ s5_ s6_;obtain⟨C,hC⟩:∃ C:World->Prop,∀ w',C w'↔(BX w' Ra o s2 h2 p pa2 q2/\BX w' Rb o3 s3 h3 p3 pa3 q3/\Below Ra w w'/\dZ w'/\aK w' (.slice (some ⟨B,off,none⟩) L.length c0) L/\EX w' B (off+n * 7) K T S H wd sp PA):=⟨_,fun _=>Iff.rfl⟩;have HC:=zH hC;clear hC;have hC0:C wr.drew:=(HC.out _).2 ⟨xRa_wr,xRb_wr,Bwr.drew,gwr.drew,lwr.drew,ewr.drew⟩
  have HK:Hid (∀ w',C w'->∀ w7,Below w'.heap.size w' w7->C w7):=zH fun w' hc w7 b=>by
   obtain⟨xRa,xRb,K4,g7,l7,e7⟩:=(HC.out w').1 hc;exact(HC.out _).2 ⟨xRa.below b,xRb.below b,K4.trans (b.mono (zT xRa.lt)),g7.below b,l7.below b,e7.below b⟩
  clear xRa_wr xRb_wr Bwr gwr lwr ewr;refine aY C (by kernel_rfl) (by kernel_rfl) hC0 ?_;clear hC0
  repeat
   first
    | go_big_quiet_skip
    | (go_big_quiet_want;go_big_quiet_op;go_big_quiet_on)
    | (refine BigFrame.wpQuiet_want rfl (fun K hK => ?_)
       apply Exists.intro
       refine⟨fun w' hc => ?_,hK _ ?_⟩
       · obtain⟨xRa,xRb,K4,g7,l7,e7⟩:=(HC.out w').1 hc
         obtain⟨dRa0,dRa1,dRa2,dRa3,dRa4,dRa5⟩:=xRa.cs;obtain⟨dRb0,dRb1,dRb2,dRb3,dRb4,dRb5⟩:=xRb.cs;obtain⟨s0_,s1_,s2_,s3_,s4_,s5_,s6_⟩:=e7.cs;unfold Oper.quietAt
         go_simp
         first
          | done
          | rfl
          | ((with_reducible refine(CR.out _ g7).mono ?_);rintro e w7 ⟨rfl,b7⟩;exact⟨rfl,HK.out w' hc w7 b7⟩)
       clear hK K
       simp only[Act.put,List.setIfInBounds_toArray,List.set_cons_zero,List.set_cons_succ])
  refine wpQuiet_nil ?_;intro w2 hc;obtain⟨xRa_w2,xRb_w2,Bw2,gw2,lw2,ew2⟩:=(HC.out w2).1 hc;clear hc HC HK
  cases b2
  · have HM2:=zH (HM.out HB.out)
    clear HM HT HB ew2
    go_wp2
    go_roundw
    case rel=>exact⟨n+1,by omega,by go_num,⟨xRa_w2,xRb_w2,Bw2,gw2,lw2⟩,HM2⟩
    case measure=>simp[intOf];omega
  · have HE:=zH ((HT.out HB.out).symm.trans HQ.out)
    clear HM HT HB ew2
    go_wp2
    go_ret
    exact⟨aA HE.out,by rw[HR.out];exact Bw2⟩
theorem wD (o:Bool)(s2 h2:ByteArray)(p:Int)(pa2 q2:ByteArray)(o3:Bool)(s3 h3:ByteArray)(p3:Int)(pa3 q3:ByteArray)(m:Bool)(su1:s2.size<=100000)(su2:h2.size<=100000)(su3:pa2.size<=100000)(su4:q2.size<=100000)(sv1:s3.size<=100000)(sv2:h3.size<=100000)(sv3:pa3.size<=100000)(sv4:q3.size<=100000)(L:List bI)(v:Value)(hl:L.length<=1000000)(hL:∀ a∈L,a.h.length<=100000/\a.pa.length<=100000)(b:Bool)(hb:pM L (uM o s2 h2 p pa2 q2) (uM o3 s3 h3 p3 pa3 q3) m=b):Hid (∀ W,dZ W->aK W v L->Calls Tryz.prog 72 #[v,uV o s2 h2 p pa2 q2,uV o3 s3 h3 p3 pa3 q3,.bool m] W fun e w'=>e=.returned (.bool b)/\Below W.heap.size W w') :=
 zH fun W hw hv=>zP o s2 h2 p pa2 q2 o3 s3 h3 p3 pa3 q3 m su1 su2 su3 su4 sv1 sv2 sv3 sv4 L v hl hL b hb W hw hv
theorem wI (L:List bI)(v:Value)(hl:L.length<=1000000)(n:ByteArray)(b:Bool)(hb:iW L n.data.toList=b)(w:World)(hv:aK w v L):Calls Tryz.prog 71 #[v,.string n] w fun e w'=>e=.returned (.bool b)/\Below w.heap.size w w':=by
 obtain⟨b0,g0⟩:∃ b,n.toList.isEmpty=b:=⟨_,rfl⟩;obtain⟨b1,h1⟩:∃ b,iN L 9 n.data.toList=b:=⟨_,rfl⟩;have HE:Hid ((!b0&&b1)=b):=zH (by rw[<- hb,<- g0,<- h1,dK];rfl);have CT:=nI L v hl 9 n b1 h1;clear hb h1
 cases b0
 · go_enter Tryz.func71,Tryz.ntmps71
   go_wp2_with fail
   refine(CT.out _ hv).mono ?_;rintro e w1 ⟨rfl,b_⟩;have lw1:=hv.below b_;have Bw1:=b_;clear b_ hv
   go_wp2
   go_ret
   exact⟨aA HE.out,Bw1⟩
 · go_enter Tryz.func71,Tryz.ntmps71
   go_wp2
   go_ret
   exact⟨aA HE.out,zB _ _⟩
theorem nJ (L:List bI)(v:Value)(hl:L.length<=1000000)(n:ByteArray)(b:Bool)(hb:iW L n.data.toList=b):Hid (∀ W,aK W v L->Calls Tryz.prog 71 #[v,.string n] W fun e w'=>e=.returned (.bool b)/\Below W.heap.size W w') :=
 zH fun W hv=>wI L v hl n b hb W hv
theorem aL2 (s M:ByteArray)(hs:s.size<=100000)(hM:M.data.toList=fR s.data.toList):Hid (∀ W,Calls Tryz.prog 110 #[.string s] W fun e w'=>e=.returned (.string M)/\Below W.heap.size W w') :=
 zH fun W=>by rw[aM hM];exact bB0 s W (by omega)
theorem aA5 (L:List bI)(v:Value)(hl:L.length<=1000000)(s:ByteArray)(hs:s.size<=100000)(b:Bool)(hb:mI L s.data.toList=b)(w:World)(hv:aK w v L):Calls Tryz.prog 74 #[v,.string s] w fun e w'=>e=.returned (.bool b)/\Below w.heap.size w w':=by
 obtain⟨M,hM⟩:∃ M:ByteArray,M.data.toList=fR s.data.toList:=⟨⟨(fR s.data.toList).toArray⟩,rfl⟩;have CT:=nI L v hl 10 M b (by rw[hM];exact hb);have CO:=aL2 s M hs hM;clear hb hM
 go_enter Tryz.func74,Tryz.ntmps74
 go_wp2_with fail
 refine(CO.out _ ).mono ?_;rintro e w1 ⟨rfl,b_⟩;have lw1:=hv.below b_;have Bw1:=b_;clear b_ hv
 go_wp2_with fail
 refine(CT.out _ lw1).mono ?_;rintro e w2 ⟨rfl,b_⟩;have lw2:=lw1.below b_;have Bw2:=Bw1.trans (b_.mono Bw1.size);clear b_ lw1 Bw1
 go_wp2
 go_ret
 exact⟨rfl,Bw2⟩
theorem aA4 (L:List bI)(v:Value)(hl:L.length<=1000000)(s:ByteArray)(hs:s.size<=100000)(b:Bool)(hb:mI L s.data.toList=b):Hid (∀ W,aK W v L->Calls Tryz.prog 74 #[v,.string s] W fun e w'=>e=.returned (.bool b)/\Below W.heap.size W w') :=
 zH fun W hv=>aA5 L v hl s hs b hb W hv
theorem wL (L:List bI)(v:Value)(hl:L.length<=1000000)(b:Bool)(hb:iY L=b)(w:World)(hv:aK w v L):Calls Tryz.prog 73 #[v] w fun e w'=>e=.returned (.bool b)/\Below w.heap.size w w':=by
 obtain⟨b3,h3⟩:∃ b,dY L 3=b:=⟨_,rfl⟩;obtain⟨b9,h9⟩:∃ b,dY L 9=b:=⟨_,rfl⟩;obtain⟨b10,h10⟩:∃ b,dY L 10=b:=⟨_,rfl⟩;obtain⟨b6,h6⟩:∃ b,dY L 6=b:=⟨_,rfl⟩;have HE:Hid ((b3 && !b9 && !b10 && !b6)=b):=zH (by rw[<- hb,<- h3,<- h9,<- h10,<- h6];rfl);have C3:=dC L v hl 3 b3 h3;have C9:=dC L v hl 9 b9 h9;have C10:=dC L v hl 10 b10 h10;have C6:=dC L v hl 6 b6 h6;clear hb h3 h9 h10 h6
 cases b3
 · go_enter Tryz.func73,Tryz.ntmps73
   go_wp2_with fail
   refine(C3.out _ hv).mono ?_;rintro e w1 ⟨rfl,b_⟩;have lw1:=hv.below b_;have Bw1:=b_;clear b_ hv
   go_wp2
   go_ret
   exact⟨aA HE.out,Bw1⟩
 cases b9
 case true =>
  go_enter Tryz.func73,Tryz.ntmps73
  go_wp2_with fail
  refine(C3.out _ hv).mono ?_;rintro e w1 ⟨rfl,b_⟩;have lw1:=hv.below b_;have Bw1:=b_;clear b_ hv
  go_wp2_with fail
  refine(C9.out _ lw1).mono ?_;rintro e w2 ⟨rfl,b_⟩;have lw2:=lw1.below b_;have Bw2:=Bw1.trans (b_.mono Bw1.size);clear b_ lw1 Bw1
  go_wp2
  go_ret
  exact⟨aA HE.out,Bw2⟩
 cases b10
 case true =>
  go_enter Tryz.func73,Tryz.ntmps73
  go_wp2_with fail
  refine(C3.out _ hv).mono ?_;rintro e w1 ⟨rfl,b_⟩;have lw1:=hv.below b_;have Bw1:=b_;clear b_ hv
  go_wp2_with fail
  refine(C9.out _ lw1).mono ?_;rintro e w2 ⟨rfl,b_⟩;have lw2:=lw1.below b_;have Bw2:=Bw1.trans (b_.mono Bw1.size);clear b_ lw1 Bw1
  go_wp2_with fail
  refine(C10.out _ lw2).mono ?_;rintro e w3 ⟨rfl,b_⟩;have lw3:=lw2.below b_;have Bw3:=Bw2.trans (b_.mono Bw2.size);clear b_ lw2 Bw2
  go_wp2
  go_ret
  exact⟨aA HE.out,Bw3⟩
 go_enter Tryz.func73,Tryz.ntmps73
 go_wp2_with fail
 refine(C3.out _ hv).mono ?_;rintro e w1 ⟨rfl,b_⟩;have lw1:=hv.below b_;have Bw1:=b_;clear b_ hv
 go_wp2_with fail
 refine(C9.out _ lw1).mono ?_;rintro e w2 ⟨rfl,b_⟩;have lw2:=lw1.below b_;have Bw2:=Bw1.trans (b_.mono Bw1.size);clear b_ lw1 Bw1
 go_wp2_with fail
 refine(C10.out _ lw2).mono ?_;rintro e w3 ⟨rfl,b_⟩;have lw3:=lw2.below b_;have Bw3:=Bw2.trans (b_.mono Bw2.size);clear b_ lw2 Bw2
 go_wp2_with fail
 refine(C6.out _ lw3).mono ?_;rintro e w4 ⟨rfl,b_⟩;have lw4:=lw3.below b_;have Bw4:=Bw3.trans (b_.mono Bw3.size);clear b_ lw3 Bw3
 go_wp2
 go_ret
 exact⟨aA HE.out,Bw4⟩
theorem wK (L:List bI)(v:Value)(hl:L.length<=1000000)(b:Bool)(hb:iY L=b):Hid (∀ W,aK W v L->Calls Tryz.prog 73 #[v] W fun e w'=>e=.returned (.bool b)/\Below W.heap.size W w') :=
 zH fun W hv=>wL L v hl b hb W hv
theorem tF (L:List bI)(v:Value)(n s:ByteArray)(lo no ha:Bool)(CL:Hid (∀ W,aK W v L->Calls Tryz.prog 73 #[v] W fun e w'=>e=.returned (.bool lo)/\Below W.heap.size W w'))(CN:Hid (∀ W,aK W v L->Calls Tryz.prog 71 #[v,.string n] W fun e w'=>e=.returned (.bool no)/\Below W.heap.size W w'))(CH:Hid (∀ W,aK W v L->Calls Tryz.prog 74 #[v,.string s] W fun e w'=>e=.returned (.bool ha)/\Below W.heap.size W w'))(b:Bool)(he:(lo || (no || ha))=b)(w:World)(hv:aK w v L):Calls Tryz.prog 46 #[v,.int .i64 1,.string n,.string s] w fun e w'=>e=.returned (.bool b)/\Below w.heap.size w w':=by
 have HE:=zH he;clear he
 cases lo
 · cases no
   · go_enter Tryz.func46,Tryz.ntmps46
     go_wp2_with fail
     refine(CL.out _ hv).mono ?_;rintro e w1 ⟨rfl,b_⟩;have lw1:=hv.below b_;have Bw1:=b_;clear b_ hv
     go_wp2_with fail
     refine(CN.out _ lw1).mono ?_;rintro e w2 ⟨rfl,b_⟩;have lw2:=lw1.below b_;have Bw2:=Bw1.trans (b_.mono Bw1.size);clear b_ lw1 Bw1
     go_wp2_with fail
     refine(CH.out _ lw2).mono ?_;rintro e w3 ⟨rfl,b_⟩;have lw3:=lw2.below b_;have Bw3:=Bw2.trans (b_.mono Bw2.size);clear b_ lw2 Bw2
     go_wp2
     go_ret
     exact⟨aA HE.out,Bw3⟩
   · go_enter Tryz.func46,Tryz.ntmps46
     go_wp2_with fail
     refine(CL.out _ hv).mono ?_;rintro e w1 ⟨rfl,b_⟩;have lw1:=hv.below b_;have Bw1:=b_;clear b_ hv
     go_wp2_with fail
     refine(CN.out _ lw1).mono ?_;rintro e w2 ⟨rfl,b_⟩;have lw2:=lw1.below b_;have Bw2:=Bw1.trans (b_.mono Bw1.size);clear b_ lw1 Bw1
     go_wp2
     go_ret
     exact⟨aA HE.out,Bw2⟩
 · go_enter Tryz.func46,Tryz.ntmps46
   go_wp2_with fail
   refine(CL.out _ hv).mono ?_;rintro e w1 ⟨rfl,b_⟩;have lw1:=hv.below b_;have Bw1:=b_;clear b_ hv
   go_wp2
   go_ret
   exact⟨aA HE.out,Bw1⟩
theorem tE (L:List bI)(v:Value)(n s:ByteArray)(lo h7 ha:Bool)(CL:Hid (∀ W,aK W v L->Calls Tryz.prog 73 #[v] W fun e w'=>e=.returned (.bool lo)/\Below W.heap.size W w'))(C7:Hid (∀ W,aK W v L->Calls Tryz.prog 70 #[v,.int .i64 7] W fun e w'=>e=.returned (.bool h7)/\Below W.heap.size W w'))(CH:Hid (∀ W,aK W v L->Calls Tryz.prog 74 #[v,.string s] W fun e w'=>e=.returned (.bool ha)/\Below W.heap.size W w'))(b:Bool)(he:(lo || (h7&&ha))=b)(w:World)(hv:aK w v L):Calls Tryz.prog 46 #[v,.int .i64 3,.string n,.string s] w fun e w'=>e=.returned (.bool b)/\Below w.heap.size w w':=by
 have HE:=zH he;clear he
 cases lo
 · cases h7
   · go_enter Tryz.func46,Tryz.ntmps46
     go_wp2_with fail
     refine(CL.out _ hv).mono ?_;rintro e w1 ⟨rfl,b_⟩;have lw1:=hv.below b_;have Bw1:=b_;clear b_ hv
     go_wp2_with fail
     refine(C7.out _ lw1).mono ?_;rintro e w2 ⟨rfl,b_⟩;have lw2:=lw1.below b_;have Bw2:=Bw1.trans (b_.mono Bw1.size);clear b_ lw1 Bw1
     go_wp2
     go_ret
     exact⟨aA HE.out,Bw2⟩
   · go_enter Tryz.func46,Tryz.ntmps46
     go_wp2_with fail
     refine(CL.out _ hv).mono ?_;rintro e w1 ⟨rfl,b_⟩;have lw1:=hv.below b_;have Bw1:=b_;clear b_ hv
     go_wp2_with fail
     refine(C7.out _ lw1).mono ?_;rintro e w2 ⟨rfl,b_⟩;have lw2:=lw1.below b_;have Bw2:=Bw1.trans (b_.mono Bw1.size);clear b_ lw1 Bw1
     go_wp2_with fail
     refine(CH.out _ lw2).mono ?_;rintro e w3 ⟨rfl,b_⟩;have lw3:=lw2.below b_;have Bw3:=Bw2.trans (b_.mono Bw2.size);clear b_ lw2 Bw2
     go_wp2
     go_ret
     exact⟨aA HE.out,Bw3⟩
 · go_enter Tryz.func46,Tryz.ntmps46
   go_wp2_with fail
   refine(CL.out _ hv).mono ?_;rintro e w1 ⟨rfl,b_⟩;have lw1:=hv.below b_;have Bw1:=b_;clear b_ hv
   go_wp2
   go_ret
   exact⟨aA HE.out,Bw1⟩
theorem tH (L:List bI)(v:Value)(n s:ByteArray)(lo h7 ha:Bool)(CL:Hid (∀ W,aK W v L->Calls Tryz.prog 73 #[v] W fun e w'=>e=.returned (.bool lo)/\Below W.heap.size W w'))(C7:Hid (∀ W,aK W v L->Calls Tryz.prog 70 #[v,.int .i64 7] W fun e w'=>e=.returned (.bool h7)/\Below W.heap.size W w'))(CH:Hid (∀ W,aK W v L->Calls Tryz.prog 74 #[v,.string s] W fun e w'=>e=.returned (.bool ha)/\Below W.heap.size W w'))(b:Bool)(he:(lo || (h7&&ha))=b)(w:World)(hv:aK w v L):Calls Tryz.prog 46 #[v,.int .i64 4,.string n,.string s] w fun e w'=>e=.returned (.bool b)/\Below w.heap.size w w':=by
 have HE:=zH he;clear he
 cases lo
 · cases h7
   · go_enter Tryz.func46,Tryz.ntmps46
     go_wp2_with fail
     refine(CL.out _ hv).mono ?_;rintro e w1 ⟨rfl,b_⟩;have lw1:=hv.below b_;have Bw1:=b_;clear b_ hv
     go_wp2_with fail
     refine(C7.out _ lw1).mono ?_;rintro e w2 ⟨rfl,b_⟩;have lw2:=lw1.below b_;have Bw2:=Bw1.trans (b_.mono Bw1.size);clear b_ lw1 Bw1
     go_wp2
     go_ret
     exact⟨aA HE.out,Bw2⟩
   · go_enter Tryz.func46,Tryz.ntmps46
     go_wp2_with fail
     refine(CL.out _ hv).mono ?_;rintro e w1 ⟨rfl,b_⟩;have lw1:=hv.below b_;have Bw1:=b_;clear b_ hv
     go_wp2_with fail
     refine(C7.out _ lw1).mono ?_;rintro e w2 ⟨rfl,b_⟩;have lw2:=lw1.below b_;have Bw2:=Bw1.trans (b_.mono Bw1.size);clear b_ lw1 Bw1
     go_wp2_with fail
     refine(CH.out _ lw2).mono ?_;rintro e w3 ⟨rfl,b_⟩;have lw3:=lw2.below b_;have Bw3:=Bw2.trans (b_.mono Bw2.size);clear b_ lw2 Bw2
     go_wp2
     go_ret
     exact⟨aA HE.out,Bw3⟩
 · go_enter Tryz.func46,Tryz.ntmps46
   go_wp2_with fail
   refine(CL.out _ hv).mono ?_;rintro e w1 ⟨rfl,b_⟩;have lw1:=hv.below b_;have Bw1:=b_;clear b_ hv
   go_wp2
   go_ret
   exact⟨aA HE.out,Bw1⟩
theorem wM (k:Int)(n1:(k==1)=false)(n3:(k==3)=false)(n4:(k==4)=false)(v:Value)(n s:ByteArray)(w:World):Calls Tryz.prog 46 #[v,.int .i64 k,.string n,.string s] w fun e w'=>e=.returned (.bool false)/\Below w.heap.size w w':=by
 go_enter Tryz.func46,Tryz.ntmps46
 go_wp2
 go_ret
 exact⟨rfl,zB _ _⟩
theorem tI (L:List bI)(v:Value)(hl:L.length<=1000000)(k:Int)(n s:ByteArray)(hs:s.size<=100000)(b:Bool)(hb:cC L k n.data.toList s.data.toList=b)(w:World)(hv:aK w v L):Calls Tryz.prog 46 #[v,.int .i64 k,.string n,.string s] w fun e w'=>e=.returned (.bool b)/\Below w.heap.size w w':=by
 have CL:=wK L v hl _ rfl;have CN:=nJ L v hl n _ rfl;have CH:=aA4 L v hl s hs _ rfl
 by_cases e1:k=1
 · subst e1
   exact tF L v n s _ _ _ CL CN CH b (by rw[<- hb];unfold cC;rw[if_pos rfl];simp only[Bool.or_assoc]) w hv
 by_cases e3:k=3
 · subst e3
   exact tE L v n s _ _ _ CL (dC L v hl 7 _ rfl) CH b (by rw[<- hb];unfold cC;rw[if_neg (by decide),if_pos (by decide)]) w hv
 by_cases e4:k=4
 · subst e4
   exact tH L v n s _ _ _ CL (dC L v hl 7 _ rfl) CH b (by rw[<- hb];unfold cC;rw[if_neg (by decide),if_pos (by decide)]) w hv
 rw[show b=false by rw[<- hb];unfold cC;rw[if_neg e1,if_neg (by rintro(h | h);exact e3 h;exact e4 h)]];exact wM k (beq_eq_false_iff_ne.2 e1) (beq_eq_false_iff_ne.2 e3) (beq_eq_false_iff_ne.2 e4) v n s w
theorem tG (L:List bI)(v:Value)(hl:L.length<=1000000)(k:Int)(n s:ByteArray)(hs:s.size<=100000)(b:Bool)(hb:cC L k n.data.toList s.data.toList=b):Hid (∀ W,aK W v L->Calls Tryz.prog 46 #[v,.int .i64 k,.string n,.string s] W fun e w'=>e=.returned (.bool b)/\Below W.heap.size W w') :=
 zH fun W hv=>tI L v hl k n s hs b hb W hv
theorem aA8 (L:List bI)(v:Value)(rk:Int)(rt:ByteArray)(o:Bool)(s2 h2:ByteArray)(p:Int)(pa2 q2:ByteArray)(mv:Bool)(rn:ByteArray)(pr:Bool)(o3:Bool)(s3 h3:ByteArray)(p3:Int)(pa3 q3:ByteArray)(CN:Hid (∀ W,aK W v L->Calls Tryz.prog 71 #[v,.string rn] W fun e w'=>e=.returned (.bool true)/\Below W.heap.size W w'))(C6:Hid (∀ W,aK W v L->Calls Tryz.prog 70 #[v,.int .i64 6] W fun e w'=>e=.returned (.bool true)/\Below W.heap.size W w'))(b:Bool)(he:true=b)(w:World)(hw:dZ w)(hv:aK w v L):Calls Tryz.prog 44 #[v,bN rk rt o s2 h2 p pa2 q2 mv rn pr o3 s3 h3 p3 pa3 q3] w fun e w'=>e=.returned (.bool b)/\Below w.heap.size w w':=by
 have HE:=zH he;clear he;unfold uV bN at *
 go_enter Tryz.func44,Tryz.ntmps44
 go_wp2_with fail
 have xn:=RX.made w rk rt o s2 h2 p pa2 q2 mv rn pr o3 s3 h3 p3 pa3 q3;have gw1:=hw.made (.cells #[.int .i64 rk,.string rt,.bool o,.string s2,.string h2,.int .i64 p,.string pa2,.string q2,.bool mv,.string rn,.bool pr,.bool o3,.string s3,.string h3,.int .i64 p3,.string pa3,.string q3] 42);have lw1:=hv.made (.cells #[.int .i64 rk,.string rt,.bool o,.string s2,.string h2,.int .i64 p,.string pa2,.string q2,.bool mv,.string rn,.bool pr,.bool o3,.string s3,.string h3,.int .i64 p3,.string pa3,.string q3] 42);have Bw1:Below w.heap.size w (w.alloc (.cells #[.int .i64 rk,.string rt,.bool o,.string s2,.string h2,.int .i64 p,.string pa2,.string q2,.bool mv,.string rn,.bool pr,.bool o3,.string s3,.string h3,.int .i64 p3,.string pa3,.string q3] 42)):=((zB w.heap.size w).alloc (zL _) (.cells #[.int .i64 rk,.string rt,.bool o,.string s2,.string h2,.int .i64 p,.string pa2,.string q2,.bool mv,.string rn,.bool pr,.bool o3,.string s3,.string h3,.int .i64 p3,.string pa3,.string q3] 42));generalize hR:w.heap.size=Ra at xn Bw1 ⊢;have HR:=zH hR;clear hR;generalize w.alloc (.cells #[.int .i64 rk,.string rt,.bool o,.string s2,.string h2,.int .i64 p,.string pa2,.string q2,.bool mv,.string rn,.bool pr,.bool o3,.string s3,.string h3,.int .i64 p3,.string pa3,.string q3] 42)=w1 at xn gw1 lw1 Bw1 ⊢;have xRa_w1:=xn;clear xn hw hv;refine(C6.out _ lw1).mono ?_;rintro e w2 ⟨rfl,b_⟩;have gw2:=gw1.below b_;have lw2:=lw1.below b_;have Bw2:=Bw1.trans (b_.mono (zT xRa_w1.lt));have xRa_w2:=xRa_w1.below b_;clear b_ gw1 lw1 Bw1 xRa_w1;obtain⟨dRa0,dRa1,dRa2,dRa3,dRa4,dRa5,dRa6,dRa7,dRa8,dRa9,dRa10,dRa11,dRa12,dRa13,dRa14,dRa15,dRa16⟩:=xRa_w2.cs
 go_wp2_with fail
 clear dRa0 dRa1 dRa2 dRa3 dRa4 dRa5 dRa6 dRa7 dRa8 dRa9 dRa10 dRa11 dRa12 dRa13 dRa14 dRa15 dRa16;refine(CN.out _ lw2).mono ?_;rintro e w3 ⟨rfl,b_⟩;have gw3:=gw2.below b_;have lw3:=lw2.below b_;have Bw3:=Bw2.trans (b_.mono (zT xRa_w2.lt));have xRa_w3:=xRa_w2.below b_;clear b_ gw2 lw2 Bw2 xRa_w2;obtain⟨dRa0,dRa1,dRa2,dRa3,dRa4,dRa5,dRa6,dRa7,dRa8,dRa9,dRa10,dRa11,dRa12,dRa13,dRa14,dRa15,dRa16⟩:=xRa_w3.cs
 go_wp2
 go_ret
 exact⟨aA HE.out,by rw[HR.out];exact Bw3⟩
theorem aL5 (L:List bI)(v:Value)(rk:Int)(rt:ByteArray)(o:Bool)(s2 h2:ByteArray)(p:Int)(pa2 q2:ByteArray)(mv:Bool)(rn:ByteArray)(pr:Bool)(o3:Bool)(s3 h3:ByteArray)(p3:Int)(pa3 q3:ByteArray)(CN:Hid (∀ W,aK W v L->Calls Tryz.prog 71 #[v,.string rn] W fun e w'=>e=.returned (.bool false)/\Below W.heap.size W w'))(C6:Hid (∀ W,aK W v L->Calls Tryz.prog 70 #[v,.int .i64 6] W fun e w'=>e=.returned (.bool true)/\Below W.heap.size W w'))(b:Bool)(he:(!pr)=b)(w:World)(hw:dZ w)(hv:aK w v L):Calls Tryz.prog 44 #[v,bN rk rt o s2 h2 p pa2 q2 mv rn pr o3 s3 h3 p3 pa3 q3] w fun e w'=>e=.returned (.bool b)/\Below w.heap.size w w':=by
 have HE:=zH he;clear he;unfold uV bN at *
 go_enter Tryz.func44,Tryz.ntmps44
 go_wp2_with fail
 have xn:=RX.made w rk rt o s2 h2 p pa2 q2 mv rn pr o3 s3 h3 p3 pa3 q3;have gw1:=hw.made (.cells #[.int .i64 rk,.string rt,.bool o,.string s2,.string h2,.int .i64 p,.string pa2,.string q2,.bool mv,.string rn,.bool pr,.bool o3,.string s3,.string h3,.int .i64 p3,.string pa3,.string q3] 42);have lw1:=hv.made (.cells #[.int .i64 rk,.string rt,.bool o,.string s2,.string h2,.int .i64 p,.string pa2,.string q2,.bool mv,.string rn,.bool pr,.bool o3,.string s3,.string h3,.int .i64 p3,.string pa3,.string q3] 42);have Bw1:Below w.heap.size w (w.alloc (.cells #[.int .i64 rk,.string rt,.bool o,.string s2,.string h2,.int .i64 p,.string pa2,.string q2,.bool mv,.string rn,.bool pr,.bool o3,.string s3,.string h3,.int .i64 p3,.string pa3,.string q3] 42)):=((zB w.heap.size w).alloc (zL _) (.cells #[.int .i64 rk,.string rt,.bool o,.string s2,.string h2,.int .i64 p,.string pa2,.string q2,.bool mv,.string rn,.bool pr,.bool o3,.string s3,.string h3,.int .i64 p3,.string pa3,.string q3] 42));generalize hR:w.heap.size=Ra at xn Bw1 ⊢;have HR:=zH hR;clear hR;generalize w.alloc (.cells #[.int .i64 rk,.string rt,.bool o,.string s2,.string h2,.int .i64 p,.string pa2,.string q2,.bool mv,.string rn,.bool pr,.bool o3,.string s3,.string h3,.int .i64 p3,.string pa3,.string q3] 42)=w1 at xn gw1 lw1 Bw1 ⊢;have xRa_w1:=xn;clear xn hw hv;refine(C6.out _ lw1).mono ?_;rintro e w2 ⟨rfl,b_⟩;have gw2:=gw1.below b_;have lw2:=lw1.below b_;have Bw2:=Bw1.trans (b_.mono (zT xRa_w1.lt));have xRa_w2:=xRa_w1.below b_;clear b_ gw1 lw1 Bw1 xRa_w1;obtain⟨dRa0,dRa1,dRa2,dRa3,dRa4,dRa5,dRa6,dRa7,dRa8,dRa9,dRa10,dRa11,dRa12,dRa13,dRa14,dRa15,dRa16⟩:=xRa_w2.cs
 go_wp2_with fail
 clear dRa0 dRa1 dRa2 dRa3 dRa4 dRa5 dRa6 dRa7 dRa8 dRa9 dRa10 dRa11 dRa12 dRa13 dRa14 dRa15 dRa16;refine(CN.out _ lw2).mono ?_;rintro e w3 ⟨rfl,b_⟩;have gw3:=gw2.below b_;have lw3:=lw2.below b_;have Bw3:=Bw2.trans (b_.mono (zT xRa_w2.lt));have xRa_w3:=xRa_w2.below b_;clear b_ gw2 lw2 Bw2 xRa_w2;obtain⟨dRa0,dRa1,dRa2,dRa3,dRa4,dRa5,dRa6,dRa7,dRa8,dRa9,dRa10,dRa11,dRa12,dRa13,dRa14,dRa15,dRa16⟩:=xRa_w3.cs
 go_wp2
 go_ret
 exact⟨aA HE.out,by rw[HR.out];exact Bw3⟩
theorem aL6 (L:List bI)(v:Value)(rk:Int)(rt:ByteArray)(o:Bool)(s2 h2:ByteArray)(p:Int)(pa2 q2:ByteArray)(mv:Bool)(rn:ByteArray)(pr:Bool)(o3:Bool)(s3 h3:ByteArray)(p3:Int)(pa3 q3:ByteArray)(CN:Hid (∀ W,aK W v L->Calls Tryz.prog 71 #[v,.string rn] W fun e w'=>e=.returned (.bool true)/\Below W.heap.size W w'))(C6:Hid (∀ W,aK W v L->Calls Tryz.prog 70 #[v,.int .i64 6] W fun e w'=>e=.returned (.bool false)/\Below W.heap.size W w'))(b:Bool)(he:true=b)(w:World)(hw:dZ w)(hv:aK w v L):Calls Tryz.prog 44 #[v,bN rk rt o s2 h2 p pa2 q2 mv rn pr o3 s3 h3 p3 pa3 q3] w fun e w'=>e=.returned (.bool b)/\Below w.heap.size w w':=by
 have HE:=zH he;clear he;unfold uV bN at *
 go_enter Tryz.func44,Tryz.ntmps44
 go_wp2_with fail
 have xn:=RX.made w rk rt o s2 h2 p pa2 q2 mv rn pr o3 s3 h3 p3 pa3 q3;have gw1:=hw.made (.cells #[.int .i64 rk,.string rt,.bool o,.string s2,.string h2,.int .i64 p,.string pa2,.string q2,.bool mv,.string rn,.bool pr,.bool o3,.string s3,.string h3,.int .i64 p3,.string pa3,.string q3] 42);have lw1:=hv.made (.cells #[.int .i64 rk,.string rt,.bool o,.string s2,.string h2,.int .i64 p,.string pa2,.string q2,.bool mv,.string rn,.bool pr,.bool o3,.string s3,.string h3,.int .i64 p3,.string pa3,.string q3] 42);have Bw1:Below w.heap.size w (w.alloc (.cells #[.int .i64 rk,.string rt,.bool o,.string s2,.string h2,.int .i64 p,.string pa2,.string q2,.bool mv,.string rn,.bool pr,.bool o3,.string s3,.string h3,.int .i64 p3,.string pa3,.string q3] 42)):=((zB w.heap.size w).alloc (zL _) (.cells #[.int .i64 rk,.string rt,.bool o,.string s2,.string h2,.int .i64 p,.string pa2,.string q2,.bool mv,.string rn,.bool pr,.bool o3,.string s3,.string h3,.int .i64 p3,.string pa3,.string q3] 42));generalize hR:w.heap.size=Ra at xn Bw1 ⊢;have HR:=zH hR;clear hR;generalize w.alloc (.cells #[.int .i64 rk,.string rt,.bool o,.string s2,.string h2,.int .i64 p,.string pa2,.string q2,.bool mv,.string rn,.bool pr,.bool o3,.string s3,.string h3,.int .i64 p3,.string pa3,.string q3] 42)=w1 at xn gw1 lw1 Bw1 ⊢;have xRa_w1:=xn;clear xn hw hv;refine(C6.out _ lw1).mono ?_;rintro e w2 ⟨rfl,b_⟩;have gw2:=gw1.below b_;have lw2:=lw1.below b_;have Bw2:=Bw1.trans (b_.mono (zT xRa_w1.lt));have xRa_w2:=xRa_w1.below b_;clear b_ gw1 lw1 Bw1 xRa_w1;obtain⟨dRa0,dRa1,dRa2,dRa3,dRa4,dRa5,dRa6,dRa7,dRa8,dRa9,dRa10,dRa11,dRa12,dRa13,dRa14,dRa15,dRa16⟩:=xRa_w2.cs
 go_wp2_with fail
 clear dRa0 dRa1 dRa2 dRa3 dRa4 dRa5 dRa6 dRa7 dRa8 dRa9 dRa10 dRa11 dRa12 dRa13 dRa14 dRa15 dRa16;refine(CN.out _ lw2).mono ?_;rintro e w3 ⟨rfl,b_⟩;have gw3:=gw2.below b_;have lw3:=lw2.below b_;have Bw3:=Bw2.trans (b_.mono (zT xRa_w2.lt));have xRa_w3:=xRa_w2.below b_;clear b_ gw2 lw2 Bw2 xRa_w2;obtain⟨dRa0,dRa1,dRa2,dRa3,dRa4,dRa5,dRa6,dRa7,dRa8,dRa9,dRa10,dRa11,dRa12,dRa13,dRa14,dRa15,dRa16⟩:=xRa_w3.cs
 go_wp2
 go_ret
 exact⟨aA HE.out,by rw[HR.out];exact Bw3⟩
theorem aL4 (L:List bI)(v:Value)(rk:Int)(rt:ByteArray)(o:Bool)(s2 h2:ByteArray)(p:Int)(pa2 q2:ByteArray)(mv:Bool)(rn:ByteArray)(pr:Bool)(o3:Bool)(s3 h3:ByteArray)(p3:Int)(pa3 q3:ByteArray)(CN:Hid (∀ W,aK W v L->Calls Tryz.prog 71 #[v,.string rn] W fun e w'=>e=.returned (.bool false)/\Below W.heap.size W w'))(C6:Hid (∀ W,aK W v L->Calls Tryz.prog 70 #[v,.int .i64 6] W fun e w'=>e=.returned (.bool false)/\Below W.heap.size W w'))(ur:Bool)(CU:Hid (∀ W,dZ W->aK W v L->Calls Tryz.prog 72 #[v,uV o s2 h2 p pa2 q2,uV o3 s3 h3 p3 pa3 q3,.bool mv] W fun e w'=>e=.returned (.bool ur)/\Below W.heap.size W w'))(b:Bool)(he:ur=b)(w:World)(hw:dZ w)(hv:aK w v L):Calls Tryz.prog 44 #[v,bN rk rt o s2 h2 p pa2 q2 mv rn pr o3 s3 h3 p3 pa3 q3] w fun e w'=>e=.returned (.bool b)/\Below w.heap.size w w':=by
 have HE:=zH he;clear he;unfold uV bN at *
 go_enter Tryz.func44,Tryz.ntmps44
 go_wp2_with fail
 have xn:=RX.made w rk rt o s2 h2 p pa2 q2 mv rn pr o3 s3 h3 p3 pa3 q3;have gw1:=hw.made (.cells #[.int .i64 rk,.string rt,.bool o,.string s2,.string h2,.int .i64 p,.string pa2,.string q2,.bool mv,.string rn,.bool pr,.bool o3,.string s3,.string h3,.int .i64 p3,.string pa3,.string q3] 42);have lw1:=hv.made (.cells #[.int .i64 rk,.string rt,.bool o,.string s2,.string h2,.int .i64 p,.string pa2,.string q2,.bool mv,.string rn,.bool pr,.bool o3,.string s3,.string h3,.int .i64 p3,.string pa3,.string q3] 42);have Bw1:Below w.heap.size w (w.alloc (.cells #[.int .i64 rk,.string rt,.bool o,.string s2,.string h2,.int .i64 p,.string pa2,.string q2,.bool mv,.string rn,.bool pr,.bool o3,.string s3,.string h3,.int .i64 p3,.string pa3,.string q3] 42)):=((zB w.heap.size w).alloc (zL _) (.cells #[.int .i64 rk,.string rt,.bool o,.string s2,.string h2,.int .i64 p,.string pa2,.string q2,.bool mv,.string rn,.bool pr,.bool o3,.string s3,.string h3,.int .i64 p3,.string pa3,.string q3] 42));generalize hR:w.heap.size=Ra at xn Bw1 ⊢;have HR:=zH hR;clear hR;generalize w.alloc (.cells #[.int .i64 rk,.string rt,.bool o,.string s2,.string h2,.int .i64 p,.string pa2,.string q2,.bool mv,.string rn,.bool pr,.bool o3,.string s3,.string h3,.int .i64 p3,.string pa3,.string q3] 42)=w1 at xn gw1 lw1 Bw1 ⊢;have xRa_w1:=xn;clear xn hw hv;refine(C6.out _ lw1).mono ?_;rintro e w2 ⟨rfl,b_⟩;have gw2:=gw1.below b_;have lw2:=lw1.below b_;have Bw2:=Bw1.trans (b_.mono (zT xRa_w1.lt));have xRa_w2:=xRa_w1.below b_;clear b_ gw1 lw1 Bw1 xRa_w1;obtain⟨dRa0,dRa1,dRa2,dRa3,dRa4,dRa5,dRa6,dRa7,dRa8,dRa9,dRa10,dRa11,dRa12,dRa13,dRa14,dRa15,dRa16⟩:=xRa_w2.cs
 go_wp2_with fail
 clear dRa0 dRa1 dRa2 dRa3 dRa4 dRa5 dRa6 dRa7 dRa8 dRa9 dRa10 dRa11 dRa12 dRa13 dRa14 dRa15 dRa16;refine(CN.out _ lw2).mono ?_;rintro e w3 ⟨rfl,b_⟩;have gw3:=gw2.below b_;have lw3:=lw2.below b_;have Bw3:=Bw2.trans (b_.mono (zT xRa_w2.lt));have xRa_w3:=xRa_w2.below b_;clear b_ gw2 lw2 Bw2 xRa_w2;obtain⟨dRa0,dRa1,dRa2,dRa3,dRa4,dRa5,dRa6,dRa7,dRa8,dRa9,dRa10,dRa11,dRa12,dRa13,dRa14,dRa15,dRa16⟩:=xRa_w3.cs
 go_wp2_with fail
 clear dRa0 dRa1 dRa2 dRa3 dRa4 dRa5 dRa6 dRa7 dRa8 dRa9 dRa10 dRa11 dRa12 dRa13 dRa14 dRa15 dRa16;refine(CU.out _ gw3 lw3).mono ?_;rintro e w4 ⟨rfl,b_⟩;have gw4:=gw3.below b_;have lw4:=lw3.below b_;have Bw4:=Bw3.trans (b_.mono (zT xRa_w3.lt));have xRa_w4:=xRa_w3.below b_;clear b_ gw3 lw3 Bw3 xRa_w3;obtain⟨dRa0,dRa1,dRa2,dRa3,dRa4,dRa5,dRa6,dRa7,dRa8,dRa9,dRa10,dRa11,dRa12,dRa13,dRa14,dRa15,dRa16⟩:=xRa_w4.cs
 go_wp2
 go_ret
 exact⟨aA HE.out,by rw[HR.out];exact Bw4⟩
theorem wO (L:List bI)(v:Value)(hl:L.length<=1000000)(hL:∀ a∈L,a.h.length<=100000/\a.pa.length<=100000)(rk:Int)(rt:ByteArray)(o:Bool)(s2 h2:ByteArray)(p:Int)(pa2 q2:ByteArray)(mv:Bool)(rn:ByteArray)(pr:Bool)(o3:Bool)(s3 h3:ByteArray)(p3:Int)(pa3 q3:ByteArray)(su1:s2.size<=100000)(su2:h2.size<=100000)(su3:pa2.size<=100000)(su4:q2.size<=100000)(sv1:s3.size<=100000)(sv2:h3.size<=100000)(sv3:pa3.size<=100000)(sv4:q3.size<=100000)(b:Bool)(hb:lE L (uM o s2 h2 p pa2 q2) (uM o3 s3 h3 p3 pa3 q3) mv rn.data.toList pr=b)(w:World)(hw:dZ w)(hv:aK w v L):Calls Tryz.prog 44 #[v,bN rk rt o s2 h2 p pa2 q2 mv rn pr o3 s3 h3 p3 pa3 q3] w fun e w'=>e=.returned (.bool b)/\Below w.heap.size w w':=by
 cases h1:iW L rn.data.toList<;>cases h6:dY L 6
 all_goals
  have CN:=nJ L v hl rn _ h1;have C6:=dC L v hl 6 _ h6;unfold lE at hb;rw[h1,h6]at hb
 · exact aL4 L v rk rt o s2 h2 p pa2 q2 mv rn pr o3 s3 h3 p3 pa3 q3 CN C6 _ (wD o s2 h2 p pa2 q2 o3 s3 h3 p3 pa3 q3 mv su1 su2 su3 su4 sv1 sv2 sv3 sv4 L v hl hL _ rfl) b hb w hw hv
 · exact aL5 L v rk rt o s2 h2 p pa2 q2 mv rn pr o3 s3 h3 p3 pa3 q3 CN C6 b hb w hw hv
 · exact aL6 L v rk rt o s2 h2 p pa2 q2 mv rn pr o3 s3 h3 p3 pa3 q3 CN C6 b hb w hw hv
 · exact aA8 L v rk rt o s2 h2 p pa2 q2 mv rn pr o3 s3 h3 p3 pa3 q3 CN C6 b hb w hw hv
theorem wN (L:List bI)(v:Value)(hl:L.length<=1000000)(hL:∀ a∈L,a.h.length<=100000/\a.pa.length<=100000)(rk:Int)(rt:ByteArray)(o:Bool)(s2 h2:ByteArray)(p:Int)(pa2 q2:ByteArray)(mv:Bool)(rn:ByteArray)(pr:Bool)(o3:Bool)(s3 h3:ByteArray)(p3:Int)(pa3 q3:ByteArray)(su1:s2.size<=100000)(su2:h2.size<=100000)(su3:pa2.size<=100000)(su4:q2.size<=100000)(sv1:s3.size<=100000)(sv2:h3.size<=100000)(sv3:pa3.size<=100000)(sv4:q3.size<=100000)(b:Bool)(hb:lE L (uM o s2 h2 p pa2 q2) (uM o3 s3 h3 p3 pa3 q3) mv rn.data.toList pr=b):Hid (∀ W,dZ W->aK W v L->Calls Tryz.prog 44 #[v,bN rk rt o s2 h2 p pa2 q2 mv rn pr o3 s3 h3 p3 pa3 q3] W fun e w'=>e=.returned (.bool b)/\Below W.heap.size W w') :=
 zH fun W hw hv=>wO L v hl hL rk rt o s2 h2 p pa2 q2 mv rn pr o3 s3 h3 p3 pa3 q3 su1 su2 su3 su4 sv1 sv2 sv3 sv4 b hb W hw hv
theorem wR (L:List bI)(v:Value)(r:Bool)(C4:Hid (∀ W,aK W v L->Calls Tryz.prog 70 #[v,.int .i64 4] W fun e w'=>e=.returned (.bool r)/\Below W.heap.size W w'))(b:Bool)(he:r=b)(w:World)(hv:aK w v L):Calls Tryz.prog 45 #[v,.int .i64 5] w fun e w'=>e=.returned (.bool b)/\Below w.heap.size w w':=by
 have HE:=zH he;clear he
 go_enter Tryz.func45,Tryz.ntmps45
 go_wp2_with fail
 refine(C4.out _ hv).mono ?_;rintro e w1 ⟨rfl,b_⟩;have lw1:=hv.below b_;have Bw1:=b_;clear b_ hv
 go_wp2
 go_ret
 exact⟨aA HE.out,Bw1⟩
theorem wQ (L:List bI)(v:Value)(C4:Hid (∀ W,aK W v L->Calls Tryz.prog 70 #[v,.int .i64 4] W fun e w'=>e=.returned (.bool true)/\Below W.heap.size W w'))(b:Bool)(he:true=b)(w:World)(hv:aK w v L):Calls Tryz.prog 45 #[v,.int .i64 6] w fun e w'=>e=.returned (.bool b)/\Below w.heap.size w w':=by
 have HE:=zH he;clear he
 go_enter Tryz.func45,Tryz.ntmps45
 go_wp2_with fail
 refine(C4.out _ hv).mono ?_;rintro e w1 ⟨rfl,b_⟩;have lw1:=hv.below b_;have Bw1:=b_;clear b_ hv
 go_wp2
 go_ret
 exact⟨aA HE.out,Bw1⟩
theorem wP (L:List bI)(v:Value)(r:Bool)(C4:Hid (∀ W,aK W v L->Calls Tryz.prog 70 #[v,.int .i64 4] W fun e w'=>e=.returned (.bool false)/\Below W.heap.size W w'))(C5:Hid (∀ W,aK W v L->Calls Tryz.prog 70 #[v,.int .i64 5] W fun e w'=>e=.returned (.bool r)/\Below W.heap.size W w'))(b:Bool)(he:r=b)(w:World)(hv:aK w v L):Calls Tryz.prog 45 #[v,.int .i64 6] w fun e w'=>e=.returned (.bool b)/\Below w.heap.size w w':=by
 have HE:=zH he;clear he
 go_enter Tryz.func45,Tryz.ntmps45
 go_wp2_with fail
 refine(C4.out _ hv).mono ?_;rintro e w1 ⟨rfl,b_⟩;have lw1:=hv.below b_;have Bw1:=b_;clear b_ hv
 go_wp2_with fail
 refine(C5.out _ lw1).mono ?_;rintro e w2 ⟨rfl,b_⟩;have lw2:=lw1.below b_;have Bw2:=Bw1.trans (b_.mono Bw1.size);clear b_ lw1 Bw1
 go_wp2
 go_ret
 exact⟨aA HE.out,Bw2⟩
theorem aL7 (k:Int)(n5:(k==5)=false)(n6:(k==6)=false)(v:Value)(w:World):Calls Tryz.prog 45 #[v,.int .i64 k] w fun e w'=>e=.returned (.bool false)/\Below w.heap.size w w':=by
 go_enter Tryz.func45,Tryz.ntmps45
 go_wp2
 go_ret
 exact⟨rfl,zB _ _⟩
theorem aA9 (L:List bI)(v:Value)(hl:L.length<=1000000)(k:Int)(b:Bool)(hb:jH L k=b)(w:World)(hv:aK w v L):Calls Tryz.prog 45 #[v,.int .i64 k] w fun e w'=>e=.returned (.bool b)/\Below w.heap.size w w':=by
 by_cases e5:k=5
 · subst e5
   exact wR L v _ (dC L v hl 4 _ rfl) b (by rw[<- hb];unfold jH;rw[if_pos rfl]) w hv
 by_cases e6:k=6
 · subst e6
   cases h4:dY L 4
   · exact wP L v _ (dC L v hl 4 _ h4) (dC L v hl 5 _ rfl) b (by rw[<- hb];unfold jH;rw[if_neg (by decide),if_pos rfl,h4];rfl) w hv
   · exact wQ L v (dC L v hl 4 _ h4) b (by rw[<- hb];unfold jH;rw[if_neg (by decide),if_pos rfl,h4];rfl) w hv
 rw[show b=false by rw[<- hb];unfold jH;rw[if_neg e5,if_neg e6]];exact aL7 k (beq_eq_false_iff_ne.2 e5) (beq_eq_false_iff_ne.2 e6) v w
theorem pW (L:List bI)(v:Value)(hl:L.length<=1000000)(k:Int)(b:Bool)(hb:jH L k=b):Hid (∀ W,aK W v L->Calls Tryz.prog 45 #[v,.int .i64 k] W fun e w'=>e=.returned (.bool b)/\Below W.heap.size W w') :=
 zH fun W hv=>aA9 L v hl k b hb W hv
end Go.Proofs.YthnogdodlhkldaaGreatDoor
