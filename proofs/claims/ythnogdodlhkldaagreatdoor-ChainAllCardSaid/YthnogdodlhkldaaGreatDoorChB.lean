/- The sources that count for a kind, in a policy: the program's. -/
import Derived.Test.YthnogdodlhkldaaGreatDoorChA
import Derived.Test.YthnogdodlhkldaaGreatDoorLstQ
import Derived.Test.YthnogdodlhkldaaGreatDoorHdX
set_option maxRecDepth 100000
set_option maxHeartbeats 4000000
namespace Go.Proofs.YthnogdodlhkldaaGreatDoor
open Go.RowKit
def PX (w:World)(R:Nat)(v:Value)(r:Bool):Prop:=w.heap[R]? = some (.cells #[v,.bool r] 24 (0,0))
theorem PX.lt {w:World}{R:Nat}{v:Value}{r:Bool}(a:PX w R v r):R<w.heap.size:=aD a
theorem PX.below {w w':World}{R:Nat}{v:Value}{r:Bool}(a:PX w R v r)(hb:Below w.heap.size w w'):PX w' R v r:=by
 unfold PX at *;rw[hb.block R (aD a)];exact a
theorem PX.made (w:World)(v:Value)(r:Bool):PX (w.alloc (.cells #[v,.bool r] 24)) w.heap.size v r:=aW w _
theorem PX.c0 {w:World}{R:Nat}{v:Value}{r:Bool}(a:PX w R v r):w.cell? ⟨R,0,none⟩=some v:=by rw[aG a];rfl
theorem PX.c1 {w:World}{R:Nat}{v:Value}{r:Bool}(a:PX w R v r):w.cell? ⟨R,1,none⟩=some (.bool r):=by rw[aG a];rfl
def eX (ds:List D):Prop:=ds.length<=1000000/\∀ d∈ds,d.w.length<=1000000/\∀ x∈d.w,x.length<=10000
theorem nU {ds:List D}(hf:eX ds){n:List UInt8}{ws:List (List UInt8)}(h:cN ds n=some ws):ws.length<=1000000/\∀ x∈ws,x.length<=10000:=by
 unfold cN at h;rw[Option.map_eq_some_iff]at h;obtain⟨d,hd,rfl⟩:=h;exact hf.2 d (List.mem_of_find?_eq_some hd)
def mC (ds:List D)(ns:List (List UInt8))(w:World)(e:Ending)(w':World):Prop:=Below w.heap.size w w'/\((gW ds ns=none/\e=.returned (.tuple #[.slice none 0 0,.string ⟨#[]⟩,.bool false]))\/∃ ws N u,gW ds ns=some (ws,N.data.toList)/\e=.returned (.tuple #[u,.string N,.bool true])/\aK w' u (bF ws))
theorem pC (ds:List D)(dv:Value)(r:Bool)(k:Int)(hf:eX ds)(w:World)(hw:dZ w)(hd:aU w dv ds):Calls Tryz.prog 13 #[dX dv r,.int .i64 k] w (mC ds (bL k) w):=by
 obtain⟨a,c,rfl⟩:=hd.form;unfold dX;have CN:=lK k;have hnl:=lS k;have hn15:∀ n∈bL k,n.length<=15:=fun n h=>(oR k n h).2;generalize bL k=ns at CN hnl hn15 ⊢;have HNW:=zH hn15;clear hn15;have HF:=zH hf;have x1:=PX.made w (.slice a ds.length c) r;have B1:Below w.heap.size w (w.alloc (.cells #[.slice a ds.length c,.bool r] 24)):=(zB _ _).alloc (zL _) _;have H1:=zH (And.intro x1 (And.intro B1 (And.intro (hd.below B1) (hw.below B1))));clear hf hd hw x1 B1
 go_enter Tryz.func13,Tryz.ntmps13
 go_wp2_with fail
 generalize hR:w.heap.size=R at H1 ⊢;have HR:=zH hR;clear hR;generalize w.alloc (.cells #[.slice a ds.length c,.bool r] 24)=w1 at H1 ⊢;refine(CN.out _).mono ?_;rintro e w2 ⟨u,rfl,own2,b2⟩;obtain⟨a2,c2,rfl⟩:=(aR.of_row own2).form;have H2:=zH (And.intro (H1.out.1.below b2) (And.intro (H1.out.2.1.trans (b2.mono (zT H1.out.1.lt))) (And.intro (H1.out.2.2.1.below b2) (And.intro (H1.out.2.2.2.below b2) (aR.of_row own2)))));have B0:Below w2.heap.size w2 w2:=zB _ _;have hsz:R<=w2.heap.size:=zT H2.out.1.lt;clear H1 CN own2 b2
 go_wp2_with fail
 go_loopw [14] (fun i wr=>∃ j:Nat,j<=ns.length/\i=.int .i64 j/\Hid (∀ q,(h:q<ns.length)->q<j->cN ds ns[q]=none)/\Below w2.heap.size w2 wr) (fun i _=>ns.length - (intOf i).toNat)
 case atStart=>exact⟨0,Nat.zero_le _,rfl,fun q _ h=>absurd h (Nat.not_lt_zero _),B0⟩
 case round =>
  clear B0;obtain⟨j,hj,rfl,HS,hb⟩:=hrel;obtain⟨x2,B2,hd2,hw2,ht2⟩:=H2.out;have c0:=(x2.below hb).c0;have c1:=(x2.below hb).c1;have Br:Below R w wr:=B2.trans (hb.mono hsz);have hdr:=hd2.below hb;have hwr:=hw2.below hb;have htr:=ht2.below hb;have hRr:R<=wr.heap.size:=Nat.le_trans hsz hb.size;clear x2 B2 hd2 hw2 ht2
  by_cases hlt:j<ns.length
  · obtain⟨B,off,rfl,kc⟩:=htr.at hlt
    have HN:Hid (cN ds ns[j]=none->∀ q,(h:q<ns.length)->q<j+1->cN ds ns[q]=none):=zH fun h q hq hqj=>by
     by_cases e:q=j
     · subst e;exact h
     · exact HS.out q hq (by omega)
    have HY:Hid (∀ ws,cN ds ns[j]=some ws->gW ds ns=some (ws,ns[j])):=zH fun ws h=>xN ds ns j hlt ws HS.out h;have hx15:=HNW.out _ (List.getElem_mem hlt);generalize ns[j]=nm at *;unfold dA at kc;obtain⟨X,hX⟩:∃ X:ByteArray,X=⟨nm.toArray⟩:=⟨_,rfl⟩;rw[<- hX]at kc;have hXd:X.data.toList=nm:=by rw[hX]
    rw[<- hXd]at HN HY;have CF:=sJ ds (.slice a ds.length c) r X wr hdr HF.out.1 (fun d hd=>(HF.out.2 d hd).1) (by rw[<- aE,hXd];omega);unfold dX at CF;have HCF:=zH CF;have HB:=zH (And.intro Br (And.intro hdr hwr));have Hb:=zH hb;clear HS hX hXd CF Br hdr hwr htr hb hx15
    go_wp2_with fail
    refine HCF.out.mono ?_;rintro e w3 ⟨b3,h3⟩;have B3:=zH (HB.out.1.trans (b3.mono hRr));rcases h3 with ⟨hf,rfl⟩ | ⟨ws,v,hf,rfl,own3⟩
    · have HM:=zH (HN.out hf)
      have Hb3:=zH (Hb.out.trans (b3.mono Hb.out.size));clear hf HN HY HCF b3 HB Hb c0 c1
      go_wp2_with fail
      go_roundw
      case rel=>exact⟨j+1,by omega,by go_num,HM,Hb3.out⟩
      case measure=>simp[intOf];omega
    · have HM:=zH (HY.out ws hf)
      obtain⟨l1,l2⟩:=nU HF.out hf;have hv:=aR.of_row own3;obtain⟨a3,c3,rfl⟩:=hv.form;have CL:=zH (uT ws _ l2 l1 w3 (HB.out.2.2.below b3) hv);have hR3:=Nat.le_trans hRr b3.size;clear hf HN HY HCF b3 HB Hb c0 c1 own3 hv l1 l2
      go_wp2_with fail
      refine CL.out.mono ?_;rintro e w4 ⟨u4,rfl,own4,b4⟩;have B4:=zH (B3.out.trans (b4.mono hR3));have hs4:=zH (aK.of_row own4);clear own4 b4 CL B3
      go_wp2
      go_ret3
      exact⟨by rw[HR.out];exact B4.out,.inr ⟨ws,X,u4,HM.out,rfl,hs4.out⟩⟩
  · obtain rfl:j=ns.length:=by omega
    have HM:Hid (gW ds ns=none):=zH (nW ds ns fun q hq=>HS.out q hq hq);have HBr:=zH Br;clear HS Br hdr hwr htr hb
    go_wp2
    go_ret3
    exact⟨by rw[HR.out];exact HBr.out,.inl ⟨HM.out,rfl⟩⟩
end Go.Proofs.YthnogdodlhkldaaGreatDoor
