/- Words are parsed as a row of sources: the program's List; two rows that are the same: the document's. -/
import Derived.Test.YthnogdodlhkldaaGreatDoorMarkZ
set_option maxRecDepth 100000
set_option maxHeartbeats 4000000
namespace Go.Proofs.YthnogdodlhkldaaGreatDoor
open Go.RowKit
theorem sB (L:List (List UInt8))(l:List UInt8):bF (L++[l])=match cP l with | some a=>bF L++[a] | none=>bF L:=by
 rw[xI]
 cases h:cP l with
 | none=>simp[bF,h]
 | some a=>simp[bF,h]
theorem oG:(Tryz.prog.info? 75).map (fun i=>(i.zero,i.size,i.bytes))=some (some (.agg #[.int .i64 0,.string ⟨#[]⟩,.string ⟨#[]⟩,.string ⟨#[]⟩,.bool false,.int .i64 0,.string ⟨#[]⟩]),7,88):=by kernel_rfl
theorem uT (Q:List (List UInt8))(v:Value)(hl:∀ l∈Q,l.length<=10000)(hn:Q.length<=1000000)(w:World)(hw:dZ w)(hv:aR w v Q) :
 Calls Tryz.prog 37 #[v] w fun e w'=>∃ u,e=.returned u/\w'.ownsRow w.heap.size 75 7 u (bF Q).length (eJ (bF Q))/\Below w.heap.size w w':=by
 obtain⟨a0,c0,rfl⟩:=hv.form;have HV:=zH hv;have HW:=zH hw;have HL:=zH hl;clear hv hw hl
 go_enter Tryz.func37,Tryz.ntmps37
 go_wp2
 have hown0:=World.ownsRow_lit (e:=75) (size:=7) (base:=w.heap.size) w #[] 0 (zL _) (Nat.zero_le _) rfl;have B0:Below w.heap.size w (w.alloc (.cells #[] 75)):=(zB _ _).alloc (zL _) _;obtain⟨i0,hi,hz0,hz1,hz2⟩:=info_parts oG;generalize(Value.slice (some ⟨w.heap.size,0,none⟩) 0 0)=v0 at hown0 ⊢;generalize w.alloc (.cells #[] 75)=w0 at hown0 B0 ⊢
 go_loopw [3,11] (fun u i wr=>∃ k:Nat,k<=Q.length/\i=.int .i64 k/\wr.ownsRow w.heap.size 75 7 u (bF (Q.take k)).length (eJ (bF (Q.take k)))/\Below w.heap.size w wr) (fun _ i _=>Q.length - (intOf i).toNat)
 case atStart=>exact⟨0,Nat.zero_le _,rfl,hown0,B0⟩
 case round =>
  obtain⟨k,hk,rfl,hown,hb⟩:=hrel
  by_cases hlt:k<Q.length
  · have hvr:=HV.out.below hb
    obtain⟨Wt,hWt⟩:∃ T:ByteArray,T.data.toList=Q[k]:=⟨⟨Q[k].toArray⟩,rfl⟩;have hWs:Wt.size<=10000:=by rw[<- aE,hWt];exact HL.out _ (List.getElem_mem hlt)
    obtain⟨A,off,cap,hsl,hcell⟩:∃ B off cap,Value.slice a0 Q.length c0=.slice (some ⟨B,off,none⟩) Q.length cap/\wr.cell? ⟨B,off+k,none⟩=some (.string Wt):=by
     rcases hvr with ⟨_,h2⟩ | ⟨B,off,cap,h1,h2⟩
     · rw[h2]at hlt;cases hlt
     · refine⟨B,off,cap,h1,?_⟩
       rw[h2 k hlt,<- hWt,lP]
    injection hsl with e1 _ e3
    subst e1;subst e3;have hadd:(⟨A,off,none⟩:Addr).add k=⟨A,off+k,none⟩:=by simp[Addr.add]
    obtain⟨K,t,s,h,b,p,pa,r,hM,hsome,CP⟩:=bC6 Wt hWs;rw[hWt]at hM hsome
    have HN:Hid (bF (Q.take (k+1))=if r then bF (Q.take k)++[aJ K t s h b p pa] else bF (Q.take k)):=zH (by
     rw[List.take_succ_eq_append_getElem hlt,sB]
     cases hp:cP Q[k]with
     | none=>rw[hp]at hsome;subst hsome;rfl
     | some a=>rw[hp]at hsome hM;subst hsome;rw[hM];rfl)
    have hlen:=fS (Q.take k);rw[List.length_take]at hlen;have hLw:dZ wr:=HW.out.below hb;clear hM hsome hWt hWs hvr
    cases r
    · go_wp2_with fail
      refine(CP.out _ hLw).mono ?_;rintro e w1 ⟨rfl,b1⟩;have hown1:=aX hown b1;have hb1:=hb.trans (b1.mono hb.size);clear hown hb b1 hLw;have HN2:Hid (bF (Q.take (k+1))=bF (Q.take k)):=zH HN.out;have hown2:=aX hown1 ((zB _ _).alloc (zL _) (.cells #[.int .i64 K,.string t,.string s,.string h,.bool b,.int .i64 p,.string pa] 75));have hb2:=hb1.alloc hb1.size (.cells #[.int .i64 K,.string t,.string s,.string h,.bool b,.int .i64 p,.string pa] 75);unfold aP
      go_wp2
      go_roundw
      case rel=>exact⟨k+1,by omega,by go_num,by rw[HN2.out];exact hown2,hb2⟩
      case measure=>simp[intOf];omega
    · go_wp2_with fail
      refine(CP.out _ hLw).mono ?_;rintro e w1 ⟨rfl,b1⟩;have hown1:=aX hown b1;have hb1:=hb.trans (b1.mono hb.size);clear hown hb b1 hLw;have HN2:Hid (bF (Q.take (k+1))=bF (Q.take k)++[aJ K t s h b p pa]):=zH HN.out;have x2:=SX.made w1 K t s h b p pa;have hown2:=aX hown1 ((zB _ _).alloc (zL _) (.cells #[.int .i64 K,.string t,.string s,.string h,.bool b,.int .i64 p,.string pa] 75));have hb2:=hb1.alloc hb1.size (.cells #[.int .i64 K,.string t,.string s,.string h,.bool b,.int .i64 p,.string pa] 75);unfold aP;have HNEW:=sO (w1.alloc (.cells #[.int .i64 K,.string t,.string s,.string h,.bool b,.int .i64 p,.string pa] 75)) [.int .i64 K,.string t,.string s,.string h,.bool b,.int .i64 p,.string pa] 75;rw[aV]at HNEW;have hsz:=aV w1 (.cells #[.int .i64 K,.string t,.string s,.string h,.bool b,.int .i64 p,.string pa] 75)
      go_wp2_with (at_builtin;refine wpList_append_own _ rfl _ _ 29 rfl w.heap.size 75 i0 (.agg #[.int .i64 0,.string ⟨#[]⟩,.string ⟨#[]⟩,.string ⟨#[]⟩,.bool false,.int .i64 0,.string ⟨#[]⟩]) 7 88 Tryz.underlying29 hi hz0 hz1 hz2 rfl (by decide) _ _ _ rfl (hown2.alloc _) ⟨w1.heap.size+1,0,none⟩ 1 1 [.int .i64 K,.string t,.string s,.string h,.bool b,.int .i64 p,.string pa] rfl rfl HNEW (fun u hu=>by simp at hu;rcases hu with rfl | rfl | rfl | rfl | rfl | rfl | rfl<;>rfl) (by unfold maxLen;omega) (by omega) (by have:=hb2.size;simp only[aV];simp only[aV]at this;omega) ?_;intro v' w5 hown' hgrow5 hnil5
                   have hb5:Below w.heap.size w w5:=Below.grown (hb2.alloc hb2.size _) hgrow5 (by have:=hb2.size;simp only[aV];simp only[aV]at this;omega) (fun j hj=>by have:=(hown2.lt _ hj).1;omega);have X:AsideM (w5.ownsRow w.heap.size 75 7 v' ((bF (Q.take k)).length+1) (eJ (bF (Q.take k))++[.int .i64 K,.string t,.string s,.string h,.bool b,.int .i64 p,.string pa])/\Below w.heap.size w w5):=⟨hown',hb5⟩
                   clear hown' hgrow5 hnil5)
      go_roundw
      case rel=>exact⟨k+1,by omega,by go_num,by rw[HN2.out,List.length_append,rH,jR];exact X.out.1,X.out.2⟩
      case measure=>simp[intOf];omega
  · obtain rfl:k=Q.length:=by omega
    have hown2:wr.ownsRow w.heap.size 75 7 u3 (bF Q).length (eJ (bF Q)):=by
     rw[List.take_length]at hown;exact hown
    clear hown
    go_wp2
    go_ret
    exact⟨_,rfl,hown2,hb⟩
end Go.Proofs.YthnogdodlhkldaaGreatDoor
