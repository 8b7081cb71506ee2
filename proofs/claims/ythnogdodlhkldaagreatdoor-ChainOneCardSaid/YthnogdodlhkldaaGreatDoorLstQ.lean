/- Words are parsed as a row of sources: the program's List; two rows that are the same: the document's. -/
import Derived.Test.YthnogdodlhkldaaGreatDoorMarkZ
set_option maxRecDepth 100000
set_option maxHeartbeats 4000000
namespace Go.Proofs.YthnogdodlhkldaaGreatDoor
open Go.RowKit
theorem rU (L:List (List UInt8))(l:List UInt8):bD (L++[l])=match cO l with | some a=>bD L++[a] | none=>bD L:=by
 rw[xG]
 cases h:cO l with
 | none=>simp[bD,h]
 | some a=>simp[bD,h]
theorem oB:(Tryz.prog.info? 75).map (fun i=>(i.zero,i.size,i.bytes))=some (some (.agg #[.int .i64 0,.string ⟨#[]⟩,.string ⟨#[]⟩,.string ⟨#[]⟩,.bool false,.int .i64 0,.string ⟨#[]⟩]),7,88):=by kernel_rfl
theorem uP (Q:List (List UInt8))(v:Value)(hl:∀ l∈Q,l.length<=10000)(hn:Q.length<=1000000)(w:World)(hw:eC w)(hv:aR w v Q) :
 Calls Tryz.prog 37 #[v] w fun e w'=>∃ u,e=.returned u/\w'.ownsRow w.heap.size 75 7 u (bD Q).length (eI (bD Q))/\Below w.heap.size w w':=by
 obtain⟨a0,c0,rfl⟩:=hv.form;have HV:=zH hv;have HW:=zH hw;have HL:=zH hl;clear hv hw hl
 go_enter Tryz.func37,Tryz.ntmps37
 go_wp2
 have hown0:=World.ownsRow_lit (e:=75) (size:=7) (base:=w.heap.size) w #[] 0 (Nat.le_refl _) (Nat.zero_le _) rfl;have B0:Below w.heap.size w (w.alloc (.cells #[] 75)):=(Below.refl _ _).alloc (Nat.le_refl _) _;obtain⟨i0,hi,hz0,hz1,hz2⟩:=info_parts oB;generalize(Value.slice (some ⟨w.heap.size,0,none⟩) 0 0)=v0 at hown0 ⊢;generalize w.alloc (.cells #[] 75)=w0 at hown0 B0 ⊢
 go_loopw [3,11] (fun u i wr=>∃ k:Nat,k<=Q.length/\i=.int .i64 k/\wr.ownsRow w.heap.size 75 7 u (bD (Q.take k)).length (eI (bD (Q.take k)))/\Below w.heap.size w wr) (fun _ i _=>Q.length - (intOf i).toNat)
 case atStart=>exact⟨0,Nat.zero_le _,rfl,hown0,B0⟩
 case round =>
  obtain⟨k,hk,rfl,hown,hb⟩:=hrel
  by_cases hlt:k<Q.length
  · have hvr:=HV.out.below hb
    obtain⟨Wt,hWt⟩:∃ T:ByteArray,T.data.toList=Q[k]:=⟨⟨Q[k].toArray⟩,rfl⟩;have hWs:Wt.size<=10000:=by rw[<- aE,hWt];exact HL.out _ (List.getElem_mem hlt)
    obtain⟨A,off,cap,hsl,hcell⟩:∃ B off cap,Value.slice a0 Q.length c0=.slice (some ⟨B,off,none⟩) Q.length cap/\wr.cell? ⟨B,off+k,none⟩=some (.string Wt):=by
     rcases hvr with ⟨_,h2⟩ | ⟨B,off,cap,h1,h2⟩
     · rw[h2]at hlt;cases hlt
     · refine⟨B,off,cap,h1,?_⟩
       rw[h2 k hlt,<- hWt,lK]
    injection hsl with e1 _ e3
    subst e1;subst e3;have hadd:(⟨A,off,none⟩:Addr).add k=⟨A,off+k,none⟩:=by simp[Addr.add]
    obtain⟨K,t,s,h,b,p,pa,r,hM,hsome,CP⟩:=bB3 Wt hWs;rw[hWt]at hM hsome
    have HN:Hid (bD (Q.take (k+1))=if r then bD (Q.take k)++[aJ K t s h b p pa] else bD (Q.take k)):=zH (by
     rw[List.take_succ_eq_append_getElem hlt,rU]
     cases hp:cO Q[k]with
     | none=>rw[hp]at hsome;subst hsome;rfl
     | some a=>rw[hp]at hsome hM;subst hsome;rw[hM];rfl)
    have hlen:=fQ (Q.take k);rw[List.length_take]at hlen;have hLw:eC wr:=HW.out.below hb;clear hM hsome hWt hWs hvr
    cases r
    · go_wp2_with fail
      refine(CP.out _ hLw).mono ?_;rintro e w1 ⟨rfl,b1⟩;have hown1:=bC hown b1;have hb1:=hb.trans (b1.mono hb.size);clear hown hb b1 hLw;have HN2:Hid (bD (Q.take (k+1))=bD (Q.take k)):=zH HN.out;have hown2:=bC hown1 ((Below.refl _ _).alloc (Nat.le_refl _) (.cells #[.int .i64 K,.string t,.string s,.string h,.bool b,.int .i64 p,.string pa] 75));have hb2:=hb1.alloc hb1.size (.cells #[.int .i64 K,.string t,.string s,.string h,.bool b,.int .i64 p,.string pa] 75);unfold aP
      go_wp2
      go_roundw
      case rel=>exact⟨k+1,by omega,by go_num,by rw[HN2.out];exact hown2,hb2⟩
      case measure=>simp[intOf];omega
    · go_wp2_with fail
      refine(CP.out _ hLw).mono ?_;rintro e w1 ⟨rfl,b1⟩;have hown1:=bC hown b1;have hb1:=hb.trans (b1.mono hb.size);clear hown hb b1 hLw;have HN2:Hid (bD (Q.take (k+1))=bD (Q.take k)++[aJ K t s h b p pa]):=zH HN.out;have x2:=SX.made w1 K t s h b p pa;have hown2:=bC hown1 ((Below.refl _ _).alloc (Nat.le_refl _) (.cells #[.int .i64 K,.string t,.string s,.string h,.bool b,.int .i64 p,.string pa] 75));have hb2:=hb1.alloc hb1.size (.cells #[.int .i64 K,.string t,.string s,.string h,.bool b,.int .i64 p,.string pa] 75);unfold aP;have HNEW:=sG (w1.alloc (.cells #[.int .i64 K,.string t,.string s,.string h,.bool b,.int .i64 p,.string pa] 75)) [.int .i64 K,.string t,.string s,.string h,.bool b,.int .i64 p,.string pa] 75;rw[aV]at HNEW;have hsz:=aV w1 (.cells #[.int .i64 K,.string t,.string s,.string h,.bool b,.int .i64 p,.string pa] 75)
      go_wp2_with (at_builtin;refine wpList_append_own _ rfl _ _ 29 rfl w.heap.size 75 i0 (.agg #[.int .i64 0,.string ⟨#[]⟩,.string ⟨#[]⟩,.string ⟨#[]⟩,.bool false,.int .i64 0,.string ⟨#[]⟩]) 7 88 Tryz.underlying29 hi hz0 hz1 hz2 rfl (by decide) _ _ _ rfl (hown2.alloc _) ⟨w1.heap.size+1,0,none⟩ 1 1 [.int .i64 K,.string t,.string s,.string h,.bool b,.int .i64 p,.string pa] rfl rfl HNEW (fun u hu=>by simp at hu;rcases hu with rfl | rfl | rfl | rfl | rfl | rfl | rfl<;>rfl) (by unfold maxLen;omega) (by omega) (by have:=hb2.size;simp only[aV];simp only[aV]at this;omega) ?_;intro v' w5 hown' hgrow5 hnil5
                   have hb5:Below w.heap.size w w5:=Below.grown (hb2.alloc hb2.size _) hgrow5 (by have:=hb2.size;simp only[aV];simp only[aV]at this;omega) (fun j hj=>by have:=(hown2.lt _ hj).1;omega);have X:AsideM (w5.ownsRow w.heap.size 75 7 v' ((bD (Q.take k)).length+1) (eI (bD (Q.take k))++[.int .i64 K,.string t,.string s,.string h,.bool b,.int .i64 p,.string pa])/\Below w.heap.size w w5):=⟨hown',hb5⟩
                   clear hown' hgrow5 hnil5)
      go_roundw
      case rel=>exact⟨k+1,by omega,by go_num,by rw[HN2.out,List.length_append,rB,iQ];exact X.out.1,X.out.2⟩
      case measure=>simp[intOf];omega
  · obtain rfl:k=Q.length:=by omega
    have hown2:wr.ownsRow w.heap.size 75 7 u3 (bD Q).length (eI (bD Q)):=by
     rw[List.take_length]at hown;exact hown
    clear hown
    go_wp2
    go_ret
    exact⟨_,rfl,hown2,hb⟩
theorem nC (L:List bH)(v v2:Value)(w:World)(hv:aK w v L)(hv2:aK w v2 L)(hl:L.length<=1000000):Calls Tryz.prog 19 #[v,v2] w fun e w'=>e=.returned (.bool true)/\Below w.heap.size w w':=by
 obtain⟨a,c,rfl⟩:=hv.form;obtain⟨a2,c2,rfl⟩:=hv2.form;have HV:=zH hv;have HV2:=zH hv2;have g0:((L.length:Int) != (L.length:Int))=false:=by simp
 clear hv hv2
 go_enter Tryz.func19,Tryz.ntmps19
 go_wp2
 go_loopw [5] (fun i wr=>∃ k:Nat,k<=L.length/\i=.int .i64 k/\Below w.heap.size w wr) (fun i _=>L.length - (intOf i).toNat)
 case atStart=>exact⟨0,Nat.zero_le _,rfl,Below.refl _ _⟩
 case round =>
  obtain⟨k,hk,rfl,hb⟩:=hrel
  by_cases hlt:k<L.length
  case neg =>
   obtain rfl:k=L.length:=by omega
   go_wp2
   go_ret
   exact⟨rfl,hb⟩
  obtain⟨B,off,rfl,hcell⟩:=(HV.out.below hb).at hlt;obtain⟨B2,off2,rfl,hcell2⟩:=(HV2.out.below hb).at hlt;obtain⟨T,S,H,PA,hM⟩:=kM L[k];generalize L[k].k=K at hM;generalize L[k].w=b at hM;generalize L[k].p=p at hM;rw[hM]at hcell hcell2;rw[iQ]at hcell hcell2;have c0:=hcell 0 _ rfl;have c1:=hcell 1 _ rfl;have c2:=hcell 2 _ rfl;have c3:=hcell 3 _ rfl;have c4:=hcell 4 _ rfl;have c5:=hcell 5 _ rfl;have c6:=hcell 6 _ rfl;have d0:=hcell2 0 _ rfl;have d1:=hcell2 1 _ rfl;have d2:=hcell2 2 _ rfl;have d3:=hcell2 3 _ rfl;have d4:=hcell2 4 _ rfl;have d5:=hcell2 5 _ rfl;have d6:=hcell2 6 _ rfl;rw[Nat.add_zero]at c0 d0;clear hcell hcell2 hM
  go_wp2
  go_quiet (fail)
  have hb2:Below w.heap.size w (wr.drewN nq):=cH hb nq
  go_wp2
  go_roundw
  case rel=>exact⟨k+1,by omega,by go_num,hb2⟩
  case measure=>simp[intOf];omega
end Go.Proofs.YthnogdodlhkldaaGreatDoor
