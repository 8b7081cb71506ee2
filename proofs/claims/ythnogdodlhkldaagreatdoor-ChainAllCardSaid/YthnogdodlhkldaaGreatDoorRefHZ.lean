/- A directive's name, a word: the document's. Rows of texts that came in, appended; rows of directives; a name found: the document's. Policies held against each other: the document's. Policies that are too big to be looked at: the document's. Rows of directives, of policies, that a function makes itself: what is in them lies in other blocks than the row that grows. A policy in memory of its own: the document's. A directive of a part: the document's. -/
import Derived.Test.YthnogdodlhkldaaGreatDoorFoldZ
import Derived.Deep.LoopGhost
import Derived.Deep.AppendLies
import Derived.Deep.RegionLaw
import Derived.Shelf.Strings.FieldsFuncAny
set_option maxRecDepth 100000
set_option maxHeartbeats 8000000
namespace Go.Proofs.YthnogdodlhkldaaGreatDoor
open Go.RowKit
theorem wB_cases (b:UInt8):(wB b=true/\33<=(b.toNat:Int)/\(b.toNat:Int)<=126/\((b.toNat:Int)==44)=false/\((b.toNat:Int)==59)=false)\/(wB b=false/\((b.toNat:Int)<33\/126<(b.toNat:Int)\/(33<=(b.toNat:Int)/\(b.toNat:Int)<=126/\((b.toNat:Int)==44)=true)\/(33<=(b.toNat:Int)/\(b.toNat:Int)<=126/\((b.toNat:Int)==44)=false/\((b.toNat:Int)==59)=true))):=by
 have e1:(b==44)=((b.toNat:Int)==44):=(bR b 44).symm;have e2:(b==59)=((b.toNat:Int)==59):=(bR b 59).symm;unfold wB;rw[e1,e2]
 by_cases h1:33<=b.toNat/\b.toNat<=126
 · rw[decide_eq_true h1]
   cases g1:((b.toNat:Int)==44)
   · cases g2:((b.toNat:Int)==59)
     · exact .inl ⟨rfl,by omega,by omega,rfl,rfl⟩
     · exact .inr ⟨rfl,.inr (.inr (.inr ⟨by omega,by omega,rfl,rfl⟩))⟩
   · exact .inr ⟨rfl,.inr (.inr (.inl ⟨by omega,by omega,rfl⟩))⟩
 · rw[decide_eq_false h1]
   exact .inr ⟨rfl,by omega⟩
end Go.Proofs.YthnogdodlhkldaaGreatDoor
namespace Go.Proofs.YthnogdodlhkldaaGreatDoor
open Go.RowKit
def vM (p:List (List UInt8))(w:World)(e:Ending)(w':World):Prop:=∃ v,e=.returned v/\aR w' v p/\Below w.heap.size w w'
theorem aL1 (p:List (List UInt8))(v:Value)(w:World)(hp:aR w v p)(hl:p.length<=1000000):Calls Tryz.prog 36 #[v] w (vM p w):=by
 have hown:=World.ownsRow_nil w w.heap.size 9 1;have HO:=zH hown;have HP:=zH hp;clear hown hp
 go_enter Tryz.func36,Tryz.ntmps36
 go_wp2_with (at_builtin;refine bG rfl _ _ rfl w.heap.size _ 0 [] rfl HO.out _ p rfl HP.out (by omega) (zL _) ?_;intro v1 w1 hown1 hgr1
              have X:Aside (aR w1 v1 p/\Below w.heap.size w w1):=⟨aR.of_row (by rw[Nat.zero_add]at hown1;exact hown1),Below.grown (zB _ _) hgr1 (zL _) (fun k hk=>by cases hk)⟩
              clear hown1 hgr1)
 go_ret
 exact⟨_,rfl,X.out.1,X.out.2⟩
def aU (w:World)(v:Value)(ds:List D):Prop :=
 ((∃ a c,v=.slice a 0 c)/\ds=[])\/∃ B off cap,v=.slice (some ⟨B,off,none⟩) ds.length cap/\∀ j,(h:j<ds.length)->w.cell? ⟨B,off+j * 2,none⟩=some (dA ds[j].n)/\∃ u,w.cell? ⟨B,off+j * 2+1,none⟩=some u/\aR w u ds[j].w
theorem aU.below {w w':World}{v:Value}{ds:List D}(h:aU w v ds)(hb:Below w.heap.size w w'):aU w' v ds:=by
 rcases h with h | ⟨B,off,cap,h2,h3⟩
 · exact .inl h
 · refine .inr ⟨B,off,cap,h2,fun j hj => ?_⟩
   obtain⟨k1,u,k2,k3⟩:=h3 j hj;exact⟨by rw[hb.cell (aH k1)];exact k1,u,by rw[hb.cell (aH k2)];exact k2,k3.below hb⟩
theorem aU.form {w:World}{v:Value}{ds:List D}(h:aU w v ds):∃ a c,v=.slice a ds.length c:=by
 rcases h with ⟨⟨a,c,rfl⟩,rfl⟩ | ⟨B,off,cap,rfl,_⟩
 · exact⟨_,_,rfl⟩
 · exact⟨_,_,rfl⟩
theorem aU.at {w:World}{a:Option Addr}{n c:Nat}{ds:List D}(h:aU w (.slice a n c) ds){j:Nat}(hj:j<ds.length):∃ B off u,a=some ⟨B,off,none⟩/\w.cell? ⟨B,off+j * 2,none⟩=some (dA ds[j].n)/\w.cell? ⟨B,off+j * 2+1,none⟩=some u/\aR w u ds[j].w:=by
 rcases h with ⟨_,h2⟩ | ⟨B,off,cap,h2,h3⟩
 · subst h2;simp at hj
 · cases h2
   obtain⟨k1,u,k2,k3⟩:=h3 j hj;exact⟨B,off,u,rfl,k1,k2,k3⟩
def dX (d:Value)(r:Bool):Value := .agg #[d,.bool r]
theorem aV0 {ds:List D}{t:List UInt8}{k:Nat}(hk:k<ds.length)(h:∀ j,(h:j<ds.length)->j<k->ds[j].n≠t)(h2:ds[k].n=t):ds.find? (fun d=>d.n==t)=some ds[k]:=by
 rw[List.find?_eq_some_iff_getElem];exact⟨by simp[h2],k,hk,rfl,fun j hj=>by simpa using h j (by omega) hj⟩
theorem aA7 (ds:List D)(dv:Value)(r:Bool)(name:ByteArray)(w:World)(hd:aU w dv ds)(hl:ds.length<=1000000)(hws:∀ d∈ds,d.w.length<=1000000)(hn:name.size<=1099511627776) :
 Calls Tryz.prog 38 #[dX dv r,.string name] w fun e w'=>Below w.heap.size w w'/\((cN ds name.data.toList=none/\e=.returned (.tuple #[.slice none 0 0,.bool false]))\/∃ ws v,cN ds name.data.toList=some ws/\e=.returned (.tuple #[v,.bool true])/\aR w' v ws):=by
 obtain⟨T,hT⟩:=aO (bB name.data.toList);have CL:=cK name T hT hn;have HF:Hid (cN ds name.data.toList=(ds.find? (fun d=>d.n==T.data.toList)).map D.w):=zH (by unfold cN;rw[hT]);obtain⟨a,c,rfl⟩:=hd.form;unfold dX;clear hT
 go_enter Tryz.func38,Tryz.ntmps38
 go_wp2_with fail
 have x1:=aW w (.cells #[.slice a ds.length c,.bool r] 24);have B1:Below w.heap.size w (w.alloc (.cells #[.slice a ds.length c,.bool r] 24)):=(zB _ _).alloc (zL _) _;have d1:=hd.below B1;generalize hR:w.heap.size=R at x1 B1 ⊢;have HR:=zH hR;clear hR;generalize w.alloc (.cells #[.slice a ds.length c,.bool r] 24)=w1 at x1 B1 d1 ⊢;refine(CL.out _).mono ?_;rintro e w2 ⟨rfl,b2⟩;have x2:w2.heap[R]? = some (.cells #[.slice a ds.length c,.bool r] 24):=by rw[b2.block R (aD x1)];exact x1
 have HD:=zH (d1.below b2);have B2:=B1.trans (b2.mono (zT (aD x1)));have c0:w2.cell? ⟨R,0,none⟩=some (.slice a ds.length c):=by rw[aG x2];rfl
 clear x1 B1 d1 b2 x2 hd CL
 go_wp2
 go_loop [7] (fun i=>∃ k:Nat,k<=ds.length/\i=.int .i64 k/\Hid (∀ j,(h:j<ds.length)->j<k->ds[j].n≠T.data.toList)) (fun i=>ds.length - (intOf i).toNat)
 case atStart=>exact⟨0,Nat.zero_le _,rfl,fun j _ h=>absurd h (Nat.not_lt_zero _)⟩
 case round =>
  obtain⟨k,hk,rfl,HS⟩:=hrel
  by_cases hlt:k<ds.length
  · obtain⟨B,off,u,rfl,k1,k2,k3⟩:=HD.out.at hlt
    have g1:((⟨ds[k].n.toArray⟩:ByteArray).toList==T.toList)=decide (ds[k].n=T.data.toList):=fZ _ _;have hw:=hws _ (List.getElem_mem hlt);have HW:Hid (ds[k].n=T.data.toList->ds.find? (fun d=>d.n==T.data.toList)=some ds[k]):=zH fun h=>aV0 hlt HS.out h
    have HN:Hid (ds[k].n≠T.data.toList->∀ j,(h:j<ds.length)->j<k+1->ds[j].n≠T.data.toList):=zH fun h j hj hjk=>by
     by_cases e:j=k
     · subst e;exact h
     · exact HS.out j hj (by omega)
    unfold dA at k1;generalize ds[k]=d at *;obtain⟨X,hX⟩:∃ X:ByteArray,X=⟨d.n.toArray⟩:=⟨_,rfl⟩;rw[<- hX]at k1 g1;clear HD hX
    by_cases he:d.n=T.data.toList
    · rw[decide_eq_true he]at g1
      have HG:Hid (cN ds name.data.toList=some d.w):=zH (by rw[HF.out,HW.out he];rfl);have CO:=aL1 d.w u w2 k3 hw;unfold vM at CO;have HCO:=zH CO;clear he HW HN HS HF k3 hw CO
      go_wp2_with (go_at_call 36;refine HCO.out.mono ?_;rintro e w3 ⟨v,rfl,t3,b3⟩)
      go_ret2
      exact⟨by rw[HR.out];exact B2.trans (b3.mono (by have:=B2.size;rw[HR.out]at this;omega)),.inr ⟨d.w,v,HG.out,rfl,t3⟩⟩
    · rw[decide_eq_false he]at g1
      have HM:=zH (HN.out he);clear he HW HN HS k3 hw
      go_wp2
      go_round
      case rel=>exact⟨k+1,by omega,by go_num,HM⟩
      case measure=>simp[intOf];omega
  · obtain rfl:k=ds.length:=by omega
    have HG:Hid (cN ds name.data.toList=none):=zH (by
     rw[HF.out,List.find?_eq_none.2 (fun x hx => ?_)]
     · rfl
     · obtain⟨j,hj,rfl⟩:=List.getElem_of_mem hx
       simpa using HS.out j hj hj)
    clear HF HS HD
    go_wp2
    go_ret2
    exact⟨by rw[HR.out];exact B2,.inl ⟨HG.out,rfl⟩⟩
end Go.Proofs.YthnogdodlhkldaaGreatDoor
namespace Go.Proofs.YthnogdodlhkldaaGreatDoor
open Go.RowKit
theorem aU.drewN {w:World}{v:Value}{ds:List D}(h:aU w v ds)(n:Nat):aU (w.drewN n) v ds:=h
theorem pO {α:Type}{p q:List α}(h:p.length=q.length)(h2:p.take p.length=q.take p.length):p=q:=by
 rw[List.take_length,h,List.take_length]at h2;exact h2
theorem wG (ds es:List D)(r1 r2:Bool)(u v:Value)(w:World)(hu:aU w u ds)(hv:aU w v es)(hl:ds.length<=1000000)(hw1:∀ d∈ds,d.w.length<=1000000)(hw2:∀ d∈es,d.w.length<=1000000) :
 Calls Tryz.prog 20 #[dX u r1,dX v r2] w fun e w'=>e=.returned (.bool (decide (r1=r2/\ds=es)))/\Below w.heap.size w w':=by
 obtain⟨a,c,rfl⟩:=hu.form;obtain⟨a2,c2,rfl⟩:=hv.form;unfold dX;have BB:Below w.heap.size w ((w.alloc (.cells #[.slice a ds.length c,.bool r1] 24)).alloc (.cells #[.slice a2 es.length c2,.bool r2] 24)):=((zB _ _).alloc (zL _) _).alloc (Below.size ((zB w.heap.size w).alloc (zL _) _)) _
 by_cases hr:r1=r2
 case neg =>
  have HF:Hid (false=decide (r1=r2/\ds=es)):=zH (by rw[decide_eq_false (fun h=>hr h.1)]);have g:(r1 != r2)=true:=by rw[bne_iff_ne];exact hr
  clear hu hv
  cases r1<;>cases r2
  · exact absurd rfl hr
  · go_enter Tryz.func20,Tryz.ntmps20
    go_wp2
    go_ret
    exact⟨aA HF.out,BB⟩
  · go_enter Tryz.func20,Tryz.ntmps20
    go_wp2
    go_ret
    exact⟨aA HF.out,BB⟩
  · exact absurd rfl hr
 subst hr
 by_cases hne:ds.length=es.length
 case neg =>
  have HF:Hid (false=decide (ds=es)):=zH (by rw[decide_eq_false (fun h=>hne (by rw[h]))]);have g2:((ds.length:Int) != (es.length:Int))=true:=by rw[bne_iff_ne];omega
  clear hu hv hne
  go_enter Tryz.func20,Tryz.ntmps20
  go_wp2
  go_ret
  exact⟨aA (HF.out.trans (by simp)),BB⟩
 have g2:((ds.length:Int) != (es.length:Int))=false:=by rw[bne_eq_false_iff_eq];omega
 have HNE:=zH hne;have hle:es.length=ds.length:=hne.symm;rw[hle]at hv g2 BB ⊢;clear hne hle;have HFT:Hid (ds=es->true=decide (ds=es)):=zH fun h=>by rw[decide_eq_true h]
 have HFF:Hid (ds≠es->false=decide (ds=es)):=zH fun h=>by rw[decide_eq_false h]
 have xn:=aW w (.cells #[.slice a ds.length c,.bool r1] 24);have xz:=aW (w.alloc (.cells #[.slice a ds.length c,.bool r1] 24)) (.cells #[.slice a2 ds.length c2,.bool r1] 24)
 have xy:((w.alloc (.cells #[.slice a ds.length c,.bool r1] 24)).alloc (.cells #[.slice a2 ds.length c2,.bool r1] 24)).heap[w.heap.size]? = some (.cells #[.slice a ds.length c,.bool r1] 24):=by
  rw[((zB (w.alloc (.cells #[.slice a ds.length c,.bool r1] 24)).heap.size (w.alloc (.cells #[.slice a ds.length c,.bool r1] 24))).alloc (zL _) (.cells #[.slice a2 ds.length c2,.bool r1] 24)).block _ (aD xn)];exact xn
 have hsz:(w.alloc (.cells #[.slice a ds.length c,.bool r1] 24)).heap.size=w.heap.size+1:=by show(w.heap.push _).size=_;simp
 rw[hsz]at xz;have HU:=zH (hu.below BB);have HV:Hid (aU ((w.alloc (.cells #[.slice a ds.length c,.bool r1] 24)).alloc (.cells #[.slice a2 ds.length c2,.bool r1] 24)) (.slice a2 ds.length c2) es):=zH (hv.below BB);clear hu hv xn hsz
 go_enter Tryz.func20,Tryz.ntmps20
 go_wp2
 generalize hR:w.heap.size=R at xy xz BB ⊢;have HR:=zH hR;clear hR;generalize(w.alloc (.cells #[.slice a ds.length c,.bool r1] 24)).alloc (.cells #[.slice a2 ds.length c2,.bool r1] 24)=w2 at xy xz BB HU HV ⊢;have c0:w2.cell? ⟨R,0,none⟩=some (.slice a ds.length c):=by rw[aG xy];rfl
 have e0:w2.cell? ⟨R+1,0,none⟩=some (.slice a2 ds.length c2):=by rw[aG xz];rfl
 clear xy xz
 go_loopw [5] (fun i wr=>∃ k n:Nat,k<=ds.length/\i=.int .i64 k/\wr=w2.drewN n/\Hid (ds.take k=es.take k)) (fun i _=>ds.length - (intOf i).toNat)
 case atStart=>exact⟨0,0,Nat.zero_le _,rfl,rfl,rfl⟩
 case round =>
  obtain⟨k,n,hk,rfl,hwr,HS⟩:=hrel;have c0r:wr.cell? ⟨R,0,none⟩=some (.slice a ds.length c):=by rw[hwr];exact c0
  have e0r:wr.cell? ⟨R+1,0,none⟩=some (.slice a2 ds.length c2):=by rw[hwr];exact e0
  have HUr:Hid (aU wr (.slice a ds.length c) ds):=zH (by rw[hwr];exact HU.out.drewN n);have HVr:Hid (aU wr (.slice a2 ds.length c2) es):=zH (by rw[hwr];exact HV.out.drewN n);have BBr:Below R w wr:=by rw[hwr];exact cL BB n
  have HW:=zH hwr;clear hwr c0 e0 BB HU HV
  by_cases hlt:k<ds.length
  · have hlt2:k<es.length:=by have:=HNE.out;omega
    obtain⟨B,off,x,rfl,k1,k2,k3⟩:=HUr.out.at hlt;obtain⟨B2,off2,y,rfl,j1,j2,j3⟩:=HVr.out.at hlt2;have q1:=hw1 _ (List.getElem_mem hlt);have q2:=hw2 _ (List.getElem_mem hlt2);have HT:Hid (ds[k]=es[k]->ds.take (k+1)=es.take (k+1)):=zH fun h=>by rw[List.take_succ_eq_append_getElem hlt,List.take_succ_eq_append_getElem hlt2,h,HS.out]
    have HN:Hid (ds[k]≠es[k]->ds≠es):=zH fun h e=>by subst e;exact h rfl
    generalize ds[k]=d at *;generalize es[k]=e at *;have g1:=str_eq d.n e.n;unfold dA at k1 j1;obtain⟨X,hX⟩:∃ X:ByteArray,X=⟨d.n.toArray⟩:=⟨_,rfl⟩;obtain⟨Y,hY⟩:∃ Y:ByteArray,Y=⟨e.n.toArray⟩:=⟨_,rfl⟩;rw[<- hX]at k1 g1;rw[<- hY]at j1 g1;clear hX hY
    by_cases hn:d.n=e.n
    case neg =>
     rw[decide_eq_false hn]at g1;have HF:=zH (HFF.out (HN.out (fun h=>hn (by rw[h]))));clear hn k3 j3 HT HN HS
     go_wp2_with fail
     go_quiet (fail)
     go_wp2
     go_ret
     exact⟨aA (HF.out.trans (by simp)),by rw[HR.out];exact cL BBr _⟩
    rw[decide_eq_true hn]at g1
    by_cases hw:d.w=e.w
    · have CT:Hid (∀ W,aR W x d.w->aR W y e.w->Calls Tryz.prog 16 #[x,y] W fun e' w'=>e'=.returned (.bool true)/\∃ n,w'=W.drewN n):=zH fun W h1 h2=>by
       have h:=oK d.w e.w x y W h1 h2 (by omega) (by omega);rw[show aV1 d.w e.w=true from by rw[<- hw];exact eqT_self _]at h;exact h
      have HK3:=zH k3;have HJ3:=zH j3;have HM:=zH (HT.out (by cases d;cases e;simp_all));clear hn hw k3 j3 HT HN HS
      go_wp2_with fail
      go_quiet ((go_at_call 16;exact Calls.quiet_of (CT.out _ (by exact HK3.out) (by exact HJ3.out))))
      go_wp2
      go_roundw
      case rel=>exact⟨k+1,n+nq,by omega,by go_num,by rw[HW.out,World.drewN_drewN],HM⟩
      case measure=>simp[intOf];omega
    · have CT:Hid (∀ W,aR W x d.w->aR W y e.w->Calls Tryz.prog 16 #[x,y] W fun e' w'=>e'=.returned (.bool false)/\∃ n,w'=W.drewN n):=zH fun W h1 h2=>by
       have h:=oK d.w e.w x y W h1 h2 (by omega) (by omega);rw[show aV1 d.w e.w=false from by unfold aV1;rw[decide_eq_false hw]]at h;exact h
      have HK3:=zH k3;have HJ3:=zH j3;have HF:=zH (HFF.out (HN.out (fun h=>hw (by rw[h]))));clear hn hw k3 j3 HT HN HS
      go_wp2_with fail
      go_quiet ((go_at_call 16;exact Calls.quiet_of (CT.out _ (by exact HK3.out) (by exact HJ3.out))))
      go_wp2
      go_ret
      exact⟨aA (HF.out.trans (by simp)),by rw[HR.out];exact cL BBr _⟩
  · obtain rfl:k=ds.length:=by omega
    have HF:=zH (HFT.out (pO HNE.out HS.out));clear HS
    go_wp2
    go_ret
    exact⟨aA (HF.out.trans (by simp)),by rw[HR.out];exact BBr⟩
def bM (w:World)(v:Value)(ps:List (List D × Bool)):Prop :=
 ((∃ a c,v=.slice a 0 c)/\ps=[])\/∃ B off cap,v=.slice (some ⟨B,off,none⟩) ps.length cap/\∀ j,(h:j<ps.length)->(∃ u,w.cell? ⟨B,off+j * 2,none⟩=some u/\aU w u ps[j].1)/\w.cell? ⟨B,off+j * 2+1,none⟩=some (.bool ps[j].2)
theorem bM.below {w w':World}{v:Value}{ps:List (List D × Bool)}(h:bM w v ps)(hb:Below w.heap.size w w'):bM w' v ps:=by
 rcases h with h | ⟨B,off,cap,h2,h3⟩
 · exact .inl h
 · refine .inr ⟨B,off,cap,h2,fun j hj => ?_⟩
   obtain⟨⟨u,k1,k2⟩,k3⟩:=h3 j hj;exact⟨⟨u,by rw[hb.cell (aH k1)];exact k1,k2.below hb⟩,by rw[hb.cell (aH k3)];exact k3⟩
theorem bM.form {w:World}{v:Value}{ps:List (List D × Bool)}(h:bM w v ps):∃ a c,v=.slice a ps.length c:=by
 rcases h with ⟨⟨a,c,rfl⟩,rfl⟩ | ⟨B,off,cap,rfl,_⟩
 · exact⟨_,_,rfl⟩
 · exact⟨_,_,rfl⟩
theorem bM.at {w:World}{a:Option Addr}{n c:Nat}{ps:List (List D × Bool)}(h:bM w (.slice a n c) ps){j:Nat}(hj:j<ps.length):∃ B off u,a=some ⟨B,off,none⟩/\w.cell? ⟨B,off+j * 2,none⟩=some u/\w.cell? ⟨B,off+j * 2+1,none⟩=some (.bool ps[j].2)/\aU w u ps[j].1:=by
 rcases h with ⟨_,h2⟩ | ⟨B,off,cap,h2,h3⟩
 · subst h2;simp at hj
 · cases h2
   obtain⟨⟨u,k1,k2⟩,k3⟩:=h3 j hj;exact⟨B,off,u,rfl,k1,k3,k2⟩
theorem jT (ds es:List D)(r1 r2 b:Bool)(hb:decide (r1=r2/\ds=es)=b)(hl:ds.length<=1000000)(hw1:∀ d∈ds,d.w.length<=1000000)(hw2:∀ d∈es,d.w.length<=1000000):Hid (∀ W u v,aU W u ds->aU W v es->Calls Tryz.prog 20 #[dX u r1,dX v r2] W fun e w'=>e=.returned (.bool b)/\Below W.heap.size W w') :=
 zH fun W u v hu hv=>by rw[<- hb];exact wG ds es r1 r2 u v W hu hv hl hw1 hw2
theorem aL9 (ps qs:List (List D × Bool))(u v:Value)(w:World)(hu:bM w u ps)(hv:bM w v qs)(hl:ps.length<=1000000)(h1:∀ p∈ps,p.1.length<=1000000/\∀ d∈p.1,d.w.length<=1000000)(h2:∀ p∈qs,∀ d∈p.1,d.w.length<=1000000) :
 Calls Tryz.prog 27 #[u,v] w fun e w'=>e=.returned (.bool (decide (ps=qs)))/\Below w.heap.size w w':=by
 obtain⟨a,c,rfl⟩:=hu.form;obtain⟨a2,c2,rfl⟩:=hv.form
 by_cases hne:ps.length=qs.length
 case neg =>
  have HF:Hid (false=decide (ps=qs)):=zH (by rw[decide_eq_false (fun h=>hne (by rw[h]))]);have g2:((ps.length:Int) != (qs.length:Int))=true:=by rw[bne_iff_ne];omega
  clear hu hv hne
  go_enter Tryz.func27,Tryz.ntmps27
  go_wp2
  go_ret
  exact⟨aA HF.out,zB _ _⟩
 have g2:((ps.length:Int) != (qs.length:Int))=false:=by rw[bne_eq_false_iff_eq];omega
 have HNE:=zH hne;have hle:qs.length=ps.length:=hne.symm;rw[hle]at hv g2 ⊢;clear hne hle;have HFT:Hid (ps=qs->true=decide (ps=qs)):=zH fun h=>by rw[decide_eq_true h]
 have HFF:Hid (ps≠qs->false=decide (ps=qs)):=zH fun h=>by rw[decide_eq_false h]
 have HU:=zH hu;have HV:=zH hv;clear hu hv
 go_enter Tryz.func27,Tryz.ntmps27
 go_wp2
 go_loopw [5] (fun i wr=>∃ k:Nat,k<=ps.length/\i=.int .i64 k/\Below w.heap.size w wr/\Hid (ps.take k=qs.take k)) (fun i _=>ps.length - (intOf i).toNat)
 case atStart=>exact⟨0,Nat.zero_le _,rfl,zB _ _,rfl⟩
 case round =>
  obtain⟨k,hk,rfl,hb,HS⟩:=hrel
  by_cases hlt:k<ps.length
  · have hlt2:k<qs.length:=by have:=HNE.out;omega
    obtain⟨B,off,x,rfl,k1,k2,k3⟩:=(HU.out.below hb).at hlt;obtain⟨B2,off2,y,rfl,j1,j2,j3⟩:=(HV.out.below hb).at hlt2;obtain⟨q1,q2⟩:=h1 _ (List.getElem_mem hlt);have q3:=h2 _ (List.getElem_mem hlt2);have HT:Hid (ps[k]=qs[k]->ps.take (k+1)=qs.take (k+1)):=zH fun h=>by rw[List.take_succ_eq_append_getElem hlt,List.take_succ_eq_append_getElem hlt2,h,HS.out]
    have HN:Hid (ps[k]≠qs[k]->ps≠qs):=zH fun h e=>by subst e;exact h rfl
    generalize ps[k]=p at *;generalize qs[k]=q at *;obtain⟨bb,hbb⟩:∃ b,decide (p.2=q.2/\p.1=q.1)=b:=⟨_,rfl⟩;have CS:=jT p.1 q.1 p.2 q.2 bb hbb q1 q2 q3;unfold dX at CS;obtain⟨C,hC⟩:∃ C:World->Prop,∀ w',C w'↔(Below w.heap.size w w'/\Below wr.heap.size wr w'):=⟨_,fun _=>Iff.rfl⟩;have HC:=zH hC;have HK3:=zH k3;have HJ3:=zH j3;have hC0:C wr.drew:=(HC.out _).2 ⟨hb.drew,(zB _ _).drew⟩
    have HK:Hid (∀ w',C w'->∀ w7,Below w'.heap.size w' w7->C w7):=zH fun w' hc w7 b=>by
     obtain⟨e1,e2⟩:=(HC.out w').1 hc;exact(HC.out _).2 ⟨e1.trans (b.mono e1.size),e2.trans (b.mono e2.size)⟩
    have hix:(k:Int)<(ps.length:Int):=by omega
    clear hC k3 j3 q1 q2 q3
    go_wp2_with fail
    refine aY C (by kernel_rfl) (by kernel_rfl) hC0 ?_;clear hC0
    repeat
     first
      | go_big_quiet_skip
      | (go_big_quiet_want;go_big_quiet_op;go_big_quiet_on)
      | (refine BigFrame.wpQuiet_want rfl (fun K hK => ?_)
         apply Exists.intro
         refine⟨fun w' hc => ?_,hK _ ?_⟩
         · obtain⟨e1,e2⟩:=(HC.out w').1 hc
           have d1:=k1;have d2:=k2;have d3:=j1;have d4:=j2;rw[<- e2.cell (aH k1)]at d1;rw[<- e2.cell (aH k2)]at d2;rw[<- e2.cell (aH j1)]at d3;rw[<- e2.cell (aH j2)]at d4;unfold Oper.quietAt
           go_simp
           first
            | done
            | rfl
            | ((with_reducible refine(CS.out _ _ _ (HK3.out.below e2) (HJ3.out.below e2)).mono ?_);rintro e w7 ⟨rfl,b7⟩;exact⟨rfl,HK.out w' hc w7 b7⟩)
         clear hK K
         simp only[Act.put,List.setIfInBounds_toArray,List.set_cons_zero,List.set_cons_succ])
    refine wpQuiet_nil ?_;intro w9 hc;obtain⟨b9,_⟩:=(HC.out w9).1 hc;clear hc HC HK CS k1 k2 j1 j2 HK3 HJ3
    cases bb
    · have HF:=zH (HFF.out (HN.out (fun h=>by rw[h]at hbb;simp at hbb)))
      clear hbb HT HN HS
      go_wp2
      go_ret
      exact⟨aA HF.out,b9⟩
    · have HM:=zH (HT.out (by
       have:=of_decide_eq_true hbb
       exact Prod.ext this.2 this.1))
      clear hbb HT HN HS
      go_wp2
      go_roundw
      case rel=>exact⟨k+1,by omega,by go_num,b9,HM⟩
      case measure=>simp[intOf];omega
  · obtain rfl:k=ps.length:=by omega
    have HF:=zH (HFT.out (pO HNE.out HS.out));clear HS
    go_wp2
    go_ret
    exact⟨aA HF.out,hb⟩
end Go.Proofs.YthnogdodlhkldaaGreatDoor
namespace Go.Proofs.YthnogdodlhkldaaGreatDoor
open Go.RowKit
def sV (d:D):Prop:=d.n.length<=200/\d.w.length<=210/\∀ x∈d.w,x.length<=300
def iH (ds:List D):Prop:=ds.length<=20/\∀ d∈ds,sV d
theorem aG2 {α:Type}{l:List α}{P:α->Prop}(h:∀ j,(h:j<l.length)->j<l.length->P l[j]):∀ x∈l,P x:=by
 intro x hx;obtain⟨j,hj,rfl⟩:=List.getElem_of_mem hx;exact h j hj hj
def sX (ps:List (List D × Bool))(w:World)(e:Ending)(w':World):Prop:=∃ b,e=.returned (.bool b)/\w'=w/\(b=false->ps.length<=15/\∀ p∈ps,iH p.1)
theorem pX (ps:List (List D × Bool))(v:Value)(w:World)(hv:bM w v ps)(hl:ps.length<=9223372036854775807)(hl2:∀ p∈ps,p.1.length<=9223372036854775807/\∀ d∈p.1,d.w.length<=9223372036854775807) :
 Calls Tryz.prog 11 #[v] w (sX ps w):=by
 obtain⟨a,c,rfl⟩:=hv.form
 by_cases h15:(15:Int)<(ps.length:Int)
 · clear hv
   go_enter Tryz.func11,Tryz.ntmps11
   go_wp2
   go_ret
   exact⟨true,rfl,rfl,fun h=>by cases h⟩
 have HV:=zH hv;clear hv
 go_enter Tryz.func11,Tryz.ntmps11
 go_wp2
 go_loop [3,4] (fun i _=>∃ k:Nat,k<=ps.length/\i=.int .i64 k/\Hid (∀ j,(h:j<ps.length)->j<k->iH ps[j].1)) (fun i _=>ps.length - (intOf i).toNat)
 case atStart=>exact⟨0,Nat.zero_le _,rfl,fun j _ h=>absurd h (Nat.not_lt_zero _)⟩
 case round =>
  obtain⟨k,hk,rfl,HS⟩:=hrel
  by_cases hlt:k<ps.length
  case neg =>
   obtain rfl:k=ps.length:=by omega
   have HE:Hid (ps.length<=15/\∀ p∈ps,iH p.1):=zH ⟨by omega,aG2 (P:=fun p:List D × Bool=>iH p.1) HS.out⟩;clear HS HV
   go_wp2
   go_ret
   exact⟨false,rfl,rfl,fun _=>HE.out⟩
  obtain⟨B,off,u,rfl,k1,k2,k3⟩:=HV.out.at hlt;obtain⟨q1,q2⟩:=hl2 _ (List.getElem_mem hlt)
  have HNX:Hid (iH ps[k].1->∀ j,(h:j<ps.length)->j<k+1->iH ps[j].1):=zH fun h1 j hj hjk=>by
   by_cases e:j=k
   · subst e;exact h1
   · exact HS.out j hj (by omega)
  generalize ps[k]=p at *;obtain⟨ds,r⟩:=p;obtain⟨a2,c2,rfl⟩:=k3.form;have HD:Hid (aU w (.slice a2 ds.length c2) ds):=zH k3;have q1':ds.length<=9223372036854775807:=q1;have q2':∀ d∈ds,d.w.length<=9223372036854775807:=q2;have HNX':Hid (iH ds->∀ j,(h:j<ps.length)->j<k+1->iH ps[j].1):=HNX;have k2':w.cell? ⟨B,off+k * 2+1,none⟩=some (.bool r):=k2;have k1':w.cell? ⟨B,off+k * 2,none⟩=some (.slice a2 ds.length c2):=k1;clear k3 HS q1 q2 HNX k1 k2
  by_cases h20:(20:Int)<(ds.length:Int)
  · go_wp2
    go_ret
    exact⟨true,rfl,rfl,fun h=>by cases h⟩
  go_wp2
  go_loop [4] (fun i=>∃ m:Nat,m<=ds.length/\i=.int .i64 m/\Hid (∀ j,(h:j<ds.length)->j<m->sV ds[j])) (fun i=>ds.length - (intOf i).toNat)
  case atStart=>exact⟨0,Nat.zero_le _,rfl,fun j _ h=>absurd h (Nat.not_lt_zero _)⟩
  case round =>
   obtain⟨m,hm,rfl,HQ⟩:=hrel
   by_cases hmt:m<ds.length
   case neg =>
    obtain rfl:m=ds.length:=by omega
    have HM:=zH (HNX'.out ⟨by omega,aG2 (P:=sV) HQ.out⟩);clear HQ HNX' HD
    go_wp2
    go_round
    case rel=>exact⟨k+1,by omega,by go_num,HM⟩
    case measure=>simp[intOf];omega
   obtain⟨B2,off2,y,rfl,j1,j2,j3⟩:=HD.out.at hmt;have q3:=q2' _ (List.getElem_mem hmt)
   have HQN:Hid (sV ds[m]->∀ j,(h:j<ds.length)->j<m+1->sV ds[j]):=zH fun h1 j hj hjm=>by
    by_cases e:j=m
    · subst e;exact h1
    · exact HQ.out j hj (by omega)
   generalize ds[m]=d at *;unfold dA at j1;obtain⟨X,hX⟩:∃ X:ByteArray,X=⟨d.n.toArray⟩:=⟨_,rfl⟩;rw[<- hX]at j1;have HX:Hid (d.n.length=X.size):=zH (by rw[hX];exact(bsize d.n).symm);clear hX HQ
   by_cases h200:(200:Int)<(X.size:Int)
   · clear j3
     go_wp2
     go_ret
     exact⟨true,rfl,rfl,fun h=>by cases h⟩
   have CB:Hid (Calls Tryz.prog 35 #[y,.int .i64 210,.int .i64 300] w (yF 210 300 d.w w)):=zH (aL8 210 300 (by decide) d.w y w j3 q3);clear j3
   go_wp2_with fail
   refine CB.out.mono ?_;unfold yF;rintro e w' ⟨b,rfl,rfl,hbb⟩
   cases b
   · have HM:=zH (HQN.out ⟨by rw[HX.out];omega,(hbb rfl).1,(hbb rfl).2⟩)
     clear hbb HQN CB
     go_wp2
     go_round
     case rel=>exact⟨m+1,by omega,by go_num,HM⟩
     case measure=>simp[intOf];omega
   · clear hbb HQN CB
     go_wp2
     go_ret
     exact⟨true,rfl,rfl,fun h=>by cases h⟩
end Go.Proofs.YthnogdodlhkldaaGreatDoor
namespace Go.Proofs.YthnogdodlhkldaaGreatDoor
open Go.RowKit
def bO (w:World)(lo:Nat)(ob:Option Nat)(u:Value)(ts:List (List UInt8)):Prop :=
 ((∃ a c,u=.slice a 0 c)/\ts=[])\/∃ B off cap,u=.slice (some ⟨B,off,none⟩) ts.length cap/\B<w.heap.size/\(lo<=B/\some B≠ob)/\∀ j,(h:j<ts.length)->w.cell? ⟨B,off+j,none⟩=some (dA ts[j])
theorem bO.in {w:World}{lo:Nat}{ob:Option Nat}{u:Value}{ts:List (List UInt8)}(h:bO w lo ob u ts):aR w u ts:=by
 rcases h with h | ⟨B,off,cap,h1,_,_,h2⟩
 · exact .inl h
 · exact .inr ⟨B,off,cap,h1,h2⟩
theorem bO.below {w w':World}{lo:Nat}{ob:Option Nat}{u:Value}{ts:List (List UInt8)}(h:bO w lo ob u ts)(hb:Below w.heap.size w w'):bO w' lo ob u ts:=by
 rcases h with h | ⟨B,off,cap,h1,h2,h3,h4⟩
 · exact .inl h
 · exact .inr ⟨B,off,cap,h1,Nat.lt_of_lt_of_le h2 hb.size,h3,fun j hj=>by rw[hb.cell h2];exact h4 j hj⟩
theorem bO.of_row {w:World}{base:Nat}{lo:Nat}{ob:Option Nat}{u:Value}{ts:List (List UInt8)}(h:w.ownsRow base 9 1 u ts.length (aC ts))(hlo:lo<=base)(hob:∀ k,ob=some k->k<base):bO w lo ob u ts:=by
 rcases h.2 with ⟨h1,h2⟩ | ⟨g,cap,cur,hv,hg,hh,_⟩
 · exact .inl ⟨⟨_,_,h1⟩,List.length_eq_zero_iff.1 h2⟩
 · refine .inr ⟨g,0,cap,hv,aD hh,⟨Nat.le_trans hlo hg,fun e=>by have:=hob g e.symm;omega⟩,fun j hj => ?_⟩
   subst hv;rw[Nat.zero_add,h.cellAt j (by omega)];simp[aC,List.getElem?_eq_getElem hj]
theorem bO.step {w w':World}{lo:Nat}{ob ob':Option Nat}{u:Value}{ts:List (List UInt8)}(h:bO w lo ob u ts)(hg:w.grownBy w' ob)(ho:ob'=ob\/ob'=some w.heap.size):bO w' lo ob' u ts:=by
 rcases h with h | ⟨B,off,cap,h1,h2,h3,h4⟩
 · exact .inl h
 · refine .inr ⟨B,off,cap,h1,Nat.lt_of_lt_of_le h2 hg.size,⟨h3.1,?_⟩,fun j hj=>hg.cell (h4 j hj) h3.2⟩
   rcases ho with rfl | rfl
   · exact h3.2
   · intro e
     have:=Option.some.inj e;omega
def gM (w:World)(lo:Nat)(ob:Option Nat)(ds:List D)(cs:List Value):Prop:=cs.length=ds.length * 2/\∀ j,(h:j<ds.length)->cs[j * 2]? = some (dA ds[j].n)/\∃ u,cs[j * 2+1]? = some u/\bO w lo ob u ds[j].w
theorem gM.nil (w:World)(lo:Nat)(ob:Option Nat):gM w lo ob [] []:=⟨rfl,fun j h=>by cases h⟩
theorem gM.below {w w':World}{lo:Nat}{ob:Option Nat}{ds:List D}{cs:List Value}(h:gM w lo ob ds cs)(hb:Below w.heap.size w w'):gM w' lo ob ds cs :=
 ⟨h.1,fun j hj=>by obtain⟨k1,u,k2,k3⟩:=h.2 j hj;exact⟨k1,u,k2,k3.below hb⟩⟩
theorem gM.step {w w':World}{lo:Nat}{ob ob':Option Nat}{ds:List D}{cs:List Value}(h:gM w lo ob ds cs)(hg:w.grownBy w' ob)(ho:ob'=ob\/ob'=some w.heap.size):gM w' lo ob' ds cs :=
 ⟨h.1,fun j hj=>by obtain⟨k1,u,k2,k3⟩:=h.2 j hj;exact⟨k1,u,k2,k3.step hg ho⟩⟩
theorem gM.snoc {w:World}{lo:Nat}{ob:Option Nat}{ds:List D}{cs:List Value}(h:gM w lo ob ds cs)(d:D)(u:Value)(hu:bO w lo ob u d.w):gM w lo ob (ds++[d]) (cs++[dA d.n,u]):=by
 refine⟨by simp[h.1];omega,fun j hj => ?_⟩;have hl:=h.1
 by_cases hlt:j<ds.length
 · obtain⟨k1,v,k2,k3⟩:=h.2 j hlt
   rw[List.getElem_append_left hlt,List.getElem?_append_left (by omega),List.getElem?_append_left (by omega)];exact⟨k1,v,k2,k3⟩
 · have e:j=ds.length:=by simp at hj;omega
   subst e;rw[List.getElem_append_right (zL _),List.getElem?_append_right (by omega),List.getElem?_append_right (by omega),hl];simp only[Nat.sub_self,List.getElem_cons_zero];rw[show ds.length * 2+1 - ds.length * 2=1 by omega];exact⟨rfl,u,rfl,hu⟩
def jA (w:World)(base:Nat)(v:Value)(ds:List D):Prop:=∃ cs,w.ownsRow base 67 2 v ds.length cs/\gM w base v.ownBlock ds cs
theorem jA.nil (w:World)(base:Nat):jA w base (.slice none 0 0) []:=⟨[],World.ownsRow_nil w base _ 2,gM.nil w _ _⟩
theorem jA.below {w w':World}{base:Nat}{v:Value}{ds:List D}(h:jA w base v ds)(hb:Below w.heap.size w w'):jA w' base v ds:=by
 obtain⟨cs,h1,h2⟩:=h;exact⟨cs,aX h1 hb,h2.below hb⟩
theorem jA.in {w:World}{base:Nat}{v:Value}{ds:List D}(h:jA w base v ds):aU w v ds:=by
 obtain⟨cs,h1,h2,h3⟩:=h;rcases h1.2 with ⟨e1,e2⟩ | ⟨g,cap,cur,hv,hg,hh,_⟩
 · exact .inl ⟨⟨_,_,e1⟩,List.length_eq_zero_iff.1 e2⟩
 · subst hv
   refine .inr ⟨g,0,cap,rfl,fun j hj => ?_⟩;obtain⟨k1,u,k2,k3⟩:=h3 j hj;rw[Nat.zero_add,h1.cellAt (j * 2) (by omega),h1.cellAt (j * 2+1) (by omega)];exact⟨k1,u,k2,k3.in⟩
theorem jA.grow {w w':World}{base:Nat}{v v':Value}{ds:List D}{cs:List Value}(d:D)(u:Value)(h:gM w base v.ownBlock ds cs)(hu:bO w base v.ownBlock u d.w)(hown:w'.ownsRow base 67 2 v' (ds.length+1) (cs++[dA d.n,u]))(hg:w.grownBy w' v.ownBlock)(ho:v'.ownBlock=v.ownBlock\/v'.ownBlock=some w.heap.size):jA w' base v' (ds++[d]) :=
 ⟨cs++[dA d.n,u],by rw[List.length_append];exact hown,(h.snoc d u hu).step hg ho⟩
def eY (w:World)(lo:Nat)(ob:Option Nat)(v:Value)(ds:List D):Prop :=
 ((∃ a c,v=.slice a 0 c)/\ds=[])\/∃ B off cap,v=.slice (some ⟨B,off,none⟩) ds.length cap/\B<w.heap.size/\(lo<=B/\some B≠ob)/\∀ j,(h:j<ds.length)->w.cell? ⟨B,off+j * 2,none⟩=some (dA ds[j].n)/\∃ u,w.cell? ⟨B,off+j * 2+1,none⟩=some u/\bO w lo ob u ds[j].w
theorem eY.in {w:World}{lo:Nat}{ob:Option Nat}{v:Value}{ds:List D}(h:eY w lo ob v ds):aU w v ds:=by
 rcases h with h | ⟨B,off,cap,h1,_,_,h2⟩
 · exact .inl h
 · exact .inr ⟨B,off,cap,h1,fun j hj=>by obtain⟨k1,u,k2,k3⟩:=h2 j hj;exact⟨k1,u,k2,k3.in⟩⟩
theorem eY.step {w w':World}{lo:Nat}{ob ob':Option Nat}{v:Value}{ds:List D}(h:eY w lo ob v ds)(hg:w.grownBy w' ob)(ho:ob'=ob\/ob'=some w.heap.size):eY w' lo ob' v ds:=by
 rcases h with h | ⟨B,off,cap,h1,h2,h3,h4⟩
 · exact .inl h
 · refine .inr ⟨B,off,cap,h1,Nat.lt_of_lt_of_le h2 hg.size,⟨h3.1,?_⟩,fun j hj => ?_⟩
   · rcases ho with rfl | rfl
     · exact h3.2
     · intro e
       have:=Option.some.inj e;omega
   · obtain⟨k1,u,k2,k3⟩:=h4 j hj
     exact⟨hg.cell k1 h3.2,u,hg.cell k2 h3.2,k3.step hg ho⟩
theorem cell_far (w:World)(p q:Addr)(u:Value)(h:q.block≠p.block):(w.setCell p u).cell? q=w.cell? q:=World.cell?_of_block (Below.heap_setCell w p u q.block h)
theorem bO.set {w:World}{lo:Nat}{ob:Option Nat}{u:Value}{ts:List (List UInt8)}(h:bO w lo ob u ts){p:Addr}(hp:p.block<lo)(x:Value):bO (w.setCell p x) lo ob u ts:=by
 rcases h with h | ⟨B,off,cap,h1,h2,h3,h4⟩
 · exact .inl h
 · exact .inr ⟨B,off,cap,h1,by simpa [World.setCell] using h2,h3,fun j hj=>by rw[cell_far _ _ _ _ (by have:=h3.1;show B≠p.block;omega)];exact h4 j hj⟩
theorem gM.set {w:World}{lo:Nat}{ob:Option Nat}{ds:List D}{cs:List Value}(h:gM w lo ob ds cs){p:Addr}(hp:p.block<lo)(x:Value):gM (w.setCell p x) lo ob ds cs :=
 ⟨h.1,fun j hj=>by obtain⟨k1,u,k2,k3⟩:=h.2 j hj;exact⟨k1,u,k2,k3.set hp x⟩⟩
theorem jA.set {w:World}{base:Nat}{v:Value}{ds:List D}(h:jA w base v ds){p:Addr}(hp:p.block<base)(x:Value):jA (w.setCell p x) base v ds:=by
 obtain⟨cs,h1,h2⟩:=h;exact⟨cs,ownsRow_setCell_below h1 hp x,h2.set hp x⟩
end Go.Proofs.YthnogdodlhkldaaGreatDoor
namespace Go.Proofs.YthnogdodlhkldaaGreatDoor
open Go.RowKit
theorem TinfoD:(Tryz.prog.info? 67).map (fun i=>(i.zero,i.size,i.bytes))=some (some (.agg #[.string ⟨#[]⟩,.slice none 0 0]),2,40):=by kernel_rfl
theorem aL0 (p:List (List UInt8))(v:Value)(w:World)(hp:aR w v p)(hl:p.length<=1000000):Calls Tryz.prog 36 #[v] w fun e w'=>∃ u,e=.returned u/\w'.ownsRow w.heap.size 9 1 u p.length (aC p)/\Below w.heap.size w w':=by
 have hown:=World.ownsRow_nil w w.heap.size 9 1;have HO:=zH hown;have HP:=zH hp;clear hown hp
 go_enter Tryz.func36,Tryz.ntmps36
 go_wp2_with (at_builtin;refine bG rfl _ _ rfl w.heap.size _ 0 [] rfl HO.out _ p rfl HP.out (by omega) (zL _) ?_;intro v1 w1 hown1 hgr1
              have X:Aside (w1.ownsRow w.heap.size 9 1 v1 p.length (aC p)/\Below w.heap.size w w1):=⟨by rw[Nat.zero_add]at hown1;exact hown1,Below.grown (zB _ _) hgr1 (zL _) (fun k hk=>by cases hk)⟩
              clear hown1 hgr1)
 go_ret
 exact⟨_,rfl,X.out.1,X.out.2⟩
theorem kU (ds:List D)(dv:Value)(r:Bool)(w:World)(hd:aU w dv ds)(hl:ds.length<=1000000)(hws:∀ d∈ds,d.w.length<=1000000) :
 Calls Tryz.prog 12 #[dX dv r] w fun e w'=>∃ v,e=.returned (dX v r)/\jA w' (w.heap.size+2) v ds/\Below w.heap.size w w':=by
 obtain⟨a,c,rfl⟩:=hd.form;unfold dX;obtain⟨i0,hi,hz0,hz1,hz2⟩:=info_parts TinfoD
 go_enter Tryz.func12,Tryz.ntmps12
 go_wp2
 have xn:=aW w (.cells #[.slice a ds.length c,.bool r] 24);have xz:=aW (w.alloc (.cells #[.slice a ds.length c,.bool r] 24)) (.cells #[.slice none 0 0,.bool false] 24);have hsz:(w.alloc (.cells #[.slice a ds.length c,.bool r] 24)).heap.size=w.heap.size+1:=by show(w.heap.push _).size=_;simp
 have xy:((w.alloc (.cells #[.slice a ds.length c,.bool r] 24)).alloc (.cells #[.slice none 0 0,.bool false] 24)).heap[w.heap.size]? = some (.cells #[.slice a ds.length c,.bool r] 24):=by
  rw[((zB (w.alloc (.cells #[.slice a ds.length c,.bool r] 24)).heap.size (w.alloc (.cells #[.slice a ds.length c,.bool r] 24))).alloc (zL _) (.cells #[.slice none 0 0,.bool false] 24)).block _ (aD xn)];exact xn
 have BB:Below w.heap.size w ((w.alloc (.cells #[.slice a ds.length c,.bool r] 24)).alloc (.cells #[.slice none 0 0,.bool false] 24)):=((zB _ _).alloc (zL _) _).alloc (Below.size ((zB w.heap.size w).alloc (zL _) _)) _;have hd2:=hd.below BB;have hs2:((w.alloc (.cells #[.slice a ds.length c,.bool r] 24)).alloc (.cells #[.slice none 0 0,.bool false] 24)).heap.size=w.heap.size+2:=by show((w.alloc _).heap.push _).size=_;rw[Array.size_push,hsz]
 rw[hsz]at xz;clear xn hsz hd;generalize hR:w.heap.size=R at xy xz BB hs2 ⊢;have HR:=zH hR;clear hR;generalize(w.alloc (.cells #[.slice a ds.length c,.bool r] 24)).alloc (.cells #[.slice none 0 0,.bool false] 24)=w2 at xy xz BB hs2 hd2 ⊢;have HD:=zH hd2;have B2:Below (R+2) w2 w2:=zB _ _;clear hd2;have HXY:=zH (And.intro xy (And.intro xz (And.intro BB hs2)));clear xy xz BB hs2
 go_loopw [3,4] (fun v i wr=>∃ k:Nat,k<=ds.length/\i=.int .i64 k/\Below (R+2) w2 wr/\jA wr (R+2) v (ds.take k)) (fun _ i _=>ds.length - (intOf i).toNat)
 case atStart=>exact⟨0,Nat.zero_le _,rfl,B2,jA.nil _ _⟩
 case round =>
  clear B2;obtain⟨k,hk,rfl,hb,ho⟩:=hrel;obtain⟨xy,xz,BB,hs2⟩:=HXY.out;have c0:wr.cell? ⟨R,0,none⟩=some (.slice a ds.length c):=by rw[hb.cell (show R<R+2 by omega),aG xy];rfl
  have ydd:aU wr (.slice a ds.length c) ds:=HD.out.below (by rw[hs2];exact hb);have hsr:R+2<=wr.heap.size:=by have:=hb.size;omega
  clear xy xz BB hs2
  by_cases hlt:k<ds.length
  · obtain⟨B,off,u,rfl,k1,k2,k3⟩:=ydd.at hlt
    have hw1:=hws _ (List.getElem_mem hlt);have HT:Hid (ds.take (k+1)=ds.take k++[ds[k]]):=zH (List.take_succ_eq_append_getElem hlt);generalize ds[k]=d at *;unfold dA at k1;obtain⟨X,hX⟩:∃ X:ByteArray,X=⟨d.n.toArray⟩:=⟨_,rfl⟩;rw[<- hX]at k1;have HX:=zH hX;have CO:=zH (aL0 d.w u wr.drew k3 hw1);obtain⟨cs,ho1,ho2⟩:=ho;have hlen:(ds.take k).length=k:=by rw[List.length_take];omega
    rw[hlen]at ho1;have HO1:=zH ho1;have HO2:=zH ho2;have HB:=zH hb;clear hX k3 ydd hlen ho1 ho2 hb
    go_wp2_with fail
    go_region_law (first
     | (go_simp
        go_at_call 36
        (with_reducible refine CO.out.mono ?_)
        rintro e w4 ⟨u4,rfl,t4,b4⟩;obtain⟨a4,c4,rfl⟩:=(aR.of_row t4).form;have b5:Below wr.heap.size wr w4:=((zB wr.heap.size wr).drew).trans (b4.mono (zL wr.heap.size));have d1:w4.cell? ⟨B,off+k * 2,none⟩=some (.string X):=(b5.cell (show B<wr.heap.size from aH k1)).trans k1;have d2:w4.cell? ⟨B,off+k * 2+1,none⟩=some u:=(b5.cell (show B<wr.heap.size from aH k2)).trans k2;have d3:w4.cell? ⟨R,0,none⟩=some (.slice (some ⟨B,off,none⟩) ds.length c):=(b5.cell (show R<wr.heap.size from aH c0)).trans c0;have O4:=zH (aX HO1.out b5);have T4:=zH t4;have B5:=zH b5
        clear t4 b4 b5)
     | (refine step_append_lies _ (by rfl) (.tmp 12) (.tmp 27) 22 (by rfl) (R+2) 67 i0 (.agg #[.string ⟨#[]⟩,.slice none 0 0]) 2 40 Tryz.underlying22 hi hz0 hz1 hz2 rfl (by decide) _ _ _ (by rfl) (O4.out.alloc _) ⟨w4.heap.size,0,none⟩ 1 1 [.string X,.slice a4 d.w.length c4] (by rfl) rfl (World.news_of_block (aW _ _)) (by intro u hu;simp at hu;rcases hu with rfl | rfl<;>rfl) (by decide) (by unfold maxLen;omega) (by omega) (by have:=B5.out.size;simp;omega) _ rfl ?_
        intro g cap w6 hown hgrow hat hlt6))
    all_goals
     have hlt0:∀ q,u3.ownBlock=some q->R+2<=q/\q<wr.heap.size:=HO1.out.lt;have bA:Below w4.heap.size w4 (w4.alloc (.cells #[.string X,.slice a4 d.w.length c4] 67)):=(zB _ _).alloc (zL _) _;have tb:bO w4 (R+2) u3.ownBlock (.slice a4 d.w.length c4) d.w:=bO.of_row T4.out hsr (fun q hq=>(hlt0 q hq).2)
     have on:jA w6 (R+2) (.slice (some ⟨g,0,none⟩) (k+1) cap) (ds.take k++[d]):=by
      refine jA.grow d (.slice a4 d.w.length c4) ((HO2.out.below B5.out).below bA) (tb.below bA) ?_ hgrow ?_
      · rw[show(ds.take k).length=k by rw[List.length_take];omega]
        have e:dA d.n=.string X:=by rw[HX.out];rfl
        rw[e];exact hown
      · rcases hat with h | h
        · exact .inl h.symm
        · exact .inr (by rw[h];rfl)
     have bn:Below (R+2) w2 w6:=Below.grown ((HB.out.trans (B5.out.mono hsr)).alloc (Nat.le_trans hsr B5.out.size) _) hgrow (Nat.le_trans (Nat.le_trans hsr B5.out.size) bA.size) (fun q hq=>(hlt0 q hq).1);have ON:=zH on;have BN:=zH bn;clear hlt0 bA tb on bn hown hgrow hat hlt6 O4 T4 B5 CO d1 d2 d3 k1 k2 c0
     go_wp2
     go_roundw
     case rel=>exact⟨k+1,by omega,by go_num,BN.out,by rw[HT.out];exact ON.out⟩
     case measure=>simp[intOf];omega
  · obtain rfl:k=ds.length:=by omega
    rw[List.take_length]at ho;have e0:wr.heap[R]? = some (.cells #[.slice a ds.length c,.bool r] 24):=by rw[hb.block R (by omega)];exact HXY.out.1
    have e1:wr.heap[R+1]? = some (.cells #[.slice none 0 0,.bool false] 24):=by rw[hb.block (R+1) (by omega)];exact HXY.out.2.1
    have hbw:Below R w wr:=HXY.out.2.2.1.trans (hb.mono (Nat.le_add_right R 2));obtain⟨a3,c3,rfl⟩:=ho.in.form;have q0:wr.cell? ⟨R,0,none⟩=some (.slice a ds.length c):=by rw[aG e0];rfl
    have q1:wr.cell? ⟨R,1,none⟩=some (.bool r):=by rw[aG e0];rfl
    have f0:=aB e0 0;have p0:wr.cell? ⟨R+1,0,none⟩=some (.slice none 0 0):=by rw[aG e1];rfl
    have p1:wr.cell? ⟨R+1,1,none⟩=some (.bool false):=by rw[aG e1];rfl
    have g0:=aB e1 0;have g1:=aB e1 1;have y0:=aI wr R 0 _ _ _ (.slice a3 ds.length c3) e0
    have y1:(wr.setCell ⟨R,0,none⟩ (.slice a3 ds.length c3)).heap[R+1]? = some (.cells #[.slice none 0 0,.bool false] 24):=by
     rw[Below.heap_setCell _ _ _ _ (by simp)];exact e1
    have HO:=zH ho;have HBW:=zH hbw;have HE0:=zH e0;have HE1:=zH e1;clear ho hbw hb c0
    go_wp2
    have oz:jA (((wr.setCell ⟨R,0,none⟩ (.slice a3 ds.length c3)).setCell ⟨R+1,0,none⟩ (.slice a3 ds.length c3)).setCell ⟨R+1,1,none⟩ (.bool r)) (R+2) (.slice a3 ds.length c3) ds:=((HO.out.set (by simp) _).set (by simp) _).set (by simp) _;have bz:Below R w (((wr.setCell ⟨R,0,none⟩ (.slice a3 ds.length c3)).setCell ⟨R+1,0,none⟩ (.slice a3 ds.length c3)).setCell ⟨R+1,1,none⟩ (.bool r)):=((HBW.out.setCell (zL _) _).setCell (Nat.le_succ R) _).setCell (Nat.le_succ R) _;have ez:=aI _ (R+1) 1 _ _ _ (.bool r) (aI _ (R+1) 0 _ _ _ (.slice a3 ds.length c3) y1);clear q0 q1 f0 p0 p1 g0 g1 y0 y1 e0 e1;generalize((wr.setCell ⟨R,0,none⟩ (.slice a3 ds.length c3)).setCell ⟨R+1,0,none⟩ (.slice a3 ds.length c3)).setCell ⟨R+1,1,none⟩ (.bool r)=wz at oz bz ez ⊢;have z0:wz.cell? ⟨R+1,0,none⟩=some (.slice a3 ds.length c3):=by rw[aG ez];rfl
    have z1:wz.cell? ⟨R+1,1,none⟩=some (.bool r):=by rw[aG ez];rfl
    exact bodyPost_ret (v := .agg #[.slice a3 ds.length c3,.bool r]) (by simp[results,Tryz.results12,go_sem,z0,z1]) rfl ⟨_,rfl,by rw[HR.out];exact oz,by rw[HR.out];exact bz⟩
end Go.Proofs.YthnogdodlhkldaaGreatDoor
namespace Go.Proofs.YthnogdodlhkldaaGreatDoor
open Go.RowKit
def cT (ws:List (List UInt8))(k:Nat):List (List UInt8):=(ws.take k).filter hG
theorem aP1 {ws:List (List UInt8)}{k:Nat}(h:k<ws.length):cT ws (k+1)=if hG ws[k]=true then cT ws k++[ws[k]] else cT ws k:=by
 unfold cT;rw[List.take_succ_eq_append_getElem h,List.filter_append];split
 · rename_i hw;simp[hw]
 · rename_i hw;simp[hw]
theorem xD {w:World}{b base:Nat}{e:TypeId}{size:Nat}{v:Value}{n:Nat}{xs:List Value}(h:w.ownsRow base e size v n xs)(hb:b<=base):w.ownsRow b e size v n xs:=by
 refine⟨h.1,?_⟩;rcases h.2 with h | ⟨g,cap,cur,h1,h2,h3⟩
 · exact .inl h
 · exact .inr ⟨g,cap,cur,h1,Nat.le_trans hb h2,h3⟩
end Go.Proofs.YthnogdodlhkldaaGreatDoor
