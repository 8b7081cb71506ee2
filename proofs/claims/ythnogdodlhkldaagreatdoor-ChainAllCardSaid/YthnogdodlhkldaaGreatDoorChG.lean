/- Two verdicts compared: the document's. Rows of policies appended; what is too big to be looked at. -/
import Derived.Test.YthnogdodlhkldaaGreatDoorChE
set_option maxRecDepth 100000
set_option maxHeartbeats 4000000
namespace Go.Proofs.YthnogdodlhkldaaGreatDoor
open Go.RowKit
theorem aF5 (L:List Brk)(i j:Nat)(hi:i<L.length)(hj:j<3):(fK L)[i * 3+j]? = (aF4 L[i])[j]? :=by
 induction L generalizing i with
 | nil=>cases hi
 | cons a L ih =>
   have e:fK (a :: L)=aF4 a++fK L:=rfl;have hl:(aF4 a).length=3:=rfl;rw[e]
   cases i with
   | zero =>
     rw[List.getElem?_append_left (by rw[hl];omega),Nat.zero_mul,Nat.zero_add];rfl
   | succ i =>
     rw[List.getElem?_append_right (by rw[hl];omega),hl,show(i+1) * 3+j - 3=i * 3+j by omega,ih i (by simpa using hi)];rfl
def dI (w:World)(v:Value)(L:List Brk):Prop :=
 ((∃ a c,v=.slice a 0 c)/\L=[])\/∃ B off cap,v=.slice (some ⟨B,off,none⟩) L.length cap/\∀ i,(h:i<L.length)->∀ j u,(aF4 L[i])[j]? = some u->w.cell? ⟨B,off+i * 3+j,none⟩=some u
theorem dI.below {w w':World}{v:Value}{L:List Brk}(h:dI w v L)(hb:Below w.heap.size w w'):dI w' v L:=by
 rcases h with h | ⟨B,off,cap,h1,h2⟩
 · exact .inl h
 · exact .inr ⟨B,off,cap,h1,fun i hi j u hu=>by rw[hb.cell (aH (h2 i hi j u hu))];exact h2 i hi j u hu⟩
theorem dI.form {w:World}{v:Value}{L:List Brk}(h:dI w v L):∃ a c,v=.slice a L.length c:=by
 rcases h with ⟨⟨a,c,rfl⟩,rfl⟩ | ⟨B,off,cap,rfl,_⟩
 · exact⟨_,_,rfl⟩
 · exact⟨_,_,rfl⟩
theorem dI.of_row {w:World}{base:Nat}{v:Value}{L:List Brk}(h:w.ownsRow base 54 3 v L.length (fK L)):dI w v L:=by
 rcases bS h with ⟨h1,h2⟩ | ⟨g,cap,rfl⟩
 · exact .inl ⟨⟨_,_,h1⟩,List.length_eq_zero_iff.1 h2⟩
 · refine .inr ⟨g,0,cap,rfl,fun i hi j u hu => ?_⟩
   have hj:j<3:=(List.getElem?_eq_some_iff.1 hu).1;have hl:=bI8 L;rw[Nat.zero_add,h.cellAt (i * 3+j) (by omega),aF5 L i j hi hj,hu]
theorem dI.at {w:World}{a:Option Addr}{n c:Nat}{L:List Brk}(h:dI w (.slice a n c) L){k:Nat}(hk:k<L.length):∃ B off,a=some ⟨B,off,none⟩/\w.cell? ⟨B,off+k * 3,none⟩=some (.int .i64 (L[k].i:Int))/\w.cell? ⟨B,off+k * 3+1,none⟩=some (dA L[k].n)/\w.cell? ⟨B,off+k * 3+2,none⟩=some (.bool L[k].r):=by
 rcases h with ⟨_,h2⟩ | ⟨B,off,cap,h1,h2⟩
 · subst h2;cases hk
 · cases h1
   exact⟨B,off,rfl,h2 k hk 0 _ rfl,h2 k hk 1 _ rfl,h2 k hk 2 _ rfl⟩
theorem dI.new (W:World)(L:List Brk)(C:Array Value)(hC:C=(fK L).toArray)(n:Nat)(hn:n=L.length)(c:Nat):dI (W.alloc (.cells C 54)) (.slice (some ⟨W.heap.size,0,none⟩) n c) L:=by
 subst hn hC;refine .inr ⟨_,0,c,rfl,fun i hi j u hu => ?_⟩;have hj:j<3:=(List.getElem?_eq_some_iff.1 hu).1;rw[Nat.zero_add,World.cell?_alloc_mark,List.getElem?_toArray,aF5 L i j hi hj,hu]
theorem vY (ok:Bool)(L:List Brk)(u v:Value)(hl:L.length<=1000000)(w:World)(hu:dI w u L)(hv:dI w v L):Calls Tryz.prog 24 #[.agg #[.bool ok,u],.agg #[.bool ok,v]] w fun e w'=>e=.returned (.bool true)/\Below w.heap.size w w':=by
 obtain⟨a,c,rfl⟩:=hu.form;obtain⟨a2,c2,rfl⟩:=hv.form;have x1:=dH.made w ok (.slice a L.length c);have x2:=dH.made (w.alloc (.cells #[.bool ok,.slice a L.length c] 50)) ok (.slice a2 L.length c2);have x1':=x1.below ((zB _ _).alloc (zL _) (.cells #[.bool ok,.slice a2 L.length c2] 50));rw[World.size_alloc]at x2;have B2:Below w.heap.size w ((w.alloc (.cells #[.bool ok,.slice a L.length c] 50)).alloc (.cells #[.bool ok,.slice a2 L.length c2] 50)):=((zB _ _).alloc (zL _) _).alloc (by simp) _;have H2:=zH (And.intro x1' (And.intro x2 (And.intro B2 (And.intro (hu.below B2) (hv.below B2)))));have g0:((L.length:Int) != (L.length:Int))=false:=by simp
 have gk:(ok != ok)=false:=by simp
 clear x1 x2 x1' B2 hu hv
 go_enter Tryz.func24,Tryz.ntmps24
 go_wp2
 generalize hR:w.heap.size=R at H2 ⊢;have HR:=zH hR;clear hR;generalize(w.alloc (.cells #[.bool ok,.slice a L.length c] 50)).alloc (.cells #[.bool ok,.slice a2 L.length c2] 50)=w2 at H2 ⊢;have B0:Below w2.heap.size w2 w2:=zB _ _
 go_loopw [5] (fun i wr=>∃ k:Nat,k<=L.length/\i=.int .i64 k/\Below w2.heap.size w2 wr) (fun i _=>L.length - (intOf i).toNat)
 case atStart=>exact⟨0,Nat.zero_le _,rfl,B0⟩
 case round =>
  clear B0;obtain⟨k,hk,rfl,hb⟩:=hrel;obtain⟨x1,x2,B2,hu,hv⟩:=H2.out;have e0:=(x1.below hb).c1;have e1:=(x2.below hb).c1;have hsz:R<=w2.heap.size:=zT x1.lt;have Br:=zH (B2.trans (hb.mono hsz))
  by_cases hlt:k<L.length
  case neg =>
   obtain rfl:k=L.length:=by omega
   clear x1 x2 B2 hu hv hb
   go_wp2
   go_ret
   exact⟨rfl,by rw[HR.out];exact Br.out⟩
  obtain⟨B,off,rfl,c0,c1,c2'⟩:=(hu.below hb).at hlt;obtain⟨B2',off2,rfl,d0,d1,d2⟩:=(hv.below hb).at hlt;generalize L[k].i=I at c0 d0;generalize L[k].r=r at c2' d2;unfold dA at c1 d1;generalize(⟨L[k].n.toArray⟩:ByteArray)=S at c1 d1;have Hb:=zH hb;clear x1 x2 B2 hu hv hb Br hsz
  go_wp2
  go_quiet (fail)
  have hb2:=cL Hb.out nq
  go_wp2
  go_roundw
  case rel=>exact⟨k+1,by omega,by go_num,hb2⟩
  case measure=>simp[intOf];omega
theorem nH (ok:Bool)(L:List Brk)(u v:Value)(hl:L.length<=1000000):Hid (∀ W,dI W u L->dI W v L->Calls Tryz.prog 24 #[.agg #[.bool ok,u],.agg #[.bool ok,v]] W fun e w'=>e=.returned (.bool true)/\Below W.heap.size W w'):=zH fun W h1_ h2_=>vY ok L u v hl W h1_ h2_
end Go.Proofs.YthnogdodlhkldaaGreatDoor
namespace Go.Proofs.YthnogdodlhkldaaGreatDoor
open Go.RowKit
def PolRow (w:World)(u:Value)(m:Nat)(cs:List Value):Prop:=cs.length=m * 2/\(∀ v∈cs,v.oneCell'=true)/\(((∃ a c,u=.slice a 0 c)/\m=0)\/∃ B off cap,u=.slice (some ⟨B,off,none⟩) m cap/\∀ j v,cs[j]? = some v->w.cell? ⟨B,off+j,none⟩=some v)
def sW (w:World)(ps:List (List D × Bool))(cs:List Value):Prop:=cs.length=ps.length * 2/\∀ j,(h:j<ps.length)->∃ u,cs[j * 2]? = some u/\cs[j * 2+1]? = some (.bool ps[j].2)/\aU w u ps[j].1
theorem sW.app {w:World}{ps qs:List (List D × Bool)}{cs es:List Value}(h:sW w ps cs)(k:sW w qs es):sW w (ps++qs) (cs++es):=by
 have h1:=h.1;have k1:=k.1;refine⟨by rw[List.length_append,List.length_append];omega,fun j hj => ?_⟩
 by_cases hlt:j<ps.length
 · obtain⟨u,a1,a2,a3⟩:=h.2 j hlt
   refine⟨u,?_,?_,?_⟩
   · rw[List.getElem?_append_left (by omega)];exact a1
   · rw[List.getElem?_append_left (by omega),List.getElem_append_left hlt];exact a2
   · rw[List.getElem_append_left hlt];exact a3
 · have hj2:j - ps.length<qs.length:=by rw[List.length_append]at hj;omega
   obtain⟨u,a1,a2,a3⟩:=k.2 (j - ps.length) hj2;refine⟨u,?_,?_,?_⟩
   · rw[List.getElem?_append_right (by omega),h1,show j * 2 - ps.length * 2=(j - ps.length) * 2 by omega];exact a1
   · rw[List.getElem?_append_right (by omega),h1,show j * 2+1 - ps.length * 2=(j - ps.length) * 2+1 by omega,List.getElem_append_right (by omega)];exact a2
   · rw[List.getElem_append_right (by omega)];exact a3
theorem bM.of_cells {w:World}{base:Nat}{v:Value}{ps:List (List D × Bool)}{cs:List Value}(h1:w.ownsRow base 24 2 v ps.length cs)(h:sW w ps cs):bM w v ps:=by
 rcases h1.2 with ⟨e1,e2⟩ | ⟨g,cap,cur,hv,hg,hh,_⟩
 · exact .inl ⟨⟨_,_,e1⟩,List.length_eq_zero_iff.1 e2⟩
 · subst hv
   have hl:=h.1;refine .inr ⟨g,0,cap,rfl,fun j hj => ?_⟩;obtain⟨u,k1,k2,k3⟩:=h.2 j hj;rw[Nat.zero_add,h1.cellAt (j * 2) (by omega),h1.cellAt (j * 2+1) (by omega)];exact⟨⟨u,k1,k3⟩,k2⟩
theorem nil_appP {w:World}{base:Nat}{v:Value}{n:Nat}{xs:List Value}(hown:w.ownsRow base 24 2 v n xs)(ty:TypeId)(c:Nat):(Builtin.append_ #[27,27] ty #[v,.slice none 0 c]).run Tryz.prog w=.ok v w:=by
 obtain⟨i0,hi,hz0,hz1,hz2⟩:=info_parts oH;rcases hown.2 with ⟨rfl,rfl⟩ | ⟨g,cap,cur,rfl,_,_,hnc,_⟩
 · simp[Builtin.append_,run_underlying Tryz.underlying27,sizeOf,typeInfo,hi,Builtin.lenOf,Builtin.firstCells]
 · simp[Builtin.append_,run_underlying Tryz.underlying27,sizeOf,typeInfo,hi,Builtin.lenOf,Builtin.firstCells,hnc,storeCells]
theorem mX {w:World} {ops:Array Oper} {rest:List Oper} {o:Oper} {a:Act} {Q:Exit->Act->World->Prop} (hgd:o.guard=none) (s x:Operand)
 (ho:o.op=.call { callee := .builtin .append,args:=#[s,x],argTypes:=#[27,27] }) (base:Nat) (v0:Value) (n:Nat) (xs:List Value)
 (hs:a.eval s=v0) (hown:w.ownsRow base 24 2 v0 n xs) (u:Value) (m:Nat) (cs:List Value) (hx:a.eval x=u) (hin:PolRow w u m cs)
 (h63:n+m<=1000000) (hbase:base<=w.heap.size)
 (h:∀ v' w',w'.ownsRow base 24 2 v' (n+m) (xs++cs)->w.grownBy w' v0.ownBlock->(v'.ownBlock=v0.ownBlock\/v'.ownBlock=some w.heap.size)->wpList Tryz.prog ops Q rest (a.put o.dst v') w'):wpList Tryz.prog ops Q (o :: rest) a w:=by
 obtain⟨i0,hi,hz0,hz1,hz2⟩:=info_parts oH;obtain⟨hcl,hone,hin⟩:=hin
 have via:∀(ad:Addr) (c:Nat),u=.slice (some ad) m c->(∀ j v,cs[j]? = some v->w.cell? (ad.add j)=some v)->wpList Tryz.prog ops Q (o :: rest) a w:=fun ad c hu hc=>by
  refine wpList_append_own_at w hgd s x 27 ho base 24 i0 (.agg #[.slice none 0 0,.bool false]) 2 32 Tryz.underlying27 hi hz0 hz1 hz2 rfl (by decide) _ n xs hs hown ad m c cs (by rw[hx,hu]) hcl hc hone (by unfold maxLen;omega) (by omega) hbase ?_;intro v' w' h1 h2 _ h3;exact h v' w' h1 h2 h3
 rcases hin with ⟨⟨a0,c0,rfl⟩,rfl⟩ | ⟨B,off,cap,rfl,hc⟩
 · have e:cs=[]:=List.length_eq_zero_iff.1 (by rw[hcl])
   subst e
   cases a0 with
   | none =>
     refine wpList_plain hgd fun K hK => ?_;have hrun:=nil_appP hown o.type c0;unfold Oper.wp execOp;simp only[ho,resolve,invoke,builtin,Sem.run_bind,Sem.run_pure,Result.andThen_ok,List.map_toArray,List.map_cons,List.map_nil,hs,hx,hrun];exact hK _ _ (h _ _ (by simpa using hown) (World.grownBy.refl w _) (.inl rfl))
   | some ad=>exact via ad c0 rfl (fun j v hj=>by simp at hj)
 · refine via ⟨B,off,none⟩ cap rfl (fun j v hj => ?_)
   have e:(⟨B,off,none⟩:Addr).add j=⟨B,off+j,none⟩:=by unfold Addr.add;split<;>simp_all
   rw[e];exact hc j v hj
def aG5 (ps:List (List D × Bool)):Prop:=ps.length<=15/\∀ p∈ps,iH p.1
theorem iH.fit {ds:List D}(h:iH ds):eX ds:=⟨by have:=h.1;omega,fun d hd=>by
 obtain⟨_,h2,h3⟩:=h.2 d hd
 exact⟨by omega,fun x hx=>by have:=h3 x hx;omega⟩⟩
def iT (rt s2 h2 pa2 q2 rn s3 h3 pa3 q3:ByteArray):Prop:=rt.size<=3000/\rn.size<=500/\(s2.size<=2000/\h2.size<=2000/\pa2.size<=2000/\q2.size<=2000)/\(s3.size<=2000/\h3.size<=2000/\pa3.size<=2000/\q3.size<=2000)
def aS5 (ps:List (List D × Bool)):Prop:=ps.length<=9223372036854775807/\∀ p∈ps,p.1.length<=9223372036854775807/\∀ d∈p.1,d.w.length<=9223372036854775807
def pJ (F:Prop)(w:World)(e:Ending)(w':World):Prop:=∃ b,e=.returned (.bool b)/\Below w.heap.size w w'/\(b=false->F)
theorem jU (rk:Int)(rt:ByteArray)(o:Bool)(s2 h2:ByteArray)(p:Int)(pa2 q2:ByteArray)(mv:Bool)(rn:ByteArray)(pr:Bool)(o3:Bool)(s3 h3:ByteArray)(p3:Int)(pa3 q3:ByteArray)(w:World):Calls Tryz.prog 42 #[bN rk rt o s2 h2 p pa2 q2 mv rn pr o3 s3 h3 p3 pa3 q3] w (pJ (iT rt s2 h2 pa2 q2 rn s3 h3 pa3 q3) w):=by
 obtain⟨g1,h1⟩:∃ b,(decide (2000<s2.size) || decide (2000<h2.size) || decide (2000<pa2.size) || decide (2000<q2.size))=b:=⟨_,rfl⟩;obtain⟨g2,h2'⟩:∃ b,(decide (2000<s3.size) || decide (2000<h3.size) || decide (2000<pa3.size) || decide (2000<q3.size))=b:=⟨_,rfl⟩;have C1:=qV o s2 h2 p pa2 q2 g1 h1;have C2:=qV o3 s3 h3 p3 pa3 q3 g2 h2'
 have HF:Hid (g1=false->g2=false->¬ (3000:Int)<(rt.size:Int)->¬ (500:Int)<(rn.size:Int)->iT rt s2 h2 pa2 q2 rn s3 h3 pa3 q3):=zH (by
  intro e1 e2 z1 z2;rw[e1]at h1;rw[e2]at h2';simp only[Bool.or_eq_false_iff,decide_eq_false_iff_not]at h1 h2'
  exact⟨by omega,by omega,⟨by omega,by omega,by omega,by omega⟩,⟨by omega,by omega,by omega,by omega⟩⟩)
 clear h1 h2';unfold uV bN at *
 by_cases z1:(3000:Int)<(rt.size:Int)
 · go_enter Tryz.func42,Tryz.ntmps42
   go_wp2
   go_ret
   exact⟨true,rfl,(zB _ _).alloc (zL _) _,fun h=>by cases h⟩
 by_cases z2:(500:Int)<(rn.size:Int)
 · go_enter Tryz.func42,Tryz.ntmps42
   go_wp2
   go_ret
   exact⟨true,rfl,(zB _ _).alloc (zL _) _,fun h=>by cases h⟩
 go_enter Tryz.func42,Tryz.ntmps42
 go_wp2_with fail
 have xn:=RX.made w rk rt o s2 h2 p pa2 q2 mv rn pr o3 s3 h3 p3 pa3 q3;have Bw1:Below w.heap.size w (w.alloc (.cells #[.int .i64 rk,.string rt,.bool o,.string s2,.string h2,.int .i64 p,.string pa2,.string q2,.bool mv,.string rn,.bool pr,.bool o3,.string s3,.string h3,.int .i64 p3,.string pa3,.string q3] 42)):=((zB w.heap.size w).alloc (zL _) (.cells #[.int .i64 rk,.string rt,.bool o,.string s2,.string h2,.int .i64 p,.string pa2,.string q2,.bool mv,.string rn,.bool pr,.bool o3,.string s3,.string h3,.int .i64 p3,.string pa3,.string q3] 42));generalize hR:w.heap.size=Ra at xn Bw1 ⊢;have HR:=zH hR;clear hR;generalize w.alloc (.cells #[.int .i64 rk,.string rt,.bool o,.string s2,.string h2,.int .i64 p,.string pa2,.string q2,.bool mv,.string rn,.bool pr,.bool o3,.string s3,.string h3,.int .i64 p3,.string pa3,.string q3] 42)=w1 at xn Bw1 ⊢;have xRa_w1:=xn;clear xn;refine(C1.out _ ).mono ?_;rintro e w2 ⟨rfl,b_⟩;have Bw2:=Bw1.trans (b_.mono (zT xRa_w1.lt));have xRa_w2:=xRa_w1.below b_;clear b_ Bw1 xRa_w1
 cases g1
 case true =>
  go_wp2
  go_ret
  exact⟨true,rfl,by rw[HR.out];exact Bw2,fun h=>by cases h⟩
 obtain⟨dRa0,dRa1,dRa2,dRa3,dRa4,dRa5,dRa6,dRa7,dRa8,dRa9,dRa10,dRa11,dRa12,dRa13,dRa14,dRa15,dRa16⟩:=xRa_w2.cs
 go_wp2_with fail
 clear dRa0 dRa1 dRa2 dRa3 dRa4 dRa5 dRa6 dRa7 dRa8 dRa9 dRa10 dRa11 dRa12 dRa13 dRa14 dRa15 dRa16;refine(C2.out _ ).mono ?_;rintro e w3 ⟨rfl,b_⟩;have Bw3:=Bw2.trans (b_.mono (zT xRa_w2.lt));have xRa_w3:=xRa_w2.below b_;clear b_ Bw2 xRa_w2
 go_wp2
 go_ret
 exact⟨g2,rfl,by rw[HR.out];exact Bw3,fun h=>HF.out (by trivial) h z1 z2⟩
theorem nK (rk:Int)(rt:ByteArray)(o:Bool)(s2 h2:ByteArray)(p:Int)(pa2 q2:ByteArray)(mv:Bool)(rn:ByteArray)(pr:Bool)(o3:Bool)(s3 h3:ByteArray)(p3:Int)(pa3 q3:ByteArray):Hid (∀ W,Calls Tryz.prog 42 #[bN rk rt o s2 h2 p pa2 q2 mv rn pr o3 s3 h3 p3 pa3 q3] W fun e w'=>∃ b,e=.returned (.bool b)/\Below W.heap.size W w'/\(b=false->iT rt s2 h2 pa2 q2 rn s3 h3 pa3 q3)):=zH fun W=>jU rk rt o s2 h2 p pa2 q2 mv rn pr o3 s3 h3 p3 pa3 q3 W
theorem kZ (ps:List (List D × Bool))(pv:Value)(ha:aS5 ps)(rk:Int)(rt:ByteArray)(o:Bool)(s2 h2:ByteArray)(p:Int)(pa2 q2:ByteArray)(mv:Bool)(rn:ByteArray)(pr:Bool)(o3:Bool)(s3 h3:ByteArray)(p3:Int)(pa3 q3:ByteArray)(w:World)(hp:bM w pv ps):Calls Tryz.prog 21 #[pv,bN rk rt o s2 h2 p pa2 q2 mv rn pr o3 s3 h3 p3 pa3 q3] w fun e w'=>∃ b,e=.returned (.bool b)/\Below w.heap.size w w'/\(b=false->aG5 ps/\iT rt s2 h2 pa2 q2 rn s3 h3 pa3 q3):=by
 have CB:=nK rk rt o s2 h2 p pa2 q2 mv rn pr o3 s3 h3 p3 pa3 q3;have CL:Hid (∀ W,bM W pv ps->Calls Tryz.prog 11 #[pv] W (sX ps W)):=zH fun W h=>pX ps pv W h ha.1 ha.2;unfold bN at *
 go_enter Tryz.func21,Tryz.ntmps21
 go_wp2_with fail
 have xn:=RX.made w rk rt o s2 h2 p pa2 q2 mv rn pr o3 s3 h3 p3 pa3 q3;have pw1:=hp.made (.cells #[.int .i64 rk,.string rt,.bool o,.string s2,.string h2,.int .i64 p,.string pa2,.string q2,.bool mv,.string rn,.bool pr,.bool o3,.string s3,.string h3,.int .i64 p3,.string pa3,.string q3] 42);have Bw1:Below w.heap.size w (w.alloc (.cells #[.int .i64 rk,.string rt,.bool o,.string s2,.string h2,.int .i64 p,.string pa2,.string q2,.bool mv,.string rn,.bool pr,.bool o3,.string s3,.string h3,.int .i64 p3,.string pa3,.string q3] 42)):=((zB w.heap.size w).alloc (zL _) (.cells #[.int .i64 rk,.string rt,.bool o,.string s2,.string h2,.int .i64 p,.string pa2,.string q2,.bool mv,.string rn,.bool pr,.bool o3,.string s3,.string h3,.int .i64 p3,.string pa3,.string q3] 42));generalize hR:w.heap.size=Ra at xn Bw1 ⊢;have HR:=zH hR;clear hR;generalize w.alloc (.cells #[.int .i64 rk,.string rt,.bool o,.string s2,.string h2,.int .i64 p,.string pa2,.string q2,.bool mv,.string rn,.bool pr,.bool o3,.string s3,.string h3,.int .i64 p3,.string pa3,.string q3] 42)=w1 at xn pw1 Bw1 ⊢;have xRa_w1:=xn;clear xn hp;refine(CL.out _ pw1).mono ?_;rintro e w1 ⟨b0,rfl,rfl,hz⟩;have HZ:=zH hz;clear hz
 cases b0
 case true =>
  go_wp2
  go_ret
  exact⟨true,rfl,by rw[HR.out];exact Bw1,fun h=>by cases h⟩
 obtain⟨dRa0,dRa1,dRa2,dRa3,dRa4,dRa5,dRa6,dRa7,dRa8,dRa9,dRa10,dRa11,dRa12,dRa13,dRa14,dRa15,dRa16⟩:=xRa_w1.cs
 go_wp2_with fail
 clear dRa0 dRa1 dRa2 dRa3 dRa4 dRa5 dRa6 dRa7 dRa8 dRa9 dRa10 dRa11 dRa12 dRa13 dRa14 dRa15 dRa16;refine(CB.out _ ).mono ?_;rintro e w2 ⟨b1,rfl,b_,hz⟩;have pw2:=pw1.below b_;have Bw2:=Bw1.trans (b_.mono (zT xRa_w1.lt));have xRa_w2:=xRa_w1.below b_;clear b_ pw1 Bw1 xRa_w1;have HZ2:=zH hz;clear hz
 go_wp2
 go_ret
 exact⟨b1,rfl,by rw[HR.out];exact Bw2,fun h=>⟨HZ.out (by trivial),HZ2.out h⟩⟩
theorem aC8 (ps:List (List D × Bool))(pv:Value)(ha:aS5 ps)(rk:Int)(rt:ByteArray)(o:Bool)(s2 h2:ByteArray)(p:Int)(pa2 q2:ByteArray)(mv:Bool)(rn:ByteArray)(pr:Bool)(o3:Bool)(s3 h3:ByteArray)(p3:Int)(pa3 q3:ByteArray):Hid (∀ W,bM W pv ps->Calls Tryz.prog 21 #[pv,bN rk rt o s2 h2 p pa2 q2 mv rn pr o3 s3 h3 p3 pa3 q3] W fun e w'=>∃ b,e=.returned (.bool b)/\Below W.heap.size W w'/\(b=false->aG5 ps/\iT rt s2 h2 pa2 q2 rn s3 h3 pa3 q3)):=zH fun W hp=>kZ ps pv ha rk rt o s2 h2 p pa2 q2 mv rn pr o3 s3 h3 p3 pa3 q3 W hp
end Go.Proofs.YthnogdodlhkldaaGreatDoor
