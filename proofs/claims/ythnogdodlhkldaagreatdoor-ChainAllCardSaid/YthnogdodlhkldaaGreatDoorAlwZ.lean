/- A list is looked through: the closures, the generic function for each of them. What a list of sources lets be: the program's. -/
import Derived.Test.YthnogdodlhkldaaGreatDoorMtY
import Derived.Test.YthnogdodlhkldaaGreatDoorMarkZ
set_option maxRecDepth 100000
set_option maxHeartbeats 4000000
namespace Go.Proofs.YthnogdodlhkldaaGreatDoor
open Go.RowKit
def VI (w:World)(R:Nat)(x:Int):Prop:=w.heap[R]? = some (.cells #[.int .i64 x] 73 (0,0))
theorem VI.below {w w':World}{R:Nat}{x:Int}(a:VI w R x)(hb:Below w.heap.size w w'):VI w' R x:=by
 unfold VI at *;rw[hb.block R (aD a)];exact a
theorem VI.lt {w:World}{R:Nat}{x:Int}(a:VI w R x):R<w.heap.size:=aD a
theorem VI.c0 {w:World}{R:Nat}{x:Int}(a:VI w R x):w.cell? ⟨R,0,none⟩=some (.int .i64 x):=by rw[aG a];rfl
def VK (w:World)(R:Nat)(x:Value):Prop:=w.heap[R]? = some (.cells #[x] 163 (0,0))
theorem VK.below {w w':World}{R:Nat}{x:Value}(a:VK w R x)(hb:Below w.heap.size w w'):VK w' R x:=by
 unfold VK at *;rw[hb.block R (aD a)];exact a
theorem VK.made (w:World)(x:Value):VK (w.alloc (.cells #[x] 163)) w.heap.size x:=aW w _
theorem VK.lt {w:World}{R:Nat}{x:Value}(a:VK w R x):R<w.heap.size:=aD a
theorem VK.c0 {w:World}{R:Nat}{x:Value}(a:VK w R x):w.cell? ⟨R,0,none⟩=some x:=by rw[aG a];rfl
def bN (rk:Int)(rt:ByteArray)(o:Bool)(s2 h2:ByteArray)(p:Int)(pa2 q2:ByteArray)(mv:Bool)(rn:ByteArray)(pr:Bool)(o3:Bool)(s3 h3:ByteArray)(p3:Int)(pa3 q3:ByteArray):Value := .agg #[.int .i64 rk,.string rt,.bool o,.string s2,.string h2,.int .i64 p,.string pa2,.string q2,.bool mv,.string rn,.bool pr,.bool o3,.string s3,.string h3,.int .i64 p3,.string pa3,.string q3]
def RX (w:World)(R:Nat)(rk:Int)(rt:ByteArray)(o:Bool)(s2 h2:ByteArray)(p:Int)(pa2 q2:ByteArray)(mv:Bool)(rn:ByteArray)(pr:Bool)(o3:Bool)(s3 h3:ByteArray)(p3:Int)(pa3 q3:ByteArray):Prop:=w.heap[R]? = some (.cells #[.int .i64 rk,.string rt,.bool o,.string s2,.string h2,.int .i64 p,.string pa2,.string q2,.bool mv,.string rn,.bool pr,.bool o3,.string s3,.string h3,.int .i64 p3,.string pa3,.string q3] 42 (0,0))
theorem RX.lt {w:World}{R:Nat}{rk:Int}{rt:ByteArray}{o:Bool}{s2 h2:ByteArray}{p:Int}{pa2 q2:ByteArray}{mv:Bool}{rn:ByteArray}{pr:Bool}{o3:Bool}{s3 h3:ByteArray}{p3:Int}{pa3 q3:ByteArray}(a:RX w R rk rt o s2 h2 p pa2 q2 mv rn pr o3 s3 h3 p3 pa3 q3):R<w.heap.size:=aD a
theorem RX.below {w w':World}{R:Nat}{rk:Int}{rt:ByteArray}{o:Bool}{s2 h2:ByteArray}{p:Int}{pa2 q2:ByteArray}{mv:Bool}{rn:ByteArray}{pr:Bool}{o3:Bool}{s3 h3:ByteArray}{p3:Int}{pa3 q3:ByteArray}(a:RX w R rk rt o s2 h2 p pa2 q2 mv rn pr o3 s3 h3 p3 pa3 q3)(hb:Below w.heap.size w w'):RX w' R rk rt o s2 h2 p pa2 q2 mv rn pr o3 s3 h3 p3 pa3 q3:=by
 unfold RX at *;rw[hb.block R (aD a)];exact a
theorem RX.made (w:World)(rk:Int)(rt:ByteArray)(o:Bool)(s2 h2:ByteArray)(p:Int)(pa2 q2:ByteArray)(mv:Bool)(rn:ByteArray)(pr:Bool)(o3:Bool)(s3 h3:ByteArray)(p3:Int)(pa3 q3:ByteArray):RX (w.alloc (.cells #[.int .i64 rk,.string rt,.bool o,.string s2,.string h2,.int .i64 p,.string pa2,.string q2,.bool mv,.string rn,.bool pr,.bool o3,.string s3,.string h3,.int .i64 p3,.string pa3,.string q3] 42)) w.heap.size rk rt o s2 h2 p pa2 q2 mv rn pr o3 s3 h3 p3 pa3 q3:=aW w _
theorem RX.c0 {w:World}{R:Nat}{rk:Int}{rt:ByteArray}{o:Bool}{s2 h2:ByteArray}{p:Int}{pa2 q2:ByteArray}{mv:Bool}{rn:ByteArray}{pr:Bool}{o3:Bool}{s3 h3:ByteArray}{p3:Int}{pa3 q3:ByteArray}(a:RX w R rk rt o s2 h2 p pa2 q2 mv rn pr o3 s3 h3 p3 pa3 q3):w.cell? ⟨R,0,none⟩=some (.int .i64 rk):=by rw[aG a];rfl
theorem RX.c1 {w:World}{R:Nat}{rk:Int}{rt:ByteArray}{o:Bool}{s2 h2:ByteArray}{p:Int}{pa2 q2:ByteArray}{mv:Bool}{rn:ByteArray}{pr:Bool}{o3:Bool}{s3 h3:ByteArray}{p3:Int}{pa3 q3:ByteArray}(a:RX w R rk rt o s2 h2 p pa2 q2 mv rn pr o3 s3 h3 p3 pa3 q3):w.cell? ⟨R,1,none⟩=some (.string rt):=by rw[aG a];rfl
theorem RX.c2 {w:World}{R:Nat}{rk:Int}{rt:ByteArray}{o:Bool}{s2 h2:ByteArray}{p:Int}{pa2 q2:ByteArray}{mv:Bool}{rn:ByteArray}{pr:Bool}{o3:Bool}{s3 h3:ByteArray}{p3:Int}{pa3 q3:ByteArray}(a:RX w R rk rt o s2 h2 p pa2 q2 mv rn pr o3 s3 h3 p3 pa3 q3):w.cell? ⟨R,2,none⟩=some (.bool o):=by rw[aG a];rfl
theorem RX.c3 {w:World}{R:Nat}{rk:Int}{rt:ByteArray}{o:Bool}{s2 h2:ByteArray}{p:Int}{pa2 q2:ByteArray}{mv:Bool}{rn:ByteArray}{pr:Bool}{o3:Bool}{s3 h3:ByteArray}{p3:Int}{pa3 q3:ByteArray}(a:RX w R rk rt o s2 h2 p pa2 q2 mv rn pr o3 s3 h3 p3 pa3 q3):w.cell? ⟨R,3,none⟩=some (.string s2):=by rw[aG a];rfl
theorem RX.c4 {w:World}{R:Nat}{rk:Int}{rt:ByteArray}{o:Bool}{s2 h2:ByteArray}{p:Int}{pa2 q2:ByteArray}{mv:Bool}{rn:ByteArray}{pr:Bool}{o3:Bool}{s3 h3:ByteArray}{p3:Int}{pa3 q3:ByteArray}(a:RX w R rk rt o s2 h2 p pa2 q2 mv rn pr o3 s3 h3 p3 pa3 q3):w.cell? ⟨R,4,none⟩=some (.string h2):=by rw[aG a];rfl
theorem RX.c5 {w:World}{R:Nat}{rk:Int}{rt:ByteArray}{o:Bool}{s2 h2:ByteArray}{p:Int}{pa2 q2:ByteArray}{mv:Bool}{rn:ByteArray}{pr:Bool}{o3:Bool}{s3 h3:ByteArray}{p3:Int}{pa3 q3:ByteArray}(a:RX w R rk rt o s2 h2 p pa2 q2 mv rn pr o3 s3 h3 p3 pa3 q3):w.cell? ⟨R,5,none⟩=some (.int .i64 p):=by rw[aG a];rfl
theorem RX.c6 {w:World}{R:Nat}{rk:Int}{rt:ByteArray}{o:Bool}{s2 h2:ByteArray}{p:Int}{pa2 q2:ByteArray}{mv:Bool}{rn:ByteArray}{pr:Bool}{o3:Bool}{s3 h3:ByteArray}{p3:Int}{pa3 q3:ByteArray}(a:RX w R rk rt o s2 h2 p pa2 q2 mv rn pr o3 s3 h3 p3 pa3 q3):w.cell? ⟨R,6,none⟩=some (.string pa2):=by rw[aG a];rfl
theorem RX.c7 {w:World}{R:Nat}{rk:Int}{rt:ByteArray}{o:Bool}{s2 h2:ByteArray}{p:Int}{pa2 q2:ByteArray}{mv:Bool}{rn:ByteArray}{pr:Bool}{o3:Bool}{s3 h3:ByteArray}{p3:Int}{pa3 q3:ByteArray}(a:RX w R rk rt o s2 h2 p pa2 q2 mv rn pr o3 s3 h3 p3 pa3 q3):w.cell? ⟨R,7,none⟩=some (.string q2):=by rw[aG a];rfl
theorem RX.c8 {w:World}{R:Nat}{rk:Int}{rt:ByteArray}{o:Bool}{s2 h2:ByteArray}{p:Int}{pa2 q2:ByteArray}{mv:Bool}{rn:ByteArray}{pr:Bool}{o3:Bool}{s3 h3:ByteArray}{p3:Int}{pa3 q3:ByteArray}(a:RX w R rk rt o s2 h2 p pa2 q2 mv rn pr o3 s3 h3 p3 pa3 q3):w.cell? ⟨R,8,none⟩=some (.bool mv):=by rw[aG a];rfl
theorem RX.c9 {w:World}{R:Nat}{rk:Int}{rt:ByteArray}{o:Bool}{s2 h2:ByteArray}{p:Int}{pa2 q2:ByteArray}{mv:Bool}{rn:ByteArray}{pr:Bool}{o3:Bool}{s3 h3:ByteArray}{p3:Int}{pa3 q3:ByteArray}(a:RX w R rk rt o s2 h2 p pa2 q2 mv rn pr o3 s3 h3 p3 pa3 q3):w.cell? ⟨R,9,none⟩=some (.string rn):=by rw[aG a];rfl
theorem RX.c10 {w:World}{R:Nat}{rk:Int}{rt:ByteArray}{o:Bool}{s2 h2:ByteArray}{p:Int}{pa2 q2:ByteArray}{mv:Bool}{rn:ByteArray}{pr:Bool}{o3:Bool}{s3 h3:ByteArray}{p3:Int}{pa3 q3:ByteArray}(a:RX w R rk rt o s2 h2 p pa2 q2 mv rn pr o3 s3 h3 p3 pa3 q3):w.cell? ⟨R,10,none⟩=some (.bool pr):=by rw[aG a];rfl
theorem RX.c11 {w:World}{R:Nat}{rk:Int}{rt:ByteArray}{o:Bool}{s2 h2:ByteArray}{p:Int}{pa2 q2:ByteArray}{mv:Bool}{rn:ByteArray}{pr:Bool}{o3:Bool}{s3 h3:ByteArray}{p3:Int}{pa3 q3:ByteArray}(a:RX w R rk rt o s2 h2 p pa2 q2 mv rn pr o3 s3 h3 p3 pa3 q3):w.cell? ⟨R,11,none⟩=some (.bool o3):=by rw[aG a];rfl
theorem RX.c12 {w:World}{R:Nat}{rk:Int}{rt:ByteArray}{o:Bool}{s2 h2:ByteArray}{p:Int}{pa2 q2:ByteArray}{mv:Bool}{rn:ByteArray}{pr:Bool}{o3:Bool}{s3 h3:ByteArray}{p3:Int}{pa3 q3:ByteArray}(a:RX w R rk rt o s2 h2 p pa2 q2 mv rn pr o3 s3 h3 p3 pa3 q3):w.cell? ⟨R,12,none⟩=some (.string s3):=by rw[aG a];rfl
theorem RX.c13 {w:World}{R:Nat}{rk:Int}{rt:ByteArray}{o:Bool}{s2 h2:ByteArray}{p:Int}{pa2 q2:ByteArray}{mv:Bool}{rn:ByteArray}{pr:Bool}{o3:Bool}{s3 h3:ByteArray}{p3:Int}{pa3 q3:ByteArray}(a:RX w R rk rt o s2 h2 p pa2 q2 mv rn pr o3 s3 h3 p3 pa3 q3):w.cell? ⟨R,13,none⟩=some (.string h3):=by rw[aG a];rfl
theorem RX.c14 {w:World}{R:Nat}{rk:Int}{rt:ByteArray}{o:Bool}{s2 h2:ByteArray}{p:Int}{pa2 q2:ByteArray}{mv:Bool}{rn:ByteArray}{pr:Bool}{o3:Bool}{s3 h3:ByteArray}{p3:Int}{pa3 q3:ByteArray}(a:RX w R rk rt o s2 h2 p pa2 q2 mv rn pr o3 s3 h3 p3 pa3 q3):w.cell? ⟨R,14,none⟩=some (.int .i64 p3):=by rw[aG a];rfl
theorem RX.c15 {w:World}{R:Nat}{rk:Int}{rt:ByteArray}{o:Bool}{s2 h2:ByteArray}{p:Int}{pa2 q2:ByteArray}{mv:Bool}{rn:ByteArray}{pr:Bool}{o3:Bool}{s3 h3:ByteArray}{p3:Int}{pa3 q3:ByteArray}(a:RX w R rk rt o s2 h2 p pa2 q2 mv rn pr o3 s3 h3 p3 pa3 q3):w.cell? ⟨R,15,none⟩=some (.string pa3):=by rw[aG a];rfl
theorem RX.c16 {w:World}{R:Nat}{rk:Int}{rt:ByteArray}{o:Bool}{s2 h2:ByteArray}{p:Int}{pa2 q2:ByteArray}{mv:Bool}{rn:ByteArray}{pr:Bool}{o3:Bool}{s3 h3:ByteArray}{p3:Int}{pa3 q3:ByteArray}(a:RX w R rk rt o s2 h2 p pa2 q2 mv rn pr o3 s3 h3 p3 pa3 q3):w.cell? ⟨R,16,none⟩=some (.string q3):=by rw[aG a];rfl
theorem RX.cs {w:World}{R:Nat}{rk:Int}{rt:ByteArray}{o:Bool}{s2 h2:ByteArray}{p:Int}{pa2 q2:ByteArray}{mv:Bool}{rn:ByteArray}{pr:Bool}{o3:Bool}{s3 h3:ByteArray}{p3:Int}{pa3 q3:ByteArray}(a:RX w R rk rt o s2 h2 p pa2 q2 mv rn pr o3 s3 h3 p3 pa3 q3):w.cell? ⟨R,0,none⟩=some (.int .i64 rk)/\w.cell? ⟨R,1,none⟩=some (.string rt)/\w.cell? ⟨R,2,none⟩=some (.bool o)/\w.cell? ⟨R,3,none⟩=some (.string s2)/\w.cell? ⟨R,4,none⟩=some (.string h2)/\w.cell? ⟨R,5,none⟩=some (.int .i64 p)/\w.cell? ⟨R,6,none⟩=some (.string pa2)/\w.cell? ⟨R,7,none⟩=some (.string q2)/\w.cell? ⟨R,8,none⟩=some (.bool mv)/\w.cell? ⟨R,9,none⟩=some (.string rn)/\w.cell? ⟨R,10,none⟩=some (.bool pr)/\w.cell? ⟨R,11,none⟩=some (.bool o3)/\w.cell? ⟨R,12,none⟩=some (.string s3)/\w.cell? ⟨R,13,none⟩=some (.string h3)/\w.cell? ⟨R,14,none⟩=some (.int .i64 p3)/\w.cell? ⟨R,15,none⟩=some (.string pa3)/\w.cell? ⟨R,16,none⟩=some (.string q3):=⟨a.c0,a.c1,a.c2,a.c3,a.c4,a.c5,a.c6,a.c7,a.c8,a.c9,a.c10,a.c11,a.c12,a.c13,a.c14,a.c15,a.c16⟩
def fC (w:World)(v:Value)(Q:List Int):Prop:=∃ B off c,v=.slice (some ⟨B,off,none⟩) Q.length c/\∀ i,(h:i<Q.length)->w.cell? ⟨B,off+i,none⟩=some (.int .i64 Q[i])
theorem fC.below {w w':World}{v:Value}{Q:List Int}(h:fC w v Q)(hb:Below w.heap.size w w'):fC w' v Q:=by
 obtain⟨B,off,c,h1,h2⟩:=h;exact⟨B,off,c,h1,fun i hi=>by rw[hb.cell (aH (h2 i hi))];exact h2 i hi⟩
theorem fC.made {w:World}{v:Value}{Q:List Int}(h:fC w v Q)(x:Obj):fC (w.alloc x) v Q:=h.below ((zB _ _).alloc (zL _) _)
theorem oU (W:World)(Q:List Int)(C:Array Value)(hC:C=(Q.map (Value.int .i64)).toArray)(n:Nat)(hn:n=Q.length)(c:Nat):fC (W.alloc (.cells C 73)) (.slice (some ⟨W.heap.size,0,none⟩) n c) Q:=by
 subst hC;subst hn;refine⟨W.heap.size,0,c,rfl,fun i hi => ?_⟩;rw[Nat.zero_add,World.cell?_alloc_mark];simp[hi]
theorem aK.made {w:World}{v:Value}{L:List bI}(h:aK w v L)(x:Obj):aK (w.alloc x) v L:=h.below ((zB _ _).alloc (zL _) _)
theorem aK.drew {w:World}{v:Value}{L:List bI}(h:aK w v L):aK w.drew v L:=h
theorem dZ.drew {w:World}(h:dZ w):dZ w.drew:=h.below (zB _ _).drew
theorem iD {A:Type}{f:A->Bool}{L:List A}(h:∀ j,(h:j<L.length)->j<L.length->f L[j]=false):L.any f=false:=by
 rw[List.any_eq_false];intro a ha;obtain⟨j,hj,rfl⟩:=List.getElem_of_mem ha;rw[h j hj hj];decide
theorem iC {A:Type}{f:A->Bool}{L:List A}{k:Nat}(hk:k<L.length)(h:∀ j,(h:j<L.length)->j<k->f L[j]=false)(h1:f L[k]=false):∀ j,(h:j<L.length)->j<k+1->f L[j]=false:=fun j hj hjk=>by
 by_cases e:j=k
 · subst e;exact h1
 · exact h j hj (by omega)
theorem iF {A:Type}{f:A->Bool}{L:List A}{k:Nat}(hk:k<L.length)(h1:f L[k]=true):L.any f=true:=List.any_eq_true.2 ⟨_,List.getElem_mem hk,h1⟩
theorem one_kind (R:Nat)(k:Int)(t s h:ByteArray)(wd:Bool)(sp:Int)(pa:ByteArray)(q:Int)(b:Bool)(hb:decide (k=q)=b)(w:World)(x:SX w R k t s h wd sp pa):Calls Tryz.prog 149 #[.int .i64 q,.pointer (some ⟨R,0,none⟩)] w fun e w'=>e=.returned (.bool b)/\w=w':=by
 have e0:=x.c0;have g:(k==q)=b:=by rw[<- hb,Bool.eq_iff_iff,beq_iff_eq,decide_eq_true_eq]
 clear hb
 go_enter Tryz.func149,Tryz.ntmps149
 go_wp2
 go_ret
 exact⟨rfl,rfl⟩
theorem anyK_any (R:Nat)(k:Int)(t s h:ByteArray)(wd:Bool)(sp:Int)(pa:ByteArray)(Q:List Int)(v:Value)(w:World)(x:SX w R k t s h wd sp pa)(hv:fC w v Q)(hl:Q.length<=1000000):Calls Tryz.prog 148 #[v,.func (.func 149) #[] #[.pointer (some ⟨R,0,none⟩)]] w fun e w'=>e=.returned (.bool (Q.any fun q=>decide (k=q)))/\w=w':=by
 obtain⟨B,off,c,rfl,hc⟩:=hv;have HC:=zH hc;have HX:=zH x;clear hc x
 go_enter Tryz.func148,Tryz.ntmps148
 go_wp2
 go_loop [9] (fun i=>∃ n:Nat,n<=Q.length/\i=.int .i64 n/\Hid (∀ j,(h:j<Q.length)->j<n->(fun q=>decide (k=q)) Q[j]=false)) (fun i=>Q.length - (intOf i).toNat)
 case atStart=>exact⟨0,Nat.zero_le _,rfl,zH fun j _ h=>absurd h (Nat.not_lt_zero _)⟩
 case round =>
  obtain⟨n,hn,rfl,HN⟩:=hrel
  by_cases hlt:n<Q.length
  case neg =>
   obtain rfl:n=Q.length:=by omega
   have HE:=zH (iD (L:=Q) (f:=fun q=>decide (k=q)) HN.out);clear HN HC HX
   go_wp2
   go_ret
   exact⟨aA HE.out.symm,rfl⟩
  have c0:=HC.out n hlt;have HT:=zH (iF (f:=fun q=>decide (k=q)) hlt);have HM:=zH (iC (f:=fun q=>decide (k=q)) hlt HN.out);generalize Q[n]=q at c0 HT HM;obtain⟨b,hb⟩:∃ b,decide (k=q)=b:=⟨_,rfl⟩;have C:Hid (∀ W,SX W R k t s h wd sp pa->Calls Tryz.prog 149 #[.int .i64 q,.pointer (some ⟨R,0,none⟩)] W fun e w'=>e=.returned (.bool b)/\W=w'):=zH fun W x=>one_kind R k t s h wd sp pa q b hb W x;have HB:=zH hb;clear hb HN
  cases b
  · have HM2:=zH (HM.out HB.out)
    clear HM HT HB
    go_wp2_with fail
    refine(C.out _ HX.out).mono ?_;rintro e w ⟨rfl,rfl⟩
    go_wp2
    go_round
    case rel=>exact⟨n+1,by omega,by go_num,HM2⟩
    case measure=>simp[intOf];omega
  · have HE:=zH (HT.out HB.out)
    clear HM HT HB
    go_wp2_with fail
    refine(C.out _ HX.out).mono ?_;rintro e w ⟨rfl,rfl⟩
    go_wp2
    go_ret
    exact⟨aA HE.out.symm,rfl⟩
theorem one_has (A:Nat)(k:Int)(t s h:ByteArray)(wd:Bool)(sp:Int)(pa:ByteArray)(Q:List Int)(q:Value)(hl:Q.length<=1000000)(b:Bool)(hb:(Q.any fun q=>decide (k=q))=b)(w:World)(x:VK w A q)(hq:fC w q Q):Calls Tryz.prog 147 #[aP k t s h wd sp pa,.pointer (some ⟨A,0,none⟩)] w fun e w'=>e=.returned (.bool b)/\Below w.heap.size w w':=by
 have al:Below w.heap.size w (w.alloc (.cells #[.int .i64 k,.string t,.string s,.string h,.bool wd,.int .i64 sp,.string pa] 75)):=(zB _ _).alloc (zL _) _;have z:=SX.made w k t s h wd sp pa;have x1:=x.below al;have q1:=hq.below al;have HB:=zH hb;clear x hq hb;have a0:=x1.c0;have HAL:=zH al;clear al;unfold aP
 go_enter Tryz.func147,Tryz.ntmps147
 go_wp2_with fail
 refine(anyK_any _ k t s h wd sp pa Q q _ z q1 hl).mono ?_;rintro e w2 ⟨rfl,rfl⟩;have HE:=zH (aA HB.out);clear z x1 q1 a0 HB
 go_wp2
 go_ret
 exact⟨HE.out,HAL.out⟩
theorem one_text (A B:Nat)(k:Int)(t s h:ByteArray)(wd:Bool)(sp:Int)(pa:ByteArray)(k0:Int)(t0:ByteArray)(b:Bool)(hb:(decide (k=k0)&&decide (t.data.toList=t0.data.toList))=b)(w:World)(x:VI w A k0)(y:VX w B t0):Calls Tryz.prog 196 #[aP k t s h wd sp pa,.pointer (some ⟨A,0,none⟩),.pointer (some ⟨B,0,none⟩)] w fun e w'=>e=.returned (.bool b)/\Below w.heap.size w w':=by
 have al:Below w.heap.size w (w.alloc (.cells #[.int .i64 k,.string t,.string s,.string h,.bool wd,.int .i64 sp,.string pa] 75)):=(zB _ _).alloc (zL _) _;have z:=SX.made w k t s h wd sp pa;have x1:=(x.below al).c0;have y1:=(y.below al).c0;have e0:=z.c0;have e1:=z.c1;have HAL:=zH al;clear al x y z;obtain⟨b0,g0⟩:∃ b,(k==k0)=b:=⟨_,rfl⟩;obtain⟨b1,g1⟩:∃ b,(t.toList==t0.toList)=b:=⟨_,rfl⟩
 have HE:Hid ((b0&&b1)=b):=zH (by
  rw[<- hb,<- g0,<- g1,cZ]
  rfl)
 clear hb;unfold aP
 cases b0<;>cases b1
 all_goals
  go_enter Tryz.func196,Tryz.ntmps196
  go_wp2
  go_ret
  exact⟨aA HE.out,HAL.out⟩
theorem one_url (A B C:Nat)(k:Int)(t s h:ByteArray)(wd:Bool)(sp:Int)(pa:ByteArray)(o:Bool)(s2 h2:ByteArray)(p:Int)(pa2 q2:ByteArray)(o3:Bool)(s3 h3:ByteArray)(p3:Int)(pa3 q3:ByteArray)(m:Bool)(z1:h.size<=100000)(z2:pa.size<=100000)(su1:s2.size<=100000)(su2:h2.size<=100000)(su3:pa2.size<=100000)(su4:q2.size<=100000)(sv1:s3.size<=100000)(sv2:h3.size<=100000)(sv3:pa3.size<=100000)(sv4:q3.size<=100000)(b:Bool)(hb:eH (aJ k t s h wd sp pa) (uM o s2 h2 p pa2 q2) (uM o3 s3 h3 p3 pa3 q3) m=b)(w:World)(hw:dZ w)(x:BX w A o s2 h2 p pa2 q2)(y:BX w B o3 s3 h3 p3 pa3 q3)(z:VB w C m):Calls Tryz.prog 150 #[aP k t s h wd sp pa,.pointer (some ⟨A,0,none⟩),.pointer (some ⟨B,0,none⟩),.pointer (some ⟨C,0,none⟩)] w fun e w'=>e=.returned (.bool b)/\Below w.heap.size w w':=by
 have CM:=aO8 k t s h wd sp pa o s2 h2 p pa2 q2 o3 s3 h3 p3 pa3 q3 m z1 z2 su1 su2 su3 su4 sv1 sv2 sv3 sv4 b hb;unfold aP uV at CM;clear hb z1 z2 su1 su2 su3 su4 sv1 sv2 sv3 sv4;have al:Below w.heap.size w (w.alloc (.cells #[.int .i64 k,.string t,.string s,.string h,.bool wd,.int .i64 sp,.string pa] 75)):=(zB _ _).alloc (zL _) _;have s0:=SX.made w k t s h wd sp pa;have x0:=x.below al;have y0:=y.below al;have z0:=z.below al;have w0:=hw.below al;have HAL:=zH al;clear al x y z hw;obtain⟨e0,e1,e2,e3,e4,e5,e6⟩:=s0.cs;obtain⟨a0,a1,a2,a3,a4,a5⟩:=x0.cs;obtain⟨d0,d1,d2,d3,d4,d5⟩:=y0.cs;have r0:=z0.c0;have hs:=s0.lt;clear s0 x0 y0 z0;unfold aP
 go_enter Tryz.func150,Tryz.ntmps150
 go_wp2_with fail
 refine(CM.out _ w0).mono ?_;rintro e w2 ⟨rfl,b_⟩;have BB:=HAL.out.trans (b_.mono (zT hs));clear b_ HAL hs w0 e0 e1 e2 e3 e4 e5 e6 a0 d0 a1 d1 a2 d2 a3 d3 a4 d4 a5 d5 r0
 go_wp2
 go_ret
 exact⟨rfl,BB⟩
theorem anyH_any (A:Nat)(Q:List Int)(q:Value)(hlq:Q.length<=1000000)(L:List bI)(v:Value)(r:Bool)(hr:L.any (fun a=>Q.any fun q=>decide (a.k=q))=r)(w:World)(x:VK w A q)(hq:fC w q Q)(hv:aK w v L)(hl:L.length<=1000000):Calls Tryz.prog 146 #[v,.func (.func 147) #[] #[.pointer (some ⟨A,0,none⟩)]] w fun e w'=>e=.returned (.bool r)/\Below w.heap.size w w':=by
 obtain⟨a0,c0,rfl⟩:=hv.form;have HV:=zH hv;have HR:=zH hr;clear hr;have Hx:=zH x;have Hhq:=zH hq;clear hv x hq
 go_enter Tryz.func146,Tryz.ntmps146
 go_wp2
 go_loopw [9] (fun i wr=>∃ n:Nat,n<=L.length/\i=.int .i64 n/\Below w.heap.size w wr/\Hid (∀ j,(h:j<L.length)->j<n->(fun a=>Q.any fun q=>decide (a.k=q)) L[j]=false)) (fun i _=>L.length - (intOf i).toNat)
 case atStart=>exact⟨0,Nat.zero_le _,rfl,zB _ _,zH fun j _ h=>absurd h (Nat.not_lt_zero _)⟩
 case round =>
  obtain⟨n,hn,rfl,hb,HN⟩:=hrel
  by_cases hlt:n<L.length
  case neg =>
   obtain rfl:n=L.length:=by omega
   have HE:=zH (iD (L:=L) (f:=(fun a=>Q.any fun q=>decide (a.k=q))) HN.out);clear HN
   go_wp2
   go_ret
   exact⟨aA (HE.out.symm.trans HR.out),hb⟩
  obtain⟨B,off,rfl,hcell⟩:=(HV.out.below hb).at hlt;have HT:=zH (iF (f:=(fun a=>Q.any fun q=>decide (a.k=q))) hlt);have HM:=zH (iC (f:=(fun a=>Q.any fun q=>decide (a.k=q))) hlt HN.out);clear HN;obtain⟨T,S,H,PA,hM⟩:=mO L[n];generalize L[n].k=K at hM;generalize L[n].w=wd at hM;generalize L[n].p=sp at hM;rw[hM]at hcell HT HM;rw[jR]at hcell;have c0:=hcell 0 _ rfl;have c1:=hcell 1 _ rfl;have c2:=hcell 2 _ rfl;have c3:=hcell 3 _ rfl;have c4:=hcell 4 _ rfl;have c5:=hcell 5 _ rfl;have c6:=hcell 6 _ rfl;rw[Nat.add_zero]at c0;clear hcell hM;obtain⟨b,hb'⟩:∃ b,(fun a=>Q.any fun q=>decide (a.k=q)) (aJ K T S H wd sp PA)=b:=⟨_,rfl⟩;have C:=(zH fun W x hq=>one_has A K T S H wd sp PA Q q hlq b hb' W x hq:Hid (∀ W,VK W A q->fC W q Q->Calls Tryz.prog 147 #[aP K T S H wd sp PA,.pointer (some ⟨A,0,none⟩)] W fun e w'=>e=.returned (.bool b)/\Below W.heap.size W w'));unfold aP at C;have HB:=zH hb';clear hb';have hb1:=hb.alloc hb.size (.cells #[.int .i64 K,.string T,.string S,.string H,.bool wd,.int .i64 sp,.string PA] 75);have HB1:=zH hb1
  cases b
  · have HM2:=zH (HM.out HB.out)
    clear HM HT HB
    go_wp2_with fail
    refine(C.out _ (Hx.out.below hb1) (Hhq.out.below hb1)).mono ?_;rintro e w1 ⟨rfl,b1⟩;have hb2:=HB1.out.trans (b1.mono HB1.out.size);clear b1 c0 c1 c2 c3 c4 c5 c6 hb hb1 HB1
    go_wp2
    go_roundw
    case rel=>exact⟨n+1,by omega,by go_num,hb2,HM2⟩
    case measure=>simp[intOf];omega
  · have HE:=zH (HT.out HB.out)
    clear HM HT HB
    go_wp2_with fail
    refine(C.out _ (Hx.out.below hb1) (Hhq.out.below hb1)).mono ?_;rintro e w1 ⟨rfl,b1⟩;have hb2:=HB1.out.trans (b1.mono HB1.out.size);clear b1 c0 c1 c2 c3 c4 c5 c6 hb hb1 HB1
    go_wp2
    go_ret
    exact⟨aA (HE.out.symm.trans HR.out),hb2⟩
theorem anyT_any (A C:Nat)(k0:Int)(t0:ByteArray)(L:List bI)(v:Value)(r:Bool)(hr:L.any (fun a=>decide (a.k=k0)&&decide (a.t=t0.data.toList))=r)(w:World)(x:VI w A k0)(y:VX w C t0)(hv:aK w v L)(hl:L.length<=1000000):Calls Tryz.prog 146 #[v,.func (.func 196) #[] #[.pointer (some ⟨A,0,none⟩),.pointer (some ⟨C,0,none⟩)]] w fun e w'=>e=.returned (.bool r)/\Below w.heap.size w w':=by
 obtain⟨a0,c0,rfl⟩:=hv.form;have HV:=zH hv;have HR:=zH hr;clear hr;have Hx:=zH x;have Hy:=zH y;clear hv x y
 go_enter Tryz.func146,Tryz.ntmps146
 go_wp2
 go_loopw [9] (fun i wr=>∃ n:Nat,n<=L.length/\i=.int .i64 n/\Below w.heap.size w wr/\Hid (∀ j,(h:j<L.length)->j<n->(fun a=>decide (a.k=k0)&&decide (a.t=t0.data.toList)) L[j]=false)) (fun i _=>L.length - (intOf i).toNat)
 case atStart=>exact⟨0,Nat.zero_le _,rfl,zB _ _,zH fun j _ h=>absurd h (Nat.not_lt_zero _)⟩
 case round =>
  obtain⟨n,hn,rfl,hb,HN⟩:=hrel
  by_cases hlt:n<L.length
  case neg =>
   obtain rfl:n=L.length:=by omega
   have HE:=zH (iD (L:=L) (f:=(fun a=>decide (a.k=k0)&&decide (a.t=t0.data.toList))) HN.out);clear HN
   go_wp2
   go_ret
   exact⟨aA (HE.out.symm.trans HR.out),hb⟩
  obtain⟨B,off,rfl,hcell⟩:=(HV.out.below hb).at hlt;have HT:=zH (iF (f:=(fun a=>decide (a.k=k0)&&decide (a.t=t0.data.toList))) hlt);have HM:=zH (iC (f:=(fun a=>decide (a.k=k0)&&decide (a.t=t0.data.toList))) hlt HN.out);clear HN;obtain⟨T,S,H,PA,hM⟩:=mO L[n];generalize L[n].k=K at hM;generalize L[n].w=wd at hM;generalize L[n].p=sp at hM;rw[hM]at hcell HT HM;rw[jR]at hcell;have c0:=hcell 0 _ rfl;have c1:=hcell 1 _ rfl;have c2:=hcell 2 _ rfl;have c3:=hcell 3 _ rfl;have c4:=hcell 4 _ rfl;have c5:=hcell 5 _ rfl;have c6:=hcell 6 _ rfl;rw[Nat.add_zero]at c0;clear hcell hM;obtain⟨b,hb'⟩:∃ b,(fun a=>decide (a.k=k0)&&decide (a.t=t0.data.toList)) (aJ K T S H wd sp PA)=b:=⟨_,rfl⟩;have C:=(zH fun W x y=>one_text A C K T S H wd sp PA k0 t0 b hb' W x y:Hid (∀ W,VI W A k0->VX W C t0->Calls Tryz.prog 196 #[aP K T S H wd sp PA,.pointer (some ⟨A,0,none⟩),.pointer (some ⟨C,0,none⟩)] W fun e w'=>e=.returned (.bool b)/\Below W.heap.size W w'));unfold aP at C;have HB:=zH hb';clear hb';have hb1:=hb.alloc hb.size (.cells #[.int .i64 K,.string T,.string S,.string H,.bool wd,.int .i64 sp,.string PA] 75);have HB1:=zH hb1
  cases b
  · have HM2:=zH (HM.out HB.out)
    clear HM HT HB
    go_wp2_with fail
    refine(C.out _ (Hx.out.below hb1) (Hy.out.below hb1)).mono ?_;rintro e w1 ⟨rfl,b1⟩;have hb2:=HB1.out.trans (b1.mono HB1.out.size);clear b1 c0 c1 c2 c3 c4 c5 c6 hb hb1 HB1
    go_wp2
    go_roundw
    case rel=>exact⟨n+1,by omega,by go_num,hb2,HM2⟩
    case measure=>simp[intOf];omega
  · have HE:=zH (HT.out HB.out)
    clear HM HT HB
    go_wp2_with fail
    refine(C.out _ (Hx.out.below hb1) (Hy.out.below hb1)).mono ?_;rintro e w1 ⟨rfl,b1⟩;have hb2:=HB1.out.trans (b1.mono HB1.out.size);clear b1 c0 c1 c2 c3 c4 c5 c6 hb hb1 HB1
    go_wp2
    go_ret
    exact⟨aA (HE.out.symm.trans HR.out),hb2⟩
theorem anyU_any (A C D:Nat)(o:Bool)(s2 h2:ByteArray)(p:Int)(pa2 q2:ByteArray)(o3:Bool)(s3 h3:ByteArray)(p3:Int)(pa3 q3:ByteArray)(m:Bool)(su1:s2.size<=100000)(su2:h2.size<=100000)(su3:pa2.size<=100000)(su4:q2.size<=100000)(sv1:s3.size<=100000)(sv2:h3.size<=100000)(sv3:pa3.size<=100000)(sv4:q3.size<=100000)(L:List bI)(v:Value)(r:Bool)(hr:L.any (fun a=>eH a (uM o s2 h2 p pa2 q2) (uM o3 s3 h3 p3 pa3 q3) m)=r)(hL:∀ a∈L,a.h.length<=100000/\a.pa.length<=100000)(w:World)(hw:dZ w)(x:BX w A o s2 h2 p pa2 q2)(y:BX w C o3 s3 h3 p3 pa3 q3)(z:VB w D m)(hv:aK w v L)(hl:L.length<=1000000):Calls Tryz.prog 146 #[v,.func (.func 150) #[] #[.pointer (some ⟨A,0,none⟩),.pointer (some ⟨C,0,none⟩),.pointer (some ⟨D,0,none⟩)]] w fun e w'=>e=.returned (.bool r)/\Below w.heap.size w w':=by
 obtain⟨a0,c0,rfl⟩:=hv.form;have HV:=zH hv;have HR:=zH hr;clear hr;have Hx:=zH x;have Hy:=zH y;have Hz:=zH z;have HW:=zH hw;have HL:=zH hL;clear hv x y z hw hL
 go_enter Tryz.func146,Tryz.ntmps146
 go_wp2
 go_loopw [9] (fun i wr=>∃ n:Nat,n<=L.length/\i=.int .i64 n/\Below w.heap.size w wr/\Hid (∀ j,(h:j<L.length)->j<n->(fun a=>eH a (uM o s2 h2 p pa2 q2) (uM o3 s3 h3 p3 pa3 q3) m) L[j]=false)) (fun i _=>L.length - (intOf i).toNat)
 case atStart=>exact⟨0,Nat.zero_le _,rfl,zB _ _,zH fun j _ h=>absurd h (Nat.not_lt_zero _)⟩
 case round =>
  obtain⟨n,hn,rfl,hb,HN⟩:=hrel
  by_cases hlt:n<L.length
  case neg =>
   obtain rfl:n=L.length:=by omega
   have HE:=zH (iD (L:=L) (f:=(fun a=>eH a (uM o s2 h2 p pa2 q2) (uM o3 s3 h3 p3 pa3 q3) m)) HN.out);clear HN
   go_wp2
   go_ret
   exact⟨aA (HE.out.symm.trans HR.out),hb⟩
  obtain⟨B,off,rfl,hcell⟩:=(HV.out.below hb).at hlt;have HT:=zH (iF (f:=(fun a=>eH a (uM o s2 h2 p pa2 q2) (uM o3 s3 h3 p3 pa3 q3) m)) hlt);have HM:=zH (iC (f:=(fun a=>eH a (uM o s2 h2 p pa2 q2) (uM o3 s3 h3 p3 pa3 q3) m)) hlt HN.out);have HS:=zH (HL.out _ (List.getElem_mem hlt));obtain⟨T,S,H,PA,hM⟩:=mO L[n];generalize L[n].k=K at hM;generalize L[n].w=wd at hM;generalize L[n].p=sp at hM;rw[hM]at hcell HT HM HS;rw[jR]at hcell;have c0:=hcell 0 _ rfl;have c1:=hcell 1 _ rfl;have c2:=hcell 2 _ rfl;have c3:=hcell 3 _ rfl;have c4:=hcell 4 _ rfl;have c5:=hcell 5 _ rfl;have c6:=hcell 6 _ rfl;rw[Nat.add_zero]at c0;clear hcell hM;obtain⟨b,hb'⟩:∃ b,(fun a=>eH a (uM o s2 h2 p pa2 q2) (uM o3 s3 h3 p3 pa3 q3) m) (aJ K T S H wd sp PA)=b:=⟨_,rfl⟩;have C:=(zH fun W hw x y z=>one_url A C D K T S H wd sp PA o s2 h2 p pa2 q2 o3 s3 h3 p3 pa3 q3 m (by have:=HS.out.1;unfold aJ at this;simp only[aE]at this;exact this) (by have:=HS.out.2;unfold aJ at this;simp only[aE]at this;exact this) su1 su2 su3 su4 sv1 sv2 sv3 sv4 b hb' W hw x y z:Hid (∀ W,dZ W->BX W A o s2 h2 p pa2 q2->BX W C o3 s3 h3 p3 pa3 q3->VB W D m->Calls Tryz.prog 150 #[aP K T S H wd sp PA,.pointer (some ⟨A,0,none⟩),.pointer (some ⟨C,0,none⟩),.pointer (some ⟨D,0,none⟩)] W fun e w'=>e=.returned (.bool b)/\Below W.heap.size W w'));unfold aP at C;have HB:=zH hb';clear hb';have hb1:=hb.alloc hb.size (.cells #[.int .i64 K,.string T,.string S,.string H,.bool wd,.int .i64 sp,.string PA] 75);have HB1:=zH hb1
  cases b
  · have HM2:=zH (HM.out HB.out)
    clear HM HT HB
    go_wp2_with fail
    refine(C.out _ (HW.out.below hb1) (Hx.out.below hb1) (Hy.out.below hb1) (Hz.out.below hb1)).mono ?_;rintro e w1 ⟨rfl,b1⟩;have hb2:=HB1.out.trans (b1.mono HB1.out.size);clear b1 c0 c1 c2 c3 c4 c5 c6 hb hb1 HB1
    go_wp2
    go_roundw
    case rel=>exact⟨n+1,by omega,by go_num,hb2,HM2⟩
    case measure=>simp[intOf];omega
  · have HE:=zH (HT.out HB.out)
    clear HM HT HB
    go_wp2_with fail
    refine(C.out _ (HW.out.below hb1) (Hx.out.below hb1) (Hy.out.below hb1) (Hz.out.below hb1)).mono ?_;rintro e w1 ⟨rfl,b1⟩;have hb2:=HB1.out.trans (b1.mono HB1.out.size);clear b1 c0 c1 c2 c3 c4 c5 c6 hb hb1 HB1
    go_wp2
    go_ret
    exact⟨aA (HE.out.symm.trans HR.out),hb2⟩
end Go.Proofs.YthnogdodlhkldaaGreatDoor
namespace Go.Proofs.YthnogdodlhkldaaGreatDoor
open Go.RowKit
theorem aW4 (w:World)(o:Bool)(s2 h2:ByteArray)(p:Int)(pa2 q2:ByteArray)(o3:Bool)(s3 h3:ByteArray)(p3:Int)(pa3 q3:ByteArray)(m:Bool) :
 BX (((w.alloc (.cells #[.bool o,.string s2,.string h2,.int .i64 p,.string pa2,.string q2] 40)).alloc (.cells #[.bool o3,.string s3,.string h3,.int .i64 p3,.string pa3,.string q3] 40)).alloc (.cells #[.bool m] 4)) w.heap.size o s2 h2 p pa2 q2/\BX (((w.alloc (.cells #[.bool o,.string s2,.string h2,.int .i64 p,.string pa2,.string q2] 40)).alloc (.cells #[.bool o3,.string s3,.string h3,.int .i64 p3,.string pa3,.string q3] 40)).alloc (.cells #[.bool m] 4)) (w.heap.size+1) o3 s3 h3 p3 pa3 q3/\VB (((w.alloc (.cells #[.bool o,.string s2,.string h2,.int .i64 p,.string pa2,.string q2] 40)).alloc (.cells #[.bool o3,.string s3,.string h3,.int .i64 p3,.string pa3,.string q3] 40)).alloc (.cells #[.bool m] 4)) (w.heap.size+1+1) m/\Below w.heap.size w (((w.alloc (.cells #[.bool o,.string s2,.string h2,.int .i64 p,.string pa2,.string q2] 40)).alloc (.cells #[.bool o3,.string s3,.string h3,.int .i64 p3,.string pa3,.string q3] 40)).alloc (.cells #[.bool m] 4)):=by
 refine⟨?_,?_,?_,?_⟩
 · unfold BX
   rw[bT,bT,dJ]<;>simp
   all_goals omega
 · unfold BX
   rw[bT,dJ]<;>simp
 · unfold VB
   rw[dJ];simp
 · exact(((zB w.heap.size w).alloc (zL _) _).alloc (by simp) _).alloc (by simp;omega) _
theorem itBlocks (w:World)(k0:Int)(t0:ByteArray) :
 VI ((w.alloc (.cells #[.int .i64 k0] 73)).alloc (.cells #[.string t0] 9)) w.heap.size k0/\VX ((w.alloc (.cells #[.int .i64 k0] 73)).alloc (.cells #[.string t0] 9)) (w.heap.size+1) t0/\Below w.heap.size w ((w.alloc (.cells #[.int .i64 k0] 73)).alloc (.cells #[.string t0] 9)):=by
 refine⟨?_,?_,?_⟩
 · unfold VI
   rw[bT,dJ]<;>simp
 · unfold VX
   rw[dJ];simp
 · exact((zB w.heap.size w).alloc (zL _) _).alloc (by simp) _
theorem aR9 {T:Type}(f g:T->Bool)(L:List T):(L.any fun a=>f a || g a)=(L.any f || L.any g):=by
 induction L with
 | nil=>rfl
 | cons a L ih =>
   simp only[List.any_cons,ih]
   cases f a<;>cases g a<;>cases L.any f<;>rfl
theorem aS1 (o:Bool)(s2 h2:ByteArray)(p:Int)(pa2 q2:ByteArray)(o3:Bool)(s3 h3:ByteArray)(p3:Int)(pa3 q3:ByteArray)(m:Bool)(su1:s2.size<=100000)(su2:h2.size<=100000)(su3:pa2.size<=100000)(su4:q2.size<=100000)(sv1:s3.size<=100000)(sv2:h3.size<=100000)(sv3:pa3.size<=100000)(sv4:q3.size<=100000)(L:List bI)(v:Value)(hl:L.length<=1000000)(hL:∀ a∈L,a.h.length<=100000/\a.pa.length<=100000)(b:Bool)(hb:pM L (uM o s2 h2 p pa2 q2) (uM o3 s3 h3 p3 pa3 q3) m=b)(w:World)(hw:dZ w)(hv:aK w v L):Calls Tryz.prog 105 #[v,uV o s2 h2 p pa2 q2,uV o3 s3 h3 p3 pa3 q3,.bool m] w fun e w'=>e=.returned (.bool b)/\Below w.heap.size w w':=by
 have HB:=zH hb;clear hb;unfold uV at *
 go_enter Tryz.func105,Tryz.ntmps105
 go_wp2_with fail
 obtain⟨x1,x2,x3,BB⟩:=aW4 w o s2 h2 p pa2 q2 o3 s3 h3 p3 pa3 q3 m;have gB:=(((hw.made (.cells #[.bool o,.string s2,.string h2,.int .i64 p,.string pa2,.string q2] 40)).made (.cells #[.bool o3,.string s3,.string h3,.int .i64 p3,.string pa3,.string q3] 40)).made (.cells #[.bool m] 4));have lB:=(((hv.made (.cells #[.bool o,.string s2,.string h2,.int .i64 p,.string pa2,.string q2] 40)).made (.cells #[.bool o3,.string s3,.string h3,.int .i64 p3,.string pa3,.string q3] 40)).made (.cells #[.bool m] 4));clear hw hv;generalize hR:w.heap.size=Ra at x1 x2 x3 BB ⊢;have HR:=zH hR;clear hR;obtain⟨Rb,hRb⟩:∃ Rb,Ra+1=Rb:=⟨_,rfl⟩;rw[hRb]at x2 x3
 try rw[hRb]
 clear hRb;obtain⟨Rc,hRb⟩:∃ Rc,Rb+1=Rc:=⟨_,rfl⟩;rw[hRb]at x3
 try rw[hRb]
 clear hRb;generalize((w.alloc (.cells #[.bool o,.string s2,.string h2,.int .i64 p,.string pa2,.string q2] 40)).alloc (.cells #[.bool o3,.string s3,.string h3,.int .i64 p3,.string pa3,.string q3] 40)).alloc (.cells #[.bool m] 4)=w1 at x1 x2 x3 gB lB BB ⊢;have xRa_w1:=x1;have xRb_w1:=x2;have xRc_w1:=x3;clear x1 x2 x3;refine(anyU_any Ra Rb Rc o s2 h2 p pa2 q2 o3 s3 h3 p3 pa3 q3 m su1 su2 su3 su4 sv1 sv2 sv3 sv4 L v b HB.out hL _ gB xRa_w1 xRb_w1 xRc_w1 lB hl).mono ?_;rintro e w2 ⟨rfl,b_⟩;have gw2:=gB.below b_;have lw2:=lB.below b_;have Bw2:=BB.trans (b_.mono (zT xRa_w1.lt));have xRa_w2:=xRa_w1.below b_;have xRb_w2:=xRb_w1.below b_;have xRc_w2:=xRc_w1.below b_;clear b_ gB lB BB xRa_w1 xRb_w1 xRc_w1
 go_wp2
 go_ret
 exact⟨rfl,by rw[HR.out];exact Bw2⟩
theorem aS0 (o:Bool)(s2 h2:ByteArray)(p:Int)(pa2 q2:ByteArray)(o3:Bool)(s3 h3:ByteArray)(p3:Int)(pa3 q3:ByteArray)(m:Bool)(su1:s2.size<=100000)(su2:h2.size<=100000)(su3:pa2.size<=100000)(su4:q2.size<=100000)(sv1:s3.size<=100000)(sv2:h3.size<=100000)(sv3:pa3.size<=100000)(sv4:q3.size<=100000)(L:List bI)(v:Value)(hl:L.length<=1000000)(hL:∀ a∈L,a.h.length<=100000/\a.pa.length<=100000)(b:Bool)(hb:pM L (uM o s2 h2 p pa2 q2) (uM o3 s3 h3 p3 pa3 q3) m=b):Hid (∀ W,dZ W->aK W v L->Calls Tryz.prog 105 #[v,uV o s2 h2 p pa2 q2,uV o3 s3 h3 p3 pa3 q3,.bool m] W fun e w'=>e=.returned (.bool b)/\Below W.heap.size W w') :=
 zH fun W hw hv=>aS1 o s2 h2 p pa2 q2 o3 s3 h3 p3 pa3 q3 m su1 su2 su3 su4 sv1 sv2 sv3 sv4 L v hl hL b hb W hw hv
theorem aD7 (L:List bI)(v:Value)(hl:L.length<=1000000)(k0:Int)(t0:ByteArray)(b:Bool)(hb:iN L k0 t0.data.toList=b)(w:World)(hv:aK w v L):Calls Tryz.prog 145 #[v,.int .i64 k0,.string t0] w fun e w'=>e=.returned (.bool b)/\Below w.heap.size w w':=by
 have HB:=zH hb;clear hb
 go_enter Tryz.func145,Tryz.ntmps145
 go_wp2_with fail
 obtain⟨x1,x2,BB⟩:=itBlocks w k0 t0;have lB:=((hv.made (.cells #[.int .i64 k0] 73)).made (.cells #[.string t0] 9));clear hv;generalize hR:w.heap.size=Ra at x1 x2 BB ⊢;have HR:=zH hR;clear hR;obtain⟨Rb,hRb⟩:∃ Rb,Ra+1=Rb:=⟨_,rfl⟩;rw[hRb]at x2
 try rw[hRb]
 clear hRb;generalize(w.alloc (.cells #[.int .i64 k0] 73)).alloc (.cells #[.string t0] 9)=w1 at x1 x2 lB BB ⊢;have xRa_w1:=x1;have xRb_w1:=x2;clear x1 x2;refine(anyT_any Ra Rb k0 t0 L v b HB.out _ xRa_w1 xRb_w1 lB hl).mono ?_;rintro e w2 ⟨rfl,b_⟩;have lw2:=lB.below b_;have Bw2:=BB.trans (b_.mono (zT xRa_w1.lt));have xRa_w2:=xRa_w1.below b_;have xRb_w2:=xRb_w1.below b_;clear b_ lB BB xRa_w1 xRb_w1
 go_wp2
 go_ret
 exact⟨rfl,by rw[HR.out];exact Bw2⟩
theorem qF (L:List bI)(v:Value)(hl:L.length<=1000000)(k0:Int)(t0:ByteArray)(b:Bool)(hb:iN L k0 t0.data.toList=b):Hid (∀ W,aK W v L->Calls Tryz.prog 145 #[v,.int .i64 k0,.string t0] W fun e w'=>e=.returned (.bool b)/\Below W.heap.size W w') :=
 zH fun W hv=>aD7 L v hl k0 t0 b hb W hv
theorem xL (L:List bI)(v:Value)(hl:L.length<=1000000)(Q:List Int)(kv:Value)(hlq:Q.length<=1000000)(b:Bool)(hb:(L.any fun a=>Q.any fun q=>decide (a.k=q))=b)(w:World)(hv:aK w v L)(hq:fC w kv Q):Calls Tryz.prog 104 #[v,kv] w fun e w'=>e=.returned (.bool b)/\Below w.heap.size w w':=by
 have HB:=zH hb;clear hb;obtain⟨B0,off0,cc,rfl,_⟩:=id hq
 go_enter Tryz.func104,Tryz.ntmps104
 go_wp2_with fail
 have xn:=VK.made w (.slice (some ⟨B0,off0,none⟩) Q.length cc);have lw1:=hv.made (.cells #[(.slice (some ⟨B0,off0,none⟩) Q.length cc)] 163);have qw1:=hq.made (.cells #[(.slice (some ⟨B0,off0,none⟩) Q.length cc)] 163);have Bw1:Below w.heap.size w (w.alloc (.cells #[(.slice (some ⟨B0,off0,none⟩) Q.length cc)] 163)):=((zB w.heap.size w).alloc (zL _) (.cells #[(.slice (some ⟨B0,off0,none⟩) Q.length cc)] 163));generalize hR:w.heap.size=Ra at xn Bw1 ⊢;have HR:=zH hR;clear hR;generalize w.alloc (.cells #[(.slice (some ⟨B0,off0,none⟩) Q.length cc)] 163)=w1 at xn lw1 qw1 Bw1 ⊢;have xRa_w1:=xn;clear xn hv hq;refine(anyH_any Ra Q (.slice (some ⟨B0,off0,none⟩) Q.length cc) hlq L v b HB.out _ xRa_w1 qw1 lw1 hl).mono ?_;rintro e w2 ⟨rfl,b_⟩;have lw2:=lw1.below b_;have qw2:=qw1.below b_;have Bw2:=Bw1.trans (b_.mono (zT xRa_w1.lt));have xRa_w2:=xRa_w1.below b_;clear b_ lw1 qw1 Bw1 xRa_w1
 go_wp2
 go_ret
 exact⟨rfl,by rw[HR.out];exact Bw2⟩
theorem lC (L:List bI)(v:Value)(hl:L.length<=1000000)(k0:Int)(b:Bool)(hb:dY L k0=b):Hid (∀ W,aK W v L->Calls Tryz.prog 104 #[v,.slice (some ⟨W.heap.size,0,none⟩) 1 1] (W.alloc (.cells #[.int .i64 k0] 73)) fun e w'=>e=.returned (.bool b)/\Below W.heap.size W w') :=
 zH fun W hv=>(xL L v hl [k0] _ (by simp) b (by rw[<- hb];unfold dY;simp only[List.any_cons,List.any_nil,Bool.or_false]) _ (hv.made _) (oU W [k0] _ rfl 1 rfl 1)).mono fun e w' ⟨h1,h2⟩=>⟨h1,((zB W.heap.size W).alloc (zL _) _).trans (h2.mono (by rw[aV];omega))⟩
theorem has2_hid (L:List bI)(v:Value)(hl:L.length<=1000000)(k0 k1:Int)(b:Bool)(hb:(dY L k0 || dY L k1)=b):Hid (∀ W,aK W v L->Calls Tryz.prog 104 #[v,.slice (some ⟨W.heap.size,0,none⟩) 2 2] (W.alloc (.cells #[.int .i64 k0,.int .i64 k1] 73)) fun e w'=>e=.returned (.bool b)/\Below W.heap.size W w') :=
 zH fun W hv=>(xL L v hl [k0,k1] _ (by simp) b (by rw[<- hb];unfold dY;rw[<- aR9];simp only[List.any_cons,List.any_nil,Bool.or_false]) _ (hv.made _) (oU W [k0,k1] _ rfl 2 rfl 2)).mono fun e w' ⟨h1,h2⟩=>⟨h1,((zB W.heap.size W).alloc (zL _) _).trans (h2.mono (by rw[aV];omega))⟩
theorem has3_hid (L:List bI)(v:Value)(hl:L.length<=1000000)(k0 k1 k2:Int)(b:Bool)(hb:(dY L k0 || (dY L k1 || dY L k2))=b):Hid (∀ W,aK W v L->Calls Tryz.prog 104 #[v,.slice (some ⟨W.heap.size,0,none⟩) 3 3] (W.alloc (.cells #[.int .i64 k0,.int .i64 k1,.int .i64 k2] 73)) fun e w'=>e=.returned (.bool b)/\Below W.heap.size W w') :=
 zH fun W hv=>(xL L v hl [k0,k1,k2] _ (by simp) b (by rw[<- hb];unfold dY;rw[<- aR9,<- aR9];simp only[List.any_cons,List.any_nil,Bool.or_false]) _ (hv.made _) (oU W [k0,k1,k2] _ rfl 3 rfl 3)).mono fun e w' ⟨h1,h2⟩=>⟨h1,((zB W.heap.size W).alloc (zL _) _).trans (h2.mono (by rw[aV];omega))⟩
theorem of1_hid (s M:ByteArray)(hs:s.size<=100000)(hM:M.data.toList=fR s.data.toList):Hid (∀ W,Calls Tryz.prog 31 #[.slice (some ⟨W.heap.size,0,none⟩) 1 1] (W.alloc (.cells #[.string s] 9)) fun e w'=>e=.returned (.string M)/\Below W.heap.size W w') :=
 zH fun W=>(of_any [s.data.toList] _ _ M (by rw[hM];simp) (cE W [s.data.toList] _ (by unfold aC;rw[List.map_cons,lP];rfl) 1 rfl 1) (by simp) (by rw[List.flatten_cons,List.flatten_nil,List.append_nil,aE];omega)).mono fun e w' ⟨h1,h2⟩=>⟨h1,((zB W.heap.size W).alloc (zL _) _).trans (h2.mono (by rw[aV];omega))⟩
theorem xT (L:List bI)(v:Value)(hl:L.length<=1000000)(n:ByteArray)(b:Bool)(hb:iW L n.data.toList=b)(w:World)(hv:aK w v L):Calls Tryz.prog 103 #[v,.string n] w fun e w'=>e=.returned (.bool b)/\Below w.heap.size w w':=by
 obtain⟨b0,g0⟩:∃ b,n.toList.isEmpty=b:=⟨_,rfl⟩;obtain⟨b1,h1⟩:∃ b,iN L 9 n.data.toList=b:=⟨_,rfl⟩;have HE:Hid ((!b0&&b1)=b):=zH (by rw[<- hb,<- g0,<- h1,dK];rfl);have CT:=qF L v hl 9 n b1 h1;clear hb h1
 cases b0
 · go_enter Tryz.func103,Tryz.ntmps103
   go_wp2_with fail
   refine(CT.out _ hv).mono ?_;rintro e w1 ⟨rfl,b_⟩;have lw1:=hv.below b_;have Bw1:=b_;clear b_ hv
   go_wp2
   go_ret
   exact⟨aA HE.out,Bw1⟩
 · go_enter Tryz.func103,Tryz.ntmps103
   go_wp2
   go_ret
   exact⟨aA HE.out,zB _ _⟩
theorem oF (L:List bI)(v:Value)(hl:L.length<=1000000)(n:ByteArray)(b:Bool)(hb:iW L n.data.toList=b):Hid (∀ W,aK W v L->Calls Tryz.prog 103 #[v,.string n] W fun e w'=>e=.returned (.bool b)/\Below W.heap.size W w') :=
 zH fun W hv=>xT L v hl n b hb W hv
theorem aF9 (L:List bI)(v:Value)(hl:L.length<=1000000)(s:ByteArray)(hs:s.size<=100000)(b:Bool)(hb:mI L s.data.toList=b)(w:World)(hv:aK w v L):Calls Tryz.prog 107 #[v,.string s] w fun e w'=>e=.returned (.bool b)/\Below w.heap.size w w':=by
 obtain⟨M,hM⟩:∃ M:ByteArray,M.data.toList=fR s.data.toList:=⟨⟨(fR s.data.toList).toArray⟩,rfl⟩;have CT:=qF L v hl 10 M b (by rw[hM];exact hb);have CO:=of1_hid s M hs hM;clear hb hM
 go_enter Tryz.func107,Tryz.ntmps107
 go_wp2_with fail
 refine(CO.out _ ).mono ?_;rintro e w1 ⟨rfl,b_⟩;have lw1:=hv.below b_;have Bw1:=b_;clear b_ hv
 go_wp2_with fail
 refine(CT.out _ lw1).mono ?_;rintro e w2 ⟨rfl,b_⟩;have lw2:=lw1.below b_;have Bw2:=Bw1.trans (b_.mono Bw1.size);clear b_ lw1 Bw1
 go_wp2
 go_ret
 exact⟨rfl,Bw2⟩
theorem aF8 (L:List bI)(v:Value)(hl:L.length<=1000000)(s:ByteArray)(hs:s.size<=100000)(b:Bool)(hb:mI L s.data.toList=b):Hid (∀ W,aK W v L->Calls Tryz.prog 107 #[v,.string s] W fun e w'=>e=.returned (.bool b)/\Below W.heap.size W w') :=
 zH fun W hv=>aF9 L v hl s hs b hb W hv
theorem xV (L:List bI)(v:Value)(hl:L.length<=1000000)(b:Bool)(hb:iY L=b)(w:World)(hv:aK w v L):Calls Tryz.prog 106 #[v] w fun e w'=>e=.returned (.bool b)/\Below w.heap.size w w':=by
 obtain⟨b3,h3⟩:∃ b,dY L 3=b:=⟨_,rfl⟩;obtain⟨r,hr⟩:∃ b,(dY L 9 || (dY L 10 || dY L 6))=b:=⟨_,rfl⟩;have HE:Hid ((b3 && !r)=b):=zH (by rw[<- hb,<- h3,<- hr];unfold iY;cases dY L 3<;>cases dY L 9<;>cases dY L 10<;>cases dY L 6<;>rfl);have C1:=lC L v hl 3 b3 h3;have C3:=has3_hid L v hl 9 10 6 r hr;clear hb h3 hr
 cases b3
 · go_enter Tryz.func106,Tryz.ntmps106
   go_wp2_with fail
   refine(C1.out _ hv).mono ?_;rintro e w1 ⟨rfl,b_⟩;have lw1:=hv.below b_;have Bw1:=b_;clear b_ hv
   go_wp2
   go_ret
   exact⟨aA HE.out,Bw1⟩
 · go_enter Tryz.func106,Tryz.ntmps106
   go_wp2_with fail
   refine(C1.out _ hv).mono ?_;rintro e w1 ⟨rfl,b_⟩;have lw1:=hv.below b_;have Bw1:=b_;clear b_ hv
   go_wp2_with fail
   refine(C3.out _ lw1).mono ?_;rintro e w2 ⟨rfl,b_⟩;have lw2:=lw1.below b_;have Bw2:=Bw1.trans (b_.mono Bw1.size);clear b_ lw1 Bw1
   go_wp2
   go_ret
   exact⟨aA HE.out,Bw2⟩
theorem xU (L:List bI)(v:Value)(hl:L.length<=1000000)(b:Bool)(hb:iY L=b):Hid (∀ W,aK W v L->Calls Tryz.prog 106 #[v] W fun e w'=>e=.returned (.bool b)/\Below W.heap.size W w') :=
 zH fun W hv=>xV L v hl b hb W hv
theorem tX (L:List bI)(v:Value)(n s:ByteArray)(lo no ha:Bool)(CL:Hid (∀ W,aK W v L->Calls Tryz.prog 106 #[v] W fun e w'=>e=.returned (.bool lo)/\Below W.heap.size W w'))(CN:Hid (∀ W,aK W v L->Calls Tryz.prog 103 #[v,.string n] W fun e w'=>e=.returned (.bool no)/\Below W.heap.size W w'))(CH:Hid (∀ W,aK W v L->Calls Tryz.prog 107 #[v,.string s] W fun e w'=>e=.returned (.bool ha)/\Below W.heap.size W w'))(b:Bool)(he:(lo || (no || ha))=b)(w:World)(hv:aK w v L):Calls Tryz.prog 69 #[v,.int .i64 1,.string n,.string s] w fun e w'=>e=.returned (.bool b)/\Below w.heap.size w w':=by
 have HE:=zH he;clear he
 cases lo
 · cases no
   · go_enter Tryz.func69,Tryz.ntmps69
     go_wp2_with fail
     refine(CL.out _ hv).mono ?_;rintro e w1 ⟨rfl,b_⟩;have lw1:=hv.below b_;have Bw1:=b_;clear b_ hv
     go_wp2_with fail
     refine(CN.out _ lw1).mono ?_;rintro e w2 ⟨rfl,b_⟩;have lw2:=lw1.below b_;have Bw2:=Bw1.trans (b_.mono Bw1.size);clear b_ lw1 Bw1
     go_wp2_with fail
     refine(CH.out _ lw2).mono ?_;rintro e w3 ⟨rfl,b_⟩;have lw3:=lw2.below b_;have Bw3:=Bw2.trans (b_.mono Bw2.size);clear b_ lw2 Bw2
     go_wp2
     go_ret
     exact⟨aA HE.out,Bw3⟩
   · go_enter Tryz.func69,Tryz.ntmps69
     go_wp2_with fail
     refine(CL.out _ hv).mono ?_;rintro e w1 ⟨rfl,b_⟩;have lw1:=hv.below b_;have Bw1:=b_;clear b_ hv
     go_wp2_with fail
     refine(CN.out _ lw1).mono ?_;rintro e w2 ⟨rfl,b_⟩;have lw2:=lw1.below b_;have Bw2:=Bw1.trans (b_.mono Bw1.size);clear b_ lw1 Bw1
     go_wp2
     go_ret
     exact⟨aA HE.out,Bw2⟩
 · go_enter Tryz.func69,Tryz.ntmps69
   go_wp2_with fail
   refine(CL.out _ hv).mono ?_;rintro e w1 ⟨rfl,b_⟩;have lw1:=hv.below b_;have Bw1:=b_;clear b_ hv
   go_wp2
   go_ret
   exact⟨aA HE.out,Bw1⟩
theorem tW (L:List bI)(v:Value)(n s:ByteArray)(lo h7 ha:Bool)(CL:Hid (∀ W,aK W v L->Calls Tryz.prog 106 #[v] W fun e w'=>e=.returned (.bool lo)/\Below W.heap.size W w'))(C7:Hid (∀ W,aK W v L->Calls Tryz.prog 104 #[v,.slice (some ⟨W.heap.size,0,none⟩) 1 1] (W.alloc (.cells #[.int .i64 7] 73)) fun e w'=>e=.returned (.bool h7)/\Below W.heap.size W w'))(CH:Hid (∀ W,aK W v L->Calls Tryz.prog 107 #[v,.string s] W fun e w'=>e=.returned (.bool ha)/\Below W.heap.size W w'))(b:Bool)(he:(lo || (h7&&ha))=b)(w:World)(hv:aK w v L):Calls Tryz.prog 69 #[v,.int .i64 3,.string n,.string s] w fun e w'=>e=.returned (.bool b)/\Below w.heap.size w w':=by
 have HE:=zH he;clear he
 cases lo
 · cases h7
   · go_enter Tryz.func69,Tryz.ntmps69
     go_wp2_with fail
     refine(CL.out _ hv).mono ?_;rintro e w1 ⟨rfl,b_⟩;have lw1:=hv.below b_;have Bw1:=b_;clear b_ hv
     go_wp2_with fail
     refine(C7.out _ lw1).mono ?_;rintro e w2 ⟨rfl,b_⟩;have lw2:=lw1.below b_;have Bw2:=Bw1.trans (b_.mono Bw1.size);clear b_ lw1 Bw1
     go_wp2
     go_ret
     exact⟨aA HE.out,Bw2⟩
   · go_enter Tryz.func69,Tryz.ntmps69
     go_wp2_with fail
     refine(CL.out _ hv).mono ?_;rintro e w1 ⟨rfl,b_⟩;have lw1:=hv.below b_;have Bw1:=b_;clear b_ hv
     go_wp2_with fail
     refine(C7.out _ lw1).mono ?_;rintro e w2 ⟨rfl,b_⟩;have lw2:=lw1.below b_;have Bw2:=Bw1.trans (b_.mono Bw1.size);clear b_ lw1 Bw1
     go_wp2_with fail
     refine(CH.out _ lw2).mono ?_;rintro e w3 ⟨rfl,b_⟩;have lw3:=lw2.below b_;have Bw3:=Bw2.trans (b_.mono Bw2.size);clear b_ lw2 Bw2
     go_wp2
     go_ret
     exact⟨aA HE.out,Bw3⟩
 · go_enter Tryz.func69,Tryz.ntmps69
   go_wp2_with fail
   refine(CL.out _ hv).mono ?_;rintro e w1 ⟨rfl,b_⟩;have lw1:=hv.below b_;have Bw1:=b_;clear b_ hv
   go_wp2
   go_ret
   exact⟨aA HE.out,Bw1⟩
theorem tZ (L:List bI)(v:Value)(n s:ByteArray)(lo h7 ha:Bool)(CL:Hid (∀ W,aK W v L->Calls Tryz.prog 106 #[v] W fun e w'=>e=.returned (.bool lo)/\Below W.heap.size W w'))(C7:Hid (∀ W,aK W v L->Calls Tryz.prog 104 #[v,.slice (some ⟨W.heap.size,0,none⟩) 1 1] (W.alloc (.cells #[.int .i64 7] 73)) fun e w'=>e=.returned (.bool h7)/\Below W.heap.size W w'))(CH:Hid (∀ W,aK W v L->Calls Tryz.prog 107 #[v,.string s] W fun e w'=>e=.returned (.bool ha)/\Below W.heap.size W w'))(b:Bool)(he:(lo || (h7&&ha))=b)(w:World)(hv:aK w v L):Calls Tryz.prog 69 #[v,.int .i64 4,.string n,.string s] w fun e w'=>e=.returned (.bool b)/\Below w.heap.size w w':=by
 have HE:=zH he;clear he
 cases lo
 · cases h7
   · go_enter Tryz.func69,Tryz.ntmps69
     go_wp2_with fail
     refine(CL.out _ hv).mono ?_;rintro e w1 ⟨rfl,b_⟩;have lw1:=hv.below b_;have Bw1:=b_;clear b_ hv
     go_wp2_with fail
     refine(C7.out _ lw1).mono ?_;rintro e w2 ⟨rfl,b_⟩;have lw2:=lw1.below b_;have Bw2:=Bw1.trans (b_.mono Bw1.size);clear b_ lw1 Bw1
     go_wp2
     go_ret
     exact⟨aA HE.out,Bw2⟩
   · go_enter Tryz.func69,Tryz.ntmps69
     go_wp2_with fail
     refine(CL.out _ hv).mono ?_;rintro e w1 ⟨rfl,b_⟩;have lw1:=hv.below b_;have Bw1:=b_;clear b_ hv
     go_wp2_with fail
     refine(C7.out _ lw1).mono ?_;rintro e w2 ⟨rfl,b_⟩;have lw2:=lw1.below b_;have Bw2:=Bw1.trans (b_.mono Bw1.size);clear b_ lw1 Bw1
     go_wp2_with fail
     refine(CH.out _ lw2).mono ?_;rintro e w3 ⟨rfl,b_⟩;have lw3:=lw2.below b_;have Bw3:=Bw2.trans (b_.mono Bw2.size);clear b_ lw2 Bw2
     go_wp2
     go_ret
     exact⟨aA HE.out,Bw3⟩
 · go_enter Tryz.func69,Tryz.ntmps69
   go_wp2_with fail
   refine(CL.out _ hv).mono ?_;rintro e w1 ⟨rfl,b_⟩;have lw1:=hv.below b_;have Bw1:=b_;clear b_ hv
   go_wp2
   go_ret
   exact⟨aA HE.out,Bw1⟩
theorem xW (k:Int)(n1:(k==1)=false)(n3:(k==3)=false)(n4:(k==4)=false)(v:Value)(n s:ByteArray)(w:World):Calls Tryz.prog 69 #[v,.int .i64 k,.string n,.string s] w fun e w'=>e=.returned (.bool false)/\Below w.heap.size w w':=by
 go_enter Tryz.func69,Tryz.ntmps69
 go_wp2
 go_ret
 exact⟨rfl,zB _ _⟩
theorem uA (L:List bI)(v:Value)(hl:L.length<=1000000)(k:Int)(n s:ByteArray)(hs:s.size<=100000)(b:Bool)(hb:cC L k n.data.toList s.data.toList=b)(w:World)(hv:aK w v L):Calls Tryz.prog 69 #[v,.int .i64 k,.string n,.string s] w fun e w'=>e=.returned (.bool b)/\Below w.heap.size w w':=by
 have CL:=xU L v hl _ rfl;have CN:=oF L v hl n _ rfl;have CH:=aF8 L v hl s hs _ rfl
 by_cases e1:k=1
 · subst e1
   exact tX L v n s _ _ _ CL CN CH b (by rw[<- hb];unfold cC;rw[if_pos rfl];simp only[Bool.or_assoc]) w hv
 by_cases e3:k=3
 · subst e3
   exact tW L v n s _ _ _ CL (lC L v hl 7 _ rfl) CH b (by rw[<- hb];unfold cC;rw[if_neg (by decide),if_pos (by decide)]) w hv
 by_cases e4:k=4
 · subst e4
   exact tZ L v n s _ _ _ CL (lC L v hl 7 _ rfl) CH b (by rw[<- hb];unfold cC;rw[if_neg (by decide),if_pos (by decide)]) w hv
 rw[show b=false by rw[<- hb];unfold cC;rw[if_neg e1,if_neg (by rintro(h | h);exact e3 h;exact e4 h)]];exact xW k (beq_eq_false_iff_ne.2 e1) (beq_eq_false_iff_ne.2 e3) (beq_eq_false_iff_ne.2 e4) v n s w
theorem tY (L:List bI)(v:Value)(hl:L.length<=1000000)(k:Int)(n s:ByteArray)(hs:s.size<=100000)(b:Bool)(hb:cC L k n.data.toList s.data.toList=b):Hid (∀ W,aK W v L->Calls Tryz.prog 69 #[v,.int .i64 k,.string n,.string s] W fun e w'=>e=.returned (.bool b)/\Below W.heap.size W w') :=
 zH fun W hv=>uA L v hl k n s hs b hb W hv
theorem sS (L:List bI)(v:Value)(rk:Int)(rt:ByteArray)(o:Bool)(s2 h2:ByteArray)(p:Int)(pa2 q2:ByteArray)(mv:Bool)(rn:ByteArray)(pr:Bool)(o3:Bool)(s3 h3:ByteArray)(p3:Int)(pa3 q3:ByteArray)(CN:Hid (∀ W,aK W v L->Calls Tryz.prog 103 #[v,.string rn] W fun e w'=>e=.returned (.bool true)/\Below W.heap.size W w'))(b:Bool)(he:true=b)(w:World)(hw:dZ w)(hv:aK w v L):Calls Tryz.prog 67 #[v,bN rk rt o s2 h2 p pa2 q2 mv rn pr o3 s3 h3 p3 pa3 q3] w fun e w'=>e=.returned (.bool b)/\Below w.heap.size w w':=by
 have HE:=zH he;clear he;unfold uV bN at *
 go_enter Tryz.func67,Tryz.ntmps67
 go_wp2_with fail
 have xn:=RX.made w rk rt o s2 h2 p pa2 q2 mv rn pr o3 s3 h3 p3 pa3 q3;have gw1:=hw.made (.cells #[.int .i64 rk,.string rt,.bool o,.string s2,.string h2,.int .i64 p,.string pa2,.string q2,.bool mv,.string rn,.bool pr,.bool o3,.string s3,.string h3,.int .i64 p3,.string pa3,.string q3] 42);have lw1:=hv.made (.cells #[.int .i64 rk,.string rt,.bool o,.string s2,.string h2,.int .i64 p,.string pa2,.string q2,.bool mv,.string rn,.bool pr,.bool o3,.string s3,.string h3,.int .i64 p3,.string pa3,.string q3] 42);have Bw1:Below w.heap.size w (w.alloc (.cells #[.int .i64 rk,.string rt,.bool o,.string s2,.string h2,.int .i64 p,.string pa2,.string q2,.bool mv,.string rn,.bool pr,.bool o3,.string s3,.string h3,.int .i64 p3,.string pa3,.string q3] 42)):=((zB w.heap.size w).alloc (zL _) (.cells #[.int .i64 rk,.string rt,.bool o,.string s2,.string h2,.int .i64 p,.string pa2,.string q2,.bool mv,.string rn,.bool pr,.bool o3,.string s3,.string h3,.int .i64 p3,.string pa3,.string q3] 42));generalize hR:w.heap.size=Ra at xn Bw1 ⊢;have HR:=zH hR;clear hR;generalize w.alloc (.cells #[.int .i64 rk,.string rt,.bool o,.string s2,.string h2,.int .i64 p,.string pa2,.string q2,.bool mv,.string rn,.bool pr,.bool o3,.string s3,.string h3,.int .i64 p3,.string pa3,.string q3] 42)=w1 at xn gw1 lw1 Bw1 ⊢;have xRa_w1:=xn;clear xn hw hv;refine(CN.out _ lw1).mono ?_;rintro e w2 ⟨rfl,b_⟩;have gw2:=gw1.below b_;have lw2:=lw1.below b_;have Bw2:=Bw1.trans (b_.mono (zT xRa_w1.lt));have xRa_w2:=xRa_w1.below b_;clear b_ gw1 lw1 Bw1 xRa_w1;obtain⟨dRa0,dRa1,dRa2,dRa3,dRa4,dRa5,dRa6,dRa7,dRa8,dRa9,dRa10,dRa11,dRa12,dRa13,dRa14,dRa15,dRa16⟩:=xRa_w2.cs
 go_wp2
 go_ret
 exact⟨aA HE.out,by rw[HR.out];exact Bw2⟩
theorem aS3 (L:List bI)(v:Value)(rk:Int)(rt:ByteArray)(o:Bool)(s2 h2:ByteArray)(p:Int)(pa2 q2:ByteArray)(mv:Bool)(rn:ByteArray)(pr:Bool)(o3:Bool)(s3 h3:ByteArray)(p3:Int)(pa3 q3:ByteArray)(CN:Hid (∀ W,aK W v L->Calls Tryz.prog 103 #[v,.string rn] W fun e w'=>e=.returned (.bool false)/\Below W.heap.size W w'))(C6:Hid (∀ W,aK W v L->Calls Tryz.prog 104 #[v,.slice (some ⟨W.heap.size,0,none⟩) 1 1] (W.alloc (.cells #[.int .i64 6] 73)) fun e w'=>e=.returned (.bool true)/\Below W.heap.size W w'))(b:Bool)(he:(!pr)=b)(w:World)(hw:dZ w)(hv:aK w v L):Calls Tryz.prog 67 #[v,bN rk rt o s2 h2 p pa2 q2 mv rn pr o3 s3 h3 p3 pa3 q3] w fun e w'=>e=.returned (.bool b)/\Below w.heap.size w w':=by
 have HE:=zH he;clear he;unfold uV bN at *
 go_enter Tryz.func67,Tryz.ntmps67
 go_wp2_with fail
 have xn:=RX.made w rk rt o s2 h2 p pa2 q2 mv rn pr o3 s3 h3 p3 pa3 q3;have gw1:=hw.made (.cells #[.int .i64 rk,.string rt,.bool o,.string s2,.string h2,.int .i64 p,.string pa2,.string q2,.bool mv,.string rn,.bool pr,.bool o3,.string s3,.string h3,.int .i64 p3,.string pa3,.string q3] 42);have lw1:=hv.made (.cells #[.int .i64 rk,.string rt,.bool o,.string s2,.string h2,.int .i64 p,.string pa2,.string q2,.bool mv,.string rn,.bool pr,.bool o3,.string s3,.string h3,.int .i64 p3,.string pa3,.string q3] 42);have Bw1:Below w.heap.size w (w.alloc (.cells #[.int .i64 rk,.string rt,.bool o,.string s2,.string h2,.int .i64 p,.string pa2,.string q2,.bool mv,.string rn,.bool pr,.bool o3,.string s3,.string h3,.int .i64 p3,.string pa3,.string q3] 42)):=((zB w.heap.size w).alloc (zL _) (.cells #[.int .i64 rk,.string rt,.bool o,.string s2,.string h2,.int .i64 p,.string pa2,.string q2,.bool mv,.string rn,.bool pr,.bool o3,.string s3,.string h3,.int .i64 p3,.string pa3,.string q3] 42));generalize hR:w.heap.size=Ra at xn Bw1 ⊢;have HR:=zH hR;clear hR;generalize w.alloc (.cells #[.int .i64 rk,.string rt,.bool o,.string s2,.string h2,.int .i64 p,.string pa2,.string q2,.bool mv,.string rn,.bool pr,.bool o3,.string s3,.string h3,.int .i64 p3,.string pa3,.string q3] 42)=w1 at xn gw1 lw1 Bw1 ⊢;have xRa_w1:=xn;clear xn hw hv;refine(CN.out _ lw1).mono ?_;rintro e w2 ⟨rfl,b_⟩;have gw2:=gw1.below b_;have lw2:=lw1.below b_;have Bw2:=Bw1.trans (b_.mono (zT xRa_w1.lt));have xRa_w2:=xRa_w1.below b_;clear b_ gw1 lw1 Bw1 xRa_w1;obtain⟨dRa0,dRa1,dRa2,dRa3,dRa4,dRa5,dRa6,dRa7,dRa8,dRa9,dRa10,dRa11,dRa12,dRa13,dRa14,dRa15,dRa16⟩:=xRa_w2.cs
 go_wp2_with fail
 clear dRa0 dRa1 dRa2 dRa3 dRa4 dRa5 dRa6 dRa7 dRa8 dRa9 dRa10 dRa11 dRa12 dRa13 dRa14 dRa15 dRa16;refine(C6.out _ lw2).mono ?_;rintro e w3 ⟨rfl,b_⟩;have gw3:=gw2.below b_;have lw3:=lw2.below b_;have Bw3:=Bw2.trans (b_.mono (zT xRa_w2.lt));have xRa_w3:=xRa_w2.below b_;clear b_ gw2 lw2 Bw2 xRa_w2;obtain⟨dRa0,dRa1,dRa2,dRa3,dRa4,dRa5,dRa6,dRa7,dRa8,dRa9,dRa10,dRa11,dRa12,dRa13,dRa14,dRa15,dRa16⟩:=xRa_w3.cs
 go_wp2
 go_ret
 exact⟨aA HE.out,by rw[HR.out];exact Bw3⟩
theorem aS2 (L:List bI)(v:Value)(rk:Int)(rt:ByteArray)(o:Bool)(s2 h2:ByteArray)(p:Int)(pa2 q2:ByteArray)(mv:Bool)(rn:ByteArray)(pr:Bool)(o3:Bool)(s3 h3:ByteArray)(p3:Int)(pa3 q3:ByteArray)(CN:Hid (∀ W,aK W v L->Calls Tryz.prog 103 #[v,.string rn] W fun e w'=>e=.returned (.bool false)/\Below W.heap.size W w'))(C6:Hid (∀ W,aK W v L->Calls Tryz.prog 104 #[v,.slice (some ⟨W.heap.size,0,none⟩) 1 1] (W.alloc (.cells #[.int .i64 6] 73)) fun e w'=>e=.returned (.bool false)/\Below W.heap.size W w'))(ur:Bool)(CU:Hid (∀ W,dZ W->aK W v L->Calls Tryz.prog 105 #[v,uV o s2 h2 p pa2 q2,uV o3 s3 h3 p3 pa3 q3,.bool mv] W fun e w'=>e=.returned (.bool ur)/\Below W.heap.size W w'))(b:Bool)(he:ur=b)(w:World)(hw:dZ w)(hv:aK w v L):Calls Tryz.prog 67 #[v,bN rk rt o s2 h2 p pa2 q2 mv rn pr o3 s3 h3 p3 pa3 q3] w fun e w'=>e=.returned (.bool b)/\Below w.heap.size w w':=by
 have HE:=zH he;clear he;unfold uV bN at *
 go_enter Tryz.func67,Tryz.ntmps67
 go_wp2_with fail
 have xn:=RX.made w rk rt o s2 h2 p pa2 q2 mv rn pr o3 s3 h3 p3 pa3 q3;have gw1:=hw.made (.cells #[.int .i64 rk,.string rt,.bool o,.string s2,.string h2,.int .i64 p,.string pa2,.string q2,.bool mv,.string rn,.bool pr,.bool o3,.string s3,.string h3,.int .i64 p3,.string pa3,.string q3] 42);have lw1:=hv.made (.cells #[.int .i64 rk,.string rt,.bool o,.string s2,.string h2,.int .i64 p,.string pa2,.string q2,.bool mv,.string rn,.bool pr,.bool o3,.string s3,.string h3,.int .i64 p3,.string pa3,.string q3] 42);have Bw1:Below w.heap.size w (w.alloc (.cells #[.int .i64 rk,.string rt,.bool o,.string s2,.string h2,.int .i64 p,.string pa2,.string q2,.bool mv,.string rn,.bool pr,.bool o3,.string s3,.string h3,.int .i64 p3,.string pa3,.string q3] 42)):=((zB w.heap.size w).alloc (zL _) (.cells #[.int .i64 rk,.string rt,.bool o,.string s2,.string h2,.int .i64 p,.string pa2,.string q2,.bool mv,.string rn,.bool pr,.bool o3,.string s3,.string h3,.int .i64 p3,.string pa3,.string q3] 42));generalize hR:w.heap.size=Ra at xn Bw1 ⊢;have HR:=zH hR;clear hR;generalize w.alloc (.cells #[.int .i64 rk,.string rt,.bool o,.string s2,.string h2,.int .i64 p,.string pa2,.string q2,.bool mv,.string rn,.bool pr,.bool o3,.string s3,.string h3,.int .i64 p3,.string pa3,.string q3] 42)=w1 at xn gw1 lw1 Bw1 ⊢;have xRa_w1:=xn;clear xn hw hv;refine(CN.out _ lw1).mono ?_;rintro e w2 ⟨rfl,b_⟩;have gw2:=gw1.below b_;have lw2:=lw1.below b_;have Bw2:=Bw1.trans (b_.mono (zT xRa_w1.lt));have xRa_w2:=xRa_w1.below b_;clear b_ gw1 lw1 Bw1 xRa_w1;obtain⟨dRa0,dRa1,dRa2,dRa3,dRa4,dRa5,dRa6,dRa7,dRa8,dRa9,dRa10,dRa11,dRa12,dRa13,dRa14,dRa15,dRa16⟩:=xRa_w2.cs
 go_wp2_with fail
 clear dRa0 dRa1 dRa2 dRa3 dRa4 dRa5 dRa6 dRa7 dRa8 dRa9 dRa10 dRa11 dRa12 dRa13 dRa14 dRa15 dRa16;refine(C6.out _ lw2).mono ?_;rintro e w3 ⟨rfl,b_⟩;have gw3:=gw2.below b_;have lw3:=lw2.below b_;have Bw3:=Bw2.trans (b_.mono (zT xRa_w2.lt));have xRa_w3:=xRa_w2.below b_;clear b_ gw2 lw2 Bw2 xRa_w2;obtain⟨dRa0,dRa1,dRa2,dRa3,dRa4,dRa5,dRa6,dRa7,dRa8,dRa9,dRa10,dRa11,dRa12,dRa13,dRa14,dRa15,dRa16⟩:=xRa_w3.cs
 go_wp2_with fail
 clear dRa0 dRa1 dRa2 dRa3 dRa4 dRa5 dRa6 dRa7 dRa8 dRa9 dRa10 dRa11 dRa12 dRa13 dRa14 dRa15 dRa16;refine(CU.out _ gw3 lw3).mono ?_;rintro e w4 ⟨rfl,b_⟩;have gw4:=gw3.below b_;have lw4:=lw3.below b_;have Bw4:=Bw3.trans (b_.mono (zT xRa_w3.lt));have xRa_w4:=xRa_w3.below b_;clear b_ gw3 lw3 Bw3 xRa_w3;obtain⟨dRa0,dRa1,dRa2,dRa3,dRa4,dRa5,dRa6,dRa7,dRa8,dRa9,dRa10,dRa11,dRa12,dRa13,dRa14,dRa15,dRa16⟩:=xRa_w4.cs
 go_wp2
 go_ret
 exact⟨aA HE.out,by rw[HR.out];exact Bw4⟩
theorem xY (L:List bI)(v:Value)(hl:L.length<=1000000)(hL:∀ a∈L,a.h.length<=100000/\a.pa.length<=100000)(rk:Int)(rt:ByteArray)(o:Bool)(s2 h2:ByteArray)(p:Int)(pa2 q2:ByteArray)(mv:Bool)(rn:ByteArray)(pr:Bool)(o3:Bool)(s3 h3:ByteArray)(p3:Int)(pa3 q3:ByteArray)(su1:s2.size<=100000)(su2:h2.size<=100000)(su3:pa2.size<=100000)(su4:q2.size<=100000)(sv1:s3.size<=100000)(sv2:h3.size<=100000)(sv3:pa3.size<=100000)(sv4:q3.size<=100000)(b:Bool)(hb:lE L (uM o s2 h2 p pa2 q2) (uM o3 s3 h3 p3 pa3 q3) mv rn.data.toList pr=b)(w:World)(hw:dZ w)(hv:aK w v L):Calls Tryz.prog 67 #[v,bN rk rt o s2 h2 p pa2 q2 mv rn pr o3 s3 h3 p3 pa3 q3] w fun e w'=>e=.returned (.bool b)/\Below w.heap.size w w':=by
 cases h1:iW L rn.data.toList<;>cases h6:dY L 6
 all_goals
  have CN:=oF L v hl rn _ h1;have C6:=lC L v hl 6 _ h6;unfold lE at hb;rw[h1,h6]at hb
 · exact aS2 L v rk rt o s2 h2 p pa2 q2 mv rn pr o3 s3 h3 p3 pa3 q3 CN C6 _ (aS0 o s2 h2 p pa2 q2 o3 s3 h3 p3 pa3 q3 mv su1 su2 su3 su4 sv1 sv2 sv3 sv4 L v hl hL _ rfl) b hb w hw hv
 · exact aS3 L v rk rt o s2 h2 p pa2 q2 mv rn pr o3 s3 h3 p3 pa3 q3 CN C6 b hb w hw hv
 · exact sS L v rk rt o s2 h2 p pa2 q2 mv rn pr o3 s3 h3 p3 pa3 q3 CN b hb w hw hv
 · exact sS L v rk rt o s2 h2 p pa2 q2 mv rn pr o3 s3 h3 p3 pa3 q3 CN b hb w hw hv
theorem xX (L:List bI)(v:Value)(hl:L.length<=1000000)(hL:∀ a∈L,a.h.length<=100000/\a.pa.length<=100000)(rk:Int)(rt:ByteArray)(o:Bool)(s2 h2:ByteArray)(p:Int)(pa2 q2:ByteArray)(mv:Bool)(rn:ByteArray)(pr:Bool)(o3:Bool)(s3 h3:ByteArray)(p3:Int)(pa3 q3:ByteArray)(su1:s2.size<=100000)(su2:h2.size<=100000)(su3:pa2.size<=100000)(su4:q2.size<=100000)(sv1:s3.size<=100000)(sv2:h3.size<=100000)(sv3:pa3.size<=100000)(sv4:q3.size<=100000)(b:Bool)(hb:lE L (uM o s2 h2 p pa2 q2) (uM o3 s3 h3 p3 pa3 q3) mv rn.data.toList pr=b):Hid (∀ W,dZ W->aK W v L->Calls Tryz.prog 67 #[v,bN rk rt o s2 h2 p pa2 q2 mv rn pr o3 s3 h3 p3 pa3 q3] W fun e w'=>e=.returned (.bool b)/\Below W.heap.size W w') :=
 zH fun W hw hv=>xY L v hl hL rk rt o s2 h2 p pa2 q2 mv rn pr o3 s3 h3 p3 pa3 q3 su1 su2 su3 su4 sv1 sv2 sv3 sv4 b hb W hw hv
theorem xZ (L:List bI)(v:Value)(r:Bool)(C1:Hid (∀ W,aK W v L->Calls Tryz.prog 104 #[v,.slice (some ⟨W.heap.size,0,none⟩) 1 1] (W.alloc (.cells #[.int .i64 4] 73)) fun e w'=>e=.returned (.bool r)/\Below W.heap.size W w'))(b:Bool)(he:r=b)(w:World)(hv:aK w v L):Calls Tryz.prog 68 #[v,.int .i64 5] w fun e w'=>e=.returned (.bool b)/\Below w.heap.size w w':=by
 have HE:=zH he;clear he
 go_enter Tryz.func68,Tryz.ntmps68
 go_wp2_with fail
 refine(C1.out _ hv).mono ?_;rintro e w1 ⟨rfl,b_⟩;have lw1:=hv.below b_;have Bw1:=b_;clear b_ hv
 go_wp2
 go_ret
 exact⟨aA HE.out,Bw1⟩
theorem aG0 (L:List bI)(v:Value)(r:Bool)(C2:Hid (∀ W,aK W v L->Calls Tryz.prog 104 #[v,.slice (some ⟨W.heap.size,0,none⟩) 2 2] (W.alloc (.cells #[.int .i64 4,.int .i64 5] 73)) fun e w'=>e=.returned (.bool r)/\Below W.heap.size W w'))(b:Bool)(he:r=b)(w:World)(hv:aK w v L):Calls Tryz.prog 68 #[v,.int .i64 6] w fun e w'=>e=.returned (.bool b)/\Below w.heap.size w w':=by
 have HE:=zH he;clear he
 go_enter Tryz.func68,Tryz.ntmps68
 go_wp2_with fail
 refine(C2.out _ hv).mono ?_;rintro e w1 ⟨rfl,b_⟩;have lw1:=hv.below b_;have Bw1:=b_;clear b_ hv
 go_wp2
 go_ret
 exact⟨aA HE.out,Bw1⟩
theorem aS4 (k:Int)(n5:(k==5)=false)(n6:(k==6)=false)(v:Value)(w:World):Calls Tryz.prog 68 #[v,.int .i64 k] w fun e w'=>e=.returned (.bool false)/\Below w.heap.size w w':=by
 go_enter Tryz.func68,Tryz.ntmps68
 go_wp2
 go_ret
 exact⟨rfl,zB _ _⟩
theorem aG1 (L:List bI)(v:Value)(hl:L.length<=1000000)(k:Int)(b:Bool)(hb:jH L k=b)(w:World)(hv:aK w v L):Calls Tryz.prog 68 #[v,.int .i64 k] w fun e w'=>e=.returned (.bool b)/\Below w.heap.size w w':=by
 by_cases e5:k=5
 · subst e5
   exact xZ L v _ (lC L v hl 4 _ rfl) b (by rw[<- hb];unfold jH;rw[if_pos rfl]) w hv
 by_cases e6:k=6
 · subst e6
   exact aG0 L v _ (has2_hid L v hl 4 5 _ rfl) b (by rw[<- hb];unfold jH;rw[if_neg (by decide),if_pos rfl]) w hv
 rw[show b=false by rw[<- hb];unfold jH;rw[if_neg e5,if_neg e6]];exact aS4 k (beq_eq_false_iff_ne.2 e5) (beq_eq_false_iff_ne.2 e6) v w
theorem qK (L:List bI)(v:Value)(hl:L.length<=1000000)(k:Int)(b:Bool)(hb:jH L k=b):Hid (∀ W,aK W v L->Calls Tryz.prog 68 #[v,.int .i64 k] W fun e w'=>e=.returned (.bool b)/\Below W.heap.size W w') :=
 zH fun W hv=>aG1 L v hl k b hb W hv
end Go.Proofs.YthnogdodlhkldaaGreatDoor
