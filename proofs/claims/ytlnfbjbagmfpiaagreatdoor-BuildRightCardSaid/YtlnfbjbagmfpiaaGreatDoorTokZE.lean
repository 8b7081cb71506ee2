/- The cursor within the program's reader: what stands at it, what it takes and leaves out. The cursor goes over bytes: what it leaves out, takes up to a sign, takes through a sign. The program's reader: what it holds, has told and failed; what stays so. The program's reader decodes a part of the text, its Fails at their places. -/
import Derived.Test.YtlnfbjbagmfpiaaGreatDoorTokZA
set_option maxRecDepth 100000
set_option maxHeartbeats 4000000
namespace Go.Proofs.YtlnfbjbagmfpiaaGreatDoor
open Go.RowKit
theorem region_class {P:Program} {id:Nat} {Q:Exit->Act->World->Prop} {a:Act} {w:World} {l:List Oper} (C:World->Prop) (hm:P.follows .mixedOrders=true) (hB:Region.lexB .any l.toArray=true) (hC:C w.drew)
 (h:wpQuiet P l.toArray C (fun a'=>∀ w',C w'->Q .normal a' w') l a):(Code.region id l.toArray true).wp P Q a w :=
 wp_region_quiet (C:=C) hm hB hC (by simpa using h)
def RX (w:World)(R:Nat)(s:ByteArray)(n:Nat)(p bv tv fv:Value):Prop:=w.heap[R]? = some (.cells #[.string s,.int .i64 (n:Int),p,bv,tv,fv] 147 (0,0))
theorem RX.below {w':World}{w:World}{R:Nat}{s:ByteArray}{n:Nat}{p bv tv fv:Value}(a:RX w R s n p bv tv fv)(hb:Below w.heap.size w w'):RX w' R s n p bv tv fv:=by
 unfold RX at *;rw[hb.block R (lt_of_block a)];exact a
theorem RX.kp {w':World}{P:Nat->TypeId->Prop}{w:World}{R:Nat}{s:ByteArray}{n:Nat}{p bv tv fv:Value}(a:RX w R s n p bv tv fv)(hb:Kp P w w')(hn:¬ P R 147):RX w' R s n p bv tv fv:=hb.cells a hn
theorem RX.free {w:World}{R:Nat}{s:ByteArray}{n:Nat}{p bv tv fv:Value}(a:RX w R s n p bv tv fv)(j:Nat):w.frozen? ⟨R,j,none⟩=false:=open_of a j
theorem RX.c0 {w:World}{R:Nat}{s:ByteArray}{n:Nat}{p bv tv fv:Value}(a:RX w R s n p bv tv fv):w.cell? ⟨R,0,none⟩=some (.string s):=by rw[cell_of a];rfl
theorem RX.c1 {w:World}{R:Nat}{s:ByteArray}{n:Nat}{p bv tv fv:Value}(a:RX w R s n p bv tv fv):w.cell? ⟨R,1,none⟩=some (.int .i64 (n:Int)):=by rw[cell_of a];rfl
theorem RX.c4 {w:World}{R:Nat}{s:ByteArray}{n:Nat}{p bv tv fv:Value}(a:RX w R s n p bv tv fv):w.cell? ⟨R,4,none⟩=some (tv):=by rw[cell_of a];rfl
theorem RX.c5 {w:World}{R:Nat}{s:ByteArray}{n:Nat}{p bv tv fv:Value}(a:RX w R s n p bv tv fv):w.cell? ⟨R,5,none⟩=some (fv):=by rw[cell_of a];rfl
theorem RX.set1 {w:World}{R:Nat}{s:ByteArray}{n:Nat}{p bv tv fv:Value}(a:RX w R s n p bv tv fv)(k:Nat):RX (w.setCell ⟨R,1,none⟩ (.int .i64 (k:Int))) R s k p bv tv fv:=by unfold RX at *;rw[heap_setCell_same _ _ _ _ _ _ _ a];rfl
theorem RX.set4 {w:World}{R:Nat}{s:ByteArray}{n:Nat}{p bv tv fv:Value}(a:RX w R s n p bv tv fv)(u:Value):RX (w.setCell ⟨R,4,none⟩ u) R s n p bv u fv:=by unfold RX at *;rw[heap_setCell_same _ _ _ _ _ _ _ a];rfl
theorem RX.set5 {w:World}{R:Nat}{s:ByteArray}{n:Nat}{p bv tv fv:Value}(a:RX w R s n p bv tv fv)(u:Value):RX (w.setCell ⟨R,5,none⟩ u) R s n p bv tv u:=by unfold RX at *;rw[heap_setCell_same _ _ _ _ _ _ _ a];rfl
def onR (R:Nat)(k:Nat)(_:TypeId):Prop:=k=R
theorem RX.kset {w:World}{R:Nat}{s:ByteArray}{n:Nat}{p bv tv fv:Value}(a:RX w R s n p bv tv fv)(j:Nat)(u:Value):Kp (onR R) w (w.setCell ⟨R,j,none⟩ u):=Kp.of_set a u rfl
theorem RX.kset' {w0:World}{w:World}{R:Nat}{s:ByteArray}{n:Nat}{p bv tv fv:Value}(a:RX w R s n p bv tv fv)(k:Kp (onR R) w0 w)(j:Nat)(u:Value):Kp (onR R) w0 (w.setCell ⟨R,j,none⟩ u):=k.trans (a.kset j u)
theorem slice_from_ty {t:TypeId}(ht:Tryz.prog.underlying t=some .string)(L U:ByteArray)(k:Nat)(hk:k<=L.size)(h:U.data.toList=L.data.toList.drop k):∀ W,(Instr.slice t (.string L) (some (.int .i64 (k:Int))) none none).run Tryz.prog W=.ok (.string U) W:=fun W=>by
 have e:L.extract k L.size=U:=cut_run L U k L.size hk (Nat.le_refl _) (by rw[h,List.take_of_length_le];rw[List.length_drop,lsize];exact Nat.le_refl _);have hz:¬ L.size<k:=by omega
 simp[Instr.slice,go_sem,run_underlying ht,e,hz]
theorem nat_eq (n m:Nat)(b:Bool)(h:decide (n=m)=b):((n:Int)==(m:Int))=b:=by
 rw[<- h,Bool.eq_iff_iff];simp;omega
theorem atEnd_hid (R:Nat)(s:ByteArray)(n:Nat)(b:Bool)(h:decide (n=s.size)=b):Hid (∀ W p bv tv fv,RX W R s n p bv tv fv->Calls Tryz.prog 102 #[.pointer (some ⟨R,0,none⟩)] W fun e w'=>e=.returned (.bool b)/\Below W.heap.size W w'):=Lib.hid fun w p bv tv fv x=>by
 have g:=nat_eq _ _ _ h;have d0:=x.c0;have d1:=x.c1;clear x h
 go_enter Tryz.func102,Tryz.ntmps102
 go_wp2
 go_quiet (fail)
 go_wp2
 go_ret
 exact⟨rfl,belowN (Below.refl _ _) _⟩
theorem left_hid (R:Nat)(s U:ByteArray)(n:Nat)(h:U.data.toList=s.data.toList.drop n)(hn:n<=s.size):Hid (∀ W p bv tv fv,RX W R s n p bv tv fv->Calls Tryz.prog 166 #[.pointer (some ⟨R,0,none⟩)] W fun e w'=>e=.returned (.string U)/\Below W.heap.size W w'):=Lib.hid fun w p bv tv fv x=>by
 have g:=slice_from_ty Tryz.underlying143 s U n hn h;have d0:=x.c0;have d1:=x.c1;clear x h
 go_enter Tryz.func166,Tryz.ntmps166
 go_wp2
 go_quiet (fail)
 go_wp2
 go_ret
 exact⟨rfl,belowN (Below.refl _ _) _⟩
theorem begins_hid (R:Nat)(s z:ByteArray)(n:Nat)(b:Bool)(h:beginsM z.data.toList (s.data.toList.drop n)=b)(hn:n<=s.size)(hz:low z.data.toList=z.data.toList)(hs:s.size<=1000000000)(hzs:z.size<=1000000000):Hid (∀ W p bv tv fv,RX W R s n p bv tv fv->Calls Tryz.prog 131 #[.pointer (some ⟨R,0,none⟩),.string z] W fun e w'=>e=.returned (.bool b)/\Below W.heap.size W w'):=Lib.hid fun w p bv tv fv x=>by
 have CA:=isAt_hid s z n b h hn hz hs hzs;clear h hz
 go_enter Tryz.func131,Tryz.ntmps131
 go_wp2
 obtain⟨C,hC⟩:∃ C:World->Prop,∀ w',C w'↔(RX w' R s n p bv tv fv/\Below w.heap.size w w'):=⟨_,fun _=>Iff.rfl⟩;have HC:=Lib.hid hC;clear hC;have hC0:C w.drew:=(HC.out _).2 (⟨x,(Below.refl _ _).drew⟩)
 have HK:Hid (∀ w',C w'->∀ w7,Below w'.heap.size w' w7->C w7):=Lib.hid fun w' hc w7 b=>by
  obtain⟨x7,K7⟩:=(HC.out w').1 hc;exact(HC.out _).2 ⟨x7.below b,K7.trans (b.mono K7.size)⟩
 refine region_class C (by kernel_rfl) (by kernel_rfl) hC0 ?_;clear hC0
 repeat
  first
   | go_big_quiet_skip
   | (go_big_quiet_want;go_big_quiet_op;go_big_quiet_on)
   | (refine BigFrame.wpQuiet_want rfl (fun K hK => ?_)
      apply Exists.intro
      refine⟨fun w' hc => ?_,hK _ ?_⟩
      · obtain⟨x7,K7⟩:=(HC.out w').1 hc
        have d0:=x7.c0;have d1:=x7.c1;unfold Oper.quietAt
        go_simp
        first
         | done
         | rfl
         | ((with_reducible refine(CA.out _).mono ?_);rintro e w7 ⟨rfl,b7⟩;exact⟨rfl,HK.out w' hc w7 b7⟩)
      clear hK K
      simp only[Act.put,List.setIfInBounds_toArray,List.set_cons_zero,List.set_cons_succ])
 refine wpQuiet_nil ?_;intro w1 hc;obtain⟨xw1,Kw1⟩:=(HC.out w1).1 hc;clear hc HC HK
 go_wp2
 go_ret
 exact⟨rfl,Kw1⟩
theorem beginsTag_hid (R:Nat)(s z:ByteArray)(n:Nat)(b d:Bool)(h:beginsM z.data.toList (s.data.toList.drop n)=b)(h2:(s.data.toList[n+z.size]?).any letB=d)(hn:n<=s.size)(hz:low z.data.toList=z.data.toList)(hs:s.size<=1000000000)(hzs:z.size<=1000000000):Hid (∀ W p bv tv fv,RX W R s n p bv tv fv->Calls Tryz.prog 129 #[.pointer (some ⟨R,0,none⟩),.string z] W fun e w'=>e=.returned (.bool (b&&d))/\Below W.heap.size W w'):=Lib.hid fun w p bv tv fv x=>by
 have CA:=begins_hid R s z n b h hn hz hs hzs;have CL:=isLetter_hid s (n+z.size) d h2;rw[show(((n+z.size:Nat)):Int)=IntKind.i64.wrap ((n:Int)+(z.size:Int)) by simp only[IntKind.wrap,IntKind.bits,IntKind.signed];simp;omega]at CL;clear h h2 hz hn hs hzs
 cases b
 · go_enter Tryz.func129,Tryz.ntmps129
   go_wp2
   obtain⟨C,hC⟩:∃ C:World->Prop,∀ w',C w'↔(RX w' R s n p bv tv fv/\Below w.heap.size w w'):=⟨_,fun _=>Iff.rfl⟩;have HC:=Lib.hid hC;clear hC;have hC0:C w.drew:=(HC.out _).2 (⟨x,(Below.refl _ _).drew⟩)
   have HK:Hid (∀ w',C w'->∀ w7,Below w'.heap.size w' w7->C w7):=Lib.hid fun w' hc w7 b=>by
    obtain⟨x7,K7⟩:=(HC.out w').1 hc;exact(HC.out _).2 ⟨x7.below b,K7.trans (b.mono K7.size)⟩
   refine region_class C (by kernel_rfl) (by kernel_rfl) hC0 ?_;clear hC0
   repeat
    first
     | go_big_quiet_skip
     | (go_big_quiet_want;go_big_quiet_op;go_big_quiet_on)
     | (refine BigFrame.wpQuiet_want rfl (fun K hK => ?_)
        apply Exists.intro
        refine⟨fun w' hc => ?_,hK _ ?_⟩
        · obtain⟨x7,K7⟩:=(HC.out w').1 hc
          have d0:=x7.c0;have d1:=x7.c1;unfold Oper.quietAt
          go_simp
          first
           | done
           | rfl
           | ((with_reducible refine(CA.out _ _ _ _ _ x7).mono ?_);rintro e w7 ⟨rfl,b7⟩;exact⟨rfl,HK.out w' hc w7 b7⟩)
        clear hK K
        simp only[Act.put,List.setIfInBounds_toArray,List.set_cons_zero,List.set_cons_succ])
   refine wpQuiet_nil ?_;intro w1 hc;obtain⟨xw1,Kw1⟩:=(HC.out w1).1 hc;clear hc HC HK
   go_wp2
   go_ret
   exact⟨ret_bool (by simp),Kw1⟩
 · go_enter Tryz.func129,Tryz.ntmps129
   go_wp2
   obtain⟨C,hC⟩:∃ C:World->Prop,∀ w',C w'↔(RX w' R s n p bv tv fv/\Below w.heap.size w w'):=⟨_,fun _=>Iff.rfl⟩;have HC:=Lib.hid hC;clear hC;have hC0:C w.drew:=(HC.out _).2 (⟨x,(Below.refl _ _).drew⟩)
   have HK:Hid (∀ w',C w'->∀ w7,Below w'.heap.size w' w7->C w7):=Lib.hid fun w' hc w7 b=>by
    obtain⟨x7,K7⟩:=(HC.out w').1 hc;exact(HC.out _).2 ⟨x7.below b,K7.trans (b.mono K7.size)⟩
   refine region_class C (by kernel_rfl) (by kernel_rfl) hC0 ?_;clear hC0
   repeat
    first
     | go_big_quiet_skip
     | (go_big_quiet_want;go_big_quiet_op;go_big_quiet_on)
     | (refine BigFrame.wpQuiet_want rfl (fun K hK => ?_)
        apply Exists.intro
        refine⟨fun w' hc => ?_,hK _ ?_⟩
        · obtain⟨x7,K7⟩:=(HC.out w').1 hc
          have d0:=x7.c0;have d1:=x7.c1;unfold Oper.quietAt
          go_simp
          first
           | done
           | rfl
           | ((with_reducible refine(CA.out _ _ _ _ _ x7).mono ?_);rintro e w7 ⟨rfl,b7⟩;exact⟨rfl,HK.out w' hc w7 b7⟩)
           | ((with_reducible refine(CL.out _).mono ?_);rintro e w7 ⟨rfl,b7⟩;exact⟨rfl,HK.out w' hc w7 (by rw[<- b7];exact Below.refl _ _)⟩)
        clear hK K
        simp only[Act.put,List.setIfInBounds_toArray,List.set_cons_zero,List.set_cons_succ])
   refine wpQuiet_nil ?_;intro w1 hc;obtain⟨xw1,Kw1⟩:=(HC.out w1).1 hc;clear hc HC HK
   go_wp2
   go_ret
   exact⟨ret_bool (by simp),Kw1⟩
theorem skip_hid (R:Nat)(s z:ByteArray)(n:Nat)(b:Bool)(h:beginsM z.data.toList (s.data.toList.drop n)=b)(hn:n<=s.size)(hz:low z.data.toList=z.data.toList)(hs:s.size<=1000000000)(hzs:z.size<=1000000000):Hid (∀ W p bv tv fv,RX W R s n p bv tv fv->Calls Tryz.prog 152 #[.pointer (some ⟨R,0,none⟩),.string z] W fun e w'=>e=.returned (.bool b)/\RX w' R s (if b then n+z.size else n) p bv tv fv/\Kp (onR R) W w'):=Lib.hid fun w p bv tv fv x=>by
 have CA:=begins_hid R s z n b h hn hz hs hzs;have z0:(0:Int)<=(n:Int):=by omega
 have z1:(0:Int)<=(z.size:Int):=by omega
 have z2:(n:Int)<=1000000000:=by omega
 have z3:(z.size:Int)<=1000000000:=by omega
 clear h hz
 cases b
 · go_enter Tryz.func152,Tryz.ntmps152
   go_wp2_with fail
   (with_reducible refine(CA.out _ _ _ _ _ x).mono ?_)
   rintro e w1 ⟨rfl,b1⟩
   go_wp2
   go_ret
   exact⟨rfl,x.below b1,Kp.of_below b1⟩
 · go_enter Tryz.func152,Tryz.ntmps152
   go_wp2_with fail
   (with_reducible refine(CA.out _ _ _ _ _ x).mono ?_)
   rintro e w1 ⟨rfl,b1⟩;have x1:=x.below b1;have d1:=x1.c1;have f1:=x1.free 1;have HX:=Lib.hid (x1.set1 (n+z.size));have HK:=Lib.hid (x1.kset' (Kp.of_below b1) 1 (.int .i64 ((n+z.size:Nat):Int)));rw[show(((n+z.size:Nat)):Int)=(n:Int)+(z.size:Int) by push_cast;rfl]at HX HK;clear x x1 b1
   go_wp2
   go_ret
   exact⟨rfl,HX.out,HK.out⟩
theorem take_hid (R:Nat)(s U:ByteArray)(n k:Nat)(h:U.data.toList=(s.data.toList.drop n).take k)(hn:n+k<=s.size)(hs:s.size<=1000000000):Hid (∀ W p bv tv fv,RX W R s n p bv tv fv->Calls Tryz.prog 162 #[.pointer (some ⟨R,0,none⟩),.int .i64 (k:Int)] W fun e w'=>e=.returned (.string U)/\RX w' R s (n+k) p bv tv fv/\Kp (onR R) W w'):=Lib.hid fun w p bv tv fv x=>by
 have g:=slice_ty Tryz.underlying143 s U n (n+k) (by omega) hn (by rw[h];congr 1;omega);have z0:(0:Int)<=(n:Int):=by omega
 have z1:(0:Int)<=(k:Int):=by omega
 have z2:(n:Int)<=1000000000:=by omega
 have z3:(k:Int)<=1000000000:=by omega
 have d1:=x.c1;have f1:=x.free 1;have x2:=x.set1 (n+k);have HK:=Lib.hid (x.kset 1 (.int .i64 ((n+k:Nat):Int)));have e1:(((n+k:Nat)):Int)=(n:Int)+(k:Int):=by push_cast;rfl
 rw[e1]at g x2 HK;have HX:=Lib.hid x2;have d0':=x2.c0;have d1':=x2.c1;rw[e1]at d1';have e2:(n:Int)+(k:Int) - (k:Int)=(n:Int):=by omega
 clear x x2 h e1
 go_enter Tryz.func162,Tryz.ntmps162
 go_wp2
 go_quiet (fail)
 go_wp2
 go_ret
 exact⟨rfl,HX.out,HK.out.trans (Kp.of_below (belowN (Below.refl _ _) _))⟩
end Go.Proofs.YtlnfbjbagmfpiaaGreatDoor
namespace Go.Proofs.YtlnfbjbagmfpiaaGreatDoor
open Go.RowKit
def posOf (R:Nat)(w:World):Nat:=match w.cell? ⟨R,1,none⟩with | some v=>(intOf v).toNat | none=>0
theorem RX.pos {w:World}{R:Nat}{s:ByteArray}{n:Nat}{p bv tv fv:Value}(a:RX w R s n p bv tv fv):posOf R w=n:=by
 unfold posOf;rw[a.c1];simp[intOf]
def gapL (L:List UInt8)(c:UInt8):Bool := !(oneOf L c)
theorem find_step {P:UInt8->Bool}{l:List UInt8}{k:Nat}{c:UInt8}(hc:l[k]? = some c):(l.drop k).findIdx P=if P c then 0 else (l.drop (k+1)).findIdx P+1:=by
 obtain⟨hk,hc'⟩:=List.getElem?_eq_some_iff.1 hc;rw[List.drop_eq_getElem_cons hk,hc',List.findIdx_cons]
 cases P c<;>rfl
theorem find_end {P:UInt8->Bool}{l:List UInt8}{k:Nat}(hc:l[k]? = none):(l.drop k).findIdx P=0:=by
 rw[List.drop_of_length_le (List.getElem?_eq_none_iff.1 hc)];rfl
theorem find_le (P:UInt8->Bool)(s:ByteArray)(n:Nat)(hn:n<=s.size):n+(s.data.toList.drop n).findIdx P<=s.size:=by
 have:=idx_le P (s.data.toList.drop n);rw[List.length_drop,lsize]at this;omega
theorem skipAll_hid (R:Nat)(s L U:ByteArray)(n:Nat)(h:U.data.toList=(s.data.toList.drop n).take ((s.data.toList.drop n).findIdx (gapL L.data.toList)))(hn:n<=s.size)(hs:s.size<=1000000000):Hid (∀ W p bv tv fv,RX W R s n p bv tv fv->Calls Tryz.prog 155 #[.pointer (some ⟨R,0,none⟩),.string L] W fun e w'=>e=.returned (.string U)/\RX w' R s (n+(s.data.toList.drop n).findIdx (gapL L.data.toList)) p bv tv fv/\Kp (onR R) W w'):=Lib.hid fun w p bv tv fv x=>by
 have hle:=find_le (gapL L.data.toList) s n hn;have g:=slice_ty Tryz.underlying143 s U n (n+(s.data.toList.drop n).findIdx (gapL L.data.toList)) (by omega) hle (by rw[h];congr 1;omega);obtain⟨m,hm⟩:∃ m,n+(s.data.toList.drop n).findIdx (gapL L.data.toList)=m:=⟨_,rfl⟩;rw[hm]at g hle ⊢;have HM:=Lib.hid hm;have d1:=x.c1;clear h hm
 go_enter Tryz.func155,Tryz.ntmps155
 go_wp2
 clear d1
 go_loopw [] (fun wr=>∃ k:Nat,n<=k/\k<=s.size/\RX wr R s k p bv tv fv/\Kp (onR R) w wr/\Hid (m=k+(s.data.toList.drop k).findIdx (gapL L.data.toList))) (fun wr=>s.size - posOf R wr)
 case atStart=>exact⟨n,Nat.le_refl _,hn,x,Kp.refl _ _,Lib.hid HM.out.symm⟩
 case round =>
  obtain⟨k,hnk,hk,xr,kr,HF⟩:=hrel;clear x;have hpos:=Lib.hid xr.pos;have d0:=xr.c0;have d1:=xr.c1;have f1:=xr.free 1
  cases hc:s.data.toList[k]? with
  | some c =>
    have hks:=get_some hc
    cases ho:oneOf L.data.toList c with
    | true =>
      have CO:=isOneOf_hid s L k true (by rw[hc];exact ho)
      have HF2:Hid (m=(k+1)+(s.data.toList.drop (k+1)).findIdx (gapL L.data.toList)):=Lib.hid (by
       rw[HF.out,find_step hc,show gapL L.data.toList c=false by unfold gapL;rw[ho];rfl];simp only[Bool.false_eq_true,if_false]
       omega)
      have z1:(k:Int)<=1000000000:=by omega
      have z0:(0:Int)<=(k:Int):=by omega
      have HXX:=Lib.hid fun nq=>RX.set1 (w:=wr.drewN nq) xr (k+1);have HKK:=Lib.hid fun nq=>RX.kset' (w:=wr.drewN nq) (R:=R) (s:=s) (n:=k) (p:=p) (bv:=bv) (tv:=tv) (fv:=fv) xr (kr.trans (Kp.of_below (belowN (Below.refl _ _) nq))) 1 (.int .i64 ((k+1:Nat):Int));rw[show(((k+1:Nat)):Int)=(k:Int)+1 by push_cast;rfl]at HXX HKK;clear hc ho HF
      go_wp2
      go_quiet ((go_at_call 186;exact Calls.quiet_of_same (CO.out _)))
      go_wp2
      go_roundw
      case rel=>exact⟨k+1,by omega,by omega,HXX.out _,HKK.out _,HF2⟩
      case measure =>
       rw[RX.pos (HXX.out _),hpos.out];omega
    | false =>
      have CO:=isOneOf_hid s L k false (by rw[hc];exact ho)
      have HE:Hid (m=k):=Lib.hid (by
       rw[HF.out,find_step hc,show gapL L.data.toList c=true by unfold gapL;rw[ho];rfl]
       simp)
      have HXX:=Lib.hid fun nq=>(show RX (wr.drewN nq) R s k p bv tv fv from xr);clear hc ho HF;obtain rfl:=HE.out;clear HE
      go_wp2
      go_quiet ((go_at_call 186;exact Calls.quiet_of_same (CO.out _)))
      go_wp2
      go_quiet (fail)
      go_wp2
      go_ret
      exact⟨rfl,xr,kr.trans (Kp.of_below (belowN (belowN (Below.refl _ _) _) _))⟩
  | none =>
    have hks:=get_none hc;have CO:=isOneOf_hid s L k false (by rw[hc];rfl);have HE:Hid (m=k):=Lib.hid (by rw[HF.out,find_end hc];rfl);clear hc HF;obtain rfl:=HE.out;clear HE
    go_wp2
    go_quiet ((go_at_call 186;exact Calls.quiet_of_same (CO.out _)))
    go_wp2
    go_quiet (fail)
    go_wp2
    go_ret
    exact⟨rfl,xr,kr.trans (Kp.of_below (belowN (belowN (Below.refl _ _) _) _))⟩
theorem takeUntil_hid (R:Nat)(s L U:ByteArray)(n:Nat)(h:U.data.toList=(s.data.toList.drop n).take ((s.data.toList.drop n).findIdx (oneOf L.data.toList)))(hn:n<=s.size)(hs:s.size<=1000000000):Hid (∀ W p bv tv fv,RX W R s n p bv tv fv->Calls Tryz.prog 154 #[.pointer (some ⟨R,0,none⟩),.string L] W fun e w'=>e=.returned (.string U)/\RX w' R s (n+(s.data.toList.drop n).findIdx (oneOf L.data.toList)) p bv tv fv/\Kp (onR R) W w'):=Lib.hid fun w p bv tv fv x=>by
 have hle:=find_le (oneOf L.data.toList) s n hn;have CT:=take_hid R s U n _ h hle hs;obtain⟨m,hm⟩:∃ m,(s.data.toList.drop n).findIdx (oneOf L.data.toList)=m:=⟨_,rfl⟩;rw[hm]at CT hle ⊢;have HM:=Lib.hid hm;have d0:=x.c0;have d1:=x.c1;clear h hm
 go_enter Tryz.func154,Tryz.ntmps154
 go_wp2
 go_loop [5] (fun i=>∃ k:Nat,i=.int .i64 (k:Int)/\n<=k/\k<=s.size/\Hid (n+m=k+(s.data.toList.drop k).findIdx (oneOf L.data.toList))) (fun i=>s.size - (intOf i).toNat)
 case atStart=>exact⟨n,rfl,Nat.le_refl _,hn,Lib.hid (by rw[HM.out])⟩
 case round =>
  obtain⟨k,rfl,hnk,hk,HF⟩:=hrel
  cases hc:s.data.toList[k]? with
  | some c =>
    have hks:=get_some hc;have z1:(k:Int)<(s.size:Int):=by omega
    cases ho:oneOf L.data.toList c with
    | false =>
      have CO:=isOneOf_hid s L k false (by rw[hc];exact ho)
      have HF2:Hid (n+m=(k+1)+(s.data.toList.drop (k+1)).findIdx (oneOf L.data.toList)):=Lib.hid (by
       rw[HF.out,find_step hc,ho];simp only[Bool.false_eq_true,if_false]
       omega)
      clear hc ho HF
      go_wp2_with fail
      (with_reducible refine(CO.out _).mono ?_)
      rintro e w' ⟨rfl,rfl⟩
      go_wp2
      go_round
      case rel=>exact⟨k+1,by go_num,by omega,by omega,HF2⟩
      case measure=>simp[intOf];omega
    | true =>
      have CO:=isOneOf_hid s L k true (by rw[hc];exact ho)
      have HE:n+m=k:=by
       rw[HF.out,find_step hc,ho];simp
      have z2:(k:Int) - (n:Int)=(m:Int):=by omega
      clear hc ho HF HE
      go_wp2_with fail
      (with_reducible refine(CO.out _).mono ?_)
      rintro e w' ⟨rfl,rfl⟩
      go_wp2_with fail
      (with_reducible refine(CT.out _ _ _ _ _ x).mono ?_)
      rintro e w1 ⟨rfl,x1,k1⟩
      go_wp2
      go_ret
      exact⟨rfl,x1,k1⟩
  | none =>
    have hks:=get_none hc;have z1:¬ (k:Int)<(s.size:Int):=by omega
    have HE:n+m=k:=by rw[HF.out,find_end hc];rfl
    have z2:(k:Int) - (n:Int)=(m:Int):=by omega
    clear hc HF HE
    go_wp2_with fail
    (with_reducible refine(CT.out _ _ _ _ _ x).mono ?_)
    rintro e w1 ⟨rfl,x1,k1⟩
    go_wp2
    go_ret
    exact⟨rfl,x1,k1⟩
theorem index_hid (U z:ByteArray)(i:Int)(h:Lib.index U.data.toList z.data.toList=i)(hU:U.size<=1000000000):Hid (∀ W,MaxIn W->Calls Tryz.prog 165 #[.string U,.string z] W fun e w'=>e=.returned (.int .i64 i)/\w'=W):=Lib.hid fun W hm=>by
 obtain⟨m,hm⟩:=hm;have:=Tryz.strings_Index U z m W (by omega) hm;rw[h]at this;exact this
theorem kp_below {R:Nat}{w w':World}(b:Below w.heap.size w w'):Kp (onR R) w w':=Kp.of_below b
theorem through_yes (R:Nat)(s z U:ByteArray)(n m:Nat)(hf:findT z.data.toList (s.data.toList.drop n)=some m)(h:U.data.toList=(s.data.toList.drop n).take m)(hn:n<=s.size)(hz:low z.data.toList=z.data.toList)(hs:s.size<=1000000000):Hid (∀ W p bv tv fv,MaxIn W->RX W R s n p bv tv fv->Calls Tryz.prog 163 #[.pointer (some ⟨R,0,none⟩),.string z] W fun e w'=>e=.returned (.tuple #[.string U,.bool true])/\RX w' R s (n+m+z.size) p bv tv fv/\Kp (onR R) W w'):=Lib.hid fun w p bv tv fv hm x=>by
 obtain⟨Lf,hLf⟩:=text_of (s.data.toList.drop n);have hle:=findT_le _ _ _ hf;rw[List.length_drop,lsize,lsize]at hle;have CL:=left_hid R s Lf n hLf hn;have CI:=index_hid Lf z (m:Int) (by rw[hLf,index_find,hf]) (by rw[<- lsize,hLf,List.length_drop,lsize];omega);have CT:=take_hid R s U n m h (by omega) hs
 have CS:=skip_hid R s z (n+m) true (by
  unfold beginsM;rw[<- List.drop_drop];have hp:=find_at _ _ _ hf;rw[List.isPrefixOf_iff_prefix]at hp;obtain⟨r,hr⟩:=hp;rw[<- hr]
  simp[hz]) (by omega) hz hs (by omega)
 have z1:(0:Int)<=(m:Int):=by omega
 clear hf h hLf hz hle
 go_enter Tryz.func163,Tryz.ntmps163
 go_wp2_with fail
 (with_reducible refine(CL.out _ _ _ _ _ x).mono ?_)
 rintro e w1 ⟨rfl,b1⟩;have x1:=x.below b1;have hm1:=hm.below b1;have k1:=kp_below (R:=R) b1;clear x hm b1
 go_wp2_with fail
 (with_reducible refine(CI.out _ hm1).mono ?_)
 rintro e w1 ⟨rfl,rfl⟩
 go_wp2_with fail
 (with_reducible refine(CT.out _ _ _ _ _ x1).mono ?_)
 rintro e w2 ⟨rfl,x2,k2⟩;have k3:=k1.trans k2;clear x1 k1 k2
 go_wp2_with fail
 (with_reducible refine(CS.out _ _ _ _ _ x2).mono ?_)
 rintro e w4 ⟨rfl,x4,k4⟩;have k5:=k3.trans k4;clear x2 k3 k4
 go_wp2
 go_ret2
 exact⟨rfl,x4,k5⟩
theorem through_no (R:Nat)(s z U:ByteArray)(n:Nat)(hf:findT z.data.toList (s.data.toList.drop n)=none)(h:U.data.toList=s.data.toList.drop n)(hn:n<=s.size)(hs:s.size<=1000000000):Hid (∀ W p bv tv fv,MaxIn W->RX W R s n p bv tv fv->Calls Tryz.prog 163 #[.pointer (some ⟨R,0,none⟩),.string z] W fun e w'=>e=.returned (.tuple #[.string U,.bool false])/\RX w' R s s.size p bv tv fv/\Kp (onR R) W w'):=Lib.hid fun w p bv tv fv hm x=>by
 have CL:=left_hid R s U n h hn;have hUs:U.size=s.size - n:=by rw[<- lsize,h,List.length_drop,lsize]
 have CI:=index_hid U z (-1) (by rw[h,index_find,hf]) (by omega);have CT:=take_hid R s U n (s.size - n) (by rw[h,List.take_of_length_le];rw[List.length_drop,lsize];omega) (by omega) hs;rw[<- hUs,show n+U.size=s.size by omega]at CT;clear hf h hUs
 go_enter Tryz.func163,Tryz.ntmps163
 go_wp2_with fail
 (with_reducible refine(CL.out _ _ _ _ _ x).mono ?_)
 rintro e w1 ⟨rfl,b1⟩;have x1:=x.below b1;have hm1:=hm.below b1;have k1:=kp_below (R:=R) b1;clear x hm b1
 go_wp2_with fail
 (with_reducible refine(CI.out _ hm1).mono ?_)
 rintro e w1 ⟨rfl,rfl⟩
 go_wp2_with fail
 (with_reducible refine(CL.out _ _ _ _ _ x1).mono ?_)
 rintro e w2 ⟨rfl,b2⟩;have x2:=x1.below b2;have k2:=k1.trans (kp_below (R:=R) b2);clear x1 k1 b2 hm1
 go_wp2_with fail
 (with_reducible refine(CT.out _ _ _ _ _ x2).mono ?_)
 rintro e w3 ⟨rfl,x3,k3⟩;have k4:=k2.trans k3;clear x2 k2 k3
 go_wp2
 go_ret2
 exact⟨rfl,x3,k4⟩
end Go.Proofs.YtlnfbjbagmfpiaaGreatDoor
namespace Go.Proofs.YtlnfbjbagmfpiaaGreatDoor
open Go.RowKit
def flC (F:List Fl):List Value:=F.flatMap fun f=>[.int .i64 f.1,.int .i64 (f.2:Int)]
theorem flC_snoc (F:List Fl)(f:Fl):flC (F++[f])=flC F++[.int .i64 f.1,.int .i64 (f.2:Int)]:=by simp[flC]
theorem TinfoT:(Tryz.prog.info? 57).map (fun i=>(i.zero,i.size,i.bytes))=some (some (.agg #[.int .i64 0,.string ⟨#[]⟩,.string ⟨#[]⟩,.slice none 0 0,.bool false]),5,72):=by kernel_rfl
theorem TinfoA:(Tryz.prog.info? 41).map (fun i=>(i.zero,i.size,i.bytes))=some (some (.agg #[.string ⟨#[]⟩,.string ⟨#[]⟩]),2,32):=by kernel_rfl
theorem AttrsBy.nil (w:World)(B m:Nat):AttrsBy w B m (.slice none 0 0) []:=⟨World.ownsRow_nil _ _ _ _,fun k h=>by cases h⟩
theorem AttrsBy.up {w:World}{B m m':Nat}{av:Value}{A:List (List UInt8 × List UInt8)}(h:AttrsBy w B m av A)(hm:m<=m'):AttrsBy w B m' av A:=⟨h.1,fun k hk=>Nat.lt_of_lt_of_le (h.2 k hk) hm⟩
theorem AttrsBy.kp {P:Nat->TypeId->Prop}{w w':World}{B m:Nat}{av:Value}{A:List (List UInt8 × List UInt8)}(h:AttrsBy w B m av A)(k:Kp P w w')(hp:∀ j,B<=j->j<m->¬ P j 41):AttrsBy w' B m av A:=⟨k.row h.1 fun j hj hb=>hp j hb (h.2 j hj),h.2⟩
theorem AttrsBy.form {w:World}{B m:Nat}{av:Value}{A:List (List UInt8 × List UInt8)}(h:AttrsBy w B m av A):∃ a c,av=.slice a A.length c:=by
 rcases rowForms h.1 with ⟨e1,e2⟩ | ⟨g,c,e1⟩
 · exact⟨none,0,by rw[e1,e2]⟩
 · exact⟨_,_,e1⟩
def tkC (t:Tk)(av:Value):List Value:=[.int .i64 t.k,strV t.n,strV t.d,av,.bool t.c]
def TRow (w:World)(B m:Nat):List Tk->List Value->Prop
 | [],cs=>cs=[]
 | t :: T,cs=>∃ av r,cs=tkC t av++r/\AttrsBy w B m av t.a/\TRow w B m T r
theorem TRow.up {w:World}{B m m':Nat}(hm:m<=m'):∀ {T:List Tk} {cs:List Value},TRow w B m T cs->TRow w B m' T cs
 | [],_,h=>h
 | _ :: _,_,⟨av,r,h1,h2,h3⟩=>⟨av,r,h1,h2.up hm,h3.up hm⟩
theorem TRow.kp {P:Nat->TypeId->Prop}{w w':World}{B m:Nat}(k:Kp P w w')(hp:∀ j,B<=j->j<m->¬ P j 41):∀ {T:List Tk} {cs:List Value},TRow w B m T cs->TRow w' B m T cs
 | [],_,h=>h
 | _ :: _,_,⟨av,r,h1,h2,h3⟩=>⟨av,r,h1,h2.kp k hp,h3.kp k hp⟩
theorem TRow.snoc {w:World}{B m:Nat}{t:Tk}{av:Value}(ha:AttrsBy w B m av t.a):∀ {T:List Tk} {cs:List Value},TRow w B m T cs->TRow w B m (T++[t]) (cs++tkC t av)
 | [],cs,h=>⟨av,[],by cases h;simp,ha,rfl⟩
 | _ :: _,_,⟨bv,r,h1,h2,h3⟩=>⟨bv,r++tkC t av,by rw[h1,List.append_assoc],h2,TRow.snoc ha h3⟩
def OwnT (w:World)(B m:Nat)(tv:Value)(T:List Tk):Prop:=∃ cs,w.ownsRow B 57 5 tv T.length cs/\(∀ k,tv.ownBlock=some k->k<m)/\TRow w B m T cs
theorem OwnT.nil (w:World)(B m:Nat):OwnT w B m (.slice none 0 0) []:=⟨[],World.ownsRow_nil _ _ _ _,fun k h=>(by cases h),rfl⟩
theorem OwnT.up {w:World}{B m m':Nat}{tv:Value}{T:List Tk}(h:OwnT w B m tv T)(hm:m<=m'):OwnT w B m' tv T:=by
 obtain⟨cs,h1,h2,h3⟩:=h;exact⟨cs,h1,fun k hk=>Nat.lt_of_lt_of_le (h2 k hk) hm,h3.up hm⟩
theorem OwnT.kp {P:Nat->TypeId->Prop}{w w':World}{B m:Nat}{tv:Value}{T:List Tk}(h:OwnT w B m tv T)(k:Kp P w w')(hp:∀ j,B<=j->j<m->¬ P j 41)(ht:∀ j,tv.ownBlock=some j->B<=j->¬ P j 57):OwnT w' B m tv T:=by
 obtain⟨cs,h1,h2,h3⟩:=h;exact⟨cs,k.row h1 ht,h2,h3.kp k hp⟩
theorem OwnT.form {w:World}{B m:Nat}{tv:Value}{T:List Tk}(h:OwnT w B m tv T):∃ a c,tv=.slice a T.length c:=by
 obtain⟨cs,h1,_⟩:=h;rcases rowForms h1 with ⟨e1,e2⟩ | ⟨g,c,e1⟩
 · exact⟨none,0,by rw[e1,e2]⟩
 · exact⟨_,_,e1⟩
theorem OwnT.grow {w w':World}{B m:Nat}{tv tv':Value}{T:List Tk}{cs:List Value}{t:Tk}{av:Value}(h3:TRow w B m T cs)(ha:AttrsBy w B m av t.a)(hm:m<=w.heap.size)(hrow:w.ownsRow B 57 5 tv T.length cs)(hown:w'.ownsRow B 57 5 tv' (T.length+1) (cs++tkC t av))(hg:w.grownBy w' tv.ownBlock):OwnT w' B w'.heap.size tv' (T++[t]):=by
 have k:Kp (fun j _=>tv.ownBlock=some j) w w':=Kp.of_grown hg (fun k c t fr hk _=>hk) fun k hk=>by
  obtain⟨cur,h1,_⟩:=row_block hrow hk;exact⟨_,_,_,h1⟩
 refine⟨cs++tkC t av,by rw[List.length_append];exact hown,fun j hj => ?_,?_⟩
 · obtain⟨_,h1,_,h2⟩:=row_block hown hj
   exact h2
 · have hs:=h3.snoc ha
   have gen:∀ {T:List Tk} {cs:List Value},TRow w B m T cs->TRow w' B w'.heap.size T cs:=by
    intro T
    induction T with
    | nil=>intro cs h;exact h
    | cons u T ih =>
      rintro cs ⟨bv,r,e1,e2,e3⟩;refine⟨bv,r,e1,⟨k.row e2.1 fun j hj _ e => ?_,fun j hj => ?_⟩,ih e3⟩
      · exact rows_ne hrow e2.1 (by decide) e hj
      · exact Nat.lt_of_lt_of_le (e2.2 j hj) (Nat.le_trans hm hg.size)
   exact gen hs
structure LowB (B:Nat) (w:World):Prop where
 low:Low w
 l0:0<B
 l1:3<B
 l2:4<B
theorem LowB.on {B:Nat}{w w':World}(h:LowB B w)(hb:Below B w w'):LowB B w':=by
 refine⟨⟨?_,?_,?_⟩,h.l0,h.l1,h.l2⟩
 · obtain⟨m,hm⟩:=h.low.m
   exact⟨m,by rw[hb.cell h.l1];exact hm⟩
 · exact fun j hj=>by rw[hb.cell h.l0];exact h.low.s j hj
 · obtain⟨v,h1,h2⟩:=h.low.e
   exact⟨v,by rw[hb.cell h.l2];exact h1,h2⟩
theorem Low.lowB {w:World}(h:Low w):LowB w.heap.size w:=by
 refine⟨h,?_,?_,?_⟩
 · exact lt_of_cell (h.s 0 (by decide))
 · obtain⟨m,hm⟩:=h.m
   exact lt_of_cell hm
 · obtain⟨v,h1,_⟩:=h.e
   exact lt_of_cell h1
structure RV (w:World) (B m R:Nat) (s:ByteArray) (n:Nat) (H:List UInt8) (T:List Tk) (F:List Fl) (v0:Value) (F0:List Fl) (p bv tv fv:Value):Prop where
 x:RX w R s n p bv tv fv
 hp:p=.pointer none\/p=.pointer (some ⟨R,2,none⟩)
 hb:w.ownsRow B 5 1 bv H.length (Lib.byteCells H)
 hn:H=[]->bv=.slice none 0 0
 ht:OwnT w B m tv T
 hf:w.ownsRow B 93 2 fv F.length (flC F)
 h0:w.ownsRow B 93 2 v0 F0.length (flC F0)
 h1:v0.ownBlock=fv.ownBlock->F0.length<=F.length
 lo:B<=R
 hi:R<m
 mw:m<=w.heap.size
 low:LowB B w
def RS (w:World)(B m R:Nat)(s:ByteArray)(n:Nat)(H:List UInt8)(T:List Tk)(F:List Fl)(v0:Value)(F0:List Fl):Prop:=∃ p bv tv fv,RV w B m R s n H T F v0 F0 p bv tv fv
section
variable {w w':World} {B m R:Nat} {s:ByteArray} {n:Nat} {H:List UInt8} {T:List Tk} {F:List Fl} {v0:Value} {F0:List Fl} {p bv tv fv:Value}
theorem RV.bw (h:RV w B m R s n H T F v0 F0 p bv tv fv):B<=w.heap.size:=by have:=h.lo;have:=h.hi;have:=h.mw;omega
theorem RV.moved (h:RV w B m R s n H T F v0 F0 p bv tv fv){n':Nat}(x:RX w' R s n' p bv tv fv)(k:Kp (onR R) w w'):RV w' B m R s n' H T F v0 F0 p bv tv fv:=by
 have ne:∀ {base size n:Nat} {e:TypeId} {v:Value} {xs:List Value},w.ownsRow base e size v n xs->147≠e->∀ j,v.ownBlock=some j->¬ onR R j e:=fun r hne j hj e=>row_ne r h.x hne (by rw[hj];exact congrArg some e);obtain⟨cs,t1,t2,t3⟩:=h.ht
 have gen:∀ {T:List Tk} {cs:List Value},TRow w B m T cs->TRow w' B m T cs:=by
  intro T
  induction T with
  | nil=>intro cs h;exact h
  | cons u T ih =>
    rintro cs ⟨bv,r,e1,e2,e3⟩;exact⟨bv,r,e1,⟨k.row e2.1 fun j hj _=>ne e2.1 (by decide) j hj,e2.2⟩,ih e3⟩
 exact⟨x,h.hp,k.row h.hb fun j hj _=>ne h.hb (by decide) j hj,h.hn,⟨cs,k.row t1 fun j hj _=>ne t1 (by decide) j hj,t2,gen t3⟩,k.row h.hf fun j hj _=>ne h.hf (by decide) j hj,k.row h.h0 fun j hj _=>ne h.h0 (by decide) j hj,h.h1,h.lo,h.hi,Nat.le_trans h.mw k.size,h.low.on (k.below (fun j t e=>by rw[show j=R from e];exact h.lo) h.bw)⟩
theorem RV.below (h:RV w B m R s n H T F v0 F0 p bv tv fv)(b:Below w.heap.size w w'):RV w' B m R s n H T F v0 F0 p bv tv fv:=h.moved (h.x.below b) (Kp.of_below b)
theorem RV.up (h:RV w B m R s n H T F v0 F0 p bv tv fv){m':Nat}(hm:m<=m')(hw:m'<=w.heap.size):RV w B m' R s n H T F v0 F0 p bv tv fv:=⟨h.x,h.hp,h.hb,h.hn,h.ht.up hm,h.hf,h.h0,h.h1,h.lo,Nat.lt_of_lt_of_le h.hi hm,hw,h.low⟩
theorem RS.below (h:RS w B m R s n H T F v0 F0)(b:Below w.heap.size w w'):RS w' B m R s n H T F v0 F0:=by
 obtain⟨p,bv,tv,fv,h⟩:=h;exact⟨p,bv,tv,fv,h.below b⟩
theorem RS.low (h:RS w B m R s n H T F v0 F0):LowB B w:=by obtain⟨p,bv,tv,fv,h⟩:=h;exact h.low
theorem RS.bw (h:RS w B m R s n H T F v0 F0):B<=w.heap.size:=by obtain⟨p,bv,tv,fv,h⟩:=h;exact h.bw
end
def frD (B R:Nat)(k:Nat)(t:TypeId):Prop:=k=R\/(B<=k/\t=93)
theorem onR_frD {B R:Nat}{w w':World}(k:Kp (onR R) w w'):Kp (frD B R) w w':=k.mono fun _ _ _ _ _ e => .inl e
theorem fail_rv (code:Int)(place:Nat)(w:World)(B m R:Nat)(s:ByteArray)(n:Nat)(H:List UInt8)(T:List Tk)(F:List Fl)(v0:Value)(F0:List Fl)(p bv tv fv:Value)(h:RV w B m R s n H T F v0 F0 p bv tv fv)(hl:F.length<=1000000):Calls Tryz.prog 133 #[.pointer (some ⟨R,0,none⟩),.int .i64 code,.int .i64 (place:Int)] w fun e w'=>e=.returned (.tuple #[])/\∃ fv',RV w' B m R s n H T (F++[(code,place)]) v0 F0 p bv tv fv'/\(fv'.ownBlock=fv.ownBlock\/∃ k,fv'.ownBlock=some k/\w.heap.size<=k)/\Kp (fun k _=>k=R\/fv.ownBlock=some k) w w':=by
 obtain⟨i1,hi1,hy0,hy1,hy2⟩:=info_parts Tinfo34;have hf:=h.hf;have d5:=h.x.c5;have hne:=row_ne hf h.x (by decide);have hbw:=h.bw;have hx:=h.x;have HR:=Lib.hid h;clear h
 go_enter Tryz.func133,Tryz.ntmps133
 go_wp2_with (
  at_builtin
  go_loud (
   refine wpList_append_elder _ rfl _ _ 29 rfl B 93 i1 (.agg #[.int .i64 0,.int .i64 0]) 2 16 Tryz.underlying29 hi1 hy0 hy1 hy2 rfl (by decide) _ _ _ rfl (hf.alloc _) ⟨w.heap.size,0,none⟩ 1 1 [.int .i64 code,.int .i64 (place:Int)] rfl rfl (cells_new w [.int .i64 code,.int .i64 (place:Int)] 93) (fun x hx=>by simp at hx;rcases hx with rfl | rfl<;>rfl) (by unfold maxLen;omega) (by omega) (by simp;omega) ?_;intro v5 w5 hown5 hold5 hgrow5 hat5
   have x5:RX w5 R s n p bv tv fv:=by
    have h1:RX (w.alloc (.cells #[.int .i64 code,.int .i64 (place:Int)] 93)) R s n p bv tv fv:=hx.below ((Below.refl _ _).alloc (Nat.le_refl _) _);unfold RX at h1 ⊢;rw[hgrow5.block R (lt_of_block h1) (fun e=>hne e.symm)];exact h1
   have HX:=Lib.hid (x5.set5 v5)
   have HK5:Hid (Kp (fun k t=>fv.ownBlock=some k) w w5):=Lib.hid ((Kp.of_below ((Below.refl _ _).alloc (Nat.le_refl _) _)).trans (Kp.of_grown hgrow5 (fun k c t fr hk _=>hk) fun k hk=>by
    obtain⟨cur,h1,_⟩:=row_block (hf.alloc (.cells #[.int .i64 code,.int .i64 (place:Int)] 93)) hk
    exact⟨_,_,_,h1⟩))
   have HK6:Hid (Kp (onR R) w5 (w5.setCell ⟨R,5,none⟩ v5)):=Lib.hid (x5.kset 5 v5);have HO:Hid (w5.ownsRow B 93 2 v5 (F++[(code,place)]).length (flC (F++[(code,place)]))):=Lib.hid (by rw[flC_snoc,List.length_append];exact hown5);have HE:Hid (w5.ownsRow B 93 2 fv F.length (flC F)):=Lib.hid hold5
   have HAT:Hid (v5.ownBlock=fv.ownBlock\/v5.ownBlock=some (w.heap.size+1)):=Lib.hid (by
    rcases hat5 with e | e
    · exact .inl e
    · exact .inr (e.trans (by simp)))
   have d5':=x5.c5;have f5':=x5.free 5
   have HF5:Hid (∃ a k,v5=.slice a (F.length+1) k):=Lib.hid (by
    rcases rowForms hown5 with ⟨e1,e2⟩ | ⟨g,k,e1⟩
    · exact⟨none,0,by rw[e1,e2]⟩
    · exact⟨_,_,e1⟩)
   clear hown5 hold5 hgrow5 hat5 x5;obtain⟨va,vk,rfl⟩:=HF5.out
   clear HF5))
 go_end0
 have h:=HR.out;have hx5:=HX.out;have k5:=HK5.out;have k6:=HK6.out;have hf5:=HO.out;have nef:∀ {base size n:Nat} {e:TypeId} {v:Value} {xs:List Value},w.ownsRow base e size v n xs->93≠e->w5.ownsRow base e size v n xs:=fun r hne'=>k5.row r fun j hj _ e=>rows_ne hf r hne' e hj
 have neR:∀ {base size n:Nat} {e:TypeId} {v:Value} {xs:List Value},w5.ownsRow base e size v n xs->147≠e->(w5.setCell ⟨R,5,none⟩ (.slice va (F.length+1) vk)).ownsRow base e size v n xs:=fun r hne'=>k6.row r fun j hj _ e=>row_ne r (show w5.heap[R]? = some (.cells _ _ _)from(by
  have:=hx5;have h9:=HR.out.x;have hn:fv.ownBlock≠some R:=hne
  exact k5.cells h9 (fun e=>hn e))) hne' (by rw[hj];exact congrArg some e)
 obtain⟨cs,t1,t2,t3⟩:=h.ht
 have gen:∀ {T:List Tk} {cs:List Value},TRow w B m T cs->TRow (w5.setCell ⟨R,5,none⟩ (.slice va (F.length+1) vk)) B m T cs:=by
  intro T
  induction T with
  | nil=>intro cs h;exact h
  | cons u T ih =>
    rintro cs ⟨bv,r,e1,e2,e3⟩;exact⟨bv,r,e1,⟨neR (nef e2.1 (by decide)) (by decide),e2.2⟩,ih e3⟩
 have h00:w5.ownsRow B 93 2 v0 F0.length (flC F0):=by
  by_cases hs:v0.ownBlock=fv.ownBlock
  ·
   have hlen:=h.h1 hs;have e:=HE.out;have h0:=h.h0;refine⟨h0.1,?_⟩;rcases h0.2 with h2 | ⟨g,cap,cur,a1,b1,c1,d1,d2,d3,d4⟩
   · exact .inl h2
   · have hg:fv.ownBlock=some g:=by rw[<- hs,a1];rfl
     rcases e.2 with ⟨e1,_⟩ | ⟨g',cap',cur',a1',b1',c1',d1',d2',d3',d4'⟩
     · rw[e1]at hg;cases hg
     · have hgg:g'=g:=by rw[a1']at hg;simpa [Value.ownBlock] using hg
       subst hgg;rcases hf.2 with ⟨e1,_⟩ | ⟨g2,cap2,cur2,a2,b2,c2,q1,q2,q3,q4⟩
       · rw[e1]at hg;cases hg
       · have hv:cap2=cap'/\g2=g':=by
          rw[a1']at a2
          injection a2 with a2 _ a3
          injection a2 with a2
          injection a2 with a2
          exact⟨a3.symm,a2.symm⟩
         obtain⟨rfl,rfl⟩:=hv;rw[c1]at c2
         cases c2
         have hcap:cap=cap2:=by omega
         subst hcap;refine .inr ⟨g2,cap,cur',a1,b1,c1',d1,d2,d3',?_⟩;have hmin:min (F0.length * 2) (F.length * 2)=F0.length * 2:=Nat.min_eq_left (by omega)
         have hq:cur'.toList.take (F0.length * 2)=cur.toList.take (F0.length * 2):=by
          rw[<- hmin,<- List.take_take,<- List.take_take,d4',q4]
         rw[hq];exact d4
  · exact k5.row h.h0 fun j hj _ e=>hs (by rw[hj,e])
 have kk:Kp (fun k _=>k=R\/fv.ownBlock=some k) w (w5.setCell ⟨R,5,none⟩ (.slice va (F.length+1) vk)):=(k5.mono fun k c t fr hk e=>Or.inr e).trans (k6.mono fun k c t fr _ e=>Or.inl e);refine⟨rfl,.slice va (F.length+1) vk,?_,?_,kk⟩
 · exact⟨hx5,h.hp,neR (nef h.hb (by decide)) (by decide),h.hn,⟨cs,neR (nef t1 (by decide)) (by decide),t2,gen t3⟩,neR hf5 (by decide),neR h00 (by decide),fun e=>by
    rcases HAT.out with e2 | e2
    · have:=h.h1 (e.trans e2)
      rw[List.length_append];omega
    · rw[e2]at e
      obtain⟨_,g1,_,g2⟩:=row_block h.h0 e
      omega,h.lo,h.hi,Nat.le_trans h.mw kk.size,h.low.on (kk.below (fun k t e=>by
    rcases e with rfl | e
    · exact h.lo
    · exact(hf.lt k e).1) hbw)⟩
 · rcases HAT.out with e | e
   · exact .inl e
   · exact .inr ⟨_,e,Nat.le_succ _⟩
theorem RV.frD {w w':World}{B m R:Nat}{s:ByteArray}{n:Nat}{H:List UInt8}{T:List Tk}{F:List Fl}{v0:Value}{F0:List Fl}{p bv tv fv:Value}(h:RV w B m R s n H T F v0 F0 p bv tv fv)(k:Kp (fun k _=>k=R\/fv.ownBlock=some k) w w'):Kp (frD B R) w w':=k.mono fun k c t fr hk e=>by
 rcases e with e | e
 · exact .inl e
 · obtain⟨cur,g1,g2,_⟩:=row_block h.hf e
   rw[hk]at g1
   cases g1
   exact .inr ⟨g2,rfl⟩
theorem fail_hid (code:Int)(place:Nat):Hid (∀ W B m R s n H T F v0 F0,RS W B m R s n H T F v0 F0->F.length<=1000000->Calls Tryz.prog 133 #[.pointer (some ⟨R,0,none⟩),.int .i64 code,.int .i64 (place:Int)] W fun e w'=>e=.returned (.tuple #[])/\RS w' B m R s n H T (F++[(code,place)]) v0 F0/\Kp (frD B R) W w'):=Lib.hid fun w B m R s n H T F v0 F0 h hl=>by
 obtain⟨p,bv,tv,fv,h⟩:=h;refine(fail_rv code place w B m R s n H T F v0 F0 p bv tv fv h hl).mono ?_;rintro e w' ⟨rfl,fv',h',-,k⟩;exact⟨rfl,⟨p,bv,tv,fv',h'⟩,h.frD k⟩
end Go.Proofs.YtlnfbjbagmfpiaaGreatDoor
namespace Go.Proofs.YtlnfbjbagmfpiaaGreatDoor
open Go.RowKit
theorem decO_hid (s T:ByteArray)(p:List Nat)(h:decT 0 s.data.toList=(T.data.toList,p))(hs:s.size<=1000000):Hid (∀ W,Low W->Calls Tryz.prog 194 #[.string s] W fun e w'=>∃ a c,e=.returned (.tuple #[.string T,.slice a p.length c])/\w'.ownsRow W.heap.size 93 2 (.slice a p.length c) p.length (failCs p)/\Below W.heap.size W w'):=Lib.hid fun W hw=>(decode_any s hs W hw).mono fun e w' ⟨v,h1,h2,h3⟩=>by
 rw[h]at h1 h2;have hf:=FailsIn.of_row h2;obtain⟨a,c,rfl⟩:=hf.form;exact⟨a,c,by rw[h1,text_is (T:=T) rfl],h2,h3⟩
theorem RV.form {w:World}{B m R:Nat}{s:ByteArray}{n:Nat}{H:List UInt8}{T:List Tk}{F:List Fl}{v0:Value}{F0:List Fl}{p bv tv fv:Value}(h:RV w B m R s n H T F v0 F0 p bv tv fv):RS w B m R s n H T F v0 F0:=⟨p,bv,tv,fv,h⟩
theorem decoded_hid (part D:ByteArray)(p:List Nat)(place:Nat)(h:decT 0 part.data.toList=(D.data.toList,p))(hs:part.size<=100000)(hpl:place<=1000000):Hid (∀ W B m R s n H T F v0 F0,RS W B m R s n H T F v0 F0->F.length<=500000->Calls Tryz.prog 167 #[.pointer (some ⟨R,0,none⟩),.string part,.int .i64 (place:Int)] W fun e w'=>e=.returned (.string D)/\RS w' B m R s n H T (F++failM place p) v0 F0/\Kp (frD B R) W w'):=Lib.hid fun w B m R s n H T F v0 F0 hr hl=>by
 obtain⟨pp,bv,tv,fv,hr⟩:=hr;have CD:=decO_hid part D p h (by omega)
 have hlen:p.length<=100000:=by
  have:=(decT_len 0 part.data.toList).2;rw[h,lsize]at this;simp only at this;omega
 have hplace:∀ q∈p,q<=100000:=fun q hq=>by
  have:=decT_place 0 part.data.toList q (by rw[h];exact hq);rw[lsize]at this;omega
 have HP:=Lib.hid hplace;have hlow:=hr.low.low;clear h hs hplace
 go_enter Tryz.func167,Tryz.ntmps167
 go_wp2_with fail
 (with_reducible refine(CD.out _ hlow).mono ?_)
 rintro e w1 ⟨a,c,rfl,hrow,b1⟩;have hr1:=hr.below b1;have HG:Hid (∀ g,(Value.slice a p.length c).ownBlock=some g->w.heap.size<=g/\g<w1.heap.size):=Lib.hid hrow.lt;have hfv:∀ j,fv.ownBlock=some j->j<w.heap.size\/w1.heap.size<=j:=fun j hj => .inl (hr.hf.lt j hj).2;have hk1:Kp (frD B R) w w1:=Kp.of_below b1;have HR1:=Lib.hid (And.intro hr1 (And.intro hfv (And.intro hk1 hrow)));obtain⟨W1,hW1⟩:∃ W1,w1.heap.size=W1:=⟨_,rfl⟩;rw[hW1]at HR1 HG;have HW1:=Lib.hid hW1;clear hr hr1 hfv hk1 hrow b1 hlow CD hW1
 go_wp2
 go_loopw [18] (fun i wr=>∃(k:Nat) (fv':Value),i=.int .i64 k/\k<=p.length/\Hid (RV wr B m R s n H T (F++failM place (p.take k)) v0 F0 pp bv tv fv'/\(∀ j,fv'.ownBlock=some j->j<w.heap.size\/W1<=j)/\Kp (frD B R) w wr/\wr.ownsRow w.heap.size 93 2 (.slice a p.length c) p.length (failCs p)/\W1<=wr.heap.size)) (fun i _=>p.length - (intOf i).toNat)
 case atStart =>
  obtain⟨h1,h2,h3,h4⟩:=HR1.out;exact⟨0,fv,rfl,Nat.zero_le _,Lib.hid ⟨by simpa [failM] using h1,h2,h3,h4,by rw[HW1.out];exact Nat.le_refl _⟩⟩
 case round =>
  clear HR1;obtain⟨k,fv',rfl,hk,HX⟩:=hrel
  by_cases hlt:k<p.length
  · obtain⟨h1,h2,h3,h4,h5⟩:=HX.out
    obtain⟨q,hq⟩:∃ q,p[k]=q:=⟨_,rfl⟩;have hq2:q<=100000:=HP.out q (by rw[<- hq];exact List.getElem_mem hlt)
    have HT:Hid (F++failM place (p.take (k+1))=(F++failM place (p.take k))++[((130:Int),place+q)]):=Lib.hid (by
     rw[List.take_succ_eq_append_getElem hlt,hq]
     simp[failM])
    have hlen2:(F++failM place (p.take k)).length<=1000000:=by
     simp only[List.length_append,failM,List.length_map,List.length_take];omega
    obtain⟨g,rfl⟩:∃ g,a=some ⟨g,0,none⟩:=by
     rcases rowForms h4 with ⟨e1,e2⟩ | ⟨g,cc,e1⟩
     · omega
     · injection e1 with e1 _ _
       exact⟨g,e1⟩
    have e12:=failCs_at p k hlt;rw[hq]at e12;have c0:wr.cell? ⟨g,k * 2,none⟩=some (.int .i64 130):=by rw[h4.cellAt (k * 2) (by omega)];exact e12.1
    have c1:wr.cell? ⟨g,k * 2+1,none⟩=some (.int .i64 (q:Int)):=by rw[h4.cellAt (k * 2+1) (by omega)];exact e12.2
    have z1:(place:Int)<=1000000:=by omega
    have z2:(q:Int)<=100000:=by omega
    have z3:(0:Int)<=(place:Int):=by omega
    have z4:(0:Int)<=(q:Int):=by omega
    have hb:=(Below.refl wr.heap.size wr).alloc (Nat.le_refl _) (.cells #[.int .i64 130,.int .i64 (q:Int)] 93);have CF:=fail_rv 130 (place+q) _ B m R s n H T _ v0 F0 pp bv tv fv' (h1.below hb) hlen2;rw[show(((place+q:Nat)):Int)=(place:Int)+(q:Int) by push_cast;rfl]at CF;have HCF:=Lib.hid CF;have HBB:=Lib.hid hb;have HH:=Lib.hid (And.intro h1 (And.intro h2 (And.intro h3 (And.intro h4 h5))));clear CF h1 h2 h3 h4 h5 hb HX e12 hq hq2
    go_wp2_with fail
    (with_reducible refine HCF.out.mono ?_)
    rintro e w3 ⟨rfl,fv3,h3',hat,k3⟩
    have HN:Hid (RV w3 B m R s n H T (F++failM place (p.take (k+1))) v0 F0 pp bv tv fv3/\(∀ j,fv3.ownBlock=some j->j<w.heap.size\/W1<=j)/\Kp (frD B R) w w3/\w3.ownsRow w.heap.size 93 2 (.slice (some ⟨g,0,none⟩) p.length c) p.length (failCs p)/\W1<=w3.heap.size):=Lib.hid (by
     obtain⟨h1,h2,h3,h4,h5⟩:=HH.out;have hb:=HBB.out;have h1b:=h1.below hb;refine⟨by rw[HT.out];exact h3',fun j hj => ?_,h3.trans ((Kp.of_below hb).trans (h1b.frD k3)),k3.row (ownsRow_below h4 hb) fun j hj _ e => ?_,Nat.le_trans h5 (Nat.le_trans hb.size k3.size)⟩
     · rcases hat with e | ⟨j2,e,hj2⟩
       · exact h2 j (by rw[<- e];exact hj)
       · rw[e]at hj
         cases hj
         exact .inr (Nat.le_trans h5 (Nat.le_trans hb.size hj2))
     · have hg:=HG.out j hj
       rcases e with e | e
       · exact row_ne (ownsRow_below h4 hb) h1b.x (by decide) (by rw[hj,e])
       · rcases h2 j e with h | h<;>omega)
    clear h3' hat k3 HH HBB HCF c0 c1
    go_wp2
    go_roundw
    case rel=>exact⟨k+1,fv3,by go_num,by omega,HN⟩
    case measure=>simp[intOf];omega
  · obtain rfl:k=p.length:=by omega
    rw[List.take_length]at HX
    go_wp2
    go_ret
    exact⟨rfl,HX.out.1.form,HX.out.2.2.1⟩
end Go.Proofs.YtlnfbjbagmfpiaaGreatDoor
