/- What the laws of chain share: blocks, facts. The names of a kind: the document's. -/
import Derived.Test.YthnogdodlhkldaaGreatDoorChH
set_option maxRecDepth 100000
set_option maxHeartbeats 2000000
namespace Go.Proofs.YthnogdodlhkldaaGreatDoor
open Go.RowKit
theorem PX.row {w:World}{R:Nat}{v:Value}{r:Bool}{ds:List D}(x:PX w R v r)(h:aU w v ds):cE w (.slice (some ⟨R,0,none⟩) 1 1) [(ds,r)]:=by
 refine .inr ⟨R,0,1,rfl,fun j hj => ?_⟩;obtain rfl:j=0:=by simpa using hj
 exact⟨⟨v,x.c0,h⟩,x.c1⟩
theorem uI (w:World)(v:Value)(r:Bool)(rk:Int)(rt:ByteArray)(o:Bool)(s2 h2:ByteArray)(p:Int)(pa2 q2:ByteArray)(mv:Bool)(rn:ByteArray)(pr:Bool)(o3:Bool)(s3 h3:ByteArray)(p3:Int)(pa3 q3:ByteArray):PX (((w.alloc (.cells #[v,.bool r] 24)).alloc (.cells #[.int .i64 rk,.string rt,.bool o,.string s2,.string h2,.int .i64 p,.string pa2,.string q2,.bool mv,.string rn,.bool pr,.bool o3,.string s3,.string h3,.int .i64 p3,.string pa3,.string q3] 42)).alloc (.cells #[v,.bool r] 24)) w.heap.size v r/\RX (((w.alloc (.cells #[v,.bool r] 24)).alloc (.cells #[.int .i64 rk,.string rt,.bool o,.string s2,.string h2,.int .i64 p,.string pa2,.string q2,.bool mv,.string rn,.bool pr,.bool o3,.string s3,.string h3,.int .i64 p3,.string pa3,.string q3] 42)).alloc (.cells #[v,.bool r] 24)) (w.heap.size+1) rk rt o s2 h2 p pa2 q2 mv rn pr o3 s3 h3 p3 pa3 q3/\PX (((w.alloc (.cells #[v,.bool r] 24)).alloc (.cells #[.int .i64 rk,.string rt,.bool o,.string s2,.string h2,.int .i64 p,.string pa2,.string q2,.bool mv,.string rn,.bool pr,.bool o3,.string s3,.string h3,.int .i64 p3,.string pa3,.string q3] 42)).alloc (.cells #[v,.bool r] 24)) (w.heap.size+1+1) v r/\Below w.heap.size w (((w.alloc (.cells #[v,.bool r] 24)).alloc (.cells #[.int .i64 rk,.string rt,.bool o,.string s2,.string h2,.int .i64 p,.string pa2,.string q2,.bool mv,.string rn,.bool pr,.bool o3,.string s3,.string h3,.int .i64 p3,.string pa3,.string q3] 42)).alloc (.cells #[v,.bool r] 24)):=by
 have a1:Below (w.alloc (.cells #[v,.bool r] 24)).heap.size (w.alloc (.cells #[v,.bool r] 24)) (((w.alloc (.cells #[v,.bool r] 24)).alloc (.cells #[.int .i64 rk,.string rt,.bool o,.string s2,.string h2,.int .i64 p,.string pa2,.string q2,.bool mv,.string rn,.bool pr,.bool o3,.string s3,.string h3,.int .i64 p3,.string pa3,.string q3] 42)).alloc (.cells #[v,.bool r] 24)):=((Below.refl _ _).alloc (Nat.le_refl _) _).alloc (by simp) _;have x1:=(PX.made w v r).below a1;have x2:=(RX.made (w.alloc (.cells #[v,.bool r] 24)) rk rt o s2 h2 p pa2 q2 mv rn pr o3 s3 h3 p3 pa3 q3).below ((Below.refl _ _).alloc (Nat.le_refl _) (.cells #[v,.bool r] 24));have x3:=PX.made ((w.alloc (.cells #[v,.bool r] 24)).alloc (.cells #[.int .i64 rk,.string rt,.bool o,.string s2,.string h2,.int .i64 p,.string pa2,.string q2,.bool mv,.string rn,.bool pr,.bool o3,.string s3,.string h3,.int .i64 p3,.string pa3,.string q3] 42)) v r;rw[World.size_alloc]at x2;rw[World.size_alloc,World.size_alloc]at x3;exact⟨x1,x2,x3,((Below.refl _ _).alloc (Nat.le_refl _) _).trans (a1.mono (by simp))⟩
end Go.Proofs.YthnogdodlhkldaaGreatDoor
namespace Go.Proofs.YthnogdodlhkldaaGreatDoor
open Go.RowKit
theorem lM (w:World)(l:List (List UInt8))(n:Nat)(hn:n=l.length)(hm:n<=1000)(C:Array Value)(hC:C=(aC l).toArray):(w.alloc (.cells C 9)).ownsRow w.heap.size 9 1 (.slice (some ⟨w.heap.size,0,none⟩) n n) n (aC l):=by
 subst hn hC;refine⟨by simp[aC],.inr ⟨w.heap.size,l.length,_,rfl,Nat.le_refl _,aW w _,Nat.le_refl _,by unfold maxLen;omega,by simp[aC],?_⟩⟩;rw[Nat.mul_one];exact List.take_of_length_le (by simp[aC])
theorem aY8 (w:World):Calls Tryz.prog 18 #[.int .i64 1] w fun e w'=>∃ u,e=.returned u/\w'.ownsRow w.heap.size 9 1 u 3 (aC [dV,bX,cQ])/\Below w.heap.size w w':=by
 have own0:(w.alloc (.cells #[.string ⟨#[115,99,114,105,112,116,45,115,114,99,45,101,108,101,109]⟩,.string ⟨#[115,99,114,105,112,116,45,115,114,99]⟩,.string ⟨#[100,101,102,97,117,108,116,45,115,114,99]⟩] 9)).ownsRow w.heap.size 9 1 (.slice (some ⟨w.heap.size,0,none⟩) 3 3) 3 (aC [dV,bX,cQ]):=lM w [dV,bX,cQ] 3 rfl (by decide) #[.string ⟨#[115,99,114,105,112,116,45,115,114,99,45,101,108,101,109]⟩,.string ⟨#[115,99,114,105,112,116,45,115,114,99]⟩,.string ⟨#[100,101,102,97,117,108,116,45,115,114,99]⟩] rfl;have b0:Below w.heap.size w (w.alloc (.cells #[.string ⟨#[115,99,114,105,112,116,45,115,114,99,45,101,108,101,109]⟩,.string ⟨#[115,99,114,105,112,116,45,115,114,99]⟩,.string ⟨#[100,101,102,97,117,108,116,45,115,114,99]⟩] 9)):=(Below.refl _ _).alloc (Nat.le_refl _) _;have H0:=zH (And.intro own0 b0);clear own0 b0
 go_enter Tryz.func18,Tryz.ntmps18
 go_wp2
 go_ret
 exact⟨_,rfl,H0.out.1,H0.out.2⟩
theorem aY7 (w:World):Calls Tryz.prog 18 #[.int .i64 2] w fun e w'=>∃ u,e=.returned u/\w'.ownsRow w.heap.size 9 1 u 3 (aC [dV,bX,cQ])/\Below w.heap.size w w':=by
 have own0:(w.alloc (.cells #[.string ⟨#[115,99,114,105,112,116,45,115,114,99,45,101,108,101,109]⟩,.string ⟨#[115,99,114,105,112,116,45,115,114,99]⟩,.string ⟨#[100,101,102,97,117,108,116,45,115,114,99]⟩] 9)).ownsRow w.heap.size 9 1 (.slice (some ⟨w.heap.size,0,none⟩) 3 3) 3 (aC [dV,bX,cQ]):=lM w [dV,bX,cQ] 3 rfl (by decide) #[.string ⟨#[115,99,114,105,112,116,45,115,114,99,45,101,108,101,109]⟩,.string ⟨#[115,99,114,105,112,116,45,115,114,99]⟩,.string ⟨#[100,101,102,97,117,108,116,45,115,114,99]⟩] rfl;have b0:Below w.heap.size w (w.alloc (.cells #[.string ⟨#[115,99,114,105,112,116,45,115,114,99,45,101,108,101,109]⟩,.string ⟨#[115,99,114,105,112,116,45,115,114,99]⟩,.string ⟨#[100,101,102,97,117,108,116,45,115,114,99]⟩] 9)):=(Below.refl _ _).alloc (Nat.le_refl _) _;have H0:=zH (And.intro own0 b0);clear own0 b0
 go_enter Tryz.func18,Tryz.ntmps18
 go_wp2
 go_ret
 exact⟨_,rfl,H0.out.1,H0.out.2⟩
theorem aY6 (w:World):Calls Tryz.prog 18 #[.int .i64 3] w fun e w'=>∃ u,e=.returned u/\w'.ownsRow w.heap.size 9 1 u 3 (aC [kG,bX,cQ])/\Below w.heap.size w w':=by
 have own0:(w.alloc (.cells #[.string ⟨#[115,99,114,105,112,116,45,115,114,99,45,97,116,116,114]⟩,.string ⟨#[115,99,114,105,112,116,45,115,114,99]⟩,.string ⟨#[100,101,102,97,117,108,116,45,115,114,99]⟩] 9)).ownsRow w.heap.size 9 1 (.slice (some ⟨w.heap.size,0,none⟩) 3 3) 3 (aC [kG,bX,cQ]):=lM w [kG,bX,cQ] 3 rfl (by decide) #[.string ⟨#[115,99,114,105,112,116,45,115,114,99,45,97,116,116,114]⟩,.string ⟨#[115,99,114,105,112,116,45,115,114,99]⟩,.string ⟨#[100,101,102,97,117,108,116,45,115,114,99]⟩] rfl;have b0:Below w.heap.size w (w.alloc (.cells #[.string ⟨#[115,99,114,105,112,116,45,115,114,99,45,97,116,116,114]⟩,.string ⟨#[115,99,114,105,112,116,45,115,114,99]⟩,.string ⟨#[100,101,102,97,117,108,116,45,115,114,99]⟩] 9)):=(Below.refl _ _).alloc (Nat.le_refl _) _;have H0:=zH (And.intro own0 b0);clear own0 b0
 go_enter Tryz.func18,Tryz.ntmps18
 go_wp2
 go_ret
 exact⟨_,rfl,H0.out.1,H0.out.2⟩
theorem aY5 (w:World):Calls Tryz.prog 18 #[.int .i64 4] w fun e w'=>∃ u,e=.returned u/\w'.ownsRow w.heap.size 9 1 u 3 (aC [dV,bX,cQ])/\Below w.heap.size w w':=by
 have own0:(w.alloc (.cells #[.string ⟨#[115,99,114,105,112,116,45,115,114,99,45,101,108,101,109]⟩,.string ⟨#[115,99,114,105,112,116,45,115,114,99]⟩,.string ⟨#[100,101,102,97,117,108,116,45,115,114,99]⟩] 9)).ownsRow w.heap.size 9 1 (.slice (some ⟨w.heap.size,0,none⟩) 3 3) 3 (aC [dV,bX,cQ]):=lM w [dV,bX,cQ] 3 rfl (by decide) #[.string ⟨#[115,99,114,105,112,116,45,115,114,99,45,101,108,101,109]⟩,.string ⟨#[115,99,114,105,112,116,45,115,114,99]⟩,.string ⟨#[100,101,102,97,117,108,116,45,115,114,99]⟩] rfl;have b0:Below w.heap.size w (w.alloc (.cells #[.string ⟨#[115,99,114,105,112,116,45,115,114,99,45,101,108,101,109]⟩,.string ⟨#[115,99,114,105,112,116,45,115,114,99]⟩,.string ⟨#[100,101,102,97,117,108,116,45,115,114,99]⟩] 9)):=(Below.refl _ _).alloc (Nat.le_refl _) _;have H0:=zH (And.intro own0 b0);clear own0 b0
 go_enter Tryz.func18,Tryz.ntmps18
 go_wp2
 go_ret
 exact⟨_,rfl,H0.out.1,H0.out.2⟩
theorem aY4 (w:World):Calls Tryz.prog 18 #[.int .i64 5] w fun e w'=>∃ u,e=.returned u/\w'.ownsRow w.heap.size 9 1 u 2 (aC [bX,cQ])/\Below w.heap.size w w':=by
 have own0:(w.alloc (.cells #[.string ⟨#[115,99,114,105,112,116,45,115,114,99]⟩,.string ⟨#[100,101,102,97,117,108,116,45,115,114,99]⟩] 9)).ownsRow w.heap.size 9 1 (.slice (some ⟨w.heap.size,0,none⟩) 2 2) 2 (aC [bX,cQ]):=lM w [bX,cQ] 2 rfl (by decide) #[.string ⟨#[115,99,114,105,112,116,45,115,114,99]⟩,.string ⟨#[100,101,102,97,117,108,116,45,115,114,99]⟩] rfl;have b0:Below w.heap.size w (w.alloc (.cells #[.string ⟨#[115,99,114,105,112,116,45,115,114,99]⟩,.string ⟨#[100,101,102,97,117,108,116,45,115,114,99]⟩] 9)):=(Below.refl _ _).alloc (Nat.le_refl _) _;have H0:=zH (And.intro own0 b0);clear own0 b0
 go_enter Tryz.func18,Tryz.ntmps18
 go_wp2
 go_ret
 exact⟨_,rfl,H0.out.1,H0.out.2⟩
theorem aY3 (w:World):Calls Tryz.prog 18 #[.int .i64 6] w fun e w'=>∃ u,e=.returned u/\w'.ownsRow w.heap.size 9 1 u 2 (aC [bX,cQ])/\Below w.heap.size w w':=by
 have own0:(w.alloc (.cells #[.string ⟨#[115,99,114,105,112,116,45,115,114,99]⟩,.string ⟨#[100,101,102,97,117,108,116,45,115,114,99]⟩] 9)).ownsRow w.heap.size 9 1 (.slice (some ⟨w.heap.size,0,none⟩) 2 2) 2 (aC [bX,cQ]):=lM w [bX,cQ] 2 rfl (by decide) #[.string ⟨#[115,99,114,105,112,116,45,115,114,99]⟩,.string ⟨#[100,101,102,97,117,108,116,45,115,114,99]⟩] rfl;have b0:Below w.heap.size w (w.alloc (.cells #[.string ⟨#[115,99,114,105,112,116,45,115,114,99]⟩,.string ⟨#[100,101,102,97,117,108,116,45,115,114,99]⟩] 9)):=(Below.refl _ _).alloc (Nat.le_refl _) _;have H0:=zH (And.intro own0 b0);clear own0 b0
 go_enter Tryz.func18,Tryz.ntmps18
 go_wp2
 go_ret
 exact⟨_,rfl,H0.out.1,H0.out.2⟩
theorem aI6 (k:Int)(n1:(k==1)=false)(n2:(k==2)=false)(n3:(k==3)=false)(n4:(k==4)=false)(n5:(k==5)=false)(n6:(k==6)=false)(w:World):Calls Tryz.prog 18 #[.int .i64 k] w fun e w'=>∃ u,e=.returned u/\w'.ownsRow w.heap.size 9 1 u 0 (aC [])/\Below w.heap.size w w':=by
 go_enter Tryz.func18,Tryz.ntmps18
 go_wp2
 go_ret
 exact⟨_,rfl,World.ownsRow_nil w w.heap.size 9 1,Below.refl _ _⟩
theorem zJ (k:Int)(w:World):Calls Tryz.prog 18 #[.int .i64 k] w fun e w'=>∃ u,e=.returned u/\w'.ownsRow w.heap.size 9 1 u (bK k).length (aC (bK k))/\Below w.heap.size w w':=by
 by_cases h1:k=1
 · subst h1;exact aY8 w
 by_cases h2:k=2
 · subst h2;exact aY7 w
 by_cases h3:k=3
 · subst h3;exact aY6 w
 by_cases h4:k=4
 · subst h4;exact aY5 w
 by_cases h5:k=5
 · subst h5;exact aY4 w
 by_cases h6:k=6
 · subst h6;exact aY3 w
 have e:bK k=[]:=by
  unfold bK;rw[if_neg (by omega),if_neg h3,if_neg (by omega)]
 rw[e];exact aI6 k (beq_eq_false_iff_ne.2 h1) (beq_eq_false_iff_ne.2 h2) (beq_eq_false_iff_ne.2 h3) (beq_eq_false_iff_ne.2 h4) (beq_eq_false_iff_ne.2 h5) (beq_eq_false_iff_ne.2 h6) w
theorem pK (k:Int):Hid (∀ w,Calls Tryz.prog 18 #[.int .i64 k] w fun e w'=>∃ u,e=.returned u/\w'.ownsRow w.heap.size 9 1 u (bK k).length (aC (bK k))/\Below w.heap.size w w'):=zH fun w=>zJ k w
end Go.Proofs.YthnogdodlhkldaaGreatDoor
