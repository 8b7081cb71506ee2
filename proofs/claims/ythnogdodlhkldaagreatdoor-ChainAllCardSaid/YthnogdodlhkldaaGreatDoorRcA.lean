/- What the laws of chain share: blocks, facts. The names of a kind: the document's. -/
import Derived.Test.YthnogdodlhkldaaGreatDoorChH
set_option maxRecDepth 100000
set_option maxHeartbeats 2000000
namespace Go.Proofs.YthnogdodlhkldaaGreatDoor
open Go.RowKit
theorem bM.drew {w:World}{v:Value}{ps:List (List D × Bool)}(h:bM w v ps):bM w.drew v ps:=h
end Go.Proofs.YthnogdodlhkldaaGreatDoor
namespace Go.Proofs.YthnogdodlhkldaaGreatDoor
open Go.RowKit
theorem lR (w:World)(l:List (List UInt8))(n:Nat)(hn:n=l.length)(hm:n<=1000)(C:Array Value)(hC:C=(aC l).toArray):(w.alloc (.cells C 9)).ownsRow w.heap.size 9 1 (.slice (some ⟨w.heap.size,0,none⟩) n n) n (aC l):=by
 subst hn hC;refine⟨by simp[aC],.inr ⟨w.heap.size,l.length,_,rfl,zL _,aW w _,zL _,by unfold maxLen;omega,by simp[aC],?_⟩⟩;rw[Nat.mul_one];exact List.take_of_length_le (by simp[aC])
theorem bA0 (w:World):Calls Tryz.prog 18 #[.int .i64 1] w fun e w'=>∃ u,e=.returned u/\w'.ownsRow w.heap.size 9 1 u 3 (aC [dW,bZ,cR])/\Below w.heap.size w w':=by
 have own0:(w.alloc (.cells #[.string ⟨#[115,99,114,105,112,116,45,115,114,99,45,101,108,101,109]⟩,.string ⟨#[115,99,114,105,112,116,45,115,114,99]⟩,.string ⟨#[100,101,102,97,117,108,116,45,115,114,99]⟩] 9)).ownsRow w.heap.size 9 1 (.slice (some ⟨w.heap.size,0,none⟩) 3 3) 3 (aC [dW,bZ,cR]):=lR w [dW,bZ,cR] 3 rfl (by decide) #[.string ⟨#[115,99,114,105,112,116,45,115,114,99,45,101,108,101,109]⟩,.string ⟨#[115,99,114,105,112,116,45,115,114,99]⟩,.string ⟨#[100,101,102,97,117,108,116,45,115,114,99]⟩] rfl;have b0:Below w.heap.size w (w.alloc (.cells #[.string ⟨#[115,99,114,105,112,116,45,115,114,99,45,101,108,101,109]⟩,.string ⟨#[115,99,114,105,112,116,45,115,114,99]⟩,.string ⟨#[100,101,102,97,117,108,116,45,115,114,99]⟩] 9)):=(zB _ _).alloc (zL _) _;have H0:=zH (And.intro own0 b0);clear own0 b0
 go_enter Tryz.func18,Tryz.ntmps18
 go_wp2
 go_ret
 exact⟨_,rfl,H0.out.1,H0.out.2⟩
theorem aZ9 (w:World):Calls Tryz.prog 18 #[.int .i64 2] w fun e w'=>∃ u,e=.returned u/\w'.ownsRow w.heap.size 9 1 u 3 (aC [dW,bZ,cR])/\Below w.heap.size w w':=by
 have own0:(w.alloc (.cells #[.string ⟨#[115,99,114,105,112,116,45,115,114,99,45,101,108,101,109]⟩,.string ⟨#[115,99,114,105,112,116,45,115,114,99]⟩,.string ⟨#[100,101,102,97,117,108,116,45,115,114,99]⟩] 9)).ownsRow w.heap.size 9 1 (.slice (some ⟨w.heap.size,0,none⟩) 3 3) 3 (aC [dW,bZ,cR]):=lR w [dW,bZ,cR] 3 rfl (by decide) #[.string ⟨#[115,99,114,105,112,116,45,115,114,99,45,101,108,101,109]⟩,.string ⟨#[115,99,114,105,112,116,45,115,114,99]⟩,.string ⟨#[100,101,102,97,117,108,116,45,115,114,99]⟩] rfl;have b0:Below w.heap.size w (w.alloc (.cells #[.string ⟨#[115,99,114,105,112,116,45,115,114,99,45,101,108,101,109]⟩,.string ⟨#[115,99,114,105,112,116,45,115,114,99]⟩,.string ⟨#[100,101,102,97,117,108,116,45,115,114,99]⟩] 9)):=(zB _ _).alloc (zL _) _;have H0:=zH (And.intro own0 b0);clear own0 b0
 go_enter Tryz.func18,Tryz.ntmps18
 go_wp2
 go_ret
 exact⟨_,rfl,H0.out.1,H0.out.2⟩
theorem aZ8 (w:World):Calls Tryz.prog 18 #[.int .i64 3] w fun e w'=>∃ u,e=.returned u/\w'.ownsRow w.heap.size 9 1 u 3 (aC [kL,bZ,cR])/\Below w.heap.size w w':=by
 have own0:(w.alloc (.cells #[.string ⟨#[115,99,114,105,112,116,45,115,114,99,45,97,116,116,114]⟩,.string ⟨#[115,99,114,105,112,116,45,115,114,99]⟩,.string ⟨#[100,101,102,97,117,108,116,45,115,114,99]⟩] 9)).ownsRow w.heap.size 9 1 (.slice (some ⟨w.heap.size,0,none⟩) 3 3) 3 (aC [kL,bZ,cR]):=lR w [kL,bZ,cR] 3 rfl (by decide) #[.string ⟨#[115,99,114,105,112,116,45,115,114,99,45,97,116,116,114]⟩,.string ⟨#[115,99,114,105,112,116,45,115,114,99]⟩,.string ⟨#[100,101,102,97,117,108,116,45,115,114,99]⟩] rfl;have b0:Below w.heap.size w (w.alloc (.cells #[.string ⟨#[115,99,114,105,112,116,45,115,114,99,45,97,116,116,114]⟩,.string ⟨#[115,99,114,105,112,116,45,115,114,99]⟩,.string ⟨#[100,101,102,97,117,108,116,45,115,114,99]⟩] 9)):=(zB _ _).alloc (zL _) _;have H0:=zH (And.intro own0 b0);clear own0 b0
 go_enter Tryz.func18,Tryz.ntmps18
 go_wp2
 go_ret
 exact⟨_,rfl,H0.out.1,H0.out.2⟩
theorem aZ7 (w:World):Calls Tryz.prog 18 #[.int .i64 4] w fun e w'=>∃ u,e=.returned u/\w'.ownsRow w.heap.size 9 1 u 3 (aC [dW,bZ,cR])/\Below w.heap.size w w':=by
 have own0:(w.alloc (.cells #[.string ⟨#[115,99,114,105,112,116,45,115,114,99,45,101,108,101,109]⟩,.string ⟨#[115,99,114,105,112,116,45,115,114,99]⟩,.string ⟨#[100,101,102,97,117,108,116,45,115,114,99]⟩] 9)).ownsRow w.heap.size 9 1 (.slice (some ⟨w.heap.size,0,none⟩) 3 3) 3 (aC [dW,bZ,cR]):=lR w [dW,bZ,cR] 3 rfl (by decide) #[.string ⟨#[115,99,114,105,112,116,45,115,114,99,45,101,108,101,109]⟩,.string ⟨#[115,99,114,105,112,116,45,115,114,99]⟩,.string ⟨#[100,101,102,97,117,108,116,45,115,114,99]⟩] rfl;have b0:Below w.heap.size w (w.alloc (.cells #[.string ⟨#[115,99,114,105,112,116,45,115,114,99,45,101,108,101,109]⟩,.string ⟨#[115,99,114,105,112,116,45,115,114,99]⟩,.string ⟨#[100,101,102,97,117,108,116,45,115,114,99]⟩] 9)):=(zB _ _).alloc (zL _) _;have H0:=zH (And.intro own0 b0);clear own0 b0
 go_enter Tryz.func18,Tryz.ntmps18
 go_wp2
 go_ret
 exact⟨_,rfl,H0.out.1,H0.out.2⟩
theorem aZ6 (w:World):Calls Tryz.prog 18 #[.int .i64 5] w fun e w'=>∃ u,e=.returned u/\w'.ownsRow w.heap.size 9 1 u 2 (aC [bZ,cR])/\Below w.heap.size w w':=by
 have own0:(w.alloc (.cells #[.string ⟨#[115,99,114,105,112,116,45,115,114,99]⟩,.string ⟨#[100,101,102,97,117,108,116,45,115,114,99]⟩] 9)).ownsRow w.heap.size 9 1 (.slice (some ⟨w.heap.size,0,none⟩) 2 2) 2 (aC [bZ,cR]):=lR w [bZ,cR] 2 rfl (by decide) #[.string ⟨#[115,99,114,105,112,116,45,115,114,99]⟩,.string ⟨#[100,101,102,97,117,108,116,45,115,114,99]⟩] rfl;have b0:Below w.heap.size w (w.alloc (.cells #[.string ⟨#[115,99,114,105,112,116,45,115,114,99]⟩,.string ⟨#[100,101,102,97,117,108,116,45,115,114,99]⟩] 9)):=(zB _ _).alloc (zL _) _;have H0:=zH (And.intro own0 b0);clear own0 b0
 go_enter Tryz.func18,Tryz.ntmps18
 go_wp2
 go_ret
 exact⟨_,rfl,H0.out.1,H0.out.2⟩
theorem aZ5 (w:World):Calls Tryz.prog 18 #[.int .i64 6] w fun e w'=>∃ u,e=.returned u/\w'.ownsRow w.heap.size 9 1 u 2 (aC [bZ,cR])/\Below w.heap.size w w':=by
 have own0:(w.alloc (.cells #[.string ⟨#[115,99,114,105,112,116,45,115,114,99]⟩,.string ⟨#[100,101,102,97,117,108,116,45,115,114,99]⟩] 9)).ownsRow w.heap.size 9 1 (.slice (some ⟨w.heap.size,0,none⟩) 2 2) 2 (aC [bZ,cR]):=lR w [bZ,cR] 2 rfl (by decide) #[.string ⟨#[115,99,114,105,112,116,45,115,114,99]⟩,.string ⟨#[100,101,102,97,117,108,116,45,115,114,99]⟩] rfl;have b0:Below w.heap.size w (w.alloc (.cells #[.string ⟨#[115,99,114,105,112,116,45,115,114,99]⟩,.string ⟨#[100,101,102,97,117,108,116,45,115,114,99]⟩] 9)):=(zB _ _).alloc (zL _) _;have H0:=zH (And.intro own0 b0);clear own0 b0
 go_enter Tryz.func18,Tryz.ntmps18
 go_wp2
 go_ret
 exact⟨_,rfl,H0.out.1,H0.out.2⟩
theorem aJ4 (k:Int)(n1:(k==1)=false)(n2:(k==2)=false)(n3:(k==3)=false)(n4:(k==4)=false)(n5:(k==5)=false)(n6:(k==6)=false)(w:World):Calls Tryz.prog 18 #[.int .i64 k] w fun e w'=>∃ u,e=.returned u/\w'.ownsRow w.heap.size 9 1 u 0 (aC [])/\Below w.heap.size w w':=by
 go_enter Tryz.func18,Tryz.ntmps18
 go_wp2
 go_ret
 exact⟨_,rfl,World.ownsRow_nil w w.heap.size 9 1,zB _ _⟩
theorem zN (k:Int)(w:World):Calls Tryz.prog 18 #[.int .i64 k] w fun e w'=>∃ u,e=.returned u/\w'.ownsRow w.heap.size 9 1 u (bL k).length (aC (bL k))/\Below w.heap.size w w':=by
 by_cases h1:k=1
 · subst h1;exact bA0 w
 by_cases h2:k=2
 · subst h2;exact aZ9 w
 by_cases h3:k=3
 · subst h3;exact aZ8 w
 by_cases h4:k=4
 · subst h4;exact aZ7 w
 by_cases h5:k=5
 · subst h5;exact aZ6 w
 by_cases h6:k=6
 · subst h6;exact aZ5 w
 have e:bL k=[]:=by
  unfold bL;rw[if_neg (by omega),if_neg h3,if_neg (by omega)]
 rw[e];exact aJ4 k (beq_eq_false_iff_ne.2 h1) (beq_eq_false_iff_ne.2 h2) (beq_eq_false_iff_ne.2 h3) (beq_eq_false_iff_ne.2 h4) (beq_eq_false_iff_ne.2 h5) (beq_eq_false_iff_ne.2 h6) w
theorem pR (k:Int):Hid (∀ w,Calls Tryz.prog 18 #[.int .i64 k] w fun e w'=>∃ u,e=.returned u/\w'.ownsRow w.heap.size 9 1 u (bL k).length (aC (bL k))/\Below w.heap.size w w'):=zH fun w=>zN k w
end Go.Proofs.YthnogdodlhkldaaGreatDoor
