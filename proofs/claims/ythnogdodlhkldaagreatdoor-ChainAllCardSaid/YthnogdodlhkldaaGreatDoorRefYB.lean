/- Whether a source lets an address be: the document's. -/
import Derived.Test.YthnogdodlhkldaaGreatDoorRefYA
import Derived.Test.YthnogdodlhkldaaGreatDoorMtY
set_option maxRecDepth 100000
set_option maxHeartbeats 8000000
namespace Go.Proofs.YthnogdodlhkldaaGreatDoor
open Go.RowKit
theorem wF (o:Bool)(s2 h2:ByteArray)(p:Int)(pa2 q2:ByteArray)(o3:Bool)(s3 h3:ByteArray)(p3:Int)(pa3 q3:ByteArray)(oa:Bool)(sx hx:ByteArray)(px:Int)(ob:Bool)(sy hy:ByteArray)(py:Int)(CO1:Hid (∀ W,aQ W->aS W->Calls Tryz.prog 208 #[uV o s2 h2 p pa2 q2] W fun e w'=>e=.returned (oV ob sy hy py)/\Below W.heap.size W w'))(CO2:Hid (∀ W,aQ W->aS W->Calls Tryz.prog 208 #[uV o3 s3 h3 p3 pa3 q3] W fun e w'=>e=.returned (oV oa sx hx px)/\Below W.heap.size W w'))(CS:Hid (∀ W,Calls Tryz.prog 207 #[oV ob sy hy py,oV oa sx hx px] W fun e w'=>e=.returned (.bool true)/\Below W.heap.size W w'))(w:World)(hm:aQ w)(ht:aS w):Calls Tryz.prog 154 #[uV o s2 h2 p pa2 q2,uV o3 s3 h3 p3 pa3 q3] w fun e w'=>e=.returned (.bool true)/\Below w.heap.size w w':=by
 unfold uV oV at *
 go_enter Tryz.func154,Tryz.ntmps154
 go_wp2_with fail
 have xn:=BX.made w o s2 h2 p pa2 q2;have xz:=BX.made (w.alloc (.cells #[.bool o,.string s2,.string h2,.int .i64 p,.string pa2,.string q2] 40)) o3 s3 h3 p3 pa3 q3;have xy:=xn.below ((zB _ _).alloc (zL _) (.cells #[.bool o3,.string s3,.string h3,.int .i64 p3,.string pa3,.string q3] 40));have mB:=(hm.made (.cells #[.bool o,.string s2,.string h2,.int .i64 p,.string pa2,.string q2] 40)).made (.cells #[.bool o3,.string s3,.string h3,.int .i64 p3,.string pa3,.string q3] 40);have tB:=(ht.made (.cells #[.bool o,.string s2,.string h2,.int .i64 p,.string pa2,.string q2] 40)).made (.cells #[.bool o3,.string s3,.string h3,.int .i64 p3,.string pa3,.string q3] 40);have BB:=((zB w.heap.size w).alloc (zL _) (.cells #[.bool o,.string s2,.string h2,.int .i64 p,.string pa2,.string q2] 40)).alloc (Below.size ((zB w.heap.size w).alloc (zL _) (.cells #[.bool o,.string s2,.string h2,.int .i64 p,.string pa2,.string q2] 40))) (.cells #[.bool o3,.string s3,.string h3,.int .i64 p3,.string pa3,.string q3] 40);rw[bD]at xz;clear xn hm ht;generalize hR:w.heap.size=Ra at xy xz BB ⊢;have HR:=zH hR;clear hR;obtain⟨Rb,hRb⟩:∃ Rb,Ra+1=Rb:=⟨_,rfl⟩;rw[hRb]at xz
 try rw[hRb]
 clear hRb;generalize(w.alloc (.cells #[.bool o,.string s2,.string h2,.int .i64 p,.string pa2,.string q2] 40)).alloc (.cells #[.bool o3,.string s3,.string h3,.int .i64 p3,.string pa3,.string q3] 40)=w1 at xy xz mB tB BB ⊢;have xRa_w1:=xy;have xRb_w1:=xz;clear xy xz;obtain⟨C,hC⟩:∃ C:World->Prop,∀ w',C w'↔(BX w' Ra o s2 h2 p pa2 q2/\BX w' Rb o3 s3 h3 p3 pa3 q3/\Below Ra w w'/\aQ w'/\aS w'):=⟨_,fun _=>Iff.rfl⟩;have HC:=zH hC;clear hC;have hC0:C w1.drew:=(HC.out _).2 ⟨xRa_w1,xRb_w1,BB.drew,mB,tB⟩
 have HK:Hid (∀ w',C w'->∀ w7,Below w'.heap.size w' w7->C w7):=zH fun w' hc w7 b=>by
  obtain⟨xRa,xRb,K4,m7,t7⟩:=(HC.out w').1 hc;exact(HC.out _).2 ⟨xRa.below b,xRb.below b,K4.trans (b.mono (zT xRa.lt)),m7.below b,t7.below b⟩
 clear xRa_w1 xRb_w1 BB mB tB;refine aY C (by kernel_rfl) (by kernel_rfl) hC0 ?_;clear hC0
 repeat
  first
   | go_big_quiet_skip
   | (go_big_quiet_want;go_big_quiet_op;go_big_quiet_on)
   | (refine BigFrame.wpQuiet_want rfl (fun K hK => ?_)
      apply Exists.intro
      refine⟨fun w' hc => ?_,hK _ ?_⟩
      · obtain⟨xRa,xRb,K4,m7,t7⟩:=(HC.out w').1 hc
        obtain⟨dRa0,dRa1,dRa2,dRa3,dRa4,dRa5⟩:=xRa.cs;obtain⟨dRb0,dRb1,dRb2,dRb3,dRb4,dRb5⟩:=xRb.cs;unfold Oper.quietAt
        go_simp
        first
         | done
         | rfl
         | ((with_reducible refine(CO1.out _ m7 t7).mono ?_);rintro e w7 ⟨rfl,b7⟩;exact⟨rfl,HK.out w' hc w7 b7⟩)
         | ((with_reducible refine(CO2.out _ m7 t7).mono ?_);rintro e w7 ⟨rfl,b7⟩;exact⟨rfl,HK.out w' hc w7 b7⟩)
         | ((with_reducible refine(CS.out _).mono ?_);rintro e w7 ⟨rfl,b7⟩;exact⟨rfl,HK.out w' hc w7 b7⟩)
      clear hK K
      simp only[Act.put,List.setIfInBounds_toArray,List.set_cons_zero,List.set_cons_succ])
 refine wpQuiet_nil ?_;intro w2 hc;obtain⟨xRa_w2,xRb_w2,Bw2,mw2,tw2⟩:=(HC.out w2).1 hc;clear hc HC HK
 go_wp2
 go_ret
 exact⟨rfl,by rw[HR.out];exact Bw2⟩
theorem bA4 (o:Bool)(s2 h2:ByteArray)(p:Int)(pa2 q2:ByteArray)(o3:Bool)(s3 h3:ByteArray)(p3:Int)(pa3 q3:ByteArray)(oa:Bool)(sx hx:ByteArray)(px:Int)(ob:Bool)(sy hy:ByteArray)(py:Int)(CO1:Hid (∀ W,aQ W->aS W->Calls Tryz.prog 208 #[uV o s2 h2 p pa2 q2] W fun e w'=>e=.returned (oV ob sy hy py)/\Below W.heap.size W w'))(CO2:Hid (∀ W,aQ W->aS W->Calls Tryz.prog 208 #[uV o3 s3 h3 p3 pa3 q3] W fun e w'=>e=.returned (oV oa sx hx px)/\Below W.heap.size W w'))(CS:Hid (∀ W,Calls Tryz.prog 207 #[oV ob sy hy py,oV oa sx hx px] W fun e w'=>e=.returned (.bool false)/\Below W.heap.size W w'))(CR:Hid (∀ W,Calls Tryz.prog 152 #[uV o3 s3 h3 p3 pa3 q3] W fun e w'=>e=.returned (.bool false)/\Below W.heap.size W w'))(w:World)(hm:aQ w)(ht:aS w):Calls Tryz.prog 154 #[uV o s2 h2 p pa2 q2,uV o3 s3 h3 p3 pa3 q3] w fun e w'=>e=.returned (.bool false)/\Below w.heap.size w w':=by
 unfold uV oV at *
 go_enter Tryz.func154,Tryz.ntmps154
 go_wp2_with fail
 have xn:=BX.made w o s2 h2 p pa2 q2;have xz:=BX.made (w.alloc (.cells #[.bool o,.string s2,.string h2,.int .i64 p,.string pa2,.string q2] 40)) o3 s3 h3 p3 pa3 q3;have xy:=xn.below ((zB _ _).alloc (zL _) (.cells #[.bool o3,.string s3,.string h3,.int .i64 p3,.string pa3,.string q3] 40));have mB:=(hm.made (.cells #[.bool o,.string s2,.string h2,.int .i64 p,.string pa2,.string q2] 40)).made (.cells #[.bool o3,.string s3,.string h3,.int .i64 p3,.string pa3,.string q3] 40);have tB:=(ht.made (.cells #[.bool o,.string s2,.string h2,.int .i64 p,.string pa2,.string q2] 40)).made (.cells #[.bool o3,.string s3,.string h3,.int .i64 p3,.string pa3,.string q3] 40);have BB:=((zB w.heap.size w).alloc (zL _) (.cells #[.bool o,.string s2,.string h2,.int .i64 p,.string pa2,.string q2] 40)).alloc (Below.size ((zB w.heap.size w).alloc (zL _) (.cells #[.bool o,.string s2,.string h2,.int .i64 p,.string pa2,.string q2] 40))) (.cells #[.bool o3,.string s3,.string h3,.int .i64 p3,.string pa3,.string q3] 40);rw[bD]at xz;clear xn hm ht;generalize hR:w.heap.size=Ra at xy xz BB ⊢;have HR:=zH hR;clear hR;obtain⟨Rb,hRb⟩:∃ Rb,Ra+1=Rb:=⟨_,rfl⟩;rw[hRb]at xz
 try rw[hRb]
 clear hRb;generalize(w.alloc (.cells #[.bool o,.string s2,.string h2,.int .i64 p,.string pa2,.string q2] 40)).alloc (.cells #[.bool o3,.string s3,.string h3,.int .i64 p3,.string pa3,.string q3] 40)=w1 at xy xz mB tB BB ⊢;have xRa_w1:=xy;have xRb_w1:=xz;clear xy xz;obtain⟨C,hC⟩:∃ C:World->Prop,∀ w',C w'↔(BX w' Ra o s2 h2 p pa2 q2/\BX w' Rb o3 s3 h3 p3 pa3 q3/\Below Ra w w'/\aQ w'/\aS w'):=⟨_,fun _=>Iff.rfl⟩;have HC:=zH hC;clear hC;have hC0:C w1.drew:=(HC.out _).2 ⟨xRa_w1,xRb_w1,BB.drew,mB,tB⟩
 have HK:Hid (∀ w',C w'->∀ w7,Below w'.heap.size w' w7->C w7):=zH fun w' hc w7 b=>by
  obtain⟨xRa,xRb,K4,m7,t7⟩:=(HC.out w').1 hc;exact(HC.out _).2 ⟨xRa.below b,xRb.below b,K4.trans (b.mono (zT xRa.lt)),m7.below b,t7.below b⟩
 clear xRa_w1 xRb_w1 BB mB tB;refine aY C (by kernel_rfl) (by kernel_rfl) hC0 ?_;clear hC0
 repeat
  first
   | go_big_quiet_skip
   | (go_big_quiet_want;go_big_quiet_op;go_big_quiet_on)
   | (refine BigFrame.wpQuiet_want rfl (fun K hK => ?_)
      apply Exists.intro
      refine⟨fun w' hc => ?_,hK _ ?_⟩
      · obtain⟨xRa,xRb,K4,m7,t7⟩:=(HC.out w').1 hc
        obtain⟨dRa0,dRa1,dRa2,dRa3,dRa4,dRa5⟩:=xRa.cs;obtain⟨dRb0,dRb1,dRb2,dRb3,dRb4,dRb5⟩:=xRb.cs;unfold Oper.quietAt
        go_simp
        first
         | done
         | rfl
         | ((with_reducible refine(CO1.out _ m7 t7).mono ?_);rintro e w7 ⟨rfl,b7⟩;exact⟨rfl,HK.out w' hc w7 b7⟩)
         | ((with_reducible refine(CO2.out _ m7 t7).mono ?_);rintro e w7 ⟨rfl,b7⟩;exact⟨rfl,HK.out w' hc w7 b7⟩)
         | ((with_reducible refine(CS.out _).mono ?_);rintro e w7 ⟨rfl,b7⟩;exact⟨rfl,HK.out w' hc w7 b7⟩)
      clear hK K
      simp only[Act.put,List.setIfInBounds_toArray,List.set_cons_zero,List.set_cons_succ])
 refine wpQuiet_nil ?_;intro w2 hc;obtain⟨xRa_w2,xRb_w2,Bw2,mw2,tw2⟩:=(HC.out w2).1 hc;clear hc HC HK;obtain⟨dRa0,dRa1,dRa2,dRa3,dRa4,dRa5⟩:=xRa_w2.cs;obtain⟨dRb0,dRb1,dRb2,dRb3,dRb4,dRb5⟩:=xRb_w2.cs
 go_wp2_with fail
 clear dRa0 dRa1 dRa2 dRa3 dRa4 dRa5 dRb0 dRb1 dRb2 dRb3 dRb4 dRb5;refine(CR.out _ ).mono ?_;rintro e w3 ⟨rfl,b_⟩;have mw3:=mw2.below b_;have tw3:=tw2.below b_;have Bw3:=Bw2.trans (b_.mono (zT xRa_w2.lt));have xRa_w3:=xRa_w2.below b_;have xRb_w3:=xRb_w2.below b_;clear b_ mw2 tw2 Bw2 xRa_w2 xRb_w2
 go_wp2
 go_ret
 exact⟨rfl,by rw[HR.out];exact Bw3⟩
theorem bA6 (s2 h2:ByteArray)(p:Int)(pa2 q2:ByteArray)(o3:Bool)(s3 h3:ByteArray)(p3:Int)(pa3 q3:ByteArray)(oa:Bool)(sx hx:ByteArray)(px:Int)(ob:Bool)(sy hy:ByteArray)(py:Int)(CO1:Hid (∀ W,aQ W->aS W->Calls Tryz.prog 208 #[uV true s2 h2 p pa2 q2] W fun e w'=>e=.returned (oV ob sy hy py)/\Below W.heap.size W w'))(CO2:Hid (∀ W,aQ W->aS W->Calls Tryz.prog 208 #[uV o3 s3 h3 p3 pa3 q3] W fun e w'=>e=.returned (oV oa sx hx px)/\Below W.heap.size W w'))(CS:Hid (∀ W,Calls Tryz.prog 207 #[oV ob sy hy py,oV oa sx hx px] W fun e w'=>e=.returned (.bool false)/\Below W.heap.size W w'))(CR:Hid (∀ W,Calls Tryz.prog 152 #[uV o3 s3 h3 p3 pa3 q3] W fun e w'=>e=.returned (.bool true)/\Below W.heap.size W w'))(w:World)(hm:aQ w)(ht:aS w):Calls Tryz.prog 154 #[uV true s2 h2 p pa2 q2,uV o3 s3 h3 p3 pa3 q3] w fun e w'=>e=.returned (.bool false)/\Below w.heap.size w w':=by
 unfold uV oV at *
 go_enter Tryz.func154,Tryz.ntmps154
 go_wp2_with fail
 have xn:=BX.made w true s2 h2 p pa2 q2;have xz:=BX.made (w.alloc (.cells #[.bool true,.string s2,.string h2,.int .i64 p,.string pa2,.string q2] 40)) o3 s3 h3 p3 pa3 q3;have xy:=xn.below ((zB _ _).alloc (zL _) (.cells #[.bool o3,.string s3,.string h3,.int .i64 p3,.string pa3,.string q3] 40));have mB:=(hm.made (.cells #[.bool true,.string s2,.string h2,.int .i64 p,.string pa2,.string q2] 40)).made (.cells #[.bool o3,.string s3,.string h3,.int .i64 p3,.string pa3,.string q3] 40);have tB:=(ht.made (.cells #[.bool true,.string s2,.string h2,.int .i64 p,.string pa2,.string q2] 40)).made (.cells #[.bool o3,.string s3,.string h3,.int .i64 p3,.string pa3,.string q3] 40);have BB:=((zB w.heap.size w).alloc (zL _) (.cells #[.bool true,.string s2,.string h2,.int .i64 p,.string pa2,.string q2] 40)).alloc (Below.size ((zB w.heap.size w).alloc (zL _) (.cells #[.bool true,.string s2,.string h2,.int .i64 p,.string pa2,.string q2] 40))) (.cells #[.bool o3,.string s3,.string h3,.int .i64 p3,.string pa3,.string q3] 40);rw[bD]at xz;clear xn hm ht;generalize hR:w.heap.size=Ra at xy xz BB ⊢;have HR:=zH hR;clear hR;obtain⟨Rb,hRb⟩:∃ Rb,Ra+1=Rb:=⟨_,rfl⟩;rw[hRb]at xz
 try rw[hRb]
 clear hRb;generalize(w.alloc (.cells #[.bool true,.string s2,.string h2,.int .i64 p,.string pa2,.string q2] 40)).alloc (.cells #[.bool o3,.string s3,.string h3,.int .i64 p3,.string pa3,.string q3] 40)=w1 at xy xz mB tB BB ⊢;have xRa_w1:=xy;have xRb_w1:=xz;clear xy xz;obtain⟨C,hC⟩:∃ C:World->Prop,∀ w',C w'↔(BX w' Ra true s2 h2 p pa2 q2/\BX w' Rb o3 s3 h3 p3 pa3 q3/\Below Ra w w'/\aQ w'/\aS w'):=⟨_,fun _=>Iff.rfl⟩;have HC:=zH hC;clear hC;have hC0:C w1.drew:=(HC.out _).2 ⟨xRa_w1,xRb_w1,BB.drew,mB,tB⟩
 have HK:Hid (∀ w',C w'->∀ w7,Below w'.heap.size w' w7->C w7):=zH fun w' hc w7 b=>by
  obtain⟨xRa,xRb,K4,m7,t7⟩:=(HC.out w').1 hc;exact(HC.out _).2 ⟨xRa.below b,xRb.below b,K4.trans (b.mono (zT xRa.lt)),m7.below b,t7.below b⟩
 clear xRa_w1 xRb_w1 BB mB tB;refine aY C (by kernel_rfl) (by kernel_rfl) hC0 ?_;clear hC0
 repeat
  first
   | go_big_quiet_skip
   | (go_big_quiet_want;go_big_quiet_op;go_big_quiet_on)
   | (refine BigFrame.wpQuiet_want rfl (fun K hK => ?_)
      apply Exists.intro
      refine⟨fun w' hc => ?_,hK _ ?_⟩
      · obtain⟨xRa,xRb,K4,m7,t7⟩:=(HC.out w').1 hc
        obtain⟨dRa0,dRa1,dRa2,dRa3,dRa4,dRa5⟩:=xRa.cs;obtain⟨dRb0,dRb1,dRb2,dRb3,dRb4,dRb5⟩:=xRb.cs;unfold Oper.quietAt
        go_simp
        first
         | done
         | rfl
         | ((with_reducible refine(CO1.out _ m7 t7).mono ?_);rintro e w7 ⟨rfl,b7⟩;exact⟨rfl,HK.out w' hc w7 b7⟩)
         | ((with_reducible refine(CO2.out _ m7 t7).mono ?_);rintro e w7 ⟨rfl,b7⟩;exact⟨rfl,HK.out w' hc w7 b7⟩)
         | ((with_reducible refine(CS.out _).mono ?_);rintro e w7 ⟨rfl,b7⟩;exact⟨rfl,HK.out w' hc w7 b7⟩)
      clear hK K
      simp only[Act.put,List.setIfInBounds_toArray,List.set_cons_zero,List.set_cons_succ])
 refine wpQuiet_nil ?_;intro w2 hc;obtain⟨xRa_w2,xRb_w2,Bw2,mw2,tw2⟩:=(HC.out w2).1 hc;clear hc HC HK;obtain⟨dRa0,dRa1,dRa2,dRa3,dRa4,dRa5⟩:=xRa_w2.cs;obtain⟨dRb0,dRb1,dRb2,dRb3,dRb4,dRb5⟩:=xRb_w2.cs
 go_wp2_with fail
 clear dRa0 dRa1 dRa2 dRa3 dRa4 dRa5 dRb0 dRb1 dRb2 dRb3 dRb4 dRb5;refine(CR.out _ ).mono ?_;rintro e w3 ⟨rfl,b_⟩;have mw3:=mw2.below b_;have tw3:=tw2.below b_;have Bw3:=Bw2.trans (b_.mono (zT xRa_w2.lt));have xRa_w3:=xRa_w2.below b_;have xRb_w3:=xRb_w2.below b_;clear b_ mw2 tw2 Bw2 xRa_w2 xRb_w2;obtain⟨dRa0,dRa1,dRa2,dRa3,dRa4,dRa5⟩:=xRa_w3.cs;obtain⟨dRb0,dRb1,dRb2,dRb3,dRb4,dRb5⟩:=xRb_w3.cs
 go_wp2
 go_ret
 exact⟨rfl,by rw[HR.out];exact Bw3⟩
theorem aK9 (s2 h2:ByteArray)(p:Int)(pa2 q2:ByteArray)(s3 h3:ByteArray)(p3:Int)(pa3 q3:ByteArray)(oa:Bool)(sx hx:ByteArray)(px:Int)(ob:Bool)(sy hy:ByteArray)(py:Int)(CO1:Hid (∀ W,aQ W->aS W->Calls Tryz.prog 208 #[uV false s2 h2 p pa2 q2] W fun e w'=>e=.returned (oV ob sy hy py)/\Below W.heap.size W w'))(CO2:Hid (∀ W,aQ W->aS W->Calls Tryz.prog 208 #[uV true s3 h3 p3 pa3 q3] W fun e w'=>e=.returned (oV oa sx hx px)/\Below W.heap.size W w'))(CS:Hid (∀ W,Calls Tryz.prog 207 #[oV ob sy hy py,oV oa sx hx px] W fun e w'=>e=.returned (.bool false)/\Below W.heap.size W w'))(CR:Hid (∀ W,Calls Tryz.prog 152 #[uV true s3 h3 p3 pa3 q3] W fun e w'=>e=.returned (.bool true)/\Below W.heap.size W w'))(w:World)(hm:aQ w)(ht:aS w):Calls Tryz.prog 154 #[uV false s2 h2 p pa2 q2,uV true s3 h3 p3 pa3 q3] w fun e w'=>e=.returned (.bool false)/\Below w.heap.size w w':=by
 unfold uV oV at *
 go_enter Tryz.func154,Tryz.ntmps154
 go_wp2_with fail
 have xn:=BX.made w false s2 h2 p pa2 q2;have xz:=BX.made (w.alloc (.cells #[.bool false,.string s2,.string h2,.int .i64 p,.string pa2,.string q2] 40)) true s3 h3 p3 pa3 q3;have xy:=xn.below ((zB _ _).alloc (zL _) (.cells #[.bool true,.string s3,.string h3,.int .i64 p3,.string pa3,.string q3] 40));have mB:=(hm.made (.cells #[.bool false,.string s2,.string h2,.int .i64 p,.string pa2,.string q2] 40)).made (.cells #[.bool true,.string s3,.string h3,.int .i64 p3,.string pa3,.string q3] 40);have tB:=(ht.made (.cells #[.bool false,.string s2,.string h2,.int .i64 p,.string pa2,.string q2] 40)).made (.cells #[.bool true,.string s3,.string h3,.int .i64 p3,.string pa3,.string q3] 40);have BB:=((zB w.heap.size w).alloc (zL _) (.cells #[.bool false,.string s2,.string h2,.int .i64 p,.string pa2,.string q2] 40)).alloc (Below.size ((zB w.heap.size w).alloc (zL _) (.cells #[.bool false,.string s2,.string h2,.int .i64 p,.string pa2,.string q2] 40))) (.cells #[.bool true,.string s3,.string h3,.int .i64 p3,.string pa3,.string q3] 40);rw[bD]at xz;clear xn hm ht;generalize hR:w.heap.size=Ra at xy xz BB ⊢;have HR:=zH hR;clear hR;obtain⟨Rb,hRb⟩:∃ Rb,Ra+1=Rb:=⟨_,rfl⟩;rw[hRb]at xz
 try rw[hRb]
 clear hRb;generalize(w.alloc (.cells #[.bool false,.string s2,.string h2,.int .i64 p,.string pa2,.string q2] 40)).alloc (.cells #[.bool true,.string s3,.string h3,.int .i64 p3,.string pa3,.string q3] 40)=w1 at xy xz mB tB BB ⊢;have xRa_w1:=xy;have xRb_w1:=xz;clear xy xz;obtain⟨C,hC⟩:∃ C:World->Prop,∀ w',C w'↔(BX w' Ra false s2 h2 p pa2 q2/\BX w' Rb true s3 h3 p3 pa3 q3/\Below Ra w w'/\aQ w'/\aS w'):=⟨_,fun _=>Iff.rfl⟩;have HC:=zH hC;clear hC;have hC0:C w1.drew:=(HC.out _).2 ⟨xRa_w1,xRb_w1,BB.drew,mB,tB⟩
 have HK:Hid (∀ w',C w'->∀ w7,Below w'.heap.size w' w7->C w7):=zH fun w' hc w7 b=>by
  obtain⟨xRa,xRb,K4,m7,t7⟩:=(HC.out w').1 hc;exact(HC.out _).2 ⟨xRa.below b,xRb.below b,K4.trans (b.mono (zT xRa.lt)),m7.below b,t7.below b⟩
 clear xRa_w1 xRb_w1 BB mB tB;refine aY C (by kernel_rfl) (by kernel_rfl) hC0 ?_;clear hC0
 repeat
  first
   | go_big_quiet_skip
   | (go_big_quiet_want;go_big_quiet_op;go_big_quiet_on)
   | (refine BigFrame.wpQuiet_want rfl (fun K hK => ?_)
      apply Exists.intro
      refine⟨fun w' hc => ?_,hK _ ?_⟩
      · obtain⟨xRa,xRb,K4,m7,t7⟩:=(HC.out w').1 hc
        obtain⟨dRa0,dRa1,dRa2,dRa3,dRa4,dRa5⟩:=xRa.cs;obtain⟨dRb0,dRb1,dRb2,dRb3,dRb4,dRb5⟩:=xRb.cs;unfold Oper.quietAt
        go_simp
        first
         | done
         | rfl
         | ((with_reducible refine(CO1.out _ m7 t7).mono ?_);rintro e w7 ⟨rfl,b7⟩;exact⟨rfl,HK.out w' hc w7 b7⟩)
         | ((with_reducible refine(CO2.out _ m7 t7).mono ?_);rintro e w7 ⟨rfl,b7⟩;exact⟨rfl,HK.out w' hc w7 b7⟩)
         | ((with_reducible refine(CS.out _).mono ?_);rintro e w7 ⟨rfl,b7⟩;exact⟨rfl,HK.out w' hc w7 b7⟩)
      clear hK K
      simp only[Act.put,List.setIfInBounds_toArray,List.set_cons_zero,List.set_cons_succ])
 refine wpQuiet_nil ?_;intro w2 hc;obtain⟨xRa_w2,xRb_w2,Bw2,mw2,tw2⟩:=(HC.out w2).1 hc;clear hc HC HK;obtain⟨dRa0,dRa1,dRa2,dRa3,dRa4,dRa5⟩:=xRa_w2.cs;obtain⟨dRb0,dRb1,dRb2,dRb3,dRb4,dRb5⟩:=xRb_w2.cs
 go_wp2_with fail
 clear dRa0 dRa1 dRa2 dRa3 dRa4 dRa5 dRb0 dRb1 dRb2 dRb3 dRb4 dRb5;refine(CR.out _ ).mono ?_;rintro e w3 ⟨rfl,b_⟩;have mw3:=mw2.below b_;have tw3:=tw2.below b_;have Bw3:=Bw2.trans (b_.mono (zT xRa_w2.lt));have xRa_w3:=xRa_w2.below b_;have xRb_w3:=xRb_w2.below b_;clear b_ mw2 tw2 Bw2 xRa_w2 xRb_w2;obtain⟨dRa0,dRa1,dRa2,dRa3,dRa4,dRa5⟩:=xRa_w3.cs;obtain⟨dRb0,dRb1,dRb2,dRb3,dRb4,dRb5⟩:=xRb_w3.cs
 go_wp2
 go_ret
 exact⟨rfl,by rw[HR.out];exact Bw3⟩
theorem bA7 (s2 h2:ByteArray)(p:Int)(pa2 q2:ByteArray)(s3 h3:ByteArray)(p3:Int)(pa3 q3:ByteArray)(oa:Bool)(sx hx:ByteArray)(px:Int)(ob:Bool)(sy hy:ByteArray)(py:Int)(CO1:Hid (∀ W,aQ W->aS W->Calls Tryz.prog 208 #[uV false s2 h2 p pa2 q2] W fun e w'=>e=.returned (oV ob sy hy py)/\Below W.heap.size W w'))(CO2:Hid (∀ W,aQ W->aS W->Calls Tryz.prog 208 #[uV false s3 h3 p3 pa3 q3] W fun e w'=>e=.returned (oV oa sx hx px)/\Below W.heap.size W w'))(CS:Hid (∀ W,Calls Tryz.prog 207 #[oV ob sy hy py,oV oa sx hx px] W fun e w'=>e=.returned (.bool false)/\Below W.heap.size W w'))(CR:Hid (∀ W,Calls Tryz.prog 152 #[uV false s3 h3 p3 pa3 q3] W fun e w'=>e=.returned (.bool true)/\Below W.heap.size W w'))(g1:(h2.toList==h3.toList)=false)(w:World)(hm:aQ w)(ht:aS w):Calls Tryz.prog 154 #[uV false s2 h2 p pa2 q2,uV false s3 h3 p3 pa3 q3] w fun e w'=>e=.returned (.bool false)/\Below w.heap.size w w':=by
 unfold uV oV at *
 go_enter Tryz.func154,Tryz.ntmps154
 go_wp2_with fail
 have xn:=BX.made w false s2 h2 p pa2 q2;have xz:=BX.made (w.alloc (.cells #[.bool false,.string s2,.string h2,.int .i64 p,.string pa2,.string q2] 40)) false s3 h3 p3 pa3 q3;have xy:=xn.below ((zB _ _).alloc (zL _) (.cells #[.bool false,.string s3,.string h3,.int .i64 p3,.string pa3,.string q3] 40));have mB:=(hm.made (.cells #[.bool false,.string s2,.string h2,.int .i64 p,.string pa2,.string q2] 40)).made (.cells #[.bool false,.string s3,.string h3,.int .i64 p3,.string pa3,.string q3] 40);have tB:=(ht.made (.cells #[.bool false,.string s2,.string h2,.int .i64 p,.string pa2,.string q2] 40)).made (.cells #[.bool false,.string s3,.string h3,.int .i64 p3,.string pa3,.string q3] 40);have BB:=((zB w.heap.size w).alloc (zL _) (.cells #[.bool false,.string s2,.string h2,.int .i64 p,.string pa2,.string q2] 40)).alloc (Below.size ((zB w.heap.size w).alloc (zL _) (.cells #[.bool false,.string s2,.string h2,.int .i64 p,.string pa2,.string q2] 40))) (.cells #[.bool false,.string s3,.string h3,.int .i64 p3,.string pa3,.string q3] 40);rw[bD]at xz;clear xn hm ht;generalize hR:w.heap.size=Ra at xy xz BB ⊢;have HR:=zH hR;clear hR;obtain⟨Rb,hRb⟩:∃ Rb,Ra+1=Rb:=⟨_,rfl⟩;rw[hRb]at xz
 try rw[hRb]
 clear hRb;generalize(w.alloc (.cells #[.bool false,.string s2,.string h2,.int .i64 p,.string pa2,.string q2] 40)).alloc (.cells #[.bool false,.string s3,.string h3,.int .i64 p3,.string pa3,.string q3] 40)=w1 at xy xz mB tB BB ⊢;have xRa_w1:=xy;have xRb_w1:=xz;clear xy xz;obtain⟨C,hC⟩:∃ C:World->Prop,∀ w',C w'↔(BX w' Ra false s2 h2 p pa2 q2/\BX w' Rb false s3 h3 p3 pa3 q3/\Below Ra w w'/\aQ w'/\aS w'):=⟨_,fun _=>Iff.rfl⟩;have HC:=zH hC;clear hC;have hC0:C w1.drew:=(HC.out _).2 ⟨xRa_w1,xRb_w1,BB.drew,mB,tB⟩
 have HK:Hid (∀ w',C w'->∀ w7,Below w'.heap.size w' w7->C w7):=zH fun w' hc w7 b=>by
  obtain⟨xRa,xRb,K4,m7,t7⟩:=(HC.out w').1 hc;exact(HC.out _).2 ⟨xRa.below b,xRb.below b,K4.trans (b.mono (zT xRa.lt)),m7.below b,t7.below b⟩
 clear xRa_w1 xRb_w1 BB mB tB;refine aY C (by kernel_rfl) (by kernel_rfl) hC0 ?_;clear hC0
 repeat
  first
   | go_big_quiet_skip
   | (go_big_quiet_want;go_big_quiet_op;go_big_quiet_on)
   | (refine BigFrame.wpQuiet_want rfl (fun K hK => ?_)
      apply Exists.intro
      refine⟨fun w' hc => ?_,hK _ ?_⟩
      · obtain⟨xRa,xRb,K4,m7,t7⟩:=(HC.out w').1 hc
        obtain⟨dRa0,dRa1,dRa2,dRa3,dRa4,dRa5⟩:=xRa.cs;obtain⟨dRb0,dRb1,dRb2,dRb3,dRb4,dRb5⟩:=xRb.cs;unfold Oper.quietAt
        go_simp
        first
         | done
         | rfl
         | ((with_reducible refine(CO1.out _ m7 t7).mono ?_);rintro e w7 ⟨rfl,b7⟩;exact⟨rfl,HK.out w' hc w7 b7⟩)
         | ((with_reducible refine(CO2.out _ m7 t7).mono ?_);rintro e w7 ⟨rfl,b7⟩;exact⟨rfl,HK.out w' hc w7 b7⟩)
         | ((with_reducible refine(CS.out _).mono ?_);rintro e w7 ⟨rfl,b7⟩;exact⟨rfl,HK.out w' hc w7 b7⟩)
      clear hK K
      simp only[Act.put,List.setIfInBounds_toArray,List.set_cons_zero,List.set_cons_succ])
 refine wpQuiet_nil ?_;intro w2 hc;obtain⟨xRa_w2,xRb_w2,Bw2,mw2,tw2⟩:=(HC.out w2).1 hc;clear hc HC HK;obtain⟨dRa0,dRa1,dRa2,dRa3,dRa4,dRa5⟩:=xRa_w2.cs;obtain⟨dRb0,dRb1,dRb2,dRb3,dRb4,dRb5⟩:=xRb_w2.cs
 go_wp2_with fail
 clear dRa0 dRa1 dRa2 dRa3 dRa4 dRa5 dRb0 dRb1 dRb2 dRb3 dRb4 dRb5;refine(CR.out _ ).mono ?_;rintro e w3 ⟨rfl,b_⟩;have mw3:=mw2.below b_;have tw3:=tw2.below b_;have Bw3:=Bw2.trans (b_.mono (zT xRa_w2.lt));have xRa_w3:=xRa_w2.below b_;have xRb_w3:=xRb_w2.below b_;clear b_ mw2 tw2 Bw2 xRa_w2 xRb_w2;obtain⟨dRa0,dRa1,dRa2,dRa3,dRa4,dRa5⟩:=xRa_w3.cs;obtain⟨dRb0,dRb1,dRb2,dRb3,dRb4,dRb5⟩:=xRb_w3.cs
 go_wp2
 go_ret
 exact⟨rfl,by rw[HR.out];exact Bw3⟩
theorem bA5 (s2 h2:ByteArray)(p:Int)(pa2 q2:ByteArray)(s3 h3:ByteArray)(p3:Int)(pa3 q3:ByteArray)(oa:Bool)(sx hx:ByteArray)(px:Int)(ob:Bool)(sy hy:ByteArray)(py:Int)(CO1:Hid (∀ W,aQ W->aS W->Calls Tryz.prog 208 #[uV false s2 h2 p pa2 q2] W fun e w'=>e=.returned (oV ob sy hy py)/\Below W.heap.size W w'))(CO2:Hid (∀ W,aQ W->aS W->Calls Tryz.prog 208 #[uV false s3 h3 p3 pa3 q3] W fun e w'=>e=.returned (oV oa sx hx px)/\Below W.heap.size W w'))(CS:Hid (∀ W,Calls Tryz.prog 207 #[oV ob sy hy py,oV oa sx hx px] W fun e w'=>e=.returned (.bool false)/\Below W.heap.size W w'))(CR:Hid (∀ W,Calls Tryz.prog 152 #[uV false s3 h3 p3 pa3 q3] W fun e w'=>e=.returned (.bool true)/\Below W.heap.size W w'))(g1:(h2.toList==h3.toList)=true)(g2:(p==0)=false)(w:World)(hm:aQ w)(ht:aS w):Calls Tryz.prog 154 #[uV false s2 h2 p pa2 q2,uV false s3 h3 p3 pa3 q3] w fun e w'=>e=.returned (.bool false)/\Below w.heap.size w w':=by
 unfold uV oV at *
 go_enter Tryz.func154,Tryz.ntmps154
 go_wp2_with fail
 have xn:=BX.made w false s2 h2 p pa2 q2;have xz:=BX.made (w.alloc (.cells #[.bool false,.string s2,.string h2,.int .i64 p,.string pa2,.string q2] 40)) false s3 h3 p3 pa3 q3;have xy:=xn.below ((zB _ _).alloc (zL _) (.cells #[.bool false,.string s3,.string h3,.int .i64 p3,.string pa3,.string q3] 40));have mB:=(hm.made (.cells #[.bool false,.string s2,.string h2,.int .i64 p,.string pa2,.string q2] 40)).made (.cells #[.bool false,.string s3,.string h3,.int .i64 p3,.string pa3,.string q3] 40);have tB:=(ht.made (.cells #[.bool false,.string s2,.string h2,.int .i64 p,.string pa2,.string q2] 40)).made (.cells #[.bool false,.string s3,.string h3,.int .i64 p3,.string pa3,.string q3] 40);have BB:=((zB w.heap.size w).alloc (zL _) (.cells #[.bool false,.string s2,.string h2,.int .i64 p,.string pa2,.string q2] 40)).alloc (Below.size ((zB w.heap.size w).alloc (zL _) (.cells #[.bool false,.string s2,.string h2,.int .i64 p,.string pa2,.string q2] 40))) (.cells #[.bool false,.string s3,.string h3,.int .i64 p3,.string pa3,.string q3] 40);rw[bD]at xz;clear xn hm ht;generalize hR:w.heap.size=Ra at xy xz BB ⊢;have HR:=zH hR;clear hR;obtain⟨Rb,hRb⟩:∃ Rb,Ra+1=Rb:=⟨_,rfl⟩;rw[hRb]at xz
 try rw[hRb]
 clear hRb;generalize(w.alloc (.cells #[.bool false,.string s2,.string h2,.int .i64 p,.string pa2,.string q2] 40)).alloc (.cells #[.bool false,.string s3,.string h3,.int .i64 p3,.string pa3,.string q3] 40)=w1 at xy xz mB tB BB ⊢;have xRa_w1:=xy;have xRb_w1:=xz;clear xy xz;obtain⟨C,hC⟩:∃ C:World->Prop,∀ w',C w'↔(BX w' Ra false s2 h2 p pa2 q2/\BX w' Rb false s3 h3 p3 pa3 q3/\Below Ra w w'/\aQ w'/\aS w'):=⟨_,fun _=>Iff.rfl⟩;have HC:=zH hC;clear hC;have hC0:C w1.drew:=(HC.out _).2 ⟨xRa_w1,xRb_w1,BB.drew,mB,tB⟩
 have HK:Hid (∀ w',C w'->∀ w7,Below w'.heap.size w' w7->C w7):=zH fun w' hc w7 b=>by
  obtain⟨xRa,xRb,K4,m7,t7⟩:=(HC.out w').1 hc;exact(HC.out _).2 ⟨xRa.below b,xRb.below b,K4.trans (b.mono (zT xRa.lt)),m7.below b,t7.below b⟩
 clear xRa_w1 xRb_w1 BB mB tB;refine aY C (by kernel_rfl) (by kernel_rfl) hC0 ?_;clear hC0
 repeat
  first
   | go_big_quiet_skip
   | (go_big_quiet_want;go_big_quiet_op;go_big_quiet_on)
   | (refine BigFrame.wpQuiet_want rfl (fun K hK => ?_)
      apply Exists.intro
      refine⟨fun w' hc => ?_,hK _ ?_⟩
      · obtain⟨xRa,xRb,K4,m7,t7⟩:=(HC.out w').1 hc
        obtain⟨dRa0,dRa1,dRa2,dRa3,dRa4,dRa5⟩:=xRa.cs;obtain⟨dRb0,dRb1,dRb2,dRb3,dRb4,dRb5⟩:=xRb.cs;unfold Oper.quietAt
        go_simp
        first
         | done
         | rfl
         | ((with_reducible refine(CO1.out _ m7 t7).mono ?_);rintro e w7 ⟨rfl,b7⟩;exact⟨rfl,HK.out w' hc w7 b7⟩)
         | ((with_reducible refine(CO2.out _ m7 t7).mono ?_);rintro e w7 ⟨rfl,b7⟩;exact⟨rfl,HK.out w' hc w7 b7⟩)
         | ((with_reducible refine(CS.out _).mono ?_);rintro e w7 ⟨rfl,b7⟩;exact⟨rfl,HK.out w' hc w7 b7⟩)
      clear hK K
      simp only[Act.put,List.setIfInBounds_toArray,List.set_cons_zero,List.set_cons_succ])
 refine wpQuiet_nil ?_;intro w2 hc;obtain⟨xRa_w2,xRb_w2,Bw2,mw2,tw2⟩:=(HC.out w2).1 hc;clear hc HC HK;obtain⟨dRa0,dRa1,dRa2,dRa3,dRa4,dRa5⟩:=xRa_w2.cs;obtain⟨dRb0,dRb1,dRb2,dRb3,dRb4,dRb5⟩:=xRb_w2.cs
 go_wp2_with fail
 clear dRa0 dRa1 dRa2 dRa3 dRa4 dRa5 dRb0 dRb1 dRb2 dRb3 dRb4 dRb5;refine(CR.out _ ).mono ?_;rintro e w3 ⟨rfl,b_⟩;have mw3:=mw2.below b_;have tw3:=tw2.below b_;have Bw3:=Bw2.trans (b_.mono (zT xRa_w2.lt));have xRa_w3:=xRa_w2.below b_;have xRb_w3:=xRb_w2.below b_;clear b_ mw2 tw2 Bw2 xRa_w2 xRb_w2;obtain⟨dRa0,dRa1,dRa2,dRa3,dRa4,dRa5⟩:=xRa_w3.cs;obtain⟨dRb0,dRb1,dRb2,dRb3,dRb4,dRb5⟩:=xRb_w3.cs
 go_wp2
 go_ret
 exact⟨rfl,by rw[HR.out];exact Bw3⟩
theorem aK8 (s2 h2:ByteArray)(p:Int)(pa2 q2:ByteArray)(s3 h3:ByteArray)(p3:Int)(pa3 q3:ByteArray)(oa:Bool)(sx hx:ByteArray)(px:Int)(ob:Bool)(sy hy:ByteArray)(py:Int)(CO1:Hid (∀ W,aQ W->aS W->Calls Tryz.prog 208 #[uV false s2 h2 p pa2 q2] W fun e w'=>e=.returned (oV ob sy hy py)/\Below W.heap.size W w'))(CO2:Hid (∀ W,aQ W->aS W->Calls Tryz.prog 208 #[uV false s3 h3 p3 pa3 q3] W fun e w'=>e=.returned (oV oa sx hx px)/\Below W.heap.size W w'))(CS:Hid (∀ W,Calls Tryz.prog 207 #[oV ob sy hy py,oV oa sx hx px] W fun e w'=>e=.returned (.bool false)/\Below W.heap.size W w'))(CR:Hid (∀ W,Calls Tryz.prog 152 #[uV false s3 h3 p3 pa3 q3] W fun e w'=>e=.returned (.bool true)/\Below W.heap.size W w'))(g1:(h2.toList==h3.toList)=true)(g2:(p==0)=true)(g3:(p3==0)=false)(w:World)(hm:aQ w)(ht:aS w):Calls Tryz.prog 154 #[uV false s2 h2 p pa2 q2,uV false s3 h3 p3 pa3 q3] w fun e w'=>e=.returned (.bool false)/\Below w.heap.size w w':=by
 unfold uV oV at *
 go_enter Tryz.func154,Tryz.ntmps154
 go_wp2_with fail
 have xn:=BX.made w false s2 h2 p pa2 q2;have xz:=BX.made (w.alloc (.cells #[.bool false,.string s2,.string h2,.int .i64 p,.string pa2,.string q2] 40)) false s3 h3 p3 pa3 q3;have xy:=xn.below ((zB _ _).alloc (zL _) (.cells #[.bool false,.string s3,.string h3,.int .i64 p3,.string pa3,.string q3] 40));have mB:=(hm.made (.cells #[.bool false,.string s2,.string h2,.int .i64 p,.string pa2,.string q2] 40)).made (.cells #[.bool false,.string s3,.string h3,.int .i64 p3,.string pa3,.string q3] 40);have tB:=(ht.made (.cells #[.bool false,.string s2,.string h2,.int .i64 p,.string pa2,.string q2] 40)).made (.cells #[.bool false,.string s3,.string h3,.int .i64 p3,.string pa3,.string q3] 40);have BB:=((zB w.heap.size w).alloc (zL _) (.cells #[.bool false,.string s2,.string h2,.int .i64 p,.string pa2,.string q2] 40)).alloc (Below.size ((zB w.heap.size w).alloc (zL _) (.cells #[.bool false,.string s2,.string h2,.int .i64 p,.string pa2,.string q2] 40))) (.cells #[.bool false,.string s3,.string h3,.int .i64 p3,.string pa3,.string q3] 40);rw[bD]at xz;clear xn hm ht;generalize hR:w.heap.size=Ra at xy xz BB ⊢;have HR:=zH hR;clear hR;obtain⟨Rb,hRb⟩:∃ Rb,Ra+1=Rb:=⟨_,rfl⟩;rw[hRb]at xz
 try rw[hRb]
 clear hRb;generalize(w.alloc (.cells #[.bool false,.string s2,.string h2,.int .i64 p,.string pa2,.string q2] 40)).alloc (.cells #[.bool false,.string s3,.string h3,.int .i64 p3,.string pa3,.string q3] 40)=w1 at xy xz mB tB BB ⊢;have xRa_w1:=xy;have xRb_w1:=xz;clear xy xz;obtain⟨C,hC⟩:∃ C:World->Prop,∀ w',C w'↔(BX w' Ra false s2 h2 p pa2 q2/\BX w' Rb false s3 h3 p3 pa3 q3/\Below Ra w w'/\aQ w'/\aS w'):=⟨_,fun _=>Iff.rfl⟩;have HC:=zH hC;clear hC;have hC0:C w1.drew:=(HC.out _).2 ⟨xRa_w1,xRb_w1,BB.drew,mB,tB⟩
 have HK:Hid (∀ w',C w'->∀ w7,Below w'.heap.size w' w7->C w7):=zH fun w' hc w7 b=>by
  obtain⟨xRa,xRb,K4,m7,t7⟩:=(HC.out w').1 hc;exact(HC.out _).2 ⟨xRa.below b,xRb.below b,K4.trans (b.mono (zT xRa.lt)),m7.below b,t7.below b⟩
 clear xRa_w1 xRb_w1 BB mB tB;refine aY C (by kernel_rfl) (by kernel_rfl) hC0 ?_;clear hC0
 repeat
  first
   | go_big_quiet_skip
   | (go_big_quiet_want;go_big_quiet_op;go_big_quiet_on)
   | (refine BigFrame.wpQuiet_want rfl (fun K hK => ?_)
      apply Exists.intro
      refine⟨fun w' hc => ?_,hK _ ?_⟩
      · obtain⟨xRa,xRb,K4,m7,t7⟩:=(HC.out w').1 hc
        obtain⟨dRa0,dRa1,dRa2,dRa3,dRa4,dRa5⟩:=xRa.cs;obtain⟨dRb0,dRb1,dRb2,dRb3,dRb4,dRb5⟩:=xRb.cs;unfold Oper.quietAt
        go_simp
        first
         | done
         | rfl
         | ((with_reducible refine(CO1.out _ m7 t7).mono ?_);rintro e w7 ⟨rfl,b7⟩;exact⟨rfl,HK.out w' hc w7 b7⟩)
         | ((with_reducible refine(CO2.out _ m7 t7).mono ?_);rintro e w7 ⟨rfl,b7⟩;exact⟨rfl,HK.out w' hc w7 b7⟩)
         | ((with_reducible refine(CS.out _).mono ?_);rintro e w7 ⟨rfl,b7⟩;exact⟨rfl,HK.out w' hc w7 b7⟩)
      clear hK K
      simp only[Act.put,List.setIfInBounds_toArray,List.set_cons_zero,List.set_cons_succ])
 refine wpQuiet_nil ?_;intro w2 hc;obtain⟨xRa_w2,xRb_w2,Bw2,mw2,tw2⟩:=(HC.out w2).1 hc;clear hc HC HK;obtain⟨dRa0,dRa1,dRa2,dRa3,dRa4,dRa5⟩:=xRa_w2.cs;obtain⟨dRb0,dRb1,dRb2,dRb3,dRb4,dRb5⟩:=xRb_w2.cs
 go_wp2_with fail
 clear dRa0 dRa1 dRa2 dRa3 dRa4 dRa5 dRb0 dRb1 dRb2 dRb3 dRb4 dRb5;refine(CR.out _ ).mono ?_;rintro e w3 ⟨rfl,b_⟩;have mw3:=mw2.below b_;have tw3:=tw2.below b_;have Bw3:=Bw2.trans (b_.mono (zT xRa_w2.lt));have xRa_w3:=xRa_w2.below b_;have xRb_w3:=xRb_w2.below b_;clear b_ mw2 tw2 Bw2 xRa_w2 xRb_w2;obtain⟨dRa0,dRa1,dRa2,dRa3,dRa4,dRa5⟩:=xRa_w3.cs;obtain⟨dRb0,dRb1,dRb2,dRb3,dRb4,dRb5⟩:=xRb_w3.cs
 go_wp2
 go_ret
 exact⟨rfl,by rw[HR.out];exact Bw3⟩
theorem bA3 (s2 h2:ByteArray)(p:Int)(pa2 q2:ByteArray)(s3 h3:ByteArray)(p3:Int)(pa3 q3:ByteArray)(oa:Bool)(sx hx:ByteArray)(px:Int)(ob:Bool)(sy hy:ByteArray)(py:Int)(CO1:Hid (∀ W,aQ W->aS W->Calls Tryz.prog 208 #[uV false s2 h2 p pa2 q2] W fun e w'=>e=.returned (oV ob sy hy py)/\Below W.heap.size W w'))(CO2:Hid (∀ W,aQ W->aS W->Calls Tryz.prog 208 #[uV false s3 h3 p3 pa3 q3] W fun e w'=>e=.returned (oV oa sx hx px)/\Below W.heap.size W w'))(CS:Hid (∀ W,Calls Tryz.prog 207 #[oV ob sy hy py,oV oa sx hx px] W fun e w'=>e=.returned (.bool false)/\Below W.heap.size W w'))(CR:Hid (∀ W,Calls Tryz.prog 152 #[uV false s3 h3 p3 pa3 q3] W fun e w'=>e=.returned (.bool true)/\Below W.heap.size W w'))(g1:(h2.toList==h3.toList)=true)(g2:(p==0)=true)(g3:(p3==0)=true)(r:Bool)(CM:Hid (∀ W,Calls Tryz.prog 153 #[.string s3,.string s2] W fun e w'=>e=.returned (.bool r)/\Below W.heap.size W w'))(w:World)(hm:aQ w)(ht:aS w):Calls Tryz.prog 154 #[uV false s2 h2 p pa2 q2,uV false s3 h3 p3 pa3 q3] w fun e w'=>e=.returned (.bool r)/\Below w.heap.size w w':=by
 unfold uV oV at *
 go_enter Tryz.func154,Tryz.ntmps154
 go_wp2_with fail
 have xn:=BX.made w false s2 h2 p pa2 q2;have xz:=BX.made (w.alloc (.cells #[.bool false,.string s2,.string h2,.int .i64 p,.string pa2,.string q2] 40)) false s3 h3 p3 pa3 q3;have xy:=xn.below ((zB _ _).alloc (zL _) (.cells #[.bool false,.string s3,.string h3,.int .i64 p3,.string pa3,.string q3] 40));have mB:=(hm.made (.cells #[.bool false,.string s2,.string h2,.int .i64 p,.string pa2,.string q2] 40)).made (.cells #[.bool false,.string s3,.string h3,.int .i64 p3,.string pa3,.string q3] 40);have tB:=(ht.made (.cells #[.bool false,.string s2,.string h2,.int .i64 p,.string pa2,.string q2] 40)).made (.cells #[.bool false,.string s3,.string h3,.int .i64 p3,.string pa3,.string q3] 40);have BB:=((zB w.heap.size w).alloc (zL _) (.cells #[.bool false,.string s2,.string h2,.int .i64 p,.string pa2,.string q2] 40)).alloc (Below.size ((zB w.heap.size w).alloc (zL _) (.cells #[.bool false,.string s2,.string h2,.int .i64 p,.string pa2,.string q2] 40))) (.cells #[.bool false,.string s3,.string h3,.int .i64 p3,.string pa3,.string q3] 40);rw[bD]at xz;clear xn hm ht;generalize hR:w.heap.size=Ra at xy xz BB ⊢;have HR:=zH hR;clear hR;obtain⟨Rb,hRb⟩:∃ Rb,Ra+1=Rb:=⟨_,rfl⟩;rw[hRb]at xz
 try rw[hRb]
 clear hRb;generalize(w.alloc (.cells #[.bool false,.string s2,.string h2,.int .i64 p,.string pa2,.string q2] 40)).alloc (.cells #[.bool false,.string s3,.string h3,.int .i64 p3,.string pa3,.string q3] 40)=w1 at xy xz mB tB BB ⊢;have xRa_w1:=xy;have xRb_w1:=xz;clear xy xz;obtain⟨C,hC⟩:∃ C:World->Prop,∀ w',C w'↔(BX w' Ra false s2 h2 p pa2 q2/\BX w' Rb false s3 h3 p3 pa3 q3/\Below Ra w w'/\aQ w'/\aS w'):=⟨_,fun _=>Iff.rfl⟩;have HC:=zH hC;clear hC;have hC0:C w1.drew:=(HC.out _).2 ⟨xRa_w1,xRb_w1,BB.drew,mB,tB⟩
 have HK:Hid (∀ w',C w'->∀ w7,Below w'.heap.size w' w7->C w7):=zH fun w' hc w7 b=>by
  obtain⟨xRa,xRb,K4,m7,t7⟩:=(HC.out w').1 hc;exact(HC.out _).2 ⟨xRa.below b,xRb.below b,K4.trans (b.mono (zT xRa.lt)),m7.below b,t7.below b⟩
 clear xRa_w1 xRb_w1 BB mB tB;refine aY C (by kernel_rfl) (by kernel_rfl) hC0 ?_;clear hC0
 repeat
  first
   | go_big_quiet_skip
   | (go_big_quiet_want;go_big_quiet_op;go_big_quiet_on)
   | (refine BigFrame.wpQuiet_want rfl (fun K hK => ?_)
      apply Exists.intro
      refine⟨fun w' hc => ?_,hK _ ?_⟩
      · obtain⟨xRa,xRb,K4,m7,t7⟩:=(HC.out w').1 hc
        obtain⟨dRa0,dRa1,dRa2,dRa3,dRa4,dRa5⟩:=xRa.cs;obtain⟨dRb0,dRb1,dRb2,dRb3,dRb4,dRb5⟩:=xRb.cs;unfold Oper.quietAt
        go_simp
        first
         | done
         | rfl
         | ((with_reducible refine(CO1.out _ m7 t7).mono ?_);rintro e w7 ⟨rfl,b7⟩;exact⟨rfl,HK.out w' hc w7 b7⟩)
         | ((with_reducible refine(CO2.out _ m7 t7).mono ?_);rintro e w7 ⟨rfl,b7⟩;exact⟨rfl,HK.out w' hc w7 b7⟩)
         | ((with_reducible refine(CS.out _).mono ?_);rintro e w7 ⟨rfl,b7⟩;exact⟨rfl,HK.out w' hc w7 b7⟩)
      clear hK K
      simp only[Act.put,List.setIfInBounds_toArray,List.set_cons_zero,List.set_cons_succ])
 refine wpQuiet_nil ?_;intro w2 hc;obtain⟨xRa_w2,xRb_w2,Bw2,mw2,tw2⟩:=(HC.out w2).1 hc;clear hc HC HK;obtain⟨dRa0,dRa1,dRa2,dRa3,dRa4,dRa5⟩:=xRa_w2.cs;obtain⟨dRb0,dRb1,dRb2,dRb3,dRb4,dRb5⟩:=xRb_w2.cs
 go_wp2_with fail
 clear dRa0 dRa1 dRa2 dRa3 dRa4 dRa5 dRb0 dRb1 dRb2 dRb3 dRb4 dRb5;refine(CR.out _ ).mono ?_;rintro e w3 ⟨rfl,b_⟩;have mw3:=mw2.below b_;have tw3:=tw2.below b_;have Bw3:=Bw2.trans (b_.mono (zT xRa_w2.lt));have xRa_w3:=xRa_w2.below b_;have xRb_w3:=xRb_w2.below b_;clear b_ mw2 tw2 Bw2 xRa_w2 xRb_w2;obtain⟨dRa0,dRa1,dRa2,dRa3,dRa4,dRa5⟩:=xRa_w3.cs;obtain⟨dRb0,dRb1,dRb2,dRb3,dRb4,dRb5⟩:=xRb_w3.cs
 go_wp2_with fail
 clear dRa0 dRa1 dRa2 dRa3 dRa4 dRa5 dRb0 dRb1 dRb2 dRb3 dRb4 dRb5;refine(CM.out _ ).mono ?_;rintro e w4 ⟨rfl,b_⟩;have mw4:=mw3.below b_;have tw4:=tw3.below b_;have Bw4:=Bw3.trans (b_.mono (zT xRa_w3.lt));have xRa_w4:=xRa_w3.below b_;have xRb_w4:=xRb_w3.below b_;clear b_ mw3 tw3 Bw3 xRa_w3 xRb_w3
 go_wp2
 go_ret
 exact⟨rfl,by rw[HR.out];exact Bw4⟩
theorem zX (o:Bool)(s2 h2:ByteArray)(p:Int)(pa2 q2:ByteArray)(o3:Bool)(s3 h3:ByteArray)(p3:Int)(pa3 q3:ByteArray)(u1:s2.size<=100000)(u2:h2.size<=100000)(u3:pa2.size<=100000)(u4:q2.size<=100000)(v1:s3.size<=100000)(v2:h3.size<=100000)(v3:pa3.size<=100000)(v4:q3.size<=100000)(w:World)(hm:aQ w)(ht:aS w):Calls Tryz.prog 154 #[uV o s2 h2 p pa2 q2,uV o3 s3 h3 p3 pa3 q3] w fun e w'=>e=.returned (.bool (pP (uM o s2 h2 p pa2 q2) (uM o3 s3 h3 p3 pa3 q3)))/\Below w.heap.size w w':=by
 obtain⟨oa,sx,hx,px,ea⟩:=xE (cM (uM o3 s3 h3 p3 pa3 q3));obtain⟨ob,sy,hy,py,eb⟩:=xE (cM (uM o s2 h2 p pa2 q2));have CO1:=uN o s2 h2 p pa2 q2 u1 u2 u3 u4 ob sy hy py eb;have CO2:=uN o3 s3 h3 p3 pa3 q3 v1 v2 v3 v4 oa sx hx px ea;unfold pP;rw[<- aY8,ea,eb]
 cases hs:iP (oM ob sy hy py) (oM oa sx hx px)
 case true =>
  have CS:=pS ob sy hy py oa sx hx px true hs;exact wF o s2 h2 p pa2 q2 o3 s3 h3 p3 pa3 q3 oa sx hx px ob sy hy py CO1 CO2 CS w hm ht
 have CS:=pS ob sy hy py oa sx hx px false hs;rw[Bool.false_or];clear ea eb hs
 cases hr:aT (uM o3 s3 h3 p3 pa3 q3)
 case false =>
  rw[show nM (uM o s2 h2 p pa2 q2) (uM o3 s3 h3 p3 pa3 q3)=false by unfold nM;rw[hr];rfl];exact bA4 o s2 h2 p pa2 q2 o3 s3 h3 p3 pa3 q3 oa sx hx px ob sy hy py CO1 CO2 CS (cJ o3 s3 h3 p3 pa3 q3 false hr v1 v2 v3 v4) w hm ht
 have CR:=cJ o3 s3 h3 p3 pa3 q3 true hr v1 v2 v3 v4
 have HN:nM (uM o s2 h2 p pa2 q2) (uM o3 s3 h3 p3 pa3 q3)=(!o3&&(!o&&(decide (h3.data.toList=h2.data.toList)&&(decide (p3=0)&&(decide (p=0)&&gS s3.data.toList s2.data.toList))))):=by
  unfold nM;rw[hr];simp only[Bool.and_assoc,Bool.true_and];rfl
 rw[HN];clear HN
 cases o
 case true =>
  rw[Bool.not_true,Bool.false_and,Bool.and_false];exact bA6 s2 h2 p pa2 q2 o3 s3 h3 p3 pa3 q3 oa sx hx px ob sy hy py CO1 CO2 CS CR w hm ht
 cases o3
 case true =>
  rw[Bool.not_true,Bool.false_and];exact aK9 s2 h2 p pa2 q2 s3 h3 p3 pa3 q3 oa sx hx px ob sy hy py CO1 CO2 CS CR w hm ht
 rw[Bool.not_false,Bool.true_and,Bool.true_and];have eh:(h2.toList==h3.toList)=decide (h3.data.toList=h2.data.toList):=by rw[cZ,Bool.eq_iff_iff];simp[eq_comm]
 have ep:(p==0)=decide (p=0):=rfl;have ep3:(p3==0)=decide (p3=0):=rfl
 cases g1:decide (h3.data.toList=h2.data.toList)
 case false =>
  rw[Bool.false_and];exact bA7 s2 h2 p pa2 q2 s3 h3 p3 pa3 q3 oa sx hx px ob sy hy py CO1 CO2 CS CR (eh.trans g1) w hm ht
 cases g2:decide (p=0)
 case false =>
  rw[Bool.false_and,Bool.and_false,Bool.and_false];exact bA5 s2 h2 p pa2 q2 s3 h3 p3 pa3 q3 oa sx hx px ob sy hy py CO1 CO2 CS CR (eh.trans g1) (ep.trans g2) w hm ht
 cases g3:decide (p3=0)
 case false =>
  rw[Bool.false_and,Bool.and_false];exact aK8 s2 h2 p pa2 q2 s3 h3 p3 pa3 q3 oa sx hx px ob sy hy py CO1 CO2 CS CR (eh.trans g1) (ep.trans g2) (ep3.trans g3) w hm ht
 rw[Bool.true_and,Bool.true_and,Bool.true_and];exact bA3 s2 h2 p pa2 q2 s3 h3 p3 pa3 q3 oa sx hx px ob sy hy py CO1 CO2 CS CR (eh.trans g1) (ep.trans g2) (ep3.trans g3) _ (fL _ _ _ (dL s3 s2 _ rfl)) w hm ht
theorem vZ (k:Int)(t s h:ByteArray)(wd:Bool)(sp:Int)(pa:ByteArray)(o:Bool)(s2 h2:ByteArray)(p:Int)(pa2 q2:ByteArray)(o3:Bool)(s3 h3:ByteArray)(p3:Int)(pa3 q3:ByteArray)(m:Bool)(CC:Hid (∀ W,Calls Tryz.prog 152 #[uV o s2 h2 p pa2 q2] W fun e w'=>e=.returned (.bool false)/\Below W.heap.size W w'))(w:World)(hm:aQ w)(ht:aS w):Calls Tryz.prog 109 #[aP k t s h wd sp pa,uV o s2 h2 p pa2 q2,uV o3 s3 h3 p3 pa3 q3,.bool m] w fun e w'=>e=.returned (.bool false)/\Below w.heap.size w w':=by
 unfold aP uV at *
 go_enter Tryz.func109,Tryz.ntmps109
 go_wp2_with fail
 obtain⟨x1,x2,x3,BB⟩:=bP w k t s h wd sp pa o s2 h2 p pa2 q2 o3 s3 h3 p3 pa3 q3;have mB:=((hm.made (.cells #[.int .i64 k,.string t,.string s,.string h,.bool wd,.int .i64 sp,.string pa] 75)).made (.cells #[.bool o,.string s2,.string h2,.int .i64 p,.string pa2,.string q2] 40)).made (.cells #[.bool o3,.string s3,.string h3,.int .i64 p3,.string pa3,.string q3] 40);have tB:=((ht.made (.cells #[.int .i64 k,.string t,.string s,.string h,.bool wd,.int .i64 sp,.string pa] 75)).made (.cells #[.bool o,.string s2,.string h2,.int .i64 p,.string pa2,.string q2] 40)).made (.cells #[.bool o3,.string s3,.string h3,.int .i64 p3,.string pa3,.string q3] 40);clear hm ht;generalize hR:w.heap.size=Ra at x1 x2 x3 BB ⊢;have HR:=zH hR;clear hR;obtain⟨Rb,hRb⟩:∃ Rb,Ra+1=Rb:=⟨_,rfl⟩;rw[hRb]at x2 x3
 try rw[hRb]
 clear hRb;obtain⟨Rc,hRb⟩:∃ Rc,Rb+1=Rc:=⟨_,rfl⟩;rw[hRb]at x3
 try rw[hRb]
 clear hRb;generalize((w.alloc (.cells #[.int .i64 k,.string t,.string s,.string h,.bool wd,.int .i64 sp,.string pa] 75)).alloc (.cells #[.bool o,.string s2,.string h2,.int .i64 p,.string pa2,.string q2] 40)).alloc (.cells #[.bool o3,.string s3,.string h3,.int .i64 p3,.string pa3,.string q3] 40)=w1 at x1 x2 x3 mB tB BB ⊢;have xRa_w1:=x1;have xRb_w1:=x2;have xRc_w1:=x3;clear x1 x2 x3;refine(CC.out _ ).mono ?_;rintro e w2 ⟨rfl,b_⟩;have mw2:=mB.below b_;have tw2:=tB.below b_;have Bw2:=BB.trans (b_.mono (zT xRa_w1.lt));have xRa_w2:=xRa_w1.below b_;have xRb_w2:=xRb_w1.below b_;have xRc_w2:=xRc_w1.below b_;clear b_ mB tB BB xRa_w1 xRb_w1 xRc_w1;obtain⟨dRa0,dRa1,dRa2,dRa3,dRa4,dRa5,dRa6⟩:=xRa_w2.cs;obtain⟨dRb0,dRb1,dRb2,dRb3,dRb4,dRb5⟩:=xRb_w2.cs;obtain⟨dRc0,dRc1,dRc2,dRc3,dRc4,dRc5⟩:=xRc_w2.cs
 go_wp2
 go_ret
 exact⟨rfl,by rw[HR.out];exact Bw2⟩
theorem aJ5 (t s h:ByteArray)(wd:Bool)(sp:Int)(pa:ByteArray)(o:Bool)(s2 h2:ByteArray)(p:Int)(pa2 q2:ByteArray)(o3:Bool)(s3 h3:ByteArray)(p3:Int)(pa3 q3:ByteArray)(m r:Bool)(CC:Hid (∀ W,Calls Tryz.prog 152 #[uV o s2 h2 p pa2 q2] W fun e w'=>e=.returned (.bool true)/\Below W.heap.size W w'))(CS:Hid (∀ W,Calls Tryz.prog 153 #[.string s,.string s2] W fun e w'=>e=.returned (.bool r)/\Below W.heap.size W w'))(w:World)(hm:aQ w)(ht:aS w):Calls Tryz.prog 109 #[aP 11 t s h wd sp pa,uV o s2 h2 p pa2 q2,uV o3 s3 h3 p3 pa3 q3,.bool m] w fun e w'=>e=.returned (.bool r)/\Below w.heap.size w w':=by
 unfold aP uV at *
 go_enter Tryz.func109,Tryz.ntmps109
 go_wp2_with fail
 obtain⟨x1,x2,x3,BB⟩:=bP w 11 t s h wd sp pa o s2 h2 p pa2 q2 o3 s3 h3 p3 pa3 q3;have mB:=((hm.made (.cells #[.int .i64 11,.string t,.string s,.string h,.bool wd,.int .i64 sp,.string pa] 75)).made (.cells #[.bool o,.string s2,.string h2,.int .i64 p,.string pa2,.string q2] 40)).made (.cells #[.bool o3,.string s3,.string h3,.int .i64 p3,.string pa3,.string q3] 40);have tB:=((ht.made (.cells #[.int .i64 11,.string t,.string s,.string h,.bool wd,.int .i64 sp,.string pa] 75)).made (.cells #[.bool o,.string s2,.string h2,.int .i64 p,.string pa2,.string q2] 40)).made (.cells #[.bool o3,.string s3,.string h3,.int .i64 p3,.string pa3,.string q3] 40);clear hm ht;generalize hR:w.heap.size=Ra at x1 x2 x3 BB ⊢;have HR:=zH hR;clear hR;obtain⟨Rb,hRb⟩:∃ Rb,Ra+1=Rb:=⟨_,rfl⟩;rw[hRb]at x2 x3
 try rw[hRb]
 clear hRb;obtain⟨Rc,hRb⟩:∃ Rc,Rb+1=Rc:=⟨_,rfl⟩;rw[hRb]at x3
 try rw[hRb]
 clear hRb;generalize((w.alloc (.cells #[.int .i64 11,.string t,.string s,.string h,.bool wd,.int .i64 sp,.string pa] 75)).alloc (.cells #[.bool o,.string s2,.string h2,.int .i64 p,.string pa2,.string q2] 40)).alloc (.cells #[.bool o3,.string s3,.string h3,.int .i64 p3,.string pa3,.string q3] 40)=w1 at x1 x2 x3 mB tB BB ⊢;have xRa_w1:=x1;have xRb_w1:=x2;have xRc_w1:=x3;clear x1 x2 x3;refine(CC.out _ ).mono ?_;rintro e w2 ⟨rfl,b_⟩;have mw2:=mB.below b_;have tw2:=tB.below b_;have Bw2:=BB.trans (b_.mono (zT xRa_w1.lt));have xRa_w2:=xRa_w1.below b_;have xRb_w2:=xRb_w1.below b_;have xRc_w2:=xRc_w1.below b_;clear b_ mB tB BB xRa_w1 xRb_w1 xRc_w1;obtain⟨dRa0,dRa1,dRa2,dRa3,dRa4,dRa5,dRa6⟩:=xRa_w2.cs;obtain⟨dRb0,dRb1,dRb2,dRb3,dRb4,dRb5⟩:=xRb_w2.cs
 go_wp2_with fail
 clear dRa0 dRa1 dRa2 dRa3 dRa4 dRa5 dRa6 dRb0 dRb1 dRb2 dRb3 dRb4 dRb5;refine(CS.out _ ).mono ?_;rintro e w3 ⟨rfl,b_⟩;have mw3:=mw2.below b_;have tw3:=tw2.below b_;have Bw3:=Bw2.trans (b_.mono (zT xRa_w2.lt));have xRa_w3:=xRa_w2.below b_;have xRb_w3:=xRb_w2.below b_;have xRc_w3:=xRc_w2.below b_;clear b_ mw2 tw2 Bw2 xRa_w2 xRb_w2 xRc_w2
 go_wp2
 go_ret
 exact⟨rfl,by rw[HR.out];exact Bw3⟩
theorem bA2 (t s h:ByteArray)(wd:Bool)(sp:Int)(pa:ByteArray)(o:Bool)(s2 h2:ByteArray)(p:Int)(pa2 q2:ByteArray)(o3:Bool)(s3 h3:ByteArray)(p3:Int)(pa3 q3:ByteArray)(m r:Bool)(CC:Hid (∀ W,Calls Tryz.prog 152 #[uV o s2 h2 p pa2 q2] W fun e w'=>e=.returned (.bool true)/\Below W.heap.size W w'))(CS:Hid (∀ W,aQ W->aS W->Calls Tryz.prog 154 #[uV o s2 h2 p pa2 q2,uV o3 s3 h3 p3 pa3 q3] W fun e w'=>e=.returned (.bool r)/\Below W.heap.size W w'))(w:World)(hm:aQ w)(ht:aS w):Calls Tryz.prog 109 #[aP 2 t s h wd sp pa,uV o s2 h2 p pa2 q2,uV o3 s3 h3 p3 pa3 q3,.bool m] w fun e w'=>e=.returned (.bool r)/\Below w.heap.size w w':=by
 unfold aP uV at *
 go_enter Tryz.func109,Tryz.ntmps109
 go_wp2_with fail
 obtain⟨x1,x2,x3,BB⟩:=bP w 2 t s h wd sp pa o s2 h2 p pa2 q2 o3 s3 h3 p3 pa3 q3;have mB:=((hm.made (.cells #[.int .i64 2,.string t,.string s,.string h,.bool wd,.int .i64 sp,.string pa] 75)).made (.cells #[.bool o,.string s2,.string h2,.int .i64 p,.string pa2,.string q2] 40)).made (.cells #[.bool o3,.string s3,.string h3,.int .i64 p3,.string pa3,.string q3] 40);have tB:=((ht.made (.cells #[.int .i64 2,.string t,.string s,.string h,.bool wd,.int .i64 sp,.string pa] 75)).made (.cells #[.bool o,.string s2,.string h2,.int .i64 p,.string pa2,.string q2] 40)).made (.cells #[.bool o3,.string s3,.string h3,.int .i64 p3,.string pa3,.string q3] 40);clear hm ht;generalize hR:w.heap.size=Ra at x1 x2 x3 BB ⊢;have HR:=zH hR;clear hR;obtain⟨Rb,hRb⟩:∃ Rb,Ra+1=Rb:=⟨_,rfl⟩;rw[hRb]at x2 x3
 try rw[hRb]
 clear hRb;obtain⟨Rc,hRb⟩:∃ Rc,Rb+1=Rc:=⟨_,rfl⟩;rw[hRb]at x3
 try rw[hRb]
 clear hRb;generalize((w.alloc (.cells #[.int .i64 2,.string t,.string s,.string h,.bool wd,.int .i64 sp,.string pa] 75)).alloc (.cells #[.bool o,.string s2,.string h2,.int .i64 p,.string pa2,.string q2] 40)).alloc (.cells #[.bool o3,.string s3,.string h3,.int .i64 p3,.string pa3,.string q3] 40)=w1 at x1 x2 x3 mB tB BB ⊢;have xRa_w1:=x1;have xRb_w1:=x2;have xRc_w1:=x3;clear x1 x2 x3;refine(CC.out _ ).mono ?_;rintro e w2 ⟨rfl,b_⟩;have mw2:=mB.below b_;have tw2:=tB.below b_;have Bw2:=BB.trans (b_.mono (zT xRa_w1.lt));have xRa_w2:=xRa_w1.below b_;have xRb_w2:=xRb_w1.below b_;have xRc_w2:=xRc_w1.below b_;clear b_ mB tB BB xRa_w1 xRb_w1 xRc_w1;obtain⟨dRa0,dRa1,dRa2,dRa3,dRa4,dRa5,dRa6⟩:=xRa_w2.cs;obtain⟨dRb0,dRb1,dRb2,dRb3,dRb4,dRb5⟩:=xRb_w2.cs;obtain⟨dRc0,dRc1,dRc2,dRc3,dRc4,dRc5⟩:=xRc_w2.cs
 go_wp2_with fail
 clear dRa0 dRa1 dRa2 dRa3 dRa4 dRa5 dRa6 dRb0 dRb1 dRb2 dRb3 dRb4 dRb5 dRc0 dRc1 dRc2 dRc3 dRc4 dRc5;refine(CS.out _ mw2 tw2).mono ?_;rintro e w3 ⟨rfl,b_⟩;have mw3:=mw2.below b_;have tw3:=tw2.below b_;have Bw3:=Bw2.trans (b_.mono (zT xRa_w2.lt));have xRa_w3:=xRa_w2.below b_;have xRb_w3:=xRb_w2.below b_;have xRc_w3:=xRc_w2.below b_;clear b_ mw2 tw2 Bw2 xRa_w2 xRb_w2 xRc_w2
 go_wp2
 go_ret
 exact⟨rfl,by rw[HR.out];exact Bw3⟩
theorem wC (k:Int)(t s h:ByteArray)(wd:Bool)(sp:Int)(pa:ByteArray)(o:Bool)(s2 h2:ByteArray)(p:Int)(pa2 q2:ByteArray)(o3:Bool)(s3 h3:ByteArray)(p3:Int)(pa3 q3:ByteArray)(m:Bool)(CC:Hid (∀ W,Calls Tryz.prog 152 #[uV o s2 h2 p pa2 q2] W fun e w'=>e=.returned (.bool true)/\Below W.heap.size W w'))(n1:(k==11)=false)(n2:(k==12)=false)(n3:(k==2)=false)(w:World)(hm:aQ w)(ht:aS w):Calls Tryz.prog 109 #[aP k t s h wd sp pa,uV o s2 h2 p pa2 q2,uV o3 s3 h3 p3 pa3 q3,.bool m] w fun e w'=>e=.returned (.bool false)/\Below w.heap.size w w':=by
 unfold aP uV at *
 go_enter Tryz.func109,Tryz.ntmps109
 go_wp2_with fail
 obtain⟨x1,x2,x3,BB⟩:=bP w k t s h wd sp pa o s2 h2 p pa2 q2 o3 s3 h3 p3 pa3 q3;have mB:=((hm.made (.cells #[.int .i64 k,.string t,.string s,.string h,.bool wd,.int .i64 sp,.string pa] 75)).made (.cells #[.bool o,.string s2,.string h2,.int .i64 p,.string pa2,.string q2] 40)).made (.cells #[.bool o3,.string s3,.string h3,.int .i64 p3,.string pa3,.string q3] 40);have tB:=((ht.made (.cells #[.int .i64 k,.string t,.string s,.string h,.bool wd,.int .i64 sp,.string pa] 75)).made (.cells #[.bool o,.string s2,.string h2,.int .i64 p,.string pa2,.string q2] 40)).made (.cells #[.bool o3,.string s3,.string h3,.int .i64 p3,.string pa3,.string q3] 40);clear hm ht;generalize hR:w.heap.size=Ra at x1 x2 x3 BB ⊢;have HR:=zH hR;clear hR;obtain⟨Rb,hRb⟩:∃ Rb,Ra+1=Rb:=⟨_,rfl⟩;rw[hRb]at x2 x3
 try rw[hRb]
 clear hRb;obtain⟨Rc,hRb⟩:∃ Rc,Rb+1=Rc:=⟨_,rfl⟩;rw[hRb]at x3
 try rw[hRb]
 clear hRb;generalize((w.alloc (.cells #[.int .i64 k,.string t,.string s,.string h,.bool wd,.int .i64 sp,.string pa] 75)).alloc (.cells #[.bool o,.string s2,.string h2,.int .i64 p,.string pa2,.string q2] 40)).alloc (.cells #[.bool o3,.string s3,.string h3,.int .i64 p3,.string pa3,.string q3] 40)=w1 at x1 x2 x3 mB tB BB ⊢;have xRa_w1:=x1;have xRb_w1:=x2;have xRc_w1:=x3;clear x1 x2 x3;refine(CC.out _ ).mono ?_;rintro e w2 ⟨rfl,b_⟩;have mw2:=mB.below b_;have tw2:=tB.below b_;have Bw2:=BB.trans (b_.mono (zT xRa_w1.lt));have xRa_w2:=xRa_w1.below b_;have xRb_w2:=xRb_w1.below b_;have xRc_w2:=xRc_w1.below b_;clear b_ mB tB BB xRa_w1 xRb_w1 xRc_w1;obtain⟨dRa0,dRa1,dRa2,dRa3,dRa4,dRa5,dRa6⟩:=xRa_w2.cs
 go_wp2
 clear dRa0 dRa1 dRa2 dRa3 dRa4 dRa5 dRa6
 go_ret
 exact⟨rfl,by rw[HR.out];exact Bw2⟩
theorem aK6 (t s h:ByteArray)(wd:Bool)(sp:Int)(pa:ByteArray)(s2 h2:ByteArray)(p:Int)(pa2 q2:ByteArray)(o3:Bool)(s3 h3:ByteArray)(p3:Int)(pa3 q3:ByteArray)(m:Bool)(CC:Hid (∀ W,Calls Tryz.prog 152 #[uV true s2 h2 p pa2 q2] W fun e w'=>e=.returned (.bool true)/\Below W.heap.size W w'))(g:s.toList.isEmpty=false)(w:World)(hm:aQ w)(ht:aS w):Calls Tryz.prog 109 #[aP 12 t s h wd sp pa,uV true s2 h2 p pa2 q2,uV o3 s3 h3 p3 pa3 q3,.bool m] w fun e w'=>e=.returned (.bool false)/\Below w.heap.size w w':=by
 unfold aP uV at *
 go_enter Tryz.func109,Tryz.ntmps109
 go_wp2_with fail
 obtain⟨x1,x2,x3,BB⟩:=bP w 12 t s h wd sp pa true s2 h2 p pa2 q2 o3 s3 h3 p3 pa3 q3;have mB:=((hm.made (.cells #[.int .i64 12,.string t,.string s,.string h,.bool wd,.int .i64 sp,.string pa] 75)).made (.cells #[.bool true,.string s2,.string h2,.int .i64 p,.string pa2,.string q2] 40)).made (.cells #[.bool o3,.string s3,.string h3,.int .i64 p3,.string pa3,.string q3] 40);have tB:=((ht.made (.cells #[.int .i64 12,.string t,.string s,.string h,.bool wd,.int .i64 sp,.string pa] 75)).made (.cells #[.bool true,.string s2,.string h2,.int .i64 p,.string pa2,.string q2] 40)).made (.cells #[.bool o3,.string s3,.string h3,.int .i64 p3,.string pa3,.string q3] 40);clear hm ht;generalize hR:w.heap.size=Ra at x1 x2 x3 BB ⊢;have HR:=zH hR;clear hR;obtain⟨Rb,hRb⟩:∃ Rb,Ra+1=Rb:=⟨_,rfl⟩;rw[hRb]at x2 x3
 try rw[hRb]
 clear hRb;obtain⟨Rc,hRb⟩:∃ Rc,Rb+1=Rc:=⟨_,rfl⟩;rw[hRb]at x3
 try rw[hRb]
 clear hRb;generalize((w.alloc (.cells #[.int .i64 12,.string t,.string s,.string h,.bool wd,.int .i64 sp,.string pa] 75)).alloc (.cells #[.bool true,.string s2,.string h2,.int .i64 p,.string pa2,.string q2] 40)).alloc (.cells #[.bool o3,.string s3,.string h3,.int .i64 p3,.string pa3,.string q3] 40)=w1 at x1 x2 x3 mB tB BB ⊢;have xRa_w1:=x1;have xRb_w1:=x2;have xRc_w1:=x3;clear x1 x2 x3;refine(CC.out _ ).mono ?_;rintro e w2 ⟨rfl,b_⟩;have mw2:=mB.below b_;have tw2:=tB.below b_;have Bw2:=BB.trans (b_.mono (zT xRa_w1.lt));have xRa_w2:=xRa_w1.below b_;have xRb_w2:=xRb_w1.below b_;have xRc_w2:=xRc_w1.below b_;clear b_ mB tB BB xRa_w1 xRb_w1 xRc_w1;obtain⟨dRa0,dRa1,dRa2,dRa3,dRa4,dRa5,dRa6⟩:=xRa_w2.cs;obtain⟨dRb0,dRb1,dRb2,dRb3,dRb4,dRb5⟩:=xRb_w2.cs;obtain⟨dRc0,dRc1,dRc2,dRc3,dRc4,dRc5⟩:=xRc_w2.cs
 go_wp2
 clear dRa0 dRa1 dRa2 dRa3 dRa4 dRa5 dRa6 dRb0 dRb1 dRb2 dRb3 dRb4 dRb5 dRc0 dRc1 dRc2 dRc3 dRc4 dRc5
 go_ret
 exact⟨rfl,by rw[HR.out];exact Bw2⟩
theorem aK4 (t s h:ByteArray)(wd:Bool)(sp:Int)(pa:ByteArray)(s2 h2:ByteArray)(p:Int)(pa2 q2:ByteArray)(o3:Bool)(s3 h3:ByteArray)(p3:Int)(pa3 q3:ByteArray)(m:Bool)(CC:Hid (∀ W,Calls Tryz.prog 152 #[uV false s2 h2 p pa2 q2] W fun e w'=>e=.returned (.bool true)/\Below W.heap.size W w'))(g:s.toList.isEmpty=false)(C1:Hid (∀ W,Calls Tryz.prog 153 #[.string s,.string s2] W fun e w'=>e=.returned (.bool false)/\Below W.heap.size W w'))(w:World)(hm:aQ w)(ht:aS w):Calls Tryz.prog 109 #[aP 12 t s h wd sp pa,uV false s2 h2 p pa2 q2,uV o3 s3 h3 p3 pa3 q3,.bool m] w fun e w'=>e=.returned (.bool false)/\Below w.heap.size w w':=by
 unfold aP uV at *
 go_enter Tryz.func109,Tryz.ntmps109
 go_wp2_with fail
 obtain⟨x1,x2,x3,BB⟩:=bP w 12 t s h wd sp pa false s2 h2 p pa2 q2 o3 s3 h3 p3 pa3 q3;have mB:=((hm.made (.cells #[.int .i64 12,.string t,.string s,.string h,.bool wd,.int .i64 sp,.string pa] 75)).made (.cells #[.bool false,.string s2,.string h2,.int .i64 p,.string pa2,.string q2] 40)).made (.cells #[.bool o3,.string s3,.string h3,.int .i64 p3,.string pa3,.string q3] 40);have tB:=((ht.made (.cells #[.int .i64 12,.string t,.string s,.string h,.bool wd,.int .i64 sp,.string pa] 75)).made (.cells #[.bool false,.string s2,.string h2,.int .i64 p,.string pa2,.string q2] 40)).made (.cells #[.bool o3,.string s3,.string h3,.int .i64 p3,.string pa3,.string q3] 40);clear hm ht;generalize hR:w.heap.size=Ra at x1 x2 x3 BB ⊢;have HR:=zH hR;clear hR;obtain⟨Rb,hRb⟩:∃ Rb,Ra+1=Rb:=⟨_,rfl⟩;rw[hRb]at x2 x3
 try rw[hRb]
 clear hRb;obtain⟨Rc,hRb⟩:∃ Rc,Rb+1=Rc:=⟨_,rfl⟩;rw[hRb]at x3
 try rw[hRb]
 clear hRb;generalize((w.alloc (.cells #[.int .i64 12,.string t,.string s,.string h,.bool wd,.int .i64 sp,.string pa] 75)).alloc (.cells #[.bool false,.string s2,.string h2,.int .i64 p,.string pa2,.string q2] 40)).alloc (.cells #[.bool o3,.string s3,.string h3,.int .i64 p3,.string pa3,.string q3] 40)=w1 at x1 x2 x3 mB tB BB ⊢;have xRa_w1:=x1;have xRb_w1:=x2;have xRc_w1:=x3;clear x1 x2 x3;refine(CC.out _ ).mono ?_;rintro e w2 ⟨rfl,b_⟩;have mw2:=mB.below b_;have tw2:=tB.below b_;have Bw2:=BB.trans (b_.mono (zT xRa_w1.lt));have xRa_w2:=xRa_w1.below b_;have xRb_w2:=xRb_w1.below b_;have xRc_w2:=xRc_w1.below b_;clear b_ mB tB BB xRa_w1 xRb_w1 xRc_w1;obtain⟨dRa0,dRa1,dRa2,dRa3,dRa4,dRa5,dRa6⟩:=xRa_w2.cs;obtain⟨dRb0,dRb1,dRb2,dRb3,dRb4,dRb5⟩:=xRb_w2.cs;obtain⟨dRc0,dRc1,dRc2,dRc3,dRc4,dRc5⟩:=xRc_w2.cs
 go_wp2_with fail
 clear dRa0 dRa1 dRa2 dRa3 dRa4 dRa5 dRa6 dRb0 dRb1 dRb2 dRb3 dRb4 dRb5 dRc0 dRc1 dRc2 dRc3 dRc4 dRc5;refine(C1.out _ ).mono ?_;rintro e w3 ⟨rfl,b_⟩;have mw3:=mw2.below b_;have tw3:=tw2.below b_;have Bw3:=Bw2.trans (b_.mono (zT xRa_w2.lt));have xRa_w3:=xRa_w2.below b_;have xRb_w3:=xRb_w2.below b_;have xRc_w3:=xRc_w2.below b_;clear b_ mw2 tw2 Bw2 xRa_w2 xRb_w2 xRc_w2;obtain⟨dRa0,dRa1,dRa2,dRa3,dRa4,dRa5,dRa6⟩:=xRa_w3.cs;obtain⟨dRb0,dRb1,dRb2,dRb3,dRb4,dRb5⟩:=xRb_w3.cs;obtain⟨dRc0,dRc1,dRc2,dRc3,dRc4,dRc5⟩:=xRc_w3.cs
 go_wp2
 clear dRa0 dRa1 dRa2 dRa3 dRa4 dRa5 dRa6 dRb0 dRb1 dRb2 dRb3 dRb4 dRb5 dRc0 dRc1 dRc2 dRc3 dRc4 dRc5
 go_ret
 exact⟨rfl,by rw[HR.out];exact Bw3⟩
theorem aK2 (t s h:ByteArray)(wd:Bool)(sp:Int)(pa:ByteArray)(s2 h2:ByteArray)(p:Int)(pa2 q2:ByteArray)(o3:Bool)(s3 h3:ByteArray)(p3:Int)(pa3 q3:ByteArray)(m:Bool)(CC:Hid (∀ W,Calls Tryz.prog 152 #[uV false s2 h2 p pa2 q2] W fun e w'=>e=.returned (.bool true)/\Below W.heap.size W w'))(g:s.toList.isEmpty=false)(C1:Hid (∀ W,Calls Tryz.prog 153 #[.string s,.string s2] W fun e w'=>e=.returned (.bool true)/\Below W.heap.size W w'))(C2:Hid (∀ W,Calls Tryz.prog 155 #[aP 12 t s h wd sp pa,.string h2] W fun e w'=>e=.returned (.bool false)/\Below W.heap.size W w'))(w:World)(hm:aQ w)(ht:aS w):Calls Tryz.prog 109 #[aP 12 t s h wd sp pa,uV false s2 h2 p pa2 q2,uV o3 s3 h3 p3 pa3 q3,.bool m] w fun e w'=>e=.returned (.bool false)/\Below w.heap.size w w':=by
 unfold aP uV at *
 go_enter Tryz.func109,Tryz.ntmps109
 go_wp2_with fail
 obtain⟨x1,x2,x3,BB⟩:=bP w 12 t s h wd sp pa false s2 h2 p pa2 q2 o3 s3 h3 p3 pa3 q3;have mB:=((hm.made (.cells #[.int .i64 12,.string t,.string s,.string h,.bool wd,.int .i64 sp,.string pa] 75)).made (.cells #[.bool false,.string s2,.string h2,.int .i64 p,.string pa2,.string q2] 40)).made (.cells #[.bool o3,.string s3,.string h3,.int .i64 p3,.string pa3,.string q3] 40);have tB:=((ht.made (.cells #[.int .i64 12,.string t,.string s,.string h,.bool wd,.int .i64 sp,.string pa] 75)).made (.cells #[.bool false,.string s2,.string h2,.int .i64 p,.string pa2,.string q2] 40)).made (.cells #[.bool o3,.string s3,.string h3,.int .i64 p3,.string pa3,.string q3] 40);clear hm ht;generalize hR:w.heap.size=Ra at x1 x2 x3 BB ⊢;have HR:=zH hR;clear hR;obtain⟨Rb,hRb⟩:∃ Rb,Ra+1=Rb:=⟨_,rfl⟩;rw[hRb]at x2 x3
 try rw[hRb]
 clear hRb;obtain⟨Rc,hRb⟩:∃ Rc,Rb+1=Rc:=⟨_,rfl⟩;rw[hRb]at x3
 try rw[hRb]
 clear hRb;generalize((w.alloc (.cells #[.int .i64 12,.string t,.string s,.string h,.bool wd,.int .i64 sp,.string pa] 75)).alloc (.cells #[.bool false,.string s2,.string h2,.int .i64 p,.string pa2,.string q2] 40)).alloc (.cells #[.bool o3,.string s3,.string h3,.int .i64 p3,.string pa3,.string q3] 40)=w1 at x1 x2 x3 mB tB BB ⊢;have xRa_w1:=x1;have xRb_w1:=x2;have xRc_w1:=x3;clear x1 x2 x3;refine(CC.out _ ).mono ?_;rintro e w2 ⟨rfl,b_⟩;have mw2:=mB.below b_;have tw2:=tB.below b_;have Bw2:=BB.trans (b_.mono (zT xRa_w1.lt));have xRa_w2:=xRa_w1.below b_;have xRb_w2:=xRb_w1.below b_;have xRc_w2:=xRc_w1.below b_;clear b_ mB tB BB xRa_w1 xRb_w1 xRc_w1;obtain⟨dRa0,dRa1,dRa2,dRa3,dRa4,dRa5,dRa6⟩:=xRa_w2.cs;obtain⟨dRb0,dRb1,dRb2,dRb3,dRb4,dRb5⟩:=xRb_w2.cs;obtain⟨dRc0,dRc1,dRc2,dRc3,dRc4,dRc5⟩:=xRc_w2.cs
 go_wp2_with fail
 clear dRa0 dRa1 dRa2 dRa3 dRa4 dRa5 dRa6 dRb0 dRb1 dRb2 dRb3 dRb4 dRb5 dRc0 dRc1 dRc2 dRc3 dRc4 dRc5;refine(C1.out _ ).mono ?_;rintro e w3 ⟨rfl,b_⟩;have mw3:=mw2.below b_;have tw3:=tw2.below b_;have Bw3:=Bw2.trans (b_.mono (zT xRa_w2.lt));have xRa_w3:=xRa_w2.below b_;have xRb_w3:=xRb_w2.below b_;have xRc_w3:=xRc_w2.below b_;clear b_ mw2 tw2 Bw2 xRa_w2 xRb_w2 xRc_w2;obtain⟨dRa0,dRa1,dRa2,dRa3,dRa4,dRa5,dRa6⟩:=xRa_w3.cs;obtain⟨dRb0,dRb1,dRb2,dRb3,dRb4,dRb5⟩:=xRb_w3.cs;obtain⟨dRc0,dRc1,dRc2,dRc3,dRc4,dRc5⟩:=xRc_w3.cs
 go_wp2_with fail
 clear dRa0 dRa1 dRa2 dRa3 dRa4 dRa5 dRa6 dRb0 dRb1 dRb2 dRb3 dRb4 dRb5 dRc0 dRc1 dRc2 dRc3 dRc4 dRc5;refine(C2.out _ ).mono ?_;rintro e w4 ⟨rfl,b_⟩;have mw4:=mw3.below b_;have tw4:=tw3.below b_;have Bw4:=Bw3.trans (b_.mono (zT xRa_w3.lt));have xRa_w4:=xRa_w3.below b_;have xRb_w4:=xRb_w3.below b_;have xRc_w4:=xRc_w3.below b_;clear b_ mw3 tw3 Bw3 xRa_w3 xRb_w3 xRc_w3;obtain⟨dRa0,dRa1,dRa2,dRa3,dRa4,dRa5,dRa6⟩:=xRa_w4.cs;obtain⟨dRb0,dRb1,dRb2,dRb3,dRb4,dRb5⟩:=xRb_w4.cs;obtain⟨dRc0,dRc1,dRc2,dRc3,dRc4,dRc5⟩:=xRc_w4.cs
 go_wp2
 clear dRa0 dRa1 dRa2 dRa3 dRa4 dRa5 dRa6 dRb0 dRb1 dRb2 dRb3 dRb4 dRb5 dRc0 dRc1 dRc2 dRc3 dRc4 dRc5
 go_ret
 exact⟨rfl,by rw[HR.out];exact Bw4⟩
theorem aK0 (t s h:ByteArray)(wd:Bool)(sp:Int)(pa:ByteArray)(s2 h2:ByteArray)(p:Int)(pa2 q2:ByteArray)(o3:Bool)(s3 h3:ByteArray)(p3:Int)(pa3 q3:ByteArray)(m:Bool)(CC:Hid (∀ W,Calls Tryz.prog 152 #[uV false s2 h2 p pa2 q2] W fun e w'=>e=.returned (.bool true)/\Below W.heap.size W w'))(g:s.toList.isEmpty=false)(C1:Hid (∀ W,Calls Tryz.prog 153 #[.string s,.string s2] W fun e w'=>e=.returned (.bool true)/\Below W.heap.size W w'))(C2:Hid (∀ W,Calls Tryz.prog 155 #[aP 12 t s h wd sp pa,.string h2] W fun e w'=>e=.returned (.bool true)/\Below W.heap.size W w'))(C3:Hid (∀ W,Calls Tryz.prog 156 #[aP 12 t s h wd sp pa,uV false s2 h2 p pa2 q2] W fun e w'=>e=.returned (.bool false)/\Below W.heap.size W w'))(w:World)(hm:aQ w)(ht:aS w):Calls Tryz.prog 109 #[aP 12 t s h wd sp pa,uV false s2 h2 p pa2 q2,uV o3 s3 h3 p3 pa3 q3,.bool m] w fun e w'=>e=.returned (.bool false)/\Below w.heap.size w w':=by
 unfold aP uV at *
 go_enter Tryz.func109,Tryz.ntmps109
 go_wp2_with fail
 obtain⟨x1,x2,x3,BB⟩:=bP w 12 t s h wd sp pa false s2 h2 p pa2 q2 o3 s3 h3 p3 pa3 q3;have mB:=((hm.made (.cells #[.int .i64 12,.string t,.string s,.string h,.bool wd,.int .i64 sp,.string pa] 75)).made (.cells #[.bool false,.string s2,.string h2,.int .i64 p,.string pa2,.string q2] 40)).made (.cells #[.bool o3,.string s3,.string h3,.int .i64 p3,.string pa3,.string q3] 40);have tB:=((ht.made (.cells #[.int .i64 12,.string t,.string s,.string h,.bool wd,.int .i64 sp,.string pa] 75)).made (.cells #[.bool false,.string s2,.string h2,.int .i64 p,.string pa2,.string q2] 40)).made (.cells #[.bool o3,.string s3,.string h3,.int .i64 p3,.string pa3,.string q3] 40);clear hm ht;generalize hR:w.heap.size=Ra at x1 x2 x3 BB ⊢;have HR:=zH hR;clear hR;obtain⟨Rb,hRb⟩:∃ Rb,Ra+1=Rb:=⟨_,rfl⟩;rw[hRb]at x2 x3
 try rw[hRb]
 clear hRb;obtain⟨Rc,hRb⟩:∃ Rc,Rb+1=Rc:=⟨_,rfl⟩;rw[hRb]at x3
 try rw[hRb]
 clear hRb;generalize((w.alloc (.cells #[.int .i64 12,.string t,.string s,.string h,.bool wd,.int .i64 sp,.string pa] 75)).alloc (.cells #[.bool false,.string s2,.string h2,.int .i64 p,.string pa2,.string q2] 40)).alloc (.cells #[.bool o3,.string s3,.string h3,.int .i64 p3,.string pa3,.string q3] 40)=w1 at x1 x2 x3 mB tB BB ⊢;have xRa_w1:=x1;have xRb_w1:=x2;have xRc_w1:=x3;clear x1 x2 x3;refine(CC.out _ ).mono ?_;rintro e w2 ⟨rfl,b_⟩;have mw2:=mB.below b_;have tw2:=tB.below b_;have Bw2:=BB.trans (b_.mono (zT xRa_w1.lt));have xRa_w2:=xRa_w1.below b_;have xRb_w2:=xRb_w1.below b_;have xRc_w2:=xRc_w1.below b_;clear b_ mB tB BB xRa_w1 xRb_w1 xRc_w1;obtain⟨dRa0,dRa1,dRa2,dRa3,dRa4,dRa5,dRa6⟩:=xRa_w2.cs;obtain⟨dRb0,dRb1,dRb2,dRb3,dRb4,dRb5⟩:=xRb_w2.cs;obtain⟨dRc0,dRc1,dRc2,dRc3,dRc4,dRc5⟩:=xRc_w2.cs
 go_wp2_with fail
 clear dRa0 dRa1 dRa2 dRa3 dRa4 dRa5 dRa6 dRb0 dRb1 dRb2 dRb3 dRb4 dRb5 dRc0 dRc1 dRc2 dRc3 dRc4 dRc5;refine(C1.out _ ).mono ?_;rintro e w3 ⟨rfl,b_⟩;have mw3:=mw2.below b_;have tw3:=tw2.below b_;have Bw3:=Bw2.trans (b_.mono (zT xRa_w2.lt));have xRa_w3:=xRa_w2.below b_;have xRb_w3:=xRb_w2.below b_;have xRc_w3:=xRc_w2.below b_;clear b_ mw2 tw2 Bw2 xRa_w2 xRb_w2 xRc_w2;obtain⟨dRa0,dRa1,dRa2,dRa3,dRa4,dRa5,dRa6⟩:=xRa_w3.cs;obtain⟨dRb0,dRb1,dRb2,dRb3,dRb4,dRb5⟩:=xRb_w3.cs;obtain⟨dRc0,dRc1,dRc2,dRc3,dRc4,dRc5⟩:=xRc_w3.cs
 go_wp2_with fail
 clear dRa0 dRa1 dRa2 dRa3 dRa4 dRa5 dRa6 dRb0 dRb1 dRb2 dRb3 dRb4 dRb5 dRc0 dRc1 dRc2 dRc3 dRc4 dRc5;refine(C2.out _ ).mono ?_;rintro e w4 ⟨rfl,b_⟩;have mw4:=mw3.below b_;have tw4:=tw3.below b_;have Bw4:=Bw3.trans (b_.mono (zT xRa_w3.lt));have xRa_w4:=xRa_w3.below b_;have xRb_w4:=xRb_w3.below b_;have xRc_w4:=xRc_w3.below b_;clear b_ mw3 tw3 Bw3 xRa_w3 xRb_w3 xRc_w3;obtain⟨dRa0,dRa1,dRa2,dRa3,dRa4,dRa5,dRa6⟩:=xRa_w4.cs;obtain⟨dRb0,dRb1,dRb2,dRb3,dRb4,dRb5⟩:=xRb_w4.cs;obtain⟨dRc0,dRc1,dRc2,dRc3,dRc4,dRc5⟩:=xRc_w4.cs
 go_wp2_with fail
 clear dRa0 dRa1 dRa2 dRa3 dRa4 dRa5 dRa6 dRb0 dRb1 dRb2 dRb3 dRb4 dRb5 dRc0 dRc1 dRc2 dRc3 dRc4 dRc5;refine(C3.out _ ).mono ?_;rintro e w5 ⟨rfl,b_⟩;have mw5:=mw4.below b_;have tw5:=tw4.below b_;have Bw5:=Bw4.trans (b_.mono (zT xRa_w4.lt));have xRa_w5:=xRa_w4.below b_;have xRb_w5:=xRb_w4.below b_;have xRc_w5:=xRc_w4.below b_;clear b_ mw4 tw4 Bw4 xRa_w4 xRb_w4 xRc_w4;obtain⟨dRa0,dRa1,dRa2,dRa3,dRa4,dRa5,dRa6⟩:=xRa_w5.cs;obtain⟨dRb0,dRb1,dRb2,dRb3,dRb4,dRb5⟩:=xRb_w5.cs;obtain⟨dRc0,dRc1,dRc2,dRc3,dRc4,dRc5⟩:=xRc_w5.cs
 go_wp2
 clear dRa0 dRa1 dRa2 dRa3 dRa4 dRa5 dRa6 dRb0 dRb1 dRb2 dRb3 dRb4 dRb5 dRc0 dRc1 dRc2 dRc3 dRc4 dRc5
 go_ret
 exact⟨rfl,by rw[HR.out];exact Bw5⟩
theorem aJ8 (t s h:ByteArray)(wd:Bool)(sp:Int)(pa:ByteArray)(s2 h2:ByteArray)(p:Int)(pa2 q2:ByteArray)(o3:Bool)(s3 h3:ByteArray)(p3:Int)(pa3 q3:ByteArray)(m r:Bool)(CC:Hid (∀ W,Calls Tryz.prog 152 #[uV false s2 h2 p pa2 q2] W fun e w'=>e=.returned (.bool true)/\Below W.heap.size W w'))(g:s.toList.isEmpty=false)(C1:Hid (∀ W,Calls Tryz.prog 153 #[.string s,.string s2] W fun e w'=>e=.returned (.bool true)/\Below W.heap.size W w'))(C2:Hid (∀ W,Calls Tryz.prog 155 #[aP 12 t s h wd sp pa,.string h2] W fun e w'=>e=.returned (.bool true)/\Below W.heap.size W w'))(C3:Hid (∀ W,Calls Tryz.prog 156 #[aP 12 t s h wd sp pa,uV false s2 h2 p pa2 q2] W fun e w'=>e=.returned (.bool true)/\Below W.heap.size W w'))(C4:Hid (∀ W,Calls Tryz.prog 157 #[.string pa,.string pa2,.bool m] W fun e w'=>e=.returned (.bool r)/\Below W.heap.size W w'))(w:World)(hm:aQ w)(ht:aS w):Calls Tryz.prog 109 #[aP 12 t s h wd sp pa,uV false s2 h2 p pa2 q2,uV o3 s3 h3 p3 pa3 q3,.bool m] w fun e w'=>e=.returned (.bool r)/\Below w.heap.size w w':=by
 unfold aP uV at *
 go_enter Tryz.func109,Tryz.ntmps109
 go_wp2_with fail
 obtain⟨x1,x2,x3,BB⟩:=bP w 12 t s h wd sp pa false s2 h2 p pa2 q2 o3 s3 h3 p3 pa3 q3;have mB:=((hm.made (.cells #[.int .i64 12,.string t,.string s,.string h,.bool wd,.int .i64 sp,.string pa] 75)).made (.cells #[.bool false,.string s2,.string h2,.int .i64 p,.string pa2,.string q2] 40)).made (.cells #[.bool o3,.string s3,.string h3,.int .i64 p3,.string pa3,.string q3] 40);have tB:=((ht.made (.cells #[.int .i64 12,.string t,.string s,.string h,.bool wd,.int .i64 sp,.string pa] 75)).made (.cells #[.bool false,.string s2,.string h2,.int .i64 p,.string pa2,.string q2] 40)).made (.cells #[.bool o3,.string s3,.string h3,.int .i64 p3,.string pa3,.string q3] 40);clear hm ht;generalize hR:w.heap.size=Ra at x1 x2 x3 BB ⊢;have HR:=zH hR;clear hR;obtain⟨Rb,hRb⟩:∃ Rb,Ra+1=Rb:=⟨_,rfl⟩;rw[hRb]at x2 x3
 try rw[hRb]
 clear hRb;obtain⟨Rc,hRb⟩:∃ Rc,Rb+1=Rc:=⟨_,rfl⟩;rw[hRb]at x3
 try rw[hRb]
 clear hRb;generalize((w.alloc (.cells #[.int .i64 12,.string t,.string s,.string h,.bool wd,.int .i64 sp,.string pa] 75)).alloc (.cells #[.bool false,.string s2,.string h2,.int .i64 p,.string pa2,.string q2] 40)).alloc (.cells #[.bool o3,.string s3,.string h3,.int .i64 p3,.string pa3,.string q3] 40)=w1 at x1 x2 x3 mB tB BB ⊢;have xRa_w1:=x1;have xRb_w1:=x2;have xRc_w1:=x3;clear x1 x2 x3;refine(CC.out _ ).mono ?_;rintro e w2 ⟨rfl,b_⟩;have mw2:=mB.below b_;have tw2:=tB.below b_;have Bw2:=BB.trans (b_.mono (zT xRa_w1.lt));have xRa_w2:=xRa_w1.below b_;have xRb_w2:=xRb_w1.below b_;have xRc_w2:=xRc_w1.below b_;clear b_ mB tB BB xRa_w1 xRb_w1 xRc_w1;obtain⟨dRa0,dRa1,dRa2,dRa3,dRa4,dRa5,dRa6⟩:=xRa_w2.cs;obtain⟨dRb0,dRb1,dRb2,dRb3,dRb4,dRb5⟩:=xRb_w2.cs;obtain⟨dRc0,dRc1,dRc2,dRc3,dRc4,dRc5⟩:=xRc_w2.cs
 go_wp2_with fail
 clear dRa0 dRa1 dRa2 dRa3 dRa4 dRa5 dRa6 dRb0 dRb1 dRb2 dRb3 dRb4 dRb5 dRc0 dRc1 dRc2 dRc3 dRc4 dRc5;refine(C1.out _ ).mono ?_;rintro e w3 ⟨rfl,b_⟩;have mw3:=mw2.below b_;have tw3:=tw2.below b_;have Bw3:=Bw2.trans (b_.mono (zT xRa_w2.lt));have xRa_w3:=xRa_w2.below b_;have xRb_w3:=xRb_w2.below b_;have xRc_w3:=xRc_w2.below b_;clear b_ mw2 tw2 Bw2 xRa_w2 xRb_w2 xRc_w2;obtain⟨dRa0,dRa1,dRa2,dRa3,dRa4,dRa5,dRa6⟩:=xRa_w3.cs;obtain⟨dRb0,dRb1,dRb2,dRb3,dRb4,dRb5⟩:=xRb_w3.cs;obtain⟨dRc0,dRc1,dRc2,dRc3,dRc4,dRc5⟩:=xRc_w3.cs
 go_wp2_with fail
 clear dRa0 dRa1 dRa2 dRa3 dRa4 dRa5 dRa6 dRb0 dRb1 dRb2 dRb3 dRb4 dRb5 dRc0 dRc1 dRc2 dRc3 dRc4 dRc5;refine(C2.out _ ).mono ?_;rintro e w4 ⟨rfl,b_⟩;have mw4:=mw3.below b_;have tw4:=tw3.below b_;have Bw4:=Bw3.trans (b_.mono (zT xRa_w3.lt));have xRa_w4:=xRa_w3.below b_;have xRb_w4:=xRb_w3.below b_;have xRc_w4:=xRc_w3.below b_;clear b_ mw3 tw3 Bw3 xRa_w3 xRb_w3 xRc_w3;obtain⟨dRa0,dRa1,dRa2,dRa3,dRa4,dRa5,dRa6⟩:=xRa_w4.cs;obtain⟨dRb0,dRb1,dRb2,dRb3,dRb4,dRb5⟩:=xRb_w4.cs;obtain⟨dRc0,dRc1,dRc2,dRc3,dRc4,dRc5⟩:=xRc_w4.cs
 go_wp2_with fail
 clear dRa0 dRa1 dRa2 dRa3 dRa4 dRa5 dRa6 dRb0 dRb1 dRb2 dRb3 dRb4 dRb5 dRc0 dRc1 dRc2 dRc3 dRc4 dRc5;refine(C3.out _ ).mono ?_;rintro e w5 ⟨rfl,b_⟩;have mw5:=mw4.below b_;have tw5:=tw4.below b_;have Bw5:=Bw4.trans (b_.mono (zT xRa_w4.lt));have xRa_w5:=xRa_w4.below b_;have xRb_w5:=xRb_w4.below b_;have xRc_w5:=xRc_w4.below b_;clear b_ mw4 tw4 Bw4 xRa_w4 xRb_w4 xRc_w4;obtain⟨dRa0,dRa1,dRa2,dRa3,dRa4,dRa5,dRa6⟩:=xRa_w5.cs;obtain⟨dRb0,dRb1,dRb2,dRb3,dRb4,dRb5⟩:=xRb_w5.cs;obtain⟨dRc0,dRc1,dRc2,dRc3,dRc4,dRc5⟩:=xRc_w5.cs
 go_wp2_with fail
 clear dRa0 dRa1 dRa2 dRa3 dRa4 dRa5 dRa6 dRb0 dRb1 dRb2 dRb3 dRb4 dRb5 dRc0 dRc1 dRc2 dRc3 dRc4 dRc5;refine(C4.out _ ).mono ?_;rintro e w6 ⟨rfl,b_⟩;have mw6:=mw5.below b_;have tw6:=tw5.below b_;have Bw6:=Bw5.trans (b_.mono (zT xRa_w5.lt));have xRa_w6:=xRa_w5.below b_;have xRb_w6:=xRb_w5.below b_;have xRc_w6:=xRc_w5.below b_;clear b_ mw5 tw5 Bw5 xRa_w5 xRb_w5 xRc_w5;obtain⟨dRa0,dRa1,dRa2,dRa3,dRa4,dRa5,dRa6⟩:=xRa_w6.cs;obtain⟨dRb0,dRb1,dRb2,dRb3,dRb4,dRb5⟩:=xRb_w6.cs;obtain⟨dRc0,dRc1,dRc2,dRc3,dRc4,dRc5⟩:=xRc_w6.cs
 go_wp2
 clear dRa0 dRa1 dRa2 dRa3 dRa4 dRa5 dRa6 dRb0 dRb1 dRb2 dRb3 dRb4 dRb5 dRc0 dRc1 dRc2 dRc3 dRc4 dRc5
 go_ret
 exact⟨rfl,by rw[HR.out];exact Bw6⟩
theorem aK5 (t s h:ByteArray)(wd:Bool)(sp:Int)(pa:ByteArray)(s2 h2:ByteArray)(p:Int)(pa2 q2:ByteArray)(o3:Bool)(s3 h3:ByteArray)(p3:Int)(pa3 q3:ByteArray)(m:Bool)(CC:Hid (∀ W,Calls Tryz.prog 152 #[uV true s2 h2 p pa2 q2] W fun e w'=>e=.returned (.bool true)/\Below W.heap.size W w'))(g:s.toList.isEmpty=true)(w:World)(hm:aQ w)(ht:aS w):Calls Tryz.prog 109 #[aP 12 t s h wd sp pa,uV true s2 h2 p pa2 q2,uV o3 s3 h3 p3 pa3 q3,.bool m] w fun e w'=>e=.returned (.bool false)/\Below w.heap.size w w':=by
 unfold aP uV at *
 go_enter Tryz.func109,Tryz.ntmps109
 go_wp2_with fail
 obtain⟨x1,x2,x3,BB⟩:=bP w 12 t s h wd sp pa true s2 h2 p pa2 q2 o3 s3 h3 p3 pa3 q3;have mB:=((hm.made (.cells #[.int .i64 12,.string t,.string s,.string h,.bool wd,.int .i64 sp,.string pa] 75)).made (.cells #[.bool true,.string s2,.string h2,.int .i64 p,.string pa2,.string q2] 40)).made (.cells #[.bool o3,.string s3,.string h3,.int .i64 p3,.string pa3,.string q3] 40);have tB:=((ht.made (.cells #[.int .i64 12,.string t,.string s,.string h,.bool wd,.int .i64 sp,.string pa] 75)).made (.cells #[.bool true,.string s2,.string h2,.int .i64 p,.string pa2,.string q2] 40)).made (.cells #[.bool o3,.string s3,.string h3,.int .i64 p3,.string pa3,.string q3] 40);clear hm ht;generalize hR:w.heap.size=Ra at x1 x2 x3 BB ⊢;have HR:=zH hR;clear hR;obtain⟨Rb,hRb⟩:∃ Rb,Ra+1=Rb:=⟨_,rfl⟩;rw[hRb]at x2 x3
 try rw[hRb]
 clear hRb;obtain⟨Rc,hRb⟩:∃ Rc,Rb+1=Rc:=⟨_,rfl⟩;rw[hRb]at x3
 try rw[hRb]
 clear hRb;generalize((w.alloc (.cells #[.int .i64 12,.string t,.string s,.string h,.bool wd,.int .i64 sp,.string pa] 75)).alloc (.cells #[.bool true,.string s2,.string h2,.int .i64 p,.string pa2,.string q2] 40)).alloc (.cells #[.bool o3,.string s3,.string h3,.int .i64 p3,.string pa3,.string q3] 40)=w1 at x1 x2 x3 mB tB BB ⊢;have xRa_w1:=x1;have xRb_w1:=x2;have xRc_w1:=x3;clear x1 x2 x3;refine(CC.out _ ).mono ?_;rintro e w2 ⟨rfl,b_⟩;have mw2:=mB.below b_;have tw2:=tB.below b_;have Bw2:=BB.trans (b_.mono (zT xRa_w1.lt));have xRa_w2:=xRa_w1.below b_;have xRb_w2:=xRb_w1.below b_;have xRc_w2:=xRc_w1.below b_;clear b_ mB tB BB xRa_w1 xRb_w1 xRc_w1;obtain⟨dRa0,dRa1,dRa2,dRa3,dRa4,dRa5,dRa6⟩:=xRa_w2.cs;obtain⟨dRb0,dRb1,dRb2,dRb3,dRb4,dRb5⟩:=xRb_w2.cs;obtain⟨dRc0,dRc1,dRc2,dRc3,dRc4,dRc5⟩:=xRc_w2.cs
 go_wp2
 clear dRa0 dRa1 dRa2 dRa3 dRa4 dRa5 dRa6 dRb0 dRb1 dRb2 dRb3 dRb4 dRb5 dRc0 dRc1 dRc2 dRc3 dRc4 dRc5
 go_ret
 exact⟨rfl,by rw[HR.out];exact Bw2⟩
theorem aK3 (t s h:ByteArray)(wd:Bool)(sp:Int)(pa:ByteArray)(s2 h2:ByteArray)(p:Int)(pa2 q2:ByteArray)(o3:Bool)(s3 h3:ByteArray)(p3:Int)(pa3 q3:ByteArray)(m:Bool)(CC:Hid (∀ W,Calls Tryz.prog 152 #[uV false s2 h2 p pa2 q2] W fun e w'=>e=.returned (.bool true)/\Below W.heap.size W w'))(g:s.toList.isEmpty=true)(C1:Hid (∀ W,Calls Tryz.prog 153 #[.string s3,.string s2] W fun e w'=>e=.returned (.bool false)/\Below W.heap.size W w'))(w:World)(hm:aQ w)(ht:aS w):Calls Tryz.prog 109 #[aP 12 t s h wd sp pa,uV false s2 h2 p pa2 q2,uV o3 s3 h3 p3 pa3 q3,.bool m] w fun e w'=>e=.returned (.bool false)/\Below w.heap.size w w':=by
 unfold aP uV at *
 go_enter Tryz.func109,Tryz.ntmps109
 go_wp2_with fail
 obtain⟨x1,x2,x3,BB⟩:=bP w 12 t s h wd sp pa false s2 h2 p pa2 q2 o3 s3 h3 p3 pa3 q3;have mB:=((hm.made (.cells #[.int .i64 12,.string t,.string s,.string h,.bool wd,.int .i64 sp,.string pa] 75)).made (.cells #[.bool false,.string s2,.string h2,.int .i64 p,.string pa2,.string q2] 40)).made (.cells #[.bool o3,.string s3,.string h3,.int .i64 p3,.string pa3,.string q3] 40);have tB:=((ht.made (.cells #[.int .i64 12,.string t,.string s,.string h,.bool wd,.int .i64 sp,.string pa] 75)).made (.cells #[.bool false,.string s2,.string h2,.int .i64 p,.string pa2,.string q2] 40)).made (.cells #[.bool o3,.string s3,.string h3,.int .i64 p3,.string pa3,.string q3] 40);clear hm ht;generalize hR:w.heap.size=Ra at x1 x2 x3 BB ⊢;have HR:=zH hR;clear hR;obtain⟨Rb,hRb⟩:∃ Rb,Ra+1=Rb:=⟨_,rfl⟩;rw[hRb]at x2 x3
 try rw[hRb]
 clear hRb;obtain⟨Rc,hRb⟩:∃ Rc,Rb+1=Rc:=⟨_,rfl⟩;rw[hRb]at x3
 try rw[hRb]
 clear hRb;generalize((w.alloc (.cells #[.int .i64 12,.string t,.string s,.string h,.bool wd,.int .i64 sp,.string pa] 75)).alloc (.cells #[.bool false,.string s2,.string h2,.int .i64 p,.string pa2,.string q2] 40)).alloc (.cells #[.bool o3,.string s3,.string h3,.int .i64 p3,.string pa3,.string q3] 40)=w1 at x1 x2 x3 mB tB BB ⊢;have xRa_w1:=x1;have xRb_w1:=x2;have xRc_w1:=x3;clear x1 x2 x3;refine(CC.out _ ).mono ?_;rintro e w2 ⟨rfl,b_⟩;have mw2:=mB.below b_;have tw2:=tB.below b_;have Bw2:=BB.trans (b_.mono (zT xRa_w1.lt));have xRa_w2:=xRa_w1.below b_;have xRb_w2:=xRb_w1.below b_;have xRc_w2:=xRc_w1.below b_;clear b_ mB tB BB xRa_w1 xRb_w1 xRc_w1;obtain⟨dRa0,dRa1,dRa2,dRa3,dRa4,dRa5,dRa6⟩:=xRa_w2.cs;obtain⟨dRb0,dRb1,dRb2,dRb3,dRb4,dRb5⟩:=xRb_w2.cs;obtain⟨dRc0,dRc1,dRc2,dRc3,dRc4,dRc5⟩:=xRc_w2.cs
 go_wp2_with fail
 clear dRa0 dRa1 dRa2 dRa3 dRa4 dRa5 dRa6 dRb0 dRb1 dRb2 dRb3 dRb4 dRb5 dRc0 dRc1 dRc2 dRc3 dRc4 dRc5;refine(C1.out _ ).mono ?_;rintro e w3 ⟨rfl,b_⟩;have mw3:=mw2.below b_;have tw3:=tw2.below b_;have Bw3:=Bw2.trans (b_.mono (zT xRa_w2.lt));have xRa_w3:=xRa_w2.below b_;have xRb_w3:=xRb_w2.below b_;have xRc_w3:=xRc_w2.below b_;clear b_ mw2 tw2 Bw2 xRa_w2 xRb_w2 xRc_w2;obtain⟨dRa0,dRa1,dRa2,dRa3,dRa4,dRa5,dRa6⟩:=xRa_w3.cs;obtain⟨dRb0,dRb1,dRb2,dRb3,dRb4,dRb5⟩:=xRb_w3.cs;obtain⟨dRc0,dRc1,dRc2,dRc3,dRc4,dRc5⟩:=xRc_w3.cs
 go_wp2
 clear dRa0 dRa1 dRa2 dRa3 dRa4 dRa5 dRa6 dRb0 dRb1 dRb2 dRb3 dRb4 dRb5 dRc0 dRc1 dRc2 dRc3 dRc4 dRc5
 go_ret
 exact⟨rfl,by rw[HR.out];exact Bw3⟩
theorem aK1 (t s h:ByteArray)(wd:Bool)(sp:Int)(pa:ByteArray)(s2 h2:ByteArray)(p:Int)(pa2 q2:ByteArray)(o3:Bool)(s3 h3:ByteArray)(p3:Int)(pa3 q3:ByteArray)(m:Bool)(CC:Hid (∀ W,Calls Tryz.prog 152 #[uV false s2 h2 p pa2 q2] W fun e w'=>e=.returned (.bool true)/\Below W.heap.size W w'))(g:s.toList.isEmpty=true)(C1:Hid (∀ W,Calls Tryz.prog 153 #[.string s3,.string s2] W fun e w'=>e=.returned (.bool true)/\Below W.heap.size W w'))(C2:Hid (∀ W,Calls Tryz.prog 155 #[aP 12 t s h wd sp pa,.string h2] W fun e w'=>e=.returned (.bool false)/\Below W.heap.size W w'))(w:World)(hm:aQ w)(ht:aS w):Calls Tryz.prog 109 #[aP 12 t s h wd sp pa,uV false s2 h2 p pa2 q2,uV o3 s3 h3 p3 pa3 q3,.bool m] w fun e w'=>e=.returned (.bool false)/\Below w.heap.size w w':=by
 unfold aP uV at *
 go_enter Tryz.func109,Tryz.ntmps109
 go_wp2_with fail
 obtain⟨x1,x2,x3,BB⟩:=bP w 12 t s h wd sp pa false s2 h2 p pa2 q2 o3 s3 h3 p3 pa3 q3;have mB:=((hm.made (.cells #[.int .i64 12,.string t,.string s,.string h,.bool wd,.int .i64 sp,.string pa] 75)).made (.cells #[.bool false,.string s2,.string h2,.int .i64 p,.string pa2,.string q2] 40)).made (.cells #[.bool o3,.string s3,.string h3,.int .i64 p3,.string pa3,.string q3] 40);have tB:=((ht.made (.cells #[.int .i64 12,.string t,.string s,.string h,.bool wd,.int .i64 sp,.string pa] 75)).made (.cells #[.bool false,.string s2,.string h2,.int .i64 p,.string pa2,.string q2] 40)).made (.cells #[.bool o3,.string s3,.string h3,.int .i64 p3,.string pa3,.string q3] 40);clear hm ht;generalize hR:w.heap.size=Ra at x1 x2 x3 BB ⊢;have HR:=zH hR;clear hR;obtain⟨Rb,hRb⟩:∃ Rb,Ra+1=Rb:=⟨_,rfl⟩;rw[hRb]at x2 x3
 try rw[hRb]
 clear hRb;obtain⟨Rc,hRb⟩:∃ Rc,Rb+1=Rc:=⟨_,rfl⟩;rw[hRb]at x3
 try rw[hRb]
 clear hRb;generalize((w.alloc (.cells #[.int .i64 12,.string t,.string s,.string h,.bool wd,.int .i64 sp,.string pa] 75)).alloc (.cells #[.bool false,.string s2,.string h2,.int .i64 p,.string pa2,.string q2] 40)).alloc (.cells #[.bool o3,.string s3,.string h3,.int .i64 p3,.string pa3,.string q3] 40)=w1 at x1 x2 x3 mB tB BB ⊢;have xRa_w1:=x1;have xRb_w1:=x2;have xRc_w1:=x3;clear x1 x2 x3;refine(CC.out _ ).mono ?_;rintro e w2 ⟨rfl,b_⟩;have mw2:=mB.below b_;have tw2:=tB.below b_;have Bw2:=BB.trans (b_.mono (zT xRa_w1.lt));have xRa_w2:=xRa_w1.below b_;have xRb_w2:=xRb_w1.below b_;have xRc_w2:=xRc_w1.below b_;clear b_ mB tB BB xRa_w1 xRb_w1 xRc_w1;obtain⟨dRa0,dRa1,dRa2,dRa3,dRa4,dRa5,dRa6⟩:=xRa_w2.cs;obtain⟨dRb0,dRb1,dRb2,dRb3,dRb4,dRb5⟩:=xRb_w2.cs;obtain⟨dRc0,dRc1,dRc2,dRc3,dRc4,dRc5⟩:=xRc_w2.cs
 go_wp2_with fail
 clear dRa0 dRa1 dRa2 dRa3 dRa4 dRa5 dRa6 dRb0 dRb1 dRb2 dRb3 dRb4 dRb5 dRc0 dRc1 dRc2 dRc3 dRc4 dRc5;refine(C1.out _ ).mono ?_;rintro e w3 ⟨rfl,b_⟩;have mw3:=mw2.below b_;have tw3:=tw2.below b_;have Bw3:=Bw2.trans (b_.mono (zT xRa_w2.lt));have xRa_w3:=xRa_w2.below b_;have xRb_w3:=xRb_w2.below b_;have xRc_w3:=xRc_w2.below b_;clear b_ mw2 tw2 Bw2 xRa_w2 xRb_w2 xRc_w2;obtain⟨dRa0,dRa1,dRa2,dRa3,dRa4,dRa5,dRa6⟩:=xRa_w3.cs;obtain⟨dRb0,dRb1,dRb2,dRb3,dRb4,dRb5⟩:=xRb_w3.cs;obtain⟨dRc0,dRc1,dRc2,dRc3,dRc4,dRc5⟩:=xRc_w3.cs
 go_wp2_with fail
 clear dRa0 dRa1 dRa2 dRa3 dRa4 dRa5 dRa6 dRb0 dRb1 dRb2 dRb3 dRb4 dRb5 dRc0 dRc1 dRc2 dRc3 dRc4 dRc5;refine(C2.out _ ).mono ?_;rintro e w4 ⟨rfl,b_⟩;have mw4:=mw3.below b_;have tw4:=tw3.below b_;have Bw4:=Bw3.trans (b_.mono (zT xRa_w3.lt));have xRa_w4:=xRa_w3.below b_;have xRb_w4:=xRb_w3.below b_;have xRc_w4:=xRc_w3.below b_;clear b_ mw3 tw3 Bw3 xRa_w3 xRb_w3 xRc_w3;obtain⟨dRa0,dRa1,dRa2,dRa3,dRa4,dRa5,dRa6⟩:=xRa_w4.cs;obtain⟨dRb0,dRb1,dRb2,dRb3,dRb4,dRb5⟩:=xRb_w4.cs;obtain⟨dRc0,dRc1,dRc2,dRc3,dRc4,dRc5⟩:=xRc_w4.cs
 go_wp2
 clear dRa0 dRa1 dRa2 dRa3 dRa4 dRa5 dRa6 dRb0 dRb1 dRb2 dRb3 dRb4 dRb5 dRc0 dRc1 dRc2 dRc3 dRc4 dRc5
 go_ret
 exact⟨rfl,by rw[HR.out];exact Bw4⟩
theorem aJ9 (t s h:ByteArray)(wd:Bool)(sp:Int)(pa:ByteArray)(s2 h2:ByteArray)(p:Int)(pa2 q2:ByteArray)(o3:Bool)(s3 h3:ByteArray)(p3:Int)(pa3 q3:ByteArray)(m:Bool)(CC:Hid (∀ W,Calls Tryz.prog 152 #[uV false s2 h2 p pa2 q2] W fun e w'=>e=.returned (.bool true)/\Below W.heap.size W w'))(g:s.toList.isEmpty=true)(C1:Hid (∀ W,Calls Tryz.prog 153 #[.string s3,.string s2] W fun e w'=>e=.returned (.bool true)/\Below W.heap.size W w'))(C2:Hid (∀ W,Calls Tryz.prog 155 #[aP 12 t s h wd sp pa,.string h2] W fun e w'=>e=.returned (.bool true)/\Below W.heap.size W w'))(C3:Hid (∀ W,Calls Tryz.prog 156 #[aP 12 t s h wd sp pa,uV false s2 h2 p pa2 q2] W fun e w'=>e=.returned (.bool false)/\Below W.heap.size W w'))(w:World)(hm:aQ w)(ht:aS w):Calls Tryz.prog 109 #[aP 12 t s h wd sp pa,uV false s2 h2 p pa2 q2,uV o3 s3 h3 p3 pa3 q3,.bool m] w fun e w'=>e=.returned (.bool false)/\Below w.heap.size w w':=by
 unfold aP uV at *
 go_enter Tryz.func109,Tryz.ntmps109
 go_wp2_with fail
 obtain⟨x1,x2,x3,BB⟩:=bP w 12 t s h wd sp pa false s2 h2 p pa2 q2 o3 s3 h3 p3 pa3 q3;have mB:=((hm.made (.cells #[.int .i64 12,.string t,.string s,.string h,.bool wd,.int .i64 sp,.string pa] 75)).made (.cells #[.bool false,.string s2,.string h2,.int .i64 p,.string pa2,.string q2] 40)).made (.cells #[.bool o3,.string s3,.string h3,.int .i64 p3,.string pa3,.string q3] 40);have tB:=((ht.made (.cells #[.int .i64 12,.string t,.string s,.string h,.bool wd,.int .i64 sp,.string pa] 75)).made (.cells #[.bool false,.string s2,.string h2,.int .i64 p,.string pa2,.string q2] 40)).made (.cells #[.bool o3,.string s3,.string h3,.int .i64 p3,.string pa3,.string q3] 40);clear hm ht;generalize hR:w.heap.size=Ra at x1 x2 x3 BB ⊢;have HR:=zH hR;clear hR;obtain⟨Rb,hRb⟩:∃ Rb,Ra+1=Rb:=⟨_,rfl⟩;rw[hRb]at x2 x3
 try rw[hRb]
 clear hRb;obtain⟨Rc,hRb⟩:∃ Rc,Rb+1=Rc:=⟨_,rfl⟩;rw[hRb]at x3
 try rw[hRb]
 clear hRb;generalize((w.alloc (.cells #[.int .i64 12,.string t,.string s,.string h,.bool wd,.int .i64 sp,.string pa] 75)).alloc (.cells #[.bool false,.string s2,.string h2,.int .i64 p,.string pa2,.string q2] 40)).alloc (.cells #[.bool o3,.string s3,.string h3,.int .i64 p3,.string pa3,.string q3] 40)=w1 at x1 x2 x3 mB tB BB ⊢;have xRa_w1:=x1;have xRb_w1:=x2;have xRc_w1:=x3;clear x1 x2 x3;refine(CC.out _ ).mono ?_;rintro e w2 ⟨rfl,b_⟩;have mw2:=mB.below b_;have tw2:=tB.below b_;have Bw2:=BB.trans (b_.mono (zT xRa_w1.lt));have xRa_w2:=xRa_w1.below b_;have xRb_w2:=xRb_w1.below b_;have xRc_w2:=xRc_w1.below b_;clear b_ mB tB BB xRa_w1 xRb_w1 xRc_w1;obtain⟨dRa0,dRa1,dRa2,dRa3,dRa4,dRa5,dRa6⟩:=xRa_w2.cs;obtain⟨dRb0,dRb1,dRb2,dRb3,dRb4,dRb5⟩:=xRb_w2.cs;obtain⟨dRc0,dRc1,dRc2,dRc3,dRc4,dRc5⟩:=xRc_w2.cs
 go_wp2_with fail
 clear dRa0 dRa1 dRa2 dRa3 dRa4 dRa5 dRa6 dRb0 dRb1 dRb2 dRb3 dRb4 dRb5 dRc0 dRc1 dRc2 dRc3 dRc4 dRc5;refine(C1.out _ ).mono ?_;rintro e w3 ⟨rfl,b_⟩;have mw3:=mw2.below b_;have tw3:=tw2.below b_;have Bw3:=Bw2.trans (b_.mono (zT xRa_w2.lt));have xRa_w3:=xRa_w2.below b_;have xRb_w3:=xRb_w2.below b_;have xRc_w3:=xRc_w2.below b_;clear b_ mw2 tw2 Bw2 xRa_w2 xRb_w2 xRc_w2;obtain⟨dRa0,dRa1,dRa2,dRa3,dRa4,dRa5,dRa6⟩:=xRa_w3.cs;obtain⟨dRb0,dRb1,dRb2,dRb3,dRb4,dRb5⟩:=xRb_w3.cs;obtain⟨dRc0,dRc1,dRc2,dRc3,dRc4,dRc5⟩:=xRc_w3.cs
 go_wp2_with fail
 clear dRa0 dRa1 dRa2 dRa3 dRa4 dRa5 dRa6 dRb0 dRb1 dRb2 dRb3 dRb4 dRb5 dRc0 dRc1 dRc2 dRc3 dRc4 dRc5;refine(C2.out _ ).mono ?_;rintro e w4 ⟨rfl,b_⟩;have mw4:=mw3.below b_;have tw4:=tw3.below b_;have Bw4:=Bw3.trans (b_.mono (zT xRa_w3.lt));have xRa_w4:=xRa_w3.below b_;have xRb_w4:=xRb_w3.below b_;have xRc_w4:=xRc_w3.below b_;clear b_ mw3 tw3 Bw3 xRa_w3 xRb_w3 xRc_w3;obtain⟨dRa0,dRa1,dRa2,dRa3,dRa4,dRa5,dRa6⟩:=xRa_w4.cs;obtain⟨dRb0,dRb1,dRb2,dRb3,dRb4,dRb5⟩:=xRb_w4.cs;obtain⟨dRc0,dRc1,dRc2,dRc3,dRc4,dRc5⟩:=xRc_w4.cs
 go_wp2_with fail
 clear dRa0 dRa1 dRa2 dRa3 dRa4 dRa5 dRa6 dRb0 dRb1 dRb2 dRb3 dRb4 dRb5 dRc0 dRc1 dRc2 dRc3 dRc4 dRc5;refine(C3.out _ ).mono ?_;rintro e w5 ⟨rfl,b_⟩;have mw5:=mw4.below b_;have tw5:=tw4.below b_;have Bw5:=Bw4.trans (b_.mono (zT xRa_w4.lt));have xRa_w5:=xRa_w4.below b_;have xRb_w5:=xRb_w4.below b_;have xRc_w5:=xRc_w4.below b_;clear b_ mw4 tw4 Bw4 xRa_w4 xRb_w4 xRc_w4;obtain⟨dRa0,dRa1,dRa2,dRa3,dRa4,dRa5,dRa6⟩:=xRa_w5.cs;obtain⟨dRb0,dRb1,dRb2,dRb3,dRb4,dRb5⟩:=xRb_w5.cs;obtain⟨dRc0,dRc1,dRc2,dRc3,dRc4,dRc5⟩:=xRc_w5.cs
 go_wp2
 clear dRa0 dRa1 dRa2 dRa3 dRa4 dRa5 dRa6 dRb0 dRb1 dRb2 dRb3 dRb4 dRb5 dRc0 dRc1 dRc2 dRc3 dRc4 dRc5
 go_ret
 exact⟨rfl,by rw[HR.out];exact Bw5⟩
theorem aJ7 (t s h:ByteArray)(wd:Bool)(sp:Int)(pa:ByteArray)(s2 h2:ByteArray)(p:Int)(pa2 q2:ByteArray)(o3:Bool)(s3 h3:ByteArray)(p3:Int)(pa3 q3:ByteArray)(m r:Bool)(CC:Hid (∀ W,Calls Tryz.prog 152 #[uV false s2 h2 p pa2 q2] W fun e w'=>e=.returned (.bool true)/\Below W.heap.size W w'))(g:s.toList.isEmpty=true)(C1:Hid (∀ W,Calls Tryz.prog 153 #[.string s3,.string s2] W fun e w'=>e=.returned (.bool true)/\Below W.heap.size W w'))(C2:Hid (∀ W,Calls Tryz.prog 155 #[aP 12 t s h wd sp pa,.string h2] W fun e w'=>e=.returned (.bool true)/\Below W.heap.size W w'))(C3:Hid (∀ W,Calls Tryz.prog 156 #[aP 12 t s h wd sp pa,uV false s2 h2 p pa2 q2] W fun e w'=>e=.returned (.bool true)/\Below W.heap.size W w'))(C4:Hid (∀ W,Calls Tryz.prog 157 #[.string pa,.string pa2,.bool m] W fun e w'=>e=.returned (.bool r)/\Below W.heap.size W w'))(w:World)(hm:aQ w)(ht:aS w):Calls Tryz.prog 109 #[aP 12 t s h wd sp pa,uV false s2 h2 p pa2 q2,uV o3 s3 h3 p3 pa3 q3,.bool m] w fun e w'=>e=.returned (.bool r)/\Below w.heap.size w w':=by
 unfold aP uV at *
 go_enter Tryz.func109,Tryz.ntmps109
 go_wp2_with fail
 obtain⟨x1,x2,x3,BB⟩:=bP w 12 t s h wd sp pa false s2 h2 p pa2 q2 o3 s3 h3 p3 pa3 q3;have mB:=((hm.made (.cells #[.int .i64 12,.string t,.string s,.string h,.bool wd,.int .i64 sp,.string pa] 75)).made (.cells #[.bool false,.string s2,.string h2,.int .i64 p,.string pa2,.string q2] 40)).made (.cells #[.bool o3,.string s3,.string h3,.int .i64 p3,.string pa3,.string q3] 40);have tB:=((ht.made (.cells #[.int .i64 12,.string t,.string s,.string h,.bool wd,.int .i64 sp,.string pa] 75)).made (.cells #[.bool false,.string s2,.string h2,.int .i64 p,.string pa2,.string q2] 40)).made (.cells #[.bool o3,.string s3,.string h3,.int .i64 p3,.string pa3,.string q3] 40);clear hm ht;generalize hR:w.heap.size=Ra at x1 x2 x3 BB ⊢;have HR:=zH hR;clear hR;obtain⟨Rb,hRb⟩:∃ Rb,Ra+1=Rb:=⟨_,rfl⟩;rw[hRb]at x2 x3
 try rw[hRb]
 clear hRb;obtain⟨Rc,hRb⟩:∃ Rc,Rb+1=Rc:=⟨_,rfl⟩;rw[hRb]at x3
 try rw[hRb]
 clear hRb;generalize((w.alloc (.cells #[.int .i64 12,.string t,.string s,.string h,.bool wd,.int .i64 sp,.string pa] 75)).alloc (.cells #[.bool false,.string s2,.string h2,.int .i64 p,.string pa2,.string q2] 40)).alloc (.cells #[.bool o3,.string s3,.string h3,.int .i64 p3,.string pa3,.string q3] 40)=w1 at x1 x2 x3 mB tB BB ⊢;have xRa_w1:=x1;have xRb_w1:=x2;have xRc_w1:=x3;clear x1 x2 x3;refine(CC.out _ ).mono ?_;rintro e w2 ⟨rfl,b_⟩;have mw2:=mB.below b_;have tw2:=tB.below b_;have Bw2:=BB.trans (b_.mono (zT xRa_w1.lt));have xRa_w2:=xRa_w1.below b_;have xRb_w2:=xRb_w1.below b_;have xRc_w2:=xRc_w1.below b_;clear b_ mB tB BB xRa_w1 xRb_w1 xRc_w1;obtain⟨dRa0,dRa1,dRa2,dRa3,dRa4,dRa5,dRa6⟩:=xRa_w2.cs;obtain⟨dRb0,dRb1,dRb2,dRb3,dRb4,dRb5⟩:=xRb_w2.cs;obtain⟨dRc0,dRc1,dRc2,dRc3,dRc4,dRc5⟩:=xRc_w2.cs
 go_wp2_with fail
 clear dRa0 dRa1 dRa2 dRa3 dRa4 dRa5 dRa6 dRb0 dRb1 dRb2 dRb3 dRb4 dRb5 dRc0 dRc1 dRc2 dRc3 dRc4 dRc5;refine(C1.out _ ).mono ?_;rintro e w3 ⟨rfl,b_⟩;have mw3:=mw2.below b_;have tw3:=tw2.below b_;have Bw3:=Bw2.trans (b_.mono (zT xRa_w2.lt));have xRa_w3:=xRa_w2.below b_;have xRb_w3:=xRb_w2.below b_;have xRc_w3:=xRc_w2.below b_;clear b_ mw2 tw2 Bw2 xRa_w2 xRb_w2 xRc_w2;obtain⟨dRa0,dRa1,dRa2,dRa3,dRa4,dRa5,dRa6⟩:=xRa_w3.cs;obtain⟨dRb0,dRb1,dRb2,dRb3,dRb4,dRb5⟩:=xRb_w3.cs;obtain⟨dRc0,dRc1,dRc2,dRc3,dRc4,dRc5⟩:=xRc_w3.cs
 go_wp2_with fail
 clear dRa0 dRa1 dRa2 dRa3 dRa4 dRa5 dRa6 dRb0 dRb1 dRb2 dRb3 dRb4 dRb5 dRc0 dRc1 dRc2 dRc3 dRc4 dRc5;refine(C2.out _ ).mono ?_;rintro e w4 ⟨rfl,b_⟩;have mw4:=mw3.below b_;have tw4:=tw3.below b_;have Bw4:=Bw3.trans (b_.mono (zT xRa_w3.lt));have xRa_w4:=xRa_w3.below b_;have xRb_w4:=xRb_w3.below b_;have xRc_w4:=xRc_w3.below b_;clear b_ mw3 tw3 Bw3 xRa_w3 xRb_w3 xRc_w3;obtain⟨dRa0,dRa1,dRa2,dRa3,dRa4,dRa5,dRa6⟩:=xRa_w4.cs;obtain⟨dRb0,dRb1,dRb2,dRb3,dRb4,dRb5⟩:=xRb_w4.cs;obtain⟨dRc0,dRc1,dRc2,dRc3,dRc4,dRc5⟩:=xRc_w4.cs
 go_wp2_with fail
 clear dRa0 dRa1 dRa2 dRa3 dRa4 dRa5 dRa6 dRb0 dRb1 dRb2 dRb3 dRb4 dRb5 dRc0 dRc1 dRc2 dRc3 dRc4 dRc5;refine(C3.out _ ).mono ?_;rintro e w5 ⟨rfl,b_⟩;have mw5:=mw4.below b_;have tw5:=tw4.below b_;have Bw5:=Bw4.trans (b_.mono (zT xRa_w4.lt));have xRa_w5:=xRa_w4.below b_;have xRb_w5:=xRb_w4.below b_;have xRc_w5:=xRc_w4.below b_;clear b_ mw4 tw4 Bw4 xRa_w4 xRb_w4 xRc_w4;obtain⟨dRa0,dRa1,dRa2,dRa3,dRa4,dRa5,dRa6⟩:=xRa_w5.cs;obtain⟨dRb0,dRb1,dRb2,dRb3,dRb4,dRb5⟩:=xRb_w5.cs;obtain⟨dRc0,dRc1,dRc2,dRc3,dRc4,dRc5⟩:=xRc_w5.cs
 go_wp2_with fail
 clear dRa0 dRa1 dRa2 dRa3 dRa4 dRa5 dRa6 dRb0 dRb1 dRb2 dRb3 dRb4 dRb5 dRc0 dRc1 dRc2 dRc3 dRc4 dRc5;refine(C4.out _ ).mono ?_;rintro e w6 ⟨rfl,b_⟩;have mw6:=mw5.below b_;have tw6:=tw5.below b_;have Bw6:=Bw5.trans (b_.mono (zT xRa_w5.lt));have xRa_w6:=xRa_w5.below b_;have xRb_w6:=xRb_w5.below b_;have xRc_w6:=xRc_w5.below b_;clear b_ mw5 tw5 Bw5 xRa_w5 xRb_w5 xRc_w5;obtain⟨dRa0,dRa1,dRa2,dRa3,dRa4,dRa5,dRa6⟩:=xRa_w6.cs;obtain⟨dRb0,dRb1,dRb2,dRb3,dRb4,dRb5⟩:=xRb_w6.cs;obtain⟨dRc0,dRc1,dRc2,dRc3,dRc4,dRc5⟩:=xRc_w6.cs
 go_wp2
 clear dRa0 dRa1 dRa2 dRa3 dRa4 dRa5 dRa6 dRb0 dRb1 dRb2 dRb3 dRb4 dRb5 dRc0 dRc1 dRc2 dRc3 dRc4 dRc5
 go_ret
 exact⟨rfl,by rw[HR.out];exact Bw6⟩
theorem zR (t s h:ByteArray)(wd:Bool)(sp:Int)(pa:ByteArray)(o:Bool)(s2 h2:ByteArray)(p:Int)(pa2 q2:ByteArray)(o3:Bool)(s3 h3:ByteArray)(p3:Int)(pa3 q3:ByteArray)(m:Bool)(z1:h.size<=100000)(z2:pa.size<=100000)(u1:s2.size<=100000)(u2:h2.size<=100000)(u3:pa2.size<=100000)(u4:q2.size<=100000)(hr:aT (uM o s2 h2 p pa2 q2)=true)(g:s.toList.isEmpty=false)(w:World)(hm:aQ w)(ht:aS w):Calls Tryz.prog 109 #[aP 12 t s h wd sp pa,uV o s2 h2 p pa2 q2,uV o3 s3 h3 p3 pa3 q3,.bool m] w fun e w'=>e=.returned (.bool (gR (aJ 12 t s h wd sp pa) (uM o s2 h2 p pa2 q2) (uM o3 s3 h3 p3 pa3 q3) m))/\Below w.heap.size w w':=by
 have CC:=cJ o s2 h2 p pa2 q2 true hr u1 u2 u3 u4
 have HL:gR (aJ 12 t s h wd sp pa) (uM o s2 h2 p pa2 q2) (uM o3 s3 h3 p3 pa3 q3) m=(!o&&(gS s.data.toList s2.data.toList&&(fJ wd h.data.toList h2.data.toList&&(eB sp (uM o s2 h2 p pa2 q2)&&fP pa.data.toList pa2.data.toList m)))):=by
  have e:nA (aJ 12 t s h wd sp pa) (uM o3 s3 h3 p3 pa3 q3)=s.data.toList:=by
   unfold nA;rw[show(aJ 12 t s h wd sp pa).s.isEmpty=false by rw[<- g,dK];rfl];rfl
  unfold gR;rw[e];simp only[Bool.and_assoc];rfl
 rw[HL];clear HL
 cases o
 case true=>exact aK6 t s h wd sp pa s2 h2 p pa2 q2 o3 s3 h3 p3 pa3 q3 m CC g w hm ht
 rw[Bool.not_false,Bool.true_and]
 cases c1:gS s.data.toList s2.data.toList
 case false=>exact aK4 t s h wd sp pa s2 h2 p pa2 q2 o3 s3 h3 p3 pa3 q3 m CC g (fL _ _ _ (dL s s2 false c1)) w hm ht
 have C1:=fL _ _ _ (dL s s2 true c1)
 cases c2:fJ wd h.data.toList h2.data.toList
 case false=>exact aK2 t s h wd sp pa s2 h2 p pa2 q2 o3 s3 h3 p3 pa3 q3 m CC g C1 (gD 12 t s h wd sp pa h2 z1 u2 false c2) w hm ht
 have C2:=gD 12 t s h wd sp pa h2 z1 u2 true c2
 cases c3:eB sp (uM false s2 h2 p pa2 q2)
 case false=>exact aK0 t s h wd sp pa s2 h2 p pa2 q2 o3 s3 h3 p3 pa3 q3 m CC g C1 C2 (gC 12 t s h wd sp pa false s2 h2 p pa2 q2 false c3) w hm ht
 have C3:=gC 12 t s h wd sp pa false s2 h2 p pa2 q2 true c3;exact aJ8 t s h wd sp pa s2 h2 p pa2 q2 o3 s3 h3 p3 pa3 q3 m _ CC g C1 C2 C3 (fL _ _ _ (mG pa pa2 z2 m _ rfl)) w hm ht
theorem zQ (t s h:ByteArray)(wd:Bool)(sp:Int)(pa:ByteArray)(o:Bool)(s2 h2:ByteArray)(p:Int)(pa2 q2:ByteArray)(o3:Bool)(s3 h3:ByteArray)(p3:Int)(pa3 q3:ByteArray)(m:Bool)(z1:h.size<=100000)(z2:pa.size<=100000)(u1:s2.size<=100000)(u2:h2.size<=100000)(u3:pa2.size<=100000)(u4:q2.size<=100000)(hr:aT (uM o s2 h2 p pa2 q2)=true)(g:s.toList.isEmpty=true)(w:World)(hm:aQ w)(ht:aS w):Calls Tryz.prog 109 #[aP 12 t s h wd sp pa,uV o s2 h2 p pa2 q2,uV o3 s3 h3 p3 pa3 q3,.bool m] w fun e w'=>e=.returned (.bool (gR (aJ 12 t s h wd sp pa) (uM o s2 h2 p pa2 q2) (uM o3 s3 h3 p3 pa3 q3) m))/\Below w.heap.size w w':=by
 have CC:=cJ o s2 h2 p pa2 q2 true hr u1 u2 u3 u4
 have HL:gR (aJ 12 t s h wd sp pa) (uM o s2 h2 p pa2 q2) (uM o3 s3 h3 p3 pa3 q3) m=(!o&&(gS s3.data.toList s2.data.toList&&(fJ wd h.data.toList h2.data.toList&&(eB sp (uM o s2 h2 p pa2 q2)&&fP pa.data.toList pa2.data.toList m)))):=by
  have e:nA (aJ 12 t s h wd sp pa) (uM o3 s3 h3 p3 pa3 q3)=s3.data.toList:=by
   unfold nA;rw[show(aJ 12 t s h wd sp pa).s.isEmpty=true by rw[<- g,dK];rfl];rfl
  unfold gR;rw[e];simp only[Bool.and_assoc];rfl
 rw[HL];clear HL
 cases o
 case true=>exact aK5 t s h wd sp pa s2 h2 p pa2 q2 o3 s3 h3 p3 pa3 q3 m CC g w hm ht
 rw[Bool.not_false,Bool.true_and]
 cases c1:gS s3.data.toList s2.data.toList
 case false=>exact aK3 t s h wd sp pa s2 h2 p pa2 q2 o3 s3 h3 p3 pa3 q3 m CC g (fL _ _ _ (dL s3 s2 false c1)) w hm ht
 have C1:=fL _ _ _ (dL s3 s2 true c1)
 cases c2:fJ wd h.data.toList h2.data.toList
 case false=>exact aK1 t s h wd sp pa s2 h2 p pa2 q2 o3 s3 h3 p3 pa3 q3 m CC g C1 (gD 12 t s h wd sp pa h2 z1 u2 false c2) w hm ht
 have C2:=gD 12 t s h wd sp pa h2 z1 u2 true c2
 cases c3:eB sp (uM false s2 h2 p pa2 q2)
 case false=>exact aJ9 t s h wd sp pa s2 h2 p pa2 q2 o3 s3 h3 p3 pa3 q3 m CC g C1 C2 (gC 12 t s h wd sp pa false s2 h2 p pa2 q2 false c3) w hm ht
 have C3:=gC 12 t s h wd sp pa false s2 h2 p pa2 q2 true c3;exact aJ7 t s h wd sp pa s2 h2 p pa2 q2 o3 s3 h3 p3 pa3 q3 m _ CC g C1 C2 C3 (fL _ _ _ (mG pa pa2 z2 m _ rfl)) w hm ht
theorem aK7 (k:Int)(t s h:ByteArray)(wd:Bool)(sp:Int)(pa:ByteArray)(o:Bool)(s2 h2:ByteArray)(p:Int)(pa2 q2:ByteArray)(o3:Bool)(s3 h3:ByteArray)(p3:Int)(pa3 q3:ByteArray)(m:Bool)(z1:h.size<=100000)(z2:pa.size<=100000)(u1:s2.size<=100000)(u2:h2.size<=100000)(u3:pa2.size<=100000)(u4:q2.size<=100000)(v1:s3.size<=100000)(v2:h3.size<=100000)(v3:pa3.size<=100000)(v4:q3.size<=100000)(w:World)(hm:aQ w)(ht:aS w):Calls Tryz.prog 109 #[aP k t s h wd sp pa,uV o s2 h2 p pa2 q2,uV o3 s3 h3 p3 pa3 q3,.bool m] w fun e w'=>e=.returned (.bool (eH (aJ k t s h wd sp pa) (uM o s2 h2 p pa2 q2) (uM o3 s3 h3 p3 pa3 q3) m))/\Below w.heap.size w w':=by
 cases hr:aT (uM o s2 h2 p pa2 q2)
 · rw[show eH (aJ k t s h wd sp pa) (uM o s2 h2 p pa2 q2) (uM o3 s3 h3 p3 pa3 q3) m=false by unfold eH;rw[hr];rfl]
   exact vZ k t s h wd sp pa o s2 h2 p pa2 q2 o3 s3 h3 p3 pa3 q3 m (cJ o s2 h2 p pa2 q2 false hr u1 u2 u3 u4) w hm ht
 have CC:=cJ o s2 h2 p pa2 q2 true hr u1 u2 u3 u4
 by_cases k1:k=11
 · subst k1
   have e:gS s.data.toList s2.data.toList=eH (aJ 11 t s h wd sp pa) (uM o s2 h2 p pa2 q2) (uM o3 s3 h3 p3 pa3 q3) m:=by unfold eH;rw[hr];rfl
   exact aJ5 t s h wd sp pa o s2 h2 p pa2 q2 o3 s3 h3 p3 pa3 q3 m _ CC (fL _ _ _ (dL s s2 _ e)) w hm ht
 by_cases k2:k=12
 · subst k2
   rw[show eH (aJ 12 t s h wd sp pa) (uM o s2 h2 p pa2 q2) (uM o3 s3 h3 p3 pa3 q3) m=gR (aJ 12 t s h wd sp pa) (uM o s2 h2 p pa2 q2) (uM o3 s3 h3 p3 pa3 q3) m by unfold eH;rw[hr];rfl]
   cases g:s.toList.isEmpty
   · exact zR t s h wd sp pa o s2 h2 p pa2 q2 o3 s3 h3 p3 pa3 q3 m z1 z2 u1 u2 u3 u4 hr g w hm ht
   · exact zQ t s h wd sp pa o s2 h2 p pa2 q2 o3 s3 h3 p3 pa3 q3 m z1 z2 u1 u2 u3 u4 hr g w hm ht
 by_cases k3:k=2
 · subst k3
   rw[show eH (aJ 2 t s h wd sp pa) (uM o s2 h2 p pa2 q2) (uM o3 s3 h3 p3 pa3 q3) m=pP (uM o s2 h2 p pa2 q2) (uM o3 s3 h3 p3 pa3 q3) by rw[qY _ rfl,hr];rfl];exact bA2 t s h wd sp pa o s2 h2 p pa2 q2 o3 s3 h3 p3 pa3 q3 m _ CC (zH fun W hm ht=>zX o s2 h2 p pa2 q2 o3 s3 h3 p3 pa3 q3 u1 u2 u3 u4 v1 v2 v3 v4 W hm ht) w hm ht
 rw[show eH (aJ k t s h wd sp pa) (uM o s2 h2 p pa2 q2) (uM o3 s3 h3 p3 pa3 q3) m=false by
  unfold eH;rw[hr,if_neg (show ¬ (aJ k t s h wd sp pa).k=11 from k1),if_neg (show ¬ (aJ k t s h wd sp pa).k=12 from k2),if_neg (show ¬ (aJ k t s h wd sp pa).k=2 from k3)]
  rfl]
 exact wC k t s h wd sp pa o s2 h2 p pa2 q2 o3 s3 h3 p3 pa3 q3 m CC (by rw[beq_eq_false_iff_ne];exact k1) (by rw[beq_eq_false_iff_ne];exact k2) (by rw[beq_eq_false_iff_ne];exact k3) w hm ht
theorem aJ6 (k:Int)(t s h:ByteArray)(wd:Bool)(sp:Int)(pa:ByteArray)(o:Bool)(s2 h2:ByteArray)(p:Int)(pa2 q2:ByteArray)(o3:Bool)(s3 h3:ByteArray)(p3:Int)(pa3 q3:ByteArray)(m:Bool)(z1:h.size<=100000)(z2:pa.size<=100000)(u1:s2.size<=100000)(u2:h2.size<=100000)(u3:pa2.size<=100000)(u4:q2.size<=100000)(v1:s3.size<=100000)(v2:h3.size<=100000)(v3:pa3.size<=100000)(v4:q3.size<=100000)(b:Bool)(hb:eH (aJ k t s h wd sp pa) (uM o s2 h2 p pa2 q2) (uM o3 s3 h3 p3 pa3 q3) m=b):Hid (∀ W,dZ W->Calls Tryz.prog 109 #[aP k t s h wd sp pa,uV o s2 h2 p pa2 q2,uV o3 s3 h3 p3 pa3 q3,.bool m] W fun e w'=>e=.returned (.bool b)/\Below W.heap.size W w') :=
 zH fun W hw=>by rw[<- hb];exact aK7 k t s h wd sp pa o s2 h2 p pa2 q2 o3 s3 h3 p3 pa3 q3 m z1 z2 u1 u2 u3 u4 v1 v2 v3 v4 W hw.m hw.t
end Go.Proofs.YthnogdodlhkldaaGreatDoor
