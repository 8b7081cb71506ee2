/- The document's rows of pages: what is shown of a text. The document's rows of pages hold. -/
import Derived.Test.YtlnfbjbagmfpiaaGreatDoorBdG
import Derived.Test.YtlnfbjbagmfpiaaGreatDoorBpZT
set_option maxRecDepth 100000
set_option maxHeartbeats 8000000
namespace Go.Proofs.YtlnfbjbagmfpiaaGreatDoor.Dm
open Go.RowKit
theorem page_fit {l:List Tk}(ht:∀ t∈l,FitK t):FitD (pageM l).1:=by
 by_cases h:(pageM l).2.2=0
 · obtain⟨hb,he⟩:=page_run h
   have hR:=(page_ord h).1;refine hR.fit ?_
   exact into_all (P:=TxtN) (fun x q ks h=>h) (d:=newM) (n:=0) (l:=l) (p:=true) (fun y hy=>by
    have:=fit_newM.2 y hy;exact⟨this.1,this.2.1,this.2.2.1,this.2.2.2.2⟩) (fun t hm=>by
    have h1:=ht t hm;unfold nodeK;split
    · have:=h1.text;exact⟨this.1,this.2.1,this.2.2.1,this.2.2.2.2⟩
    · split
      · have:=h1.note;exact⟨this.1,this.2.1,this.2.2.1,this.2.2.2.2⟩
      · have:=h1.elem true;exact⟨this.1,this.2.1,this.2.2.1,this.2.2.2.2⟩)
 · rcases into_cases newM 0 l true with h1 | ⟨m,-,-,-,-,-,he⟩
   · have:(pageM l).1=[]:=h1.2.1
     rw[this];exact fit_nil
   · exact absurd (by unfold pageM;rw[he]) h
theorem shown_hid (s:ByteArray)(hs:s.size<=20000)(L:List Tk)(F0:List Fl)(hr:readM s.data.toList=(L,F0))(hl:L.length<=100000)(hk:∀ t∈L,FitK t)(D:List Nd)(F:List Fl)(er:Int)(hp:pageM L=(D,F,er))(hpr:PrD D)(T:ByteArray)(hT:T.data.toList=printR D 0):Hid (∀ W,Low W->Calls Tryz.prog 53 #[.string s] W fun e w'=>∃ fv,e=.returned (.tuple #[.string T,fv])/\FailIn w' fv F/\Below W.heap.size W w'):=Lib.hid fun w hlow=>by
 have CT:=Lib.hid (tokens_any s hs w hlow);have CP:=pageB_hid L hl hk;have hf:=page_fit hk;rw[hp]at CP hf;have CR:=printB_hid D hf hpr 0;rw[show strV (printR D 0)=.string T from strV_of hT]at CR;have HL:=Lib.hid hlow;have HR:=Lib.hid hr;clear hlow hr hp hf hT
 go_enter Tryz.func53,Tryz.ntmps53
 go_wp2_with fail
 refine CT.out.mono ?_;rintro e w1 ⟨tv,fv0,m,rfl,h1,h2,b1⟩;rw[HR.out]at h1;obtain⟨ta,tc,rfl⟩:=h1.form;obtain⟨fa0,fc0,rfl⟩:=(FailIn.of h2).form;have H1:=Lib.hid (And.intro (TokIn.tks (TokIn.of h1)) b1);clear h1 h2 b1 CT
 go_wp2_with fail
 (refine(CP.out _ _ H1.out.1).mono ?_)
 rintro e w2 ⟨da,dc,fv,rfl,d2,f2,b2⟩;obtain⟨fa,fc,rfl⟩:=row_form f2;have al:=(Below.refl w2.heap.size w2).alloc (Nat.le_refl _) (.cells #[.slice da D.length dc] 24);have nb:=new_block w2 (.cells #[.slice da D.length dc] 24);have b12:Below w.heap.size w w2:=H1.out.2.trans (b2.mono H1.out.2.size);have H2:=Lib.hid (And.intro (d2.g.below al) (And.intro ((FailIn.of f2).below al) (b12.trans (al.mono b12.size))));have e0:=cell_of nb 0;clear d2 f2 b2 al nb b12
 go_wp2_with fail
 (refine(CR.out _ _ (HL.out.below H2.out.2.2) H2.out.1).mono ?_)
 rintro e w3 ⟨rfl,b3⟩;have HF:Hid (FailIn w3 (.slice fa F.length fc) F/\Below w.heap.size w w3):=Lib.hid ⟨H2.out.2.1.below b3,H2.out.2.2.trans (b3.mono H2.out.2.2.size)⟩;clear b3
 go_wp2
 go_ret2
 exact⟨_,rfl,HF.out⟩
def tx1:ByteArray:=⟨#[60,97,62,60,98,62,120,60,47,97,62,121]⟩
def tx2:ByteArray:=⟨#[60,47,97,62,60,98,114,62,120,60,105,47,62]⟩
def tx3:ByteArray:=⟨#[60,97,62]⟩
def tk1:List Tk:=[⟨2,[97],[],[],false⟩,⟨2,[98],[],[],false⟩,⟨1,[],[120],[],false⟩,⟨3,[97],[],[],false⟩,⟨1,[],[121],[],false⟩]
def tk2:List Tk:=[⟨3,[97],[],[],false⟩,⟨2,[98,114],[],[],false⟩,⟨1,[],[120],[],false⟩,⟨2,[105],[],[],true⟩]
def tk3:List Tk:=[⟨2,[97],[],[],false⟩]
def ndE (n:List UInt8)(p:Int)(c:List Int):Nd:=⟨2,n,[],[],p,c,true,false⟩
def ndT (d:List UInt8)(p:Int):Nd:=⟨3,[],d,[],p,[],false,false⟩
def ndR (c:List Int):Nd:=⟨1,[],[],[],-1,c,false,false⟩
def dc1:List Nd:=[ndR [1,4],ndE [97] 0 [2],ndE [98] 1 [3],ndT [120] 2,ndT [121] 0]
def dc2:List Nd:=[ndR [1,2,3],ndE [98,114] 0 [],ndT [120] 0,ndE [105] 0 []]
def dc3:List Nd:=[ndR [1],ndE [97] 0 []]
theorem rd1:readM tx1.data.toList=(tk1,[]):=by kernel_rfl
theorem rd2:readM tx2.data.toList=(tk2,[]):=by kernel_rfl
theorem rd3:readM tx3.data.toList=(tk3,[]):=by kernel_rfl
theorem rn1:runC true (newM,[0],[]) tk1 0=some (dc1,[0],[(162,3)]):=by kernel_rfl
theorem rn2:runC true (newM,[0],[]) tk2 0=some (dc2,[0],[(160,0)]):=by kernel_rfl
theorem rn3:runC true (newM,[0],[]) tk3 0=some (dc3,[1,0],[]):=by kernel_rfl
theorem pg1:pageM tk1=(dc1,[(162,3)],0):=page_is rn1
theorem pg2:pageM tk2=(dc2,[(160,0)],0):=page_is rn2
theorem pg3:pageM tk3=(dc3,[(162,1)],0):=page_is rn3
def out1:ByteArray:=⟨#[60,97,62,60,98,62,120,60,47,98,62,60,47,97,62,121]⟩
def out2:ByteArray:=⟨#[60,98,114,62,120,60,105,62,60,47,105,62]⟩
def out3:ByteArray:=⟨#[60,97,62,60,47,97,62]⟩
theorem pr1:out1.data.toList=printR dc1 0:=by kernel_rfl
theorem pr2:out2.data.toList=printR dc2 0:=by kernel_rfl
theorem pr3:out3.data.toList=printR dc3 0:=by kernel_rfl
theorem fk1:∀ t∈tk1,FitK t:=by
 intro t h;simp[tk1]at h;rcases h with rfl | rfl | rfl | rfl | rfl<;>exact⟨by simp,by simp,by simp,fun y hy=>by simp at hy⟩
theorem fk2:∀ t∈tk2,FitK t:=by
 intro t h;simp[tk2]at h;rcases h with rfl | rfl | rfl | rfl<;>exact⟨by simp,by simp,by simp,fun y hy=>by simp at hy⟩
theorem fk3:∀ t∈tk3,FitK t:=by
 intro t h;simp[tk3]at h;subst h;exact⟨by simp,by simp,by simp,fun y hy=>by simp at hy⟩
theorem prd1:PrD dc1:=by intro x h;simp[dc1,ndR,ndE,ndT]at h;rcases h with rfl | rfl | rfl | rfl | rfl<;>simp[wAd]
theorem prd2:PrD dc2:=by intro x h;simp[dc2,ndR,ndE,ndT]at h;rcases h with rfl | rfl | rfl | rfl<;>simp[wAd]
theorem prd3:PrD dc3:=by intro x h;simp[dc3,ndR,ndE]at h;rcases h with rfl | rfl<;>simp[wAd]
end Go.Proofs.YtlnfbjbagmfpiaaGreatDoor.Dm
namespace Go.Proofs.YtlnfbjbagmfpiaaGreatDoor.Dm
open Go.RowKit
theorem fail1 (w:World)(c:Int)(n:Nat):FailIn (w.alloc (.cells #[.int .i64 c,.int .i64 (n:Int)] 93)) (.slice (some ⟨w.heap.size,0,none⟩) 1 1) [(c,n)]/\Below w.heap.size w (w.alloc (.cells #[.int .i64 c,.int .i64 (n:Int)] 93)) :=
 ⟨RowIn.made w #[.int .i64 c,.int .i64 (n:Int)] 93 1 2 rfl (fun x hx=>by simp at hx;rcases hx with rfl | rfl<;>rfl),(Below.refl _ _).alloc (Nat.le_refl _) _⟩
theorem builds_hid:Hid (∀ W,Low W->Calls Tryz.prog 19 #[] W fun e w'=>e=.returned (.bool true)/\Below W.heap.size W w'):=Lib.hid fun w hlow=>by
 have S1:=shown_hid tx1 (by decide) tk1 [] rd1 (by decide) fk1 dc1 [(162,3)] 0 pg1 prd1 out1 pr1;have S2:=shown_hid tx2 (by decide) tk2 [] rd2 (by decide) fk2 dc2 [(160,0)] 0 pg2 prd2 out2 pr2;have S3:=shown_hid tx3 (by decide) tk3 [] rd3 (by decide) fk3 dc3 [(162,1)] 0 pg3 prd3 out3 pr3;have CF1:=failsG_hid [((162:Int),3)] (by decide);have CF2:=failsG_hid [((160:Int),0)] (by decide);have CF3:=failsG_hid [((162:Int),1)] (by decide);have V1:=void_hid ⟨#[98,114]⟩ true (by decide);have V2:=void_hid ⟨#[98]⟩ false (by decide);have HL:=Lib.hid hlow;unfold tx1 out1 at S1;unfold tx2 out2 at S2;unfold tx3 out3 at S3;clear hlow
 go_enter Tryz.func19,Tryz.ntmps19
 go_wp2_with fail
 (with_reducible refine(S1.out _ HL.out).mono ?_)
 rintro e w1 ⟨v1,rfl,f1,b1⟩;obtain⟨a1,c1,rfl⟩:=f1.form;have H1:=Lib.hid (And.intro f1 b1);clear f1 b1 S1
 go_wp2_with fail
 (with_reducible refine(S2.out _ (HL.out.below H1.out.2)).mono ?_)
 rintro e w2 ⟨v2,rfl,f2,b2⟩;obtain⟨a2,c2,rfl⟩:=f2.form;have H2:=Lib.hid (And.intro (H1.out.1.below b2) (And.intro f2 (H1.out.2.trans (b2.mono H1.out.2.size))));clear f2 b2 S2 H1
 go_wp2_with fail
 (with_reducible refine(S3.out _ (HL.out.below H2.out.2.2)).mono ?_)
 rintro e w3 ⟨v3,rfl,f3,b3⟩;obtain⟨a3,c3,rfl⟩:=f3.form;obtain⟨m4,q4⟩:=fail1 w3 162 3;have B3:=H2.out.2.2.trans (b3.mono H2.out.2.2.size);have H4:=Lib.hid (And.intro ((H2.out.1.below b3).below q4) (And.intro ((H2.out.2.1.below b3).below q4) (And.intro (f3.below q4) (And.intro m4 (B3.trans (q4.mono B3.size))))));clear f3 b3 S3 H2 m4 q4 B3
 go_wp2_with fail
 (refine(CF1.out _ _ _ H4.out.1 H4.out.2.2.2.1).mono ?_)
 rintro e w5 ⟨rfl,b5⟩;obtain⟨m6,q6⟩:=fail1 w5 160 0;have B5:=H4.out.2.2.2.2.trans (b5.mono H4.out.2.2.2.2.size);have H6:=Lib.hid (And.intro ((H4.out.2.1.below b5).below q6) (And.intro ((H4.out.2.2.1.below b5).below q6) (And.intro m6 (B5.trans (q6.mono B5.size)))));clear b5 H4 m6 q6 B5 CF1
 go_wp2_with fail
 (refine(CF2.out _ _ _ H6.out.1 H6.out.2.2.1).mono ?_)
 rintro e w7 ⟨rfl,b7⟩;obtain⟨m8,q8⟩:=fail1 w7 162 1;have B7:=H6.out.2.2.2.trans (b7.mono H6.out.2.2.2.size);have H8:=Lib.hid (And.intro ((H6.out.2.1.below b7).below q8) (And.intro m8 (B7.trans (q8.mono B7.size))));clear b7 H6 m8 q8 B7 CF2
 go_wp2_with fail
 (refine(CF3.out _ _ _ H8.out.1 H8.out.2.1).mono ?_)
 rintro e w9 ⟨rfl,b9⟩;have H9:=Lib.hid (H8.out.2.2.trans (b9.mono H8.out.2.2.size));clear b9 H8 CF3
 go_wp2_with fail
 (with_reducible refine(V1.out _).mono ?_)
 rintro e w10 ⟨rfl,hw10⟩;rw[hw10];clear hw10 V1
 go_wp2_with fail
 (with_reducible refine(V2.out _).mono ?_)
 rintro e w11 ⟨rfl,hw11⟩;rw[hw11];clear hw11 V2
 go_wp2
 go_ret
 exact⟨rfl,H9.out⟩
end Go.Proofs.YtlnfbjbagmfpiaaGreatDoor.Dm
