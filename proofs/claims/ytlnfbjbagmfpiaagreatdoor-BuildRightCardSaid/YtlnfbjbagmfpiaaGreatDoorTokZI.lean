/- The program's reader tells the text that it holds, and a token behind it. The program's reader: text, comments and doctypes, a raw name's text. The program's reader: comments and doctypes, a raw name's text. -/
import Derived.Test.YtlnfbjbagmfpiaaGreatDoorTokZE
set_option maxRecDepth 100000
set_option maxHeartbeats 8000000
namespace Go.Proofs.YtlnfbjbagmfpiaaGreatDoor
open Go.RowKit
def frT (B R:Nat)(tv:Value)(k:Nat)(t:TypeId):Prop:=k=R\/(B<=k/\t=5)\/tv.ownBlock=some k
theorem trans_old {P Q:Nat->TypeId->Prop}{a b c:World}(h:Kp P a b)(k:Kp Q b c)(hs:∀ j t,j<a.heap.size->Q j t->P j t):Kp P a c :=
 ⟨k.os.trans h.os,k.tape.trans h.tape,k.output.trans h.output,Nat.le_trans h.size k.size,fun j o hj hn=>k.same j o (h.same j o hj hn) fun c t fr e hq=>hn c t fr e (hs j t (lt_of_block hj) hq)⟩
theorem TRow.at {w w':World}{B m R:Nat}{s:ByteArray}{n:Nat}{p bv tv fv:Value}(x:RX w R s n p bv tv fv)(k:Kp (onR R) w w'):∀ {T:List Tk} {cs:List Value},TRow w B m T cs->TRow w' B m T cs
 | [],_,h=>h
 | _ :: _,_,⟨av,r,h1,h2,h3⟩=>⟨av,r,h1,⟨k.row h2.1 fun j hj _ e=>row_ne h2.1 x (by decide) (by rw[hj];exact congrArg some e),h2.2⟩,h3.at x k⟩
theorem OwnT.at {w w':World}{B m R:Nat}{s:ByteArray}{n:Nat}{p bv tv fv u:Value}{T:List Tk}(h:OwnT w B m u T)(x:RX w R s n p bv tv fv)(k:Kp (onR R) w w'):OwnT w' B m u T:=by
 obtain⟨cs,q1,q2,q3⟩:=h;exact⟨cs,k.row q1 fun j hj _ e=>row_ne q1 x (by decide) (by rw[hj];exact congrArg some e),q2,q3.at x k⟩
section
variable {w w':World} {B m R:Nat} {s:ByteArray} {n:Nat} {H:List UInt8} {T:List Tk} {F:List Fl} {v0:Value} {F0:List Fl} {p bv tv fv:Value}
theorem RV.bd (h:RV w B m R s n H T F v0 F0 p bv tv fv):BD w B R 2 H #[.string s,.int .i64 (n:Int),p,bv,tv,fv] 147 p bv:=⟨h.x,rfl,rfl,h.hp,h.hb,h.hn⟩
theorem RV.told (h:RV w B m R s n H T F v0 F0 p bv tv fv){H':List UInt8}{T':List Tk}{p' bv' tv':Value}(k:Kp (frT B R tv) w w')(x:RX w' R s n p' bv' tv' fv)(hp:p'=.pointer none\/p'=.pointer (some ⟨R,2,none⟩))(hb:w'.ownsRow B 5 1 bv' H'.length (Lib.byteCells H'))(hn:H'=[]->bv'=.slice none 0 0)(ht:OwnT w' B w'.heap.size tv' T'):RV w' B w'.heap.size R s n H' T' F v0 F0 p' bv' tv' fv:=by
 have hB:∀(k:Nat) (t:TypeId),frT B R tv k t->B<=k:=fun k t e=>by
  rcases e with rfl | e | e
  · exact h.lo
  · exact e.1
  · obtain⟨cs,h1,_⟩:=h.ht
    exact(h1.lt k e).1
 have ne:∀ {v:Value} {n:Nat} {xs:List Value},w.ownsRow B 93 2 v n xs->w'.ownsRow B 93 2 v n xs:=fun r=>k.row r fun j hj _ e=>by
  rcases e with rfl | e | e
  · exact row_ne r h.x (by decide) hj
  · exact absurd e.2 (by decide)
  · obtain⟨cs,h1,_⟩:=h.ht
    exact rows_ne h1 r (by decide) e hj
 exact⟨x,hp,hb,hn,ht,ne h.hf,ne h.h0,h.h1,h.lo,Nat.lt_of_lt_of_le h.hi (Nat.le_trans h.mw k.size),Nat.le_refl _,h.low.on (k.below hB h.bw)⟩
end
theorem tellText_rv (w:World)(B m R:Nat)(s:ByteArray)(n:Nat)(H:List UInt8)(T:List Tk)(F:List Fl)(v0:Value)(F0:List Fl)(p bv tv fv:Value)(h:RV w B m R s n H T F v0 F0 p bv tv fv)(hl:T.length<=1000000) :
 Calls Tryz.prog 104 #[.pointer (some ⟨R,0,none⟩)] w fun e w'=>e=.returned (.tuple #[])/\∃ p' tv',RV w' B w'.heap.size R s n [] (T++txtH H) F v0 F0 p' (.slice none 0 0) tv' fv/\(tv'.ownBlock=tv.ownBlock\/∃ k,tv'.ownBlock=some k/\w.heap.size<=k)/\Kp (frT B R tv) w w':=by
 have CL:=Lib.hid (len_any B R 2 H _ _ p bv w h.bd)
 by_cases h0:H=[]
 · have z:¬ ((H.length:Nat):Int)>0:=by rw[h0];simp
   have HR:Hid (RV w B w.heap.size R s n [] (T++txtH H) F v0 F0 p (.slice none 0 0) tv fv):=Lib.hid (by
    have h2:=h.up h.mw (Nat.le_refl _);have hbv:=h.hn h0;rw[h0,txtH_nil,List.append_nil];rw[h0,hbv]at h2
    exact h2)
   clear h
   go_enter Tryz.func104,Tryz.ntmps104
   go_wp2_with fail
   refine CL.out.mono ?_;rintro e w ⟨rfl,rfl⟩
   go_wp2
   go_end0
   exact⟨rfl,p,tv,HR.out,.inl rfl,Kp.refl _ _⟩
 · obtain⟨i0,hi,hz0,hz1,hz2⟩:=info_parts TinfoT
   have hpos:0<H.length:=List.length_pos_iff.2 h0;have z:(0:Int)<((H.length:Nat):Int):=by omega
   have CS:=Lib.hid (string_any B R 2 H _ _ p bv w.drew (show BD w.drew B R 2 H #[.string s,.int .i64 (n:Int),p,bv,tv,fv] 147 p bv from⟨h.x,rfl,rfl,h.hp,h.hb,h.hn⟩));obtain⟨a,c,rfl⟩:=h.ht.form;obtain⟨cs,t1,t2,t3⟩:=h.ht;have hx:=h.x;have d4:=h.x.c4;have HT:Hid (T++txtH H=T++[textT H]):=Lib.hid (by rw[txtH_some h0]);have hbw:=h.bw;have hmw:=h.mw;have HH:=Lib.hid h;obtain⟨U,hU⟩:∃ U:ByteArray,U=⟨H.toArray⟩:=⟨_,rfl⟩;rw[<- hU]at CS;have HU:=Lib.hid hU;clear h h0 hU
   go_enter Tryz.func104,Tryz.ntmps104
   go_wp2_with fail
   refine CL.out.mono ?_;rintro e w ⟨rfl,rfl⟩;clear CL
   go_wp2_with fail
   go_region_law (first
    | (go_simp
       go_at_call 59
       (refine CS.out.mono ?_)
       rintro e w4 ⟨rfl,k4⟩;have K4:Kp (fun k t'=>B<=k/\t'=5) w w4:=(Kp.refl _ w).drew.trans k4;have x4:RX w4 R s n p bv (.slice a T.length c) fv:=K4.cells hx (fun e=>absurd e.2 (by decide));have d4':=x4.c4;have d4'':=(x4.below ((Below.refl _ _).alloc (Nat.le_refl _) (.cells #[.int .i64 1,.string ⟨#[]⟩,.string U,.slice none 0 0,.bool false] 57))).c4;have O4:=Lib.hid (K4.row t1 fun j hj _ e=>absurd e.2 (by decide));have HK4:=Lib.hid K4;have HX4:=Lib.hid x4
       clear k4 K4 x4)
    | (refine step_append_lies _ (by rfl) (.tmp 11) (.tmp 17) 25 (by rfl) B 57 i0 (.agg #[.int .i64 0,.string ⟨#[]⟩,.string ⟨#[]⟩,.slice none 0 0,.bool false]) 5 72 Tryz.underlying25 hi hz0 hz1 hz2 rfl (by decide) _ _ _ (by rfl) (O4.out.alloc _) ⟨w4.heap.size,0,none⟩ 1 1 [.int .i64 1,.string ⟨#[]⟩,.string U,.slice none 0 0,.bool false] (by rfl) rfl (World.news_of_block (new_block _ _)) (by intro u hu;simp at hu;rcases hu with rfl | rfl | rfl | rfl | rfl<;>rfl) (by decide) (by unfold maxLen;omega) (by omega) (by have:=HK4.out.size;simp;omega) _ rfl ?_
       intro g cap w6 hown hgrow hat hlt6;have hne:(Value.slice a T.length c).ownBlock≠some R:=row_ne t1 hx (by decide)
       have x6:RX w6 R s n p bv (.slice a T.length c) fv:=by
        have h1:=HX4.out.below ((Below.refl _ _).alloc (Nat.le_refl _) (.cells #[.int .i64 1,.string ⟨#[]⟩,.string U,.slice none 0 0,.bool false] 57));unfold RX at h1 ⊢;rw[hgrow.block R (lt_of_block h1) (fun e=>hne e.symm)];exact h1
       have d6:=x6.c4
       have f6:=x6.free 4))
   all_goals
    have kal:=(Kp.of_below (P:=fun k t'=>B<=k/\t'=5) ((Below.refl _ _).alloc (Nat.le_refl _) (.cells #[.int .i64 1,.string ⟨#[]⟩,.string U,.slice none 0 0,.bool false] 57)):Kp _ w4 _)
    have k6:Kp (frT B R (.slice a T.length c)) w w6:=((HK4.out.trans kal).mono fun k c t fr _ e => .inr (.inl e)).trans (Kp.of_grown hgrow (fun k c t fr hk _ => .inr (.inr hk)) fun k hk=>by
     obtain⟨cur,h1,_⟩:=row_block (O4.out.alloc (.cells #[.int .i64 1,.string ⟨#[]⟩,.string U,.slice none 0 0,.bool false] 57)) hk
     exact⟨_,_,_,h1⟩)
    have hat2:(some g=(Value.slice a T.length c).ownBlock\/w.heap.size<=g):=by
     rcases hat with e | e
     · exact .inl e.symm
     · have:=HK4.out.size
       exact .inr (by rw[e];simp;omega)
    have hT6:OwnT w6 B w6.heap.size (.slice (some ⟨g,0,none⟩) (T.length+1) cap) (T++[textT H]):=by
     have t3':TRow (w4.alloc (.cells #[.int .i64 1,.string ⟨#[]⟩,.string U,.slice none 0 0,.bool false] 57)) B m T cs:=t3.kp (HK4.out.trans kal) fun j _ _ e=>absurd e.2 (by decide);refine OwnT.grow t3' (AttrsBy.nil _ _ _) (Nat.le_trans hmw (HK4.out.trans kal).size) (O4.out.alloc _) ?_ hgrow;have e:tkC (textT H) (.slice none 0 0)=[.int .i64 1,.string ⟨#[]⟩,.string U,.slice none 0 0,.bool false]:=by rw[HU.out];rfl
     rw[e];exact hown
    have x7:=x6.set4 (.slice (some ⟨g,0,none⟩) (T.length+1) cap);have k7:Kp (frT B R (.slice a T.length c)) w (w6.setCell ⟨R,4,none⟩ (.slice (some ⟨g,0,none⟩) (T.length+1) cap)):=k6.trans ((x6.kset 4 _).mono fun k c t fr _ e => .inl e);have hb6:(w6.setCell ⟨R,4,none⟩ (.slice (some ⟨g,0,none⟩) (T.length+1) cap)).heap.size=w6.heap.size:=by simp[World.setCell]
    have hT7:OwnT (w6.setCell ⟨R,4,none⟩ (.slice (some ⟨g,0,none⟩) (T.length+1) cap)) B w6.heap.size (.slice (some ⟨g,0,none⟩) (T.length+1) cap) (T++[textT H]):=hT6.at x6 (x6.kset 4 _);have hbv:(w6.setCell ⟨R,4,none⟩ (.slice (some ⟨g,0,none⟩) (T.length+1) cap)).heap[R]? = some (.cells #[.string s,.int .i64 (n:Int),p,bv,.slice (some ⟨g,0,none⟩) (T.length+1) cap,fv] 147 (0,0)):=x7;have hsz:w.heap.size<=w6.heap.size:=k6.size;obtain⟨w7,hw7⟩:∃ w7,w6.setCell ⟨R,4,none⟩ (.slice (some ⟨g,0,none⟩) (T.length+1) cap)=w7:=⟨_,rfl⟩;rw[hw7]at x7 k7 hT7 hb6;have HZ:=Lib.hid (And.intro x7 (And.intro k7 (And.intro hT7 (And.intro hb6 (And.intro hat2 hsz)))));have CR:=Lib.hid (reset_any B R 2 _ _ p bv w7 x7 rfl rfl);clear x7 k7 hT7 hb6 hat2 hsz hbv hT6 k6 kal hown hgrow hat hlt6 d6 f6 d4 d4' d4'' HX4 HK4 O4 CS
    go_wp2_with fail
    refine CR.out.mono ?_;rintro e w8 ⟨rfl,bd8,k8⟩;obtain⟨x7,k7,hT7,hb6,hat2,hsz⟩:=HZ.out;have k9:Kp (onR R) w7 w8:=k8;have x8:RX w8 R s n (.pointer none) (.slice none 0 0) (.slice (some ⟨g,0,none⟩) (T.length+1) cap) fv:=bd8.blk;have hT8:OwnT w8 B w8.heap.size (.slice (some ⟨g,0,none⟩) (T.length+1) cap) (T++[textT H]):=(hT7.at x7 k9).up (by rw[<- hb6];exact k9.size);have k10:Kp (frT B R (.slice a T.length c)) w w8:=k7.trans (k9.mono fun k c t fr _ e => .inl e);have hv:=HH.out.told (H':=[]) k10 x8 (.inl rfl) (World.ownsRow_nil _ _ _ _) (fun _=>rfl) hT8;rw[<- HT.out]at hv;have HV:=Lib.hid (And.intro hv (And.intro hat2 k10));clear hv k10 hT8 x8 k9 x7 k7 hT7 hat2 bd8 k8 hb6 hsz
    go_wp2
    go_end0
    obtain⟨h1,h2,h3⟩:=HV.out;refine⟨rfl,_,_,h1,?_,h3⟩;rcases h2 with e | e
    · exact .inl e
    · exact .inr ⟨g,rfl,e⟩
theorem tell_rv (w:World)(B m R:Nat)(s:ByteArray)(n:Nat)(H:List UInt8)(T:List Tk)(F:List Fl)(v0:Value)(F0:List Fl)(p bv tv fv:Value)(h:RV w B m R s n H T F v0 F0 p bv tv fv)(hl:T.length<=900000)(k:Int)(NN DD:ByteArray)(av:Value)(A:List (List UInt8 × List UInt8))(c:Bool)(ha:AttrsBy w B w.heap.size av A) :
 Calls Tryz.prog 158 #[.pointer (some ⟨R,0,none⟩),.agg #[.int .i64 k,.string NN,.string DD,av,.bool c]] w fun e w'=>e=.returned (.tuple #[])/\RS w' B w'.heap.size R s n [] (T++txtH H++[⟨k,NN.data.toList,DD.data.toList,A,c⟩]) F v0 F0/\Kp (frT B R tv) w w':=by
 obtain⟨i0,hi,hz0,hz1,hz2⟩:=info_parts TinfoT;have hal:=(Below.refl w.heap.size w).alloc (Nat.le_refl _) (.cells #[.int .i64 k,.string NN,.string DD,av,.bool c] 57);have hbox:=new_block w (.cells #[.int .i64 k,.string NN,.string DD,av,.bool c] 57);have CT:=Lib.hid (tellText_rv _ B m R s n H T F v0 F0 p bv tv fv (h.below hal) (by omega))
 have htl:(T++txtH H).length<=900001:=by
  rw[List.length_append];unfold txtH;split<;>simp<;>omega
 obtain⟨T2,hT2⟩:∃ T2,T++txtH H=T2:=⟨_,rfl⟩;rw[hT2]at CT htl ⊢;clear hT2;have HH:=Lib.hid (And.intro h (And.intro ha (And.intro hal hbox)));obtain⟨aa,ac,rfl⟩:=ha.form;clear h ha hal hbox
 go_enter Tryz.func158,Tryz.ntmps158
 go_wp2_with fail
 refine CT.out.mono ?_;rintro e w2 ⟨rfl,p2,tv2,h2,hat2,k2⟩;clear CT;obtain⟨h,ha,hal,hbox⟩:=HH.out
 have hX:w2.heap[w.heap.size]? = some (.cells #[.int .i64 k,.string NN,.string DD,.slice aa A.length ac,.bool c] 57 (0,0)):=k2.cells hbox (fun e=>by
  obtain⟨cs,t1,t2,t3⟩:=h.ht;rcases e with e | e | e
  · have:=h.hi;have:=h.mw;omega
  · exact absurd e.2 (by decide)
  · have:=(t1.lt _ e).2;omega)
 have hA2:AttrsBy w2 B w2.heap.size (.slice aa A.length ac) A:=((ha.kp (Kp.of_below hal (P:=fun _ _=>False)) fun _ _ _ e=>e).up (Nat.le_trans hal.size k2.size)).1 |> fun r=>⟨k2.row r fun j hj _ e=>by
  obtain⟨cs,t1,t2,t3⟩:=h.ht;rcases e with e | e | e
  · exact row_ne r (h.x.below hal) (by decide) (by rw[hj,e])
  · exact absurd e.2 (by decide)
  · exact rows_ne (ownsRow_below t1 hal) r (by decide) e hj,fun j hj=>Nat.lt_of_lt_of_le (ha.2 j hj) (Nat.le_trans hal.size k2.size)⟩
 have hko:Kp (frT B R tv) w w2:=(Kp.of_below hal).trans k2
 have hold:∀ j,tv2.ownBlock=some j->j<w.heap.size->tv.ownBlock=some j:=fun j hj hlt=>by
  rcases hat2 with e | ⟨j2,e,h5⟩
  · rw[<- e];exact hj
  · rw[e]at hj
    cases hj
    have:=hal.size;omega
 obtain⟨a,cc,rfl⟩:=h2.ht.form;obtain⟨cs,t1,t2,t3⟩:=h2.ht;have b0:w2.cell? ⟨w.heap.size,0,none⟩=some (.int .i64 k):=by rw[cell_of hX];rfl
 have b1:w2.cell? ⟨w.heap.size,1,none⟩=some (.string NN):=by rw[cell_of hX];rfl
 have b2:w2.cell? ⟨w.heap.size,2,none⟩=some (.string DD):=by rw[cell_of hX];rfl
 have b3:w2.cell? ⟨w.heap.size,3,none⟩=some (.slice aa A.length ac):=by rw[cell_of hX];rfl
 have b4:w2.cell? ⟨w.heap.size,4,none⟩=some (.bool c):=by rw[cell_of hX];rfl
 have d4:=h2.x.c4;have d4'':=(h2.x.below ((Below.refl _ _).alloc (Nat.le_refl _) (.cells #[.int .i64 k,.string NN,.string DD,.slice aa A.length ac,.bool c] 57))).c4;have hx2:=h2.x;have hbw:=h2.bw;have H2:=Lib.hid (And.intro h2 (And.intro hA2 (And.intro hko hold)));have HT3:=Lib.hid t3;clear h ha hal hbox hX hA2 hko hold h2 hat2 k2 t3 t2
 go_wp2_with fail
 go_region_law (refine step_append_lies _ (by rfl) (.tmp 10) (.tmp 12) 25 (by rfl) B 57 i0 (.agg #[.int .i64 0,.string ⟨#[]⟩,.string ⟨#[]⟩,.slice none 0 0,.bool false]) 5 72 Tryz.underlying25 hi hz0 hz1 hz2 rfl (by decide) _ _ _ (by rfl) (t1.alloc _) ⟨w2.heap.size,0,none⟩ 1 1 [.int .i64 k,.string NN,.string DD,.slice aa A.length ac,.bool c] (by rfl) rfl (World.news_of_block (new_block _ _)) (by intro u hu;simp at hu;rcases hu with rfl | rfl | rfl | rfl | rfl<;>rfl) (by decide) (by unfold maxLen;omega) (by omega) (by simp;omega) _ rfl ?_
                intro g cap w6 hown hgrow hat hlt6;have hne:(Value.slice a T2.length cc).ownBlock≠some R:=row_ne t1 hx2 (by decide)
                have x6:RX w6 R s n p2 (.slice none 0 0) (.slice a T2.length cc) fv:=by
                 have h1:=hx2.below ((Below.refl _ _).alloc (Nat.le_refl _) (.cells #[.int .i64 k,.string NN,.string DD,.slice aa A.length ac,.bool c] 57));unfold RX at h1 ⊢;rw[hgrow.block R (lt_of_block h1) (fun e=>hne e.symm)];exact h1
                have d6:=x6.c4
                have f6:=x6.free 4)
 all_goals
  have hgrow:(w2.alloc (.cells #[.int .i64 k,.string NN,.string DD,.slice aa A.length ac,.bool c] 57)).grownBy w6 (Value.slice a T2.length cc).ownBlock:=⟨hgrow.os,hgrow.tape,hgrow.output,hgrow.size,hgrow.block⟩;obtain⟨h2,hA2,hko,hold⟩:=H2.out;have hal2:=(Below.refl w2.heap.size w2).alloc (Nat.le_refl _) (.cells #[.int .i64 k,.string NN,.string DD,.slice aa A.length ac,.bool c] 57)
  have k6:Kp (frT B R (.slice a T2.length cc)) w2 w6:=(Kp.of_below hal2).trans (Kp.of_grown hgrow (fun q c t fr hq _ => .inr (.inr hq)) fun q hq=>by
   obtain⟨cur,h1,_⟩:=row_block (t1.alloc (.cells #[.int .i64 k,.string NN,.string DD,.slice aa A.length ac,.bool c] 57)) hq
   exact⟨_,_,_,h1⟩)
  have hT6:OwnT w6 B w6.heap.size (.slice (some ⟨g,0,none⟩) (T2.length+1) cap) (T2++[⟨k,NN.data.toList,DD.data.toList,A,c⟩]):=by
   have t3':TRow (w2.alloc (.cells #[.int .i64 k,.string NN,.string DD,.slice aa A.length ac,.bool c] 57)) B w2.heap.size T2 cs:=HT3.out.kp (Kp.of_below hal2 (P:=fun _ _=>False)) fun _ _ _ e=>e;refine OwnT.grow t3' (hA2.kp (Kp.of_below hal2 (P:=fun _ _=>False)) fun _ _ _ e=>e) hal2.size (t1.alloc _) ?_ hgrow
   have e:tkC ⟨k,NN.data.toList,DD.data.toList,A,c⟩ (.slice aa A.length ac)=[.int .i64 k,.string NN,.string DD,.slice aa A.length ac,.bool c]:=by
    unfold tkC;rw[strV_of (T:=NN) rfl,strV_of (T:=DD) rfl]
   rw[e];exact hown
  have x7:=x6.set4 (.slice (some ⟨g,0,none⟩) (T2.length+1) cap);have hb6:(w6.setCell ⟨R,4,none⟩ (.slice (some ⟨g,0,none⟩) (T2.length+1) cap)).heap.size=w6.heap.size:=by simp[World.setCell]
  have k7:Kp (frT B R (.slice a T2.length cc)) w2 (w6.setCell ⟨R,4,none⟩ (.slice (some ⟨g,0,none⟩) (T2.length+1) cap)):=k6.trans ((x6.kset 4 _).mono fun k c t fr _ e => .inl e);have hT7:=hT6.at x6 (x6.kset 4 (.slice (some ⟨g,0,none⟩) (T2.length+1) cap));rw[<- hb6]at hT7;have hrow:(w6.setCell ⟨R,4,none⟩ (.slice (some ⟨g,0,none⟩) (T2.length+1) cap)).ownsRow B 5 1 (.slice none 0 0) ([]:List UInt8).length (Lib.byteCells []):=World.ownsRow_nil _ _ _ _;have hv:=h2.told k7 x7 h2.hp hrow (fun _=>rfl) hT7
  have kk:Kp (frT B R tv) w (w6.setCell ⟨R,4,none⟩ (.slice (some ⟨g,0,none⟩) (T2.length+1) cap)):=trans_old hko k7 fun j t hj e=>by
   rcases e with e | e | e
   · exact .inl e
   · exact .inr (.inl e)
   · exact .inr (.inr (hold j e hj))
  have HV:=Lib.hid (And.intro hv kk);clear hv kk hrow hT7 k7 hb6 x7 hT6 k6 hal2 h2 hA2 hko hold hown hgrow hat hlt6
  go_end0
  exact⟨rfl,HV.out.1.form,HV.out.2⟩
end Go.Proofs.YtlnfbjbagmfpiaaGreatDoor
namespace Go.Proofs.YtlnfbjbagmfpiaaGreatDoor
open Go.RowKit
theorem liesR:liesAt Tryz.prog Tryz.prog.depth 147 (6 / Tryz.prog.cellsOf 147) 2 100 1=true:=by kernel_rfl
section
variable {w w':World} {B m R:Nat} {s:ByteArray} {n:Nat} {H:List UInt8} {T:List Tk} {F:List Fl} {v0:Value} {F0:List Fl} {p bv tv fv:Value}
theorem RV.wrote (h:RV w B m R s n H T F v0 F0 p bv tv fv){H':List UInt8}{p' bv':Value}(k:Kp (wrB B R) w w')(x:RX w' R s n p' bv' tv fv)(hp:p'=.pointer none\/p'=.pointer (some ⟨R,2,none⟩))(hb:w'.ownsRow B 5 1 bv' H'.length (Lib.byteCells H'))(hn:H'=[]->bv'=.slice none 0 0):RV w' B m R s n H' T F v0 F0 p' bv' tv fv:=by
 have ne:∀ {base size n:Nat} {e:TypeId} {v:Value} {xs:List Value},w.ownsRow base e size v n xs->147≠e->5≠e->∀ j,v.ownBlock=some j->¬ wrB B R j e:=fun r h1 h2 j hj e=>by
  rcases e with e | e
  · exact row_ne r h.x h1 (by rw[hj,e])
  · exact h2 e.2.symm
 have gen:∀ {T:List Tk} {cs:List Value},TRow w B m T cs->TRow w' B m T cs:=by
  intro T
  induction T with
  | nil=>intro cs h;exact h
  | cons u T ih =>
    rintro cs ⟨bv,r,e1,e2,e3⟩;exact⟨bv,r,e1,⟨k.row e2.1 fun j hj _=>ne e2.1 (by decide) (by decide) j hj,e2.2⟩,ih e3⟩
 obtain⟨cs,t1,t2,t3⟩:=h.ht
 exact⟨x,hp,hb,hn,⟨cs,k.row t1 fun j hj _=>ne t1 (by decide) (by decide) j hj,t2,gen t3⟩,k.row h.hf fun j hj _=>ne h.hf (by decide) (by decide) j hj,k.row h.h0 fun j hj _=>ne h.h0 (by decide) (by decide) j hj,h.h1,h.lo,h.hi,Nat.le_trans h.mw k.size,h.low.on (k.below (fun j t e=>by
  rcases e with rfl | e
  · exact h.lo
  · exact e.1) h.bw)⟩
theorem RS.lo (h:RS w B m R s n H T F v0 F0):B<=R:=by obtain⟨p,bv,tv,fv,h⟩:=h;exact h.lo
theorem RS.hi (h:RS w B m R s n H T F v0 F0):R<m:=by obtain⟨p,bv,tv,fv,h⟩:=h;exact h.hi
theorem RS.mw (h:RS w B m R s n H T F v0 F0):m<=w.heap.size:=by obtain⟨p,bv,tv,fv,h⟩:=h;exact h.mw
theorem RS.onb (h:RS w B m R s n H T F v0 F0)(k:Kp (onR R) w w'):Below B w w':=k.below (fun j t e=>by rw[show j=R from e];exact h.lo) h.bw
theorem RS.frb (h:RS w B m R s n H T F v0 F0)(k:Kp (frD B R) w w'):Below B w w':=k.below (fun j t e=>by
 rcases e with rfl | e
 · exact h.lo
 · exact e.1) h.bw
theorem RS.wrb (h:RS w B m R s n H T F v0 F0)(k:Kp (wrB B R) w w'):Below B w w':=k.below (fun j t e=>by
 rcases e with rfl | e
 · exact h.lo
 · exact e.1) h.bw
end
theorem hold_hid (D:ByteArray):Hid (∀ W B m R s n H T F v0 F0,RS W B m R s n H T F v0 F0->H.length+D.size<=1000000->Calls Tryz.prog 66 #[.pointer (some ⟨R,2,none⟩),.string D] W fun e w'=>e=.returned (.tuple #[.int .i64 D.size,.nilIface])/\RS w' B m R s n (H++D.data.toList) T F v0 F0/\Kp (wrB B R) W w'):=Lib.hid fun w B m R s n H T F v0 F0 h hl=>by
 obtain⟨p,bv,tv,fv,h⟩:=h;refine(write_any B R 2 H _ _ p bv D w h.bd h.bw (by decide) (by omega) liesR).mono ?_;rintro e w' ⟨rfl,bv',bd,k⟩;exact⟨rfl,⟨_,bv',tv,fv,h.wrote k bd.blk (.inr rfl) bd.row bd.nil⟩,k⟩
theorem readText_hid (s P D:ByteArray)(n k:Nat)(q:List Nat)(hn:n<s.size)(hk:k=1+((s.data.toList.drop n).drop 1).findIdx (· == 60))(hP:P.data.toList=(s.data.toList.drop n).take k)(h:decT 0 P.data.toList=(D.data.toList,q))(hs:s.size<=20000):Hid (∀ W B m R H T F v0 F0,RS W B m R s n H T F v0 F0->F.length<=500000->H.length<=500000->Calls Tryz.prog 134 #[.pointer (some ⟨R,0,none⟩)] W fun e w'=>e=.returned (.tuple #[])/\RS w' B m R s (n+k) (H++D.data.toList) T (F++failM n q) v0 F0/\Below B W w'):=Lib.hid fun w B m R H T F v0 F0 hr hF hH=>by
 obtain⟨Lf,hLf⟩:=text_of (s.data.toList.drop n);obtain⟨L1,hL1⟩:=text_of ((s.data.toList.drop n).drop 1);have hLs:Lf.size=s.size - n:=by rw[<- lsize,hLf,List.length_drop,lsize]
 have hL1s:L1.size=s.size - n - 1:=by rw[<- lsize,hL1,List.length_drop,List.length_drop,lsize]
 have CL:=left_hid R s Lf n hLf (by omega);have s1:=slice_from_ty Tryz.underlying9 Lf L1 1 (by omega) (by rw[hL1,hLf]);rw[show(((1:Nat)):Int)=1 from rfl]at s1;have hfi:=List.findIdx_le_length (p:=(· == (60:UInt8))) (xs:=(s.data.toList.drop n).drop 1);have hfi2:(s.data.toList.drop n).drop 1=L1.data.toList:=hL1.symm;rw[hfi2]at hfi hk;rw[lsize,hL1s]at hfi;have hkl:n+k<=s.size:=by omega
 have hPs:P.size=k:=by rw[<- lsize,hP,List.length_take,List.length_drop,lsize];omega
 have CT:=take_hid R s P n k hP hkl (by omega);have CD:=decoded_hid P D q n h (by omega) (by omega)
 have hDs:D.size<=20000:=by
  have:=(decT_len 0 P.data.toList).1;rw[h,lsize,lsize]at this;omega
 have CH:=hold_hid D;obtain⟨pp,bv,tv,fv,hx⟩:=hr;have hbw:=hx.bw;have hlo:=hx.lo
 have CI:=index_hid L1 ⟨#[60]⟩ (if L1.data.toList.findIdx (· == 60)<L1.data.toList.length then ((L1.data.toList.findIdx (· == 60):Nat):Int) else -1) (by
  rw[index_find,show(⟨#[60]⟩:ByteArray).data.toList=[60]from rfl,find_single]
  by_cases hq:L1.data.toList.findIdx (· == 60)<L1.data.toList.length
  · rw[if_pos hq,if_pos hq]
  · rw[if_neg hq,if_neg hq]) (by omega)
 have d1:=hx.x.c1
 by_cases hfound:L1.data.toList.findIdx (· == 60)<L1.data.toList.length
 · rw[if_pos hfound]at CI
   have z1:((L1.data.toList.findIdx (· == 60):Nat):Int)+1=(k:Int):=by omega
   have z2:((k:Int)==0)=false:=by rw[beq_eq_false_iff_ne];omega
   obtain⟨j,hj⟩:∃ j,L1.data.toList.findIdx (· == 60)=j:=⟨_,rfl⟩;rw[hj]at CI z1;have z3:(j:Int)<=20000:=by omega
   have z4:(0:Int)<=(j:Int):=by omega
   have HX:=Lib.hid hx;clear hfound hj hk hfi hfi2 hL1 hLf h hP hx hLs hL1s
   go_enter Tryz.func134,Tryz.ntmps134
   go_wp2_with fail
   (with_reducible refine(CL.out _ _ _ _ _ HX.out.x).mono ?_)
   rintro e w1 ⟨rfl,b1⟩;have HX1:=Lib.hid (HX.out.below b1);have hm1:=HX1.out.low.low.m;have k1:Below B w w1:=b1.mono hbw;clear d1
   go_wp2_with fail
   (with_reducible refine(CI.out _ hm1).mono ?_)
   rintro e w1 ⟨rfl,rfl⟩;clear hm1 b1
   go_wp2_with fail
   have xd_w1:RX w1.drew R s n pp bv tv fv:=HX1.out.x
   go_region_law (first
    | (go_simp
       go_at_call 162
       (with_reducible refine(CT.out _ _ _ _ _ xd_w1).mono ?_)
       rintro e w2 ⟨rfl,x2,k2⟩;have k2':Kp (onR R) w1 w2:=(Kp.refl _ w1).drew.trans k2;have HX2:=Lib.hid (HX1.out.moved x2 k2').form;have K2:=Lib.hid (k1.trans (HX1.out.form.onb k2'))
       clear k2 k2' x2)
    | (go_simp
       go_at_call 167
       (with_reducible refine(CD.out _ _ _ _ _ _ _ _ _ _ _ HX2.out hF).mono ?_)
       rintro e w3 ⟨rfl,h3,k3⟩;have HX3:=Lib.hid h3;have K3:=Lib.hid (K2.out.trans (HX2.out.frb k3))
       clear h3 k3)
    | (go_simp
       go_at_call 66
       (with_reducible refine(CH.out _ _ _ _ _ _ _ _ _ _ _ HX3.out (by omega)).mono ?_)
       rintro e w4 ⟨rfl,h4,k4⟩;have HX4:=Lib.hid h4;have K4:=Lib.hid (K3.out.trans (HX3.out.wrb k4))
       clear h4 k4))
   all_goals
    go_wp2
    go_end0
    exact⟨rfl,HX4.out,K4.out⟩
 · rw[if_neg hfound]at CI
   have hLk:Lf.size=k:=by
    rw[lsize]at hfound;omega
   have z1:(Lf.size:Int)=(k:Int):=by omega
   have HX:=Lib.hid hx;clear hfound hk hfi hfi2 hL1 hLf h hP hx hLs hL1s hLk
   go_enter Tryz.func134,Tryz.ntmps134
   go_wp2_with fail
   (with_reducible refine(CL.out _ _ _ _ _ HX.out.x).mono ?_)
   rintro e w1 ⟨rfl,b1⟩;have HX1:=Lib.hid (HX.out.below b1);have hm1:=HX1.out.low.low.m;have k1:Below B w w1:=b1.mono hbw;clear d1
   go_wp2_with fail
   (with_reducible refine(CI.out _ hm1).mono ?_)
   rintro e w1 ⟨rfl,rfl⟩;clear hm1 b1
   go_wp2_with fail
   (with_reducible refine(CL.out _ _ _ _ _ HX1.out.x).mono ?_)
   rintro e w5 ⟨rfl,b5⟩;have HX1:=Lib.hid (HX1.out.below b5);have k1:Below B w w5:=k1.trans (b5.mono (Nat.le_trans hbw k1.size));clear b5
   go_wp2_with fail
   have xd_w5:RX w5.drew R s n pp bv tv fv:=HX1.out.x
   go_region_law (first
    | (go_simp
       go_at_call 162
       (with_reducible refine(CT.out _ _ _ _ _ xd_w5).mono ?_)
       rintro e w2 ⟨rfl,x2,k2⟩;have k2':Kp (onR R) w5 w2:=(Kp.refl _ w5).drew.trans k2;have HX2:=Lib.hid (HX1.out.moved x2 k2').form;have K2:=Lib.hid (k1.trans (HX1.out.form.onb k2'))
       clear k2 k2' x2)
    | (go_simp
       go_at_call 167
       (with_reducible refine(CD.out _ _ _ _ _ _ _ _ _ _ _ HX2.out hF).mono ?_)
       rintro e w3 ⟨rfl,h3,k3⟩;have HX3:=Lib.hid h3;have K3:=Lib.hid (K2.out.trans (HX2.out.frb k3))
       clear h3 k3)
    | (go_simp
       go_at_call 66
       (with_reducible refine(CH.out _ _ _ _ _ _ _ _ _ _ _ HX3.out (by omega)).mono ?_)
       rintro e w4 ⟨rfl,h4,k4⟩;have HX4:=Lib.hid h4;have K4:=Lib.hid (K3.out.trans (HX3.out.wrb k4))
       clear h4 k4))
   all_goals
    go_wp2
    go_end0
    exact⟨rfl,HX4.out,K4.out⟩
end Go.Proofs.YtlnfbjbagmfpiaaGreatDoor
namespace Go.Proofs.YtlnfbjbagmfpiaaGreatDoor
open Go.RowKit
theorem RV.frTb {w w':World}{B m R:Nat}{s:ByteArray}{n:Nat}{H:List UInt8}{T:List Tk}{F:List Fl}{v0:Value}{F0:List Fl}{p bv tv fv:Value}(h:RV w B m R s n H T F v0 F0 p bv tv fv)(k:Kp (frT B R tv) w w'):Below B w w':=k.below (fun k t e=>by
 rcases e with rfl | e | e
 · exact h.lo
 · exact e.1
 · obtain⟨cs,h1,_⟩:=h.ht
   exact(h1.lt k e).1) h.bw
theorem tell_hid:Hid (∀ W B m R s n H T F v0 F0,RS W B m R s n H T F v0 F0->T.length<=900000->∀(k:Int) (NN DD:ByteArray) av A c,AttrsBy W B W.heap.size av A->Calls Tryz.prog 158 #[.pointer (some ⟨R,0,none⟩),.agg #[.int .i64 k,.string NN,.string DD,av,.bool c]] W fun e w'=>e=.returned (.tuple #[])/\RS w' B w'.heap.size R s n [] (T++txtH H++[⟨k,NN.data.toList,DD.data.toList,A,c⟩]) F v0 F0/\Below B W w'/\∀ j c fr,m<=j->W.heap[j]? = some (.cells c 57 fr)->w'.heap[j]? = some (.cells c 57 fr)):=Lib.hid fun w B m R s n H T F v0 F0 h hl k NN DD av A c ha=>by
 obtain⟨p,bv,tv,fv,h⟩:=h;refine(tell_rv w B m R s n H T F v0 F0 p bv tv fv h hl k NN DD av A c ha).mono ?_;rintro e w' ⟨rfl,h2,k2⟩;refine⟨rfl,h2,h.frTb k2,fun j c fr hj hh=>k2.cells hh fun e => ?_⟩;rcases e with e | e | e
 · have:=h.hi;omega
 · exact absurd e.2 (by decide)
 · obtain⟨cs,_,t2,_⟩:=h.ht
   have:=t2 j e;omega
theorem marked_note_yes (s z DD:ByteArray)(n d i:Nat)(hf:findT z.data.toList (s.data.toList.drop (n+d))=some i)(hD:DD.data.toList=((s.data.toList.drop (n+d)).take i))(hn:n+d<=s.size)(hz:low z.data.toList=z.data.toList)(hs:s.size<=20000):Hid (∀ W B m R H T F v0 F0,RS W B m R s n H T F v0 F0->F.length<=500000->T.length<=500000->Calls Tryz.prog 132 #[.pointer (some ⟨R,0,none⟩),.int .i64 4,.int .i64 (d:Int),.string z] W fun e w'=>e=.returned (.tuple #[])/\RS w' B w'.heap.size R s (n+d+i+z.size) [] (T++txtH H++[⟨4,[],DD.data.toList,[],false⟩]) F v0 F0/\Below B W w'):=Lib.hid fun w B m R H T F v0 F0 hr hF hT=>by
 obtain⟨U,hU⟩:=text_of ((s.data.toList.drop n).take d);obtain⟨V,hV⟩:=text_of ((s.data.toList.drop (n+d)).take i);have CT:=take_hid R s U n d hU hn (by omega);have CS:=through_yes R s z V (n+d) i hf hV (by omega) hz (by omega);obtain rfl:V=DD:=text_same (by rw[hV,hD]);have CE:=tell_hid;have CF:=fail_hid 140 n;obtain⟨p,bv,tv,fv,hx⟩:=hr;have hbw:=hx.bw;have d1:=hx.x.c1;have HX:=Lib.hid hx;clear hf hD hz hU hV hx
 go_enter Tryz.func132,Tryz.ntmps132
 go_wp2_with fail
 (with_reducible refine(CT.out _ _ _ _ _ HX.out.x).mono ?_)
 rintro e w1 ⟨rfl,x1,k1⟩;have HX1:=Lib.hid (HX.out.moved x1 k1);have B1:=HX.out.form.onb k1;have hm1:=HX1.out.low.low.m;clear x1 k1 d1 HX
 go_wp2_with fail
 (with_reducible refine(CS.out _ _ _ _ _ hm1 HX1.out.x).mono ?_)
 rintro e w2 ⟨rfl,x2,k2⟩;have HX2:=Lib.hid (HX1.out.moved x2 k2).form;have B2:=B1.trans (HX1.out.form.onb k2);clear x2 k2 B1 hm1 HX1
 go_wp2_with fail
 (with_reducible refine(CE.out _ _ _ _ _ _ _ _ _ _ _ HX2.out (by omega) _ _ _ _ _ _ (AttrsBy.nil _ _ _)).mono ?_)
 rintro e w5 ⟨rfl,h5,b5,-⟩;have B5:=B2.trans b5;clear b5 B2 HX2
 go_wp2
 go_end0
 exact⟨rfl,h5,B5⟩
theorem marked_note_no (s z DD:ByteArray)(n d:Nat)(hf:findT z.data.toList (s.data.toList.drop (n+d))=none)(hD:DD.data.toList=(s.data.toList.drop (n+d)))(hn:n+d<=s.size)(hs:s.size<=20000):Hid (∀ W B m R H T F v0 F0,RS W B m R s n H T F v0 F0->F.length<=500000->T.length<=500000->Calls Tryz.prog 132 #[.pointer (some ⟨R,0,none⟩),.int .i64 4,.int .i64 (d:Int),.string z] W fun e w'=>e=.returned (.tuple #[])/\RS w' B w'.heap.size R s (s.size) [] (T++txtH H++[⟨4,[],DD.data.toList,[],false⟩]) (F++[((140:Int),n)]) v0 F0/\Below B W w'):=Lib.hid fun w B m R H T F v0 F0 hr hF hT=>by
 obtain⟨U,hU⟩:=text_of ((s.data.toList.drop n).take d);obtain⟨V,hV⟩:=text_of (s.data.toList.drop (n+d));have CT:=take_hid R s U n d hU hn (by omega);have CS:=through_no R s z V (n+d) hf hV (by omega) (by omega);obtain rfl:V=DD:=text_same (by rw[hV,hD]);have CE:=tell_hid;have CF:=fail_hid 140 n;obtain⟨p,bv,tv,fv,hx⟩:=hr;have hbw:=hx.bw;have d1:=hx.x.c1;have HX:=Lib.hid hx;clear hf hD hU hV hx
 go_enter Tryz.func132,Tryz.ntmps132
 go_wp2_with fail
 (with_reducible refine(CT.out _ _ _ _ _ HX.out.x).mono ?_)
 rintro e w1 ⟨rfl,x1,k1⟩;have HX1:=Lib.hid (HX.out.moved x1 k1);have B1:=HX.out.form.onb k1;have hm1:=HX1.out.low.low.m;clear x1 k1 d1 HX
 go_wp2_with fail
 (with_reducible refine(CS.out _ _ _ _ _ hm1 HX1.out.x).mono ?_)
 rintro e w2 ⟨rfl,x2,k2⟩;have HX2:=Lib.hid (HX1.out.moved x2 k2).form;have B2:=B1.trans (HX1.out.form.onb k2);clear x2 k2 B1 hm1 HX1
 go_wp2_with fail
 (with_reducible refine(CF.out _ _ _ _ _ _ _ _ _ _ _ HX2.out (by omega)).mono ?_)
 rintro e w4 ⟨rfl,h4,k4⟩;have HX4:=Lib.hid h4;have B4:=B2.trans (HX2.out.frb k4);clear h4 k4 B2 HX2
 go_wp2_with fail
 (with_reducible refine(CE.out _ _ _ _ _ _ _ _ _ _ _ HX4.out (by omega) _ _ _ _ _ _ (AttrsBy.nil _ _ _)).mono ?_)
 rintro e w5 ⟨rfl,h5,b5,-⟩;have B5:=B4.trans b5;clear b5 B4 HX4
 go_wp2
 go_end0
 exact⟨rfl,h5,B5⟩
theorem marked_doc_yes (s z DD:ByteArray)(n d i:Nat)(hf:findT z.data.toList (s.data.toList.drop (n+d))=some i)(hD:DD.data.toList=trim ((s.data.toList.drop (n+d)).take i))(hn:n+d<=s.size)(hz:low z.data.toList=z.data.toList)(hs:s.size<=20000):Hid (∀ W B m R H T F v0 F0,RS W B m R s n H T F v0 F0->F.length<=500000->T.length<=500000->Calls Tryz.prog 132 #[.pointer (some ⟨R,0,none⟩),.int .i64 5,.int .i64 (d:Int),.string z] W fun e w'=>e=.returned (.tuple #[])/\RS w' B w'.heap.size R s (n+d+i+z.size) [] (T++txtH H++[⟨5,[],DD.data.toList,[],false⟩]) F v0 F0/\Below B W w'):=Lib.hid fun w B m R H T F v0 F0 hr hF hT=>by
 obtain⟨U,hU⟩:=text_of ((s.data.toList.drop n).take d);obtain⟨V,hV⟩:=text_of ((s.data.toList.drop (n+d)).take i);have CT:=take_hid R s U n d hU hn (by omega);have CS:=through_yes R s z V (n+d) i hf hV (by omega) hz (by omega)
 have hVs:V.size<=20000:=by
  rw[<- lsize,hV];simp only[List.length_take,List.length_drop,lsize];omega
 have CM:=trim_hid V DD (by rw[hD,hV]) (by omega);have CE:=tell_hid;have CF:=fail_hid 140 n;obtain⟨p,bv,tv,fv,hx⟩:=hr;have hbw:=hx.bw;have d1:=hx.x.c1;have HX:=Lib.hid hx;clear hf hD hz hU hV hx
 go_enter Tryz.func132,Tryz.ntmps132
 go_wp2_with fail
 (with_reducible refine(CT.out _ _ _ _ _ HX.out.x).mono ?_)
 rintro e w1 ⟨rfl,x1,k1⟩;have HX1:=Lib.hid (HX.out.moved x1 k1);have B1:=HX.out.form.onb k1;have hm1:=HX1.out.low.low.m;clear x1 k1 d1 HX
 go_wp2_with fail
 (with_reducible refine(CS.out _ _ _ _ _ hm1 HX1.out.x).mono ?_)
 rintro e w2 ⟨rfl,x2,k2⟩;have HX2:=Lib.hid (HX1.out.moved x2 k2).form;have B2:=B1.trans (HX1.out.form.onb k2);clear x2 k2 B1 hm1 HX1
 go_wp2_with fail
 (with_reducible refine(CM.out _).mono ?_)
 rintro e w3 ⟨rfl,b3⟩;have HX3:=Lib.hid (HX2.out.below b3);have B3:=B2.trans (b3.mono (Nat.le_trans hbw B2.size));clear b3 B2 HX2
 go_wp2_with fail
 (with_reducible refine(CE.out _ _ _ _ _ _ _ _ _ _ _ HX3.out (by omega) _ _ _ _ _ _ (AttrsBy.nil _ _ _)).mono ?_)
 rintro e w5 ⟨rfl,h5,b5,-⟩;have B5:=B3.trans b5;clear b5 B3 HX3
 go_wp2
 go_end0
 exact⟨rfl,h5,B5⟩
theorem marked_doc_no (s z DD:ByteArray)(n d:Nat)(hf:findT z.data.toList (s.data.toList.drop (n+d))=none)(hD:DD.data.toList=trim (s.data.toList.drop (n+d)))(hn:n+d<=s.size)(hs:s.size<=20000):Hid (∀ W B m R H T F v0 F0,RS W B m R s n H T F v0 F0->F.length<=500000->T.length<=500000->Calls Tryz.prog 132 #[.pointer (some ⟨R,0,none⟩),.int .i64 5,.int .i64 (d:Int),.string z] W fun e w'=>e=.returned (.tuple #[])/\RS w' B w'.heap.size R s (s.size) [] (T++txtH H++[⟨5,[],DD.data.toList,[],false⟩]) (F++[((140:Int),n)]) v0 F0/\Below B W w'):=Lib.hid fun w B m R H T F v0 F0 hr hF hT=>by
 obtain⟨U,hU⟩:=text_of ((s.data.toList.drop n).take d);obtain⟨V,hV⟩:=text_of (s.data.toList.drop (n+d));have CT:=take_hid R s U n d hU hn (by omega);have CS:=through_no R s z V (n+d) hf hV (by omega) (by omega)
 have hVs:V.size<=20000:=by
  rw[<- lsize,hV];simp only[List.length_drop,lsize];omega
 have CM:=trim_hid V DD (by rw[hD,hV]) (by omega);have CE:=tell_hid;have CF:=fail_hid 140 n;obtain⟨p,bv,tv,fv,hx⟩:=hr;have hbw:=hx.bw;have d1:=hx.x.c1;have HX:=Lib.hid hx;clear hf hD hU hV hx
 go_enter Tryz.func132,Tryz.ntmps132
 go_wp2_with fail
 (with_reducible refine(CT.out _ _ _ _ _ HX.out.x).mono ?_)
 rintro e w1 ⟨rfl,x1,k1⟩;have HX1:=Lib.hid (HX.out.moved x1 k1);have B1:=HX.out.form.onb k1;have hm1:=HX1.out.low.low.m;clear x1 k1 d1 HX
 go_wp2_with fail
 (with_reducible refine(CS.out _ _ _ _ _ hm1 HX1.out.x).mono ?_)
 rintro e w2 ⟨rfl,x2,k2⟩;have HX2:=Lib.hid (HX1.out.moved x2 k2).form;have B2:=B1.trans (HX1.out.form.onb k2);clear x2 k2 B1 hm1 HX1
 go_wp2_with fail
 (with_reducible refine(CM.out _).mono ?_)
 rintro e w3 ⟨rfl,b3⟩;have HX3:=Lib.hid (HX2.out.below b3);have B3:=B2.trans (b3.mono (Nat.le_trans hbw B2.size));clear b3 B2 HX2
 go_wp2_with fail
 (with_reducible refine(CF.out _ _ _ _ _ _ _ _ _ _ _ HX3.out (by omega)).mono ?_)
 rintro e w4 ⟨rfl,h4,k4⟩;have HX4:=Lib.hid h4;have B4:=B3.trans (HX3.out.frb k4);clear h4 k4 B3 HX3
 go_wp2_with fail
 (with_reducible refine(CE.out _ _ _ _ _ _ _ _ _ _ _ HX4.out (by omega) _ _ _ _ _ _ (AttrsBy.nil _ _ _)).mono ?_)
 rintro e w5 ⟨rfl,h5,b5,-⟩;have B5:=B4.trans b5;clear b5 B4 HX4
 go_wp2
 go_end0
 exact⟨rfl,h5,B5⟩
theorem endTag_hid (s x:ByteArray)(n:Nat)(v:Value)(h:endV s.data.toList x.data.toList n=v)(hn:n<=s.size)(hx:low x.data.toList=x.data.toList)(hs:s.size<=1000000)(hxs:x.size<=1000000):Hid (∀ W,Calls Tryz.prog 190 #[.string s,.int .i64 (n:Int),.string x] W fun e w'=>e=.returned v/\Below W.heap.size W w'):=Lib.hid fun W=>by rw[<- h];exact endTag_any s x n hn hx hs hxs W
theorem raw_closed_code (s x V:ByteArray)(n:Nat)(hc:endM x.data.toList (s.data.toList.drop n)<s.size - n)(hV:V.data.toList=(s.data.toList.drop n).take (endM x.data.toList (s.data.toList.drop n)))(hk:(decide (x.data.toList=scriptN) || decide (x.data.toList=styleN))=true)(hn:n<=s.size)(hx:low x.data.toList=x.data.toList)(hxs:x.size<=20000)(hs:s.size<=20000):Hid (∀ W B m R H T F v0 F0,RS W B m R s n H T F v0 F0->F.length<=200000->H.length<=500000->Calls Tryz.prog 160 #[.pointer (some ⟨R,0,none⟩),.string x] W fun e w'=>e=.returned (.tuple #[])/\RS w' B m R s (n+endM x.data.toList (s.data.toList.drop n)) (H++V.data.toList) T (F) v0 F0/\Below B W w'):=Lib.hid fun w B m R H T F v0 F0 hr hF hH=>by
 have hle:=endM_le x.data.toList (s.data.toList.drop n);rw[List.length_drop,lsize]at hle;obtain⟨i,hi⟩:∃ i,endM x.data.toList (s.data.toList.drop n)=i:=⟨_,rfl⟩
 have CE:=endTag_hid s x n (.tuple #[.int .i64 ((n+i:Nat):Int),.bool true]) (by
  unfold endV
  rw[lsize,if_pos hc,hi]) hn hx (by omega) (by omega)
 rw[hi]at hc hV hle ⊢;have CT:=take_hid R s V n i hV (by omega) (by omega);have CK:=isCode_hid x true hk;have hVs:V.size=i:=by rw[<- lsize,hV,List.length_take,List.length_drop,lsize];omega
 have CH:=hold_hid V;have CF:=fail_hid 140 n;obtain⟨p,bv,tv,fv,hx0⟩:=hr;have hbw:=hx0.bw;have d0:=hx0.x.c0;have d1:=hx0.x.c1;have HX:=Lib.hid hx0;have z1:(n:Int)+(i:Int) - (n:Int)=(i:Int):=by omega
 have z2:(s.size:Int) - (n:Int)=((s.size - n:Nat):Int):=by omega
 have z3:(s.size:Int)<=20000:=by omega
 have z4:(n:Int)<=20000:=by omega
 have z5:(i:Int)<=20000:=by omega
 clear hc hV hi hk hx hx0
 go_enter Tryz.func160,Tryz.ntmps160
 go_wp2_with fail
 (with_reducible refine(CE.out _).mono ?_)
 rintro e w1 ⟨rfl,b1⟩;have HX1:=Lib.hid (HX.out.below b1);have B1:Below B w w1:=b1.mono hbw;have d0:=HX1.out.x.c0;clear b1 HX
 go_wp2_with fail
 (with_reducible refine(CT.out _ _ _ _ _ HX1.out.x).mono ?_)
 rintro e w2 ⟨rfl,x2,k2⟩;have HX2:=Lib.hid (HX1.out.moved x2 k2).form;have B2:=B1.trans (HX1.out.form.onb k2);clear x2 k2 B1 HX1 d0
 go_wp2_with fail
 (with_reducible refine(CK.out _).mono ?_)
 rintro e w2 ⟨rfl,rfl⟩
 go_wp2_with fail
 (with_reducible refine(CH.out _ _ _ _ _ _ _ _ _ _ _ HX2.out (by omega)).mono ?_)
 rintro e w4 ⟨rfl,h4,k4⟩;have HX4:=Lib.hid h4;have B4:=B2.trans (HX2.out.wrb k4);clear h4 k4 B2 HX2
 go_wp2
 go_end0
 exact⟨rfl,HX4.out,B4⟩
theorem raw_closed_soft (s x V D:ByteArray)(n:Nat)(q:List Nat)(hc:endM x.data.toList (s.data.toList.drop n)<s.size - n)(hV:V.data.toList=(s.data.toList.drop n).take (endM x.data.toList (s.data.toList.drop n)))(h:decT 0 V.data.toList=(D.data.toList,q))(hk:(decide (x.data.toList=scriptN) || decide (x.data.toList=styleN))=false)(hn:n<=s.size)(hx:low x.data.toList=x.data.toList)(hxs:x.size<=20000)(hs:s.size<=20000):Hid (∀ W B m R H T F v0 F0,RS W B m R s n H T F v0 F0->F.length<=200000->H.length<=500000->Calls Tryz.prog 160 #[.pointer (some ⟨R,0,none⟩),.string x] W fun e w'=>e=.returned (.tuple #[])/\RS w' B m R s (n+endM x.data.toList (s.data.toList.drop n)) (H++D.data.toList) T (F++failM n q) v0 F0/\Below B W w'):=Lib.hid fun w B m R H T F v0 F0 hr hF hH=>by
 have hle:=endM_le x.data.toList (s.data.toList.drop n);rw[List.length_drop,lsize]at hle;obtain⟨i,hi⟩:∃ i,endM x.data.toList (s.data.toList.drop n)=i:=⟨_,rfl⟩
 have CE:=endTag_hid s x n (.tuple #[.int .i64 ((n+i:Nat):Int),.bool true]) (by
  unfold endV
  rw[lsize,if_pos hc,hi]) hn hx (by omega) (by omega)
 rw[hi]at hc hV hle ⊢;have CT:=take_hid R s V n i hV (by omega) (by omega);have CK:=isCode_hid x false hk;have hVs:V.size=i:=by rw[<- lsize,hV,List.length_take,List.length_drop,lsize];omega
 have CD:=decoded_hid V D q n h (by omega) (by omega)
 have hDs:D.size<=20000:=by
  have:=(decT_len 0 V.data.toList).1;rw[h,lsize,lsize]at this;omega
 have hql:q.length<=20000:=by
  have:=(decT_len 0 V.data.toList).2;rw[h,lsize]at this;simp only at this;omega
 have CH:=hold_hid D;have CF:=fail_hid 140 n;obtain⟨p,bv,tv,fv,hx0⟩:=hr;have hbw:=hx0.bw;have d0:=hx0.x.c0;have d1:=hx0.x.c1;have HX:=Lib.hid hx0;have z1:(n:Int)+(i:Int) - (n:Int)=(i:Int):=by omega
 have z2:(s.size:Int) - (n:Int)=((s.size - n:Nat):Int):=by omega
 have z3:(s.size:Int)<=20000:=by omega
 have z4:(n:Int)<=20000:=by omega
 have z5:(i:Int)<=20000:=by omega
 clear hc hV hi hk hx hx0 h
 go_enter Tryz.func160,Tryz.ntmps160
 go_wp2_with fail
 (with_reducible refine(CE.out _).mono ?_)
 rintro e w1 ⟨rfl,b1⟩;have HX1:=Lib.hid (HX.out.below b1);have B1:Below B w w1:=b1.mono hbw;have d0:=HX1.out.x.c0;clear b1 HX
 go_wp2_with fail
 (with_reducible refine(CT.out _ _ _ _ _ HX1.out.x).mono ?_)
 rintro e w2 ⟨rfl,x2,k2⟩;have HX2:=Lib.hid (HX1.out.moved x2 k2).form;have B2:=B1.trans (HX1.out.form.onb k2);clear x2 k2 B1 HX1 d0
 go_wp2_with fail
 (with_reducible refine(CK.out _).mono ?_)
 rintro e w2 ⟨rfl,rfl⟩
 go_wp2_with fail
 (with_reducible refine(CD.out _ _ _ _ _ _ _ _ _ _ _ HX2.out (by omega)).mono ?_)
 rintro e w3 ⟨rfl,h3,k3⟩;have HX3:=Lib.hid h3;have B3:=B2.trans (HX2.out.frb k3);clear h3 k3 B2 HX2
 go_wp2_with fail
 (with_reducible refine(CH.out _ _ _ _ _ _ _ _ _ _ _ HX3.out (by omega)).mono ?_)
 rintro e w4 ⟨rfl,h4,k4⟩;have HX4:=Lib.hid h4;have B4:=B3.trans (HX3.out.wrb k4);clear h4 k4 B3 HX3
 go_wp2
 go_end0
 exact⟨rfl,HX4.out,B4⟩
theorem raw_open_code (s x V:ByteArray)(n:Nat)(hc:¬ endM x.data.toList (s.data.toList.drop n)<s.size - n)(hV:V.data.toList=(s.data.toList.drop n).take (endM x.data.toList (s.data.toList.drop n)))(hk:(decide (x.data.toList=scriptN) || decide (x.data.toList=styleN))=true)(hn:n<=s.size)(hx:low x.data.toList=x.data.toList)(hxs:x.size<=20000)(hs:s.size<=20000):Hid (∀ W B m R H T F v0 F0,RS W B m R s n H T F v0 F0->F.length<=200000->H.length<=500000->Calls Tryz.prog 160 #[.pointer (some ⟨R,0,none⟩),.string x] W fun e w'=>e=.returned (.tuple #[])/\RS w' B m R s (n+endM x.data.toList (s.data.toList.drop n)) (H++V.data.toList) T (F++[((140:Int),n)]) v0 F0/\Below B W w'):=Lib.hid fun w B m R H T F v0 F0 hr hF hH=>by
 have hle:=endM_le x.data.toList (s.data.toList.drop n);rw[List.length_drop,lsize]at hle;obtain⟨i,hi⟩:∃ i,endM x.data.toList (s.data.toList.drop n)=i:=⟨_,rfl⟩
 have CE:=endTag_hid s x n (.tuple #[.int .i64 0,.bool false]) (by
  unfold endV
  rw[lsize,if_neg hc]) hn hx (by omega) (by omega)
 rw[hi]at hc hV hle ⊢;have CT:=take_hid R s V n i hV (by omega) (by omega);have CK:=isCode_hid x true hk;have hVs:V.size=i:=by rw[<- lsize,hV,List.length_take,List.length_drop,lsize];omega
 have CH:=hold_hid V;have CF:=fail_hid 140 n;obtain⟨p,bv,tv,fv,hx0⟩:=hr;have hbw:=hx0.bw;have d0:=hx0.x.c0;have d1:=hx0.x.c1;have HX:=Lib.hid hx0;have z1:(n:Int)+(i:Int) - (n:Int)=(i:Int):=by omega
 have z2:(s.size:Int) - (n:Int)=((s.size - n:Nat):Int):=by omega
 have z3:(s.size:Int)<=20000:=by omega
 have z4:(n:Int)<=20000:=by omega
 have z5:(i:Int)<=20000:=by omega
 have hin:i=s.size - n:=by omega
 rw[<- hin]at z2;clear hin;clear hc hV hi hk hx hx0
 go_enter Tryz.func160,Tryz.ntmps160
 go_wp2_with fail
 (with_reducible refine(CE.out _).mono ?_)
 rintro e w1 ⟨rfl,b1⟩;have HX1:=Lib.hid (HX.out.below b1);have B1:Below B w w1:=b1.mono hbw;have d0:=HX1.out.x.c0;clear b1 HX
 go_wp2_with fail
 (with_reducible refine(CT.out _ _ _ _ _ HX1.out.x).mono ?_)
 rintro e w2 ⟨rfl,x2,k2⟩;have HX2:=Lib.hid (HX1.out.moved x2 k2).form;have B2:=B1.trans (HX1.out.form.onb k2);clear x2 k2 B1 HX1 d0
 go_wp2_with fail
 (with_reducible refine(CK.out _).mono ?_)
 rintro e w2 ⟨rfl,rfl⟩
 go_wp2_with fail
 (with_reducible refine(CH.out _ _ _ _ _ _ _ _ _ _ _ HX2.out (by omega)).mono ?_)
 rintro e w4 ⟨rfl,h4,k4⟩;have HX4:=Lib.hid h4;have B4:=B2.trans (HX2.out.wrb k4);clear h4 k4 B2 HX2
 go_wp2_with fail
 (with_reducible refine(CF.out _ _ _ _ _ _ _ _ _ _ _ HX4.out (by omega)).mono ?_)
 rintro e w5 ⟨rfl,h5,k5⟩;have HX5:=Lib.hid h5;have B5:=B4.trans (HX4.out.frb k5);clear h5 k5 B4 HX4
 go_wp2
 go_end0
 exact⟨rfl,HX5.out,B5⟩
theorem raw_open_soft (s x V D:ByteArray)(n:Nat)(q:List Nat)(hc:¬ endM x.data.toList (s.data.toList.drop n)<s.size - n)(hV:V.data.toList=(s.data.toList.drop n).take (endM x.data.toList (s.data.toList.drop n)))(h:decT 0 V.data.toList=(D.data.toList,q))(hk:(decide (x.data.toList=scriptN) || decide (x.data.toList=styleN))=false)(hn:n<=s.size)(hx:low x.data.toList=x.data.toList)(hxs:x.size<=20000)(hs:s.size<=20000):Hid (∀ W B m R H T F v0 F0,RS W B m R s n H T F v0 F0->F.length<=200000->H.length<=500000->Calls Tryz.prog 160 #[.pointer (some ⟨R,0,none⟩),.string x] W fun e w'=>e=.returned (.tuple #[])/\RS w' B m R s (n+endM x.data.toList (s.data.toList.drop n)) (H++D.data.toList) T ((F++failM n q)++[((140:Int),n)]) v0 F0/\Below B W w'):=Lib.hid fun w B m R H T F v0 F0 hr hF hH=>by
 have hle:=endM_le x.data.toList (s.data.toList.drop n);rw[List.length_drop,lsize]at hle;obtain⟨i,hi⟩:∃ i,endM x.data.toList (s.data.toList.drop n)=i:=⟨_,rfl⟩
 have CE:=endTag_hid s x n (.tuple #[.int .i64 0,.bool false]) (by
  unfold endV
  rw[lsize,if_neg hc]) hn hx (by omega) (by omega)
 rw[hi]at hc hV hle ⊢;have CT:=take_hid R s V n i hV (by omega) (by omega);have CK:=isCode_hid x false hk;have hVs:V.size=i:=by rw[<- lsize,hV,List.length_take,List.length_drop,lsize];omega
 have CD:=decoded_hid V D q n h (by omega) (by omega)
 have hDs:D.size<=20000:=by
  have:=(decT_len 0 V.data.toList).1;rw[h,lsize,lsize]at this;omega
 have hql:q.length<=20000:=by
  have:=(decT_len 0 V.data.toList).2;rw[h,lsize]at this;simp only at this;omega
 have CH:=hold_hid D;have CF:=fail_hid 140 n;obtain⟨p,bv,tv,fv,hx0⟩:=hr;have hbw:=hx0.bw;have d0:=hx0.x.c0;have d1:=hx0.x.c1;have HX:=Lib.hid hx0;have z1:(n:Int)+(i:Int) - (n:Int)=(i:Int):=by omega
 have z2:(s.size:Int) - (n:Int)=((s.size - n:Nat):Int):=by omega
 have z3:(s.size:Int)<=20000:=by omega
 have z4:(n:Int)<=20000:=by omega
 have z5:(i:Int)<=20000:=by omega
 have hin:i=s.size - n:=by omega
 rw[<- hin]at z2;clear hin;clear hc hV hi hk hx hx0 h
 go_enter Tryz.func160,Tryz.ntmps160
 go_wp2_with fail
 (with_reducible refine(CE.out _).mono ?_)
 rintro e w1 ⟨rfl,b1⟩;have HX1:=Lib.hid (HX.out.below b1);have B1:Below B w w1:=b1.mono hbw;have d0:=HX1.out.x.c0;clear b1 HX
 go_wp2_with fail
 (with_reducible refine(CT.out _ _ _ _ _ HX1.out.x).mono ?_)
 rintro e w2 ⟨rfl,x2,k2⟩;have HX2:=Lib.hid (HX1.out.moved x2 k2).form;have B2:=B1.trans (HX1.out.form.onb k2);clear x2 k2 B1 HX1 d0
 go_wp2_with fail
 (with_reducible refine(CK.out _).mono ?_)
 rintro e w2 ⟨rfl,rfl⟩
 go_wp2_with fail
 (with_reducible refine(CD.out _ _ _ _ _ _ _ _ _ _ _ HX2.out (by omega)).mono ?_)
 rintro e w3 ⟨rfl,h3,k3⟩;have HX3:=Lib.hid h3;have B3:=B2.trans (HX2.out.frb k3);clear h3 k3 B2 HX2
 go_wp2_with fail
 (with_reducible refine(CH.out _ _ _ _ _ _ _ _ _ _ _ HX3.out (by omega)).mono ?_)
 rintro e w4 ⟨rfl,h4,k4⟩;have HX4:=Lib.hid h4;have B4:=B3.trans (HX3.out.wrb k4);clear h4 k4 B3 HX3
 go_wp2_with fail
 (with_reducible refine(CF.out _ _ _ _ _ _ _ _ _ _ _ HX4.out (by rw[List.length_append,failM,List.length_map];omega)).mono ?_)
 rintro e w5 ⟨rfl,h5,k5⟩;have HX5:=Lib.hid h5;have B5:=B4.trans (HX4.out.frb k5);clear h5 k5 B4 HX4
 go_wp2
 go_end0
 exact⟨rfl,HX5.out,B5⟩
end Go.Proofs.YtlnfbjbagmfpiaaGreatDoor
