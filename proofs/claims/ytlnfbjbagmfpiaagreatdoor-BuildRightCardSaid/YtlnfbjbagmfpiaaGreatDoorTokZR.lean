/- The program's Tokens. Plain mathematics of documents az tokens: how much one step tells. Rows of tokens and of attributes that are read. The program's Print: a start tag's text. The program's Print: tokens' text. -/
import Derived.Test.YtlnfbjbagmfpiaaGreatDoorTokQ
set_option maxRecDepth 100000
set_option maxHeartbeats 8000000
namespace Go.Proofs.YtlnfbjbagmfpiaaGreatDoor
open Go.RowKit
theorem getD_drop (s:List UInt8)(n k:Nat):(s.drop n)[k]? = s[n+k]? :=List.getElem?_drop
theorem read_hid (s:ByteArray)(n:Nat)(hn:n<s.size)(hs:s.size<=20000):Hid (∀ W B m R H T F,RS W B m R s n H T F (.slice none 0 0) []->H.length<=n->T.length<=n->F.length<=3 * n->NoText T->Calls Tryz.prog 103 #[.pointer (some ⟨R,0,none⟩)] W (RoundP B R s n H T F W)):=by
 obtain⟨l,hl⟩:∃ l,s.data.toList.drop n=l:=⟨_,rfl⟩;have g1:s.data.toList[n+1]? = l[1]? :=by rw[<- hl,getD_drop]
 have g2:s.data.toList[n+2]? = l[2]? :=by rw[<- hl,getD_drop]
 have p1:beginsM [60] l=decide (l[0]? = some 60):=begins_first (by decide) (by decide) l;have p2:∀ z:UInt8,z.toNat<97->lowB z=z->beginsM [60,z] l=(decide (l[0]? = some 60)&&decide (l[1]? = some z)):=fun z h1 h2=>begins_pair (by decide) (by decide) h1 h2 l;have p47:=p2 47 (by decide) (by decide);have p33:=p2 33 (by decide) (by decide);have p63:=p2 63 (by decide) (by decide)
 by_cases h60:l.head? = some 60
 · have h0:l[0]? = some 60:=by rw[<- head_get];exact h60
   rw[h0]at p1 p47 p33 p63;simp only[decide_true,Bool.true_and]at p1 p47 p33 p63;have hsg:=signS_is n l
   by_cases e1:(l[1]?).any letB=true
   · have h47:¬ l[1]? = some 47:=fun e=>by rw[e]at e1;exact absurd e1 (by decide)
     rw[if_pos e1]at hsg
     have hlt:n+1<s.size:=by
      rw[<- g1]at e1
      cases hc:s.data.toList[n+1]? with
      | none=>rw[hc]at e1;cases e1
      | some c=>exact get_some hc
     exact leaf_start s n (by rw[hl,p47,decide_eq_false h47];rfl) (by rw[hl,p1,g1,e1];rfl) (by rw[hl];exact h60) (by rw[hl];exact hsg) hlt hn hs
   · rw[if_neg e1]at hsg
     have e1f:(l[1]?).any letB=false:=Bool.eq_false_iff.2 e1
     by_cases e2:l[1]? = some 47/\(l[2]?).any letB=true
     · rw[if_pos e2]at hsg
       have hlt:n+2<s.size:=by
        have e3:=e2.2;rw[<- g2]at e3
        cases hc:s.data.toList[n+2]? with
        | none=>rw[hc]at e3;cases e3
        | some c=>exact get_some hc
       exact leaf_end s n (by rw[hl,p47,decide_eq_true e2.1,g2,e2.2];rfl) (by rw[hl];exact h60) (by rw[hl];exact hsg) hlt hn hs
     · rw[if_neg e2]at hsg
       have t0:(beginsM [60,47] l&&(s.data.toList[n+2]?).any letB)=false:=by
        rw[p47,g2]
        cases h:decide (l[1]? = some 47)with
        | false=>rfl
        | true=>rw[Bool.true_and];exact Bool.eq_false_iff.2 fun h2=>e2 ⟨of_decide_eq_true h,h2⟩
       have t1:(beginsM [60] l&&(s.data.toList[n+1]?).any letB)=false:=by rw[g1,e1f,Bool.and_false]
       have two:∀ z,l[1]? = some z->n+2<=s.size:=fun z h=>by
        rw[<- g1]at h;have:=get_some h;omega
       by_cases e3:beginsM [60,33,45,45] l=true
       · rw[if_pos e3]at hsg
         have hlen:=begins_len e3;rw[<- hl,List.length_drop,lsize]at hlen;simp only[List.length_cons,List.length_nil]at hlen
         cases hf:findT [45,45,62] (s.data.toList.drop (n+4))with
         | some i=>exact leaf_note_yes s n (by rw[hl];exact t0) (by rw[hl];exact t1) (by rw[hl];exact e3) i (by rw[hl];exact h60) (by rw[hl];exact hsg) hf (by omega) hn hs
         | none=>exact leaf_note_no s n (by rw[hl];exact t0) (by rw[hl];exact t1) (by rw[hl];exact e3) (by rw[hl];exact h60) (by rw[hl];exact hsg) hf (by omega) hn hs
       · rw[if_neg e3]at hsg
         have e3f:=Bool.eq_false_iff.2 e3
         by_cases e4:beginsM [60,33,100,111,99,116,121,112,101] l=true
         · rw[if_pos e4]at hsg
           have hlen:=begins_len e4;rw[<- hl,List.length_drop,lsize]at hlen;simp only[List.length_cons,List.length_nil]at hlen
           cases hf:findT [62] (s.data.toList.drop (n+9))with
           | some i=>exact leaf_doc_yes s n (by rw[hl];exact t0) (by rw[hl];exact t1) (by rw[hl];exact e3f) (by rw[hl];exact e4) i (by rw[hl];exact h60) (by rw[hl];exact hsg) hf (by omega) hn hs
           | none=>exact leaf_doc_no s n (by rw[hl];exact t0) (by rw[hl];exact t1) (by rw[hl];exact e3f) (by rw[hl];exact e4) (by rw[hl];exact h60) (by rw[hl];exact hsg) hf (by omega) hn hs
         · rw[if_neg e4]at hsg
           have e4f:=Bool.eq_false_iff.2 e4
           by_cases e5:l[1]? = some 33
           · rw[if_pos (.inl e5)]at hsg
             have t4:beginsM [60,33] l=true:=by rw[p33,decide_eq_true e5]
             cases hf:findT [62] (s.data.toList.drop (n+2))with
             | some i=>exact leaf_sign4_yes s n (by rw[hl];exact t0) (by rw[hl];exact t1) (by rw[hl];exact e3f) (by rw[hl];exact e4f) (by rw[hl];exact t4) i (by rw[hl];exact h60) (by rw[hl];exact hsg) hf (two _ e5) hn hs
             | none=>exact leaf_sign4_no s n (by rw[hl];exact t0) (by rw[hl];exact t1) (by rw[hl];exact e3f) (by rw[hl];exact e4f) (by rw[hl];exact t4) (by rw[hl];exact h60) (by rw[hl];exact hsg) hf (two _ e5) hn hs
           · have t4:beginsM [60,33] l=false:=by rw[p33,decide_eq_false e5]
             by_cases e6:l[1]? = some 63
             · rw[if_pos (.inr (.inl e6))]at hsg
               have t5:beginsM [60,63] l=true:=by rw[p63,decide_eq_true e6]
               cases hf:findT [62] (s.data.toList.drop (n+2))with
               | some i=>exact leaf_sign5_yes s n (by rw[hl];exact t0) (by rw[hl];exact t1) (by rw[hl];exact e3f) (by rw[hl];exact e4f) (by rw[hl];exact t4) (by rw[hl];exact t5) i (by rw[hl];exact h60) (by rw[hl];exact hsg) hf (two _ e6) hn hs
               | none=>exact leaf_sign5_no s n (by rw[hl];exact t0) (by rw[hl];exact t1) (by rw[hl];exact e3f) (by rw[hl];exact e4f) (by rw[hl];exact t4) (by rw[hl];exact t5) (by rw[hl];exact h60) (by rw[hl];exact hsg) hf (two _ e6) hn hs
             · have t5:beginsM [60,63] l=false:=by rw[p63,decide_eq_false e6]
               by_cases e7:l[1]? = some 47
               · rw[if_pos (.inr (.inr e7))]at hsg
                 have t6:beginsM [60,47] l=true:=by rw[p47,decide_eq_true e7]
                 cases hf:findT [62] (s.data.toList.drop (n+2))with
                 | some i=>exact leaf_sign6_yes s n (by rw[hl];exact t0) (by rw[hl];exact t1) (by rw[hl];exact e3f) (by rw[hl];exact e4f) (by rw[hl];exact t4) (by rw[hl];exact t5) (by rw[hl];exact t6) i (by rw[hl];exact h60) (by rw[hl];exact hsg) hf (two _ e7) hn hs
                 | none=>exact leaf_sign6_no s n (by rw[hl];exact t0) (by rw[hl];exact t1) (by rw[hl];exact e3f) (by rw[hl];exact e4f) (by rw[hl];exact t4) (by rw[hl];exact t5) (by rw[hl];exact t6) (by rw[hl];exact h60) (by rw[hl];exact hsg) hf (two _ e7) hn hs
               · rw[if_neg (by rintro(h | h | h);exact e5 h;exact e6 h;exact e7 h)]at hsg
                 have t6:beginsM [60,47] l=false:=by rw[p47,decide_eq_false e7]
                 exact leaf_open s n (by rw[hl];exact t0) (by rw[hl];exact t1) (by rw[hl];exact e3f) (by rw[hl];exact e4f) (by rw[hl];exact t4) (by rw[hl];exact t5) (by rw[hl];exact t6) (by rw[hl];exact p1) (by rw[hl];exact h60) (by rw[hl];exact hsg) hn hs
 · have no:∀ z,beginsM (60 :: z) l=false:=fun z=>begins_no h60
   exact leaf_text s n (by rw[hl,no];rfl) (by rw[hl,no];rfl) (by rw[hl,no]) (by rw[hl,no]) (by rw[hl,no]) (by rw[hl,no]) (by rw[hl,no]) (by rw[hl,no]) (by rw[hl];exact h60) hn hs
def TokP (s:List UInt8)(W:World)(e:Ending)(w':World):Prop :=
 ∃(tv fv:Value) (m:Nat),e=.returned (.tuple #[tv,fv,.int .i64 0])/\OwnT w' W.heap.size m tv (readM s).1/\w'.ownsRow W.heap.size 93 2 fv (readM s).2.length (flC (readM s).2)/\Below W.heap.size W w'
theorem tokens_any (s:ByteArray)(hs:s.size<=20000)(w:World)(hlow:Low w):Calls Tryz.prog 68 #[.string s] w (TokP s.data.toList w):=by
 have z1:(s.size:Int)<=20000:=by omega
 have hal:=(Below.refl w.heap.size w).alloc (Nat.le_refl _) (.cells #[.string s,.int .i64 0,.pointer none,.slice none 0 0,.slice none 0 0,.slice none 0 0] 147)
 have hv:RV (w.alloc (.cells #[.string s,.int .i64 0,.pointer none,.slice none 0 0,.slice none 0 0,.slice none 0 0] 147)) w.heap.size (w.heap.size+1) w.heap.size s 0 [] [] [] (.slice none 0 0) [] (.pointer none) (.slice none 0 0) (.slice none 0 0) (.slice none 0 0) :=
  ⟨new_block w _,.inl rfl,World.ownsRow_nil _ _ _ _,fun _=>rfl,OwnT.nil _ _ _,World.ownsRow_nil _ _ _ _,World.ownsRow_nil _ _ _ _,fun _=>Nat.le_refl _,Nat.le_refl _,Nat.lt_succ_self _,by simp,hlow.lowB.on hal⟩
 have HV:=Lib.hid (And.intro hv.form hal);have CA:=fun n=>atEnd_hid w.heap.size s n;clear hv hal hlow
 go_enter Tryz.func68,Tryz.ntmps68
 go_wp2
 generalize w.alloc (.cells #[.string s,.int .i64 0,.pointer none,.slice none 0 0,.slice none 0 0,.slice none 0 0] 147)=w0 at HV ⊢;generalize hR:w.heap.size=R at HV CA ⊢;have HR:=Lib.hid hR;clear hR
 go_loopw [] (fun wr=>∃(n:Nat) (H:List UInt8) (T:List Tk) (F:List Fl) (m:Nat),n<=s.size/\H.length<=n/\T.length<=n/\F.length<=3 * n/\Hid (RS wr R m R s n H T F (.slice none 0 0) []/\NoText T/\Below R w wr/\∃ f,s.data.toList.length - n<f/\readM s.data.toList=readF f [] n (s.data.toList.drop n) (T++txtH H) F)) (fun wr=>s.size - posOf R wr)
 case atStart=>exact⟨0,[],[],[],R+1,Nat.zero_le _,Nat.le_refl _,Nat.le_refl _,Nat.le_refl _,Lib.hid ⟨HV.out.1,noText_nil,by rw[<- HR.out];rw[<- HR.out]at HV;exact HV.out.2,s.data.toList.length+2,by omega,rfl⟩⟩
 case round =>
  clear HV;obtain⟨n,H,T,F,m,hn,hH,hT,hF,HX⟩:=hrel;have hpos:=Lib.hid HX.out.1.pos;obtain⟨p,bv,tv,fv,hx⟩:=HX.out.1;have HV:=Lib.hid hx;clear hx
  by_cases hend:n=s.size
  · have C:=CA n true (decide_eq_true hend)
    have HRM:Hid (readM s.data.toList=(T++txtH H,F)):=Lib.hid (by
     obtain⟨_,_,_,f,hf,he⟩:=HX.out;rw[he,hend,show s.data.toList.drop s.size=[] by rw[<- lsize];simp]
     cases f with
     | zero=>rfl
     | succ f=>unfold readF;rw[if_pos ⟨rfl,rfl⟩])
    have HB:=Lib.hid HX.out.2.2.1;have hbw:R<=w.heap.size:=by rw[HR.out];exact Nat.le_refl _
    have hb0:=HV.out.bw;clear HX
    go_wp2_with fail
    (with_reducible refine(C.out _ _ _ _ _ HV.out.x).mono ?_)
    rintro e w1 ⟨rfl,b1⟩;have HV1:=Lib.hid (HV.out.below b1);have B1:=HB.out.trans (b1.mono hb0);clear b1 HV HB;have CT:=Lib.hid (tellText_rv w1 R m R s n H T F (.slice none 0 0) [] p bv tv fv HV1.out (by omega))
    go_wp2_with fail
    refine CT.out.mono ?_;rintro e w2 ⟨rfl,p2,tv2,h2,-,k2⟩;have B2:=B1.trans (HV1.out.frTb k2);have d4:=h2.x.c4;have d5:=h2.x.c5;have HE:Hid (OwnT w2 R w2.heap.size tv2 (T++txtH H)/\w2.ownsRow R 93 2 fv F.length (flC F)/\Below R w w2):=Lib.hid ⟨h2.ht,h2.hf,B2⟩;obtain⟨ta,tc,rfl⟩:=h2.ht.form
    obtain⟨fa,fc,rfl⟩:∃ a c,fv=.slice a F.length c:=by
     rcases rowForms h2.hf with ⟨e1,e2⟩ | ⟨g,c,e1⟩
     · exact⟨none,0,by rw[e1,e2]⟩
     · exact⟨_,_,e1⟩
    clear h2 k2 B2 B1 HV1 CT;obtain⟨T2,hT2⟩:∃ T2,T++txtH H=T2:=⟨_,rfl⟩;rw[hT2]at HE HRM d4;clear hT2
    go_wp2
    go_quiet (fail)
    go_wp2
    go_ret3
    obtain⟨h1,h2,h3⟩:=HE.out;refine⟨_,_,w2.heap.size,rfl,?_,?_,?_⟩
    · rw[HRM.out,HR.out];exact h1.kp (Kp.of_below (belowN (Below.refl _ _) _) (P:=fun _ _=>False)) (fun _ _ _ e=>e) fun _ _ _ e=>e
    · rw[HRM.out,HR.out];exact ownsRow_below h2 (belowN (Below.refl _ _) _)
    · rw[HR.out];exact belowN h3 _
  · have C:=CA n false (decide_eq_false hend)
    have CR:=read_hid s n (by omega) hs;have hb0:=HV.out.bw;have HB:=Lib.hid HX.out.2.2.1;have hNT:=HX.out.2.1
    go_wp2_with fail
    (with_reducible refine(C.out _ _ _ _ _ HV.out.x).mono ?_)
    rintro e w1 ⟨rfl,b1⟩;have h1:=HX.out.1.below b1;have B1:=HB.out.trans (b1.mono hb0);clear b1 HV HB
    go_wp2_with fail
    (with_reducible refine(CR.out _ _ _ _ _ _ _ h1 hH hT hF hNT).mono ?_)
    intro e w2 hr;obtain⟨rfl,b2,m',n',H',T',F',h',hrd,hlt,hn',hNT',hH',hT',hF'⟩:=hr
    have HN:Hid (RS w2 R m' R s n' H' T' F' (.slice none 0 0) []/\NoText T'/\Below R w w2/\∃ f,s.data.toList.length - n'<f/\readM s.data.toList=readF f [] n' (s.data.toList.drop n') (T'++txtH H') F'):=Lib.hid ⟨h',hNT',B1.trans b2,by
     obtain⟨_,_,_,f,hf,he⟩:=HX.out;obtain⟨f',hf',he'⟩:=hrd f hf
     exact⟨f',hf',he.trans he'⟩⟩
    clear h' hNT' B1 b2 hrd HX hNT h1 C CR
    go_wp2
    go_roundw
    case rel=>exact⟨n',H',T',F',m',hn',hH',hT',hF',HN⟩
    case measure =>
     rw[HN.out.1.pos,hpos.out];omega
end Go.Proofs.YtlnfbjbagmfpiaaGreatDoor
namespace Go.Proofs.YtlnfbjbagmfpiaaGreatDoor
open Go.RowKit
def wA (az:List (List UInt8 × List UInt8)):Nat:=(az.map fun y=>y.1.length+y.2.length+5).sum
def wT (t:Tk):Nat:=t.n.length+t.d.length+wA t.a+16
def wL (L:List Tk):Nat:=(L.map wT).sum
theorem wA_snoc (az:List (List UInt8 × List UInt8))(x v:List UInt8):wA (az++[(x,v)])=wA az+(x.length+v.length+5):=by simp[wA]
theorem wL_len:∀ L:List Tk,L.length<=wL L
 | []=>Nat.le_refl _
 | t :: L=>by
   have:=wL_len L;simp only[wL,List.map_cons,List.sum_cons,List.length_cons]at this ⊢;have h1:16<=wT t:=Nat.le_add_left _ _;omega
theorem take_bound (st:Bool)(az:List (List UInt8 × List UInt8))(n:Nat)(x v:List UInt8):wA (takeM st az n x v).1<=wA az+(x.length+v.length+5)/\(takeM st az n x v).2.length<=1:=by
 unfold takeM;split
 · split
   · exact⟨Nat.le_add_right _ _,Nat.le_refl _⟩
   · split
     · exact⟨Nat.le_add_right _ _,Nat.le_refl _⟩
     · exact⟨by rw[wA_snoc];exact Nat.le_refl _,Nat.zero_le _⟩
 · exact⟨Nat.le_add_right _ _,Nat.zero_le _⟩
structure StepB (x:List UInt8) (l:List UInt8) (S:Step):Prop where
 le:S.k<=l.length
 one:x=[]->1<=S.k
 raw:S.r≠[]->x=[]/\2<=S.k/\rawM S.r=true
 fails:S.f.length<=2 * S.k+1
 weight:∀ t,S.t=some t->wT t<=22 * S.k+16
 text:x=[]->(∀ t,S.t=some t->wT t<=22 * S.k)/\S.f.length<=2 * S.k
end Go.Proofs.YtlnfbjbagmfpiaaGreatDoor
namespace Go.Proofs.YtlnfbjbagmfpiaaGreatDoor
open Go.RowKit
section
variable {w w':World} {u:Value} {m size:Nat} {cs:List Value}
end
def TkCs (w:World):List Tk->List Value->Prop
 | [],cs=>cs=[]
 | t :: T,cs=>∃ av r,cs=tkC t av++r/\AtIn w av t.a/\TkCs w T r
theorem TkCs.below {w w':World}(hb:Below w.heap.size w w'):∀ {T:List Tk} {cs:List Value},TkCs w T cs->TkCs w' T cs
 | [],_,h=>h
 | _ :: _,_,⟨av,r,h1,h2,h3⟩=>⟨av,r,h1,h2.below hb,h3.below hb⟩
theorem TkCs.of {w:World}{B m:Nat}:∀ {T:List Tk} {cs:List Value},TRow w B m T cs->TkCs w T cs
 | [],_,h=>h
 | _ :: _,_,⟨av,r,h1,h2,h3⟩=>⟨av,r,h1,.of h2,TkCs.of h3⟩
theorem TkCs.len {w:World}:∀ {T:List Tk} {cs:List Value},TkCs w T cs->cs.length=T.length * 5
 | [],_,h=>by rw[show _=[]from h];rfl
 | _ :: T,_,⟨av,r,h1,h2,h3⟩=>by
   have:=TkCs.len h3;rw[h1,List.length_append,List.length_cons,this];show 5+_=_;omega
theorem TkCs.one {w:World}:∀ {T:List Tk} {cs:List Value},TkCs w T cs->∀ v∈cs,v.oneCell'=true
 | [],_,h,v,hv=>by rw[show _=[]from h]at hv;cases hv
 | t :: T,_,⟨av,r,h1,h2,h3⟩,v,hv=>by
   rw[h1,List.mem_append]at hv;rcases hv with hv | hv
   · obtain⟨a,c,rfl⟩:=h2.form
     unfold tkC at hv;simp at hv;rcases hv with rfl | rfl | rfl | rfl | rfl<;>rfl
   · exact TkCs.one h3 v hv
theorem TkCs.at {w:World}:∀ {T:List Tk} {cs:List Value},TkCs w T cs->∀(i:Nat) (h:i<T.length),∃ av,(∀ j v,(tkC T[i] av)[j]? = some v->cs[i * 5+j]? = some v)/\AtIn w av T[i].a
 | t :: T,_,⟨av,r,h1,h2,h3⟩,0,_=>⟨av,fun j v hj=>by
   have hj':(tkC t av)[j]? = some v:=hj;rw[h1,Nat.zero_mul,Nat.zero_add,List.getElem?_append_left (List.getElem?_eq_some_iff.1 hj').1]
   exact hj',h2⟩
 | t :: T,_,⟨av,r,h1,h2,h3⟩,i+1,h=>by
   obtain⟨av',k1,k2⟩:=TkCs.at h3 i (by simpa using h);refine⟨av',fun j v hj => ?_,k2⟩;have h5:(tkC t av).length=5:=rfl;rw[h1,List.getElem?_append_right (by omega),h5,show(i+1) * 5+j - 5=i * 5+j by omega];exact k1 j v hj
def TokIn (w:World)(v:Value)(L:List Tk):Prop:=∃ cs,RowIn w v L.length 5 cs/\TkCs w L cs
section
variable {w w':World} {v:Value} {L:List Tk}
theorem TokIn.below (h:TokIn w v L)(hb:Below w.heap.size w w'):TokIn w' v L:=by
 obtain⟨cs,h1,h2⟩:=h;exact⟨cs,h1.below hb,h2.below hb⟩
theorem TokIn.form (h:TokIn w v L):∃ a c,v=.slice a L.length c:=by
 obtain⟨cs,h1,h2⟩:=h;exact h1.form
theorem TokIn.of {B m:Nat}(h:OwnT w B m v L):TokIn w v L:=by
 obtain⟨cs,h1,h2,h3⟩:=h;exact⟨cs,RowIn.of_own h1 (TkCs.one (.of h3)),.of h3⟩
theorem TokIn.nil (w:World)(a:Option Addr)(c:Nat):TokIn w (.slice a 0 c) []:=⟨[],⟨rfl,(fun _ h=>by cases h),.inl ⟨⟨a,c,rfl⟩,rfl⟩⟩,rfl⟩
theorem TokIn.at {a:Option Addr}{c:Nat}(h:TokIn w (.slice a L.length c) L){k:Nat}(hk:k<L.length):∃ B off av,a=some ⟨B,off,none⟩/\w.cell? ⟨B,off+k * 5,none⟩=some (.int .i64 L[k].k)/\w.cell? ⟨B,off+k * 5+1,none⟩=some (strV L[k].n)/\w.cell? ⟨B,off+k * 5+2,none⟩=some (strV L[k].d)/\w.cell? ⟨B,off+k * 5+3,none⟩=some av/\w.cell? ⟨B,off+k * 5+4,none⟩=some (.bool L[k].c)/\AtIn w av L[k].a:=by
 obtain⟨cs,h1,h2⟩:=h;obtain⟨av,k1,k2⟩:=h2.at k hk;rcases h1.2.2 with ⟨_,e⟩ | ⟨B,off,cap,e1,e2⟩
 · omega
 · cases e1
   exact⟨B,off,av,rfl,e2 _ _ (k1 0 _ rfl),by rw[Nat.add_assoc];exact e2 _ _ (k1 1 _ rfl),by rw[Nat.add_assoc];exact e2 _ _ (k1 2 _ rfl),by rw[Nat.add_assoc];exact e2 _ _ (k1 3 _ rfl),by rw[Nat.add_assoc];exact e2 _ _ (k1 4 _ rfl),k2⟩
end
theorem encT_len6 (l:List UInt8):(encT l).length<=6 * l.length:=(encT_len l).2
theorem attrT_len (y:List UInt8 × List UInt8):(attrT y).length<=6 * (y.1.length+y.2.length+5):=by
 have:=encT_len6 y.2;unfold attrT;simp only[List.length_append,List.length_cons,List.length_nil];omega
theorem attrs_lenT:∀ A:List (List UInt8 × List UInt8),(A.flatMap attrT).length<=6 * wA A
 | []=>Nat.zero_le _
 | y :: A=>by
   have h1:=attrs_lenT A;have h2:=attrT_len y;simp only[List.flatMap_cons,List.length_append,wA,List.map_cons,List.sum_cons]at h1 ⊢;omega
theorem printT_len (hard:Bool)(t:Tk):(printT hard t).length<=6 * wT t:=by
 have h1:=encT_len6 t.d;have h2:=attrs_lenT t.a;unfold printT wT startT;split
 · split<;>omega
 · split
   · cases t.c<;>simp only[List.length_append,List.length_cons,List.length_nil,if_true,Bool.false_eq_true,if_false]<;>omega
   · split
     · simp only[List.length_append,List.length_cons,List.length_nil];omega
     · split
       · simp only[List.length_append,List.length_cons,List.length_nil];omega
       · split
         · simp only[List.length_append,List.length_cons,List.length_nil];omega
         · exact Nat.zero_le _
theorem printF_len:∀(b:Option Tk) (L:List Tk),(printF b L).length<=6 * wL L
 | _,[]=>Nat.zero_le _
 | b,t :: L=>by
   have h1:=printF_len (some t) L;have h2:=printT_len (hardM b) t;unfold printF;simp only[List.length_append,wL,List.map_cons,List.sum_cons]at h1 ⊢;omega
def BO (w:World)(B R:Nat)(H:List UInt8):Prop:=(∃ p bv,BD w B R 0 H #[p,bv] 100 p bv)/\B<=R
theorem liesO:liesAt Tryz.prog Tryz.prog.depth 100 (2 / Tryz.prog.cellsOf 100) 0 100 1=true:=by kernel_rfl
theorem BO.new (w:World):BO (w.alloc (.cells #[.pointer none,.slice none 0 0] 100)) w.heap.size w.heap.size []:=⟨⟨.pointer none,.slice none 0 0,new_block w _,rfl,rfl,.inl rfl,World.ownsRow_nil _ _ _ _,fun _=>rfl⟩,Nat.le_refl _⟩
theorem BO.low {w:World}{B B' R:Nat}{H:List UInt8}(h:BO w B R H)(hB:B'<=B):BO w B' R H:=by
 obtain⟨⟨p,bv,h⟩,hR⟩:=h;exact⟨⟨p,bv,h.blk,h.c0,h.c1,h.own,ownsRow_low h.row hB,h.nil⟩,Nat.le_trans hB hR⟩
theorem BO.below {w w':World}{B R:Nat}{H:List UInt8}(h:BO w B R H)(hb:Below w.heap.size w w'):BO w' B R H:=by
 obtain⟨⟨p,bv,h⟩,hR⟩:=h;exact⟨⟨p,bv,by rw[hb.block R (lt_of_block h.blk)];exact h.blk,h.c0,h.c1,h.own,ownsRow_below h.row hb,h.nil⟩,hR⟩
theorem writeO_hid (T:ByteArray):Hid (∀ W B R H,BO W B R H->B<=W.heap.size->H.length+T.size<=140737488355328->Calls Tryz.prog 66 #[.pointer (some ⟨R,0,none⟩),.string T] W fun e w'=>e=.returned (.tuple #[.int .i64 T.size,.nilIface])/\BO w' B R (H++T.data.toList)/\Kp (wrB B R) W w'):=Lib.hid fun W B R H h hB hl=>by
 obtain⟨⟨p,bv,h⟩,hR⟩:=h;refine(write_any B R 0 H _ _ p bv T W h hB (by decide) hl liesO).mono ?_;rintro e w' ⟨rfl,bv',bd,k⟩;exact⟨rfl,⟨⟨_,bv',bd⟩,hR⟩,k⟩
theorem stringO_hid:Hid (∀ W B R H,BO W B R H->Calls Tryz.prog 59 #[.pointer (some ⟨R,0,none⟩)] W fun e w'=>e=.returned (.string ⟨H.toArray⟩)/\Kp (fun k t'=>B<=k/\t'=5) W w'):=Lib.hid fun W B R H h=>by
 obtain⟨⟨p,bv,h⟩,hR⟩:=h;exact string_any B R 0 H _ _ p bv W h
theorem wrB_below {w w':World}{B R:Nat}(k:Kp (wrB B R) w w')(hR:B<=R)(hB:B<=w.heap.size):Below B w w':=k.below (fun j t e=>by
 rcases e with rfl | e
 · exact hR
 · exact e.1) hB
end Go.Proofs.YtlnfbjbagmfpiaaGreatDoor
namespace Go.Proofs.YtlnfbjbagmfpiaaGreatDoor
open Go.RowKit
theorem startTag_hid (k:Int)(N D P:ByteArray)(A:List (List UInt8 × List UInt8))(c:Bool)(hP:P.data.toList=startT ⟨k,N.data.toList,D.data.toList,A,c⟩)(hw:wT ⟨k,N.data.toList,D.data.toList,A,c⟩<=1000000):Hid (∀ W av,Low W->AtIn W av A->Calls Tryz.prog 185 #[.agg #[.int .i64 k,.string N,.string D,av,.bool c]] W fun e w'=>e=.returned (.string P)/\Below W.heap.size W w'):=Lib.hid fun w av hlow hat=>by
 obtain⟨aa,ac,rfl⟩:=hat.form;obtain⟨Z,hZ⟩:=text_of (60 :: N.data.toList)
 have hNs:N.size+wA A<=1000000:=by
  unfold wT at hw;simp only[lsize]at hw;omega
 have hAl:A.length<=1000000:=by
  have:∀ B:List (List UInt8 × List UInt8),B.length<=wA B:=fun B=>by
   induction B with
   | nil=>exact Nat.le_refl _
   | cons y B ih =>
     simp only[wA,List.map_cons,List.sum_cons,List.length_cons]at ih ⊢;omega
  have:=this A;omega
 have hZs:Z.size=N.size+1:=by rw[<- lsize,hZ,List.length_cons,lsize]
 have a1:=add_to ⟨#[60]⟩ N Z hZ (by show 1+N.size<=_;omega);have al1:=(Below.refl w.heap.size w).alloc (Nat.le_refl _) (.cells #[.int .i64 k,.string N,.string D,.slice aa A.length ac,.bool c] 57);have hbox:=new_block w (.cells #[.int .i64 k,.string N,.string D,.slice aa A.length ac,.bool c] 57);generalize hw1:w.alloc (.cells #[.int .i64 k,.string N,.string D,.slice aa A.length ac,.bool c] 57)=w1 at al1 hbox;have al2:=(Below.refl w1.heap.size w1).alloc (Nat.le_refl _) (.cells #[.pointer none,.slice none 0 0] 100);have hs1:w1.heap.size=w.heap.size+1:=by rw[<- hw1];simp
 have hbo:BO (w1.alloc (.cells #[.pointer none,.slice none 0 0] 100)) w.heap.size w1.heap.size []:=(BO.new w1).low (by omega);have hbox2:(w1.alloc (.cells #[.pointer none,.slice none 0 0] 100)).heap[w.heap.size]? = some (.cells #[.int .i64 k,.string N,.string D,.slice aa A.length ac,.bool c] 57 (0,0)):=(al2.block _ (by omega)).trans hbox;have hb2:Below w.heap.size w (w1.alloc (.cells #[.pointer none,.slice none 0 0] 100)):=al1.trans (al2.mono (by omega));rw[hs1]at hbo;have HLow:=Lib.hid hlow;have HAT:=Lib.hid hat;have HP:=Lib.hid hP;have HZ:=Lib.hid hZ;have HW:=Lib.hid hNs;have CE:=fun(V E:ByteArray) (h1:E.data.toList=encT V.data.toList) (h2:V.size<=1000000)=>encode_hid V E h1 h2;have d1:=cell_of hbox2 1;have d3:=cell_of hbox2 3;have d4:=cell_of hbox2 4;have H2:=Lib.hid (And.intro hbo (And.intro hbox2 hb2));subst hw1;clear hlow hat hP hZ hw hbo hbox hbox2 hb2 al1 al2 hs1
 go_enter Tryz.func185,Tryz.ntmps185
 go_wp2_with fail
 generalize(w.alloc (.cells #[.int .i64 k,.string N,.string D,.slice aa A.length ac,.bool c] 57)).alloc (.cells #[.pointer none,.slice none 0 0] 100)=w2 at H2 d1 d3 d4 ⊢;generalize hTb:w.heap.size=Tb at H2 d1 d3 d4 ⊢;have HTb:=Lib.hid hTb;have hws:Tb<=w2.heap.size:=by rw[<- hTb];rw[<- hTb]at H2;exact H2.out.2.2.size
 clear hTb;have C1:=writeO_hid Z
 (with_reducible refine(C1.out _ Tb _ _ H2.out.1 hws (by simp;omega)).mono ?_)
 rintro e w3 ⟨rfl,bo3,k3⟩
 have hbx3:=k3.cells H2.out.2.1 (fun e=>by
  rcases e with e | e
  · omega
  · exact absurd e.2 (by decide))
 have b3:=H2.out.2.2.trans (wrB_below k3 (Nat.le_succ _) hws);have hZ3:[]++Z.data.toList++(A.drop 0).flatMap attrT=60 :: N.data.toList++A.flatMap attrT:=by rw[HZ.out];rfl
 have H3:=Lib.hid (And.intro bo3 (And.intro hbx3 (And.intro b3 hZ3)));have d3:=cell_of hbx3 3;clear bo3 k3 hbx3 b3 hZ3 H2 d1 d4 C1 a1 hws
 go_wp2
 go_loopw [5,13] (fun _ j wr=>∃(i:Nat),j=.int .i64 i/\i<=A.length/\∃ H:List UInt8,Hid (BO wr Tb (Tb+1) H/\wr.heap[Tb]? = some (.cells #[.int .i64 k,.string N,.string D,.slice aa A.length ac,.bool c] 57 (0,0))/\Below Tb w wr/\H++(A.drop i).flatMap attrT=60 :: N.data.toList++A.flatMap attrT)) (fun _ j _=>A.length - (intOf j).toNat)
 case atStart=>exact⟨0,rfl,Nat.zero_le _,_,H3⟩
 case round =>
  clear H3 d3;obtain⟨i,rfl,hi,H,HX⟩:=hrel;obtain⟨h1,h2,h3,h4⟩:=HX.out
  have hlenH:H.length<=7000000:=by
   have e:=congrArg List.length h4;have hb:=attrs_lenT A;have h0:=HW.out;simp only[List.length_append,List.length_cons,lsize]at e;omega
  by_cases hlt:i<A.length
  · have har:AtIn wr (.slice aa A.length ac) A:=HAT.out.below (by rw[HTb.out];exact h3)
    obtain⟨g,off,rfl,c0,c1⟩:=har.at hlt;obtain⟨X,hX⟩:=text_of A[i].1;obtain⟨V,hV⟩:=text_of A[i].2;rw[strV_of hX]at c0;rw[strV_of hV]at c1
    have hmem:A[i].1.length+A[i].2.length+5<=wA A:=by
     have:∀(B:List (List UInt8 × List UInt8)) (y:List UInt8 × List UInt8),y∈B->y.1.length+y.2.length+5<=wA B:=fun B y h=>by
      induction B with
      | nil=>cases h
      | cons z B ih =>
        simp only[wA,List.map_cons,List.sum_cons]at ih ⊢;rcases List.mem_cons.1 h with rfl | h
        · omega
        · have:=ih h;omega
     exact this A _ (List.getElem_mem hlt)
    rw[<- hX,<- hV,lsize,lsize]at hmem;have hXV:X.size+V.size<=1000000:=by have:=HW.out;omega
    obtain⟨E,hE⟩:=text_of (encT V.data.toList);have hEs:E.size<=6000000:=by rw[<- lsize,hE];have:=(encT_len V.data.toList).2;rw[lsize]at this;omega
    obtain⟨S1,hS1⟩:=text_of (32 :: X.data.toList);obtain⟨S2,hS2⟩:=text_of (S1.data.toList++[61]);obtain⟨S3,hS3⟩:=text_of (S2.data.toList++[34]);obtain⟨S4,hS4⟩:=text_of (S3.data.toList++E.data.toList);obtain⟨S5,hS5⟩:=text_of (S4.data.toList++[34]);have q1:S1.size=X.size+1:=by rw[<- lsize,hS1,List.length_cons,lsize]
    have q2:S2.size=X.size+2:=by rw[<- lsize,hS2,List.length_append,lsize,q1];rfl
    have q3:S3.size=X.size+3:=by rw[<- lsize,hS3,List.length_append,lsize,q2];rfl
    have q4:S4.size=X.size+3+E.size:=by rw[<- lsize,hS4,List.length_append,lsize,lsize,q3]
    have q5:S5.size=X.size+4+E.size:=by rw[<- lsize,hS5,List.length_append,lsize,q4];simp only[List.length_cons,List.length_nil];omega
    have s1:=add_to ⟨#[32]⟩ X S1 hS1 (by show 1+X.size<=_;omega);have s2:=add_to S1 ⟨#[61]⟩ S2 hS2 (by show S1.size+1<=_;omega);have s3:=add_to S2 ⟨#[34]⟩ S3 hS3 (by show S2.size+1<=_;omega);have s4:=add_to S3 E S4 hS4 (by omega);have s5:=add_to S4 ⟨#[34]⟩ S5 hS5 (by show S4.size+1<=_;omega)
    have hy:S5.data.toList=attrT A[i]:=by
     rw[hS5,hS4,hS3,hS2,hS1,hE,hV,hX];unfold attrT;simp
    have CEv:=CE V E hE (by omega);have CWv:=writeO_hid S5
    have hstep:(H++S5.data.toList)++(A.drop (i+1)).flatMap attrT=60 :: N.data.toList++A.flatMap attrT:=by
     rw[<- h4,hy,List.drop_eq_getElem_cons hlt,List.flatMap_cons,List.append_assoc]
    have alr:=(Below.refl wr.heap.size wr).alloc (Nat.le_refl _) (.cells #[.string X,.string V] 41);have hxb:=new_block wr (.cells #[.string X,.string V] 41);have hbr:=h3.size;have hTw:Tb<=wr.heap.size:=by have:=lt_of_block h2;omega
    have e0:=cell_of hxb 0;have e1:=cell_of hxb 1;have H5:=Lib.hid (And.intro (h1.below alr) (And.intro ((alr.block _ (lt_of_block h2)).trans h2) (And.intro (h3.trans (alr.mono hTw)) hxb)));have HST:=Lib.hid hstep;have HLw:Low (wr.alloc (.cells #[.string X,.string V] 41)).drew:=((HLow.out.below (by rw[HTb.out];exact h3)).below alr).below (Below.refl _ _).drew;have HLW:=Lib.hid HLw.s;clear HX h1 h2 h3 h4 har hX hV hmem hE hS1 hS2 hS3 hS4 hS5 hy q1 q2 q3 q4 hstep alr hxb HLw
    go_wp2_with fail
    generalize wr.alloc (.cells #[.string X,.string V] 41)=w4 at H5 e0 e1 HLW ⊢;generalize wr.heap.size=Ab at H5 e0 e1 ⊢
    go_region_law (first
     | (go_simp
        go_at_call 36
        (with_reducible refine(CEv.out _ HLW.out).mono ?_)
        rintro e w5 ⟨rfl,b5⟩;have b6:Below w4.heap.size w4 w5:=(Below.refl _ _).drew.trans b5;have H6:=Lib.hid (And.intro (H5.out.1.below b6) (And.intro ((b6.block _ (lt_of_block H5.out.2.1)).trans H5.out.2.1) (And.intro (H5.out.2.2.1.trans (b6.mono (by have:=lt_of_block H5.out.2.1;omega))) ((b6.block _ (lt_of_block H5.out.2.2.2)).trans H5.out.2.2.2))));have e0:=cell_of H6.out.2.2.2 0;have hw5:Tb<=w5.heap.size:=by have:=lt_of_block H6.out.2.1;omega
        clear b5 b6)
     | (go_simp
        go_at_call 66
        (with_reducible refine(CWv.out _ Tb _ _ H6.out.1 hw5 (by omega)).mono ?_)
        rintro e w6 ⟨rfl,bo6,k6⟩
        have hbx6:=k6.cells H6.out.2.1 (fun e=>by
         rcases e with e | e
         · omega
         · exact absurd e.2 (by decide))
        have b7:=H6.out.2.2.1.trans (wrB_below k6 (Nat.le_succ _) hw5);have H7:=Lib.hid (And.intro bo6 (And.intro hbx6 (And.intro b7 HST.out)))
        clear bo6 k6 hbx6 b7))
    all_goals
     clear H5 H6 e0 e1 HLW c0 c1 CEv CWv s1 s2 s3 s4 s5 HST
     go_wp2
     go_roundw
     case rel=>exact⟨i+1,by go_num,by omega,_,H7⟩
     case measure=>simp[intOf];omega
  · obtain rfl:i=A.length:=by omega
    rw[List.drop_length,List.flatMap_nil,List.append_nil]at h4;have e4:=cell_of h2 4;have hTw:Tb<=wr.heap.size:=by have:=lt_of_block h2;omega
    have H5:=Lib.hid (And.intro h1 (And.intro h3 h4));clear HX h1 h2 h3 h4;have CG:=writeO_hid ⟨#[62]⟩
    cases c with
    | true =>
      have CL:=writeO_hid ⟨#[47]⟩
      go_wp2_with fail
      (with_reducible refine(CL.out _ Tb _ _ H5.out.1 hTw (by have h9:(⟨#[62]⟩:ByteArray).size=1:=rfl;have h8:(⟨#[47]⟩:ByteArray).size=1:=rfl;omega)).mono ?_)
      rintro e w6 ⟨rfl,bo6,k6⟩;have b6:=H5.out.2.1.trans (wrB_below k6 (Nat.le_succ _) hTw);have hT6:Tb<=w6.heap.size:=Nat.le_trans hTw k6.size;have H6:=Lib.hid (And.intro bo6 b6);clear bo6 b6 k6 e4 CL
      go_wp2_with fail
      (with_reducible refine(CG.out _ Tb _ _ H6.out.1 hT6 (by have h9:(⟨#[62]⟩:ByteArray).size=1:=rfl;simp only[List.length_append,List.length_cons,List.length_nil];omega)).mono ?_)
      rintro e w7 ⟨rfl,bo7,k7⟩;have b7:=H6.out.2.trans (wrB_below k7 (Nat.le_succ _) hT6);have hT7:Tb<=w7.heap.size:=Nat.le_trans hT6 k7.size;have H7:=Lib.hid (And.intro bo7 b7);clear bo7 b7 k7 CG H6
      go_wp2_with fail
      (with_reducible refine(stringO_hid.out _ Tb _ _ H7.out.1).mono ?_)
      rintro e w8 ⟨rfl,k8⟩;have b8:=H7.out.2.trans (k8.below (fun _ _ e=>e.1) hT7)
      have HE:Hid (Value.string ⟨(H++[47,62]).toArray⟩=.string P):=Lib.hid (by
       rw[<- text_is (T:=P) (by rw[HP.out];unfold startT;rw[H5.out.2.2];simp)])
      clear k8 H7
      go_wp2
      go_ret
      exact⟨congrArg Ending.returned HE.out,by rw[HTb.out];exact b8⟩
    | false =>
      go_wp2_with fail
      (with_reducible refine(CG.out _ Tb _ _ H5.out.1 hTw (by have h9:(⟨#[62]⟩:ByteArray).size=1:=rfl;have h8:(⟨#[47]⟩:ByteArray).size=1:=rfl;omega)).mono ?_)
      rintro e w7 ⟨rfl,bo7,k7⟩;have b7:=H5.out.2.1.trans (wrB_below k7 (Nat.le_succ _) hTw);have hT7:Tb<=w7.heap.size:=Nat.le_trans hTw k7.size;have H7:=Lib.hid (And.intro bo7 b7);clear bo7 b7 k7 CG e4
      go_wp2_with fail
      (with_reducible refine(stringO_hid.out _ Tb _ _ H7.out.1).mono ?_)
      rintro e w8 ⟨rfl,k8⟩;have b8:=H7.out.2.trans (k8.below (fun _ _ e=>e.1) hT7)
      have HE:Hid (Value.string ⟨(H++[62]).toArray⟩=.string P):=Lib.hid (by
       rw[<- text_is (T:=P) (by rw[HP.out];unfold startT;rw[H5.out.2.2];simp)])
      clear k8 H7
      go_wp2
      go_ret
      exact⟨congrArg Ending.returned HE.out,by rw[HTb.out];exact b8⟩
end Go.Proofs.YtlnfbjbagmfpiaaGreatDoor
namespace Go.Proofs.YtlnfbjbagmfpiaaGreatDoor
open Go.RowKit
theorem printed_1t (N D P:ByteArray)(A:List (List UInt8 × List UInt8))(c:Bool)(hP:P.data.toList=printT true ⟨1,N.data.toList,D.data.toList,A,c⟩)(hw:wT ⟨1,N.data.toList,D.data.toList,A,c⟩<=1000000):Hid (∀ W av,Low W->AtIn W av A->Calls Tryz.prog 149 #[.agg #[.int .i64 1,.string N,.string D,av,.bool c],.bool true] W fun e w'=>e=.returned (.string P)/\Below W.heap.size W w'):=Lib.hid fun w av hlow hat=>by
 obtain⟨aa,ac,rfl⟩:=hat.form
 have hNs:N.size+D.size<=1000000:=by
  unfold wT at hw;simp only[lsize]at hw;omega
 have al1:=(Below.refl w.heap.size w).alloc (Nat.le_refl _) (.cells #[.int .i64 1,.string N,.string D,.slice aa A.length ac,.bool c] 57);have hbox:=new_block w (.cells #[.int .i64 1,.string N,.string D,.slice aa A.length ac,.bool c] 57);have e0:=cell_of hbox 0;have e1:=cell_of hbox 1;have e2:=cell_of hbox 2;obtain rfl:P=D:=by rw[text_is hP];exact(text_is (T:=D) rfl).symm
 have HAL:=Lib.hid al1;clear hlow hat hbox al1 hw hP
 go_enter Tryz.func149,Tryz.ntmps149
 go_wp2
 go_ret
 exact⟨rfl,HAL.out⟩
theorem printed_1f (N D P:ByteArray)(A:List (List UInt8 × List UInt8))(c:Bool)(hP:P.data.toList=printT false ⟨1,N.data.toList,D.data.toList,A,c⟩)(hw:wT ⟨1,N.data.toList,D.data.toList,A,c⟩<=1000000):Hid (∀ W av,Low W->AtIn W av A->Calls Tryz.prog 149 #[.agg #[.int .i64 1,.string N,.string D,av,.bool c],.bool false] W fun e w'=>e=.returned (.string P)/\Below W.heap.size W w'):=Lib.hid fun w av hlow hat=>by
 obtain⟨aa,ac,rfl⟩:=hat.form
 have hNs:N.size+D.size<=1000000:=by
  unfold wT at hw;simp only[lsize]at hw;omega
 have al1:=(Below.refl w.heap.size w).alloc (Nat.le_refl _) (.cells #[.int .i64 1,.string N,.string D,.slice aa A.length ac,.bool c] 57);have hbox:=new_block w (.cells #[.int .i64 1,.string N,.string D,.slice aa A.length ac,.bool c] 57);have e0:=cell_of hbox 0;have e1:=cell_of hbox 1;have e2:=cell_of hbox 2;have CE:=encode_hid D P hP (by omega);have HL:=Lib.hid (hlow.below al1).s;have HAL:=Lib.hid al1;clear hlow hat hbox al1 hw hP
 go_enter Tryz.func149,Tryz.ntmps149
 go_wp2_with fail
 (with_reducible refine(CE.out _ HL.out).mono ?_)
 rintro e w2 ⟨rfl,b2⟩;have b3:=HAL.out.trans (b2.mono HAL.out.size);clear b2
 go_wp2
 go_ret
 exact⟨rfl,b3⟩
theorem printed_2 (N D P:ByteArray)(code:Bool)(A:List (List UInt8 × List UInt8))(c:Bool)(hP:P.data.toList=printT code ⟨2,N.data.toList,D.data.toList,A,c⟩)(hw:wT ⟨2,N.data.toList,D.data.toList,A,c⟩<=1000000):Hid (∀ W av,Low W->AtIn W av A->Calls Tryz.prog 149 #[.agg #[.int .i64 2,.string N,.string D,av,.bool c],.bool code] W fun e w'=>e=.returned (.string P)/\Below W.heap.size W w'):=Lib.hid fun w av hlow hat=>by
 obtain⟨aa,ac,rfl⟩:=hat.form
 have hNs:N.size+D.size<=1000000:=by
  unfold wT at hw;simp only[lsize]at hw;omega
 have al1:=(Below.refl w.heap.size w).alloc (Nat.le_refl _) (.cells #[.int .i64 2,.string N,.string D,.slice aa A.length ac,.bool c] 57);have hbox:=new_block w (.cells #[.int .i64 2,.string N,.string D,.slice aa A.length ac,.bool c] 57);have e0:=cell_of hbox 0;have e1:=cell_of hbox 1;have e2:=cell_of hbox 2;have e3:=cell_of hbox 3;have e4:=cell_of hbox 4;have CE:=startTag_hid 2 N D P A c hP hw;have HL:=Lib.hid (And.intro (hlow.below al1) (hat.below al1));have HAL:=Lib.hid al1;clear hlow hat hbox al1 hw hP
 go_enter Tryz.func149,Tryz.ntmps149
 go_wp2_with fail
 (with_reducible refine(CE.out _ _ HL.out.1 HL.out.2).mono ?_)
 rintro e w2 ⟨rfl,b2⟩;have b3:=HAL.out.trans (b2.mono HAL.out.size);clear b2
 go_wp2
 go_ret
 exact⟨rfl,b3⟩
theorem printed_3 (N D P:ByteArray)(code:Bool)(A:List (List UInt8 × List UInt8))(c:Bool)(hP:P.data.toList=printT code ⟨3,N.data.toList,D.data.toList,A,c⟩)(hw:wT ⟨3,N.data.toList,D.data.toList,A,c⟩<=1000000):Hid (∀ W av,Low W->AtIn W av A->Calls Tryz.prog 149 #[.agg #[.int .i64 3,.string N,.string D,av,.bool c],.bool code] W fun e w'=>e=.returned (.string P)/\Below W.heap.size W w'):=Lib.hid fun w av hlow hat=>by
 obtain⟨aa,ac,rfl⟩:=hat.form
 have hNs:N.size+D.size<=1000000:=by
  unfold wT at hw;simp only[lsize]at hw;omega
 have al1:=(Below.refl w.heap.size w).alloc (Nat.le_refl _) (.cells #[.int .i64 3,.string N,.string D,.slice aa A.length ac,.bool c] 57);have hbox:=new_block w (.cells #[.int .i64 3,.string N,.string D,.slice aa A.length ac,.bool c] 57);have e0:=cell_of hbox 0;have e1:=cell_of hbox 1;have e2:=cell_of hbox 2;obtain⟨S1,hS1⟩:=text_of ((⟨#[60,47]⟩:ByteArray).data.toList++N.data.toList)
 have q1:S1.size<=1000010:=by
  rw[<- lsize,hS1,List.length_append,lsize,lsize];have:(⟨#[60,47]⟩:ByteArray).size<=10:=by decide
  omega
 have z1:(⟨#[60,47]⟩:ByteArray).size<=10:=by decide
 have z2:(⟨#[62]⟩:ByteArray).size<=10:=by decide
 have s1:=add_to ⟨#[60,47]⟩ N S1 hS1 (by omega);have s2:=add_to S1 ⟨#[62]⟩ P (by rw[hP,hS1];rfl) (by omega);clear z1 z2;clear hS1 q1;have HAL:=Lib.hid al1;clear hlow hat hbox al1 hw hP
 go_enter Tryz.func149,Tryz.ntmps149
 go_wp2
 go_ret
 exact⟨rfl,HAL.out⟩
theorem printed_4 (N D P:ByteArray)(code:Bool)(A:List (List UInt8 × List UInt8))(c:Bool)(hP:P.data.toList=printT code ⟨4,N.data.toList,D.data.toList,A,c⟩)(hw:wT ⟨4,N.data.toList,D.data.toList,A,c⟩<=1000000):Hid (∀ W av,Low W->AtIn W av A->Calls Tryz.prog 149 #[.agg #[.int .i64 4,.string N,.string D,av,.bool c],.bool code] W fun e w'=>e=.returned (.string P)/\Below W.heap.size W w'):=Lib.hid fun w av hlow hat=>by
 obtain⟨aa,ac,rfl⟩:=hat.form
 have hNs:N.size+D.size<=1000000:=by
  unfold wT at hw;simp only[lsize]at hw;omega
 have al1:=(Below.refl w.heap.size w).alloc (Nat.le_refl _) (.cells #[.int .i64 4,.string N,.string D,.slice aa A.length ac,.bool c] 57);have hbox:=new_block w (.cells #[.int .i64 4,.string N,.string D,.slice aa A.length ac,.bool c] 57);have e0:=cell_of hbox 0;have e1:=cell_of hbox 1;have e2:=cell_of hbox 2;obtain⟨S1,hS1⟩:=text_of ((⟨#[60,33,45,45]⟩:ByteArray).data.toList++D.data.toList)
 have q1:S1.size<=1000010:=by
  rw[<- lsize,hS1,List.length_append,lsize,lsize];have:(⟨#[60,33,45,45]⟩:ByteArray).size<=10:=by decide
  omega
 have z1:(⟨#[60,33,45,45]⟩:ByteArray).size<=10:=by decide
 have z2:(⟨#[45,45,62]⟩:ByteArray).size<=10:=by decide
 have s1:=add_to ⟨#[60,33,45,45]⟩ D S1 hS1 (by omega);have s2:=add_to S1 ⟨#[45,45,62]⟩ P (by rw[hP,hS1];rfl) (by omega);clear z1 z2;clear hS1 q1;have HAL:=Lib.hid al1;clear hlow hat hbox al1 hw hP
 go_enter Tryz.func149,Tryz.ntmps149
 go_wp2
 go_ret
 exact⟨rfl,HAL.out⟩
theorem printed_5 (N D P:ByteArray)(code:Bool)(A:List (List UInt8 × List UInt8))(c:Bool)(hP:P.data.toList=printT code ⟨5,N.data.toList,D.data.toList,A,c⟩)(hw:wT ⟨5,N.data.toList,D.data.toList,A,c⟩<=1000000):Hid (∀ W av,Low W->AtIn W av A->Calls Tryz.prog 149 #[.agg #[.int .i64 5,.string N,.string D,av,.bool c],.bool code] W fun e w'=>e=.returned (.string P)/\Below W.heap.size W w'):=Lib.hid fun w av hlow hat=>by
 obtain⟨aa,ac,rfl⟩:=hat.form
 have hNs:N.size+D.size<=1000000:=by
  unfold wT at hw;simp only[lsize]at hw;omega
 have al1:=(Below.refl w.heap.size w).alloc (Nat.le_refl _) (.cells #[.int .i64 5,.string N,.string D,.slice aa A.length ac,.bool c] 57);have hbox:=new_block w (.cells #[.int .i64 5,.string N,.string D,.slice aa A.length ac,.bool c] 57);have e0:=cell_of hbox 0;have e1:=cell_of hbox 1;have e2:=cell_of hbox 2;obtain⟨S1,hS1⟩:=text_of ((⟨#[60,33,100,111,99,116,121,112,101,32]⟩:ByteArray).data.toList++D.data.toList)
 have q1:S1.size<=1000010:=by
  rw[<- lsize,hS1,List.length_append,lsize,lsize];have:(⟨#[60,33,100,111,99,116,121,112,101,32]⟩:ByteArray).size<=10:=by decide
  omega
 have z1:(⟨#[60,33,100,111,99,116,121,112,101,32]⟩:ByteArray).size<=10:=by decide
 have z2:(⟨#[62]⟩:ByteArray).size<=10:=by decide
 have s1:=add_to ⟨#[60,33,100,111,99,116,121,112,101,32]⟩ D S1 hS1 (by omega);have s2:=add_to S1 ⟨#[62]⟩ P (by rw[hP,hS1];rfl) (by omega);clear z1 z2;clear hS1 q1;have HAL:=Lib.hid al1;clear hlow hat hbox al1 hw hP
 go_enter Tryz.func149,Tryz.ntmps149
 go_wp2
 go_ret
 exact⟨rfl,HAL.out⟩
theorem printed_0 (N D P:ByteArray)(k:Int)(code:Bool)(A:List (List UInt8 × List UInt8))(c:Bool)(h1:k≠1)(h2:k≠2)(h3:k≠3)(h4:k≠4)(h5:k≠5)(hP:P.data.toList=printT code ⟨k,N.data.toList,D.data.toList,A,c⟩)(hw:wT ⟨k,N.data.toList,D.data.toList,A,c⟩<=1000000):Hid (∀ W av,Low W->AtIn W av A->Calls Tryz.prog 149 #[.agg #[.int .i64 k,.string N,.string D,av,.bool c],.bool code] W fun e w'=>e=.returned (.string P)/\Below W.heap.size W w'):=Lib.hid fun w av hlow hat=>by
 obtain⟨aa,ac,rfl⟩:=hat.form
 have hNs:N.size+D.size<=1000000:=by
  unfold wT at hw;simp only[lsize]at hw;omega
 have g1:(k==1)=false:=beq_eq_false_iff_ne.2 h1;have g2:(k==2)=false:=beq_eq_false_iff_ne.2 h2;have g3:(k==3)=false:=beq_eq_false_iff_ne.2 h3;have g4:(k==4)=false:=beq_eq_false_iff_ne.2 h4;have g5:(k==5)=false:=beq_eq_false_iff_ne.2 h5;have al1:=(Below.refl w.heap.size w).alloc (Nat.le_refl _) (.cells #[.int .i64 k,.string N,.string D,.slice aa A.length ac,.bool c] 57);have hbox:=new_block w (.cells #[.int .i64 k,.string N,.string D,.slice aa A.length ac,.bool c] 57);have e0:=cell_of hbox 0;have e1:=cell_of hbox 1;have e2:=cell_of hbox 2;obtain rfl:P=⟨#[]⟩:=text_is (by rw[hP];unfold printT;rw[if_neg h1,if_neg h2,if_neg h3,if_neg h4,if_neg h5]);clear h1 h2 h3 h4 h5;have HAL:=Lib.hid al1;clear hlow hat hbox al1 hw hP
 go_enter Tryz.func149,Tryz.ntmps149
 go_wp2
 go_ret
 exact⟨rfl,HAL.out⟩
theorem printed_hid (k:Int)(code:Bool)(N D P:ByteArray)(A:List (List UInt8 × List UInt8))(c:Bool)(hP:P.data.toList=printT code ⟨k,N.data.toList,D.data.toList,A,c⟩)(hw:wT ⟨k,N.data.toList,D.data.toList,A,c⟩<=1000000):Hid (∀ W av,Low W->AtIn W av A->Calls Tryz.prog 149 #[.agg #[.int .i64 k,.string N,.string D,av,.bool c],.bool code] W fun e w'=>e=.returned (.string P)/\Below W.heap.size W w'):=by
 by_cases h1:k=1
 · subst h1
   cases code with
   | true=>exact printed_1t N D P A c hP hw
   | false=>exact printed_1f N D P A c hP hw
 by_cases h2:k=2
 · subst h2;exact printed_2 N D P code A c hP hw
 by_cases h3:k=3
 · subst h3;exact printed_3 N D P code A c hP hw
 by_cases h4:k=4
 · subst h4;exact printed_4 N D P code A c hP hw
 by_cases h5:k=5
 · subst h5;exact printed_5 N D P code A c hP hw
 exact printed_0 N D P k code A c h1 h2 h3 h4 h5 hP hw
theorem hardM_some (t:Tk):hardM (some t)=(decide (t.k=2)&&(decide (t.n=scriptN) || decide (t.n=styleN))):=rfl
theorem printF_drop (L:List Tk)(b:Option Tk){i:Nat}(h:i<L.length):printF b (L.drop i)=printT (hardM b) L[i]++printF (some L[i]) (L.drop (i+1)):=by
 rw[List.drop_eq_getElem_cons h];rfl
theorem print_hid (L:List Tk)(P:ByteArray)(hP:P.data.toList=printM L)(hw:wL L<=20000000)(hwt:∀ t∈L,wT t<=1000000):Hid (∀ W v,Low W->TokIn W v L->Calls Tryz.prog 124 #[v] W fun e w'=>e=.returned (.string P)/\Below W.heap.size W w'):=Lib.hid fun w v hlow hat=>by
 obtain⟨aa,ac,rfl⟩:=hat.form;have hLl:L.length<=20000000:=Nat.le_trans (wL_len L) hw;have al1:=(Below.refl w.heap.size w).alloc (Nat.le_refl _) (.cells #[.pointer none,.slice none 0 0] 100);have hbo:=BO.new w;have H2:=Lib.hid (And.intro hbo al1);have HLow:=Lib.hid hlow;have HAT:=Lib.hid hat;have HP:=Lib.hid hP;have HW:=Lib.hid hw;have HWT:=Lib.hid hwt;have HPF:=Lib.hid (printF_len none L);clear hlow hat hP hw hwt hbo al1
 go_enter Tryz.func124,Tryz.ntmps124
 go_wp2
 generalize w.alloc (.cells #[.pointer none,.slice none 0 0] 100)=w1 at H2 ⊢;generalize hTb:w.heap.size=Tb at H2 ⊢;have HTb:=Lib.hid hTb;clear hTb
 go_loopw [4,6,9] (fun cv _ j wr=>∃(i:Nat) (code:Bool),j=.int .i64 i/\cv=.bool code/\i<=L.length/\∃(H:List UInt8) (b:Option Tk),Hid (BO wr Tb Tb H/\Below Tb w wr/\H++printF b (L.drop i)=printM L/\code=hardM b)) (fun _ _ j _=>L.length - (intOf j).toNat)
 case atStart=>exact⟨0,false,rfl,rfl,Nat.zero_le _,[],none,Lib.hid ⟨H2.out.1,H2.out.2,rfl,rfl⟩⟩
 case round =>
  clear H2;obtain⟨i,code,rfl,rfl,hi,H,b,HX⟩:=hrel;obtain⟨h1,h3,h4,h5⟩:=HX.out;have hTw:Tb<=wr.heap.size:=by have:=lt_of_block h1.1.choose_spec.choose_spec.blk;omega
  have hlenH:H.length<=120000000:=by
   have e:=congrArg List.length h4;have h0:=HW.out;have h9:=HPF.out;unfold printM at e;rw[List.length_append]at e;omega
  by_cases hlt:i<L.length
  · have har:TokIn wr (.slice aa L.length ac) L:=HAT.out.below (by rw[HTb.out];exact h3)
    obtain⟨g,off,av,rfl,c0,c1,c2,c3,c4,c5⟩:=har.at hlt;obtain⟨N,hN⟩:=text_of L[i].n;obtain⟨D,hD⟩:=text_of L[i].d;rw[strV_of hN]at c1;rw[strV_of hD]at c2;obtain⟨at',ac',rfl⟩:=c5.form;have hw0:=HWT.out _ (List.getElem_mem hlt);obtain⟨Q,hQ⟩:=text_of (printT code L[i])
    have hQs:Q.size<=6000000:=by
     rw[<- lsize,hQ];have:=printT_len code L[i];omega
    have hstep:(H++Q.data.toList)++printF (some L[i]) (L.drop (i+1))=printM L:=by
     rw[<- h4,printF_drop L b hlt,hQ,<- h5,List.append_assoc]
    have hhard:=hardM_some L[i];obtain⟨t,ht⟩:∃ t,L[i]=t:=⟨_,rfl⟩;rw[ht]at c0 c3 c4 c5 hN hD hw0 hQ hstep hhard;clear ht;obtain⟨tk,tn,td,ta,tc⟩:=t;subst hN hD;dsimp only at c0 c3 c4 c5 hhard;have CP:=printed_hid tk code N D Q ta tc hQ hw0;have alr:=(Below.refl wr.heap.size wr).alloc (Nat.le_refl _) (.cells #[.int .i64 tk,.string N,.string D,.slice at' ta.length ac',.bool tc] 57);have hxb:=new_block wr (.cells #[.int .i64 tk,.string N,.string D,.slice at' ta.length ac',.bool tc] 57);have h8:=(HLow.out.below (by rw[HTb.out];exact h3)).below alr;have H5:=Lib.hid (And.intro (h1.below alr) (And.intro (h3.trans (alr.mono hTw)) (And.intro hxb (And.intro h8 (c5.below alr)))));have hTa:Tb<=(wr.alloc (.cells #[.int .i64 tk,.string N,.string D,.slice at' ta.length ac',.bool tc] 57)).heap.size:=Nat.le_trans hTw alr.size;have e0:=cell_of hxb 0;have e1:=cell_of hxb 1;have e2:=cell_of hxb 2;have e3:=cell_of hxb 3;have e4:=cell_of hxb 4;have HST:=Lib.hid (And.intro hstep hhard);have CW:=writeO_hid Q;have HTW:=Lib.hid hTw;have zi:(i:Int)<(L.length:Int):=by omega
    clear HX h1 h3 h4 h5 har c5 hQ hw0 hstep hhard alr hxb h8 hlt
    go_wp2_with fail
    generalize wr.alloc (.cells #[.int .i64 tk,.string N,.string D,.slice at' ta.length ac',.bool tc] 57)=w2 at H5 e0 e1 e2 e3 e4 hTa ⊢;generalize wr.heap.size=Xb at H5 e0 e1 e2 e3 e4 HTW ⊢
    (with_reducible refine(CP.out _ _ H5.out.2.2.2.1 H5.out.2.2.2.2).mono ?_)
    rintro e w3 ⟨rfl,b3⟩;have H6:=Lib.hid (And.intro (H5.out.1.below b3) (And.intro (H5.out.2.1.trans (b3.mono hTa)) ((b3.block _ (lt_of_block H5.out.2.2.1)).trans H5.out.2.2.1)));have hT3:Tb<=w3.heap.size:=Nat.le_trans hTa b3.size;clear b3 H5 e0 e1 e2 e3 e4 CP hTa
    go_wp2_with fail
    (with_reducible refine(CW.out _ Tb _ _ H6.out.1 hT3 (by omega)).mono ?_)
    rintro e w4 ⟨rfl,bo4,k4⟩
    have hx4:=k4.cells H6.out.2.2 (fun e=>by
     rcases e with e | e
     · have hq:=H6.out.1.1.choose_spec.choose_spec.blk
       have hz:=H6.out.2.2;rw[e,hq]at hz
       injection hz with hz
       injection hz with _ hz
       exact absurd hz (by decide)
     · exact absurd e.2 (by decide))
    have b4:=H6.out.2.1.trans (wrB_below k4 (Nat.le_refl _) hT3);have e0:=cell_of hx4 0;have e1:=cell_of hx4 1;have H7:=Lib.hid (And.intro bo4 (And.intro b4 HST.out.1));obtain⟨cd,hcd⟩:∃ cd,(decide (N.data.toList=scriptN) || decide (N.data.toList=styleN))=cd:=⟨_,rfl⟩;have CI:=isCode_hid N cd hcd;have HH:=Lib.hid HST.out.2;rw[hcd]at HH;clear bo4 b4 k4 hx4 H6 CW HST hT3 hcd
    by_cases hk:tk=2
    · subst hk
      have HC:Hid (cd=hardM (some ⟨2,N.data.toList,D.data.toList,ta,tc⟩)):=Lib.hid (by rw[HH.out];rfl)
      go_wp2_with fail
      (with_reducible refine(CI.out _).mono ?_)
      rintro e w5 ⟨rfl,rfl⟩
      go_wp2
      go_roundw
      case rel=>exact⟨i+1,cd,by go_num,rfl,by omega,_,some ⟨2,N.data.toList,D.data.toList,ta,tc⟩,Lib.hid ⟨H7.out.1,H7.out.2.1,H7.out.2.2,HC.out⟩⟩
      case measure=>simp[intOf];omega
    · have gk:(tk==2)=false:=beq_eq_false_iff_ne.2 hk
      have HC:Hid (false=hardM (some ⟨tk,N.data.toList,D.data.toList,ta,tc⟩)):=Lib.hid (by rw[HH.out,decide_eq_false hk];rfl);clear hk
      go_wp2
      go_roundw
      case rel=>exact⟨i+1,false,by go_num,rfl,by omega,_,some ⟨tk,N.data.toList,D.data.toList,ta,tc⟩,Lib.hid ⟨H7.out.1,H7.out.2.1,H7.out.2.2,HC.out⟩⟩
      case measure=>simp[intOf];omega
  · obtain rfl:i=L.length:=by omega
    rw[List.drop_length]at h4;have h4':H=printM L:=by rw[<- h4];exact(List.append_nil H).symm
    have HE:Hid (Value.string ⟨H.toArray⟩=.string P):=Lib.hid (by rw[<- text_is (T:=P) (by rw[HP.out,h4'])]);have H5:=Lib.hid (And.intro h1 h3);clear HX h1 h3 h4 h4' h5
    go_wp2_with fail
    (with_reducible refine(stringO_hid.out _ Tb _ _ H5.out.1).mono ?_)
    rintro e w8 ⟨rfl,k8⟩;have b8:=H5.out.2.trans (k8.below (fun _ _ e=>e.1) hTw);clear k8 H5
    go_wp2
    go_ret
    exact⟨congrArg Ending.returned HE.out,by rw[HTb.out];exact b8⟩
end Go.Proofs.YtlnfbjbagmfpiaaGreatDoor
