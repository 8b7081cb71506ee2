/- The plain mathematics of fold: blanks, small letters, trimmed texts, words and parts, over lists of bytes. A text's words as its code points tell them: a blank is a code point below 128, and no code point of several bytes has one among its bytes. The plain mathematics of url: bytes, hosts, paths, addresses, their texts and what is parsed, over lists of bytes. The plain mathematics of url, further: what the document's own loops know; texts that are parsed alike; an address' text and its front. The plain mathematics of resolve: an address' text is parsed as it; what a text begins with; what is joined to an address. Bits as plain mathematics: a number's bits, the number of bits, bits in groups; what is encoded. What is decoded; what is encoded is decoded, and the other way round. The plain mathematics of source: sources, their words and what is parsed, over lists of bytes; a source's word is parsed as it. The plain mathematics of the program's Parse of a source: what is cut off a word, and that it is the source that the word tells. A source's word is short. The plain mathematics of origin: where an address comes from, over lists of bytes. Marks as plain mathematics: two numbers off a list of bytes, four bytes of a number, the sixteen bytes. The plain mathematics of match: whether a source lets an address be, over lists of bytes, and what the seven statements want of it. The plain mathematics of allow: what a list of sources lets be, over lists of bytes, and what the seven statements want of it. The plain mathematics of header: directives, policies, their texts and what is parsed, over lists of bytes. -/
import Derived.Lib.SlTrimSet
import Derived.Lib.Split
import Derived.Lib.DecodeN
import Derived.Lib.Bytealg
import Derived.Lib.ItoaNum
import Derived.Lib.Join
import Derived.Lib.TrimByte
import Derived.Lib.Repeat
import Derived.Lib.Hide
import Derived.Below
namespace Go.Proofs.YthnogdodlhkldaaGreatDoor
theorem zH {p:Prop}(h:p):RowKit.Hid p:=h
theorem zL (n:Nat):n<=n:=Nat.le_refl n
theorem zT {n m:Nat}(h:n<m):n<=m:=Nat.le_of_lt h
theorem zB (B:Nat)(w:World):RowKit.Below B w w:=RowKit.Below.refl B w
def eZ (b:UInt8):Bool:=[9,10,12,13,32].contains b
def fA (b:UInt8):UInt8:=if 65<=b.toNat/\b.toNat<=90 then b+32 else b
def bB (l:List UInt8):List UInt8:=l.map fA
def eI (l:List UInt8):List UInt8:=Lib.trimS l [9,10,12,13,32]
def cut (p:UInt8->Bool):List UInt8->List (List UInt8)
 | []=>[[]]
 | b :: l=>if p b then [] :: cut p l else
   match cut p l with
   | []=>[[b]]
   | h :: t=>(b :: h) :: t
def bY (l:List UInt8):List (List UInt8):=(cut eZ l).filter (fun w => !w.isEmpty)
def parts (l:List UInt8)(c:UInt8):List (List UInt8):=(cut (· == c) l).map eI
theorem kE (p:UInt8->Bool)(l:List UInt8):cut p l≠[]:=by
 cases l with
 | nil=>simp[cut]
 | cons b l =>
   unfold cut;split
   · simp
   · split<;>simp
theorem lY (p:UInt8->Bool)(a:List UInt8)(c:UInt8)(r:List UInt8)(ha:∀ b∈a,p b=false)(hc:p c=true):cut p (a++c :: r)=a :: cut p r:=by
 induction a with
 | nil=>simp[cut,hc]
 | cons b a ih =>
   have hb:=ha b (by simp);have:=ih (fun x hx=>ha x (by simp[hx]));simp only[List.cons_append,cut,hb,this,if_false,Bool.false_eq_true]
theorem lJ (p:UInt8->Bool)(a:List UInt8)(ha:∀ b∈a,p b=false):cut p a=[a]:=by
 induction a with
 | nil=>rfl
 | cons b a ih =>
   have hb:=ha b (by simp);have:=ih (fun x hx=>ha x (by simp[hx]));simp only[cut,hb,this,if_false,Bool.false_eq_true]
theorem dU (p:UInt8->Bool)(l:List UInt8):(cut p l).length=l.countP p+1:=by
 induction l with
 | nil=>rfl
 | cons b l ih =>
   unfold cut
   cases hb:p b
   · simp only[Bool.false_eq_true,if_false]
     have hne:=kE p l;split
     · contradiction
     · rename_i h t he
       rw[he]at ih;simp only[List.length_cons]at ih ⊢;rw[List.countP_cons_of_neg (by simp[hb])];exact ih
   · simp only[if_true,List.length_cons]
     rw[ih,List.countP_cons_of_pos hb]
theorem aV3 (p:UInt8->Bool)(l:List UInt8):∀ w∈cut p l,∀ b∈w,p b=false:=by
 induction l with
 | nil=>intro w hw b hb;simp[cut]at hw;subst hw;cases hb
 | cons c l ih =>
   intro w hw b hb;unfold cut at hw
   cases hc:p c
   · rw[if_neg (by simp[hc])]at hw
     have hne:=kE p l;split at hw
     · contradiction
     · rename_i h t he
       rcases List.mem_cons.1 hw with rfl | hw
       · rcases List.mem_cons.1 hb with rfl | hb
         · exact hc
         · exact ih h (by rw[he];simp) b hb
       · exact ih w (by rw[he];simp[hw]) b hb
   · rw[if_pos hc]at hw
     rcases List.mem_cons.1 hw with rfl | hw
     · cases hb
     · exact ih w hw b hb
theorem eU (p:UInt8->Bool)(l:List UInt8):((cut p l).map List.length).sum+l.countP p=l.length:=by
 induction l with
 | nil=>rfl
 | cons b l ih =>
   unfold cut
   cases hb:p b
   · simp only[Bool.false_eq_true,if_false]
     have hne:=kE p l;split
     · contradiction
     · rename_i h t he
       rw[he]at ih;rw[List.countP_cons_of_neg (by simp[hb])];simp only[List.map_cons,List.sum_cons,List.length_cons]at ih ⊢;omega
   · simp only[if_true,List.length_cons,List.map_cons,List.sum_cons,List.length_nil]
     rw[List.countP_cons_of_pos hb];omega
theorem aW2 (a:List UInt8)(c:UInt8)(r:List UInt8)(ha:∀ b∈a,eZ b=false)(hc:eZ c=true)(h0:a≠[]):bY (a++c :: r)=a :: bY r:=by
 unfold bY;rw[lY eZ a c r ha hc,List.filter_cons,if_pos (by cases a<;>simp_all)]
theorem qX (c:UInt8)(r:List UInt8)(hc:eZ c=true):bY (c :: r)=bY r:=by
 unfold bY;have:=lY eZ [] c r (by simp) hc;rw[List.nil_append]at this;rw[this,List.filter_cons,if_neg (by simp)]
theorem aG7 (a:List UInt8)(ha:∀ b∈a,eZ b=false)(h0:a≠[]):bY a=[a]:=by
 unfold bY;rw[lJ eZ a ha,List.filter_cons,if_pos (by cases a<;>simp_all)];rfl
theorem aW0:bY []=[]:=rfl
theorem aW1 (l:List UInt8):∀ w∈bY l,w≠[]/\∀ b∈w,eZ b=false:=by
 intro w hw;unfold bY at hw;rw[List.mem_filter]at hw;refine⟨by cases w<;>simp_all,aV3 eZ l w hw.1⟩
theorem sY (L:List (List UInt8))(p:List UInt8->Bool):((L.filter p).map List.length).sum<=(L.map List.length).sum:=by
 induction L with
 | nil=>simp
 | cons a L ih =>
   rw[List.filter_cons];split<;>simp<;>omega
theorem tS (L:List (List UInt8))(h:∀ w∈L,w≠[]):L.length<=(L.map List.length).sum:=by
 induction L with
 | nil=>simp
 | cons a L ih =>
   have h1:=h a (by simp);have h2:=ih (fun w hw=>h w (by simp[hw]));have h3:0<a.length:=List.length_pos_iff.2 h1;simp only[List.length_cons,List.map_cons,List.sum_cons];omega
theorem yH (l:List UInt8):((bY l).map List.length).sum<=l.length/\(bY l).length<=l.length:=by
 have h1:=sY (cut eZ l) (fun w => !w.isEmpty);have h2:=eU eZ l;have h3:=tS (bY l) (fun w hw=>(aW1 l w hw).1);have h4:bY l=(cut eZ l).filter (fun w => !w.isEmpty):=rfl;rw[<- h4]at h1;omega
theorem bE4 (b:UInt8):fA (fA b)=fA b:=by
 unfold fA
 by_cases h:65<=b.toNat/\b.toNat<=90
 · rw[if_pos h,if_neg]
   rw[UInt8.toNat_add];simp;omega
 · rw[if_neg h,if_neg h]
theorem low_low (l:List UInt8):bB (bB l)=bB l:=by simp[bB,bE4]
theorem dS (l:List UInt8):(bB l).length=l.length:=by simp[bB]
theorem jK (p:UInt8->Bool)(l:List UInt8):l.dropWhile p=[]\/∃ b t,l.dropWhile p=b :: t/\p b=false:=by
 induction l with
 | nil=>exact .inl rfl
 | cons b l ih =>
   rw[List.dropWhile_cons]
   cases hb:p b
   · exact .inr ⟨b,l,by simp,hb⟩
   · simpa using ih
def Ends (l:List UInt8):Prop:=(∀ b t,l=b :: t->eZ b=false)/\(∀ b t,l=t++[b]->eZ b=false)
theorem eS (p:UInt8->Bool)(l:List UInt8):∃ a,l=a++l.dropWhile p/\∀ b∈a,p b=true:=by
 induction l with
 | nil=>exact⟨[],rfl,by simp⟩
 | cons b l ih =>
   rw[List.dropWhile_cons]
   cases hb:p b
   · exact⟨[],by simp,by simp⟩
   · obtain⟨a,ha,hb'⟩:=ih
     exact⟨b :: a,by simpa using ha,fun x hx=>by rcases List.mem_cons.1 hx with rfl | hx;exact hb;exact hb' x hx⟩
theorem oJ (l:List UInt8):∃ a z,l=a++eI l++z/\(∀ b∈a,eZ b=true)/\(∀ b∈z,eZ b=true):=by
 unfold eI Lib.trimS;obtain⟨z,hz,hzb⟩:=eS ([9,10,12,13,32].contains ·) l.reverse;obtain⟨a,ha,hab⟩:=eS ([9,10,12,13,32].contains ·) (Lib.trimRightS l [9,10,12,13,32]);refine⟨a,z.reverse,?_,hab,fun b hb=>hzb b (by simpa using hb)⟩
 have h2:l=Lib.trimRightS l [9,10,12,13,32]++z.reverse:=by
  have:=congrArg List.reverse hz
  simpa [Lib.trimRightS] using this
 unfold Lib.trimLeftS;rw[<- ha];exact h2
theorem uE (l:List UInt8):Ends (eI l):=by
 constructor
 · intro b t e
   unfold eI Lib.trimS at e;rcases jK ([9,10,12,13,32].contains ·) (Lib.trimRightS l [9,10,12,13,32])with h | ⟨b',t',h,hb⟩
   · unfold Lib.trimLeftS at e;rw[h]at e;cases e
   · unfold Lib.trimLeftS at e;rw[h]at e;cases e;exact hb
 · intro b t e
   unfold eI Lib.trimS at e;obtain⟨a,ha,_⟩:=eS ([9,10,12,13,32].contains ·) (Lib.trimRightS l [9,10,12,13,32]);have h2:Lib.trimRightS l [9,10,12,13,32]=(a++t)++[b]:=by rw[List.append_assoc,<- e];exact ha
   unfold Lib.trimRightS at h2;rcases jK ([9,10,12,13,32].contains ·) l.reverse with h | ⟨b',t',h,hb⟩
   · rw[h]at h2;simp at h2
   · rw[h]at h2
     have:=congrArg List.reverse h2;simp at this;rw[<- this.1];exact hb
theorem pN (l:List UInt8):(eI l).length<=l.length:=by
 obtain⟨a,z,h,_⟩:=oJ l;have:=congrArg List.length h;simp at this;omega
theorem rA (l:List UInt8)(h:∀ b∈l,eZ b=true):eI l=[]:=by
 rcases hE:eI l with _ | ⟨b,t⟩
 · rfl
 · have h1:=(uE l).1 b t hE
   obtain⟨a,z,h2,_⟩:=oJ l;have hm:b∈l:=by rw[h2,hE];simp
   rw[h b hm]at h1;cases h1
theorem aE2 {a m z a' m' z':List UInt8}(h:a++m++z=a'++m'++z')(ha:∀ b∈a,eZ b=true)(hz:∀ b∈z,eZ b=true)(ha':∀ b∈a',eZ b=true)(hz':∀ b∈z',eZ b=true)(hm:Ends m)(hm':Ends m')(hn:m≠[])(hn':m'≠[]):m=m':=by
 have len:a.length=a'.length:=by
  rcases Nat.lt_trichotomy a.length a'.length with h1 | h1 | h1
  · exfalso
    obtain⟨b,t,rfl⟩:=List.exists_cons_of_ne_nil hn;have e:=congrArg (fun l:List UInt8=>l[a.length]?) h;simp only[List.append_assoc]at e;rw[List.getElem?_append_right (zL _),Nat.sub_self]at e;rw[List.getElem?_append_left h1]at e;simp at e;have:=ha' _ (List.mem_of_getElem? e.symm);rw[hm.1 b t rfl]at this;cases this
  · exact h1
  · exfalso
    obtain⟨b,t,rfl⟩:=List.exists_cons_of_ne_nil hn';have e:=congrArg (fun l:List UInt8=>l[a'.length]?) h;simp only[List.append_assoc]at e;rw[List.getElem?_append_left h1]at e;rw[List.getElem?_append_right (zL _),Nat.sub_self]at e;simp at e;have:=ha _ (List.mem_of_getElem? e);rw[hm'.1 b t rfl]at this;cases this
 simp only[List.append_assoc]at h;obtain⟨rfl,h2⟩:=List.append_inj h len
 have len2:z.length=z'.length:=by
  have hlen:=congrArg List.length h2;simp at hlen;rcases Nat.lt_trichotomy m.length m'.length with h1 | h1 | h1
  · exfalso
    obtain⟨t,b,rfl⟩:∃ t b,m'=t++[b]:=⟨m'.dropLast,m'.getLast hn',(List.dropLast_concat_getLast hn').symm⟩;have e:=congrArg (fun l:List UInt8=>l[t.length]?) h2;simp only[List.append_assoc]at e;rw[List.getElem?_append_right (by simp at h1;omega)]at e;rw[List.getElem?_append_right (zL _),Nat.sub_self]at e;simp at e;have:=hz _ (List.mem_of_getElem? e);rw[hm'.2 b t rfl]at this;cases this
  · omega
  · exfalso
    obtain⟨t,b,rfl⟩:∃ t b,m=t++[b]:=⟨m.dropLast,m.getLast hn,(List.dropLast_concat_getLast hn).symm⟩;have ht:m'.length<=t.length:=by simp at h1;omega
    have e:(t++[b]++z)[t.length]? = (m'++z')[t.length]? :=congrArg (fun l:List UInt8=>l[t.length]?) h2;rw[List.getElem?_append_right ht,List.append_assoc,List.getElem?_append_right (zL _),Nat.sub_self]at e;simp at e;have:=hz' _ (List.mem_of_getElem? e.symm);rw[hm.2 b t rfl]at this;cases this
 exact(List.append_inj' h2 len2).1
theorem yL {a m z:List UInt8}(ha:∀ b∈a,eZ b=true)(hz:∀ b∈z,eZ b=true)(hm:Ends m):eI (a++m++z)=m:=by
 obtain⟨a',z',h,ha',hz'⟩:=oJ (a++m++z)
 by_cases hn:m=[]
 · subst hn
   refine rA _ fun b hb => ?_;simp at hb;rcases hb with hb | hb
   · exact ha b hb
   · exact hz b hb
 · by_cases hn':eI (a++m++z)=[]
   · exfalso
     rw[hn']at h;obtain⟨b,t,rfl⟩:=List.exists_cons_of_ne_nil hn;have hb:b∈a'++[]++z':=by rw[<- h];simp
     simp at hb;have:=hm.1 b t rfl;rcases hb with hb | hb
     · rw[ha' b hb]at this;cases this
     · rw[hz' b hb]at this;cases this
   · exact(aE2 h ha hz ha' hz' hm (uE _) hn hn').symm
theorem aG9 (l:List UInt8)(i j:Nat)(hij:i<=j)(hj:j<=l.length)(h1:∀ k,k<i->∀ b,l[k]? = some b->eZ b=true)(h2:∀ k,j<=k->∀ b,l[k]? = some b->eZ b=true)(h3:i<j->∀ b,l[i]? = some b->eZ b=false)(h4:i<j->∀ b,l[j - 1]? = some b->eZ b=false):eI l=(l.take j).drop i:=by
 have e:l=l.take i++(l.take j).drop i++l.drop j:=by
  have:l.take i=(l.take j).take i:=by rw[List.take_take];congr 1;omega
  rw[this,List.take_append_drop,List.take_append_drop]
 have hlen:((l.take j).drop i).length=j - i:=by simp;omega
 rw[e];have:=yL (a:=l.take i) (m:=(l.take j).drop i) (z:=l.drop j) (fun b hb => ?_) (fun b hb => ?_) ⟨fun b t hbt => ?_,fun b t hbt => ?_⟩
 · rw[<- e]at this ⊢;exact this
 · obtain⟨k,hk⟩:=List.mem_iff_getElem?.1 hb
   rw[List.getElem?_take]at hk;split at hk
   · exact h1 k ‹_› b hk
   · cases hk
 · obtain⟨k,hk⟩:=List.mem_iff_getElem?.1 hb
   rw[List.getElem?_drop]at hk;exact h2 _ (by omega) b hk
 · have hl:=congrArg List.length hbt
   rw[hlen]at hl;simp at hl;have hk:=congrArg (fun l:List UInt8=>l[0]?) hbt;simp only[List.getElem?_drop,List.getElem?_take]at hk;rw[if_pos (by omega)]at hk;simp at hk;exact h3 (by omega) b hk
 · have hl:=congrArg List.length hbt
   rw[hlen]at hl;simp at hl;have hk:=congrArg (fun l:List UInt8=>l[t.length]?) hbt;simp only[List.getElem?_drop,List.getElem?_take]at hk;rw[if_pos (by omega)]at hk;simp at hk;exact h4 (by omega) b (by rw[<- hk];congr 1;omega)
def joined (c:UInt8):List (List UInt8)->List UInt8
 | []=>[]
 | [w]=>w
 | w :: ws=>w++c :: joined c ws
theorem lA (c b:UInt8)(l:List UInt8):[c].isPrefixOf (b :: l)=(c==b):=by simp[List.isPrefixOf]
theorem uW (l:List UInt8)(c:UInt8):(Lib.index l [c] = -1/\∀ b∈l,(b==c)=false)\/∃ a r,l=a++c :: r/\(∀ b∈a,(b==c)=false)/\Lib.index l [c]=a.length:=by
 induction l with
 | nil=>exact .inl ⟨rfl,by simp⟩
 | cons b l ih =>
   unfold Lib.index;rw[lA]
   cases hb:(c==b)
   · have hb':(b==c)=false:=by rw[Bool.eq_false_iff]at hb ⊢;intro h;exact hb (by rw[eq_of_beq h];simp)
     simp only[Bool.false_eq_true,if_false];rcases ih with ⟨h1,h2⟩ | ⟨a,r,rfl,h2,h3⟩
     · left
       rw[h1];exact⟨rfl,fun x hx=>by rcases List.mem_cons.1 hx with rfl | hx;exact hb';exact h2 x hx⟩
     · right
       refine⟨b :: a,r,rfl,fun x hx=>by rcases List.mem_cons.1 hx with rfl | hx;exact hb';exact h2 x hx,?_⟩;rw[h3,if_neg (by simp)];rfl
   · right
     have hb':=eq_of_beq hb;exact⟨[],l,by simp[hb'],by simp,by simp⟩
theorem rJ (c:UInt8):∀(k:Nat) (l:List UInt8),l.countP (· == c)<=k->Lib.splitK [c] 0 k l=cut (· == c) l
 | 0,l,h=>by
   have h0:l.countP (· == c)=0:=by omega
   rw[List.countP_eq_zero]at h0;exact(lJ _ l (fun b hb=>by simpa using h0 b hb)).symm
 | k+1,l,h=>by
   unfold Lib.splitK;rcases uW l c with ⟨h1,h2⟩ | ⟨a,r,rfl,h2,h3⟩
   · rw[h1,lJ _ l h2];simp
   · rw[h3,if_neg (by simp),lY _ a c r h2 (by simp)]
     have e1:(a++c :: r).take ((a.length:Int).toNat+0)=a:=by simp
     have e2:(a++c :: r).drop ((a.length:Int).toNat+[c].length)=r:=by
      simp only[Int.toNat_natCast,List.length_cons,List.length_nil,Nat.zero_add];rw[List.drop_append];simp
     rw[e1,e2,rJ c k r (by
      rw[List.countP_append,List.countP_cons_of_pos (by simp)]at h;omega)]
end Go.Proofs.YthnogdodlhkldaaGreatDoor
namespace Go.Proofs.YthnogdodlhkldaaGreatDoor
theorem oY {s:ByteArray}{k:Nat}{b:UInt8}(h:s.data.toList[k]? = some b):s.get! k=b/\k<s.size:=by
 have hk:=(List.getElem?_eq_some_iff.1 h).1;rw[Array.length_toList]at hk;refine⟨?_,hk⟩;rw[Array.getElem?_toList]at h;simp[ByteArray.get!,Array.getElem!_eq_getD,Array.getD_eq_getD_getElem?,h]
theorem iS {s:ByteArray}{k:Nat}(h:k<s.size):∃ b,s.data.toList[k]? = some b/\s.get! k=b/\s[k]=b:=by
 refine⟨s[k],?_,?_,rfl⟩
 · rw[Array.getElem?_toList];exact Array.getElem?_eq_getElem h
 · exact(oY (b:=s[k]) (by rw[Array.getElem?_toList];exact Array.getElem?_eq_getElem h)).1
theorem vF (s:ByteArray)(i:Nat)(h:(s.get! i).toNat<128):Utf8.decode s i=((s.get! i).toNat,1):=by
 rw[Lib.decode_at];unfold Lib.decodeN;rw[if_pos h]
theorem aE6 (s:ByteArray)(i:Nat)(hi:i<s.size)(h:¬ (s.get! i).toNat<128) :
 128<=(Utf8.decode s i).1/\1<=(Utf8.decode s i).2/\i+(Utf8.decode s i).2<=s.size/\∀ k b,i<=k->k<i+(Utf8.decode s i).2->s.data.toList[k]? = some b->128<=b.toNat:=by
 have h0:128<=(s.get! i).toNat:=by omega
 rw[Lib.decode_at]
 have key:∀ w r:Nat,128<=r->1<=w->i+w<=s.size->(∀ j,j<w->128<=(s.get! (i+j)).toNat)->128<=(r,w).1/\1<=(r,w).2/\i+(r,w).2<=s.size/\∀ k b,i<=k->k<i+(r,w).2->s.data.toList[k]? = some b->128<=b.toNat:=by
  intro w r hr hw hs hj;refine⟨hr,hw,hs,fun k b h1 h2 h3 => ?_⟩;have:=hj (k - i) (by show k - i<w;have:k<i+w:=h2;omega);rw[show i+(k - i)=k by omega,(oY h3).1]at this;exact this
 have one:∀ j,j<1->128<=(s.get! (i+j)).toNat:=fun j hj=>by obtain rfl:j=0:=(by omega);exact h0
 unfold Lib.decodeN;rw[if_neg h];split
 · rename_i h1
   split
   · exact key _ _ (by omega) (by omega) (by omega) fun j hj=>by
      rcases(by omega:j=0\/j=1)with rfl | rfl
      · exact h0
      · omega
   · exact key _ _ (by omega) (by omega) (by omega) one
 · split
   · rename_i h1
     split
     · exact key _ _ (by omega) (by omega) (by omega) fun j hj=>by
        rcases(by omega:j=0\/j=1\/j=2)with rfl | rfl | rfl
        · exact h0
        · omega
        · omega
     · exact key _ _ (by omega) (by omega) (by omega) one
   · split
     · rename_i h1
       split
       · exact key _ _ (by omega) (by omega) (by omega) fun j hj=>by
          rcases(by omega:j=0\/j=1\/j=2\/j=3)with rfl | rfl | rfl | rfl
          · exact h0
          · omega
          · omega
          · omega
       · exact key _ _ (by omega) (by omega) (by omega) one
     · exact key _ _ (by omega) (by omega) (by omega) one
def pr (x:Nat):Bool:=decide (x<128)&&eZ x.toUInt8
theorem bJ1 {b:UInt8}(h:eZ b=true):b.toNat<128:=by
 unfold eZ at h;simp at h;rcases h with rfl | rfl | rfl | rfl | rfl<;>decide
theorem step_of (s:ByteArray)(i:Nat)(hi:i<s.size) :
 (pr (Utf8.decode s i).1=true/\(Utf8.decode s i).2=1/\eZ (s.get! i)=true) \/
 (pr (Utf8.decode s i).1=false/\1<=(Utf8.decode s i).2/\i+(Utf8.decode s i).2<=s.size/\∀ k b,i<=k->k<i+(Utf8.decode s i).2->s.data.toList[k]? = some b->eZ b=false):=by
 by_cases h:(s.get! i).toNat<128
 · rw[vF s i h]
   have e:((s.get! i).toNat).toUInt8=s.get! i:=by simp
   unfold pr;simp only[h,decide_true,Bool.true_and,e]
   cases hb:eZ (s.get! i)
   · right
     refine⟨rfl,zL _,by omega,fun k b h1 h2 h3 => ?_⟩;obtain rfl:k=i:=by omega
     rw[(oY h3).1]at hb;exact hb
   · left
     exact⟨by simp,by simp,by simp⟩
 · obtain⟨h1,h2,h3,h4⟩:=aE6 s i hi h
   right
   refine⟨?_,h2,h3,fun k b a1 a2 a3 => ?_⟩
   · unfold pr
     rw[decide_eq_false (by omega)];rfl
   · have:=h4 k b a1 a2 a3
     cases hb:eZ b
     · rfl
     · have:=bJ1 hb;omega
def fE (l:List UInt8)(acc:List (Nat × Nat)):List (List UInt8):=acc.map fun x=>(l.drop x.1).take (x.2 - x.1)
structure Read (l:List UInt8) (pos:Nat) (st:Option Nat) (acc:List (Nat × Nat)):Prop where
 sum:fE l acc++bY (l.drop (st.getD pos))=bY l
 open_:∀ a,st=some a->a<pos/\∀ k b,a<=k->k<pos->l[k]? = some b->eZ b=false
 spans:∀ x∈acc,x.1<=x.2/\x.2<=l.length
 few:acc.length<=pos
 le:pos<=l.length
theorem aM0 (l:List UInt8):Read l 0 none []:=⟨rfl,(fun a h=>by cases h),(fun x hx=>by cases hx),zL _,Nat.zero_le _⟩
theorem read_in {l:List UInt8}{pos w a:Nat}{acc:List (Nat × Nat)}(h:Read l pos (some a) acc)(hw:1<=w)(hle:pos+w<=l.length)(hn:∀ k b,pos<=k->k<pos+w->l[k]? = some b->eZ b=false):Read l (pos+w) (some a) acc:=by
 refine⟨h.sum,fun a' e => ?_,h.spans,by have:=h.few;omega,hle⟩
 cases e
 obtain⟨h1,h2⟩:=h.open_ a rfl;refine⟨by omega,fun k b k1 k2 hk => ?_⟩
 by_cases hp:k<pos
 · exact h2 k b k1 hp hk
 · exact hn k b (by omega) k2 hk
theorem read_new {l:List UInt8}{pos w:Nat}{acc:List (Nat × Nat)}(h:Read l pos none acc)(hw:1<=w)(hle:pos+w<=l.length)(hn:∀ k b,pos<=k->k<pos+w->l[k]? = some b->eZ b=false):Read l (pos+w) (some pos) acc:=by
 refine⟨h.sum,fun a' e => ?_,h.spans,by have:=h.few;omega,hle⟩
 cases e
 exact⟨by omega,hn⟩
theorem jJ {l:List UInt8}{k:Nat}{b:UInt8}(h:l[k]? = some b):l.drop k=b :: l.drop (k+1):=by
 have hk:=(List.getElem?_eq_some_iff.1 h);rw[List.drop_eq_getElem_cons hk.1,hk.2]
theorem aM2 {l:List UInt8}{pos:Nat}{b:UInt8}{acc:List (Nat × Nat)}(h:Read l pos none acc)(hb:l[pos]? = some b)(hbl:eZ b=true):Read l (pos+1) none acc:=by
 have hlt:=(List.getElem?_eq_some_iff.1 hb).1;refine⟨?_,(fun a h=>by cases h),h.spans,by have:=h.few;omega,by omega⟩;have:=h.sum;simp only[Option.getD_none]at this ⊢;rw[jJ hb,qX b _ hbl]at this;exact this
theorem seg {l:List UInt8}{a pos:Nat}{b:UInt8}(ha:a<=pos)(hb:l[pos]? = some b):l.drop a=(l.drop a).take (pos - a)++b :: l.drop (pos+1):=by
 have e:l.drop pos=(l.drop a).drop (pos - a):=by rw[List.drop_drop];congr 1;omega
 rw[<- jJ hb,e,List.take_append_drop]
theorem seg_no {l:List UInt8}{a pos:Nat}(h:∀ k b,a<=k->k<pos->l[k]? = some b->eZ b=false):∀ b∈(l.drop a).take (pos - a),eZ b=false:=by
 intro b hb;obtain⟨k,hk⟩:=List.mem_iff_getElem?.1 hb;rw[List.getElem?_take]at hk;split at hk
 · rw[List.getElem?_drop]at hk
   exact h (a+k) b (by omega) (by omega) hk
 · cases hk
theorem seg_ne {l:List UInt8}{a pos:Nat}(h1:a<pos)(h2:pos<=l.length):(l.drop a).take (pos - a)≠[]:=by
 intro e;have:=congrArg List.length e;simp at this;omega
theorem aM1 {l:List UInt8}{pos a:Nat}{b:UInt8}{acc:List (Nat × Nat)}(h:Read l pos (some a) acc)(hb:l[pos]? = some b)(hbl:eZ b=true):Read l (pos+1) none (acc++[(a,pos)]):=by
 obtain⟨h1,h2⟩:=h.open_ a rfl;have hlt:=(List.getElem?_eq_some_iff.1 hb).1;refine⟨?_,(fun a h=>by cases h),fun x hx => ?_,by have:=h.few;simp;omega,by omega⟩
 · have hs:=h.sum
   simp only[Option.getD_none,Option.getD_some]at hs ⊢;rw[seg (zT h1) hb,aW2 _ b _ (seg_no h2) hbl (seg_ne h1 (by omega))]at hs;rw[<- hs];simp[fE]
 · rcases List.mem_append.1 hx with hx | hx
   · exact h.spans x hx
   · simp at hx;subst hx;exact⟨by show a<=pos;omega,by show pos<=l.length;omega⟩
theorem read_end {l:List UInt8}{acc:List (Nat × Nat)}(h:Read l l.length none acc):fE l acc=bY l:=by
 have:=h.sum;simp only[Option.getD_none,List.drop_length]at this;rw[aW0,List.append_nil]at this;exact this
theorem tM {l:List UInt8}{a:Nat}{acc:List (Nat × Nat)}(h:Read l l.length (some a) acc):fE l (acc++[(a,l.length)])=bY l/\∀ x∈acc++[(a,l.length)],x.1<=x.2/\x.2<=l.length:=by
 obtain⟨h1,h2⟩:=h.open_ a rfl;constructor
 · have hs:=h.sum
   simp only[Option.getD_some]at hs;have e:l.drop a=(l.drop a).take (l.length - a):=by rw[List.take_of_length_le (by simp)]
   rw[e,aG7 _ (seg_no h2) (seg_ne h1 (zL _))]at hs;rw[<- hs];simp[fE]
 · intro x hx
   rcases List.mem_append.1 hx with hx | hx
   · exact h.spans x hx
   · simp at hx;subst hx;exact⟨by show a<=l.length;omega,zL _⟩
structure WordsTo (l:List UInt8) (fr i:Nat) (out:List (List UInt8)):Prop where
 sum:out++bY (l.drop fr)=bY l
 open_:∀ k b,fr<=k->k<i->l[k]? = some b->eZ b=false
 le:fr<=i
 few:out.length<=fr
theorem wordsTo_in {l:List UInt8}{fr i:Nat}{b:UInt8}{out:List (List UInt8)}(h:WordsTo l fr i out)(hb:l[i]? = some b)(hbl:eZ b=false):WordsTo l fr (i+1) out:=by
 refine⟨h.sum,fun k b' k1 k2 hk => ?_,by have:=h.le;omega,h.few⟩
 by_cases hp:k<i
 · exact h.open_ k b' k1 hp hk
 · obtain rfl:k=i:=by omega
   rw[hb]at hk;cases hk;exact hbl
theorem wordsTo_skip {l:List UInt8}{i:Nat}{b:UInt8}{out:List (List UInt8)}(h:WordsTo l i i out)(hb:l[i]? = some b)(hbl:eZ b=true):WordsTo l (i+1) (i+1) out:=by
 refine⟨?_,fun k b' k1 k2=>by omega,zL _,by have:=h.few;omega⟩;have hs:=h.sum;rw[jJ hb,qX b _ hbl]at hs;exact hs
structure PartsTo (l:List UInt8) (c:UInt8) (fr i:Nat) (out:List (List UInt8)):Prop where
 sum:out++parts (l.drop fr) c=parts l c
 open_:∀ k b,fr<=k->k<i->l[k]? = some b->(b==c)=false
 le:fr<=i
 few:out.length<=fr
theorem take_low (l:List UInt8)(k:Nat)(b:UInt8)(h:l[k]? = some b):(bB l).take (k+1)=(bB l).take k++[fA b]:=by
 rw[List.take_add_one];unfold bB;rw[List.getElem?_map,h];rfl
end Go.Proofs.YthnogdodlhkldaaGreatDoor
namespace Go.Proofs.YthnogdodlhkldaaGreatDoor
theorem gZ {α:Type}{m:List α->Prop}(nil:m [])(append_singleton:∀ L p,m L->m (L++[p]))(L:List α):m L:=by
 have key:∀ n (L:List α),L.length=n->m L:=by
  intro n
  induction n with
  | zero=>intro L h;rw[List.length_eq_zero_iff.1 h];exact nil
  | succ n ih =>
    intro L h;have hne:L≠[]:=by intro e;rw[e]at h;cases h
    rw[<- List.dropLast_concat_getLast hne];exact append_singleton _ _ (ih _ (by simp[h]))
 exact key _ L rfl
def small (b:UInt8):Bool:=decide (97<=b.toNat/\b.toNat<=122)
def bQ (b:UInt8):Bool:=decide (48<=b.toNat/\b.toNat<=57)
def gI (b:UInt8):Bool:=small b || bQ b || b==45
def kO (b:UInt8):Bool:=small b || bQ b || b==43 || b==45 || b==46
def dR:List UInt8->Bool
 | []=>false
 | b :: l=>decide (l.length<20)&&small b&&(b :: l).all kO
def aD2 (first:Nat)(except:List UInt8)(b:UInt8):Bool:=decide (first<=b.toNat/\b.toNat<=126) && !except.contains b
def bH (first:Nat)(except:List UInt8)(l:List UInt8):Bool:=l.all (aD2 first except)
def yD:List UInt8:=[104,116,116,112]
def qL:List UInt8:=[104,116,116,112,115]
def WS:List UInt8:=[119,115]
def WSS:List UInt8:=[119,115,115]
def kM (l:List UInt8):Nat:=if l=yD\/l=WS then 80 else if l=qL\/l=WSS then 443 else 0
theorem aV2 {l:List UInt8}(h:kM l≠0):dR l=true:=by
 unfold kM at h;split at h
 · rename_i h1;rcases h1 with rfl | rfl<;>decide +kernel
 · split at h
   · rename_i h1;rcases h1 with rfl | rfl<;>decide +kernel
   · exact absurd rfl h
def iE (l:List UInt8):Bool := !l.isEmpty&&l.all gI
def pA (b:UInt8):Bool:=b==46
def bW (l:List UInt8):Bool:=decide (l.length<=100)&&(cut pA l).all iE
def dE:Bool->List UInt8->Bool
 | p,[] => !p
 | p,b :: l=>if pA b then !p&&dE true l else gI b&&dE false l
theorem aE9 (p:UInt8->Bool)(b:UInt8)(l:List UInt8):cut p (b :: l)=if p b then [] :: cut p l else ((b :: (cut p l).head (kE p l)) :: (cut p l).tail):=by
 cases hb:p b
 · simp only[Bool.false_eq_true,if_false]
   conv=>lhs;unfold cut
   rw[hb];obtain⟨x,xs,hx⟩:∃ x xs,cut p l=x :: xs:=List.exists_cons_of_ne_nil (kE p l);simp[hx]
 · rw[if_pos rfl]
   exact lY p [] b l (by simp) hb
theorem aP9 (l:List UInt8):dE true l=(cut pA l).all iE/\dE false l=(((cut pA l).head (kE pA l)).all gI&&(cut pA l).tail.all iE):=by
 induction l with
 | nil=>exact⟨rfl,rfl⟩
 | cons b l ih =>
   obtain⟨h1,h2⟩:=ih;have hc:=aE9 pA b l
   cases hb:pA b
   · rw[hb]at hc
     simp only[Bool.false_eq_true,if_false]at hc;have e:dE true (b :: l)=(gI b&&dE false l):=by simp[dE,hb]
     have e2:dE false (b :: l)=(gI b&&dE false l):=by simp[dE,hb]
     rw[e,e2,h2];constructor
     · rw[hc];simp[iE,Bool.and_assoc]
     · simp only[hc];simp[Bool.and_assoc]
   · rw[hb,if_pos rfl]at hc
     have e:dE true (b :: l)=false:=by simp[dE,hb]
     have e2:dE false (b :: l)=dE true l:=by simp[dE,hb]
     rw[e,e2,h1];constructor
     · rw[hc];simp[iE]
     · simp only[hc];simp
theorem aU5 (l:List UInt8):bW l=(decide (l.length<=100)&&dE true l):=by unfold bW;rw[(aP9 l).1]
def sl (b:UInt8):Bool:=b==47
def fX (p:List UInt8):Bool:=decide (p=[46]\/p=[46,46])
def jC (acc:List (List UInt8))(p:List UInt8):List (List UInt8):=if p=[46] then acc else if p=[46,46] then acc.dropLast else acc++[p]
def taken (L:List (List UInt8)):List (List UInt8):=L.foldl jC []
def iZ (L acc:List (List UInt8)):List (List UInt8):=match L.getLast? with | some p=>if fX p then acc++[[]] else acc | none=>acc
def cG (L:List (List UInt8)):List UInt8:=L.flatMap (fun p=>47 :: p)
def aB5 (r:List UInt8):List (List UInt8):=iZ (cut sl r) (taken (cut sl r))
def fT:List UInt8->List UInt8
 | []=>[]
 | b :: r=>if sl b then cG (aB5 r) else []
theorem dQ (L:List (List UInt8))(p:List UInt8):taken (L++[p])=jC (taken L) p:=by simp[taken]
theorem qT {p:List UInt8}(h:fX p=true):p=[46]\/p=[46,46]:=by simpa [fX] using h
theorem dots_not {p:List UInt8}(h:fX p=false):p≠[46]/\p≠[46,46]:=by simpa [fX] using h
theorem jB {acc:List (List UInt8)}{p:List UInt8}(h:fX p=false):jC acc p=acc++[p]:=by
 obtain⟨h1,h2⟩:=dots_not h;unfold jC;rw[if_neg h1,if_neg h2]
theorem aX6 {acc:List (List UInt8)}{p x:List UInt8}(h:x∈jC acc p):x∈acc\/(x=p/\fX p=false):=by
 cases hd:fX p
 · rw[jB hd]at h;simp at h;rcases h with h | h;exact .inl h;exact .inr ⟨h,rfl⟩
 · rcases qT hd with rfl | rfl
   · unfold jC at h;rw[if_pos rfl]at h;exact .inl h
   · unfold jC at h;rw[if_neg (by decide),if_pos rfl]at h;exact .inl ((List.dropLast_sublist _).subset h)
theorem aX0 (L:List (List UInt8)):∀ x∈taken L,x∈L/\fX x=false:=by
 induction L using gZ with
 | nil=>intro x hx;cases hx
 | append_singleton L p ih =>
   intro x hx;rw[dQ]at hx;rcases aX6 hx with h | ⟨rfl,h⟩
   · exact⟨by simp[(ih x h).1],(ih x h).2⟩
   · exact⟨by simp,h⟩
def wt (L:List (List UInt8)):Nat:=(cG L).length
theorem mW (L:List (List UInt8))(p:List UInt8):wt (L++[p])=wt L+(p.length+1):=by simp[wt,cG]
theorem yG (L:List (List UInt8)):wt L.dropLast<=wt L:=by
 induction L using gZ with
 | nil=>exact zL _
 | append_singleton L p ih=>rw[List.dropLast_concat,mW];omega
theorem aS6 (acc:List (List UInt8))(p:List UInt8):wt (jC acc p)<=wt acc+(if fX p then 0 else p.length+1):=by
 cases hd:fX p
 · rw[jB hd,mW];simp
 · rcases qT hd with rfl | rfl
   · unfold jC;rw[if_pos rfl];simp
   · unfold jC;rw[if_neg (by decide),if_pos rfl];have:=yG acc;simpa using this
theorem wt_taken (L:List (List UInt8)):wt (taken L)<=wt L:=by
 induction L using gZ with
 | nil=>exact zL _
 | append_singleton L p ih =>
   rw[dQ,mW];have:=aS6 (taken L) p;split at this<;>omega
theorem lV (L acc:List (List UInt8))(p:List UInt8):iZ (L++[p]) acc=if fX p then acc++[[]] else acc:=by simp[iZ]
theorem wt_end (L:List (List UInt8)):wt (iZ L (taken L))<=wt L:=by
 rcases List.eq_nil_or_concat L with rfl | ⟨L,p,rfl⟩
 · exact zL _
 · rw[List.concat_eq_append,lV,dQ,mW]
   have h1:=aS6 (taken L) p;have h2:=wt_taken L
   cases hd:fX p
   · rw[hd]at h1;simp at h1 ⊢;omega
   · rw[hd]at h1;simp only[if_true]at h1 ⊢
     rw[mW];rcases qT hd with rfl | rfl<;>simp at h1 ⊢ <;> omega
theorem wt_cut (l:List UInt8):wt (cut sl l)=l.length+1:=by
 have h1:=eU sl l;have h2:=dU sl l
 have h3:∀ L:List (List UInt8),wt L=(L.map List.length).sum+L.length:=fun L=>by
  induction L with
  | nil=>rfl
  | cons a L ih =>
    have:wt (a :: L)=(a.length+1)+wt L:=by simp[wt,cG];omega
    rw[this,ih];simp;omega
 rw[h3];omega
theorem tU (l:List UInt8):(fT l).length<=l.length:=by
 unfold fT;split
 · exact zL _
 · rename_i b r
   split
   · have h1:=wt_end (cut sl r)
     rw[wt_cut]at h1;exact h1
   · exact Nat.zero_le _
theorem outC_ne (r:List UInt8):aB5 r≠[]:=by
 unfold aB5;rcases List.eq_nil_or_concat (cut sl r)with h | ⟨L,p,h⟩
 · exact absurd h (kE sl r)
 · rw[h,List.concat_eq_append,lV,dQ]
   cases hd:fX p
   · rw[jB hd];simp
   · simp
theorem outC_mem (r:List UInt8):∀ x∈aB5 r,fX x=false/\∀ b∈x,sl b=false:=by
 unfold aB5;have ht:=aX0 (cut sl r);have hc:=aV3 sl r;intro x hx
 have:x∈taken (cut sl r)\/x=[]:=by
  unfold iZ at hx;split at hx
  · split at hx
    · simpa using hx
    · exact .inl hx
  · exact .inl hx
 rcases this with h | rfl
 · exact⟨(ht x h).2,hc x (ht x h).1⟩
 · exact⟨rfl,by simp⟩
theorem aE8 (x:List UInt8)(L:List (List UInt8))(h:∀ y∈x :: L,∀ b∈y,sl b=false):cut sl (x++cG L)=x :: L:=by
 induction L generalizing x with
 | nil=>simp[cG];exact lJ sl x (h x (by simp))
 | cons y L ih =>
   have e:x++cG (y :: L)=x++47 :: (y++cG L):=by simp[cG]
   rw[e,lY sl x 47 _ (h x (by simp)) (by decide),ih y (fun z hz=>h z (by simp[List.mem_cons.1 hz]))]
theorem yQ (L:List (List UInt8))(h:∀ x∈L,fX x=false):taken L=L:=by
 induction L using gZ with
 | nil=>rfl
 | append_singleton L p ih=>rw[dQ,ih (fun x hx=>h x (by simp[hx])),jB (h p (by simp))]
theorem aQ4 (L acc:List (List UInt8))(h:∀ x∈L,fX x=false):iZ L acc=acc:=by
 rcases List.eq_nil_or_concat L with rfl | ⟨M,p,rfl⟩
 · rfl
 · rw[List.concat_eq_append,lV,h p (by simp)];rfl
theorem zD (r:List UInt8):cG (cut sl r)=47 :: r:=by
 induction r with
 | nil=>rfl
 | cons b r ih =>
   rw[aE9]
   cases hb:sl b
   · simp only[Bool.false_eq_true,if_false]
     obtain⟨x,xs,hx⟩:∃ x xs,cut sl r=x :: xs:=List.exists_cons_of_ne_nil (kE sl r);rw[hx]at ih;simp only[hx,List.head_cons,List.tail_cons];simp[cG]at ih ⊢;exact ih
   · rw[if_pos rfl]
     have e:b=47:=by simpa [sl] using hb
     simp only[cG,List.flatMap_cons]at ih ⊢;rw[ih,e];rfl
theorem xQ (r:List UInt8)(h:∀ x∈cut sl r,fX x=false):fT (47 :: r)=47 :: r:=by
 show cG (aB5 r)=_;unfold aB5;rw[yQ _ h,aQ4 _ _ h,zD]
theorem nF (x:List UInt8)(L:List (List UInt8)):cG (x :: L)=47 :: (x++cG L):=by simp[cG]
theorem bH8 (r:List UInt8):fT (47 :: r)=47 :: r↔∀ x∈cut sl r,fX x=false:=by
 constructor
 · intro h
   have e:cG (aB5 r)=47 :: r:=h;have hm:=outC_mem r;obtain⟨x,L,hx⟩:=List.exists_cons_of_ne_nil (outC_ne r);rw[hx]at hm e;rw[nF]at e;have e2:x++cG L=r:=by simpa using e
   rw[<- e2,aE8 x L (fun y hy=>(hm y hy).2)];exact fun y hy=>(hm y hy).1
 · exact xQ r
def fI (l:List UInt8):Bool := !l.isEmpty&&bH 33 [63,35] l&&decide (fT l=l)
structure U where
 o:Bool
 s:List UInt8
 h:List UInt8
 p:Int
 pa:List UInt8
 q:List UInt8
 deriving DecidableEq
def fW (l:List UInt8):Bool:=l.isEmpty || (l.head? == some 63&&bH 33 [35] l)
def iQ (p:Int):List UInt8:=if p=0 then [] else 58 :: Lib.decDigits p.toNat
def kH (u:U):List UInt8:=if u.o then u.s++58 :: u.pa else u.s++58 :: 47 :: 47 :: (u.h++(iQ u.p++(u.pa++u.q)))
def cW (u:U):Bool:=decide (kM u.s≠0)&&bW u.h&&decide (0<=u.p)&&decide (u.p<=65535)&&decide (u.p≠(kM u.s:Int))&&fI u.pa&&fW u.q
def cY (u:U):Bool:=dR u.s&&decide (kM u.s=0)&&u.h.isEmpty&&decide (u.p=0)&&u.q.isEmpty&&bH 32 [35] u.pa&&decide (eI u.pa=u.pa)
def aT (u:U):Bool:=(if u.o then cY u else cW u)&&decide ((kH u).length<=500)
def upto (p:UInt8->Bool)(l:List UInt8):List UInt8:=l.takeWhile (fun b => !p b)
def dD (p:UInt8->Bool)(l:List UInt8):List UInt8:=l.dropWhile (fun b => !p b)
theorem aW8 (p:UInt8->Bool)(l:List UInt8):upto p l++dD p l=l:=List.takeWhile_append_dropWhile
def eR (c:UInt8)(b:UInt8):Bool:=b==c
def isE (b:UInt8):Bool:=b==47 || b==63
def mD (l:List UInt8):Nat:=l.foldl (fun n b=>n * 10+(b.toNat - 48)) 0
def tP (l:List UInt8):Option Nat:=if l=[]\/5<l.length\/l.all bQ=false then none else some (mD l)
end Go.Proofs.YthnogdodlhkldaaGreatDoor
namespace Go.Proofs.YthnogdodlhkldaaGreatDoor
theorem bC3 (p:UInt8->Bool)(l:List UInt8)(h:∀ b∈l,p b=false):upto p l=l/\dD p l=[]:=by
 induction l with
 | nil=>exact⟨rfl,rfl⟩
 | cons b l ih =>
   have hb:=h b (by simp);obtain⟨h1,h2⟩:=ih (fun x hx=>h x (by simp[hx]));unfold upto dD at *;rw[List.takeWhile_cons,List.dropWhile_cons,hb];simp[h1,h2]
theorem aB4 (p:UInt8->Bool)(a:List UInt8)(c:UInt8)(r:List UInt8)(ha:∀ b∈a,p b=false)(hc:p c=true):upto p (a++c :: r)=a/\dD p (a++c :: r)=c :: r:=by
 induction a with
 | nil =>
   unfold upto dD;rw[List.nil_append,List.takeWhile_cons,List.dropWhile_cons,hc];simp
 | cons b a ih =>
   have hb:=ha b (by simp);obtain⟨h1,h2⟩:=ih (fun x hx=>ha x (by simp[hx]));unfold upto dD at *;rw[List.cons_append,List.takeWhile_cons,List.dropWhile_cons,hb];simp[h1,h2]
theorem eL (p:UInt8->Bool)(l:List UInt8):(upto p l).length+(dD p l).length=l.length:=by
 have:=congrArg List.length (aW8 p l);rw[List.length_append]at this;exact this
theorem bC4 (p:UInt8->Bool)(l:List UInt8)(c:UInt8)(r:List UInt8)(h:dD p l=c :: r):p c=true:=by
 induction l with
 | nil=>cases h
 | cons b l ih =>
   unfold dD at h ih;rw[List.dropWhile_cons]at h
   cases hb:p b
   · rw[hb]at h;simp at h;exact ih h
   · rw[hb]at h;simp at h;rw[<- h.1];exact hb
theorem upto_no (p:UInt8->Bool)(l:List UInt8):∀ b∈upto p l,p b=false:=by
 induction l with
 | nil=>intro b hb;cases hb
 | cons c l ih =>
   intro b hb;unfold upto at hb ih;rw[List.takeWhile_cons]at hb
   cases hc:p c
   · rw[hc]at hb
     simp at hb;rcases hb with rfl | hb
     · exact hc
     · exact ih b (by simpa using hb)
   · rw[hc]at hb;simp at hb
structure CutTo (p:UInt8->Bool) (l:List UInt8) (fr i:Nat) (out:List (List UInt8)):Prop where
 sum:out++cut p (l.drop fr)=cut p (l.drop 1)
 open_:∀ k b,fr<=k->k<i->l[k]? = some b->p b=false
 le:fr<=i
 few:out.length<fr
theorem aF0 (p:UInt8->Bool)(l:List UInt8):CutTo p l 1 1 []:=⟨rfl,fun k b h1 h2=>by omega,zL _,Nat.zero_lt_one⟩
theorem cutTo_in {p:UInt8->Bool}{l:List UInt8}{fr i:Nat}{b:UInt8}{out:List (List UInt8)}(h:CutTo p l fr i out)(hb:l[i]? = some b)(hbl:p b=false):CutTo p l fr (i+1) out:=by
 refine⟨h.sum,fun k b' k1 k2 hk => ?_,by have:=h.le;omega,h.few⟩
 by_cases hp:k<i
 · exact h.open_ k b' k1 hp hk
 · obtain rfl:k=i:=by omega
   rw[hb]at hk;cases hk;exact hbl
theorem aV4 {p:UInt8->Bool}{l:List UInt8}{a pos:Nat}(h:∀ k b,a<=k->k<pos->l[k]? = some b->p b=false):∀ b∈(l.drop a).take (pos - a),p b=false:=by
 intro b hb;obtain⟨k,hk⟩:=List.mem_iff_getElem?.1 hb;rw[List.getElem?_take]at hk;split at hk
 · rw[List.getElem?_drop]at hk
   exact h (a+k) b (by omega) (by omega) hk
 · cases hk
theorem bH4 {p:UInt8->Bool}{l:List UInt8}{fr i:Nat}{b:UInt8}{out:List (List UInt8)}(h:CutTo p l fr i out)(hb:l[i]? = some b)(hbl:p b=true):CutTo p l (i+1) (i+1) (out++[(l.drop fr).take (i - fr)]):=by
 refine⟨?_,fun k b' k1 k2=>by omega,zL _,by have:=h.few;have:=h.le;simp;omega⟩;have hs:=h.sum;rw[seg h.le hb,lY p _ b _ (aV4 h.open_) hbl]at hs;rw[<- hs];simp
theorem bH5 {p:UInt8->Bool}{l:List UInt8}{fr:Nat}{out:List (List UInt8)}(h:CutTo p l fr l.length out):out++[(l.drop fr).take (l.length - fr)]=cut p (l.drop 1):=by
 have hs:=h.sum;have e:l.drop fr=(l.drop fr).take (l.length - fr):=by rw[List.take_of_length_le (by simp)]
 rw[e,lJ p _ (aV4 h.open_)]at hs;exact hs
theorem nC (L:List (List UInt8)):(taken L).length<=L.length:=by
 induction L using gZ with
 | nil=>exact zL _
 | append_singleton L p ih =>
   rw[dQ,List.length_append]
   have:(jC (taken L) p).length<=(taken L).length+1:=by
    unfold jC;split
    · omega
    · split
      · rw[List.length_dropLast];omega
      · simp
   simp;omega
theorem vW (x:List UInt8)(L:List (List UInt8)):47 :: Lib.join (x :: L) [47]=cG (x :: L):=by
 induction L generalizing x with
 | nil=>simp[Lib.join,cG,List.intercalate]
 | cons y L ih =>
   have:=ih y;rw[nF,<- this];simp[Lib.join,List.intercalate]
theorem aZ3 {u:U}(h:aT u=true):(kH u).length<=500:=by
 unfold aT at h;simp at h;exact h.2
theorem aJ1 {u:U}(h:aT u=true):u.s.length<=500/\u.h.length<=500/\u.pa.length<=500/\u.q.length<=500:=by
 have h1:=aZ3 h;unfold aT at h
 cases ho:u.o
 · unfold kH at h1
   rw[ho]at h1;simp only[Bool.false_eq_true,if_false,List.length_append,List.length_cons]at h1;omega
 · rw[ho]at h
   unfold kH at h1;rw[ho]at h1;simp only[if_true,List.length_append,List.length_cons]at h1;simp only[if_true,cY,Bool.and_eq_true,List.isEmpty_iff,decide_eq_true_eq]at h;obtain⟨⟨⟨⟨⟨⟨⟨h2,h3⟩,h4⟩,h5⟩,h6⟩,_⟩,_⟩,_⟩:=h;rw[h4,h6];simp;omega
theorem uJ {u:U}(h:aT u=true):dR u.s=true:=by
 unfold aT at h
 cases ho:u.o
 · rw[ho]at h
   simp only[Bool.false_eq_true,if_false,cW,Bool.and_eq_true,decide_eq_true_eq]at h;exact aV2 h.1.1.1.1.1.1.1
 · rw[ho]at h
   simp only[if_true,cY,Bool.and_eq_true]at h;exact h.1.1.1.1.1.1.1
end Go.Proofs.YthnogdodlhkldaaGreatDoor
namespace Go.Proofs.YthnogdodlhkldaaGreatDoor
theorem jL {p:UInt8->Prop}(h:∀ n:Fin 256,p (UInt8.ofNat n.val))(b:UInt8):p b:=by
 have:=h ⟨b.toNat,b.toNat_lt⟩
 simpa using this
theorem aI4 (b:UInt8):kO b=true->fA b=b/\eR 58 b=false/\eR 35 b=false/\eZ b=false:=by revert b;exact jL (by decide +kernel)
theorem aB9 (b:UInt8):(gI b || pA b)=true->fA b=b/\eR 58 b=false/\eR 35 b=false/\isE b=false:=by revert b;exact jL (by decide +kernel)
theorem aE4 (b:UInt8):bQ b=true->eR 58 b=false/\eR 35 b=false/\isE b=false:=by revert b;exact jL (by decide +kernel)
theorem oO {b:UInt8}{l:List UInt8}:dR (b :: l)=(decide (l.length<20)&&small b&&(b :: l).all kO):=rfl
theorem schM_all {l:List UInt8}(h:dR l=true):l≠[]/\∀ b∈l,kO b=true:=by
 cases l with
 | nil=>cases h
 | cons c l =>
   rw[oO,Bool.and_eq_true,List.all_eq_true]at h;exact⟨by simp,h.2⟩
theorem bG2 {l:List UInt8}:∀ {p:Bool},dE p l=true->∀ b∈l,(gI b || pA b)=true:=by
 induction l with
 | nil=>intro p _ b hb;cases hb
 | cons c l ih =>
   intro p h b hb;unfold dE at h
   cases hd:pA c
   · rw[hd]at h
     simp only[Bool.false_eq_true,if_false,Bool.and_eq_true]at h;rcases List.mem_cons.1 hb with rfl | hb
     · rw[h.1];rfl
     · exact ih h.2 b hb
   · rw[hd]at h
     simp only[if_true,Bool.and_eq_true]at h;rcases List.mem_cons.1 hb with rfl | hb
     · rw[hd,Bool.or_true]
     · exact ih h.2 b hb
theorem uX {l:List UInt8}(h:bW l=true):∀ b∈l,(gI b || pA b)=true:=by
 rw[aU5,Bool.and_eq_true]at h;exact bG2 h.2
theorem qG (k:Nat)(h:k<10):bQ (UInt8.ofNat (48+k))=true/\(UInt8.ofNat (48+k)).toNat - 48=k :=
 (show ∀ k:Fin 10,bQ (UInt8.ofNat (48+k.val))=true/\(UInt8.ofNat (48+k.val)).toNat - 48=k.val by decide +kernel) ⟨k,h⟩
theorem dec_spec (u:Nat):(∀ b∈Lib.decDigits u,bQ b=true)/\mD (Lib.decDigits u)=u:=by
 induction u using Nat.strongRecOn with
 | _ u ih =>
   by_cases h:u<10
   · rw[Lib.decDigits,dif_pos h]
     obtain⟨h1,h2⟩:=qG u h;refine⟨fun b hb=>by rw[List.mem_singleton.1 hb];exact h1,?_⟩;show 0 * 10+((UInt8.ofNat (48+u)).toNat - 48)=u;rw[h2];omega
   · rw[Lib.decDigits,dif_neg h]
     obtain⟨h1,h2⟩:=qG (u % 10) (by omega);obtain⟨g1,g2⟩:=ih (u / 10) (by omega);refine⟨fun b hb => ?_,?_⟩
     · rcases List.mem_append.1 hb with hb | hb
       · exact g1 b hb
       · rw[List.mem_singleton.1 hb];exact h1
     · unfold mD at g2 ⊢
       rw[List.foldl_append,g2];show u / 10 * 10+((UInt8.ofNat (48+u % 10)).toNat - 48)=u;rw[h2];omega
theorem yK {p:UInt8->Bool}{a:List UInt8}(r:List UInt8)(h:∀ b∈a,p b=false):upto p (a++r)=a++upto p r/\dD p (a++r)=dD p r:=by
 induction a with
 | nil=>exact⟨rfl,rfl⟩
 | cons c a ih =>
   have hc:=h c (by simp);obtain⟨h1,h2⟩:=ih (fun x hx=>h x (by simp[hx]));unfold upto dD at *;rw[List.cons_append,List.takeWhile_cons,List.dropWhile_cons,hc];simp[h1,h2]
theorem aW7 {p:UInt8->Bool}{c:UInt8}(r:List UInt8)(h:p c=true):upto p (c :: r)=[]/\dD p (c :: r)=c :: r:=aB4 p [] c r (by simp) h
theorem uC {p:UInt8->Bool}{c:UInt8}(r:List UInt8)(h:p c=false):upto p (c :: r)=c :: upto p r/\dD p (c :: r)=dD p r:=by
 have:=yK (p:=p) (a:=[c]) r (by simpa using h);exact this
theorem wU {u:U}(h:aT u=true)(ho:u.o=false):kM u.s≠0/\bW u.h=true/\0<=u.p/\u.p<=65535/\u.p≠(kM u.s:Int)/\fI u.pa=true/\fW u.q=true:=by
 unfold aT at h;rw[ho]at h;simp only[Bool.false_eq_true,if_false,cW,Bool.and_eq_true,decide_eq_true_eq]at h;obtain⟨⟨⟨⟨⟨⟨⟨h1,h2⟩,h3⟩,h4⟩,h5⟩,h6⟩,h7⟩,h8⟩:=h;exact⟨h1,h2,h3,h4,h5,h6,h7⟩
theorem bB4 (p:Int):∀ b∈iQ p,(b=58\/bQ b=true):=by
 unfold iQ;split
 · intro b hb;cases hb
 · intro b hb
   rcases List.mem_cons.1 hb with h | h
   · exact .inl h
   · exact .inr ((dec_spec _).1 b h)
def placeM (u:U):List UInt8:=u.s++58 :: 47 :: 47 :: (u.h++iQ u.p)
theorem place_no {u:U}(h:aT u=true)(ho:u.o=false):∀ b∈placeM u,eR 35 b=false:=by
 obtain⟨h1,h2,_⟩:=wU h ho;have h3:=schM_all (uJ h);intro b hb;unfold placeM at hb;simp only[List.mem_append,List.mem_cons]at hb;rcases hb with hb | rfl | rfl | rfl | hb | hb
 · exact(aI4 b (h3.2 b hb)).2.2.1
 · rfl
 · rfl
 · rfl
 · exact(aB9 b (uX h2 b hb)).2.2.1
 · rcases bB4 _ b hb with rfl | hb
   · rfl
   · exact(aE4 b hb).2.1
end Go.Proofs.YthnogdodlhkldaaGreatDoor
namespace Go.Proofs.YthnogdodlhkldaaGreatDoor
theorem kS {α:Type}{P:List α->Prop}(h0:P [])(hs:∀ l b,P l->P (l++[b]))(l:List α):P l:=by
 rw[<- l.reverse_reverse];generalize l.reverse=r
 induction r with
 | nil=>exact h0
 | cons a r ih=>rw[List.reverse_cons];exact hs _ _ ih
def bU:Nat->Nat->List Bool
 | 0,_=>[]
 | k+1,x=>bU k (x / 2)++[x % 2==1]
def mE (l:List Bool):Nat:=l.foldl (fun n b=>2 * n+b.toNat) 0
def dO (t:Nat)(l:List Nat):List Bool:=(l.map (bU t)).flatten
def aS9 (t:Nat)(p:List Nat × List Bool)(b:Bool):List Nat × List Bool:=if p.2.length+1=t then (p.1++[mE (p.2++[b])],[]) else (p.1,p.2++[b])
def kP (t:Nat)(bs:List Bool):List Nat × List Bool:=bs.foldl (aS9 t) ([],[])
theorem cA (t x:Nat):(bU t x).length=t:=by
 induction t generalizing x with
 | zero=>rfl
 | succ k ih=>rw[bU,List.length_append,ih];rfl
theorem kY (l:List Bool)(b:Bool):mE (l++[b])=2 * mE l+b.toNat:=by simp[mE]
theorem aO3 (l:List Bool):mE l<2 ^ l.length:=by
 induction l using kS with
 | h0=>decide
 | hs l b ih =>
   rw[kY,List.length_append,List.length_singleton,Nat.pow_succ]
   cases b<;>simp<;>omega
theorem bD0 (t x:Nat)(h:x<2 ^ t):mE (bU t x)=x:=by
 induction t generalizing x with
 | zero =>
   have:x=0:=by simpa using h
   subst this;rfl
 | succ k ih =>
   rw[Nat.pow_succ]at h;rw[bU,kY,ih (x / 2) (by omega)];rcases Nat.mod_two_eq_zero_or_one x with e | e
   · rw[e];simp;omega
   · rw[e];simp;omega
theorem bJ2 (l:List Bool):bU l.length (mE l)=l:=by
 induction l using kS with
 | h0=>rfl
 | hs l b ih =>
   rw[List.length_append,List.length_singleton,bU,kY]
   cases b
   · have e1:(2 * mE l+false.toNat) / 2=mE l:=by simp
     have e2:((2 * mE l+false.toNat) % 2==1)=false:=by simp
     rw[e1,e2,ih]
   · have e1:(2 * mE l+true.toNat) / 2=mE l:=by simp;omega
     have e2:((2 * mE l+true.toNat) % 2==1)=true:=by simp
     rw[e1,e2,ih]
theorem vL (t x j:Nat)(h:j<t):(bU t x)[j]? = some (x / 2 ^ (t - 1 - j) % 2==1):=by
 induction t generalizing x with
 | zero=>omega
 | succ k ih =>
   rw[bU]
   by_cases hj:j<k
   · rw[List.getElem?_append_left (by rw[cA];exact hj),ih (x / 2) hj,Nat.div_div_eq_div_mul]
     have:k+1 - 1 - j=(k - 1 - j)+1:=by omega
     rw[this,Nat.pow_succ,Nat.mul_comm]
   · obtain rfl:j=k:=by omega
     rw[List.getElem?_append_right (by rw[cA];exact zL _),cA,Nat.sub_self];simp
theorem lD (t:Nat)(a b:List Nat):dO t (a++b)=dO t a++dO t b:=by simp[dO]
theorem vB (t x:Nat)(a:List Nat):dO t (x :: a)=bU t x++dO t a:=by simp[dO]
theorem flat_one (t x:Nat):dO t [x]=bU t x:=by simp[dO]
theorem eD (t:Nat)(a:List Nat):(dO t a).length=t * a.length:=by
 induction a with
 | nil=>rfl
 | cons x a ih=>rw[vB,List.length_append,cA,ih,List.length_cons,Nat.mul_succ];omega
theorem bG6 (t:Nat)(a:List Nat)(k x:Nat)(h:a[k]? = some x):dO t (a.take (k+1))=dO t (a.take k)++bU t x:=by
 rw[List.take_add_one,h];simp[dO]
theorem aD9 (t:Nat)(bs:List Bool)(b:Bool):kP t (bs++[b])=aS9 t (kP t bs) b:=by simp[kP]
theorem nQ (t:Nat)(h0:0<t)(bs:List Bool):bs=dO t (kP t bs).1++(kP t bs).2/\(kP t bs).2.length<t/\∀ x∈(kP t bs).1,x<2 ^ t:=by
 induction bs using kS with
 | h0=>exact⟨rfl,h0,fun x hx=>by cases hx⟩
 | hs bs b ih =>
   rw[aD9];generalize kP t bs=p at ih;obtain⟨m,h⟩:=p;obtain⟨h1,h2,h3⟩:=ih;simp only at h1 h2 h3;unfold aS9
   by_cases e:h.length+1=t
   · have el:(h++[b]).length=t:=by simpa using e
     rw[if_pos e];refine⟨?_,h0,fun x hx => ?_⟩
     · simp only[List.append_nil]
       rw[lD,flat_one,<- el,bJ2,el,h1,List.append_assoc]
     · simp only[List.mem_append,List.mem_singleton]at hx
       rcases hx with hx | rfl
       · exact h3 x hx
       · have:=aO3 (h++[b])
         rw[el]at this;exact this
   · rw[if_neg e]
     refine⟨?_,by simp;omega,h3⟩;simp only;rw[h1,List.append_assoc]
def SG:List UInt8:=[65,66,67,68,69,70,71,72,73,74,75,76,77,78,79,80,81,82,83,84,85,86,87,88,89,90,97,98,99,100,101,102,103,104,105,106,107,108,109,110,111,112,113,114,115,116,117,118,119,120,121,122,48,49,50,51,52,53,54,55,56,57,43,47]
def sgn (n:Nat):UInt8:=SG.getD n 0
def plB (c:UInt8):UInt8:=if c=45 then 43 else if c=95 then 47 else c
def mY (c:UInt8):Int:=Lib.indexByte SG (plB c)
def gO (c:UInt8):Nat:=(mY c).toNat
theorem bJ4 {P:UInt8->Prop}(h:∀ n:Fin 256,P (UInt8.ofNat n.val))(c:UInt8):P c:=by
 have:=h ⟨c.toNat,c.toNat_lt⟩
 simpa using this
theorem aS8 (c:UInt8) : -1<=mY c/\mY c<=63:=by
 revert c;refine bJ4 ?_;decide +kernel
theorem val_fill:mY 61 = -1:=by decide +kernel
theorem vR (c:UInt8):gO c<64:=by have:=aS8 c;unfold gO;omega
theorem yJ {c:UInt8}(h:0<=mY c):(gO c:Int)=mY c:=by unfold gO;omega
theorem plB_id {c:UInt8}(h:c≠45)(h2:c≠95):plB c=c:=by unfold plB;rw[if_neg h,if_neg h2]
end Go.Proofs.YthnogdodlhkldaaGreatDoor
namespace Go.Proofs.YthnogdodlhkldaaGreatDoor
def hd (s:List UInt8):List UInt8:=Lib.trimRightB s 61
def iJ (h:List UInt8):Bool:=h.all fun c=>decide (0<=mY c)
def cU (s:List UInt8):Bool := !(hd s).isEmpty&&decide (s.length - (hd s).length<=2)&&iJ (hd s)
def gL (h:List UInt8):List Bool:=dO 6 (h.map gO)
def mR (s:List UInt8):List UInt8 × Bool :=
 if s=[] then ([],true)
 else if cU s=false then ([],false)
 else if (hd s).length<s.length/\s.length % 4≠0 then ([],false)
 else if 6<=(kP 8 (gL (hd s))).2.length\/mE (kP 8 (gL (hd s))).2≠0 then ([],false)
 else ((kP 8 (gL (hd s))).1.map Nat.toUInt8,true)
theorem xK (s:List UInt8)(b:UInt8):hd (s++[b])=if b=61 then hd s else s++[b]:=by
 unfold hd Lib.trimRightB;rw[List.reverse_append,List.reverse_singleton,List.singleton_append,List.dropWhile_cons]
 by_cases e:b=61
 · subst e
   rw[if_pos (by rfl),if_pos rfl]
 · rw[if_neg (by simpa using e),if_neg e]
   simp
theorem aU7 (l:List UInt8)(k:Nat):hd (l++List.replicate k 61)=hd l:=by
 induction k with
 | zero=>simp
 | succ k ih=>rw[List.replicate_succ',<- List.append_assoc,xK,if_pos rfl,ih]
def jZ (l:List UInt8):Prop:=∀ b,l.getLast? = some b->b≠61
theorem aQ1 (l:List UInt8)(h:jZ l):hd l=l:=by
 induction l using kS with
 | h0=>rfl
 | hs l b _ =>
   rw[xK,if_neg (h b (by simp))]
theorem hd_of (l:List UInt8)(k:Nat)(h:jZ l):hd (l++List.replicate k 61)=l:=by
 rw[aU7,aQ1 l h]
theorem aD6 (s:List UInt8):∃ k,s=hd s++List.replicate k 61/\jZ (hd s):=by
 induction s using kS with
 | h0=>exact⟨0,rfl,fun b h=>by cases h⟩
 | hs s b ih =>
   rw[xK]
   by_cases e:b=61
   · subst e
     obtain⟨k,h1,h2⟩:=ih;rw[if_pos rfl];refine⟨k+1,?_,h2⟩;rw[List.replicate_succ',<- List.append_assoc,<- h1]
   · rw[if_neg e]
     exact⟨0,by simp,fun c h=>by simp at h;subst h;exact e⟩
theorem aU6 (s:List UInt8):(hd s).length<=s.length:=by
 obtain⟨k,h,_⟩:=aD6 s;have:=congrArg List.length h;rw[List.length_append]at this;omega
theorem nR {h:List UInt8}(e:iJ h=true):∀ c∈h,0<=mY c:=by
 intro c hc;have:=List.all_eq_true.1 e c hc
 simpa using this
theorem nS {h:List UInt8}(e:iJ h=true):jZ h:=by
 intro b hb e61;subst e61;have:=nR e 61 (List.mem_of_getLast? hb);rw[val_fill]at this;omega
def bJ7 (s h:List UInt8):Prop:=∃ k,k<=2/\s=h++List.replicate k 61/\(k=2\/jZ h)
theorem uY {s h:List UInt8}(e:bJ7 s h):cU s=(!h.isEmpty&&iJ h):=by
 obtain⟨k,hk,rfl,ho⟩:=e
 by_cases hh:jZ h
 · unfold cU
   rw[hd_of h k hh,List.length_append,List.length_replicate,decide_eq_true (by omega)];simp
 · have hg:iJ h=false:=by
    cases hg:iJ h with
    | false=>rfl
    | true=>exact absurd (nS hg) hh
   rw[hg,Bool.and_false]
   obtain rfl:k=2:=by
    rcases ho with ho | ho
    · exact ho
    · exact absurd ho hh
   unfold cU;rw[aU7];obtain⟨k',h1,h2⟩:=aD6 h;have hl:=congrArg List.length h1;rw[List.length_append,List.length_replicate]at hl
   have hk':k'≠0:=fun h0=>by
    subst h0;simp only[List.replicate_zero,List.append_nil]at h1;rw[<- h1]at h2;exact hh h2
   rw[decide_eq_false (by rw[List.length_append,List.length_replicate];omega)];simp
theorem head_is {s h:List UInt8}(e:bJ7 s h)(hf:cU s=true):hd s=h:=by
 have:=uY e;rw[hf]at this
 have hg:iJ h=true:=by
  cases hg:iJ h with
  | false=>rw[hg]at this;simp at this
  | true=>rfl
 obtain⟨k,hk,rfl,ho⟩:=e;exact hd_of h k (nS hg)
end Go.Proofs.YthnogdodlhkldaaGreatDoor
namespace Go.Proofs.YthnogdodlhkldaaGreatDoor
structure bI where
 k:Int
 t:List UInt8
 s:List UInt8
 h:List UInt8
 w:Bool
 p:Int
 pa:List UInt8
 deriving DecidableEq
def bI.zero:bI:=⟨0,[],[],[],false,0,[]⟩
def KEPT:List (List UInt8):=[[39,110,111,110,101,39],[39,115,101,108,102,39],[39,117,110,115,97,102,101,45,105,110,108,105,110,101,39],[39,117,110,115,97,102,101,45,101,118,97,108,39],[39,119,97,115,109,45,117,110,115,97,102,101,45,101,118,97,108,39],[39,115,116,114,105,99,116,45,100,121,110,97,109,105,99,39],[39,117,110,115,97,102,101,45,104,97,115,104,101,115,39],[39,114,101,112,111,114,116,45,115,97,109,112,108,101,39]]
def aN (k:Int):List UInt8:=if 1<=k/\k<=8 then KEPT.getD (k - 1).toNat [] else []
def bJ8 (b:UInt8):Bool:=aD2 33 [63,35,44,59,58] b
def cF (l:List UInt8):Bool:=decide (l.length<=200)&&(l.isEmpty || l.head? == some 47)&&l.all bJ8
def bK (a:bI):Bool:=a.h.isEmpty && !a.w&&decide (a.p=0)&&a.pa.isEmpty
def aZ (a:bI):Bool:=a.t.isEmpty&&(a.s.isEmpty || dR a.s)&&(a.h.isEmpty || bW a.h)&&(!a.h.isEmpty || a.w)&&decide (-1<=a.p/\a.p<=65535)&&cF a.pa
def aL (a:bI):Bool :=
 if a.k=9 then bK a&&a.s.isEmpty&&decide (a.t.length<=200)&&cU a.t
 else if a.k=10 then bK a&&a.s.isEmpty&&decide (a.t.length=16)
 else if a.k=11 then bK a&&a.t.isEmpty&&dR a.s
 else if a.k=12 then aZ a
 else !(aN a.k).isEmpty&&bK a&&a.s.isEmpty&&a.t.isEmpty
def NON:List UInt8:=[39,110,111,110,99,101,45]
def MRK:List UInt8:=[39,109,97,114,107,45]
def mV (l t:List UInt8):Bool:=decide (bB (l.take t.length)=t)
def gV (l:List UInt8):bI :=
 if mV l NON then ⟨9,(l.drop 7).dropLast,[],[],false,0,[]⟩
 else if mV l MRK then ⟨10,(mR ((l.drop 6).dropLast)).1,[],[],false,0,[]⟩
 else match ([1,2,3,4,5,6,7,8]:List Int).find? (fun k=>decide (bB l=aN k))with
  | some k=>⟨k,[],[],[],false,0,[]⟩
  | none=>bI.zero
def kN:List UInt8->Option (List UInt8 × List UInt8)
 | []=>none
 | b :: l=>if [58,47,47].isPrefixOf (b :: l) then some ([],(b :: l).drop 3) else (kN l).map fun x=>(b :: x.1,x.2)
def kR (l:List UInt8):Int:=if l=[42] then -1 else match tP l with | some n=>if n=0\/65535<n then -2 else (n:Int) | none => -2
def oQ (l:List UInt8):Int:=match l with | []=>0 | _ :: ds=>kR ds
def kW (sc name:List UInt8)(p:Int)(pa:List UInt8):Option bI :=
 if bB (name.take 2)=[42,46] then (if 2<name.length then some ⟨12,[],sc,bB (name.drop 2),true,p,pa⟩ else none)
 else if name=[42] then some ⟨12,[],sc,[],true,p,pa⟩
 else some ⟨12,[],sc,bB name,false,p,pa⟩
def jE (sc l:List UInt8):Option bI:=kW sc (upto (eR 58) (upto (eR 47) l)) (oQ (dD (eR 58) (upto (eR 47) l))) (dD (eR 47) l)
def iV (l:List UInt8):Option bI :=
 if l.getLast? = some 58 then some ⟨11,[],bB l.dropLast,[],false,0,[]⟩
 else match kN l with
  | some (sc,r)=>if sc=[] then none else jE (bB sc) r
  | none=>jE [] l
def cP (l:List UInt8):Option bI :=
 if l=[] then none
 else (if 2<=l.length/\l.head? = some 39/\l.getLast? = some 39 then some (gV l) else iV l).filter aL
theorem sA (b:UInt8):(fA b=58↔b=58)/\(fA b=47↔b=47)/\(fA b=39↔b=39)/\(fA b=42↔b=42)/\bQ (fA b)=bQ b/\(bQ b=true->fA b=b)/\eR 47 (fA b)=eR 47 b/\eR 58 (fA b)=eR 58 b:=by revert b;exact jL (by decide +kernel)
theorem low_star (l:List UInt8):bB l=[42]↔l=[42]:=by
 constructor
 · intro h
   have hl:l.length=1:=by rw[<- dS,h];rfl
   obtain⟨b,rfl⟩:=List.length_eq_one_iff.1 hl;simp[bB]at h;rw[(sA b).2.2.2.1.1 h]
 · rintro rfl;decide
theorem last_low (l:List UInt8):((bB l).getLast? = some 39↔l.getLast? = some 39)/\((bB l).getLast? = some 58↔l.getLast? = some 58):=by
 unfold bB;rw[List.getLast?_map]
 cases l.getLast? with
 | none=>simp
 | some b=>simp[(sA b).2.2.1,(sA b).1]
theorem beg_low (l t:List UInt8):mV (bB l) t=mV l t:=by
 unfold mV;rw[show(bB l).take t.length=bB (l.take t.length) by unfold bB;rw[List.map_take],low_low]
def bF (L:List (List UInt8)):List bI:=L.filterMap cP
theorem xI (a b:List (List UInt8)):bF (a++b)=bF a++bF b:=List.filterMap_append
theorem fS (L:List (List UInt8)):(bF L).length<=L.length:=List.length_filterMap_le _ _
end Go.Proofs.YthnogdodlhkldaaGreatDoor
namespace Go.Proofs.YthnogdodlhkldaaGreatDoor
def kK (l:List UInt8):Option Int:=if l=[42] then some (-1) else match tP l with | some n=>if 0<n/\n<=65535 then some (n:Int) else none | none=>none
def jF (l:List UInt8):Option (List UInt8 × Bool) :=
 if l=[42] then some ([],true)
 else if [42,46].isPrefixOf l then (if l.drop 2=[] then none else some (l.drop 2,true))
 else if l=[] then none else some (l,false)
def mZ (sc h:List UInt8)(wd:Bool)(pa rest:List UInt8):Option bI :=
 match rest with
 | []=>some ⟨12,[],sc,h,wd,0,pa⟩
 | _ :: ds=>(kK ds).map fun p=>⟨12,[],sc,h,wd,p,pa⟩
def fO (sc l:List UInt8):Option bI :=
 match jF (bB (upto (eR 58) (upto (eR 47) l)))with
 | none=>none
 | some (h,wd)=>mZ sc h wd (dD (eR 47) l) (dD (eR 58) (upto (eR 47) l))
def qJ (k:Int)(t:List UInt8):bI:=⟨k,t,[],[],false,0,[]⟩
def jV (m:List UInt8):bI :=
 if mV m NON then qJ 9 (m.drop 7)
 else if mV m MRK then qJ 10 (mR (m.drop 6)).1
 else bI.zero
def cI (l:List UInt8):Option Int:=([1,2,3,4,5,6,7,8]:List Int).find? (fun k=>decide (bB l=aN k))
def mF (l:List UInt8):Option bI :=
 if l.head? = some 39 then
  match cI l with
  | some k=>some (qJ k [])
  | none=>if l.getLast? = some 39 then some (jV l.dropLast) else none
 else if l.getLast? = some 58 then some ⟨11,[],bB l.dropLast,[],false,0,[]⟩
 else match kN l with
  | some (sc,r)=>if sc=[] then none else fO (bB sc) r
  | none=>fO [] l
theorem zM {a:bI}(hk:a.k=12)(hp:a.p = -2):aL a=false:=by
 unfold aL aZ;rw[hk,hp];simp
theorem sportP_O (l:List UInt8):kR l=(kK l).getD (-2):=by
 unfold kR kK
 by_cases h:l=[42]
 · rw[if_pos h,if_pos h];rfl
 · rw[if_neg h,if_neg h]
   cases tP l with
   | none=>rfl
   | some n =>
     simp only[]
     by_cases h1:n=0\/65535<n
     · rw[if_pos h1,if_neg (by omega)];rfl
     · rw[if_neg h1,if_pos (by omega)];rfl
theorem aU3 (l:List UInt8):bB (l.take 2)=[42,46]↔[42,46].isPrefixOf (bB l)=true:=by
 have hz:∀(c:UInt8),((42==fA c)=true↔fA c=42)/\((46==fA c)=true↔fA c=46):=jL (by decide +kernel)
 match l with
 | []=>simp[bB]
 | [x]=>simp[bB]
 | x :: y :: r =>
   simp only[bB,List.take_succ_cons,List.take_zero,List.map_cons,List.map_nil,List.isPrefixOf,Bool.and_true,Bool.and_eq_true,List.cons.injEq,and_true];rw[(hz x).1,(hz y).2]
theorem mM (sc h:List UInt8)(wd:Bool)(pa rest:List UInt8):(mZ sc h wd pa rest).filter aL=(some (⟨12,[],sc,h,wd,oQ rest,pa⟩:bI)).filter aL:=by
 cases rest with
 | nil=>rfl
 | cons c ds =>
   unfold mZ oQ;simp only[];rw[sportP_O]
   cases hp:kK ds with
   | some p=>rfl
   | none=>simp[Option.filter,zM]
theorem aT7 (sc l:List UInt8):(fO sc l).filter aL=(jE sc l).filter aL:=by
 unfold fO jE kW;generalize upto (eR 58) (upto (eR 47) l)=nm;generalize dD (eR 58) (upto (eR 47) l)=rest;generalize dD (eR 47) l=pa;have hd:(bB nm).drop 2=bB (nm.drop 2):=by unfold bB;rw[List.map_drop]
 have hn:bB nm=[]↔nm=[]:=by unfold bB;exact List.map_eq_nil_iff
 unfold jF
 by_cases h1:nm=[42]
 · subst h1
   rw[if_pos (by decide),if_neg (by decide),if_pos rfl];exact mM _ _ _ _ _
 · rw[if_neg (fun e=>h1 ((low_star nm).1 e))]
   by_cases h2:bB (nm.take 2)=[42,46]
   · rw[if_pos ((aU3 nm).1 h2),if_pos h2,hd]
     have h4:bB (nm.drop 2)=[]↔¬ 2<nm.length:=by
      unfold bB;rw[List.map_eq_nil_iff,List.drop_eq_nil_iff];omega
     by_cases h3:2<nm.length
     · rw[if_neg (fun e=>(h4.1 e) h3),if_pos h3]
       exact mM _ _ _ _ _
     · rw[if_pos (h4.2 h3),if_neg h3]
   · rw[if_neg (fun e=>h2 ((aU3 nm).2 e)),if_neg h2,if_neg h1]
     by_cases h3:nm=[]
     · rw[if_pos (hn.2 h3),h3]
       have:aL (⟨12,[],sc,bB [],false,oQ rest,pa⟩:bI)=false:=by unfold aL aZ bB;simp
       simp[Option.filter,this]
     · rw[if_neg (fun e=>h3 (hn.1 e))]
       exact mM _ _ _ _ _
theorem rM {l:List UInt8}(h:l.head? = some 39):dR (bB l)=false:=by
 cases l with
 | nil=>cases h
 | cons b l =>
   simp at h;subst h;rw[show bB (39 :: l)=39 :: bB l from rfl,oO,show small 39=false by decide];simp
theorem aD4 {l:List UInt8}(h:l.head? = some 39):bW (bB l)=false:=by
 cases l with
 | nil=>cases h
 | cons b l =>
   simp at h;subst h
   cases hm:bW (bB (39 :: l))
   · rfl
   · have:=uX hm 39 (by simp[bB];exact .inl (by decide))
     exact absurd this (by decide)
theorem uD {p:UInt8->Bool}{l:List UInt8}{c:UInt8}(h:l.head? = some c)(hp:p c=false):(upto p l).head? = some c:=by
 cases l with
 | nil=>cases h
 | cons b l =>
   simp at h;subst h;rw[(uC l hp).1];rfl
theorem sp3_head {l sc r:List UInt8}{c:UInt8}(h:l.head? = some c)(hc:c≠58)(hs:kN l=some (sc,r)):sc.head? = some c:=by
 cases l with
 | nil=>cases h
 | cons b l =>
   simp at h;subst h;unfold kN at hs;rw[if_neg (by simp[List.isPrefixOf];intro e;exact absurd e.symm hc)]at hs
   cases hx:kN l with
   | none=>rw[hx]at hs;cases hs
   | some x =>
     rw[hx]at hs;simp at hs;rw[<- hs.1];rfl
theorem right_sc {sc l:List UInt8}(h0:sc≠[])(h:dR sc=false):(jE sc l).filter aL=none:=by
 cases hx:jE sc l with
 | none=>rfl
 | some a =>
   have hk:a.s=sc/\a.k=12:=by
    unfold jE kW at hx;split at hx
    · split at hx
      · cases hx;exact⟨rfl,rfl⟩
      · cases hx
    · split at hx
      · cases hx;exact⟨rfl,rfl⟩
      · cases hx;exact⟨rfl,rfl⟩
   have:aL a=false:=by
    unfold aL aZ;rw[hk.1,hk.2,h];have:sc.isEmpty=false:=by simpa using h0
    rw[this];simp
   simp[Option.filter,this]
theorem pZ {l:List UInt8}(h:l.head? = some 39):(iV l).filter aL=none:=by
 unfold iV
 by_cases h1:l.getLast? = some 58
 · rw[if_pos h1]
   have hs:dR (bB l.dropLast)=false:=by
    by_cases hd:l.dropLast=[]
    · rw[hd];rfl
    · refine rM ?_
      cases l with
      | nil=>cases h
      | cons b l =>
        cases l with
        | nil=>exact absurd rfl hd
        | cons c l=>simpa using h
   have:aL (⟨11,[],bB l.dropLast,[],false,0,[]⟩:bI)=false:=by unfold aL;simp[hs]
   simp[Option.filter,this]
 · rw[if_neg h1]
   cases hx:kN l with
   | some x =>
     obtain⟨sc,r⟩:=x;simp only[];have hh:=sp3_head h (by decide) hx;have h0:sc≠[]:=by intro e;rw[e]at hh;cases hh
     rw[if_neg h0];exact right_sc (by intro e;exact h0 (List.map_eq_nil_iff.1 e)) (rM hh)
   | none =>
     simp only[];have hh:=uD (p:=eR 58) (uD (p:=eR 47) h (by decide)) (by decide);unfold jE kW;generalize upto (eR 58) (upto (eR 47) l)=nm at hh
     have e1:bB (nm.take 2)≠[42,46]:=by
      intro e
      cases nm with
      | nil=>cases hh
      | cons b nm =>
        simp at hh;subst hh;simp[bB]at e;exact absurd e.1 (by decide)
     have e2:nm≠[42]:=by rintro rfl;simp at hh
     rw[if_neg e1,if_neg e2];have hm:=aD4 hh
     have:(bB nm).isEmpty=false:=by
      cases nm with
      | nil=>cases hh
      | cons b nm=>rfl
     have:∀ p pa,aL (⟨12,[],[],bB nm,false,p,pa⟩:bI)=false:=by
      intro p pa;unfold aL aZ;rw[hm,this];simp
     simp[Option.filter,this]
theorem oD {l t:List UInt8}(h:mV l t=true):t.length<=l.length:=by
 unfold mV at h;have:=congrArg List.length (of_decide_eq_true h);rw[dS,List.length_take]at this;omega
theorem oE {l t:List UInt8}{c:UInt8}(hl:l.getLast? = some c)(ht:∀ b,t.getLast? = some b->b≠fA c):mV l.dropLast t=mV l t:=by
 have hd:l=l.dropLast++[c]:=by
  have hne:l≠[]:=by intro e;rw[e]at hl;cases hl
  have:=List.dropLast_concat_getLast hne;rw[List.getLast?_eq_some_getLast hne]at hl;rw[Option.some.inj hl]at this;exact this.symm
 rw[Bool.eq_iff_iff];constructor
 · intro h
   have hlen:=oD h;unfold mV at h ⊢;rw[hd,List.take_append_of_le_length hlen];exact h
 · intro h
   have hlen:=oD h
   have hlt:t.length<=l.dropLast.length:=by
    rcases Nat.lt_or_ge l.dropLast.length t.length with hx | hx
    · exfalso
      have hl2:l.length=t.length:=by
       have:l.length=l.dropLast.length+1:=by have:=congrArg List.length hd;rw[List.length_append]at this;exact this
       omega
      unfold mV at h;have e:=of_decide_eq_true h;rw[<- hl2,List.take_length]at e;have e2:(bB l).getLast? = some (fA c):=by unfold bB;rw[List.getLast?_map,hl];rfl
      rw[e]at e2;exact ht _ e2 rfl
    · exact hx
   unfold mV at h ⊢;rw[hd,List.take_append_of_le_length hlt]at h;exact h
theorem bF1 {l:List UInt8}{k:Int}(h:cI l=some k):bB l=aN k/\(k=1\/k=2\/k=3\/k=4\/k=5\/k=6\/k=7\/k=8):=by
 have h1:=List.find?_some h;have h2:=List.mem_of_find?_eq_some h;refine⟨of_decide_eq_true h1,?_⟩
 simpa using h2
theorem bF3 {k:Int}(h:k=1\/k=2\/k=3\/k=4\/k=5\/k=6\/k=7\/k=8):(aN k).head? = some 39/\(aN k).getLast? = some 39/\2<=(aN k).length/\mV (aN k) NON=false/\mV (aN k) MRK=false:=by
 rcases h with rfl | rfl | rfl | rfl | rfl | rfl | rfl | rfl<;>decide +kernel
theorem lH (l:List UInt8)(n:Nat):(l.drop n).dropLast=l.dropLast.drop n:=by
 rw[List.dropLast_eq_take,List.dropLast_eq_take,List.length_drop,List.drop_take]
 congr 1
 omega
theorem aT8 (l:List UInt8):cP l=(mF l).filter aL:=by
 unfold cP mF
 by_cases h0:l=[]
 · subst h0
   rfl
 rw[if_neg h0]
 by_cases hh:l.head? = some 39
 · rw[if_pos hh]
   cases hk:cI l with
   | some k =>
     obtain⟨e1,e2⟩:=bF1 hk;obtain⟨k1,k2,k3,k4,k5⟩:=bF3 e2;rw[<- e1]at k1 k2 k3 k4 k5;rw[if_pos ⟨by rw[<- dS];exact k3,hh,(last_low l).1.1 k2⟩];unfold gV;rw[beg_low]at k4 k5;rw[k4,k5];simp only[Bool.false_eq_true,if_false];unfold cI at hk;rw[hk];rfl
   | none =>
     simp only[]
     by_cases hz:l.getLast? = some 39
     · rw[if_pos hz]
       by_cases h2:2<=l.length
       · rw[if_pos ⟨h2,hh,hz⟩]
         unfold gV jV
         have ht:∀ t:List UInt8,(t=NON\/t=MRK)->mV l.dropLast t=mV l t:=by
          intro t ht;refine oE hz ?_;rcases ht with rfl | rfl<;>intro b hb<;>(simp[NON,MRK]at hb;subst hb;decide)
         rw[ht NON (.inl rfl),ht MRK (.inr rfl),lH,lH];unfold cI at hk;rw[hk];rfl
       · rw[if_neg (fun e=>h2 e.1)]
         rw[pZ hh]
         have hl:l=[39]:=by
          cases l with
          | nil=>exact absurd rfl h0
          | cons b l =>
            cases l with
            | nil=>simp at hh;rw[hh]
            | cons c l=>exact absurd (by simp) h2
         subst hl;rfl
     · rw[if_neg hz,if_neg (fun e=>hz e.2.2),pZ hh]
       rfl
 · rw[if_neg hh,if_neg (fun e=>hh e.2.1)]
   unfold iV
   by_cases h58:l.getLast? = some 58
   · rw[if_pos h58,if_pos h58]
   · rw[if_neg h58,if_neg h58]
     cases kN l with
     | some x =>
       obtain⟨sc,r⟩:=x;simp only[]
       by_cases hs:sc=[]
       · rw[if_pos hs,if_pos hs]
       · rw[if_neg hs,if_neg hs]
         exact(aT7 _ _).symm
     | none=>exact(aT7 _ _).symm
end Go.Proofs.YthnogdodlhkldaaGreatDoor
namespace Go.Proofs.YthnogdodlhkldaaGreatDoor
end Go.Proofs.YthnogdodlhkldaaGreatDoor
namespace Go.Proofs.YthnogdodlhkldaaGreatDoor
structure O where
 o:Bool
 s:List UInt8
 h:List UInt8
 p:Int
 deriving DecidableEq
def O.none:O:=⟨true,[],[],0⟩
def dV (u:U):Int:=if u.p=0 then (kM u.s:Int) else u.p
def cM (u:U):O:=if aT u=true/\u.o=false then ⟨false,u.s,u.h,dV u⟩ else O.none
def iP (a b:O):Bool := !a.o&&decide (a=b)
theorem iR {u:U}(h:¬ (aT u=true/\u.o=false)):cM u=O.none:=by unfold cM;rw[if_neg h]
theorem qB {u:U}(h:aT u=true)(ho:u.o=false):cM u=⟨false,u.s,u.h,dV u⟩:=by unfold cM;rw[if_pos ⟨h,ho⟩]
end Go.Proofs.YthnogdodlhkldaaGreatDoor
namespace Go.Proofs.YthnogdodlhkldaaGreatDoor
def nD (f n:Nat)(b:UInt8):Nat:=(n * f+b.toNat+1) % 1000000007
def rx (l:List UInt8):Nat:=l.foldl (nD 257) 7
def ry (l:List UInt8):Nat:=l.foldl (nD 65539) 11
def gJ (n:Nat):List UInt8:=[(n / 16777216).toUInt8,(n / 65536).toUInt8,(n / 256).toUInt8,n.toUInt8]
def fR (l:List UInt8):List UInt8:=gJ (rx l)++gJ (ry l)++gJ (rx l * ry l % 1000000007)++gJ (l.length % 1000000007)
theorem rD (f n:Nat)(b:UInt8):nD f n b<=1000000006:=by
 have:=Nat.mod_lt (n * f+b.toNat+1) (show 1000000007>0 by decide);unfold nD;omega
theorem aU9 (f:Nat)(l:List UInt8)(n:Nat)(h:n<=1000000006):l.foldl (nD f) n<=1000000006:=by
 induction l generalizing n with
 | nil=>exact h
 | cons b l ih=>exact ih _ (rD f n b)
theorem rx_lt (l:List UInt8):rx l<=1000000006:=aU9 _ _ _ (by decide)
theorem ry_lt (l:List UInt8):ry l<=1000000006:=aU9 _ _ _ (by decide)
theorem aT3 (l:List UInt8)(b:UInt8):rx (l++[b])=nD 257 (rx l) b:=by simp[rx]
theorem aT2 (l:List UInt8)(b:UInt8):ry (l++[b])=nD 65539 (ry l) b:=by simp[ry]
theorem mul_lt (a b:Nat)(h1:a<=1000000006)(h2:b<=1000000006):a * b<=1000000012000000036:=Nat.le_trans (Nat.mul_le_mul h1 h2) (by decide)
end Go.Proofs.YthnogdodlhkldaaGreatDoor
namespace Go.Proofs.YthnogdodlhkldaaGreatDoor
def gS (t i:List UInt8):Bool:=decide (t=i) || (decide (t=yD)&&decide (i=qL)) || (decide (t=WS)&&decide (i=WSS))
def mJ (l t:List UInt8):Bool:=decide (t.length<l.length)&&decide (l.drop (l.length - t.length)=t)
def fJ (w:Bool)(sh h:List UInt8):Bool:=if w then (bB sh).isEmpty || mJ (bB h) (46 :: bB sh) else decide (bB sh=bB h)
def eB (sp:Int)(u:U):Bool:=if sp = -1 then true else if sp=0 then decide (dV u=(kM u.s:Int)) else decide (dV u=sp) || (decide (sp=80)&&decide (dV u=443))
def fP (t i:List UInt8)(m:Bool):Bool:=t.isEmpty || m || decide (i=t) || (decide (t.getLast? = some 47)&&t.isPrefixOf i)
def nM (u v:U):Bool:=aT v && !v.o && !u.o&&decide (v.h=u.h)&&decide (v.p=0)&&decide (u.p=0)&&gS v.s u.s
def pP (u v:U):Bool:=iP (cM v) (cM u) || nM u v
def nA (a:bI)(v:U):List UInt8:=if a.s.isEmpty then v.s else a.s
def gR (a:bI)(u v:U)(m:Bool):Bool := !u.o&&gS (nA a v) u.s&&fJ a.w a.h u.h&&eB a.p u&&fP a.pa u.pa m
def eH (a:bI)(u v:U)(m:Bool):Bool:=aT u&&(if a.k=11 then gS a.s u.s else if a.k=12 then gR a u v m else if a.k=2 then pP u v else false)
theorem aY8 (u v:U):iP (cM u) (cM v)=iP (cM v) (cM u):=by
 unfold iP
 by_cases h:cM u=cM v
 · rw[h]
 · have h2:¬ cM v=cM u:=fun e=>h e.symm
   simp[h,h2]
theorem qY (a:bI)(ha:a.k=2)(u v:U)(m:Bool):eH a u v m=(aT u&&pP u v):=by
 unfold eH;rw[ha];rfl
end Go.Proofs.YthnogdodlhkldaaGreatDoor
namespace Go.Proofs.YthnogdodlhkldaaGreatDoor
def dY (L:List bI)(k:Int):Bool:=L.any fun a=>decide (a.k=k)
def iN (L:List bI)(k:Int)(s:List UInt8):Bool:=L.any fun a=>decide (a.k=k)&&decide (a.t=s)
def pM (L:List bI)(u v:U)(m:Bool):Bool:=L.any fun a=>eH a u v m
def iW (L:List bI)(n:List UInt8):Bool := !n.isEmpty&&iN L 9 n
def mI (L:List bI)(s:List UInt8):Bool:=iN L 10 (fR s)
def iY (L:List bI):Bool:=dY L 3 && !dY L 9 && !dY L 10 && !dY L 6
def cC (L:List bI)(k:Int)(n s:List UInt8):Bool:=if k=1 then iY L || iW L n || mI L s else if k=3\/k=4 then iY L || (dY L 7&&mI L s) else false
def lE (L:List bI)(u v:U)(m:Bool)(n:List UInt8)(b:Bool):Bool:=if dY L 6 then iW L n || !b else iW L n || pM L u v m
def jH (L:List bI)(k:Int):Bool:=if k=5 then dY L 4 else if k=6 then dY L 4 || dY L 5 else false
structure SameL (L M:List bI):Prop where
 has:∀ k,dY L k=dY M k
 text:∀ k s,iN L k s=iN M k s
 urls:∀ u v m,pM L u v m=pM M u v m
theorem witness (L:List bI)(k:Int)(n s:List UInt8)(h:cC L k n s=true):(iY L || (decide (k=1)&&(!n.isEmpty&&iN L 9 n)) || iN L 10 (fR s))=true/\(k=1\/k=3\/k=4):=by
 unfold cC iW mI at h;split at h
 · next e =>
   refine⟨?_,.inl e⟩;rw[decide_eq_true e,Bool.true_and];exact h
 · next e =>
   split at h
   · next e2 =>
     refine⟨?_,.inr e2⟩;simp only[Bool.or_eq_true,Bool.and_eq_true]at *;rcases h with h | h
     · exact .inl (.inl h)
     · exact .inr h.2
   · cases h
end Go.Proofs.YthnogdodlhkldaaGreatDoor
namespace Go.Proofs.YthnogdodlhkldaaGreatDoor
theorem byte_any {p:UInt8->Prop}(h:∀ n:Fin 256,p (UInt8.ofNat n.val))(b:UInt8):p b:=by
 have:=h ⟨b.toNat,b.toNat_lt⟩
 simpa using this
structure D where
 n:List UInt8
 w:List (List UInt8)
 deriving DecidableEq
def nB (b:UInt8):Bool:=decide (97<=b.toNat/\b.toNat<=122) || decide (48<=b.toNat/\b.toNat<=57) || b==45
def wB (b:UInt8):Bool:=decide (33<=b.toNat/\b.toNat<=126) && !(b==44) && !(b==59)
def eM (l:List UInt8):Bool := !l.isEmpty&&decide (l.length<=40)&&l.all nB
def hG (l:List UInt8):Bool := !l.isEmpty&&l.all wB
def dirM (s:List UInt8):Option D :=
 match bY s with
 | []=>none
 | n :: ws=>if eM (bB n) then some ⟨bB n,(ws.take 200).filter hG⟩ else none
def aH1 (ds:List D)(n:List UInt8):Bool:=ds.any (fun d=>d.n==n)
def yB (ds:List D)(s:List UInt8):List D :=
 match dirM s with
 | none=>ds
 | some d=>if aH1 ds d.n then ds else ds++[d]
def iI (s:List UInt8):List D:=(parts s 59).foldl yB []
def allH (s:List UInt8):List (List D):=((parts s 44).map iI).filter (fun p => !p.isEmpty)
def wZ (s:List UInt8):List (List D):=(allH s).take 10
def cN (ds:List D)(name:List UInt8):Option (List (List UInt8)):=(ds.find? (fun d=>d.n==bB name)).map D.w
end Go.Proofs.YthnogdodlhkldaaGreatDoor
