/- The plain mathematics of fold: blanks, small letters, trimmed texts, words and parts, over lists of bytes. A text's words as its code points tell them: a blank is a code point below 128, and no code point of several bytes has one among its bytes. The plain mathematics of url: bytes, hosts, paths, addresses, their texts and what is parsed, over lists of bytes. The plain mathematics of url, further: what the document's own loops know; texts that are parsed alike; an address' text and its front. The plain mathematics of resolve: an address' text is parsed as it; what a text begins with; what is joined to an address. Bits as plain mathematics: a number's bits, the number of bits, bits in groups; what is encoded. What is decoded; what is encoded is decoded, and the other way round. The plain mathematics of source: sources, their words and what is parsed, over lists of bytes; a source's word is parsed as it. The plain mathematics of the program's Parse of a source: what is cut off a word, and that it is the source that the word tells. A source's word is short. The plain mathematics of origin: where an address comes from, over lists of bytes. Marks as plain mathematics: two numbers off a list of bytes, four bytes of a number, the sixteen bytes. The plain mathematics of match: whether a source lets an address be, over lists of bytes, and what the seven statements want of it. The plain mathematics of allow: what a list of sources lets be, over lists of bytes, and what the seven statements want of it. The plain mathematics of header: directives, policies, their texts and what is parsed, over lists of bytes. -/
import Derived.Lib.SlTrimSet
import Derived.Lib.Split
import Derived.Lib.DecodeN
import Derived.Lib.Bytealg
import Derived.Lib.ItoaNum
import Derived.Lib.Join
import Derived.Lib.TrimByte
import Derived.Lib.Repeat
import Derived.Lib.Hide
namespace Go.Proofs.YthnogdodlhkldaaGreatDoor
theorem zH {p:Prop}(h:p):RowKit.Hid p:=h
def eW (b:UInt8):Bool:=[9,10,12,13,32].contains b
def eX (b:UInt8):UInt8:=if 65<=b.toNat/\b.toNat<=90 then b+32 else b
def aZ (l:List UInt8):List UInt8:=l.map eX
def eH (l:List UInt8):List UInt8:=Lib.trimS l [9,10,12,13,32]
def cut (p:UInt8->Bool):List UInt8->List (List UInt8)
 | []=>[[]]
 | b :: l=>if p b then [] :: cut p l else
   match cut p l with
   | []=>[[b]]
   | h :: t=>(b :: h) :: t
def bV (l:List UInt8):List (List UInt8):=(cut eW l).filter (fun w => !w.isEmpty)
def parts (l:List UInt8)(c:UInt8):List (List UInt8):=(cut (· == c) l).map eH
theorem jV (p:UInt8->Bool)(l:List UInt8):cut p l≠[]:=by
 cases l with
 | nil=>simp[cut]
 | cons b l =>
   unfold cut;split
   · simp
   · split<;>simp
theorem lR (p:UInt8->Bool)(a:List UInt8)(c:UInt8)(r:List UInt8)(ha:∀ b∈a,p b=false)(hc:p c=true):cut p (a++c :: r)=a :: cut p r:=by
 induction a with
 | nil=>simp[cut,hc]
 | cons b a ih =>
   have hb:=ha b (by simp);have:=ih (fun x hx=>ha x (by simp[hx]));simp only[List.cons_append,cut,hb,this,if_false,Bool.false_eq_true]
theorem lD (p:UInt8->Bool)(a:List UInt8)(ha:∀ b∈a,p b=false):cut p a=[a]:=by
 induction a with
 | nil=>rfl
 | cons b a ih =>
   have hb:=ha b (by simp);have:=ih (fun x hx=>ha x (by simp[hx]));simp only[cut,hb,this,if_false,Bool.false_eq_true]
theorem dR (p:UInt8->Bool)(l:List UInt8):(cut p l).length=l.countP p+1:=by
 induction l with
 | nil=>rfl
 | cons b l ih =>
   unfold cut
   cases hb:p b
   · simp only[Bool.false_eq_true,if_false]
     have hne:=jV p l;split
     · contradiction
     · rename_i h t he
       rw[he]at ih;simp only[List.length_cons]at ih ⊢;rw[List.countP_cons_of_neg (by simp[hb])];exact ih
   · simp only[if_true,List.length_cons]
     rw[ih,List.countP_cons_of_pos hb]
theorem aU3 (p:UInt8->Bool)(l:List UInt8):∀ w∈cut p l,∀ b∈w,p b=false:=by
 induction l with
 | nil=>intro w hw b hb;simp[cut]at hw;subst hw;cases hb
 | cons c l ih =>
   intro w hw b hb;unfold cut at hw
   cases hc:p c
   · rw[if_neg (by simp[hc])]at hw
     have hne:=jV p l;split at hw
     · contradiction
     · rename_i h t he
       rcases List.mem_cons.1 hw with rfl | hw
       · rcases List.mem_cons.1 hb with rfl | hb
         · exact hc
         · exact ih h (by rw[he];simp) b hb
       · exact ih w (by rw[he];simp[hw]) b hb
   · rw[if_pos hc]at hw
     rcases List.mem_cons.1 hw with rfl | hw
     · cases hb
     · exact ih w hw b hb
theorem eS (p:UInt8->Bool)(l:List UInt8):((cut p l).map List.length).sum+l.countP p=l.length:=by
 induction l with
 | nil=>rfl
 | cons b l ih =>
   unfold cut
   cases hb:p b
   · simp only[Bool.false_eq_true,if_false]
     have hne:=jV p l;split
     · contradiction
     · rename_i h t he
       rw[he]at ih;rw[List.countP_cons_of_neg (by simp[hb])];simp only[List.map_cons,List.sum_cons,List.length_cons]at ih ⊢;omega
   · simp only[if_true,List.length_cons,List.map_cons,List.sum_cons,List.length_nil]
     rw[List.countP_cons_of_pos hb];omega
theorem aV0 (a:List UInt8)(c:UInt8)(r:List UInt8)(ha:∀ b∈a,eW b=false)(hc:eW c=true)(h0:a≠[]):bV (a++c :: r)=a :: bV r:=by
 unfold bV;rw[lR eW a c r ha hc,List.filter_cons,if_pos (by cases a<;>simp_all)]
theorem qR (c:UInt8)(r:List UInt8)(hc:eW c=true):bV (c :: r)=bV r:=by
 unfold bV;have:=lR eW [] c r (by simp) hc;rw[List.nil_append]at this;rw[this,List.filter_cons,if_neg (by simp)]
theorem aF9 (a:List UInt8)(ha:∀ b∈a,eW b=false)(h0:a≠[]):bV a=[a]:=by
 unfold bV;rw[lD eW a ha,List.filter_cons,if_pos (by cases a<;>simp_all)];rfl
theorem aU8:bV []=[]:=rfl
theorem aU9 (l:List UInt8):∀ w∈bV l,w≠[]/\∀ b∈w,eW b=false:=by
 intro w hw;unfold bV at hw;rw[List.mem_filter]at hw;refine⟨by cases w<;>simp_all,aU3 eW l w hw.1⟩
theorem sS (L:List (List UInt8))(p:List UInt8->Bool):((L.filter p).map List.length).sum<=(L.map List.length).sum:=by
 induction L with
 | nil=>simp
 | cons a L ih =>
   rw[List.filter_cons];split<;>simp<;>omega
theorem tN (L:List (List UInt8))(h:∀ w∈L,w≠[]):L.length<=(L.map List.length).sum:=by
 induction L with
 | nil=>simp
 | cons a L ih =>
   have h1:=h a (by simp);have h2:=ih (fun w hw=>h w (by simp[hw]));have h3:0<a.length:=List.length_pos_iff.2 h1;simp only[List.length_cons,List.map_cons,List.sum_cons];omega
theorem yF (l:List UInt8):((bV l).map List.length).sum<=l.length/\(bV l).length<=l.length:=by
 have h1:=sS (cut eW l) (fun w => !w.isEmpty);have h2:=eS eW l;have h3:=tN (bV l) (fun w hw=>(aU9 l w hw).1);have h4:bV l=(cut eW l).filter (fun w => !w.isEmpty):=rfl;rw[<- h4]at h1;omega
theorem bD1 (b:UInt8):eX (eX b)=eX b:=by
 unfold eX
 by_cases h:65<=b.toNat/\b.toNat<=90
 · rw[if_pos h,if_neg]
   rw[UInt8.toNat_add];simp;omega
 · rw[if_neg h,if_neg h]
theorem low_low (l:List UInt8):aZ (aZ l)=aZ l:=by simp[aZ,bD1]
theorem dP (l:List UInt8):(aZ l).length=l.length:=by simp[aZ]
theorem jH (p:UInt8->Bool)(l:List UInt8):l.dropWhile p=[]\/∃ b t,l.dropWhile p=b :: t/\p b=false:=by
 induction l with
 | nil=>exact .inl rfl
 | cons b l ih =>
   rw[List.dropWhile_cons]
   cases hb:p b
   · exact .inr ⟨b,l,by simp,hb⟩
   · simpa using ih
def Ends (l:List UInt8):Prop:=(∀ b t,l=b :: t->eW b=false)/\(∀ b t,l=t++[b]->eW b=false)
theorem eR (p:UInt8->Bool)(l:List UInt8):∃ a,l=a++l.dropWhile p/\∀ b∈a,p b=true:=by
 induction l with
 | nil=>exact⟨[],rfl,by simp⟩
 | cons b l ih =>
   rw[List.dropWhile_cons]
   cases hb:p b
   · exact⟨[],by simp,by simp⟩
   · obtain⟨a,ha,hb'⟩:=ih
     exact⟨b :: a,by simpa using ha,fun x hx=>by rcases List.mem_cons.1 hx with rfl | hx;exact hb;exact hb' x hx⟩
theorem oD (l:List UInt8):∃ a z,l=a++eH l++z/\(∀ b∈a,eW b=true)/\(∀ b∈z,eW b=true):=by
 unfold eH Lib.trimS;obtain⟨z,hz,hzb⟩:=eR ([9,10,12,13,32].contains ·) l.reverse;obtain⟨a,ha,hab⟩:=eR ([9,10,12,13,32].contains ·) (Lib.trimRightS l [9,10,12,13,32]);refine⟨a,z.reverse,?_,hab,fun b hb=>hzb b (by simpa using hb)⟩
 have h2:l=Lib.trimRightS l [9,10,12,13,32]++z.reverse:=by
  have:=congrArg List.reverse hz
  simpa [Lib.trimRightS] using this
 unfold Lib.trimLeftS;rw[<- ha];exact h2
theorem tZ (l:List UInt8):Ends (eH l):=by
 constructor
 · intro b t e
   unfold eH Lib.trimS at e;rcases jH ([9,10,12,13,32].contains ·) (Lib.trimRightS l [9,10,12,13,32])with h | ⟨b',t',h,hb⟩
   · unfold Lib.trimLeftS at e;rw[h]at e;cases e
   · unfold Lib.trimLeftS at e;rw[h]at e;cases e;exact hb
 · intro b t e
   unfold eH Lib.trimS at e;obtain⟨a,ha,_⟩:=eR ([9,10,12,13,32].contains ·) (Lib.trimRightS l [9,10,12,13,32]);have h2:Lib.trimRightS l [9,10,12,13,32]=(a++t)++[b]:=by rw[List.append_assoc,<- e];exact ha
   unfold Lib.trimRightS at h2;rcases jH ([9,10,12,13,32].contains ·) l.reverse with h | ⟨b',t',h,hb⟩
   · rw[h]at h2;simp at h2
   · rw[h]at h2
     have:=congrArg List.reverse h2;simp at this;rw[<- this.1];exact hb
theorem pF (l:List UInt8):(eH l).length<=l.length:=by
 obtain⟨a,z,h,_⟩:=oD l;have:=congrArg List.length h;simp at this;omega
theorem qU (l:List UInt8)(h:∀ b∈l,eW b=true):eH l=[]:=by
 rcases hE:eH l with _ | ⟨b,t⟩
 · rfl
 · have h1:=(tZ l).1 b t hE
   obtain⟨a,z,h2,_⟩:=oD l;have hm:b∈l:=by rw[h2,hE];simp
   rw[h b hm]at h1;cases h1
theorem aD6 {a m z a' m' z':List UInt8}(h:a++m++z=a'++m'++z')(ha:∀ b∈a,eW b=true)(hz:∀ b∈z,eW b=true)(ha':∀ b∈a',eW b=true)(hz':∀ b∈z',eW b=true)(hm:Ends m)(hm':Ends m')(hn:m≠[])(hn':m'≠[]):m=m':=by
 have len:a.length=a'.length:=by
  rcases Nat.lt_trichotomy a.length a'.length with h1 | h1 | h1
  · exfalso
    obtain⟨b,t,rfl⟩:=List.exists_cons_of_ne_nil hn;have e:=congrArg (fun l:List UInt8=>l[a.length]?) h;simp only[List.append_assoc]at e;rw[List.getElem?_append_right (Nat.le_refl _),Nat.sub_self]at e;rw[List.getElem?_append_left h1]at e;simp at e;have:=ha' _ (List.mem_of_getElem? e.symm);rw[hm.1 b t rfl]at this;cases this
  · exact h1
  · exfalso
    obtain⟨b,t,rfl⟩:=List.exists_cons_of_ne_nil hn';have e:=congrArg (fun l:List UInt8=>l[a'.length]?) h;simp only[List.append_assoc]at e;rw[List.getElem?_append_left h1]at e;rw[List.getElem?_append_right (Nat.le_refl _),Nat.sub_self]at e;simp at e;have:=ha _ (List.mem_of_getElem? e);rw[hm'.1 b t rfl]at this;cases this
 simp only[List.append_assoc]at h;obtain⟨rfl,h2⟩:=List.append_inj h len
 have len2:z.length=z'.length:=by
  have hlen:=congrArg List.length h2;simp at hlen;rcases Nat.lt_trichotomy m.length m'.length with h1 | h1 | h1
  · exfalso
    obtain⟨t,b,rfl⟩:∃ t b,m'=t++[b]:=⟨m'.dropLast,m'.getLast hn',(List.dropLast_concat_getLast hn').symm⟩;have e:=congrArg (fun l:List UInt8=>l[t.length]?) h2;simp only[List.append_assoc]at e;rw[List.getElem?_append_right (by simp at h1;omega)]at e;rw[List.getElem?_append_right (Nat.le_refl _),Nat.sub_self]at e;simp at e;have:=hz _ (List.mem_of_getElem? e);rw[hm'.2 b t rfl]at this;cases this
  · omega
  · exfalso
    obtain⟨t,b,rfl⟩:∃ t b,m=t++[b]:=⟨m.dropLast,m.getLast hn,(List.dropLast_concat_getLast hn).symm⟩;have ht:m'.length<=t.length:=by simp at h1;omega
    have e:(t++[b]++z)[t.length]? = (m'++z')[t.length]? :=congrArg (fun l:List UInt8=>l[t.length]?) h2;rw[List.getElem?_append_right ht,List.append_assoc,List.getElem?_append_right (Nat.le_refl _),Nat.sub_self]at e;simp at e;have:=hz' _ (List.mem_of_getElem? e.symm);rw[hm.2 b t rfl]at this;cases this
 exact(List.append_inj' h2 len2).1
theorem yJ {a m z:List UInt8}(ha:∀ b∈a,eW b=true)(hz:∀ b∈z,eW b=true)(hm:Ends m):eH (a++m++z)=m:=by
 obtain⟨a',z',h,ha',hz'⟩:=oD (a++m++z)
 by_cases hn:m=[]
 · subst hn
   refine qU _ fun b hb => ?_;simp at hb;rcases hb with hb | hb
   · exact ha b hb
   · exact hz b hb
 · by_cases hn':eH (a++m++z)=[]
   · exfalso
     rw[hn']at h;obtain⟨b,t,rfl⟩:=List.exists_cons_of_ne_nil hn;have hb:b∈a'++[]++z':=by rw[<- h];simp
     simp at hb;have:=hm.1 b t rfl;rcases hb with hb | hb
     · rw[ha' b hb]at this;cases this
     · rw[hz' b hb]at this;cases this
   · exact(aD6 h ha hz ha' hz' hm (tZ _) hn hn').symm
theorem aG1 (l:List UInt8)(i j:Nat)(hij:i<=j)(hj:j<=l.length)(h1:∀ k,k<i->∀ b,l[k]? = some b->eW b=true)(h2:∀ k,j<=k->∀ b,l[k]? = some b->eW b=true)(h3:i<j->∀ b,l[i]? = some b->eW b=false)(h4:i<j->∀ b,l[j - 1]? = some b->eW b=false):eH l=(l.take j).drop i:=by
 have e:l=l.take i++(l.take j).drop i++l.drop j:=by
  have:l.take i=(l.take j).take i:=by rw[List.take_take];congr 1;omega
  rw[this,List.take_append_drop,List.take_append_drop]
 have hlen:((l.take j).drop i).length=j - i:=by simp;omega
 rw[e];have:=yJ (a:=l.take i) (m:=(l.take j).drop i) (z:=l.drop j) (fun b hb => ?_) (fun b hb => ?_) ⟨fun b t hbt => ?_,fun b t hbt => ?_⟩
 · rw[<- e]at this ⊢;exact this
 · obtain⟨k,hk⟩:=List.mem_iff_getElem?.1 hb
   rw[List.getElem?_take]at hk;split at hk
   · exact h1 k ‹_› b hk
   · cases hk
 · obtain⟨k,hk⟩:=List.mem_iff_getElem?.1 hb
   rw[List.getElem?_drop]at hk;exact h2 _ (by omega) b hk
 · have hl:=congrArg List.length hbt
   rw[hlen]at hl;simp at hl;have hk:=congrArg (fun l:List UInt8=>l[0]?) hbt;simp only[List.getElem?_drop,List.getElem?_take]at hk;rw[if_pos (by omega)]at hk;simp at hk;exact h3 (by omega) b hk
 · have hl:=congrArg List.length hbt
   rw[hlen]at hl;simp at hl;have hk:=congrArg (fun l:List UInt8=>l[t.length]?) hbt;simp only[List.getElem?_drop,List.getElem?_take]at hk;rw[if_pos (by omega)]at hk;simp at hk;exact h4 (by omega) b (by rw[<- hk];congr 1;omega)
def joined (c:UInt8):List (List UInt8)->List UInt8
 | []=>[]
 | [w]=>w
 | w :: ws=>w++c :: joined c ws
theorem kV (c b:UInt8)(l:List UInt8):[c].isPrefixOf (b :: l)=(c==b):=by simp[List.isPrefixOf]
theorem uR (l:List UInt8)(c:UInt8):(Lib.index l [c] = -1/\∀ b∈l,(b==c)=false)\/∃ a r,l=a++c :: r/\(∀ b∈a,(b==c)=false)/\Lib.index l [c]=a.length:=by
 induction l with
 | nil=>exact .inl ⟨rfl,by simp⟩
 | cons b l ih =>
   unfold Lib.index;rw[kV]
   cases hb:(c==b)
   · have hb':(b==c)=false:=by rw[Bool.eq_false_iff]at hb ⊢;intro h;exact hb (by rw[eq_of_beq h];simp)
     simp only[Bool.false_eq_true,if_false];rcases ih with ⟨h1,h2⟩ | ⟨a,r,rfl,h2,h3⟩
     · left
       rw[h1];exact⟨rfl,fun x hx=>by rcases List.mem_cons.1 hx with rfl | hx;exact hb';exact h2 x hx⟩
     · right
       refine⟨b :: a,r,rfl,fun x hx=>by rcases List.mem_cons.1 hx with rfl | hx;exact hb';exact h2 x hx,?_⟩;rw[h3,if_neg (by simp)];rfl
   · right
     have hb':=eq_of_beq hb;exact⟨[],l,by simp[hb'],by simp,by simp⟩
theorem rD (c:UInt8):∀(k:Nat) (l:List UInt8),l.countP (· == c)<=k->Lib.splitK [c] 0 k l=cut (· == c) l
 | 0,l,h=>by
   have h0:l.countP (· == c)=0:=by omega
   rw[List.countP_eq_zero]at h0;exact(lD _ l (fun b hb=>by simpa using h0 b hb)).symm
 | k+1,l,h=>by
   unfold Lib.splitK;rcases uR l c with ⟨h1,h2⟩ | ⟨a,r,rfl,h2,h3⟩
   · rw[h1,lD _ l h2];simp
   · rw[h3,if_neg (by simp),lR _ a c r h2 (by simp)]
     have e1:(a++c :: r).take ((a.length:Int).toNat+0)=a:=by simp
     have e2:(a++c :: r).drop ((a.length:Int).toNat+[c].length)=r:=by
      simp only[Int.toNat_natCast,List.length_cons,List.length_nil,Nat.zero_add];rw[List.drop_append];simp
     rw[e1,e2,rD c k r (by
      rw[List.countP_append,List.countP_cons_of_pos (by simp)]at h;omega)]
end Go.Proofs.YthnogdodlhkldaaGreatDoor
namespace Go.Proofs.YthnogdodlhkldaaGreatDoor
theorem oR {s:ByteArray}{k:Nat}{b:UInt8}(h:s.data.toList[k]? = some b):s.get! k=b/\k<s.size:=by
 have hk:=(List.getElem?_eq_some_iff.1 h).1;rw[Array.length_toList]at hk;refine⟨?_,hk⟩;rw[Array.getElem?_toList]at h;simp[ByteArray.get!,Array.getElem!_eq_getD,Array.getD_eq_getD_getElem?,h]
theorem iP {s:ByteArray}{k:Nat}(h:k<s.size):∃ b,s.data.toList[k]? = some b/\s.get! k=b/\s[k]=b:=by
 refine⟨s[k],?_,?_,rfl⟩
 · rw[Array.getElem?_toList];exact Array.getElem?_eq_getElem h
 · exact(oR (b:=s[k]) (by rw[Array.getElem?_toList];exact Array.getElem?_eq_getElem h)).1
theorem vB (s:ByteArray)(i:Nat)(h:(s.get! i).toNat<128):Utf8.decode s i=((s.get! i).toNat,1):=by
 rw[Lib.decode_at];unfold Lib.decodeN;rw[if_pos h]
theorem aE0 (s:ByteArray)(i:Nat)(hi:i<s.size)(h:¬ (s.get! i).toNat<128) :
 128<=(Utf8.decode s i).1/\1<=(Utf8.decode s i).2/\i+(Utf8.decode s i).2<=s.size/\∀ k b,i<=k->k<i+(Utf8.decode s i).2->s.data.toList[k]? = some b->128<=b.toNat:=by
 have h0:128<=(s.get! i).toNat:=by omega
 rw[Lib.decode_at]
 have key:∀ w r:Nat,128<=r->1<=w->i+w<=s.size->(∀ j,j<w->128<=(s.get! (i+j)).toNat)->128<=(r,w).1/\1<=(r,w).2/\i+(r,w).2<=s.size/\∀ k b,i<=k->k<i+(r,w).2->s.data.toList[k]? = some b->128<=b.toNat:=by
  intro w r hr hw hs hj;refine⟨hr,hw,hs,fun k b h1 h2 h3 => ?_⟩;have:=hj (k - i) (by show k - i<w;have:k<i+w:=h2;omega);rw[show i+(k - i)=k by omega,(oR h3).1]at this;exact this
 have one:∀ j,j<1->128<=(s.get! (i+j)).toNat:=fun j hj=>by obtain rfl:j=0:=(by omega);exact h0
 unfold Lib.decodeN;rw[if_neg h];split
 · rename_i h1
   split
   · exact key _ _ (by omega) (by omega) (by omega) fun j hj=>by
      rcases(by omega:j=0\/j=1)with rfl | rfl
      · exact h0
      · omega
   · exact key _ _ (by omega) (by omega) (by omega) one
 · split
   · rename_i h1
     split
     · exact key _ _ (by omega) (by omega) (by omega) fun j hj=>by
        rcases(by omega:j=0\/j=1\/j=2)with rfl | rfl | rfl
        · exact h0
        · omega
        · omega
     · exact key _ _ (by omega) (by omega) (by omega) one
   · split
     · rename_i h1
       split
       · exact key _ _ (by omega) (by omega) (by omega) fun j hj=>by
          rcases(by omega:j=0\/j=1\/j=2\/j=3)with rfl | rfl | rfl | rfl
          · exact h0
          · omega
          · omega
          · omega
       · exact key _ _ (by omega) (by omega) (by omega) one
     · exact key _ _ (by omega) (by omega) (by omega) one
def pr (x:Nat):Bool:=decide (x<128)&&eW x.toUInt8
theorem bH8 {b:UInt8}(h:eW b=true):b.toNat<128:=by
 unfold eW at h;simp at h;rcases h with rfl | rfl | rfl | rfl | rfl<;>decide
theorem step_of (s:ByteArray)(i:Nat)(hi:i<s.size) :
 (pr (Utf8.decode s i).1=true/\(Utf8.decode s i).2=1/\eW (s.get! i)=true) \/
 (pr (Utf8.decode s i).1=false/\1<=(Utf8.decode s i).2/\i+(Utf8.decode s i).2<=s.size/\∀ k b,i<=k->k<i+(Utf8.decode s i).2->s.data.toList[k]? = some b->eW b=false):=by
 by_cases h:(s.get! i).toNat<128
 · rw[vB s i h]
   have e:((s.get! i).toNat).toUInt8=s.get! i:=by simp
   unfold pr;simp only[h,decide_true,Bool.true_and,e]
   cases hb:eW (s.get! i)
   · right
     refine⟨rfl,Nat.le_refl _,by omega,fun k b h1 h2 h3 => ?_⟩;obtain rfl:k=i:=by omega
     rw[(oR h3).1]at hb;exact hb
   · left
     exact⟨by simp,by simp,by simp⟩
 · obtain⟨h1,h2,h3,h4⟩:=aE0 s i hi h
   right
   refine⟨?_,h2,h3,fun k b a1 a2 a3 => ?_⟩
   · unfold pr
     rw[decide_eq_false (by omega)];rfl
   · have:=h4 k b a1 a2 a3
     cases hb:eW b
     · rfl
     · have:=bH8 hb;omega
def fB (l:List UInt8)(acc:List (Nat × Nat)):List (List UInt8):=acc.map fun x=>(l.drop x.1).take (x.2 - x.1)
structure Read (l:List UInt8) (pos:Nat) (st:Option Nat) (acc:List (Nat × Nat)):Prop where
 sum:fB l acc++bV (l.drop (st.getD pos))=bV l
 open_:∀ a,st=some a->a<pos/\∀ k b,a<=k->k<pos->l[k]? = some b->eW b=false
 spans:∀ x∈acc,x.1<=x.2/\x.2<=l.length
 few:acc.length<=pos
 le:pos<=l.length
theorem aL1 (l:List UInt8):Read l 0 none []:=⟨rfl,(fun a h=>by cases h),(fun x hx=>by cases hx),Nat.le_refl _,Nat.zero_le _⟩
theorem read_in {l:List UInt8}{pos w a:Nat}{acc:List (Nat × Nat)}(h:Read l pos (some a) acc)(hw:1<=w)(hle:pos+w<=l.length)(hn:∀ k b,pos<=k->k<pos+w->l[k]? = some b->eW b=false):Read l (pos+w) (some a) acc:=by
 refine⟨h.sum,fun a' e => ?_,h.spans,by have:=h.few;omega,hle⟩
 cases e
 obtain⟨h1,h2⟩:=h.open_ a rfl;refine⟨by omega,fun k b k1 k2 hk => ?_⟩
 by_cases hp:k<pos
 · exact h2 k b k1 hp hk
 · exact hn k b (by omega) k2 hk
theorem read_new {l:List UInt8}{pos w:Nat}{acc:List (Nat × Nat)}(h:Read l pos none acc)(hw:1<=w)(hle:pos+w<=l.length)(hn:∀ k b,pos<=k->k<pos+w->l[k]? = some b->eW b=false):Read l (pos+w) (some pos) acc:=by
 refine⟨h.sum,fun a' e => ?_,h.spans,by have:=h.few;omega,hle⟩
 cases e
 exact⟨by omega,hn⟩
theorem jG {l:List UInt8}{k:Nat}{b:UInt8}(h:l[k]? = some b):l.drop k=b :: l.drop (k+1):=by
 have hk:=(List.getElem?_eq_some_iff.1 h);rw[List.drop_eq_getElem_cons hk.1,hk.2]
theorem aL3 {l:List UInt8}{pos:Nat}{b:UInt8}{acc:List (Nat × Nat)}(h:Read l pos none acc)(hb:l[pos]? = some b)(hbl:eW b=true):Read l (pos+1) none acc:=by
 have hlt:=(List.getElem?_eq_some_iff.1 hb).1;refine⟨?_,(fun a h=>by cases h),h.spans,by have:=h.few;omega,by omega⟩;have:=h.sum;simp only[Option.getD_none]at this ⊢;rw[jG hb,qR b _ hbl]at this;exact this
theorem seg {l:List UInt8}{a pos:Nat}{b:UInt8}(ha:a<=pos)(hb:l[pos]? = some b):l.drop a=(l.drop a).take (pos - a)++b :: l.drop (pos+1):=by
 have e:l.drop pos=(l.drop a).drop (pos - a):=by rw[List.drop_drop];congr 1;omega
 rw[<- jG hb,e,List.take_append_drop]
theorem seg_no {l:List UInt8}{a pos:Nat}(h:∀ k b,a<=k->k<pos->l[k]? = some b->eW b=false):∀ b∈(l.drop a).take (pos - a),eW b=false:=by
 intro b hb;obtain⟨k,hk⟩:=List.mem_iff_getElem?.1 hb;rw[List.getElem?_take]at hk;split at hk
 · rw[List.getElem?_drop]at hk
   exact h (a+k) b (by omega) (by omega) hk
 · cases hk
theorem seg_ne {l:List UInt8}{a pos:Nat}(h1:a<pos)(h2:pos<=l.length):(l.drop a).take (pos - a)≠[]:=by
 intro e;have:=congrArg List.length e;simp at this;omega
theorem aL2 {l:List UInt8}{pos a:Nat}{b:UInt8}{acc:List (Nat × Nat)}(h:Read l pos (some a) acc)(hb:l[pos]? = some b)(hbl:eW b=true):Read l (pos+1) none (acc++[(a,pos)]):=by
 obtain⟨h1,h2⟩:=h.open_ a rfl;have hlt:=(List.getElem?_eq_some_iff.1 hb).1;refine⟨?_,(fun a h=>by cases h),fun x hx => ?_,by have:=h.few;simp;omega,by omega⟩
 · have hs:=h.sum
   simp only[Option.getD_none,Option.getD_some]at hs ⊢;rw[seg (Nat.le_of_lt h1) hb,aV0 _ b _ (seg_no h2) hbl (seg_ne h1 (by omega))]at hs;rw[<- hs];simp[fB]
 · rcases List.mem_append.1 hx with hx | hx
   · exact h.spans x hx
   · simp at hx;subst hx;exact⟨by show a<=pos;omega,by show pos<=l.length;omega⟩
theorem read_end {l:List UInt8}{acc:List (Nat × Nat)}(h:Read l l.length none acc):fB l acc=bV l:=by
 have:=h.sum;simp only[Option.getD_none,List.drop_length]at this;rw[aU8,List.append_nil]at this;exact this
theorem tH {l:List UInt8}{a:Nat}{acc:List (Nat × Nat)}(h:Read l l.length (some a) acc):fB l (acc++[(a,l.length)])=bV l/\∀ x∈acc++[(a,l.length)],x.1<=x.2/\x.2<=l.length:=by
 obtain⟨h1,h2⟩:=h.open_ a rfl;constructor
 · have hs:=h.sum
   simp only[Option.getD_some]at hs;have e:l.drop a=(l.drop a).take (l.length - a):=by rw[List.take_of_length_le (by simp)]
   rw[e,aF9 _ (seg_no h2) (seg_ne h1 (Nat.le_refl _))]at hs;rw[<- hs];simp[fB]
 · intro x hx
   rcases List.mem_append.1 hx with hx | hx
   · exact h.spans x hx
   · simp at hx;subst hx;exact⟨by show a<=l.length;omega,Nat.le_refl _⟩
structure WordsTo (l:List UInt8) (fr i:Nat) (out:List (List UInt8)):Prop where
 sum:out++bV (l.drop fr)=bV l
 open_:∀ k b,fr<=k->k<i->l[k]? = some b->eW b=false
 le:fr<=i
 few:out.length<=fr
theorem wordsTo_in {l:List UInt8}{fr i:Nat}{b:UInt8}{out:List (List UInt8)}(h:WordsTo l fr i out)(hb:l[i]? = some b)(hbl:eW b=false):WordsTo l fr (i+1) out:=by
 refine⟨h.sum,fun k b' k1 k2 hk => ?_,by have:=h.le;omega,h.few⟩
 by_cases hp:k<i
 · exact h.open_ k b' k1 hp hk
 · obtain rfl:k=i:=by omega
   rw[hb]at hk;cases hk;exact hbl
theorem wordsTo_skip {l:List UInt8}{i:Nat}{b:UInt8}{out:List (List UInt8)}(h:WordsTo l i i out)(hb:l[i]? = some b)(hbl:eW b=true):WordsTo l (i+1) (i+1) out:=by
 refine⟨?_,fun k b' k1 k2=>by omega,Nat.le_refl _,by have:=h.few;omega⟩;have hs:=h.sum;rw[jG hb,qR b _ hbl]at hs;exact hs
structure PartsTo (l:List UInt8) (c:UInt8) (fr i:Nat) (out:List (List UInt8)):Prop where
 sum:out++parts (l.drop fr) c=parts l c
 open_:∀ k b,fr<=k->k<i->l[k]? = some b->(b==c)=false
 le:fr<=i
 few:out.length<=fr
theorem take_low (l:List UInt8)(k:Nat)(b:UInt8)(h:l[k]? = some b):(aZ l).take (k+1)=(aZ l).take k++[eX b]:=by
 rw[List.take_add_one];unfold aZ;rw[List.getElem?_map,h];rfl
end Go.Proofs.YthnogdodlhkldaaGreatDoor
namespace Go.Proofs.YthnogdodlhkldaaGreatDoor
theorem gV {α:Type}{m:List α->Prop}(nil:m [])(append_singleton:∀ L p,m L->m (L++[p]))(L:List α):m L:=by
 have key:∀ n (L:List α),L.length=n->m L:=by
  intro n
  induction n with
  | zero=>intro L h;rw[List.length_eq_zero_iff.1 h];exact nil
  | succ n ih =>
    intro L h;have hne:L≠[]:=by intro e;rw[e]at h;cases h
    rw[<- List.dropLast_concat_getLast hne];exact append_singleton _ _ (ih _ (by simp[h]))
 exact key _ L rfl
def small (b:UInt8):Bool:=decide (97<=b.toNat/\b.toNat<=122)
def bO (b:UInt8):Bool:=decide (48<=b.toNat/\b.toNat<=57)
def gG (b:UInt8):Bool:=small b || bO b || b==45
def kK (b:UInt8):Bool:=small b || bO b || b==43 || b==45 || b==46
def dO:List UInt8->Bool
 | []=>false
 | b :: l=>decide (l.length<20)&&small b&&(b :: l).all kK
def aC6 (first:Nat)(except:List UInt8)(b:UInt8):Bool:=decide (first<=b.toNat/\b.toNat<=126) && !except.contains b
def bG (first:Nat)(except:List UInt8)(l:List UInt8):Bool:=l.all (aC6 first except)
def yB:List UInt8:=[104,116,116,112]
def qF:List UInt8:=[104,116,116,112,115]
def WS:List UInt8:=[119,115]
def WSS:List UInt8:=[119,115,115]
def kH (l:List UInt8):Nat:=if l=yB\/l=WS then 80 else if l=qF\/l=WSS then 443 else 0
theorem aU2 {l:List UInt8}(h:kH l≠0):dO l=true:=by
 unfold kH at h;split at h
 · rename_i h1;rcases h1 with rfl | rfl<;>decide +kernel
 · split at h
   · rename_i h1;rcases h1 with rfl | rfl<;>decide +kernel
   · exact absurd rfl h
def iB (l:List UInt8):Bool := !l.isEmpty&&l.all gG
def oT (b:UInt8):Bool:=b==46
def bU (l:List UInt8):Bool:=decide (l.length<=100)&&(cut oT l).all iB
def dD:Bool->List UInt8->Bool
 | p,[] => !p
 | p,b :: l=>if oT b then !p&&dD true l else gG b&&dD false l
theorem aE3 (p:UInt8->Bool)(b:UInt8)(l:List UInt8):cut p (b :: l)=if p b then [] :: cut p l else ((b :: (cut p l).head (jV p l)) :: (cut p l).tail):=by
 cases hb:p b
 · simp only[Bool.false_eq_true,if_false]
   conv=>lhs;unfold cut
   rw[hb];obtain⟨x,xs,hx⟩:∃ x xs,cut p l=x :: xs:=List.exists_cons_of_ne_nil (jV p l);simp[hx]
 · rw[if_pos rfl]
   exact lR p [] b l (by simp) hb
theorem aP0 (l:List UInt8):dD true l=(cut oT l).all iB/\dD false l=(((cut oT l).head (jV oT l)).all gG&&(cut oT l).tail.all iB):=by
 induction l with
 | nil=>exact⟨rfl,rfl⟩
 | cons b l ih =>
   obtain⟨h1,h2⟩:=ih;have hc:=aE3 oT b l
   cases hb:oT b
   · rw[hb]at hc
     simp only[Bool.false_eq_true,if_false]at hc;have e:dD true (b :: l)=(gG b&&dD false l):=by simp[dD,hb]
     have e2:dD false (b :: l)=(gG b&&dD false l):=by simp[dD,hb]
     rw[e,e2,h2];constructor
     · rw[hc];simp[iB,Bool.and_assoc]
     · simp only[hc];simp[Bool.and_assoc]
   · rw[hb,if_pos rfl]at hc
     have e:dD true (b :: l)=false:=by simp[dD,hb]
     have e2:dD false (b :: l)=dD true l:=by simp[dD,hb]
     rw[e,e2,h1];constructor
     · rw[hc];simp[iB]
     · simp only[hc];simp
theorem aT5 (l:List UInt8):bU l=(decide (l.length<=100)&&dD true l):=by unfold bU;rw[(aP0 l).1]
def sl (b:UInt8):Bool:=b==47
def fV (p:List UInt8):Bool:=decide (p=[46]\/p=[46,46])
def iZ (acc:List (List UInt8))(p:List UInt8):List (List UInt8):=if p=[46] then acc else if p=[46,46] then acc.dropLast else acc++[p]
def taken (L:List (List UInt8)):List (List UInt8):=L.foldl iZ []
def iW (L acc:List (List UInt8)):List (List UInt8):=match L.getLast? with | some p=>if fV p then acc++[[]] else acc | none=>acc
def cF (L:List (List UInt8)):List UInt8:=L.flatMap (fun p=>47 :: p)
def aB0 (r:List UInt8):List (List UInt8):=iW (cut sl r) (taken (cut sl r))
def fR:List UInt8->List UInt8
 | []=>[]
 | b :: r=>if sl b then cF (aB0 r) else []
theorem dN (L:List (List UInt8))(p:List UInt8):taken (L++[p])=iZ (taken L) p:=by simp[taken]
theorem qN {p:List UInt8}(h:fV p=true):p=[46]\/p=[46,46]:=by simpa [fV] using h
theorem dots_not {p:List UInt8}(h:fV p=false):p≠[46]/\p≠[46,46]:=by simpa [fV] using h
theorem iY {acc:List (List UInt8)}{p:List UInt8}(h:fV p=false):iZ acc p=acc++[p]:=by
 obtain⟨h1,h2⟩:=dots_not h;unfold iZ;rw[if_neg h1,if_neg h2]
theorem aW4 {acc:List (List UInt8)}{p x:List UInt8}(h:x∈iZ acc p):x∈acc\/(x=p/\fV p=false):=by
 cases hd:fV p
 · rw[iY hd]at h;simp at h;rcases h with h | h;exact .inl h;exact .inr ⟨h,rfl⟩
 · rcases qN hd with rfl | rfl
   · unfold iZ at h;rw[if_pos rfl]at h;exact .inl h
   · unfold iZ at h;rw[if_neg (by decide),if_pos rfl]at h;exact .inl ((List.dropLast_sublist _).subset h)
theorem aV8 (L:List (List UInt8)):∀ x∈taken L,x∈L/\fV x=false:=by
 induction L using gV with
 | nil=>intro x hx;cases hx
 | append_singleton L p ih =>
   intro x hx;rw[dN]at hx;rcases aW4 hx with h | ⟨rfl,h⟩
   · exact⟨by simp[(ih x h).1],(ih x h).2⟩
   · exact⟨by simp,h⟩
def wt (L:List (List UInt8)):Nat:=(cF L).length
theorem mQ (L:List (List UInt8))(p:List UInt8):wt (L++[p])=wt L+(p.length+1):=by simp[wt,cF]
theorem yE (L:List (List UInt8)):wt L.dropLast<=wt L:=by
 induction L using gV with
 | nil=>exact Nat.le_refl _
 | append_singleton L p ih=>rw[List.dropLast_concat,mQ];omega
theorem aR6 (acc:List (List UInt8))(p:List UInt8):wt (iZ acc p)<=wt acc+(if fV p then 0 else p.length+1):=by
 cases hd:fV p
 · rw[iY hd,mQ];simp
 · rcases qN hd with rfl | rfl
   · unfold iZ;rw[if_pos rfl];simp
   · unfold iZ;rw[if_neg (by decide),if_pos rfl];have:=yE acc;simpa using this
theorem wt_taken (L:List (List UInt8)):wt (taken L)<=wt L:=by
 induction L using gV with
 | nil=>exact Nat.le_refl _
 | append_singleton L p ih =>
   rw[dN,mQ];have:=aR6 (taken L) p;split at this<;>omega
theorem lO (L acc:List (List UInt8))(p:List UInt8):iW (L++[p]) acc=if fV p then acc++[[]] else acc:=by simp[iW]
theorem wt_end (L:List (List UInt8)):wt (iW L (taken L))<=wt L:=by
 rcases List.eq_nil_or_concat L with rfl | ⟨L,p,rfl⟩
 · exact Nat.le_refl _
 · rw[List.concat_eq_append,lO,dN,mQ]
   have h1:=aR6 (taken L) p;have h2:=wt_taken L
   cases hd:fV p
   · rw[hd]at h1;simp at h1 ⊢;omega
   · rw[hd]at h1;simp only[if_true]at h1 ⊢
     rw[mQ];rcases qN hd with rfl | rfl<;>simp at h1 ⊢ <;> omega
theorem wt_cut (l:List UInt8):wt (cut sl l)=l.length+1:=by
 have h1:=eS sl l;have h2:=dR sl l
 have h3:∀ L:List (List UInt8),wt L=(L.map List.length).sum+L.length:=fun L=>by
  induction L with
  | nil=>rfl
  | cons a L ih =>
    have:wt (a :: L)=(a.length+1)+wt L:=by simp[wt,cF];omega
    rw[this,ih];simp;omega
 rw[h3];omega
theorem tP (l:List UInt8):(fR l).length<=l.length:=by
 unfold fR;split
 · exact Nat.le_refl _
 · rename_i b r
   split
   · have h1:=wt_end (cut sl r)
     rw[wt_cut]at h1;exact h1
   · exact Nat.zero_le _
theorem outC_ne (r:List UInt8):aB0 r≠[]:=by
 unfold aB0;rcases List.eq_nil_or_concat (cut sl r)with h | ⟨L,p,h⟩
 · exact absurd h (jV sl r)
 · rw[h,List.concat_eq_append,lO,dN]
   cases hd:fV p
   · rw[iY hd];simp
   · simp
theorem outC_mem (r:List UInt8):∀ x∈aB0 r,fV x=false/\∀ b∈x,sl b=false:=by
 unfold aB0;have ht:=aV8 (cut sl r);have hc:=aU3 sl r;intro x hx
 have:x∈taken (cut sl r)\/x=[]:=by
  unfold iW at hx;split at hx
  · split at hx
    · simpa using hx
    · exact .inl hx
  · exact .inl hx
 rcases this with h | rfl
 · exact⟨(ht x h).2,hc x (ht x h).1⟩
 · exact⟨rfl,by simp⟩
theorem aE2 (x:List UInt8)(L:List (List UInt8))(h:∀ y∈x :: L,∀ b∈y,sl b=false):cut sl (x++cF L)=x :: L:=by
 induction L generalizing x with
 | nil=>simp[cF];exact lD sl x (h x (by simp))
 | cons y L ih =>
   have e:x++cF (y :: L)=x++47 :: (y++cF L):=by simp[cF]
   rw[e,lR sl x 47 _ (h x (by simp)) (by decide),ih y (fun z hz=>h z (by simp[List.mem_cons.1 hz]))]
theorem yO (L:List (List UInt8))(h:∀ x∈L,fV x=false):taken L=L:=by
 induction L using gV with
 | nil=>rfl
 | append_singleton L p ih=>rw[dN,ih (fun x hx=>h x (by simp[hx])),iY (h p (by simp))]
theorem aP5 (L acc:List (List UInt8))(h:∀ x∈L,fV x=false):iW L acc=acc:=by
 rcases List.eq_nil_or_concat L with rfl | ⟨M,p,rfl⟩
 · rfl
 · rw[List.concat_eq_append,lO,h p (by simp)];rfl
theorem zA (r:List UInt8):cF (cut sl r)=47 :: r:=by
 induction r with
 | nil=>rfl
 | cons b r ih =>
   rw[aE3]
   cases hb:sl b
   · simp only[Bool.false_eq_true,if_false]
     obtain⟨x,xs,hx⟩:∃ x xs,cut sl r=x :: xs:=List.exists_cons_of_ne_nil (jV sl r);rw[hx]at ih;simp only[hx,List.head_cons,List.tail_cons];simp[cF]at ih ⊢;exact ih
   · rw[if_pos rfl]
     have e:b=47:=by simpa [sl] using hb
     simp only[cF,List.flatMap_cons]at ih ⊢;rw[ih,e];rfl
theorem xO (r:List UInt8)(h:∀ x∈cut sl r,fV x=false):fR (47 :: r)=47 :: r:=by
 show cF (aB0 r)=_;unfold aB0;rw[yO _ h,aP5 _ _ h,zA]
theorem mY (x:List UInt8)(L:List (List UInt8)):cF (x :: L)=47 :: (x++cF L):=by simp[cF]
theorem bG5 (r:List UInt8):fR (47 :: r)=47 :: r↔∀ x∈cut sl r,fV x=false:=by
 constructor
 · intro h
   have e:cF (aB0 r)=47 :: r:=h;have hm:=outC_mem r;obtain⟨x,L,hx⟩:=List.exists_cons_of_ne_nil (outC_ne r);rw[hx]at hm e;rw[mY]at e;have e2:x++cF L=r:=by simpa using e
   rw[<- e2,aE2 x L (fun y hy=>(hm y hy).2)];exact fun y hy=>(hm y hy).1
 · exact xO r
def fG (l:List UInt8):Bool := !l.isEmpty&&bG 33 [63,35] l&&decide (fR l=l)
structure U where
 o:Bool
 s:List UInt8
 h:List UInt8
 p:Int
 pa:List UInt8
 q:List UInt8
 deriving DecidableEq
def fU (l:List UInt8):Bool:=l.isEmpty || (l.head? == some 63&&bG 33 [35] l)
def iN (p:Int):List UInt8:=if p=0 then [] else 58 :: Lib.decDigits p.toNat
def jY (u:U):List UInt8:=if u.o then u.s++58 :: u.pa else u.s++58 :: 47 :: 47 :: (u.h++(iN u.p++(u.pa++u.q)))
def cV (u:U):Bool:=decide (kH u.s≠0)&&bU u.h&&decide (0<=u.p)&&decide (u.p<=65535)&&decide (u.p≠(kH u.s:Int))&&fG u.pa&&fU u.q
def cX (u:U):Bool:=dO u.s&&decide (kH u.s=0)&&u.h.isEmpty&&decide (u.p=0)&&u.q.isEmpty&&bG 32 [35] u.pa&&decide (eH u.pa=u.pa)
def aT (u:U):Bool:=(if u.o then cX u else cV u)&&decide ((jY u).length<=500)
def upto (p:UInt8->Bool)(l:List UInt8):List UInt8:=l.takeWhile (fun b => !p b)
def dC (p:UInt8->Bool)(l:List UInt8):List UInt8:=l.dropWhile (fun b => !p b)
theorem aV6 (p:UInt8->Bool)(l:List UInt8):upto p l++dC p l=l:=List.takeWhile_append_dropWhile
def eQ (c:UInt8)(b:UInt8):Bool:=b==c
def isE (b:UInt8):Bool:=b==47 || b==63
def lX (l:List UInt8):Nat:=l.foldl (fun n b=>n * 10+(b.toNat - 48)) 0
def tK (l:List UInt8):Option Nat:=if l=[]\/5<l.length\/l.all bO=false then none else some (lX l)
end Go.Proofs.YthnogdodlhkldaaGreatDoor
namespace Go.Proofs.YthnogdodlhkldaaGreatDoor
theorem bB0 (p:UInt8->Bool)(l:List UInt8)(h:∀ b∈l,p b=false):upto p l=l/\dC p l=[]:=by
 induction l with
 | nil=>exact⟨rfl,rfl⟩
 | cons b l ih =>
   have hb:=h b (by simp);obtain⟨h1,h2⟩:=ih (fun x hx=>h x (by simp[hx]));unfold upto dC at *;rw[List.takeWhile_cons,List.dropWhile_cons,hb];simp[h1,h2]
theorem aA9 (p:UInt8->Bool)(a:List UInt8)(c:UInt8)(r:List UInt8)(ha:∀ b∈a,p b=false)(hc:p c=true):upto p (a++c :: r)=a/\dC p (a++c :: r)=c :: r:=by
 induction a with
 | nil =>
   unfold upto dC;rw[List.nil_append,List.takeWhile_cons,List.dropWhile_cons,hc];simp
 | cons b a ih =>
   have hb:=ha b (by simp);obtain⟨h1,h2⟩:=ih (fun x hx=>ha x (by simp[hx]));unfold upto dC at *;rw[List.cons_append,List.takeWhile_cons,List.dropWhile_cons,hb];simp[h1,h2]
theorem eK (p:UInt8->Bool)(l:List UInt8):(upto p l).length+(dC p l).length=l.length:=by
 have:=congrArg List.length (aV6 p l);rw[List.length_append]at this;exact this
theorem bB1 (p:UInt8->Bool)(l:List UInt8)(c:UInt8)(r:List UInt8)(h:dC p l=c :: r):p c=true:=by
 induction l with
 | nil=>cases h
 | cons b l ih =>
   unfold dC at h ih;rw[List.dropWhile_cons]at h
   cases hb:p b
   · rw[hb]at h;simp at h;exact ih h
   · rw[hb]at h;simp at h;rw[<- h.1];exact hb
theorem upto_no (p:UInt8->Bool)(l:List UInt8):∀ b∈upto p l,p b=false:=by
 induction l with
 | nil=>intro b hb;cases hb
 | cons c l ih =>
   intro b hb;unfold upto at hb ih;rw[List.takeWhile_cons]at hb
   cases hc:p c
   · rw[hc]at hb
     simp at hb;rcases hb with rfl | hb
     · exact hc
     · exact ih b (by simpa using hb)
   · rw[hc]at hb;simp at hb
structure CutTo (p:UInt8->Bool) (l:List UInt8) (fr i:Nat) (out:List (List UInt8)):Prop where
 sum:out++cut p (l.drop fr)=cut p (l.drop 1)
 open_:∀ k b,fr<=k->k<i->l[k]? = some b->p b=false
 le:fr<=i
 few:out.length<fr
theorem aE4 (p:UInt8->Bool)(l:List UInt8):CutTo p l 1 1 []:=⟨rfl,fun k b h1 h2=>by omega,Nat.le_refl _,Nat.zero_lt_one⟩
theorem cutTo_in {p:UInt8->Bool}{l:List UInt8}{fr i:Nat}{b:UInt8}{out:List (List UInt8)}(h:CutTo p l fr i out)(hb:l[i]? = some b)(hbl:p b=false):CutTo p l fr (i+1) out:=by
 refine⟨h.sum,fun k b' k1 k2 hk => ?_,by have:=h.le;omega,h.few⟩
 by_cases hp:k<i
 · exact h.open_ k b' k1 hp hk
 · obtain rfl:k=i:=by omega
   rw[hb]at hk;cases hk;exact hbl
theorem aU4 {p:UInt8->Bool}{l:List UInt8}{a pos:Nat}(h:∀ k b,a<=k->k<pos->l[k]? = some b->p b=false):∀ b∈(l.drop a).take (pos - a),p b=false:=by
 intro b hb;obtain⟨k,hk⟩:=List.mem_iff_getElem?.1 hb;rw[List.getElem?_take]at hk;split at hk
 · rw[List.getElem?_drop]at hk
   exact h (a+k) b (by omega) (by omega) hk
 · cases hk
theorem bG1 {p:UInt8->Bool}{l:List UInt8}{fr i:Nat}{b:UInt8}{out:List (List UInt8)}(h:CutTo p l fr i out)(hb:l[i]? = some b)(hbl:p b=true):CutTo p l (i+1) (i+1) (out++[(l.drop fr).take (i - fr)]):=by
 refine⟨?_,fun k b' k1 k2=>by omega,Nat.le_refl _,by have:=h.few;have:=h.le;simp;omega⟩;have hs:=h.sum;rw[seg h.le hb,lR p _ b _ (aU4 h.open_) hbl]at hs;rw[<- hs];simp
theorem bG2 {p:UInt8->Bool}{l:List UInt8}{fr:Nat}{out:List (List UInt8)}(h:CutTo p l fr l.length out):out++[(l.drop fr).take (l.length - fr)]=cut p (l.drop 1):=by
 have hs:=h.sum;have e:l.drop fr=(l.drop fr).take (l.length - fr):=by rw[List.take_of_length_le (by simp)]
 rw[e,lD p _ (aU4 h.open_)]at hs;exact hs
theorem mV (L:List (List UInt8)):(taken L).length<=L.length:=by
 induction L using gV with
 | nil=>exact Nat.le_refl _
 | append_singleton L p ih =>
   rw[dN,List.length_append]
   have:(iZ (taken L) p).length<=(taken L).length+1:=by
    unfold iZ;split
    · omega
    · split
      · rw[List.length_dropLast];omega
      · simp
   simp;omega
theorem vT (x:List UInt8)(L:List (List UInt8)):47 :: Lib.join (x :: L) [47]=cF (x :: L):=by
 induction L generalizing x with
 | nil=>simp[Lib.join,cF,List.intercalate]
 | cons y L ih =>
   have:=ih y;rw[mY,<- this];simp[Lib.join,List.intercalate]
theorem aY1 {u:U}(h:aT u=true):(jY u).length<=500:=by
 unfold aT at h;simp at h;exact h.2
theorem aI3 {u:U}(h:aT u=true):u.s.length<=500/\u.h.length<=500/\u.pa.length<=500/\u.q.length<=500:=by
 have h1:=aY1 h;unfold aT at h
 cases ho:u.o
 · unfold jY at h1
   rw[ho]at h1;simp only[Bool.false_eq_true,if_false,List.length_append,List.length_cons]at h1;omega
 · rw[ho]at h
   unfold jY at h1;rw[ho]at h1;simp only[if_true,List.length_append,List.length_cons]at h1;simp only[if_true,cX,Bool.and_eq_true,List.isEmpty_iff,decide_eq_true_eq]at h;obtain⟨⟨⟨⟨⟨⟨⟨h2,h3⟩,h4⟩,h5⟩,h6⟩,_⟩,_⟩,_⟩:=h;rw[h4,h6];simp;omega
theorem uE {u:U}(h:aT u=true):dO u.s=true:=by
 unfold aT at h
 cases ho:u.o
 · rw[ho]at h
   simp only[Bool.false_eq_true,if_false,cV,Bool.and_eq_true,decide_eq_true_eq]at h;exact aU2 h.1.1.1.1.1.1.1
 · rw[ho]at h
   simp only[if_true,cX,Bool.and_eq_true]at h;exact h.1.1.1.1.1.1.1
end Go.Proofs.YthnogdodlhkldaaGreatDoor
namespace Go.Proofs.YthnogdodlhkldaaGreatDoor
theorem jI {p:UInt8->Prop}(h:∀ n:Fin 256,p (UInt8.ofNat n.val))(b:UInt8):p b:=by
 have:=h ⟨b.toNat,b.toNat_lt⟩
 simpa using this
theorem aH6 (b:UInt8):kK b=true->eX b=b/\eQ 58 b=false/\eQ 35 b=false/\eW b=false:=by revert b;exact jI (by decide +kernel)
theorem aB4 (b:UInt8):(gG b || oT b)=true->eX b=b/\eQ 58 b=false/\eQ 35 b=false/\isE b=false:=by revert b;exact jI (by decide +kernel)
theorem aD8 (b:UInt8):bO b=true->eQ 58 b=false/\eQ 35 b=false/\isE b=false:=by revert b;exact jI (by decide +kernel)
theorem oH {b:UInt8}{l:List UInt8}:dO (b :: l)=(decide (l.length<20)&&small b&&(b :: l).all kK):=rfl
theorem schM_all {l:List UInt8}(h:dO l=true):l≠[]/\∀ b∈l,kK b=true:=by
 cases l with
 | nil=>cases h
 | cons c l =>
   rw[oH,Bool.and_eq_true,List.all_eq_true]at h;exact⟨by simp,h.2⟩
theorem bE9 {l:List UInt8}:∀ {p:Bool},dD p l=true->∀ b∈l,(gG b || oT b)=true:=by
 induction l with
 | nil=>intro p _ b hb;cases hb
 | cons c l ih =>
   intro p h b hb;unfold dD at h
   cases hd:oT c
   · rw[hd]at h
     simp only[Bool.false_eq_true,if_false,Bool.and_eq_true]at h;rcases List.mem_cons.1 hb with rfl | hb
     · rw[h.1];rfl
     · exact ih h.2 b hb
   · rw[hd]at h
     simp only[if_true,Bool.and_eq_true]at h;rcases List.mem_cons.1 hb with rfl | hb
     · rw[hd,Bool.or_true]
     · exact ih h.2 b hb
theorem uS {l:List UInt8}(h:bU l=true):∀ b∈l,(gG b || oT b)=true:=by
 rw[aT5,Bool.and_eq_true]at h;exact bE9 h.2
theorem qB (k:Nat)(h:k<10):bO (UInt8.ofNat (48+k))=true/\(UInt8.ofNat (48+k)).toNat - 48=k :=
 (show ∀ k:Fin 10,bO (UInt8.ofNat (48+k.val))=true/\(UInt8.ofNat (48+k.val)).toNat - 48=k.val by decide +kernel) ⟨k,h⟩
theorem dec_spec (u:Nat):(∀ b∈Lib.decDigits u,bO b=true)/\lX (Lib.decDigits u)=u:=by
 induction u using Nat.strongRecOn with
 | _ u ih =>
   by_cases h:u<10
   · rw[Lib.decDigits,dif_pos h]
     obtain⟨h1,h2⟩:=qB u h;refine⟨fun b hb=>by rw[List.mem_singleton.1 hb];exact h1,?_⟩;show 0 * 10+((UInt8.ofNat (48+u)).toNat - 48)=u;rw[h2];omega
   · rw[Lib.decDigits,dif_neg h]
     obtain⟨h1,h2⟩:=qB (u % 10) (by omega);obtain⟨g1,g2⟩:=ih (u / 10) (by omega);refine⟨fun b hb => ?_,?_⟩
     · rcases List.mem_append.1 hb with hb | hb
       · exact g1 b hb
       · rw[List.mem_singleton.1 hb];exact h1
     · unfold lX at g2 ⊢
       rw[List.foldl_append,g2];show u / 10 * 10+((UInt8.ofNat (48+u % 10)).toNat - 48)=u;rw[h2];omega
theorem yI {p:UInt8->Bool}{a:List UInt8}(r:List UInt8)(h:∀ b∈a,p b=false):upto p (a++r)=a++upto p r/\dC p (a++r)=dC p r:=by
 induction a with
 | nil=>exact⟨rfl,rfl⟩
 | cons c a ih =>
   have hc:=h c (by simp);obtain⟨h1,h2⟩:=ih (fun x hx=>h x (by simp[hx]));unfold upto dC at *;rw[List.cons_append,List.takeWhile_cons,List.dropWhile_cons,hc];simp[h1,h2]
theorem aV5 {p:UInt8->Bool}{c:UInt8}(r:List UInt8)(h:p c=true):upto p (c :: r)=[]/\dC p (c :: r)=c :: r:=aA9 p [] c r (by simp) h
theorem tX {p:UInt8->Bool}{c:UInt8}(r:List UInt8)(h:p c=false):upto p (c :: r)=c :: upto p r/\dC p (c :: r)=dC p r:=by
 have:=yI (p:=p) (a:=[c]) r (by simpa using h);exact this
theorem wS {u:U}(h:aT u=true)(ho:u.o=false):kH u.s≠0/\bU u.h=true/\0<=u.p/\u.p<=65535/\u.p≠(kH u.s:Int)/\fG u.pa=true/\fU u.q=true:=by
 unfold aT at h;rw[ho]at h;simp only[Bool.false_eq_true,if_false,cV,Bool.and_eq_true,decide_eq_true_eq]at h;obtain⟨⟨⟨⟨⟨⟨⟨h1,h2⟩,h3⟩,h4⟩,h5⟩,h6⟩,h7⟩,h8⟩:=h;exact⟨h1,h2,h3,h4,h5,h6,h7⟩
theorem bA1 (p:Int):∀ b∈iN p,(b=58\/bO b=true):=by
 unfold iN;split
 · intro b hb;cases hb
 · intro b hb
   rcases List.mem_cons.1 hb with h | h
   · exact .inl h
   · exact .inr ((dec_spec _).1 b h)
def placeM (u:U):List UInt8:=u.s++58 :: 47 :: 47 :: (u.h++iN u.p)
theorem place_no {u:U}(h:aT u=true)(ho:u.o=false):∀ b∈placeM u,eQ 35 b=false:=by
 obtain⟨h1,h2,_⟩:=wS h ho;have h3:=schM_all (uE h);intro b hb;unfold placeM at hb;simp only[List.mem_append,List.mem_cons]at hb;rcases hb with hb | rfl | rfl | rfl | hb | hb
 · exact(aH6 b (h3.2 b hb)).2.2.1
 · rfl
 · rfl
 · rfl
 · exact(aB4 b (uS h2 b hb)).2.2.1
 · rcases bA1 _ b hb with rfl | hb
   · rfl
   · exact(aD8 b hb).2.1
end Go.Proofs.YthnogdodlhkldaaGreatDoor
namespace Go.Proofs.YthnogdodlhkldaaGreatDoor
theorem kP {α:Type}{P:List α->Prop}(h0:P [])(hs:∀ l b,P l->P (l++[b]))(l:List α):P l:=by
 rw[<- l.reverse_reverse];generalize l.reverse=r
 induction r with
 | nil=>exact h0
 | cons a r ih=>rw[List.reverse_cons];exact hs _ _ ih
def bR:Nat->Nat->List Bool
 | 0,_=>[]
 | k+1,x=>bR k (x / 2)++[x % 2==1]
def lY (l:List Bool):Nat:=l.foldl (fun n b=>2 * n+b.toNat) 0
def dM (t:Nat)(l:List Nat):List Bool:=(l.map (bR t)).flatten
def aR9 (t:Nat)(p:List Nat × List Bool)(b:Bool):List Nat × List Bool:=if p.2.length+1=t then (p.1++[lY (p.2++[b])],[]) else (p.1,p.2++[b])
def kL (t:Nat)(bs:List Bool):List Nat × List Bool:=bs.foldl (aR9 t) ([],[])
theorem bY (t x:Nat):(bR t x).length=t:=by
 induction t generalizing x with
 | zero=>rfl
 | succ k ih=>rw[bR,List.length_append,ih];rfl
theorem kU (l:List Bool)(b:Bool):lY (l++[b])=2 * lY l+b.toNat:=by simp[lY]
theorem aN4 (l:List Bool):lY l<2 ^ l.length:=by
 induction l using kP with
 | h0=>decide
 | hs l b ih =>
   rw[kU,List.length_append,List.length_singleton,Nat.pow_succ]
   cases b<;>simp<;>omega
theorem bB7 (t x:Nat)(h:x<2 ^ t):lY (bR t x)=x:=by
 induction t generalizing x with
 | zero =>
   have:x=0:=by simpa using h
   subst this;rfl
 | succ k ih =>
   rw[Nat.pow_succ]at h;rw[bR,kU,ih (x / 2) (by omega)];rcases Nat.mod_two_eq_zero_or_one x with e | e
   · rw[e];simp;omega
   · rw[e];simp;omega
theorem bH9 (l:List Bool):bR l.length (lY l)=l:=by
 induction l using kP with
 | h0=>rfl
 | hs l b ih =>
   rw[List.length_append,List.length_singleton,bR,kU]
   cases b
   · have e1:(2 * lY l+false.toNat) / 2=lY l:=by simp
     have e2:((2 * lY l+false.toNat) % 2==1)=false:=by simp
     rw[e1,e2,ih]
   · have e1:(2 * lY l+true.toNat) / 2=lY l:=by simp;omega
     have e2:((2 * lY l+true.toNat) % 2==1)=true:=by simp
     rw[e1,e2,ih]
theorem vI (t x j:Nat)(h:j<t):(bR t x)[j]? = some (x / 2 ^ (t - 1 - j) % 2==1):=by
 induction t generalizing x with
 | zero=>omega
 | succ k ih =>
   rw[bR]
   by_cases hj:j<k
   · rw[List.getElem?_append_left (by rw[bY];exact hj),ih (x / 2) hj,Nat.div_div_eq_div_mul]
     have:k+1 - 1 - j=(k - 1 - j)+1:=by omega
     rw[this,Nat.pow_succ,Nat.mul_comm]
   · obtain rfl:j=k:=by omega
     rw[List.getElem?_append_right (by rw[bY];exact Nat.le_refl _),bY,Nat.sub_self];simp
theorem kX (t:Nat)(a b:List Nat):dM t (a++b)=dM t a++dM t b:=by simp[dM]
theorem uX (t x:Nat)(a:List Nat):dM t (x :: a)=bR t x++dM t a:=by simp[dM]
theorem flat_one (t x:Nat):dM t [x]=bR t x:=by simp[dM]
theorem eB (t:Nat)(a:List Nat):(dM t a).length=t * a.length:=by
 induction a with
 | nil=>rfl
 | cons x a ih=>rw[uX,List.length_append,bY,ih,List.length_cons,Nat.mul_succ];omega
theorem bF3 (t:Nat)(a:List Nat)(k x:Nat)(h:a[k]? = some x):dM t (a.take (k+1))=dM t (a.take k)++bR t x:=by
 rw[List.take_add_one,h];simp[dM]
theorem aD3 (t:Nat)(bs:List Bool)(b:Bool):kL t (bs++[b])=aR9 t (kL t bs) b:=by simp[kL]
theorem nL (t:Nat)(h0:0<t)(bs:List Bool):bs=dM t (kL t bs).1++(kL t bs).2/\(kL t bs).2.length<t/\∀ x∈(kL t bs).1,x<2 ^ t:=by
 induction bs using kP with
 | h0=>exact⟨rfl,h0,fun x hx=>by cases hx⟩
 | hs bs b ih =>
   rw[aD3];generalize kL t bs=p at ih;obtain⟨m,h⟩:=p;obtain⟨h1,h2,h3⟩:=ih;simp only at h1 h2 h3;unfold aR9
   by_cases e:h.length+1=t
   · have el:(h++[b]).length=t:=by simpa using e
     rw[if_pos e];refine⟨?_,h0,fun x hx => ?_⟩
     · simp only[List.append_nil]
       rw[kX,flat_one,<- el,bH9,el,h1,List.append_assoc]
     · simp only[List.mem_append,List.mem_singleton]at hx
       rcases hx with hx | rfl
       · exact h3 x hx
       · have:=aN4 (h++[b])
         rw[el]at this;exact this
   · rw[if_neg e]
     refine⟨?_,by simp;omega,h3⟩;simp only;rw[h1,List.append_assoc]
def SG:List UInt8:=[65,66,67,68,69,70,71,72,73,74,75,76,77,78,79,80,81,82,83,84,85,86,87,88,89,90,97,98,99,100,101,102,103,104,105,106,107,108,109,110,111,112,113,114,115,116,117,118,119,120,121,122,48,49,50,51,52,53,54,55,56,57,43,47]
def sgn (n:Nat):UInt8:=SG.getD n 0
def plB (c:UInt8):UInt8:=if c=45 then 43 else if c=95 then 47 else c
def mS (c:UInt8):Int:=Lib.indexByte SG (plB c)
def gL (c:UInt8):Nat:=(mS c).toNat
theorem bI1 {P:UInt8->Prop}(h:∀ n:Fin 256,P (UInt8.ofNat n.val))(c:UInt8):P c:=by
 have:=h ⟨c.toNat,c.toNat_lt⟩
 simpa using this
theorem aR8 (c:UInt8) : -1<=mS c/\mS c<=63:=by
 revert c;refine bI1 ?_;decide +kernel
theorem val_fill:mS 61 = -1:=by decide +kernel
theorem vO (c:UInt8):gL c<64:=by have:=aR8 c;unfold gL;omega
theorem yH {c:UInt8}(h:0<=mS c):(gL c:Int)=mS c:=by unfold gL;omega
theorem plB_id {c:UInt8}(h:c≠45)(h2:c≠95):plB c=c:=by unfold plB;rw[if_neg h,if_neg h2]
end Go.Proofs.YthnogdodlhkldaaGreatDoor
namespace Go.Proofs.YthnogdodlhkldaaGreatDoor
def hd (s:List UInt8):List UInt8:=Lib.trimRightB s 61
def iG (h:List UInt8):Bool:=h.all fun c=>decide (0<=mS c)
def cT (s:List UInt8):Bool := !(hd s).isEmpty&&decide (s.length - (hd s).length<=2)&&iG (hd s)
def gJ (h:List UInt8):List Bool:=dM 6 (h.map gL)
def mL (s:List UInt8):List UInt8 × Bool :=
 if s=[] then ([],true)
 else if cT s=false then ([],false)
 else if (hd s).length<s.length/\s.length % 4≠0 then ([],false)
 else if 6<=(kL 8 (gJ (hd s))).2.length\/lY (kL 8 (gJ (hd s))).2≠0 then ([],false)
 else ((kL 8 (gJ (hd s))).1.map Nat.toUInt8,true)
theorem xI (s:List UInt8)(b:UInt8):hd (s++[b])=if b=61 then hd s else s++[b]:=by
 unfold hd Lib.trimRightB;rw[List.reverse_append,List.reverse_singleton,List.singleton_append,List.dropWhile_cons]
 by_cases e:b=61
 · subst e
   rw[if_pos (by rfl),if_pos rfl]
 · rw[if_neg (by simpa using e),if_neg e]
   simp
theorem aT7 (l:List UInt8)(k:Nat):hd (l++List.replicate k 61)=hd l:=by
 induction k with
 | zero=>simp
 | succ k ih=>rw[List.replicate_succ',<- List.append_assoc,xI,if_pos rfl,ih]
def jU (l:List UInt8):Prop:=∀ b,l.getLast? = some b->b≠61
theorem aP2 (l:List UInt8)(h:jU l):hd l=l:=by
 induction l using kP with
 | h0=>rfl
 | hs l b _ =>
   rw[xI,if_neg (h b (by simp))]
theorem hd_of (l:List UInt8)(k:Nat)(h:jU l):hd (l++List.replicate k 61)=l:=by
 rw[aT7,aP2 l h]
theorem aD0 (s:List UInt8):∃ k,s=hd s++List.replicate k 61/\jU (hd s):=by
 induction s using kP with
 | h0=>exact⟨0,rfl,fun b h=>by cases h⟩
 | hs s b ih =>
   rw[xI]
   by_cases e:b=61
   · subst e
     obtain⟨k,h1,h2⟩:=ih;rw[if_pos rfl];refine⟨k+1,?_,h2⟩;rw[List.replicate_succ',<- List.append_assoc,<- h1]
   · rw[if_neg e]
     exact⟨0,by simp,fun c h=>by simp at h;subst h;exact e⟩
theorem aT6 (s:List UInt8):(hd s).length<=s.length:=by
 obtain⟨k,h,_⟩:=aD0 s;have:=congrArg List.length h;rw[List.length_append]at this;omega
theorem nM {h:List UInt8}(e:iG h=true):∀ c∈h,0<=mS c:=by
 intro c hc;have:=List.all_eq_true.1 e c hc
 simpa using this
theorem nN {h:List UInt8}(e:iG h=true):jU h:=by
 intro b hb e61;subst e61;have:=nM e 61 (List.mem_of_getLast? hb);rw[val_fill]at this;omega
def bI4 (s h:List UInt8):Prop:=∃ k,k<=2/\s=h++List.replicate k 61/\(k=2\/jU h)
theorem uT {s h:List UInt8}(e:bI4 s h):cT s=(!h.isEmpty&&iG h):=by
 obtain⟨k,hk,rfl,ho⟩:=e
 by_cases hh:jU h
 · unfold cT
   rw[hd_of h k hh,List.length_append,List.length_replicate,decide_eq_true (by omega)];simp
 · have hg:iG h=false:=by
    cases hg:iG h with
    | false=>rfl
    | true=>exact absurd (nN hg) hh
   rw[hg,Bool.and_false]
   obtain rfl:k=2:=by
    rcases ho with ho | ho
    · exact ho
    · exact absurd ho hh
   unfold cT;rw[aT7];obtain⟨k',h1,h2⟩:=aD0 h;have hl:=congrArg List.length h1;rw[List.length_append,List.length_replicate]at hl
   have hk':k'≠0:=fun h0=>by
    subst h0;simp only[List.replicate_zero,List.append_nil]at h1;rw[<- h1]at h2;exact hh h2
   rw[decide_eq_false (by rw[List.length_append,List.length_replicate];omega)];simp
theorem head_is {s h:List UInt8}(e:bI4 s h)(hf:cT s=true):hd s=h:=by
 have:=uT e;rw[hf]at this
 have hg:iG h=true:=by
  cases hg:iG h with
  | false=>rw[hg]at this;simp at this
  | true=>rfl
 obtain⟨k,hk,rfl,ho⟩:=e;exact hd_of h k (nN hg)
end Go.Proofs.YthnogdodlhkldaaGreatDoor
namespace Go.Proofs.YthnogdodlhkldaaGreatDoor
structure bH where
 k:Int
 t:List UInt8
 s:List UInt8
 h:List UInt8
 w:Bool
 p:Int
 pa:List UInt8
 deriving DecidableEq
def bH.zero:bH:=⟨0,[],[],[],false,0,[]⟩
def KEPT:List (List UInt8):=[[39,110,111,110,101,39],[39,115,101,108,102,39],[39,117,110,115,97,102,101,45,105,110,108,105,110,101,39],[39,117,110,115,97,102,101,45,101,118,97,108,39],[39,119,97,115,109,45,117,110,115,97,102,101,45,101,118,97,108,39],[39,115,116,114,105,99,116,45,100,121,110,97,109,105,99,39],[39,117,110,115,97,102,101,45,104,97,115,104,101,115,39],[39,114,101,112,111,114,116,45,115,97,109,112,108,101,39]]
def aN (k:Int):List UInt8:=if 1<=k/\k<=8 then KEPT.getD (k - 1).toNat [] else []
def bI5 (b:UInt8):Bool:=aC6 33 [63,35,44,59,58] b
def cD (l:List UInt8):Bool:=decide (l.length<=200)&&(l.isEmpty || l.head? == some 47)&&l.all bI5
def bJ (a:bH):Bool:=a.h.isEmpty && !a.w&&decide (a.p=0)&&a.pa.isEmpty
def aY (a:bH):Bool:=a.t.isEmpty&&(a.s.isEmpty || dO a.s)&&(a.h.isEmpty || bU a.h)&&(!a.h.isEmpty || a.w)&&decide (-1<=a.p/\a.p<=65535)&&cD a.pa
def aL (a:bH):Bool :=
 if a.k=9 then bJ a&&a.s.isEmpty&&decide (a.t.length<=200)&&cT a.t
 else if a.k=10 then bJ a&&a.s.isEmpty&&decide (a.t.length=16)
 else if a.k=11 then bJ a&&a.t.isEmpty&&dO a.s
 else if a.k=12 then aY a
 else !(aN a.k).isEmpty&&bJ a&&a.s.isEmpty&&a.t.isEmpty
def NON:List UInt8:=[39,110,111,110,99,101,45]
def MRK:List UInt8:=[39,109,97,114,107,45]
def mP (l t:List UInt8):Bool:=decide (aZ (l.take t.length)=t)
def gR (l:List UInt8):bH :=
 if mP l NON then ⟨9,(l.drop 7).dropLast,[],[],false,0,[]⟩
 else if mP l MRK then ⟨10,(mL ((l.drop 6).dropLast)).1,[],[],false,0,[]⟩
 else match ([1,2,3,4,5,6,7,8]:List Int).find? (fun k=>decide (aZ l=aN k))with
  | some k=>⟨k,[],[],[],false,0,[]⟩
  | none=>bH.zero
def kJ:List UInt8->Option (List UInt8 × List UInt8)
 | []=>none
 | b :: l=>if [58,47,47].isPrefixOf (b :: l) then some ([],(b :: l).drop 3) else (kJ l).map fun x=>(b :: x.1,x.2)
def kO (l:List UInt8):Int:=if l=[42] then -1 else match tK l with | some n=>if n=0\/65535<n then -2 else (n:Int) | none => -2
def oJ (l:List UInt8):Int:=match l with | []=>0 | _ :: ds=>kO ds
def kS (sc name:List UInt8)(p:Int)(pa:List UInt8):Option bH :=
 if aZ (name.take 2)=[42,46] then (if 2<name.length then some ⟨12,[],sc,aZ (name.drop 2),true,p,pa⟩ else none)
 else if name=[42] then some ⟨12,[],sc,[],true,p,pa⟩
 else some ⟨12,[],sc,aZ name,false,p,pa⟩
def jB (sc l:List UInt8):Option bH:=kS sc (upto (eQ 58) (upto (eQ 47) l)) (oJ (dC (eQ 58) (upto (eQ 47) l))) (dC (eQ 47) l)
def iS (l:List UInt8):Option bH :=
 if l.getLast? = some 58 then some ⟨11,[],aZ l.dropLast,[],false,0,[]⟩
 else match kJ l with
  | some (sc,r)=>if sc=[] then none else jB (aZ sc) r
  | none=>jB [] l
def cO (l:List UInt8):Option bH :=
 if l=[] then none
 else (if 2<=l.length/\l.head? = some 39/\l.getLast? = some 39 then some (gR l) else iS l).filter aL
theorem rT (b:UInt8):(eX b=58↔b=58)/\(eX b=47↔b=47)/\(eX b=39↔b=39)/\(eX b=42↔b=42)/\bO (eX b)=bO b/\(bO b=true->eX b=b)/\eQ 47 (eX b)=eQ 47 b/\eQ 58 (eX b)=eQ 58 b:=by revert b;exact jI (by decide +kernel)
theorem low_star (l:List UInt8):aZ l=[42]↔l=[42]:=by
 constructor
 · intro h
   have hl:l.length=1:=by rw[<- dP,h];rfl
   obtain⟨b,rfl⟩:=List.length_eq_one_iff.1 hl;simp[aZ]at h;rw[(rT b).2.2.2.1.1 h]
 · rintro rfl;decide
theorem last_low (l:List UInt8):((aZ l).getLast? = some 39↔l.getLast? = some 39)/\((aZ l).getLast? = some 58↔l.getLast? = some 58):=by
 unfold aZ;rw[List.getLast?_map]
 cases l.getLast? with
 | none=>simp
 | some b=>simp[(rT b).2.2.1,(rT b).1]
theorem beg_low (l t:List UInt8):mP (aZ l) t=mP l t:=by
 unfold mP;rw[show(aZ l).take t.length=aZ (l.take t.length) by unfold aZ;rw[List.map_take],low_low]
def bD (L:List (List UInt8)):List bH:=L.filterMap cO
theorem xG (a b:List (List UInt8)):bD (a++b)=bD a++bD b:=List.filterMap_append
theorem fQ (L:List (List UInt8)):(bD L).length<=L.length:=List.length_filterMap_le _ _
end Go.Proofs.YthnogdodlhkldaaGreatDoor
namespace Go.Proofs.YthnogdodlhkldaaGreatDoor
def kF (l:List UInt8):Option Int:=if l=[42] then some (-1) else match tK l with | some n=>if 0<n/\n<=65535 then some (n:Int) else none | none=>none
def jC (l:List UInt8):Option (List UInt8 × Bool) :=
 if l=[42] then some ([],true)
 else if [42,46].isPrefixOf l then (if l.drop 2=[] then none else some (l.drop 2,true))
 else if l=[] then none else some (l,false)
def mT (sc h:List UInt8)(wd:Bool)(pa rest:List UInt8):Option bH :=
 match rest with
 | []=>some ⟨12,[],sc,h,wd,0,pa⟩
 | _ :: ds=>(kF ds).map fun p=>⟨12,[],sc,h,wd,p,pa⟩
def fM (sc l:List UInt8):Option bH :=
 match jC (aZ (upto (eQ 58) (upto (eQ 47) l)))with
 | none=>none
 | some (h,wd)=>mT sc h wd (dC (eQ 47) l) (dC (eQ 58) (upto (eQ 47) l))
def qD (k:Int)(t:List UInt8):bH:=⟨k,t,[],[],false,0,[]⟩
def jQ (m:List UInt8):bH :=
 if mP m NON then qD 9 (m.drop 7)
 else if mP m MRK then qD 10 (mL (m.drop 6)).1
 else bH.zero
def cI (l:List UInt8):Option Int:=([1,2,3,4,5,6,7,8]:List Int).find? (fun k=>decide (aZ l=aN k))
def lZ (l:List UInt8):Option bH :=
 if l.head? = some 39 then
  match cI l with
  | some k=>some (qD k [])
  | none=>if l.getLast? = some 39 then some (jQ l.dropLast) else none
 else if l.getLast? = some 58 then some ⟨11,[],aZ l.dropLast,[],false,0,[]⟩
 else match kJ l with
  | some (sc,r)=>if sc=[] then none else fM (aZ sc) r
  | none=>fM [] l
theorem zI {a:bH}(hk:a.k=12)(hp:a.p = -2):aL a=false:=by
 unfold aL aY;rw[hk,hp];simp
theorem sportP_O (l:List UInt8):kO l=(kF l).getD (-2):=by
 unfold kO kF
 by_cases h:l=[42]
 · rw[if_pos h,if_pos h];rfl
 · rw[if_neg h,if_neg h]
   cases tK l with
   | none=>rfl
   | some n =>
     simp only[]
     by_cases h1:n=0\/65535<n
     · rw[if_pos h1,if_neg (by omega)];rfl
     · rw[if_neg h1,if_pos (by omega)];rfl
theorem aT3 (l:List UInt8):aZ (l.take 2)=[42,46]↔[42,46].isPrefixOf (aZ l)=true:=by
 have hz:∀(c:UInt8),((42==eX c)=true↔eX c=42)/\((46==eX c)=true↔eX c=46):=jI (by decide +kernel)
 match l with
 | []=>simp[aZ]
 | [x]=>simp[aZ]
 | x :: y :: r =>
   simp only[aZ,List.take_succ_cons,List.take_zero,List.map_cons,List.map_nil,List.isPrefixOf,Bool.and_true,Bool.and_eq_true,List.cons.injEq,and_true];rw[(hz x).1,(hz y).2]
theorem mH (sc h:List UInt8)(wd:Bool)(pa rest:List UInt8):(mT sc h wd pa rest).filter aL=(some (⟨12,[],sc,h,wd,oJ rest,pa⟩:bH)).filter aL:=by
 cases rest with
 | nil=>rfl
 | cons c ds =>
   unfold mT oJ;simp only[];rw[sportP_O]
   cases hp:kF ds with
   | some p=>rfl
   | none=>simp[Option.filter,zI]
theorem aS7 (sc l:List UInt8):(fM sc l).filter aL=(jB sc l).filter aL:=by
 unfold fM jB kS;generalize upto (eQ 58) (upto (eQ 47) l)=nm;generalize dC (eQ 58) (upto (eQ 47) l)=rest;generalize dC (eQ 47) l=pa;have hd:(aZ nm).drop 2=aZ (nm.drop 2):=by unfold aZ;rw[List.map_drop]
 have hn:aZ nm=[]↔nm=[]:=by unfold aZ;exact List.map_eq_nil_iff
 unfold jC
 by_cases h1:nm=[42]
 · subst h1
   rw[if_pos (by decide),if_neg (by decide),if_pos rfl];exact mH _ _ _ _ _
 · rw[if_neg (fun e=>h1 ((low_star nm).1 e))]
   by_cases h2:aZ (nm.take 2)=[42,46]
   · rw[if_pos ((aT3 nm).1 h2),if_pos h2,hd]
     have h4:aZ (nm.drop 2)=[]↔¬ 2<nm.length:=by
      unfold aZ;rw[List.map_eq_nil_iff,List.drop_eq_nil_iff];omega
     by_cases h3:2<nm.length
     · rw[if_neg (fun e=>(h4.1 e) h3),if_pos h3]
       exact mH _ _ _ _ _
     · rw[if_pos (h4.2 h3),if_neg h3]
   · rw[if_neg (fun e=>h2 ((aT3 nm).2 e)),if_neg h2,if_neg h1]
     by_cases h3:nm=[]
     · rw[if_pos (hn.2 h3),h3]
       have:aL (⟨12,[],sc,aZ [],false,oJ rest,pa⟩:bH)=false:=by unfold aL aY aZ;simp
       simp[Option.filter,this]
     · rw[if_neg (fun e=>h3 (hn.1 e))]
       exact mH _ _ _ _ _
theorem rG {l:List UInt8}(h:l.head? = some 39):dO (aZ l)=false:=by
 cases l with
 | nil=>cases h
 | cons b l =>
   simp at h;subst h;rw[show aZ (39 :: l)=39 :: aZ l from rfl,oH,show small 39=false by decide];simp
theorem aC8 {l:List UInt8}(h:l.head? = some 39):bU (aZ l)=false:=by
 cases l with
 | nil=>cases h
 | cons b l =>
   simp at h;subst h
   cases hm:bU (aZ (39 :: l))
   · rfl
   · have:=uS hm 39 (by simp[aZ];exact .inl (by decide))
     exact absurd this (by decide)
theorem tY {p:UInt8->Bool}{l:List UInt8}{c:UInt8}(h:l.head? = some c)(hp:p c=false):(upto p l).head? = some c:=by
 cases l with
 | nil=>cases h
 | cons b l =>
   simp at h;subst h;rw[(tX l hp).1];rfl
theorem sp3_head {l sc r:List UInt8}{c:UInt8}(h:l.head? = some c)(hc:c≠58)(hs:kJ l=some (sc,r)):sc.head? = some c:=by
 cases l with
 | nil=>cases h
 | cons b l =>
   simp at h;subst h;unfold kJ at hs;rw[if_neg (by simp[List.isPrefixOf];intro e;exact absurd e.symm hc)]at hs
   cases hx:kJ l with
   | none=>rw[hx]at hs;cases hs
   | some x =>
     rw[hx]at hs;simp at hs;rw[<- hs.1];rfl
theorem right_sc {sc l:List UInt8}(h0:sc≠[])(h:dO sc=false):(jB sc l).filter aL=none:=by
 cases hx:jB sc l with
 | none=>rfl
 | some a =>
   have hk:a.s=sc/\a.k=12:=by
    unfold jB kS at hx;split at hx
    · split at hx
      · cases hx;exact⟨rfl,rfl⟩
      · cases hx
    · split at hx
      · cases hx;exact⟨rfl,rfl⟩
      · cases hx;exact⟨rfl,rfl⟩
   have:aL a=false:=by
    unfold aL aY;rw[hk.1,hk.2,h];have:sc.isEmpty=false:=by simpa using h0
    rw[this];simp
   simp[Option.filter,this]
theorem pS {l:List UInt8}(h:l.head? = some 39):(iS l).filter aL=none:=by
 unfold iS
 by_cases h1:l.getLast? = some 58
 · rw[if_pos h1]
   have hs:dO (aZ l.dropLast)=false:=by
    by_cases hd:l.dropLast=[]
    · rw[hd];rfl
    · refine rG ?_
      cases l with
      | nil=>cases h
      | cons b l =>
        cases l with
        | nil=>exact absurd rfl hd
        | cons c l=>simpa using h
   have:aL (⟨11,[],aZ l.dropLast,[],false,0,[]⟩:bH)=false:=by unfold aL;simp[hs]
   simp[Option.filter,this]
 · rw[if_neg h1]
   cases hx:kJ l with
   | some x =>
     obtain⟨sc,r⟩:=x;simp only[];have hh:=sp3_head h (by decide) hx;have h0:sc≠[]:=by intro e;rw[e]at hh;cases hh
     rw[if_neg h0];exact right_sc (by intro e;exact h0 (List.map_eq_nil_iff.1 e)) (rG hh)
   | none =>
     simp only[];have hh:=tY (p:=eQ 58) (tY (p:=eQ 47) h (by decide)) (by decide);unfold jB kS;generalize upto (eQ 58) (upto (eQ 47) l)=nm at hh
     have e1:aZ (nm.take 2)≠[42,46]:=by
      intro e
      cases nm with
      | nil=>cases hh
      | cons b nm =>
        simp at hh;subst hh;simp[aZ]at e;exact absurd e.1 (by decide)
     have e2:nm≠[42]:=by rintro rfl;simp at hh
     rw[if_neg e1,if_neg e2];have hm:=aC8 hh
     have:(aZ nm).isEmpty=false:=by
      cases nm with
      | nil=>cases hh
      | cons b nm=>rfl
     have:∀ p pa,aL (⟨12,[],[],aZ nm,false,p,pa⟩:bH)=false:=by
      intro p pa;unfold aL aY;rw[hm,this];simp
     simp[Option.filter,this]
theorem nX {l t:List UInt8}(h:mP l t=true):t.length<=l.length:=by
 unfold mP at h;have:=congrArg List.length (of_decide_eq_true h);rw[dP,List.length_take]at this;omega
theorem nY {l t:List UInt8}{c:UInt8}(hl:l.getLast? = some c)(ht:∀ b,t.getLast? = some b->b≠eX c):mP l.dropLast t=mP l t:=by
 have hd:l=l.dropLast++[c]:=by
  have hne:l≠[]:=by intro e;rw[e]at hl;cases hl
  have:=List.dropLast_concat_getLast hne;rw[List.getLast?_eq_some_getLast hne]at hl;rw[Option.some.inj hl]at this;exact this.symm
 rw[Bool.eq_iff_iff];constructor
 · intro h
   have hlen:=nX h;unfold mP at h ⊢;rw[hd,List.take_append_of_le_length hlen];exact h
 · intro h
   have hlen:=nX h
   have hlt:t.length<=l.dropLast.length:=by
    rcases Nat.lt_or_ge l.dropLast.length t.length with hx | hx
    · exfalso
      have hl2:l.length=t.length:=by
       have:l.length=l.dropLast.length+1:=by have:=congrArg List.length hd;rw[List.length_append]at this;exact this
       omega
      unfold mP at h;have e:=of_decide_eq_true h;rw[<- hl2,List.take_length]at e;have e2:(aZ l).getLast? = some (eX c):=by unfold aZ;rw[List.getLast?_map,hl];rfl
      rw[e]at e2;exact ht _ e2 rfl
    · exact hx
   unfold mP at h ⊢;rw[hd,List.take_append_of_le_length hlt]at h;exact h
theorem bD8 {l:List UInt8}{k:Int}(h:cI l=some k):aZ l=aN k/\(k=1\/k=2\/k=3\/k=4\/k=5\/k=6\/k=7\/k=8):=by
 have h1:=List.find?_some h;have h2:=List.mem_of_find?_eq_some h;refine⟨of_decide_eq_true h1,?_⟩
 simpa using h2
theorem bE0 {k:Int}(h:k=1\/k=2\/k=3\/k=4\/k=5\/k=6\/k=7\/k=8):(aN k).head? = some 39/\(aN k).getLast? = some 39/\2<=(aN k).length/\mP (aN k) NON=false/\mP (aN k) MRK=false:=by
 rcases h with rfl | rfl | rfl | rfl | rfl | rfl | rfl | rfl<;>decide +kernel
theorem lA (l:List UInt8)(n:Nat):(l.drop n).dropLast=l.dropLast.drop n:=by
 rw[List.dropLast_eq_take,List.dropLast_eq_take,List.length_drop,List.drop_take]
 congr 1
 omega
theorem aS8 (l:List UInt8):cO l=(lZ l).filter aL:=by
 unfold cO lZ
 by_cases h0:l=[]
 · subst h0
   rfl
 rw[if_neg h0]
 by_cases hh:l.head? = some 39
 · rw[if_pos hh]
   cases hk:cI l with
   | some k =>
     obtain⟨e1,e2⟩:=bD8 hk;obtain⟨k1,k2,k3,k4,k5⟩:=bE0 e2;rw[<- e1]at k1 k2 k3 k4 k5;rw[if_pos ⟨by rw[<- dP];exact k3,hh,(last_low l).1.1 k2⟩];unfold gR;rw[beg_low]at k4 k5;rw[k4,k5];simp only[Bool.false_eq_true,if_false];unfold cI at hk;rw[hk];rfl
   | none =>
     simp only[]
     by_cases hz:l.getLast? = some 39
     · rw[if_pos hz]
       by_cases h2:2<=l.length
       · rw[if_pos ⟨h2,hh,hz⟩]
         unfold gR jQ
         have ht:∀ t:List UInt8,(t=NON\/t=MRK)->mP l.dropLast t=mP l t:=by
          intro t ht;refine nY hz ?_;rcases ht with rfl | rfl<;>intro b hb<;>(simp[NON,MRK]at hb;subst hb;decide)
         rw[ht NON (.inl rfl),ht MRK (.inr rfl),lA,lA];unfold cI at hk;rw[hk];rfl
       · rw[if_neg (fun e=>h2 e.1)]
         rw[pS hh]
         have hl:l=[39]:=by
          cases l with
          | nil=>exact absurd rfl h0
          | cons b l =>
            cases l with
            | nil=>simp at hh;rw[hh]
            | cons c l=>exact absurd (by simp) h2
         subst hl;rfl
     · rw[if_neg hz,if_neg (fun e=>hz e.2.2),pS hh]
       rfl
 · rw[if_neg hh,if_neg (fun e=>hh e.2.1)]
   unfold iS
   by_cases h58:l.getLast? = some 58
   · rw[if_pos h58,if_pos h58]
   · rw[if_neg h58,if_neg h58]
     cases kJ l with
     | some x =>
       obtain⟨sc,r⟩:=x;simp only[]
       by_cases hs:sc=[]
       · rw[if_pos hs,if_pos hs]
       · rw[if_neg hs,if_neg hs]
         exact(aS7 _ _).symm
     | none=>exact(aS7 _ _).symm
end Go.Proofs.YthnogdodlhkldaaGreatDoor
namespace Go.Proofs.YthnogdodlhkldaaGreatDoor
end Go.Proofs.YthnogdodlhkldaaGreatDoor
namespace Go.Proofs.YthnogdodlhkldaaGreatDoor
structure O where
 o:Bool
 s:List UInt8
 h:List UInt8
 p:Int
 deriving DecidableEq
def O.none:O:=⟨true,[],[],0⟩
def dU (u:U):Int:=if u.p=0 then (kH u.s:Int) else u.p
def cL (u:U):O:=if aT u=true/\u.o=false then ⟨false,u.s,u.h,dU u⟩ else O.none
def iM (a b:O):Bool := !a.o&&decide (a=b)
theorem iO {u:U}(h:¬ (aT u=true/\u.o=false)):cL u=O.none:=by unfold cL;rw[if_neg h]
theorem pV {u:U}(h:aT u=true)(ho:u.o=false):cL u=⟨false,u.s,u.h,dU u⟩:=by unfold cL;rw[if_pos ⟨h,ho⟩]
end Go.Proofs.YthnogdodlhkldaaGreatDoor
namespace Go.Proofs.YthnogdodlhkldaaGreatDoor
def mW (f n:Nat)(b:UInt8):Nat:=(n * f+b.toNat+1) % 1000000007
def rx (l:List UInt8):Nat:=l.foldl (mW 257) 7
def ry (l:List UInt8):Nat:=l.foldl (mW 65539) 11
def gH (n:Nat):List UInt8:=[(n / 16777216).toUInt8,(n / 65536).toUInt8,(n / 256).toUInt8,n.toUInt8]
def fP (l:List UInt8):List UInt8:=gH (rx l)++gH (ry l)++gH (rx l * ry l % 1000000007)++gH (l.length % 1000000007)
theorem qX (f n:Nat)(b:UInt8):mW f n b<=1000000006:=by
 have:=Nat.mod_lt (n * f+b.toNat+1) (show 1000000007>0 by decide);unfold mW;omega
theorem aT9 (f:Nat)(l:List UInt8)(n:Nat)(h:n<=1000000006):l.foldl (mW f) n<=1000000006:=by
 induction l generalizing n with
 | nil=>exact h
 | cons b l ih=>exact ih _ (qX f n b)
theorem rx_lt (l:List UInt8):rx l<=1000000006:=aT9 _ _ _ (by decide)
theorem ry_lt (l:List UInt8):ry l<=1000000006:=aT9 _ _ _ (by decide)
theorem aS3 (l:List UInt8)(b:UInt8):rx (l++[b])=mW 257 (rx l) b:=by simp[rx]
theorem aS2 (l:List UInt8)(b:UInt8):ry (l++[b])=mW 65539 (ry l) b:=by simp[ry]
theorem mul_lt (a b:Nat)(h1:a<=1000000006)(h2:b<=1000000006):a * b<=1000000012000000036:=Nat.le_trans (Nat.mul_le_mul h1 h2) (by decide)
end Go.Proofs.YthnogdodlhkldaaGreatDoor
namespace Go.Proofs.YthnogdodlhkldaaGreatDoor
def gP (t i:List UInt8):Bool:=decide (t=i) || (decide (t=yB)&&decide (i=qF)) || (decide (t=WS)&&decide (i=WSS))
def mE (l t:List UInt8):Bool:=decide (t.length<l.length)&&decide (l.drop (l.length - t.length)=t)
def fH (w:Bool)(sh h:List UInt8):Bool:=if w then (aZ sh).isEmpty || mE (aZ h) (46 :: aZ sh) else decide (aZ sh=aZ h)
def dY (sp:Int)(u:U):Bool:=if sp = -1 then true else if sp=0 then decide (dU u=(kH u.s:Int)) else decide (dU u=sp) || (decide (sp=80)&&decide (dU u=443))
def fN (t i:List UInt8)(m:Bool):Bool:=t.isEmpty || m || decide (i=t) || (decide (t.getLast? = some 47)&&t.isPrefixOf i)
def nG (u v:U):Bool:=aT v && !v.o && !u.o&&decide (v.h=u.h)&&decide (v.p=0)&&decide (u.p=0)&&gP v.s u.s
def pI (u v:U):Bool:=iM (cL v) (cL u) || nG u v
def mU (a:bH)(v:U):List UInt8:=if a.s.isEmpty then v.s else a.s
def gO (a:bH)(u v:U)(m:Bool):Bool := !u.o&&gP (mU a v) u.s&&fH a.w a.h u.h&&dY a.p u&&fN a.pa u.pa m
def eG (a:bH)(u v:U)(m:Bool):Bool:=aT u&&(if a.k=11 then gP a.s u.s else if a.k=12 then gO a u v m else if a.k=2 then pI u v else false)
theorem aX6 (u v:U):iM (cL u) (cL v)=iM (cL v) (cL u):=by
 unfold iM
 by_cases h:cL u=cL v
 · rw[h]
 · have h2:¬ cL v=cL u:=fun e=>h e.symm
   simp[h,h2]
theorem qS (a:bH)(ha:a.k=2)(u v:U)(m:Bool):eG a u v m=(aT u&&pI u v):=by
 unfold eG;rw[ha];rfl
end Go.Proofs.YthnogdodlhkldaaGreatDoor
namespace Go.Proofs.YthnogdodlhkldaaGreatDoor
def dX (L:List bH)(k:Int):Bool:=L.any fun a=>decide (a.k=k)
def iK (L:List bH)(k:Int)(s:List UInt8):Bool:=L.any fun a=>decide (a.k=k)&&decide (a.t=s)
def pE (L:List bH)(u v:U)(m:Bool):Bool:=L.any fun a=>eG a u v m
def iT (L:List bH)(n:List UInt8):Bool := !n.isEmpty&&iK L 9 n
def mD (L:List bH)(s:List UInt8):Bool:=iK L 10 (fP s)
def iV (L:List bH):Bool:=dX L 3 && !dX L 9 && !dX L 10 && !dX L 6
def cA (L:List bH)(k:Int)(n s:List UInt8):Bool:=if k=1 then iV L || iT L n || mD L s else if k=3\/k=4 then iV L || (dX L 7&&mD L s) else false
def kY (L:List bH)(u v:U)(m:Bool)(n:List UInt8)(b:Bool):Bool:=if dX L 6 then iT L n || !b else iT L n || pE L u v m
def jE (L:List bH)(k:Int):Bool:=if k=5 then dX L 4 else if k=6 then dX L 4 || dX L 5 else false
structure SameL (L M:List bH):Prop where
 has:∀ k,dX L k=dX M k
 text:∀ k s,iK L k s=iK M k s
 urls:∀ u v m,pE L u v m=pE M u v m
theorem witness (L:List bH)(k:Int)(n s:List UInt8)(h:cA L k n s=true):(iV L || (decide (k=1)&&(!n.isEmpty&&iK L 9 n)) || iK L 10 (fP s))=true/\(k=1\/k=3\/k=4):=by
 unfold cA iT mD at h;split at h
 · next e =>
   refine⟨?_,.inl e⟩;rw[decide_eq_true e,Bool.true_and];exact h
 · next e =>
   split at h
   · next e2 =>
     refine⟨?_,.inr e2⟩;simp only[Bool.or_eq_true,Bool.and_eq_true]at *;rcases h with h | h
     · exact .inl (.inl h)
     · exact .inr h.2
   · cases h
end Go.Proofs.YthnogdodlhkldaaGreatDoor
namespace Go.Proofs.YthnogdodlhkldaaGreatDoor
theorem byte_any {p:UInt8->Prop}(h:∀ n:Fin 256,p (UInt8.ofNat n.val))(b:UInt8):p b:=by
 have:=h ⟨b.toNat,b.toNat_lt⟩
 simpa using this
structure D where
 n:List UInt8
 w:List (List UInt8)
 deriving DecidableEq
def nB (b:UInt8):Bool:=decide (97<=b.toNat/\b.toNat<=122) || decide (48<=b.toNat/\b.toNat<=57) || b==45
def wB (b:UInt8):Bool:=decide (33<=b.toNat/\b.toNat<=126) && !(b==44) && !(b==59)
def eL (l:List UInt8):Bool := !l.isEmpty&&decide (l.length<=40)&&l.all nB
def gW (l:List UInt8):Bool := !l.isEmpty&&l.all wB
def dirM (s:List UInt8):Option D :=
 match bV s with
 | []=>none
 | n :: ws=>if eL (aZ n) then some ⟨aZ n,(ws.take 200).filter gW⟩ else none
def aG3 (ds:List D)(n:List UInt8):Bool:=ds.any (fun d=>d.n==n)
def xY (ds:List D)(s:List UInt8):List D :=
 match dirM s with
 | none=>ds
 | some d=>if aG3 ds d.n then ds else ds++[d]
def iF (s:List UInt8):List D:=(parts s 59).foldl xY []
def allH (s:List UInt8):List (List D):=((parts s 44).map iF).filter (fun p => !p.isEmpty)
def wX (s:List UInt8):List (List D):=(allH s).take 10
def cM (ds:List D)(name:List UInt8):Option (List (List UInt8)):=(ds.find? (fun d=>d.n==aZ name)).map D.w
end Go.Proofs.YthnogdodlhkldaaGreatDoor
