/- The plain mathematics of fold: blanks, small letters, trimmed texts, words and parts, over lists of bytes. A text's words as its code points tell them: a blank is a code point below 128, and no code point of several bytes has one among its bytes. Plain mathematics of signs told by name or number (no program in this text): names, numbers, what a text is decoded and encoded as; what is encoded is decoded. -/
import Derived.Lib.SlTrimSet
import Derived.Lib.Split
import Derived.Lib.DecodeN
import Derived.Lib.Bytealg
import Derived.Lib.RuneBytes
namespace Go.Proofs.YtlnfbjbagmfpiaaGreatDoor
def blk (b:UInt8):Bool:=[9,10,12,13,32].contains b
def lowB (b:UInt8):UInt8:=if 65<=b.toNat/\b.toNat<=90 then b+32 else b
def low (l:List UInt8):List UInt8:=l.map lowB
def trim (l:List UInt8):List UInt8:=Lib.trimS l [9,10,12,13,32]
def cut (p:UInt8->Bool):List UInt8->List (List UInt8)
 | []=>[[]]
 | b :: l=>if p b then [] :: cut p l else
   match cut p l with
   | []=>[[b]]
   | h :: t=>(b :: h) :: t
def words (l:List UInt8):List (List UInt8):=(cut blk l).filter (fun w => !w.isEmpty)
def parts (l:List UInt8)(c:UInt8):List (List UInt8):=(cut (· == c) l).map trim
theorem lowB_lowB (b:UInt8):lowB (lowB b)=lowB b:=by
 unfold lowB
 by_cases h:65<=b.toNat/\b.toNat<=90
 · rw[if_pos h,if_neg]
   rw[UInt8.toNat_add];simp;omega
 · rw[if_neg h,if_neg h]
theorem low_low (l:List UInt8):low (low l)=low l:=by simp[low,lowB_lowB]
theorem low_length (l:List UInt8):(low l).length=l.length:=by simp[low]
theorem isPrefixOf_one (c b:UInt8)(l:List UInt8):[c].isPrefixOf (b :: l)=(c==b):=by simp[List.isPrefixOf]
end Go.Proofs.YtlnfbjbagmfpiaaGreatDoor
namespace Go.Proofs.YtlnfbjbagmfpiaaGreatDoor
theorem get_of {s:ByteArray}{k:Nat}{b:UInt8}(h:s.data.toList[k]? = some b):s.get! k=b/\k<s.size:=by
 have hk:=(List.getElem?_eq_some_iff.1 h).1;rw[Array.length_toList]at hk;refine⟨?_,hk⟩;rw[Array.getElem?_toList]at h;simp[ByteArray.get!,Array.getElem!_eq_getD,Array.getD_eq_getD_getElem?,h]
def pieces (l:List UInt8)(acc:List (Nat × Nat)):List (List UInt8):=acc.map fun x=>(l.drop x.1).take (x.2 - x.1)
structure Read (l:List UInt8) (pos:Nat) (st:Option Nat) (acc:List (Nat × Nat)):Prop where
 sum:pieces l acc++words (l.drop (st.getD pos))=words l
 open_:∀ a,st=some a->a<pos/\∀ k b,a<=k->k<pos->l[k]? = some b->blk b=false
 spans:∀ x∈acc,x.1<=x.2/\x.2<=l.length
 few:acc.length<=pos
 le:pos<=l.length
theorem drop_cons {l:List UInt8}{k:Nat}{b:UInt8}(h:l[k]? = some b):l.drop k=b :: l.drop (k+1):=by
 have hk:=(List.getElem?_eq_some_iff.1 h);rw[List.drop_eq_getElem_cons hk.1,hk.2]
structure WordsTo (l:List UInt8) (fr i:Nat) (out:List (List UInt8)):Prop where
 sum:out++words (l.drop fr)=words l
 open_:∀ k b,fr<=k->k<i->l[k]? = some b->blk b=false
 le:fr<=i
 few:out.length<=fr
structure PartsTo (l:List UInt8) (c:UInt8) (fr i:Nat) (out:List (List UInt8)):Prop where
 sum:out++parts (l.drop fr) c=parts l c
 open_:∀ k b,fr<=k->k<i->l[k]? = some b->(b==c)=false
 le:fr<=i
 few:out.length<=fr
end Go.Proofs.YtlnfbjbagmfpiaaGreatDoor
namespace Go.Proofs.YtlnfbjbagmfpiaaGreatDoor
def isPt (n:Nat):Prop:=n<=1114111/\(n<55296\/57343<n)
instance (n:Nat):Decidable (isPt n):=by unfold isPt;infer_instance
def ptB (n:Int):Bool:=decide (0<=n/\n<=1114111/\(n<55296\/57343<n))
theorem ptB_iff (n:Nat):ptB (n:Int)=true↔isPt n:=by
 unfold ptB isPt;simp only[decide_eq_true_eq];omega
theorem ptB_dec (n:Nat):ptB (n:Int)=decide (isPt n):=by
 rw[Bool.eq_iff_iff,ptB_iff,decide_eq_true_eq]
def encN (c:Nat):List UInt8 :=
 if c<=127 then [c.toUInt8]
 else if c<=2047 then [(192+c / 64).toUInt8,(128+c % 64).toUInt8]
 else if c<=65535 then [(224+c / 4096).toUInt8,(128+c / 64 % 64).toUInt8,(128+c % 64).toUInt8]
 else [(240+c / 262144).toUInt8,(128+c / 4096 % 64).toUInt8,(128+c / 64 % 64).toUInt8,(128+c % 64).toUInt8]
theorem encN_length (c:Nat):1<=(encN c).length/\(encN c).length<=4:=by
 unfold encN
 repeat' split
 all_goals simp
theorem encodeRune_eq {c:Nat}(h:isPt c):Lib.encodeRune (c:Int)=encN c:=by
 unfold isPt at h;unfold Lib.encodeRune Lib.encodeRuneZ encN
 repeat' split
 all_goals first
  | (exfalso;omega)
  | (simp only[List.map_cons,List.map_nil]
     congr 1)
def tabM:List (List UInt8 × List UInt8 × Bool) :=
 [([97,109,112],[38],true),([108,116],[60],true),([103,116],[62],true),([113,117,111,116],[34],true),([97,112,111,115],[39],true),
  ([110,98,115,112],[194,160],false),([99,111,108,111,110],[58],false),([108,112,97,114],[40],false),([114,112,97,114],[41],false),([116,97,98],[9],false)]
def lookM:List (List UInt8 × List UInt8 × Bool)->List UInt8->List UInt8
 | [],_=>[]
 | e :: r,l=>if e.1=l then e.2.1 else lookM r l
def nameM (l:List UInt8):List UInt8:=lookM tabM l
theorem look_mem:∀(T:List (List UInt8 × List UInt8 × Bool)) (l:List UInt8),lookM T l=[]\/∃ e∈T,e.1=l/\e.2.1=lookM T l
 | [],_ => .inl rfl
 | e :: r,l=>by
   unfold lookM
   by_cases h:e.1=l
   · rw[if_pos h];exact .inr ⟨e,by simp,h,rfl⟩
   · rw[if_neg h]
     rcases look_mem r l with g | ⟨d,hd,g⟩
     · exact .inl g
     · exact .inr ⟨d,by simp[hd],g⟩
theorem name_len (l:List UInt8)(h:nameM l≠[]):l.length<=5/\(nameM l).length<=2/\2<=l.length:=by
 rcases look_mem tabM l with g | ⟨e,he,h1,h2⟩
 · exact absurd g h
 · have:∀ d∈tabM,d.1.length<=5/\d.2.1.length<=2/\2<=d.1.length:=by decide
   have:=this e he;rw[h1]at this;have h3:e.2.1=nameM l:=h2;rw[<- h3];exact this
def digM (B:Nat)(c:UInt8):Option Nat :=
 let n:=c.toNat
 if 48<=n/\n<=57 then (if n - 48<B then some (n - 48) else none)
 else if 97<=n/\n<=102 then (if n - 87<B then some (n - 87) else none)
 else if 65<=n/\n<=70 then (if n - 55<B then some (n - 55) else none)
 else none
theorem digM_lt {B:Nat}{c:UInt8}{d:Nat}(h:digM B c=some d):d<B/\d<16:=by
 unfold digM at h;simp only at h
 repeat' split at h
 all_goals first
  | (cases h;done)
  | (injection h with h;omega)
def numF (B:Nat):Nat->List UInt8->Option Nat
 | n,[]=>some n
 | n,c :: r=>match digM B c with
   | some d=>numF B (n * B+d) r
   | none=>none
def numD (B:Nat)(l:List UInt8):Option Nat:=if l=[] then none else numF B 0 l
def numU (B m:Nat)(l:List UInt8):Option Nat:=if l.length<1\/m<l.length then none else numF B 0 l
theorem numU_eq (B m:Nat)(l:List UInt8)(h:l.length<=m):numU B m l=numD B l:=by
 unfold numU numD
 cases l with
 | nil=>simp
 | cons c r=>rw[if_neg (by simp;simp at h;omega),if_neg (by simp)]
theorem numF_lt (B:Nat):∀(l:List UInt8) (n m k:Nat),numF B n l=some m->n+1<=B ^ k->m+1<=B ^ (k+l.length)
 | [],n,m,k,h,hn=>by injection h with h;subst h;exact hn
 | c :: r,n,m,k,h,hn=>by
   unfold numF at h
   cases hd:digM B c with
   | none=>rw[hd]at h;cases h
   | some d =>
     rw[hd]at h;have hl:=(digM_lt hd).1
     have:=numF_lt B r (n * B+d) m (k+1) h (by
      rw[Nat.pow_succ]
      calc n * B+d+1<=n * B+B:=by omega
       _=(n+1) * B:=by rw[Nat.add_mul,Nat.one_mul]
       _<=B ^ k * B:=Nat.mul_le_mul_right _ hn)
     rw[show k+(c :: r).length=k+1+r.length by simp;omega];exact this
def numM (l:List UInt8):Option Nat :=
 if l.head? = some 35 then (if (l.drop 1).head? = some 120\/(l.drop 1).head? = some 88 then numU 16 6 (l.drop 2) else numU 10 7 (l.drop 1)) else none
theorem num_sharp (r:List UInt8):numM (35 :: r)=if r.head? = some 120\/r.head? = some 88 then numU 16 6 (r.drop 1) else numU 10 7 r:=by
 unfold numM;rw[if_pos (by rfl)];rfl
theorem num_plain (l:List UInt8)(h:l.head? ≠ some 35):numM l=none:=by
 unfold numM;rw[if_neg h]
theorem num_len {l:List UInt8}{n:Nat}(h:numM l=some n):l.length<=8/\2<=l.length:=by
 cases l with
 | nil=>cases h
 | cons a r =>
   by_cases ha:a=35
   · subst ha
     rw[num_sharp]at h;split at h
     · by_cases hl:(r.drop 1).length<1\/6<(r.drop 1).length
       · unfold numU at h;rw[if_pos hl]at h;cases h
       · rw[List.length_drop]at hl;simp only[List.length_cons];omega
     · by_cases hl:r.length<1\/7<r.length
       · unfold numU at h;rw[if_pos hl]at h;cases h
       · simp only[List.length_cons];omega
   · rw[num_plain _ (by simpa using ha)]at h;cases h
def badT:List UInt8:=[239,191,189]
def signM (l:List UInt8):Option (List UInt8 × Bool) :=
 if nameM l≠[] then some (nameM l,false)
 else match numM l with
  | none=>none
  | some n=>if n=0\/¬ isPt n then some (badT,true) else some (encN n,false)
theorem sign_name {l:List UInt8}(h:nameM l≠[]):signM l=some (nameM l,false):=if_pos h
theorem sign_none {l:List UInt8}(h:nameM l=[])(h2:numM l=none):signM l=none:=by
 unfold signM;rw[if_neg (by simpa using h),h2]
theorem sign_bad {l:List UInt8}{n:Nat}(h:nameM l=[])(h2:numM l=some n)(h3:n=0\/¬ isPt n):signM l=some (badT,true):=by
 unfold signM;rw[if_neg (by simpa using h),h2];exact if_pos h3
theorem sign_point {l:List UInt8}{n:Nat}(h:nameM l=[])(h2:numM l=some n)(h3:n≠0)(h4:isPt n):signM l=some (encN n,false):=by
 unfold signM;rw[if_neg (by simpa using h),h2];exact if_neg (by rintro(g | g);exact h3 g;exact g h4)
theorem sign_len {l t:List UInt8}{b:Bool}(h:signM l=some (t,b)):l.length<=8/\2<=l.length/\1<=t.length/\t.length<=l.length+2:=by
 by_cases hn:nameM l=[]
 · cases hm:numM l with
   | none=>rw[sign_none hn hm]at h;cases h
   | some n =>
     have hl:=num_len hm
     by_cases h3:n=0\/¬ isPt n
     · rw[sign_bad hn hm h3]at h
       injection h with h;injection h with h h';subst h;subst h'
       exact⟨hl.1,hl.2,by decide,by have e3:badT.length=3:=rfl;omega⟩
     · have h4:isPt n:=Classical.byContradiction fun g=>h3 (.inr g)
       rw[sign_point hn hm (fun g=>h3 (.inl g)) h4]at h
       injection h with h;injection h with h h';subst h;subst h'
       have:=encN_length n;exact⟨hl.1,hl.2,this.1,by omega⟩
 · rw[sign_name hn]at h
   injection h with h;injection h with h h';subst h;subst h'
   have:=name_len l hn;have h2:1<=(nameM l).length:=List.length_pos_iff.2 hn;exact⟨by omega,this.2.2,h2,by omega⟩
theorem sign_long {l:List UInt8}(h:8<l.length):signM l=none:=by
 cases hs:signM l with
 | none=>rfl
 | some p=>have:=(sign_len (t:=p.1) (b:=p.2) (by rw[hs])).1;omega
def semi:List UInt8->Option Nat
 | []=>none
 | c :: r=>if c=59 then some 0 else (semi r).map (· + 1)
theorem semi_lt:∀ {l:List UInt8} {k:Nat},semi l=some k->k<l.length/\l[k]? = some 59/\59 ∉ l.take k
 | [],k,h=>by cases h
 | c :: r,k,h=>by
   unfold semi at h
   by_cases hc:c=59
   · rw[if_pos hc]at h;injection h with h;subst h;subst hc;simp
   · rw[if_neg hc]at h
     cases hs:semi r with
     | none=>rw[hs]at h;cases h
     | some j =>
       rw[hs]at h;have h:=Option.some.inj h;simp only at h;subst h;obtain⟨h1,h2,h3⟩:=semi_lt hs;refine⟨by simp;omega,by simpa using h2,?_⟩;simp only[List.take_succ_cons,List.mem_cons,not_or];exact⟨fun e=>hc e.symm,h3⟩
theorem semi_of:∀(a r:List UInt8),59 ∉ a->semi (a++59 :: r)=some a.length
 | [],r,_=>by simp[semi]
 | c :: a,r,h=>by
   simp only[List.mem_cons,not_or]at h;unfold semi;rw[List.cons_append];simp only;rw[if_neg (fun e=>h.1 e.symm),semi_of a r h.2];rfl
def firstM:List UInt8->Option (List UInt8 × Bool × Nat)
 | 38 :: r=>match semi r with
   | some k=>(signM (r.take k)).map fun p=>(p.1,p.2,k+2)
   | none=>none
 | _=>none
theorem first_amp (r:List UInt8):firstM (38 :: r)=match semi r with
 | some k=>(signM (r.take k)).map fun p=>(p.1,p.2,k+2)
 | none=>none:=rfl
theorem first_plain (c:UInt8)(r:List UInt8)(h:c≠38):firstM (c :: r)=none:=by
 unfold firstM;split
 · rename_i h2;injection h2 with h2;exact absurd h2 h
 · rfl
theorem first_len {l t:List UInt8}{b:Bool}{k:Nat}(h:firstM l=some (t,b,k)):4<=k/\k<=10/\k<=l.length/\1<=t.length/\t.length<=k:=by
 cases l with
 | nil=>cases h
 | cons c r =>
   by_cases hc:c=38
   · subst hc
     rw[first_amp]at h
     cases hs:semi r with
     | none=>rw[hs]at h;cases h
     | some j =>
       rw[hs]at h;simp only at h;obtain⟨h1,_,_⟩:=semi_lt hs
       cases hg:signM (r.take j)with
       | none=>rw[hg]at h;cases h
       | some p =>
         rw[hg]at h
         injection h with h
         injection h with e1 h
         injection h with e2 e3
         subst e1;subst e2;subst e3;have hl:=sign_len (t:=p.1) (b:=p.2) (by rw[hg]);rw[List.length_take]at hl;simp only[List.length_cons];omega
   · rw[first_plain c r hc]at h;cases h
def decF:Nat->Nat->List UInt8->List UInt8 × List Nat
 | 0,_,_=>([],[])
 | _+1,_,[]=>([],[])
 | f+1,n,c :: r=>match firstM (c :: r)with
   | some (t,b,k)=>(t++(decF f (n+k) ((c :: r).drop k)).1,(if b then [n] else [])++(decF f (n+k) ((c :: r).drop k)).2)
   | none=>(c :: (decF f (n+1) r).1,(decF f (n+1) r).2)
def decT (n:Nat)(l:List UInt8):List UInt8 × List Nat:=decF l.length n l
theorem decF_nil (f n:Nat):decF f n []=([],[]):=by cases f<;>rfl
theorem decF_more:∀(f g n:Nat) (l:List UInt8),l.length<=f->l.length<=g->decF f n l=decF g n l
 | 0,g,n,l,hf,_=>by
   have:l=[]:=List.length_eq_zero_iff.1 (by omega);rw[this,decF_nil,decF_nil]
 | f+1,0,n,l,_,hg=>by
   have:l=[]:=List.length_eq_zero_iff.1 (by omega);rw[this,decF_nil,decF_nil]
 | f+1,g+1,n,[],_,_=>by rw[decF_nil,decF_nil]
 | f+1,g+1,n,c :: r,hf,hg=>by
   simp only[List.length_cons]at hf hg;unfold decF
   cases hs:firstM (c :: r)with
   | none=>simp only;rw[decF_more f g (n+1) r (by omega) (by omega)]
   | some p =>
     obtain⟨t,b,k⟩:=p;have:=first_len hs;simp only;rw[decF_more f g (n+k) ((c :: r).drop k) (by simp;omega) (by simp;omega)]
theorem decT_nil (n:Nat):decT n []=([],[]):=rfl
theorem decT_sign (n:Nat){l t:List UInt8}{b:Bool}{k:Nat}(h:firstM l=some (t,b,k)):decT n l=(t++(decT (n+k) (l.drop k)).1,(if b then [n] else [])++(decT (n+k) (l.drop k)).2):=by
 cases l with
 | nil=>cases h
 | cons c r =>
   have hl:=first_len h;unfold decT;rw[List.length_cons]
   conv=>lhs;unfold decF
   rw[h];simp only;rw[decF_more r.length ((c :: r).drop k).length (n+k) ((c :: r).drop k) (by simp;omega) (Nat.le_refl _)]
theorem decT_plain (n:Nat)(c:UInt8)(r:List UInt8)(h:firstM (c :: r)=none):decT n (c :: r)=(c :: (decT (n+1) r).1,(decT (n+1) r).2):=by
 unfold decT;rw[List.length_cons]
 conv=>lhs;unfold decF
 rw[h]
theorem decT_shift (n m:Nat)(l:List UInt8):decT (n+m) l=((decT n l).1,(decT n l).2.map (· + m)):=by
 generalize hn:l.length=f
 induction f using Nat.strongRecOn generalizing l n with
 | _ f ih =>
   cases l with
   | nil=>rfl
   | cons c r =>
     cases hs:firstM (c :: r)with
     | none =>
       rw[decT_plain _ _ _ hs,decT_plain _ _ _ hs];have:=ih r.length (by subst hn;simp) (n+1) r rfl;rw[show n+m+1=n+1+m by omega,this]
     | some p =>
       obtain⟨t,b,k⟩:=p;have hl:=first_len hs;rw[decT_sign _ hs,decT_sign _ hs];have:=ih ((c :: r).drop k).length (by subst hn;simp;omega) (n+k) ((c :: r).drop k) rfl;rw[show n+m+k=n+k+m by omega,this]
       cases b<;>simp
theorem decT_len (n:Nat)(l:List UInt8):(decT n l).1.length<=l.length/\(decT n l).2.length<=l.length:=by
 generalize hn:l.length=f
 induction f using Nat.strongRecOn generalizing l n with
 | _ f ih =>
   cases l with
   | nil=>simp[decT_nil]
   | cons c r =>
     cases hs:firstM (c :: r)with
     | none =>
       rw[decT_plain _ _ _ hs];have:=ih r.length (by subst hn;simp) (n+1) r rfl;subst hn;simp;omega
     | some p =>
       obtain⟨t,b,k⟩:=p;have hl:=first_len hs;rw[decT_sign _ hs];have:=ih ((c :: r).drop k).length (by subst hn;simp;omega) (n+k) ((c :: r).drop k) rfl;subst hn;simp only[List.length_append,List.length_drop]at this ⊢;have hb:(if b then [n] else ([]:List Nat)).length<=1:=by cases b<;>simp
       omega
theorem decT_place (n:Nat)(l:List UInt8):∀ i∈(decT n l).2,i<=n+l.length:=by
 generalize hn:l.length=f
 induction f using Nat.strongRecOn generalizing l n with
 | _ f ih =>
   cases l with
   | nil=>intro i hi;rw[decT_nil]at hi;cases hi
   | cons c r =>
     subst hn
     cases hs:firstM (c :: r)with
     | none =>
       rw[decT_plain _ _ _ hs];intro i hi;have:=ih r.length (by simp) (n+1) r rfl i hi;simp only[List.length_cons];omega
     | some p =>
       obtain⟨t,b,k⟩:=p;have hl:=first_len hs;rw[decT_sign _ hs];intro i hi;rcases List.mem_append.1 hi with hi | hi
       · cases b
         · cases hi
         · simp only[if_true,List.mem_singleton]at hi;omega
       · have:=ih ((c :: r).drop k).length (by simp;omega) (n+k) ((c :: r).drop k) rfl i hi
         rw[List.length_drop]at this;omega
theorem dec_ahead:∀(a b:List UInt8) (n:Nat),38 ∉ a->decT n (a++b)=(a++(decT (n+a.length) b).1,(decT (n+a.length) b).2)
 | [],b,n,_=>by simp
 | c :: a,b,n,h=>by
   simp only[List.mem_cons,not_or]at h;rw[List.cons_append,decT_plain n c (a++b) (first_plain c _ (fun e=>h.1 e.symm)),dec_ahead a b (n+1) h.2];simp only[List.length_cons,List.cons_append];rw[show n+1+a.length=n+(a.length+1) by omega]
def encB (c:UInt8):List UInt8 :=
 if c=38 then [38,97,109,112,59]
 else if c=60 then [38,108,116,59]
 else if c=62 then [38,103,116,59]
 else if c=34 then [38,113,117,111,116,59]
 else if c=39 then [38,97,112,111,115,59]
 else [c]
def encT (l:List UInt8):List UInt8:=l.flatMap encB
theorem encT_nil:encT []=[]:=rfl
theorem encT_cons (c:UInt8)(r:List UInt8):encT (c :: r)=encB c++encT r:=rfl
theorem encT_append (a b:List UInt8):encT (a++b)=encT a++encT b:=by unfold encT;rw[List.flatMap_append]
theorem encT_one (c:UInt8):encT [c]=encB c:=by simp[encT]
theorem encB_len (c:UInt8):1<=(encB c).length/\(encB c).length<=6:=by
 unfold encB
 repeat' split
 all_goals simp
theorem encT_len (l:List UInt8):l.length<=(encT l).length/\(encT l).length<=6 * l.length:=by
 induction l with
 | nil=>simp[encT_nil]
 | cons c r ih =>
   have:=encB_len c;rw[encT_cons,List.length_append];simp only[List.length_cons];omega
theorem encB_other {c:UInt8}(h1:c≠38)(h2:c≠60)(h3:c≠62)(h4:c≠34)(h5:c≠39):encB c=[c]:=by
 unfold encB;rw[if_neg h1,if_neg h2,if_neg h3,if_neg h4,if_neg h5]
theorem encB_clean (c:UInt8):∀ x∈encB c,x≠60/\x≠62/\x≠34/\x≠39:=by
 by_cases h1:c=38
 · subst h1;decide
 by_cases h2:c=60
 · subst h2;decide
 by_cases h3:c=62
 · subst h3;decide
 by_cases h4:c=34
 · subst h4;decide
 by_cases h5:c=39
 · subst h5;decide
 rw[encB_other h1 h2 h3 h4 h5];intro x hx;simp only[List.mem_singleton]at hx;subst hx;exact⟨h2,h3,h4,h5⟩
theorem encT_clean (l:List UInt8):∀ x∈encT l,x≠60/\x≠62/\x≠34/\x≠39:=by
 intro x hx;unfold encT at hx;obtain⟨c,_,h⟩:=List.mem_flatMap.1 hx;exact encB_clean c x h
theorem first_named (a r t:List UInt8)(ha:59 ∉ a)(h:signM a=some (t,false)):firstM (38 :: a++59 :: r)=some (t,false,a.length+2):=by
 rw[List.cons_append,first_amp,semi_of a r ha];simp only;rw[List.take_left,h];rfl
theorem dec_named (n:Nat)(a r t:List UInt8)(ha:59 ∉ a)(h:signM a=some (t,false)):decT n (38 :: a++59 :: r)=(t++(decT (n+(a.length+2)) r).1,(decT (n+(a.length+2)) r).2):=by
 rw[decT_sign n (first_named a r t ha h)]
 have:(38 :: a++59 :: r).drop (a.length+2)=r:=by
  rw[List.cons_append,show a.length+2=(a.length+1)+1 by omega,List.drop_succ_cons,List.drop_append];simp
 rw[this];simp
theorem dec_encB (n:Nat)(c:UInt8)(r:List UInt8):decT n (encB c++r)=(c :: (decT (n+(encB c).length) r).1,(decT (n+(encB c).length) r).2):=by
 by_cases h1:c=38
 · subst h1;exact dec_named n [97,109,112] r [38] (by decide) (by decide)
 by_cases h2:c=60
 · subst h2;exact dec_named n [108,116] r [60] (by decide) (by decide)
 by_cases h3:c=62
 · subst h3;exact dec_named n [103,116] r [62] (by decide) (by decide)
 by_cases h4:c=34
 · subst h4;exact dec_named n [113,117,111,116] r [34] (by decide) (by decide)
 by_cases h5:c=39
 · subst h5;exact dec_named n [97,112,111,115] r [39] (by decide) (by decide)
 rw[encB_other h1 h2 h3 h4 h5];have:=dec_ahead [c] r n (by simpa using fun e=>h1 e.symm)
 simpa using this
theorem dec_enc (l:List UInt8):∀ n,decT n (encT l)=(l,[]):=by
 induction l with
 | nil=>intro n;rfl
 | cons c r ih =>
   intro n;rw[encT_cons,dec_encB,ih]
end Go.Proofs.YtlnfbjbagmfpiaaGreatDoor
