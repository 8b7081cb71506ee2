/- The library's ParseUint at base 10, of at most eight bytes. The library's ParseUint at base 16, of at most eight bytes. The number between & and ;: the program's. A sign's text at a text's beginning: the program's first. A text decoded: the program's Decode. Rows of Fails held against one another; the document's rows. -/
import Derived.Test.YtlnfbjbagmfpiaaGreatDoorEntZA
set_option maxRecDepth 100000
set_option maxHeartbeats 8000000
namespace Go.Proofs.YtlnfbjbagmfpiaaGreatDoor
open Go.RowKit
theorem parse10_any (t:ByteArray)(ht:t.size<=8)(w:World) :
 Calls Tryz.prog 234 #[.string t,.int .i64 10,.int .i64 32] w fun e w'=>e=.returned (parseV 10 t.data.toList)/\Below w.heap.size w w':=by
 by_cases h0:t.size=0
 · have e:t.data.toList=[]:=List.length_eq_zero_iff.1 (by rw[lsize];exact h0)
   obtain rfl:t=⟨#[]⟩:=text_is e;rw[parseV_no (B:=10) (l:=[]) (by rfl)];clear h0 e ht
   go_enter Tryz.func234,Tryz.ntmps234
   go_wp2
   go_ret2
   exact⟨rfl,Below.refl _ _⟩
 have hemp:t.toList.isEmpty=false:=by
  rw[text_empty]
  cases hq:t.data.toList with
  | nil=>exact absurd (by rw[<- lsize,hq];rfl) h0
  | cons a r=>rfl
 have hcv:=Lib.run_convert_string_bytes (P:=Tryz.prog) w 9 66 5 t (u := .string) Tryz.underlying9 Tryz.underlying66 Tryz.underlying5;have hB:∀ j,j<t.size->(Lib.bytesWorld w 5 t).cell? ⟨w.heap.size,j,none⟩=some (.int .u8 (t.data.toList.getD j 0).toNat):=fun j hj=>Lib.bytesWorld_cell w 5 t j hj;have hbb:=Lib.bytesWorld_below w 5 t;obtain⟨W1,hW1⟩:∃ W1,W1=Lib.bytesWorld w 5 t:=⟨_,rfl⟩;rw[<- hW1]at hcv hB hbb;clear hW1;obtain⟨bs,hL⟩:∃ bs,bs=t.data.toList:=⟨_,rfl⟩;have hLn:bs.length=t.size:=by rw[hL,lsize]
 rw[<- hL]at hB ⊢;clear hL;have HNE:Hid (numD 10 bs=numF 10 0 bs):=Lib.hid (if_neg (fun h=>h0 (by rw[<- hLn,h];rfl)));have HB:=Lib.hid hB;have HLn:=Lib.hid hLn
 have hmv:IntKind.u64.wrap (IntKind.u64.wrap 4294967296 - 1)=4294967295:=by
  rw[IntKind.wrap_u64,IntKind.wrap_u64];decide
 clear hB hLn
 go_enter Tryz.func234,Tryz.ntmps234
 go_wp2
 go_loop [12,13,101] (fun vu vn vi=>∃(k acc:Nat) (a:Int),vu=.bool false/\vn=.int .u64 a/\vi=.int .i64 k/\k<=t.size/\Hid (a=(acc:Int)/\acc+1<=10 ^ k/\numF 10 0 bs=numF 10 acc (bs.drop k)))
  (fun _ _ vi=>t.size - (intOf vi).toNat)
 case atStart=>exact⟨0,0,0,rfl,rfl,rfl,by omega,rfl,by decide,rfl⟩
 case round =>
  obtain⟨k,acc,a,rfl,rfl,rfl,hk,hh⟩:=hrel;obtain⟨ha,hacc,hdec⟩:=hh.out;clear hh;have a0:0<=a:=by omega
  by_cases hkn:k<t.size
  · have hpw:10 ^ k<=10 ^ 7:=Nat.pow_le_pow_right (by decide) (by omega)
    have hpw8:10 ^ (k+1)=10 ^ k * 10:=Nat.pow_succ _ _
    have hacc7:acc<=9999999:=by
     have:10 ^ 7=10000000:=by decide
     omega
    have a1:a<=9999999:=by omega
    have hLn:=HLn.out;have hc:=HB.out k hkn;have hdrop:bs.drop k=bs[k]'(by omega) :: bs.drop (k+1):=List.drop_eq_getElem_cons (by omega);have hget:bs.getD k 0=bs[k]'(by omega):=by simp[List.getD,List.getElem?_eq_getElem (show k<bs.length by omega)]
    rw[hdrop]at hdec;rw[hget]at hc;generalize bs[k]'(by omega)=c at hc hdec;have hc256:c.toNat<256:=c.toNat_lt;clear hdrop hget hLn
    by_cases hdig:48<=c.toNat/\c.toNat<=57
    · obtain⟨hd0,hd1⟩:=hdig
      have hs:=dig_digit 10 (by decide) c hd0 hd1;have HN:Hid (a * 10+((c.toNat:Int) - 48)=((acc * 10+(c.toNat - 48):Nat):Int)/\acc * 10+(c.toNat - 48)+1<=10 ^ (k+1)/\numF 10 0 bs=numF 10 (acc * 10+(c.toNat - 48)) (bs.drop (k+1))):=Lib.hid ⟨by omega,by rw[hpw8];omega,by rw[hdec,numF_step hs]⟩;clear hacc hacc7 hdec ha hs hpw hpw8
      go_wp2
      refine⟨⟨k+1,acc * 10+(c.toNat - 48),a * 10+((c.toNat:Int) - 48),rfl,(by first | rfl | (congr 1;omega)),(by first | rfl | (congr 1;omega)),by omega,HN⟩,by simp[intOf];omega⟩
    · have HV:Hid (parseV 10 bs=.tuple #[.int .u64 0,.iface 255 (.int .i64 2)]):=Lib.hid (parseV_no (by rw[HNE.out,hdec,numF_stop (dig_ten c hdig)]))
      clear hacc hacc7 hdec ha hpw hpw8
      by_cases h95:c=95
      · subst h95
        have C:=low95_hid;clear hdig
        go_wp2_with (go_at_call 237;refine(C.out _).mono ?_;rintro e w' ⟨rfl,rfl⟩)
        go_ret2
        exact⟨by rw[HV.out];rfl,hbb⟩
      · have g95:((c.toNat:Int)==95)=false:=by rw[beq_eq_false_iff_ne];exact fun h=>h95 (byte_is (d:=95) h)
        obtain⟨L,hL⟩:∃ L,lowI c=L:=⟨_,rfl⟩;have C:=low_hid c L hL;have hv0:0<=L:=by rw[<- hL];unfold lowI;omega
        have hv1:L<=255:=by rw[<- hL];unfold lowI;have:=(c ||| 32).toNat_lt;omega
        clear hL h95
        go_wp2_with (go_at_call 237;refine(C.out _).mono ?_;rintro e w' ⟨rfl,rfl⟩)
        all_goals go_ret2
        all_goals exact⟨by rw[HV.out];rfl,hbb⟩
  · have hkk:k=t.size:=by omega
    subst hkk
    have HV:Hid (parseV 10 bs=.tuple #[.int .u64 a,.nilIface]):=Lib.hid (by
     rw[ha]
     exact parseV_yes (by rw[HNE.out,hdec,List.drop_eq_nil_of_le (by rw[HLn.out];exact Nat.le_refl _)];rfl))
    clear hacc hdec ha
    go_wp2
    go_ret2
    exact⟨by rw[HV.out];rfl,hbb⟩
end Go.Proofs.YtlnfbjbagmfpiaaGreatDoor
namespace Go.Proofs.YtlnfbjbagmfpiaaGreatDoor
open Go.RowKit
theorem parse16_any (t:ByteArray)(ht:t.size<=8)(w:World) :
 Calls Tryz.prog 234 #[.string t,.int .i64 16,.int .i64 32] w fun e w'=>e=.returned (parseV 16 t.data.toList)/\Below w.heap.size w w':=by
 by_cases h0:t.size=0
 · have e:t.data.toList=[]:=List.length_eq_zero_iff.1 (by rw[lsize];exact h0)
   obtain rfl:t=⟨#[]⟩:=text_is e;rw[parseV_no (B:=16) (l:=[]) (by rfl)];clear h0 e ht
   go_enter Tryz.func234,Tryz.ntmps234
   go_wp2
   go_ret2
   exact⟨rfl,Below.refl _ _⟩
 have hemp:t.toList.isEmpty=false:=by
  rw[text_empty]
  cases hq:t.data.toList with
  | nil=>exact absurd (by rw[<- lsize,hq];rfl) h0
  | cons a r=>rfl
 have hcv:=Lib.run_convert_string_bytes (P:=Tryz.prog) w 9 66 5 t (u := .string) Tryz.underlying9 Tryz.underlying66 Tryz.underlying5;have hB:∀ j,j<t.size->(Lib.bytesWorld w 5 t).cell? ⟨w.heap.size,j,none⟩=some (.int .u8 (t.data.toList.getD j 0).toNat):=fun j hj=>Lib.bytesWorld_cell w 5 t j hj;have hbb:=Lib.bytesWorld_below w 5 t;obtain⟨W1,hW1⟩:∃ W1,W1=Lib.bytesWorld w 5 t:=⟨_,rfl⟩;rw[<- hW1]at hcv hB hbb;clear hW1;obtain⟨bs,hL⟩:∃ bs,bs=t.data.toList:=⟨_,rfl⟩;have hLn:bs.length=t.size:=by rw[hL,lsize]
 rw[<- hL]at hB ⊢;clear hL;have HNE:Hid (numD 16 bs=numF 16 0 bs):=Lib.hid (if_neg (fun h=>h0 (by rw[<- hLn,h];rfl)));have HB:=Lib.hid hB;have HLn:=Lib.hid hLn
 have hmv:IntKind.u64.wrap (IntKind.u64.wrap 4294967296 - 1)=4294967295:=by
  rw[IntKind.wrap_u64,IntKind.wrap_u64];decide
 clear hB hLn
 go_enter Tryz.func234,Tryz.ntmps234
 go_wp2
 go_loop [12,13,101] (fun vu vn vi=>∃(k acc:Nat) (a:Int),vu=.bool false/\vn=.int .u64 a/\vi=.int .i64 k/\k<=t.size/\Hid (a=(acc:Int)/\acc+1<=16 ^ k/\numF 16 0 bs=numF 16 acc (bs.drop k)))
  (fun _ _ vi=>t.size - (intOf vi).toNat)
 case atStart=>exact⟨0,0,0,rfl,rfl,rfl,by omega,rfl,by decide,rfl⟩
 case round =>
  obtain⟨k,acc,a,rfl,rfl,rfl,hk,hh⟩:=hrel;obtain⟨ha,hacc,hdec⟩:=hh.out;clear hh;have a0:0<=a:=by omega
  by_cases hkn:k<t.size
  · have hpw:16 ^ k<=16 ^ 7:=Nat.pow_le_pow_right (by decide) (by omega)
    have hpw8:16 ^ (k+1)=16 ^ k * 16:=Nat.pow_succ _ _
    have hacc7:acc<=268435455:=by
     have:16 ^ 7=268435456:=by decide
     omega
    have a1:a<=268435455:=by omega
    have hLn:=HLn.out;have hc:=HB.out k hkn;have hdrop:bs.drop k=bs[k]'(by omega) :: bs.drop (k+1):=List.drop_eq_getElem_cons (by omega);have hget:bs.getD k 0=bs[k]'(by omega):=by simp[List.getD,List.getElem?_eq_getElem (show k<bs.length by omega)]
    rw[hdrop]at hdec;rw[hget]at hc;generalize bs[k]'(by omega)=c at hc hdec;have hc256:c.toNat<256:=c.toNat_lt;clear hdrop hget hLn
    by_cases hdig:48<=c.toNat/\c.toNat<=57
    · obtain⟨hd0,hd1⟩:=hdig
      have hs:=dig_digit 16 (by decide) c hd0 hd1;have HN:Hid (a * 16+((c.toNat:Int) - 48)=((acc * 16+(c.toNat - 48):Nat):Int)/\acc * 16+(c.toNat - 48)+1<=16 ^ (k+1)/\numF 16 0 bs=numF 16 (acc * 16+(c.toNat - 48)) (bs.drop (k+1))):=Lib.hid ⟨by omega,by rw[hpw8];omega,by rw[hdec,numF_step hs]⟩;clear hacc hacc7 hdec ha hs hpw hpw8
      go_wp2
      refine⟨⟨k+1,acc * 16+(c.toNat - 48),a * 16+((c.toNat:Int) - 48),rfl,(by first | rfl | (congr 1;omega)),(by first | rfl | (congr 1;omega)),by omega,HN⟩,by simp[intOf];omega⟩
    · rcases dig_low c with h | ⟨h1,h2,h3⟩ | ⟨h1,h3⟩
      · exact absurd h hdig
      · have g95:((c.toNat:Int)==95)=false:=by
         rw[beq_eq_false_iff_ne];intro h;have h:=byte_is (d:=95) h;subst h;exact absurd h2 (by decide)
        obtain⟨L,hL⟩:∃ L,lowI c=L:=⟨_,rfl⟩;have C:=low_hid c L hL;rw[hL]at h1 h2 h3;have HN:Hid (a * 16+(L - 97+10)=((acc * 16+(L - 87).toNat:Nat):Int)/\acc * 16+(L - 87).toNat+1<=16 ^ (k+1)/\numF 16 0 bs=numF 16 (acc * 16+(L - 87).toNat) (bs.drop (k+1))):=Lib.hid ⟨by omega,by rw[hpw8];omega,by rw[hdec,numF_step h3]⟩;clear hacc hacc7 hdec ha hpw hpw8 hL h3
        go_wp2_with (go_at_call 237;refine(C.out _).mono ?_;rintro e w' ⟨rfl,rfl⟩)
        all_goals refine⟨⟨k+1,acc * 16+(L - 87).toNat,a * 16+(L - 97+10),rfl,(by first | rfl | (congr 1;omega)),(by first | rfl | (congr 1;omega)),by omega,HN⟩,by simp[intOf];omega⟩
      · have HV:Hid (parseV 16 bs=.tuple #[.int .u64 0,.iface 255 (.int .i64 2)]):=Lib.hid (parseV_no (by rw[HNE.out,hdec,numF_stop h3]))
        clear hacc hacc7 hdec ha hpw hpw8 h3
        by_cases h95:c=95
        · subst h95
          have C:=low95_hid;clear hdig h1
          go_wp2_with (go_at_call 237;refine(C.out _).mono ?_;rintro e w' ⟨rfl,rfl⟩)
          go_ret2
          exact⟨by rw[HV.out];rfl,hbb⟩
        have g95:((c.toNat:Int)==95)=false:=by rw[beq_eq_false_iff_ne];exact fun h=>h95 (byte_is (d:=95) h)
        obtain⟨L,hL⟩:∃ L,lowI c=L:=⟨_,rfl⟩;have C:=low_hid c L hL;rw[hL]at h1;have hv0:0<=L:=by rw[<- hL];unfold lowI;omega
        have hv1:L<=255:=by rw[<- hL];unfold lowI;have:=(c ||| 32).toNat_lt;omega
        clear hL h95
        by_cases h97:97<=L
        · have h102:102<L:=by omega
          clear h1
          go_wp2_with (go_at_call 237;refine(C.out _).mono ?_;rintro e w' ⟨rfl,rfl⟩)
          all_goals go_ret2
          all_goals exact⟨by rw[HV.out];rfl,hbb⟩
        · clear h1
          go_wp2_with (go_at_call 237;refine(C.out _).mono ?_;rintro e w' ⟨rfl,rfl⟩)
          all_goals go_ret2
          all_goals exact⟨by rw[HV.out];rfl,hbb⟩
  · have hkk:k=t.size:=by omega
    subst hkk
    have HV:Hid (parseV 16 bs=.tuple #[.int .u64 a,.nilIface]):=Lib.hid (by
     rw[ha]
     exact parseV_yes (by rw[HNE.out,hdec,List.drop_eq_nil_of_le (by rw[HLn.out];exact Nat.le_refl _)];rfl))
    clear hacc hdec ha
    go_wp2
    go_ret2
    exact⟨by rw[HV.out];rfl,hbb⟩
end Go.Proofs.YtlnfbjbagmfpiaaGreatDoor
namespace Go.Proofs.YtlnfbjbagmfpiaaGreatDoor
open Go.RowKit
def IfaceV (v:Value):Prop:=v=.nilIface\/∃ te pe,v=.iface te pe
def SynIn (w:World):Prop:=∃ v,w.cell? ⟨4,0,none⟩=some v/\IfaceV v
theorem SynIn.below {w w':World}(h:SynIn w)(hb:Below w.heap.size w w'):SynIn w':=by
 obtain⟨v,h1,h2⟩:=h;exact⟨v,by rw[hb.cell (lt_of_cell h1)];exact h1,h2⟩
def ParseP (B:Nat)(l:List UInt8)(W:World)(e:Ending)(w':World):Prop :=
 ∃ v:Value,e=.returned v/\Below W.heap.size W w'/\((∃ n:Nat,numD B l=some n/\v=.tuple #[.int .u64 (n:Int),.nilIface])\/(numD B l=none/\∃ N,v=.tuple #[.int .u64 0,.iface 257 (.pointer (some ⟨N,0,none⟩))]))
theorem parseU10_any (t:ByteArray)(ht:t.size<=8)(w:World)(hs:SynIn w) :
 Calls Tryz.prog 231 #[.string t,.int .i64 10,.int .i64 32] w (ParseP 10 t.data.toList w):=by
 have C:=Lib.hid (parse10_any t ht);have HS:=Lib.hid hs;clear hs
 cases hn:numD 10 t.data.toList with
 | some n =>
   have HP:Hid (parseV 10 t.data.toList=.tuple #[.int .u64 (n:Int),.nilIface]):=Lib.hid (parseV_yes hn);have HN:=Lib.hid hn;clear hn
   go_enter Tryz.func231,Tryz.ntmps231
   go_wp2_with fail
   refine(C.out _).mono ?_;rintro e w1 ⟨rfl,b1⟩;rw[HP.out]
   go_wp2
   go_ret2
   exact⟨_,rfl,b1,.inl ⟨n,HN.out,rfl⟩⟩
 | none =>
   have HP:Hid (parseV 10 t.data.toList=.tuple #[.int .u64 0,.iface 255 (.int .i64 2)]):=Lib.hid (parseV_no hn);have HN:=Lib.hid hn;clear hn
   go_enter Tryz.func231,Tryz.ntmps231
   go_wp2_with fail
   refine(C.out _).mono ?_;rintro e w1 ⟨rfl,b1⟩;rw[HP.out];obtain⟨ev,hv,hev⟩:=HS.out.below b1;have CE:=Lib.hid (Tryz.strconv_toError_syntax ⟨#[80,97,114,115,101,85,105,110,116]⟩ t 10 32 ev w1 (by omega) hv hev);clear hv hev
   go_wp2_with fail
   refine CE.out.mono ?_;rintro e w2 ⟨N,rfl,_,_,b2⟩
   go_wp2
   go_ret2
   exact⟨_,rfl,b1.trans (b2.mono b1.size),.inr ⟨HN.out,N,rfl⟩⟩
theorem parseU16_any (t:ByteArray)(ht:t.size<=8)(w:World)(hs:SynIn w) :
 Calls Tryz.prog 231 #[.string t,.int .i64 16,.int .i64 32] w (ParseP 16 t.data.toList w):=by
 have C:=Lib.hid (parse16_any t ht);have HS:=Lib.hid hs;clear hs
 cases hn:numD 16 t.data.toList with
 | some n =>
   have HP:Hid (parseV 16 t.data.toList=.tuple #[.int .u64 (n:Int),.nilIface]):=Lib.hid (parseV_yes hn);have HN:=Lib.hid hn;clear hn
   go_enter Tryz.func231,Tryz.ntmps231
   go_wp2_with fail
   refine(C.out _).mono ?_;rintro e w1 ⟨rfl,b1⟩;rw[HP.out]
   go_wp2
   go_ret2
   exact⟨_,rfl,b1,.inl ⟨n,HN.out,rfl⟩⟩
 | none =>
   have HP:Hid (parseV 16 t.data.toList=.tuple #[.int .u64 0,.iface 255 (.int .i64 2)]):=Lib.hid (parseV_no hn);have HN:=Lib.hid hn;clear hn
   go_enter Tryz.func231,Tryz.ntmps231
   go_wp2_with fail
   refine(C.out _).mono ?_;rintro e w1 ⟨rfl,b1⟩;rw[HP.out];obtain⟨ev,hv,hev⟩:=HS.out.below b1;have CE:=Lib.hid (Tryz.strconv_toError_syntax ⟨#[80,97,114,115,101,85,105,110,116]⟩ t 16 32 ev w1 (by omega) hv hev);clear hv hev
   go_wp2_with fail
   refine CE.out.mono ?_;rintro e w2 ⟨N,rfl,_,_,b2⟩
   go_wp2
   go_ret2
   exact⟨_,rfl,b1.trans (b2.mono b1.size),.inr ⟨HN.out,N,rfl⟩⟩
theorem pre_one (l:List UInt8)(c:UInt8):Lib.hasPrefix l [c]=decide (l.head? = some c)/\Lib.trimPrefix l [c]=if l.head? = some c then l.drop 1 else l:=by
 cases l with
 | nil=>exact⟨rfl,rfl⟩
 | cons a r =>
   unfold Lib.trimPrefix Lib.hasPrefix
   by_cases h:a=c
   · subst h;simp
   · have h2:(c==a)=false:=by rw[beq_eq_false_iff_ne];exact fun e=>h e.symm
     have h3:[c].isPrefixOf (a :: r)=false:=by simp only[List.isPrefixOf,h2,Bool.false_and]
     have h4:¬ (a :: r).head? = some c:=fun e=>h (Option.some.inj e);rw[h3,decide_eq_false h4,if_neg h4];exact⟨rfl,rfl⟩
theorem cutP_hid (s T:ByteArray)(c:UInt8)(r:Bool)(hr:decide (s.data.toList.head? = some c)=r)(hT:T.data.toList=if s.data.toList.head? = some c then s.data.toList.drop 1 else s.data.toList) :
 Hid (∀ W,Calls Tryz.prog 221 #[.string s,.string ⟨#[c]⟩] W fun e w'=>e=.returned (.tuple #[.string T,.bool r])/\w'=W):=Lib.hid fun W=>by
 have h:=Tryz.strings_CutPrefix s ⟨#[c]⟩ W;rw[show(⟨#[c]⟩:ByteArray).data.toList=[c]from rfl,(pre_one _ c).1,(pre_one _ c).2,hr,<- hT]at h;rw[text_is (T:=T) rfl];exact h
theorem hasP_hid (s:ByteArray)(c:UInt8)(r:Bool)(hr:decide (s.data.toList.head? = some c)=r) :
 Hid (∀ W,Calls Tryz.prog 141 #[.string s,.string ⟨#[c]⟩] W fun e w'=>e=.returned (.bool r)/\w'=W):=Lib.hid fun W=>by
 have h:=Tryz.strings_HasPrefix s ⟨#[c]⟩ W;rw[show(⟨#[c]⟩:ByteArray).data.toList=[c]from rfl,(pre_one _ c).1,hr]at h;exact h
def NumP (l:List UInt8)(W:World)(e:Ending)(w':World):Prop :=
 ∃(n:Int) (b:Bool),e=.returned (.tuple #[.int .i64 n,.bool b])/\Below W.heap.size W w'/\((∃ m:Nat,numM l=some m/\n=(m:Int)/\b=true)\/(numM l=none/\b=false))
theorem numD_lt8 {B n:Nat}{l:List UInt8}(hB:B<=16)(h:numD B l=some n)(hl:l.length<=8):n<4294967296:=by
 unfold numD at h;split at h
 · cases h
 · have:=numF_lt B l 0 n 0 h (by simp)
   have h1:B ^ (0+l.length)<=16 ^ (0+l.length):=Nat.pow_le_pow_left hB _;have h2:(16:Nat) ^ (0+l.length)<=16 ^ 8:=Nat.pow_le_pow_right (by decide) (by omega);have h3:(16:Nat) ^ 8=4294967296:=by decide
   omega
theorem numM_is (l:List UInt8)(hl:l.length<=8)(D:List UInt8)(t x X:Bool)(hD:D=if l.head? = some 35 then l.drop 1 else l)(ht:decide (l.head? = some 35)=t)(hx:decide (D.head? = some 120)=x)(hX:decide (D.head? = some 88)=X) :
 numM l=if t=true then (if x=true\/X=true then numD 16 (D.drop 1) else numD 10 D) else none:=by
 subst ht hx hX;simp only[decide_eq_true_eq]
 by_cases h:l.head? = some 35
 · rw[if_pos h]at hD ⊢
   cases l with
   | nil=>cases h
   | cons a r =>
     injection h with h
     subst h;have e:D=r:=hD;subst e;rw[num_sharp];simp only[List.length_cons]at hl
     by_cases hc:D.head? = some 120\/D.head? = some 88
     · rw[if_pos hc,if_pos hc,numU_eq _ _ _ (by
        cases D with
        | nil=>simp
        | cons y z=>simp at hl ⊢;omega)]
     · rw[if_neg hc,if_neg hc,numU_eq _ _ _ (by omega)]
 · rw[if_neg h,num_plain _ h]
theorem number_any (s:ByteArray)(hs:s.size<=8)(w:World)(hsyn:SynIn w):Calls Tryz.prog 224 #[.string s] w (NumP s.data.toList w):=by
 obtain⟨D,hD⟩:=text_of (if s.data.toList.head? = some 35 then s.data.toList.drop 1 else s.data.toList);obtain⟨t,ht⟩:∃ t,decide (s.data.toList.head? = some 35)=t:=⟨_,rfl⟩;obtain⟨x,hx⟩:∃ x,decide (D.data.toList.head? = some 120)=x:=⟨_,rfl⟩;obtain⟨X,hX⟩:∃ X,decide (D.data.toList.head? = some 88)=X:=⟨_,rfl⟩;have CC:=cutP_hid s D 35 t ht hD;have HM:=Lib.hid (numM_is s.data.toList (by rw[lsize];exact hs) D.data.toList t x X hD ht hx hX)
 have hDs:D.size<=8:=by
  rw[<- lsize,hD];split
  · rw[List.length_drop,lsize];omega
  · rw[lsize];exact hs
 have HS:=Lib.hid hsyn;clear hD ht hsyn
 cases x with
 | true =>
   have CH1:=hasP_hid D 120 true hx;obtain⟨E,hE⟩:=text_of (D.data.toList.drop 1);have hEs:E.size<=8:=by rw[<- lsize,hE,List.length_drop,lsize];omega
   have hD1:1<=D.size:=by
    rw[<- lsize]
    cases hq:D.data.toList with
    | nil=>rw[hq]at hx;cases hx
    | cons a r=>simp
   have s1:∀ W,(Instr.slice 9 (.string D) (some (.int .i64 1)) none none).run Tryz.prog W=.ok (.string E) W:=slice_from D E 1 hD1 hE;have CU:=Lib.hid fun W hW=>parseU16_any E hEs W hW;have HM2:Hid (numM s.data.toList=if t=true then numD 16 E.data.toList else none):=Lib.hid (by rw[HM.out,hE];simp);clear hx hX HM hE;have hlt:=fun n (h:numD 16 E.data.toList=some n)=>numD_lt8 (by decide) h (by rw[lsize];omega);have HLT:=Lib.hid hlt;clear hlt
   go_enter Tryz.func224,Tryz.ntmps224
   go_wp2_with fail
   (with_reducible refine(CC.out _).mono ?_)
   rintro e w ⟨rfl,rfl⟩
   go_wp2_with fail
   (with_reducible refine(CH1.out _).mono ?_)
   rintro e w ⟨rfl,rfl⟩
   go_wp2_with fail
   (with_reducible refine(CU.out _ HS.out).mono ?_)
   rintro e w1 ⟨v,rfl,b1,hv⟩;rcases hv with ⟨n,hn,rfl⟩ | ⟨hn,N,rfl⟩
   · have hn32:=HLT.out n hn
     have HN:=Lib.hid hn;clear hn
     cases t with
     | true =>
       have HR:Hid (numM s.data.toList=some n):=Lib.hid (by rw[HM2.out,HN.out];rfl);clear HM2 HN
       go_wp2_with fail
       go_quiet (fail)
       go_wp2
       go_ret2
       exact⟨(n:Int),true,rfl,belowN b1 _,.inl ⟨n,HR.out,rfl,rfl⟩⟩
     | false =>
       have HR:Hid (numM s.data.toList=none):=Lib.hid (by rw[HM2.out];rfl);clear HM2 HN
       go_wp2_with fail
       go_quiet (fail)
       go_wp2
       go_ret2
       exact⟨(n:Int),false,rfl,belowN b1 _,.inr ⟨HR.out,rfl⟩⟩
   · have HR:Hid (numM s.data.toList=none):=Lib.hid (by rw[HM2.out,hn];cases t<;>rfl)
     clear hn HM2
     cases t with
     | true =>
       go_wp2_with fail
       go_quiet (fail)
       go_wp2
       go_ret2
       exact⟨0,false,rfl,belowN b1 _,.inr ⟨HR.out,rfl⟩⟩
     | false =>
       go_wp2_with fail
       go_quiet (fail)
       go_wp2
       go_ret2
       exact⟨0,false,rfl,belowN b1 _,.inr ⟨HR.out,rfl⟩⟩
 | false =>
 have CH1:=hasP_hid D 120 false hx
 cases X with
 | true =>
   have CH2:=hasP_hid D 88 true hX;obtain⟨E,hE⟩:=text_of (D.data.toList.drop 1);have hEs:E.size<=8:=by rw[<- lsize,hE,List.length_drop,lsize];omega
   have hD1:1<=D.size:=by
    rw[<- lsize]
    cases hq:D.data.toList with
    | nil=>rw[hq]at hX;cases hX
    | cons a r=>simp
   have s1:∀ W,(Instr.slice 9 (.string D) (some (.int .i64 1)) none none).run Tryz.prog W=.ok (.string E) W:=slice_from D E 1 hD1 hE;have CU:=Lib.hid fun W hW=>parseU16_any E hEs W hW;have HM2:Hid (numM s.data.toList=if t=true then numD 16 E.data.toList else none):=Lib.hid (by rw[HM.out,hE];simp);clear hx hX HM hE;have hlt:=fun n (h:numD 16 E.data.toList=some n)=>numD_lt8 (by decide) h (by rw[lsize];omega);have HLT:=Lib.hid hlt;clear hlt
   go_enter Tryz.func224,Tryz.ntmps224
   go_wp2_with fail
   (with_reducible refine(CC.out _).mono ?_)
   rintro e w ⟨rfl,rfl⟩
   go_wp2_with fail
   (with_reducible refine(CH1.out _).mono ?_)
   rintro e w ⟨rfl,rfl⟩
   go_wp2_with fail
   (with_reducible refine(CH2.out _).mono ?_)
   rintro e w ⟨rfl,rfl⟩
   go_wp2_with fail
   (with_reducible refine(CU.out _ HS.out).mono ?_)
   rintro e w1 ⟨v,rfl,b1,hv⟩;rcases hv with ⟨n,hn,rfl⟩ | ⟨hn,N,rfl⟩
   · have hn32:=HLT.out n hn
     have HN:=Lib.hid hn;clear hn
     cases t with
     | true =>
       have HR:Hid (numM s.data.toList=some n):=Lib.hid (by rw[HM2.out,HN.out];rfl);clear HM2 HN
       go_wp2_with fail
       go_quiet (fail)
       go_wp2
       go_ret2
       exact⟨(n:Int),true,rfl,belowN b1 _,.inl ⟨n,HR.out,rfl,rfl⟩⟩
     | false =>
       have HR:Hid (numM s.data.toList=none):=Lib.hid (by rw[HM2.out];rfl);clear HM2 HN
       go_wp2_with fail
       go_quiet (fail)
       go_wp2
       go_ret2
       exact⟨(n:Int),false,rfl,belowN b1 _,.inr ⟨HR.out,rfl⟩⟩
   · have HR:Hid (numM s.data.toList=none):=Lib.hid (by rw[HM2.out,hn];cases t<;>rfl)
     clear hn HM2
     cases t with
     | true =>
       go_wp2_with fail
       go_quiet (fail)
       go_wp2
       go_ret2
       exact⟨0,false,rfl,belowN b1 _,.inr ⟨HR.out,rfl⟩⟩
     | false =>
       go_wp2_with fail
       go_quiet (fail)
       go_wp2
       go_ret2
       exact⟨0,false,rfl,belowN b1 _,.inr ⟨HR.out,rfl⟩⟩
 | false =>
   have CH2:=hasP_hid D 88 false hX;obtain⟨E,hE⟩:∃ E,D=E:=⟨_,rfl⟩;have hEs:E.size<=8:=by rw[<- hE];omega
   have CU:=Lib.hid fun W hW=>parseU10_any D (by omega) W hW;have HM2:Hid (numM s.data.toList=if t=true then numD 10 D.data.toList else none):=Lib.hid (by rw[HM.out];simp);clear hx hX HM hE hEs;have hlt:=fun n (h:numD 10 D.data.toList=some n)=>numD_lt8 (by decide) h (by rw[lsize];omega);have HLT:=Lib.hid hlt;clear hlt
   go_enter Tryz.func224,Tryz.ntmps224
   go_wp2_with fail
   (with_reducible refine(CC.out _).mono ?_)
   rintro e w ⟨rfl,rfl⟩
   go_wp2_with fail
   (with_reducible refine(CH1.out _).mono ?_)
   rintro e w ⟨rfl,rfl⟩
   go_wp2_with fail
   (with_reducible refine(CH2.out _).mono ?_)
   rintro e w ⟨rfl,rfl⟩
   go_wp2_with fail
   (with_reducible refine(CU.out _ HS.out).mono ?_)
   rintro e w1 ⟨v,rfl,b1,hv⟩;rcases hv with ⟨n,hn,rfl⟩ | ⟨hn,N,rfl⟩
   · have hn32:=HLT.out n hn
     have HN:=Lib.hid hn;clear hn
     cases t with
     | true =>
       have HR:Hid (numM s.data.toList=some n):=Lib.hid (by rw[HM2.out,HN.out];rfl);clear HM2 HN
       go_wp2_with fail
       go_quiet (fail)
       go_wp2
       go_ret2
       exact⟨(n:Int),true,rfl,belowN b1 _,.inl ⟨n,HR.out,rfl,rfl⟩⟩
     | false =>
       have HR:Hid (numM s.data.toList=none):=Lib.hid (by rw[HM2.out];rfl);clear HM2 HN
       go_wp2_with fail
       go_quiet (fail)
       go_wp2
       go_ret2
       exact⟨(n:Int),false,rfl,belowN b1 _,.inr ⟨HR.out,rfl⟩⟩
   · have HR:Hid (numM s.data.toList=none):=Lib.hid (by rw[HM2.out,hn];cases t<;>rfl)
     clear hn HM2
     cases t with
     | true =>
       go_wp2_with fail
       go_quiet (fail)
       go_wp2
       go_ret2
       exact⟨0,false,rfl,belowN b1 _,.inr ⟨HR.out,rfl⟩⟩
     | false =>
       go_wp2_with fail
       go_quiet (fail)
       go_wp2
       go_ret2
       exact⟨0,false,rfl,belowN b1 _,.inr ⟨HR.out,rfl⟩⟩
theorem number_hid (s:ByteArray)(hs:s.size<=8):Hid (∀ W,SynIn W->Calls Tryz.prog 224 #[.string s] W (NumP s.data.toList W)):=Lib.hid fun W h=>number_any s hs W h
end Go.Proofs.YtlnfbjbagmfpiaaGreatDoor
namespace Go.Proofs.YtlnfbjbagmfpiaaGreatDoor
open Go.RowKit
def MaxIn (w:World):Prop:=∃ m,w.cell? ⟨3,0,none⟩=some (.int .i64 m)
theorem MaxIn.below {w w':World}(h:MaxIn w)(hb:Below w.heap.size w w'):MaxIn w':=by
 obtain⟨m,hm⟩:=h;exact⟨m,by rw[hb.cell (lt_of_cell hm)];exact hm⟩
structure Low (w:World):Prop where
 m:MaxIn w
 s:SignsIn w
 e:SynIn w
theorem Low.below {w w':World}(h:Low w)(hb:Below w.heap.size w w'):Low w':=⟨h.m.below hb,h.s.below hb,h.e.below hb⟩
theorem index_semi:∀ l:List UInt8,(semi l=none/\Lib.index l [59] = -1)\/∃ k:Nat,semi l=some k/\Lib.index l [59]=(k:Int)
 | [] => .inl ⟨rfl,rfl⟩
 | c :: r=>by
   unfold semi Lib.index
   by_cases hc:c=59
   · subst hc
     rw[if_pos (by simp)];exact .inr ⟨0,rfl,rfl⟩
   · have h2:¬ [59].isPrefixOf (c :: r)=true:=by
      simp only[List.isPrefixOf,Bool.and_true,beq_iff_eq];exact fun e=>hc e.symm
     rw[if_neg h2,if_neg hc];rcases index_semi r with ⟨h3,h4⟩ | ⟨k,h3,h4⟩
     · rw[h3,h4];exact .inl ⟨rfl,rfl⟩
     · rw[h3,h4]
       refine .inr ⟨k+1,rfl,?_⟩;rw[if_neg (by simp)];simp
theorem cut_semi_no (l:List UInt8)(h:semi l=none):Lib.cut l [59]=(l,[],false):=by
 unfold Lib.cut;rcases index_semi l with ⟨_,h2⟩ | ⟨k,h1,_⟩
 · rw[h2];rfl
 · rw[h]at h1;cases h1
theorem cut_semi_at (l:List UInt8)(k:Nat)(h:semi l=some k):Lib.cut l [59]=(l.take k,l.drop (k+1),true):=by
 unfold Lib.cut;rcases index_semi l with ⟨h1,_⟩ | ⟨j,h1,h2⟩
 · rw[h]at h1;cases h1
 · rw[h]at h1
   injection h1 with h1
   subst h1;rw[h2,if_pos (by omega)];simp
theorem cutS_hid (L A R:ByteArray)(r:Bool)(h:Lib.cut L.data.toList [59]=(A.data.toList,R.data.toList,r))(hL:L.size<=1000000):Hid (∀ W,MaxIn W->Calls Tryz.prog 222 #[.string L,.string ⟨#[59]⟩] W fun e w'=>e=.returned (.tuple #[.string A,.string R,.bool r])/\Below W.heap.size W w'):=Lib.hid fun W hm=>by
 obtain⟨m,hm⟩:=hm;have C:=Tryz.strings_Cut L ⟨#[59]⟩ m W (by omega) hm;rw[show(⟨#[59]⟩:ByteArray).data.toList=[59]from rfl,h]at C;simp only[]at C;rw[<- text_is (T:=A) rfl,<- text_is (T:=R) rfl]at C;exact C.mono fun e w' ⟨h1,n,h2⟩=>⟨h1,by rw[h2];exact belowN (Below.refl _ _) n⟩
theorem semi_take:∀(r:List UInt8) (m:Nat),semi (r.take m)=(semi r).bind fun k=>if k<m then some k else none
 | [],m=>by simp[semi]
 | c :: r,0=>by
   cases h:semi (c :: r)<;>simp[semi]
 | c :: r,m+1=>by
   rw[List.take_succ_cons];unfold semi
   by_cases hc:c=59
   · rw[if_pos hc,if_pos hc];simp
   · rw[if_neg hc,if_neg hc,semi_take r m]
     cases semi r with
     | none=>rfl
     | some k =>
       by_cases hk:k<m
       · simp[hk]
       · simp[hk]
theorem first_nine (r:List UInt8):firstM (38 :: r)=match semi (r.take 9)with
 | some k=>(signM (r.take k)).map fun p=>(p.1,p.2,k+2)
 | none=>none:=by
 rw[first_amp,semi_take]
 cases hs:semi r with
 | none=>rfl
 | some k =>
   by_cases hk:k<9
   · simp[hk]
   · have h8:signM (r.take k)=none:=sign_long (by
      have:=(semi_lt hs).1
      rw[List.length_take];omega)
     simp[hk,h8]
def FirstP (l:List UInt8)(W:World)(e:Ending)(w':World):Prop :=
 ∃(T:ByteArray) (k:Nat),e=.returned (.tuple #[.string T,.int .i64 (k:Int)])/\Below W.heap.size W w'/\((firstM l=none/\k=0/\T=⟨#[]⟩)\/∃ t b,firstM l=some (t,b,k)/\T.data.toList=if b=true then [] else t)
theorem first_no {l:List UInt8}{W w':World}(h:firstM l=none)(b:Below W.heap.size W w'):FirstP l W (.returned (.tuple #[.string ⟨#[]⟩,.int .i64 0])) w':=⟨⟨#[]⟩,0,rfl,b,.inl ⟨h,rfl,rfl⟩⟩
theorem first_any (s:ByteArray)(hs:s.size<=1000000)(w:World)(hlow:Low w):Calls Tryz.prog 213 #[.string s] w (FirstP s.data.toList w):=by
 obtain⟨D,hD⟩:=text_of (if s.data.toList.head? = some 38 then s.data.toList.drop 1 else s.data.toList);have HLow:=Lib.hid hlow;clear hlow
 by_cases ha:s.data.toList.head? = some 38
 · have CC:=cutP_hid s D 38 true (decide_eq_true ha) hD
   rw[if_pos ha]at hD
   have hl:s.data.toList=38 :: D.data.toList:=by
    cases hq:s.data.toList with
    | nil=>rw[hq]at ha;cases ha
    | cons a r=>rw[hq]at ha hD;injection ha with ha;subst ha;rw[hD];rfl
   have hDs:D.size+1=s.size:=by rw[<- lsize s,hl,<- lsize D];rfl
   have hf:=first_nine D.data.toList;rw[<- hl]at hf;obtain⟨M,hM⟩:=text_of (D.data.toList.take 9);obtain⟨m,hm⟩:∃ m:Nat,m=min D.size 9:=⟨_,rfl⟩
   have hMt:M.data.toList=D.data.toList.take m:=by
    rw[hM,hm]
    by_cases h9:D.size<=9
    · rw[Nat.min_eq_left h9,<- lsize D,List.take_length,List.take_of_length_le (by rw[lsize];exact h9)]
    · rw[Nat.min_eq_right (by omega)]
   have hmD:m<=D.size:=by rw[hm];exact Nat.min_le_left _ _
   have hm9:m<=9:=by rw[hm];exact Nat.min_le_right _ _
   have hMs:M.size=m:=by rw[<- lsize,hMt,List.length_take,lsize];omega
   have s1:=slice_to D M m hmD hMt;have hmin:min (D.size:Int) 9=(m:Int):=by rw[hm];omega
   rw[<- hM]at hf
   cases hsm:semi M.data.toList with
   | none =>
     have C2:=cutS_hid M M ⟨#[]⟩ false (cut_semi_no _ hsm) (by omega);rw[hsm]at hf;have HF:=Lib.hid hf;clear hf hsm hl hD ha hM hMt hm hMs hm9
     go_enter Tryz.func213,Tryz.ntmps213
     go_wp2_with fail
     refine(CC.out _).mono ?_;rintro e w ⟨rfl,rfl⟩
     go_wp2_with fail
     refine(C2.out _ HLow.out.m).mono ?_;rintro e w1 ⟨rfl,b1⟩
     go_wp2
     go_ret2
     exact first_no HF.out b1
   | some k =>
     obtain⟨I,hI⟩:=text_of (M.data.toList.take k);obtain⟨R,hR⟩:=text_of (M.data.toList.drop (k+1));have C2:=cutS_hid M I R true (by rw[cut_semi_at _ _ hsm,hI,hR]) (by omega);rw[hsm]at hf;obtain⟨hk,_,_⟩:=semi_lt hsm;rw[lsize]at hk;have hIs:I.size=k:=by rw[<- lsize,hI,List.length_take,lsize];omega
     have hID:I.data.toList=D.data.toList.take k:=by
      rw[hI,hMt,List.take_take,Nat.min_eq_left (by omega)]
     simp only at hf;rw[<- hID]at hf;have hk8:k<=8:=by omega
     have hz1:(1:Int)+(I.size:Int)+1=((k+2:Nat):Int):=by omega
     obtain⟨T1,hT1⟩:=text_of (nameM I.data.toList);obtain⟨r,hr⟩:∃ r,decide (nameM I.data.toList≠[])=r:=⟨_,rfl⟩;have C3:=nameP_hid I T1 hT1 r hr;have C4:=number_hid I (by omega);have hI0:0<=(I.size:Int):=by omega
     have hI8:(I.size:Int)<=8:=by omega
     cases r with
     | true =>
       have hne:=of_decide_eq_true hr;rw[sign_name hne]at hf;have HF:Hid (firstM s.data.toList=some (nameM I.data.toList,false,k+2)):=Lib.hid hf;have HT:=Lib.hid hT1;have HZ:=Lib.hid hz1;clear hf hsm hl hD ha hM hMt hm hMs hm9 hI hR hID hr hne hT1 hz1 hIs hk
       go_enter Tryz.func213,Tryz.ntmps213
       go_wp2_with fail
       refine(CC.out _).mono ?_;rintro e w ⟨rfl,rfl⟩
       go_wp2_with fail
       refine(C2.out _ HLow.out.m).mono ?_;rintro e w1 ⟨rfl,b1⟩
       go_wp2_with fail
       refine(C3.out _ (HLow.out.below b1).s).mono ?_;rintro e w2 ⟨rfl,b2⟩
       go_wp2
       go_ret2
       exact⟨T1,k+2,by rw[<- HZ.out];rfl,b1.trans (b2.mono b1.size),.inr ⟨_,_,HF.out,HT.out⟩⟩
     | false =>
       have hne:nameM I.data.toList=[]:=by simpa using of_decide_eq_false hr
       obtain rfl:T1=⟨#[]⟩:=text_is (hT1.trans hne);have HNE:=Lib.hid hne;have HF:=Lib.hid hf;have HZ:=Lib.hid hz1;clear hf hsm hl hD ha hM hMt hm hMs hm9 hI hR hID hr hne hT1 hz1 hIs hk
       go_enter Tryz.func213,Tryz.ntmps213
       go_wp2_with fail
       refine(CC.out _).mono ?_;rintro e w ⟨rfl,rfl⟩
       go_wp2_with fail
       refine(C2.out _ HLow.out.m).mono ?_;rintro e w1 ⟨rfl,b1⟩
       go_wp2_with fail
       refine(C3.out _ (HLow.out.below b1).s).mono ?_;rintro e w2 ⟨rfl,b2⟩;have B2:=b1.trans (b2.mono b1.size)
       go_wp2_with fail
       refine(C4.out _ (HLow.out.below B2).e).mono ?_;rintro e w3 ⟨n,b,rfl,b3,hv⟩;have B3:=B2.trans (b3.mono B2.size);rcases hv with ⟨N,hn,rfl,rfl⟩ | ⟨hn,rfl⟩
       · obtain⟨T,hT⟩:=text_of (if N=0\/¬ isPt N then [] else encN N)
         have C5:=pointT_hid N T hT
         have HV:Hid (∃ t b,firstM s.data.toList=some (t,b,k+2)/\T.data.toList=if b=true then [] else t):=Lib.hid (by
          by_cases h0:N=0\/¬ isPt N
          · exact⟨badT,true,by rw[HF.out,sign_bad HNE.out hn h0];rfl,by rw[hT,if_pos h0];rfl⟩
          · refine⟨encN N,false,?_,by rw[hT,if_neg h0];rfl⟩
            rw[HF.out,sign_point HNE.out hn (fun e=>h0 (.inl e)) (Classical.byContradiction fun g=>h0 (.inr g))]
            rfl)
         clear hn hT HF HNE
         go_wp2_with fail
         refine(C5.out _).mono ?_;rintro e w4 ⟨rfl,b4⟩
         go_wp2
         go_ret2
         exact⟨T,k+2,by rw[<- HZ.out];rfl,B3.trans (b4.mono B3.size),.inr HV.out⟩
       · have HV:Hid (firstM s.data.toList=none):=Lib.hid (by rw[HF.out,sign_none HNE.out hn];rfl)
         clear hn HF HNE
         go_wp2
         go_ret2
         exact first_no HV.out B3
 · have CC:=cutP_hid s D 38 false (decide_eq_false ha) hD
   have HF:Hid (firstM s.data.toList=none):=Lib.hid (by
    cases hq:s.data.toList with
    | nil=>rfl
    | cons a r=>exact first_plain a r (fun e=>ha (by rw[hq,e];rfl)))
   clear ha hD
   go_enter Tryz.func213,Tryz.ntmps213
   go_wp2_with fail
   refine(CC.out _).mono ?_;rintro e w ⟨rfl,rfl⟩
   go_wp2
   go_ret2
   exact first_no HF.out (Below.refl _ _)
theorem first_hid (s:ByteArray)(hs:s.size<=1000000):Hid (∀ W,Low W->Calls Tryz.prog 213 #[.string s] W (FirstP s.data.toList W)):=Lib.hid fun W h=>first_any s hs W h
end Go.Proofs.YtlnfbjbagmfpiaaGreatDoor
namespace Go.Proofs.YtlnfbjbagmfpiaaGreatDoor
open Go.RowKit
theorem rows_apart {w:World}{b1 b2:Nat}{e1 e2:TypeId}{s1 s2:Nat}{v1 v2:Value}{n1 n2:Nat}{x1 x2:List Value}(h1:w.ownsRow b1 e1 s1 v1 n1 x1)(h2:w.ownsRow b2 e2 s2 v2 n2 x2)(hne:e1≠e2):v1.ownBlock=none\/v1.ownBlock≠v2.ownBlock:=by
 rcases h1.2 with ⟨rfl,_⟩ | ⟨g,cap,cur,rfl,_,c,_⟩
 · exact .inl rfl
 · refine .inr fun e => ?_
   rcases h2.2 with ⟨rfl,_⟩ | ⟨g',cap',cur',rfl,_,c',_⟩
   · cases e
   · obtain rfl:g=g':=by simpa [Value.ownBlock] using e
     rw[c]at c'
     injection c' with c'
     injection c' with _ c' _
     exact hne c'
def failCs (p:List Nat):List Value:=p.flatMap fun(n:Nat)=>[.int .i64 130,.int .i64 (n:Int)]
theorem failCs_snoc (p:List Nat)(n:Nat):failCs (p++[n])=failCs p++[.int .i64 130,.int .i64 (n:Int)]:=by simp[failCs]
theorem Tinfo34:(Tryz.prog.info? 93).map (fun i=>(i.zero,i.size,i.bytes))=some (some (.agg #[.int .i64 0,.int .i64 0]),2,16):=by kernel_rfl
theorem first_bad {l t:List UInt8}{k:Nat}(h:firstM l=some (t,true,k)):t=badT:=by
 cases l with
 | nil=>cases h
 | cons c r =>
   by_cases hc:c=38
   · subst hc
     rw[first_amp]at h
     cases hs:semi r with
     | none=>rw[hs]at h;cases h
     | some j =>
       rw[hs]at h;simp only at h
       by_cases hn:nameM (r.take j)=[]
       · cases hm:numM (r.take j)with
         | none=>rw[sign_none hn hm]at h;cases h
         | some n =>
           by_cases h3:n=0\/¬ isPt n
           · rw[sign_bad hn hm h3]at h
             injection h with h;injection h with h _;exact h.symm
           · rw[sign_point hn hm (fun g=>h3 (.inl g)) (Classical.byContradiction fun g=>h3 (.inr g))]at h
             injection h with h;injection h with _ h;injection h with h _;cases h
       · rw[sign_name hn]at h
         injection h with h;injection h with _ h;injection h with h _;cases h
   · rw[first_plain c r hc]at h;cases h
theorem dec_place (l:List UInt8)(pos:Nat)(h:pos<l.length):l.drop pos=l[pos] :: l.drop (pos+1):=List.drop_eq_getElem_cons h
theorem decode_any (s:ByteArray)(hs:s.size<=1000000)(w:World)(hlow:Low w) :
 Calls Tryz.prog 194 #[.string s] w fun e w'=>∃ v,e=.returned (.tuple #[.string ⟨(decT 0 s.data.toList).1.toArray⟩,v])/\w'.ownsRow w.heap.size 93 2 v (decT 0 s.data.toList).2.length (failCs (decT 0 s.data.toList).2)/\Below w.heap.size w w':=by
 obtain⟨i0,hi,hz0,hz1,hz2⟩:=info_parts Tinfo5;obtain⟨i1,hi1,hy0,hy1,hy2⟩:=info_parts Tinfo34;have HLow:=Lib.hid hlow;clear hlow
 go_enter Tryz.func194,Tryz.ntmps194
 go_wp2
 go_step3
 go_wp2_with (at_make;refine wpList_make_own _ rfl _ _ 66 rfl w.heap.size 5 i0 (.int .u8 0) 1 Tryz.underlying66 hi hz0 hz1 .i64 .i64 _ s.size rfl rfl rfl (by rw[hz2];omega) (by unfold maxLen;omega) (Nat.le_refl _) ?_;intro w0 hown0 hgrow0)
 have hbw0:Below w.heap.size w w0:=Below.grown (Below.refl _ _) hgrow0 (Nat.le_refl _) (fun j hj=>by cases hj)
 go_step3
 go_wp2
 go_loopw [4,5,6] (fun v u i wr=>∃(pos:Nat) (acc:List UInt8) (facc:List Nat),i=.int .i64 pos/\pos<=s.size/\wr.ownsRow w.heap.size 5 1 v acc.length (Lib.byteCells acc)/\wr.ownsRow w.heap.size 93 2 u facc.length (failCs facc)/\Below w.heap.size w wr/\Hid (decT 0 s.data.toList=(acc++(decT pos (s.data.toList.drop pos)).1,facc++(decT pos (s.data.toList.drop pos)).2))/\acc.length<=pos/\facc.length<=pos) (fun _ _ i _=>s.size - (intOf i).toNat)
 case atStart=>exact⟨0,[],[],rfl,Nat.zero_le _,hown0,World.ownsRow_nil _ _ _ _,hbw0,Lib.hid rfl,Nat.le_refl _,Nat.le_refl _⟩
 case round =>
  clear hown0 hgrow0 hbw0;obtain⟨pos,acc,facc,rfl,hp,hown,hfow,hb,HS,hla,hlf⟩:=hrel
  by_cases hlt:pos<s.size
  · have hpl:pos<s.data.toList.length:=by rw[lsize];exact hlt
    have hdr:=dec_place s.data.toList pos hpl;have hg:s.data.toList[pos]=s[pos]:=rfl;rw[hg]at hdr;obtain⟨c,hc⟩:∃ c,s[pos]=c:=⟨_,rfl⟩;have HC:=Lib.hid hc;rw[hc]at hdr;obtain⟨R,hR⟩:=text_of (s.data.toList.drop pos);have s1:=slice_from s R pos hp hR;have hRs:R.size=s.size - pos:=by rw[<- lsize,hR,List.length_drop,lsize]
    have CF:=first_hid R (by omega);have hLw:=HLow.out.below hb;have HLw:=Lib.hid hLw;have HR:=Lib.hid hR;have HDR:=Lib.hid hdr;have hsz:=hb.size;clear hR hdr hg hc hRs hLw
    go_wp2_with fail
    (with_reducible refine(CF.out _ HLw.out).mono ?_)
    rintro e w1 ⟨T,k,rfl,b1,hv⟩;have hown1:=ownsRow_below hown b1;have hfow1:=ownsRow_below hfow b1;have hb1:=hb.trans (b1.mono hsz);clear hown hfow hb b1 HLw CF;rcases hv with ⟨hn,rfl,rfl⟩ | ⟨t,b,hn,hT⟩
    · have HN:Hid (decT 0 s.data.toList=((acc++[c])++(decT (pos+1) (s.data.toList.drop (pos+1))).1,facc++(decT (pos+1) (s.data.toList.drop (pos+1))).2)):=Lib.hid (by
       rw[HR.out,HDR.out]at hn;rw[HS.out,HDR.out,decT_plain pos c _ hn]
       simp)
      have hcc:s[pos]=c:=HC.out;have hsz1:=hb1.size;clear hn HS HR HDR HC
      go_wp2_with (at_builtin;refine wpList_append_own _ rfl _ _ 66 rfl w.heap.size 5 i0 (.int .u8 0) 1 1 Tryz.underlying66 hi hz0 hz1 hz2 rfl (by decide) _ _ _ rfl (hown1.alloc _) ⟨w1.heap.size,0,none⟩ 1 1 [.int .u8 (c.toNat:Int)] rfl rfl (cell_one_new _ _ _) (fun x hx=>by simp at hx;subst hx;rfl) (by unfold maxLen;omega) (by omega) (by simp;omega) ?_;intro v' w3 hown3 hgrow3 hnil3)
      have hb3:Below w.heap.size w w3:=Below.grown (hb1.alloc hsz1 _) hgrow3 (by simp;omega) (fun j hj=>(hown1.lt _ hj).1);have hfow3:=(hfow1.alloc _).kept hgrow3 (rows_apart hfow1 hown1 (by decide));have hown4:w3.ownsRow w.heap.size 5 1 v' (acc++[c]).length (Lib.byteCells (acc++[c])):=by rw[byteCells_append,byteCells_one,List.length_append];exact hown3
      clear hown3 hgrow3 hnil3
      go_roundw
      case rel=>exact⟨pos+1,acc++[c],facc,by go_num,by omega,hown4,hfow3,hb3,HN,by rw[List.length_append];simp;omega,by omega⟩
      case measure=>simp[intOf];omega
    · have hl:=first_len hn
      rw[HR.out,List.length_drop,lsize]at hl;obtain⟨hk4,hk10,hks,ht1,htk⟩:=hl;have hk0:((k:Int)==0)=false:=by rw[beq_eq_false_iff_ne];omega
      have hkz:(0:Int)<=(k:Int):=by omega
      have HN:Hid (decT 0 s.data.toList=((acc++t)++(decT (pos+k) (s.data.toList.drop (pos+k))).1,(facc++(if b=true then [pos] else []))++(decT (pos+k) (s.data.toList.drop (pos+k))).2)):=Lib.hid (by
       rw[HR.out]at hn;rw[HS.out,decT_sign pos hn,List.drop_drop]
       simp)
      have hsz1:=hb1.size;clear HS HR HDR HC
      cases b with
      | true =>
        have et:T=⟨#[]⟩:=text_is hT;subst et;have HT:Hid (t=[239,191,189]):=Lib.hid (first_bad hn);clear hn hT
        go_wp2_with (first
         | (at_builtin;refine wpList_append_own _ rfl _ _ 29 rfl w.heap.size 93 i1 (.agg #[.int .i64 0,.int .i64 0]) 2 16 Tryz.underlying29 hi1 hy0 hy1 hy2 rfl (by decide) _ _ _ rfl (hfow1.alloc _) ⟨w1.heap.size,0,none⟩ 1 1 [.int .i64 130,.int .i64 (pos:Int)] rfl rfl (cells_new w1 [.int .i64 130,.int .i64 (pos:Int)] 93) (fun x hx=>by simp at hx;rcases hx with rfl | rfl<;>rfl) (by unfold maxLen;omega) (by omega) (by simp;omega) ?_;intro v5 w5 hfow5 hgrow5 hnil5
            have hb5:Below w.heap.size w w5:=Below.grown (hb1.alloc hsz1 _) hgrow5 (by simp;omega) (fun j hj=>(hfow1.lt _ hj).1);have hown5:=(hown1.alloc _).kept hgrow5 (rows_apart hown1 hfow1 (by decide));have hsz5:=hb5.size
            clear hgrow5 hnil5)
         | (at_builtin;refine Lib.wpList_append_own_string _ rfl _ _ 66 9 rfl w.heap.size 5 i0 Tryz.underlying66 Tryz.underlying9 hi hz0 hz1 hz2 _ _ _ rfl hown5 ⟨#[239,191,189]⟩ rfl (by show acc.length+3<=_;unfold maxLen;omega) (by show acc.length+3<=_;omega) hsz5 ?_;intro v6 w6 hown6 hgrow6 hnil6
            have hb6:Below w.heap.size w w6:=Below.grown hb5 hgrow6 hsz5 (fun j hj=>(hown5.lt _ hj).1);have hfow6:=hfow5.kept hgrow6 (rows_apart hfow5 hown5 (by decide));have hown7:w6.ownsRow w.heap.size 5 1 v6 (acc++[239,191,189]).length (Lib.byteCells (acc++[239,191,189])):=by rw[byteCells_append,List.length_append];exact hown6
            clear hgrow6 hnil6 hown6))
        have hfow7:w6.ownsRow w.heap.size 93 2 v5 (facc++[pos]).length (failCs (facc++[pos])):=by rw[failCs_snoc,List.length_append];exact hfow6
        clear hfow6 hfow5 hown5
        go_roundw
        case rel=>exact⟨pos+k,acc++[239,191,189],facc++[pos],by go_num,by omega,hown7,hfow7,hb6,by rw[<- HT.out];exact HN,by rw[List.length_append];simp;omega,by rw[List.length_append];simp;omega⟩
        case measure=>simp[intOf];omega
      | false =>
        have hTt:T.data.toList=t:=hT;have hTs:T.size=t.length:=by rw[<- lsize,hTt]
        have hne:T.toList.isEmpty=false:=by
         rw[text_empty,hTt]
         cases t with
         | nil=>simp at ht1
         | cons a r=>rfl
        have HT:=Lib.hid hTt;have hTs1:T.size<=k:=by omega
        clear hn hT hTt hTs
        go_wp2_with (at_builtin;refine Lib.wpList_append_own_string _ rfl _ _ 66 9 rfl w.heap.size 5 i0 Tryz.underlying66 Tryz.underlying9 hi hz0 hz1 hz2 _ _ _ rfl hown1 T rfl (by unfold maxLen;omega) (by omega) hsz1 ?_;intro v6 w6 hown6 hgrow6 hnil6
                     have hb6:Below w.heap.size w w6:=Below.grown hb1 hgrow6 hsz1 (fun j hj=>(hown1.lt _ hj).1);have hfow6:=hfow1.kept hgrow6 (rows_apart hfow1 hown1 (by decide));have hown7:w6.ownsRow w.heap.size 5 1 v6 (acc++t).length (Lib.byteCells (acc++t)):=by rw[byteCells_append,List.length_append,<- HT.out,lsize];exact hown6
                     clear hgrow6 hnil6 hown6)
        go_roundw
        case rel=>exact⟨pos+k,acc++t,facc,by go_num,by omega,hown7,hfow6,hb6,Lib.hid (by simpa using HN.out),by rw[List.length_append];omega,by omega⟩
        case measure=>simp[intOf];omega
  · obtain rfl:pos=s.size:=by omega
    have HE:Hid (decT 0 s.data.toList=(acc,facc)):=Lib.hid (by
     rw[HS.out,show s.data.toList.drop s.size=[] by rw[<- lsize];simp,decT_nil]
     simp)
    have hconv:=conv_row hown;clear HS
    go_wp2
    rw[Exit.noGoto_ret]
    go_ret2
    exact⟨_,by rw[HE.out];rfl,by rw[HE.out];exact hfow,hb⟩
end Go.Proofs.YtlnfbjbagmfpiaaGreatDoor
namespace Go.Proofs.YtlnfbjbagmfpiaaGreatDoor
open Go.RowKit
def FailsIn (w:World)(v:Value)(p:List Nat):Prop :=
 ((∃ a c,v=.slice a 0 c)/\p=[])\/∃ B off cap,v=.slice (some ⟨B,off,none⟩) p.length cap/\∀ i,(h:i<p.length)->w.cell? ⟨B,off+i * 2,none⟩=some (.int .i64 130)/\w.cell? ⟨B,off+i * 2+1,none⟩=some (.int .i64 (p[i]:Int))
theorem FailsIn.form {w:World}{v:Value}{p:List Nat}(h:FailsIn w v p):∃ a c,v=.slice a p.length c:=by
 rcases h with ⟨⟨a,c,rfl⟩,rfl⟩ | ⟨B,off,cap,rfl,_⟩
 · exact⟨_,_,rfl⟩
 · exact⟨_,_,rfl⟩
theorem failCs_at:∀(p:List Nat) (i:Nat) (h:i<p.length),(failCs p)[i * 2]? = some (.int .i64 130)/\(failCs p)[i * 2+1]? = some (.int .i64 (p[i]:Int))
 | a :: r,0,_=>⟨rfl,rfl⟩
 | a :: r,i+1,h=>by
   have:=failCs_at r i (by simpa using h);rw[show failCs (a :: r)=[.int .i64 130,.int .i64 (a:Int)]++failCs r from rfl];rw[List.getElem?_append_right (by simp;omega),List.getElem?_append_right (by simp;omega)];simp only[List.length_cons,List.length_nil,List.getElem_cons_succ];rw[show(i+1) * 2 - (0+1+1)=i * 2 by omega,show(i+1) * 2+1 - (0+1+1)=i * 2+1 by omega];exact this
theorem FailsIn.of_row {w:World}{base:Nat}{v:Value}{p:List Nat}(h:w.ownsRow base 93 2 v p.length (failCs p)):FailsIn w v p:=by
 rcases rowForms h with ⟨h1,h2⟩ | ⟨g,cap,rfl⟩
 · exact .inl ⟨⟨_,_,h1⟩,List.length_eq_zero_iff.1 h2⟩
 · refine .inr ⟨g,0,cap,rfl,fun i hi => ?_⟩
   obtain⟨e1,e2⟩:=failCs_at p i hi;rw[Nat.zero_add,h.cellAt (i * 2) (by omega),h.cellAt (i * 2+1) (by omega)];exact⟨e1,e2⟩
end Go.Proofs.YtlnfbjbagmfpiaaGreatDoor
