/- Is a source right: the document's. -/
import Derived.Test.YthnogdodlhkldaaGreatDoorBaseI
set_option maxRecDepth 100000
set_option maxHeartbeats 16000000
namespace Go.Proofs.YthnogdodlhkldaaGreatDoor
open Go.RowKit
theorem jD (k:Int)(t s h:ByteArray)(b:Bool)(p:Int)(pa:ByteArray)(ls:s.size<=1099511627776)(lh:h.size<=1099511627776):Hid (∀ W,Calls Tryz.prog 140 #[aP k t s h b p pa] W fun e w'=>e=.returned (.bool (aZ (aJ k t s h b p pa)))/\Below W.heap.size W w'):=zH fun W=>aY6 k t s h b p pa ls lh W
theorem rG (k:Int)(t s h:ByteArray)(b:Bool)(p:Int)(pa:ByteArray)(lt:t.size<=1000000)(ls:s.size<=1099511627776)(lh:h.size<=1099511627776)(w:World):Calls Tryz.prog 96 #[aP k t s h b p pa] w fun e w'=>e=.returned (.bool (aL (aJ k t s h b p pa)))/\Below w.heap.size w w':=by
 have CS:=iU s _ rfl ls;have CF:=kV t (by omega) _ rfl;obtain⟨T,hT⟩:=aO (aN k);have CK:=uU k T hT;have xA:=aW w (.cells #[.int .i64 k,.string t,.string s,.string h,.bool b,.int .i64 p,.string pa] 75);have BB:Hid (Below w.heap.size w (w.alloc (.cells #[.int .i64 k,.string t,.string s,.string h,.bool b,.int .i64 p,.string pa] 75))):=zH ((zB _ _).alloc (zL _) _);have c0:(w.alloc (.cells #[.int .i64 k,.string t,.string s,.string h,.bool b,.int .i64 p,.string pa] 75)).cell? ⟨w.heap.size,0,none⟩=some (.int .i64 k):=by rw[aG xA];rfl
 have c1:(w.alloc (.cells #[.int .i64 k,.string t,.string s,.string h,.bool b,.int .i64 p,.string pa] 75)).cell? ⟨w.heap.size,1,none⟩=some (.string t):=by rw[aG xA];rfl
 have c2:(w.alloc (.cells #[.int .i64 k,.string t,.string s,.string h,.bool b,.int .i64 p,.string pa] 75)).cell? ⟨w.heap.size,2,none⟩=some (.string s):=by rw[aG xA];rfl
 have c3:(w.alloc (.cells #[.int .i64 k,.string t,.string s,.string h,.bool b,.int .i64 p,.string pa] 75)).cell? ⟨w.heap.size,3,none⟩=some (.string h):=by rw[aG xA];rfl
 have c4:(w.alloc (.cells #[.int .i64 k,.string t,.string s,.string h,.bool b,.int .i64 p,.string pa] 75)).cell? ⟨w.heap.size,4,none⟩=some (.bool b):=by rw[aG xA];rfl
 have c5:(w.alloc (.cells #[.int .i64 k,.string t,.string s,.string h,.bool b,.int .i64 p,.string pa] 75)).cell? ⟨w.heap.size,5,none⟩=some (.int .i64 p):=by rw[aG xA];rfl
 have c6:(w.alloc (.cells #[.int .i64 k,.string t,.string s,.string h,.bool b,.int .i64 p,.string pa] 75)).cell? ⟨w.heap.size,6,none⟩=some (.string pa):=by rw[aG xA];rfl
 clear xA;unfold aP
 cases gh:h.toList.isEmpty
 · have eh:h.data.toList.isEmpty=false:=by rw[<- aF];exact gh
   by_cases k9:k=9
   · subst k9
     have HR:Hid (false=aL (aJ 9 t s h b p pa)):=zH (by unfold aL bK aJ;simp[eh])
     go_enter Tryz.func96,Tryz.ntmps96
     go_wp2
     go_ret
     exact⟨aA HR.out,BB.out⟩
   by_cases k10:k=10
   · subst k10
     have HR:Hid (false=aL (aJ 10 t s h b p pa)):=zH (by unfold aL bK aJ;simp[eh])
     go_enter Tryz.func96,Tryz.ntmps96
     go_wp2
     go_ret
     exact⟨aA HR.out,BB.out⟩
   by_cases k11:k=11
   · subst k11
     have HR:Hid (false=aL (aJ 11 t s h b p pa)):=zH (by unfold aL bK aJ;simp[eh])
     go_enter Tryz.func96,Tryz.ntmps96
     go_wp2
     go_ret
     exact⟨aA HR.out,BB.out⟩
   by_cases k12:k=12
   · subst k12
     have CHO:=jD 12 t s h b p pa ls lh;unfold aP at CHO;generalize hsh:aZ (aJ 12 t s h b p pa)=r at CHO;have HR:Hid (r=aL (aJ 12 t s h b p pa)):=zH (by rw[<- hsh];rfl)
     go_enter Tryz.func96,Tryz.ntmps96
     go_wp2_with (go_at_call 140;(with_reducible refine(CHO.out _).mono ?_);rintro e w7 ⟨rfl,b7⟩)
     go_ret
     exact⟨aA HR.out,(BB.out.trans (b7.mono BB.out.size))⟩
   have m9:(k==9)=false:=by rw[beq_eq_false_iff_ne];exact k9
   have m10:(k==10)=false:=by rw[beq_eq_false_iff_ne];exact k10
   have m11:(k==11)=false:=by rw[beq_eq_false_iff_ne];exact k11
   have m12:(k==12)=false:=by rw[beq_eq_false_iff_ne];exact k12
   cases gT:T.toList.isEmpty
   · have eT:(aN k).isEmpty=false:=by rw[<- hT,<- aF];exact gT
     have HR:Hid (false=aL (aJ k t s h b p pa)):=zH (by unfold aL bK aJ;simp[eh,k9,k10,k11,k12,eT])
     go_enter Tryz.func96,Tryz.ntmps96
     go_wp2_with (first | (go_at_call 134;(with_reducible refine(CK.out _).mono ?_);rintro e w7 ⟨rfl,b7⟩;have d1:=(b7.cell (aH c1)).trans c1;have d2:=(b7.cell (aH c2)).trans c2))
     go_ret
     exact⟨aA HR.out,(BB.out.trans (b7.mono BB.out.size))⟩
   · have eT:(aN k).isEmpty=true:=by rw[<- hT,<- aF];exact gT
     have HR:Hid (false=aL (aJ k t s h b p pa)):=zH (by unfold aL bK aJ;simp[eh,k9,k10,k11,k12,eT])
     go_enter Tryz.func96,Tryz.ntmps96
     go_wp2_with (first | (go_at_call 134;(with_reducible refine(CK.out _).mono ?_);rintro e w7 ⟨rfl,b7⟩;have d1:=(b7.cell (aH c1)).trans c1;have d2:=(b7.cell (aH c2)).trans c2))
     go_ret
     exact⟨aA HR.out,(BB.out.trans (b7.mono BB.out.size))⟩
 · have eh:h.data.toList.isEmpty=true:=by rw[<- aF];exact gh
   cases b
   case true =>
    by_cases k9:k=9
    · subst k9
      have HR:Hid (false=aL (aJ 9 t s h true p pa)):=zH (by unfold aL bK aJ;simp[eh])
      go_enter Tryz.func96,Tryz.ntmps96
      go_wp2
      go_ret
      exact⟨aA HR.out,BB.out⟩
    by_cases k10:k=10
    · subst k10
      have HR:Hid (false=aL (aJ 10 t s h true p pa)):=zH (by unfold aL bK aJ;simp[eh])
      go_enter Tryz.func96,Tryz.ntmps96
      go_wp2
      go_ret
      exact⟨aA HR.out,BB.out⟩
    by_cases k11:k=11
    · subst k11
      have HR:Hid (false=aL (aJ 11 t s h true p pa)):=zH (by unfold aL bK aJ;simp[eh])
      go_enter Tryz.func96,Tryz.ntmps96
      go_wp2
      go_ret
      exact⟨aA HR.out,BB.out⟩
    by_cases k12:k=12
    · subst k12
      have CHO:=jD 12 t s h true p pa ls lh;unfold aP at CHO;generalize hsh:aZ (aJ 12 t s h true p pa)=r at CHO;have HR:Hid (r=aL (aJ 12 t s h true p pa)):=zH (by rw[<- hsh];rfl)
      go_enter Tryz.func96,Tryz.ntmps96
      go_wp2_with (go_at_call 140;(with_reducible refine(CHO.out _).mono ?_);rintro e w7 ⟨rfl,b7⟩)
      go_ret
      exact⟨aA HR.out,(BB.out.trans (b7.mono BB.out.size))⟩
    have m9:(k==9)=false:=by rw[beq_eq_false_iff_ne];exact k9
    have m10:(k==10)=false:=by rw[beq_eq_false_iff_ne];exact k10
    have m11:(k==11)=false:=by rw[beq_eq_false_iff_ne];exact k11
    have m12:(k==12)=false:=by rw[beq_eq_false_iff_ne];exact k12
    cases gT:T.toList.isEmpty
    · have eT:(aN k).isEmpty=false:=by rw[<- hT,<- aF];exact gT
      have HR:Hid (false=aL (aJ k t s h true p pa)):=zH (by unfold aL bK aJ;simp[eh,k9,k10,k11,k12,eT])
      go_enter Tryz.func96,Tryz.ntmps96
      go_wp2_with (first | (go_at_call 134;(with_reducible refine(CK.out _).mono ?_);rintro e w7 ⟨rfl,b7⟩;have d1:=(b7.cell (aH c1)).trans c1;have d2:=(b7.cell (aH c2)).trans c2))
      go_ret
      exact⟨aA HR.out,(BB.out.trans (b7.mono BB.out.size))⟩
    · have eT:(aN k).isEmpty=true:=by rw[<- hT,<- aF];exact gT
      have HR:Hid (false=aL (aJ k t s h true p pa)):=zH (by unfold aL bK aJ;simp[eh,k9,k10,k11,k12,eT])
      go_enter Tryz.func96,Tryz.ntmps96
      go_wp2_with (first | (go_at_call 134;(with_reducible refine(CK.out _).mono ?_);rintro e w7 ⟨rfl,b7⟩;have d1:=(b7.cell (aH c1)).trans c1;have d2:=(b7.cell (aH c2)).trans c2))
      go_ret
      exact⟨aA HR.out,(BB.out.trans (b7.mono BB.out.size))⟩
   case false =>
    by_cases p0:p=0
    · subst p0
      cases gpa:pa.toList.isEmpty
      · have epa:pa.data.toList.isEmpty=false:=by rw[<- aF];exact gpa
        by_cases k9:k=9
        · subst k9
          have HR:Hid (false=aL (aJ 9 t s h false 0 pa)):=zH (by unfold aL bK aJ;simp[eh,epa])
          go_enter Tryz.func96,Tryz.ntmps96
          go_wp2
          go_ret
          exact⟨aA HR.out,BB.out⟩
        by_cases k10:k=10
        · subst k10
          have HR:Hid (false=aL (aJ 10 t s h false 0 pa)):=zH (by unfold aL bK aJ;simp[eh,epa])
          go_enter Tryz.func96,Tryz.ntmps96
          go_wp2
          go_ret
          exact⟨aA HR.out,BB.out⟩
        by_cases k11:k=11
        · subst k11
          have HR:Hid (false=aL (aJ 11 t s h false 0 pa)):=zH (by unfold aL bK aJ;simp[eh,epa])
          go_enter Tryz.func96,Tryz.ntmps96
          go_wp2
          go_ret
          exact⟨aA HR.out,BB.out⟩
        by_cases k12:k=12
        · subst k12
          have CHO:=jD 12 t s h false 0 pa ls lh;unfold aP at CHO;generalize hsh:aZ (aJ 12 t s h false 0 pa)=r at CHO;have HR:Hid (r=aL (aJ 12 t s h false 0 pa)):=zH (by rw[<- hsh];rfl)
          go_enter Tryz.func96,Tryz.ntmps96
          go_wp2_with (go_at_call 140;(with_reducible refine(CHO.out _).mono ?_);rintro e w7 ⟨rfl,b7⟩)
          go_ret
          exact⟨aA HR.out,(BB.out.trans (b7.mono BB.out.size))⟩
        have m9:(k==9)=false:=by rw[beq_eq_false_iff_ne];exact k9
        have m10:(k==10)=false:=by rw[beq_eq_false_iff_ne];exact k10
        have m11:(k==11)=false:=by rw[beq_eq_false_iff_ne];exact k11
        have m12:(k==12)=false:=by rw[beq_eq_false_iff_ne];exact k12
        cases gT:T.toList.isEmpty
        · have eT:(aN k).isEmpty=false:=by rw[<- hT,<- aF];exact gT
          have HR:Hid (false=aL (aJ k t s h false 0 pa)):=zH (by unfold aL bK aJ;simp[eh,epa,k9,k10,k11,k12,eT])
          go_enter Tryz.func96,Tryz.ntmps96
          go_wp2_with (first | (go_at_call 134;(with_reducible refine(CK.out _).mono ?_);rintro e w7 ⟨rfl,b7⟩;have d1:=(b7.cell (aH c1)).trans c1;have d2:=(b7.cell (aH c2)).trans c2))
          go_ret
          exact⟨aA HR.out,(BB.out.trans (b7.mono BB.out.size))⟩
        · have eT:(aN k).isEmpty=true:=by rw[<- hT,<- aF];exact gT
          have HR:Hid (false=aL (aJ k t s h false 0 pa)):=zH (by unfold aL bK aJ;simp[eh,epa,k9,k10,k11,k12,eT])
          go_enter Tryz.func96,Tryz.ntmps96
          go_wp2_with (first | (go_at_call 134;(with_reducible refine(CK.out _).mono ?_);rintro e w7 ⟨rfl,b7⟩;have d1:=(b7.cell (aH c1)).trans c1;have d2:=(b7.cell (aH c2)).trans c2))
          go_ret
          exact⟨aA HR.out,(BB.out.trans (b7.mono BB.out.size))⟩
      · have epa:pa.data.toList.isEmpty=true:=by rw[<- aF];exact gpa
        by_cases k9:k=9
        · subst k9
          cases gs:s.toList.isEmpty
          · have es:s.data.toList.isEmpty=false:=by rw[<- aF];exact gs
            have HR:Hid (false=aL (aJ 9 t s h false 0 pa)):=zH (by unfold aL bK aJ;simp[eh,epa,es])
            go_enter Tryz.func96,Tryz.ntmps96
            go_wp2
            go_ret
            exact⟨aA HR.out,BB.out⟩
          · have es:s.data.toList.isEmpty=true:=by rw[<- aF];exact gs
            by_cases l1:(200:Int)<(t.size:Int)
            · have l2:¬ t.size<=200:=by omega
              have HR:Hid (false=aL (aJ 9 t s h false 0 pa)):=zH (by unfold aL bK aJ;simp[eh,epa,es,l2])
              go_enter Tryz.func96,Tryz.ntmps96
              go_wp2
              go_ret
              exact⟨aA HR.out,BB.out⟩
            have l2:t.size<=200:=by omega
            cases hf:cU t.data.toList
            · rw[hf]at CF
              have HR:Hid (false=aL (aJ 9 t s h false 0 pa)):=zH (by unfold aL bK aJ;simp[eh,epa,es,l2,hf])
              go_enter Tryz.func96,Tryz.ntmps96
              go_wp2_with (first | (go_at_call 138;(with_reducible refine(CF.out _).mono ?_);rintro e w7 ⟨rfl,rfl⟩))
              go_ret
              exact⟨aA HR.out,BB.out⟩
            · rw[hf]at CF
              have HR:Hid (true=aL (aJ 9 t s h false 0 pa)):=zH (by unfold aL bK aJ;simp[eh,epa,es,l2,hf])
              go_enter Tryz.func96,Tryz.ntmps96
              go_wp2_with (first | (go_at_call 138;(with_reducible refine(CF.out _).mono ?_);rintro e w7 ⟨rfl,rfl⟩))
              go_ret
              exact⟨aA HR.out,BB.out⟩
        by_cases k10:k=10
        · subst k10
          cases gs:s.toList.isEmpty
          · have es:s.data.toList.isEmpty=false:=by rw[<- aF];exact gs
            have HR:Hid (false=aL (aJ 10 t s h false 0 pa)):=zH (by unfold aL bK aJ;simp[eh,epa,es])
            go_enter Tryz.func96,Tryz.ntmps96
            go_wp2
            go_ret
            exact⟨aA HR.out,BB.out⟩
          · have es:s.data.toList.isEmpty=true:=by rw[<- aF];exact gs
            have l0:((t.size:Int)==16)=decide (t.size=16):=by rw[Bool.eq_iff_iff];simp;omega
            by_cases l1:t.size=16
            · rw[decide_eq_true l1]at l0
              have HR:Hid (true=aL (aJ 10 t s h false 0 pa)):=zH (by unfold aL bK aJ;simp[eh,epa,es,l1])
              go_enter Tryz.func96,Tryz.ntmps96
              go_wp2
              go_ret
              exact⟨aA HR.out,BB.out⟩
            · rw[decide_eq_false l1]at l0
              have HR:Hid (false=aL (aJ 10 t s h false 0 pa)):=zH (by unfold aL bK aJ;simp[eh,epa,es,l1])
              go_enter Tryz.func96,Tryz.ntmps96
              go_wp2
              go_ret
              exact⟨aA HR.out,BB.out⟩
        by_cases k11:k=11
        · subst k11
          cases gt:t.toList.isEmpty
          · have et:t.data.toList.isEmpty=false:=by rw[<- aF];exact gt
            have HR:Hid (false=aL (aJ 11 t s h false 0 pa)):=zH (by unfold aL bK aJ;simp[eh,epa,et])
            go_enter Tryz.func96,Tryz.ntmps96
            go_wp2
            go_ret
            exact⟨aA HR.out,BB.out⟩
          · have et:t.data.toList.isEmpty=true:=by rw[<- aF];exact gt
            cases hs:dR s.data.toList
            · rw[hs]at CS
              have HR:Hid (false=aL (aJ 11 t s h false 0 pa)):=zH (by unfold aL bK aJ;simp[eh,epa,et,hs])
              go_enter Tryz.func96,Tryz.ntmps96
              go_wp2_with (first | (go_at_call 139;(with_reducible refine(CS.out _).mono ?_);rintro e w7 ⟨rfl,rfl⟩))
              go_ret
              exact⟨aA HR.out,BB.out⟩
            · rw[hs]at CS
              have HR:Hid (true=aL (aJ 11 t s h false 0 pa)):=zH (by unfold aL bK aJ;simp[eh,epa,et,hs])
              go_enter Tryz.func96,Tryz.ntmps96
              go_wp2_with (first | (go_at_call 139;(with_reducible refine(CS.out _).mono ?_);rintro e w7 ⟨rfl,rfl⟩))
              go_ret
              exact⟨aA HR.out,BB.out⟩
        by_cases k12:k=12
        · subst k12
          have CHO:=jD 12 t s h false 0 pa ls lh;unfold aP at CHO;generalize hsh:aZ (aJ 12 t s h false 0 pa)=r at CHO;have HR:Hid (r=aL (aJ 12 t s h false 0 pa)):=zH (by rw[<- hsh];rfl)
          go_enter Tryz.func96,Tryz.ntmps96
          go_wp2_with (go_at_call 140;(with_reducible refine(CHO.out _).mono ?_);rintro e w7 ⟨rfl,b7⟩)
          go_ret
          exact⟨aA HR.out,(BB.out.trans (b7.mono BB.out.size))⟩
        have m9:(k==9)=false:=by rw[beq_eq_false_iff_ne];exact k9
        have m10:(k==10)=false:=by rw[beq_eq_false_iff_ne];exact k10
        have m11:(k==11)=false:=by rw[beq_eq_false_iff_ne];exact k11
        have m12:(k==12)=false:=by rw[beq_eq_false_iff_ne];exact k12
        cases gT:T.toList.isEmpty
        · have eT:(aN k).isEmpty=false:=by rw[<- hT,<- aF];exact gT
          cases gs:s.toList.isEmpty
          · have es:s.data.toList.isEmpty=false:=by rw[<- aF];exact gs
            have HR:Hid (false=aL (aJ k t s h false 0 pa)):=zH (by unfold aL bK aJ;simp[eh,epa,k9,k10,k11,k12,eT,es])
            go_enter Tryz.func96,Tryz.ntmps96
            go_wp2_with (first | (go_at_call 134;(with_reducible refine(CK.out _).mono ?_);rintro e w7 ⟨rfl,b7⟩;have d1:=(b7.cell (aH c1)).trans c1;have d2:=(b7.cell (aH c2)).trans c2))
            go_ret
            exact⟨aA HR.out,(BB.out.trans (b7.mono BB.out.size))⟩
          · have es:s.data.toList.isEmpty=true:=by rw[<- aF];exact gs
            cases gt:t.toList.isEmpty
            · have et:t.data.toList.isEmpty=false:=by rw[<- aF];exact gt
              have HR:Hid (false=aL (aJ k t s h false 0 pa)):=zH (by unfold aL bK aJ;simp[eh,epa,k9,k10,k11,k12,eT,es,et])
              go_enter Tryz.func96,Tryz.ntmps96
              go_wp2_with (first | (go_at_call 134;(with_reducible refine(CK.out _).mono ?_);rintro e w7 ⟨rfl,b7⟩;have d1:=(b7.cell (aH c1)).trans c1;have d2:=(b7.cell (aH c2)).trans c2))
              go_ret
              exact⟨aA HR.out,(BB.out.trans (b7.mono BB.out.size))⟩
            · have et:t.data.toList.isEmpty=true:=by rw[<- aF];exact gt
              have HR:Hid (true=aL (aJ k t s h false 0 pa)):=zH (by unfold aL bK aJ;simp[eh,epa,k9,k10,k11,k12,eT,es,et])
              go_enter Tryz.func96,Tryz.ntmps96
              go_wp2_with (first | (go_at_call 134;(with_reducible refine(CK.out _).mono ?_);rintro e w7 ⟨rfl,b7⟩;have d1:=(b7.cell (aH c1)).trans c1;have d2:=(b7.cell (aH c2)).trans c2))
              go_ret
              exact⟨aA HR.out,(BB.out.trans (b7.mono BB.out.size))⟩
        · have eT:(aN k).isEmpty=true:=by rw[<- hT,<- aF];exact gT
          have HR:Hid (false=aL (aJ k t s h false 0 pa)):=zH (by unfold aL bK aJ;simp[eh,epa,k9,k10,k11,k12,eT])
          go_enter Tryz.func96,Tryz.ntmps96
          go_wp2_with (first | (go_at_call 134;(with_reducible refine(CK.out _).mono ?_);rintro e w7 ⟨rfl,b7⟩;have d1:=(b7.cell (aH c1)).trans c1;have d2:=(b7.cell (aH c2)).trans c2))
          go_ret
          exact⟨aA HR.out,(BB.out.trans (b7.mono BB.out.size))⟩
    · have q0:(p==0)=false:=by rw[beq_eq_false_iff_ne];exact p0
      by_cases k9:k=9
      · subst k9
        have HR:Hid (false=aL (aJ 9 t s h false p pa)):=zH (by unfold aL bK aJ;simp[eh,p0])
        go_enter Tryz.func96,Tryz.ntmps96
        go_wp2
        go_ret
        exact⟨aA HR.out,BB.out⟩
      by_cases k10:k=10
      · subst k10
        have HR:Hid (false=aL (aJ 10 t s h false p pa)):=zH (by unfold aL bK aJ;simp[eh,p0])
        go_enter Tryz.func96,Tryz.ntmps96
        go_wp2
        go_ret
        exact⟨aA HR.out,BB.out⟩
      by_cases k11:k=11
      · subst k11
        have HR:Hid (false=aL (aJ 11 t s h false p pa)):=zH (by unfold aL bK aJ;simp[eh,p0])
        go_enter Tryz.func96,Tryz.ntmps96
        go_wp2
        go_ret
        exact⟨aA HR.out,BB.out⟩
      by_cases k12:k=12
      · subst k12
        have CHO:=jD 12 t s h false p pa ls lh;unfold aP at CHO;generalize hsh:aZ (aJ 12 t s h false p pa)=r at CHO;have HR:Hid (r=aL (aJ 12 t s h false p pa)):=zH (by rw[<- hsh];rfl)
        go_enter Tryz.func96,Tryz.ntmps96
        go_wp2_with (go_at_call 140;(with_reducible refine(CHO.out _).mono ?_);rintro e w7 ⟨rfl,b7⟩)
        go_ret
        exact⟨aA HR.out,(BB.out.trans (b7.mono BB.out.size))⟩
      have m9:(k==9)=false:=by rw[beq_eq_false_iff_ne];exact k9
      have m10:(k==10)=false:=by rw[beq_eq_false_iff_ne];exact k10
      have m11:(k==11)=false:=by rw[beq_eq_false_iff_ne];exact k11
      have m12:(k==12)=false:=by rw[beq_eq_false_iff_ne];exact k12
      cases gT:T.toList.isEmpty
      · have eT:(aN k).isEmpty=false:=by rw[<- hT,<- aF];exact gT
        have HR:Hid (false=aL (aJ k t s h false p pa)):=zH (by unfold aL bK aJ;simp[eh,p0,k9,k10,k11,k12,eT])
        go_enter Tryz.func96,Tryz.ntmps96
        go_wp2_with (first | (go_at_call 134;(with_reducible refine(CK.out _).mono ?_);rintro e w7 ⟨rfl,b7⟩;have d1:=(b7.cell (aH c1)).trans c1;have d2:=(b7.cell (aH c2)).trans c2))
        go_ret
        exact⟨aA HR.out,(BB.out.trans (b7.mono BB.out.size))⟩
      · have eT:(aN k).isEmpty=true:=by rw[<- hT,<- aF];exact gT
        have HR:Hid (false=aL (aJ k t s h false p pa)):=zH (by unfold aL bK aJ;simp[eh,p0,k9,k10,k11,k12,eT])
        go_enter Tryz.func96,Tryz.ntmps96
        go_wp2_with (first | (go_at_call 134;(with_reducible refine(CK.out _).mono ?_);rintro e w7 ⟨rfl,b7⟩;have d1:=(b7.cell (aH c1)).trans c1;have d2:=(b7.cell (aH c2)).trans c2))
        go_ret
        exact⟨aA HR.out,(BB.out.trans (b7.mono BB.out.size))⟩
end Go.Proofs.YthnogdodlhkldaaGreatDoor
