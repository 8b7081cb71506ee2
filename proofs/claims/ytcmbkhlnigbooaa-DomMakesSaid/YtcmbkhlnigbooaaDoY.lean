/- The document's own: is a node there; is it another one, or below it; is it in; the place of an attribute; its value. The document's own: the place of an attribute; its value. -/
import Derived.Test.YtcmbkhlnigbooaaDoH
namespace Go.Proofs.Ytcmbkhlnigbooaa.Dm
open Go.RowKit

def thereM (D : List Nd) (n : Int) : Bool := decide (0 ≤ n) && decide (n < (D.length : Int)) && decide (checkM D = 0)
theorem there_right {D : List Nd} {n : Int} (h : thereM D n = true) : Right D ∧ ∃ i : Nat, n = i ∧ i < D.length := by
  unfold thereM at h
  simp only [Bool.and_eq_true, decide_eq_true_eq] at h
  exact ⟨check_right.1 h.2, n.toNat, by omega, by omega⟩
set_option maxRecDepth 100000 in
set_option maxHeartbeats 4000000 in
theorem there_hid (D : List Nd) (hf : FitD D) (n : Int) : Hid (∀ W sl A K, DocIn W sl D A K → Calls Try.prog 41 #[.agg #[sl], .int .i64 n] W fun e w' => e = .returned (.bool (thereM D n)) ∧ Below W.heap.size W w') := Lib.hid fun w sl A K hd => by
  obtain ⟨a, c, rfl⟩ := hd.form
  obtain ⟨d1, b1, l1⟩ := docBox w hd
  have hfl := hf.1
  have CK := check_hid D hf
  generalize hw1 : w.alloc (.cells #[.slice a D.length c] 24) = w1 at d1 b1 l1
  have e0 := cell_of b1 0
  have H1 := Lib.hid (And.intro d1 l1)
  clear hd d1 b1 l1 hf
  unfold thereM
  by_cases h1 : n < 0
  · rw [decide_eq_false (show ¬ 0 ≤ n by omega)]
    simp only [Bool.false_and]
    have z1 : ¬ 0 ≤ n := by omega
    go_enter Try.func41, Try.ntmps41
    go_wp2
    go_ret
    exact ⟨rfl, H1.out.2⟩
  have z1 : 0 ≤ n := by omega
  rw [decide_eq_true z1]
  by_cases h2 : n < (D.length : Int)
  · rw [decide_eq_true h2]
    simp only [Bool.true_and]
    go_enter Try.func41, Try.ntmps41
    go_wp2_with fail
    (refine (CK.out _ _ _ _ H1.out.1).mono ?_)
    rintro e w2 ⟨rfl, b2⟩
    have H2 := Lib.hid (H1.out.2.trans (b2.mono H1.out.2.size))
    clear b2 hw1 CK
    by_cases hc : checkM D = 0
    · rw [hc]
      go_wp2
      go_ret
      exact ⟨by rw [decide_eq_true hc]; rfl, H2.out⟩
    · have z3 : (checkM D == 0) = false := by rw [beq_eq_false_iff_ne]; exact hc
      go_wp2
      go_ret
      exact ⟨by rw [decide_eq_false hc]; rfl, H2.out⟩
  · rw [decide_eq_false h2]
    simp only [Bool.false_and, Bool.and_false]
    go_enter Try.func41, Try.ntmps41
    go_wp2
    go_ret
    exact ⟨rfl, H1.out.2⟩

open Classical in
/-- How far a node is from the one that stands nowhere; 0: it is none. -/
noncomputable def depN (D : List Nd) (n : Int) : Nat := if h : ∃ k, 0 ≤ n ∧ DepP D k n.toNat then Classical.choose h + 1 else 0
theorem depN_eq {D : List Nd} {k i : Nat} (h : DepP D k i) : depN D (i : Int) = k + 1 := by
  have hx : ∃ k, 0 ≤ (i : Int) ∧ DepP D k (i : Int).toNat := ⟨k, by omega, by rw [Int.toNat_natCast]; exact h⟩
  unfold depN
  rw [dif_pos hx]
  have h' : DepP D k (i : Int).toNat := by rw [Int.toNat_natCast]; exact h
  rw [DepP.eq (Classical.choose_spec hx).2 h']
theorem depN_neg (D : List Nd) : depN D (-1) = 0 := by
  unfold depN
  rw [dif_neg]
  rintro ⟨k, h, _⟩
  omega
theorem depN_up {D : List Nd} (R : Right D) {i : Nat} (hi : i < D.length) : depN D (par D i) < depN D (i : Int) := by
  obtain ⟨k, hk⟩ := R.dep i hi
  rw [depN_eq hk]
  cases k with
  | zero => rw [hk.2, depN_neg]; omega
  | succ k =>
    obtain ⟨_, q, hq, hd⟩ := hk
    rw [hq, depN_eq hd]
    omega

set_option maxRecDepth 100000 in
set_option maxHeartbeats 8000000 in
theorem under_hid (D : List Nd) (R : Right D) (t top : Nat) (ht : t < D.length) : Hid (∀ W sl A K, DocIn W sl D A K → Calls Try.prog 54 #[.agg #[sl], .int .i64 (t : Int), .int .i64 (top : Int)] W fun e w' => e = .returned (.bool (upM D top t)) ∧ Below W.heap.size W w') := Lib.hid fun w sl A K hd => by
  obtain ⟨a, c, rfl⟩ := hd.form
  obtain ⟨d1, b1, l1⟩ := docBox w hd
  have hfl := R.len
  generalize hw1 : w.alloc (.cells #[.slice a D.length c] 24) = w1 at d1 b1 l1
  have e0 := cell_of b1 0
  have H1 := Lib.hid (And.intro d1 l1)
  have HR := Lib.hid R
  clear hd d1 b1 l1 R
  go_enter Try.func54, Try.ntmps54
  go_wp2
  clear hw1
  generalize w.heap.size = Rb at e0 ⊢
  go_loopw [1] (fun i wr => ∃ y : Int, i = .int .i64 y ∧ Hid ((y = -1 ∧ upM D top t = false) ∨ ∃ s : Nat, y = s ∧ s < D.length ∧ upM D top t = upM D top s) ∧ wr = w1) (fun i _ => depN D (intOf i))
  case atStart => exact ⟨(t : Int), rfl, Lib.hid (.inr ⟨t, rfl, ht, rfl⟩), rfl⟩
  case round =>
    obtain ⟨y, rfl, HY, rfl⟩ := hrel
    rcases HY.out with ⟨h1, h2⟩ | ⟨s, h1, h2, h3⟩
    · subst h1
      have HE := Lib.hid h2
      have z2 : ((-1 : Int) == (top : Int)) = false := by rw [beq_eq_false_iff_ne]; omega
      clear h2 HY
      go_wp2
      go_ret
      exact ⟨by rw [HE.out]; rfl, H1.out.2⟩
    · subst h1
      have zs0 : (0 : Int) ≤ (s : Int) := by omega
      have zs : (s : Int) < (D.length : Int) := by omega
      have HS := Lib.hid (And.intro h2 h3)
      clear h3 HY
      by_cases he : s = top
      · subst he
        have HE : Hid (upM D s t = true) := Lib.hid (by rw [HS.out.2]; exact upM_self D s)
        have z1 : ((s : Int) != (s : Int)) = false := by simp
        clear h2
        go_wp2
        go_ret
        exact ⟨by rw [HE.out]; rfl, H1.out.2⟩
      · have z1 : ((s : Int) != (top : Int)) = true := by rw [bne_iff_ne]; omega
        obtain ⟨B, off, rfl, c0, c1, c2, c3, c4, c5, c6, c7⟩ := H1.out.1.node h2
        have hu := upM_eq HR.out (t := top) h2
        rw [decide_eq_false he, Bool.false_or] at hu
        have hdep := depN_up HR.out h2
        have hpn := HR.out.neg h2
        rw [par_at h2] at hu hdep hpn
        obtain ⟨z, hz⟩ : ∃ z, D[s].p = z := ⟨_, rfl⟩
        rw [hz] at c4 hu hdep hpn
        have HNX : Hid ((z = -1 ∧ upM D top t = false) ∨ ∃ q : Nat, z = q ∧ q < D.length ∧ upM D top t = upM D top q) := Lib.hid (by
          rcases hpn with h | ⟨q, h, hq⟩
          · subst h
            exact .inl ⟨rfl, by rw [HS.out.2, hu]; rfl⟩
          · subst h
            exact .inr ⟨q, rfl, hq, by rw [HS.out.2, hu, decide_eq_true (by omega), Bool.true_and, Int.toNat_natCast]⟩)
        have HD := Lib.hid hdep
        clear c0 c1 c2 c3 c5 c6 c7 hu hdep hpn hz he h2
        go_wp2
        go_roundw
        case rel => exact ⟨z, rfl, HNX, trivial⟩
        case measure => exact HD.out
set_option maxRecDepth 100000 in
set_option maxHeartbeats 4000000 in
theorem in_hid (D : List Nd) (hf : FitD D) (n : Int) : Hid (∀ W sl A K, DocIn W sl D A K → Calls Try.prog 24 #[.agg #[sl], .int .i64 n] W fun e w' => e = .returned (.bool (thereM D n && upM D 0 n.toNat)) ∧ Below W.heap.size W w') := Lib.hid fun w sl A K hd => by
  obtain ⟨a, c, rfl⟩ := hd.form
  obtain ⟨d1, b1, l1⟩ := docBox w hd
  have CT := there_hid D hf n
  generalize hw1 : w.alloc (.cells #[.slice a D.length c] 24) = w1 at d1 b1 l1
  have e0 := cell_of b1 0
  have H1 := Lib.hid (And.intro d1 (And.intro b1 l1))
  clear hd d1 b1 l1 hf
  cases ht : thereM D n with
  | false =>
    rw [ht] at CT
    rw [Bool.false_and]
    go_enter Try.func24, Try.ntmps24
    go_wp2_with fail
    (refine (CT.out _ _ _ _ H1.out.1).mono ?_)
    rintro e w2 ⟨rfl, b2⟩
    have H2 := Lib.hid (H1.out.2.2.trans (b2.mono H1.out.2.2.size))
    clear b2 hw1 CT
    go_wp2
    go_ret
    exact ⟨rfl, H2.out⟩
  | true =>
    rw [ht] at CT
    obtain ⟨R, i, rfl, hi⟩ := there_right ht
    rw [Bool.true_and, Int.toNat_natCast]
    have CU := under_hid D R i 0 hi
    clear ht R
    go_enter Try.func24, Try.ntmps24
    go_wp2_with fail
    (refine (CT.out _ _ _ _ H1.out.1).mono ?_)
    rintro e w2 ⟨rfl, b2⟩
    obtain ⟨d2, bx2⟩ := H1.out.1.boxed H1.out.2.1 b2
    have e0 := cell_of bx2 0
    have H2 := Lib.hid (And.intro d2 (H1.out.2.2.trans (b2.mono H1.out.2.2.size)))
    clear b2 hw1 CT d2 bx2 H1
    go_wp2_with fail
    (refine (CU.out _ _ _ _ H2.out.1).mono ?_)
    rintro e w3 ⟨rfl, b3⟩
    have H3 := Lib.hid (H2.out.2.trans (b3.mono H2.out.2.size))
    clear b3 H2 CU
    go_wp2
    go_ret
    exact ⟨rfl, H3.out⟩

end Go.Proofs.Ytcmbkhlnigbooaa.Dm

namespace Go.Proofs.Ytcmbkhlnigbooaa.Dm
open Go.RowKit

/-- The place of the first attribute of this name; none: how many there are. -/
def atM (name : List UInt8) (A : List (List UInt8 × List UInt8)) : Nat := A.findIdx fun y => decide (y.1 = name)
def findI (name : List UInt8) (A : List (List UInt8 × List UInt8)) : Int := if atM name A < A.length then (atM name A : Int) else -1
theorem atM_here {name : List UInt8} {A : List (List UInt8 × List UInt8)} {u : Nat} (h : u < A.length) (hn : ∀ j (hj : j < A.length), j < u → A[j].1 ≠ name) (he : A[u].1 = name) : atM name A = u := by
  unfold atM
  rw [List.findIdx_eq h]
  refine ⟨decide_eq_true he, fun j hj => ?_⟩
  exact decide_eq_false (hn j (by omega) hj)
theorem atM_none {name : List UInt8} {A : List (List UInt8 × List UInt8)} (hn : ∀ j (hj : j < A.length), A[j].1 ≠ name) : atM name A = A.length := by
  unfold atM
  rw [List.findIdx_eq_length]
  intro y hy
  obtain ⟨j, hj, rfl⟩ := List.getElem_of_mem hy
  exact decide_eq_false (hn j hj)
theorem atM_cons (name : List UInt8) (y : List UInt8 × List UInt8) (A : List (List UInt8 × List UInt8)) : atM name (y :: A) = if y.1 = name then 0 else atM name A + 1 := by
  unfold atM
  rw [List.findIdx_cons]
  by_cases h : y.1 = name
  · rw [if_pos h, decide_eq_true h]; rfl
  · rw [if_neg h, decide_eq_false h]; rfl
theorem findA_at (name : List UInt8) : ∀ (A : List (List UInt8 × List UInt8)), findA name A = (A[atM name A]?).map (·.2)
  | [] => rfl
  | (k, v) :: r => by
    rw [atM_cons]
    unfold findA
    by_cases h : k = name
    · rw [if_pos h, if_pos h]; rfl
    · rw [if_neg h, if_neg h, findA_at name r]; rfl
theorem setA_at (name v : List UInt8) : ∀ (A : List (List UInt8 × List UInt8)), setA name v A = if h : atM name A < A.length then A.set (atM name A) (A[atM name A].1, v) else A ++ [(name, v)]
  | [] => rfl
  | (k, u) :: r => by
    have ih := setA_at name v r
    unfold setA
    by_cases h : k = name
    · have e : atM name ((k, u) :: r) = 0 := by rw [atM_cons, if_pos h]
      rw [if_pos h, dif_pos (by rw [e]; simp)]
      simp [e]
    · have e : atM name ((k, u) :: r) = atM name r + 1 := by rw [atM_cons, if_neg h]
      rw [if_neg h, ih]
      by_cases hl : atM name r < r.length
      · rw [dif_pos hl, dif_pos (by rw [e]; simpa using hl)]
        simp [e]
      · rw [dif_neg hl, dif_neg (by rw [e]; simpa using hl)]
        rfl

set_option maxRecDepth 100000 in
set_option maxHeartbeats 4000000 in
theorem find_hid (x : Nd) (name : ByteArray) (hl : x.a.length ≤ 1000) : Hid (∀ W av kv, AtIn W av x.a → Calls Try.prog 42 #[nodeV x av kv, .string name] W fun e w' => e = .returned (.int .i64 (findI name.data.toList x.a)) ∧ Below W.heap.size W w') := Lib.hid fun w av kv ha => by
  obtain ⟨a, c, rfl⟩ := ha.form
  obtain ⟨N, hN⟩ := text_of x.n
  obtain ⟨T, hT⟩ := text_of x.d
  unfold nodeV
  rw [strV_of hN, strV_of hT]
  generalize x.k = k
  generalize x.p = p
  generalize x.b = b
  generalize x.s = s
  generalize hA : x.a = A at ha hl ⊢
  clear hA hN hT
  have al := (Below.refl w.heap.size w).alloc (Nat.le_refl _) (.cells #[.int .i64 k, .string N, .string T, .slice a A.length c, .int .i64 p, kv, .bool b, .bool s] 42)
  have hbx := new_block w (.cells #[.int .i64 k, .string N, .string T, .slice a A.length c, .int .i64 p, kv, .bool b, .bool s] 42)
  generalize hw1 : w.alloc (.cells #[.int .i64 k, .string N, .string T, .slice a A.length c, .int .i64 p, kv, .bool b, .bool s] 42) = w1 at al hbx
  have e3 := cell_of hbx 3
  have HA := Lib.hid (ha.below al)
  have H1 := Lib.hid al
  clear al hbx ha
  go_enter Try.func42, Try.ntmps42
  go_wp2
  clear hw1
  generalize w.heap.size = R at e3 ⊢
  go_loopw [5] (fun i wr => ∃ u : Nat, i = .int .i64 u ∧ u ≤ A.length ∧ Hid (∀ j (hj : j < A.length), j < u → A[j].1 ≠ name.data.toList) ∧ wr = w1) (fun i _ => A.length - (intOf i).toNat)
  case atStart => exact ⟨0, rfl, Nat.zero_le _, Lib.hid (fun j _ h => absurd h (Nat.not_lt_zero _)), rfl⟩
  case round =>
    obtain ⟨u, rfl, hu, HV, rfl⟩ := hrel
    by_cases hlt : u < A.length
    · obtain ⟨B, off, rfl, c0, -⟩ := HA.out.at hlt
      obtain ⟨X, hX⟩ := text_of A[u].1
      rw [strV_of hX] at c0
      have zu : (u : Int) < (A.length : Int) := by omega
      by_cases he : X = name
      · have HE : Hid (findI name.data.toList A = (u : Int)) := Lib.hid (by unfold findI; rw [atM_here hlt HV.out (by rw [← hX, he]), if_pos hlt])
        subst he
        have ze : (X.toList == X.toList) = true := by simp
        clear hX
        go_wp2
        go_ret
        exact ⟨by rw [HE.out]; rfl, H1.out⟩
      · have ze : (X.toList == name.toList) = false := by
          rw [text_lit]
          exact decide_eq_false fun h => he (text_ext (h.trans (ByteArray.toList_eq name)))
        have HV2 : Hid (∀ j (hj : j < A.length), j < u + 1 → A[j].1 ≠ name.data.toList) := Lib.hid fun j hj hju => by
          by_cases e : j = u
          · subst e
            rw [← hX]
            exact fun h => he (text_ext h)
          · exact HV.out j hj (by omega)
        clear he hX HV
        go_wp2
        go_roundw
        case rel => exact ⟨u + 1, by go_num, by omega, HV2, trivial⟩
        case measure => simp [intOf]; omega
    · obtain rfl : u = A.length := by omega
      have HE : Hid (findI name.data.toList A = -1) := Lib.hid (by unfold findI; rw [if_neg]; rw [atM_none fun j hj => HV.out j hj hj]; omega)
      go_wp2
      go_ret
      exact ⟨by rw [HE.out]; rfl, H1.out⟩

def attrM (D : List Nd) (n : Int) (name : List UInt8) : Option (List UInt8) := if thereM D n = true then (D[n.toNat]?).bind fun x => findA name x.a else none
def attrV : Option (List UInt8) → Value
  | some v => .tuple #[strV v, .bool true]
  | none => .tuple #[.string ⟨#[]⟩, .bool false]
set_option maxRecDepth 100000 in
set_option maxHeartbeats 8000000 in
theorem attr_hid (D : List Nd) (hf : FitD D) (n : Int) (name : ByteArray) : Hid (∀ W sl A K, DocIn W sl D A K → Calls Try.prog 14 #[.agg #[sl], .int .i64 n, .string name] W fun e w' => e = .returned (attrV (attrM D n name.data.toList)) ∧ Below W.heap.size W w') := Lib.hid fun w sl A K hd => by
  obtain ⟨a, c, rfl⟩ := hd.form
  obtain ⟨d1, b1, l1⟩ := docBox w hd
  have CT := there_hid D hf n
  have hfl := hf.1
  generalize hw1 : w.alloc (.cells #[.slice a D.length c] 24) = w1 at d1 b1 l1
  obtain ⟨R, hR⟩ : ∃ R, w.heap.size = R := ⟨_, rfl⟩
  have e0 := cell_of b1 0
  have b1' := b1
  rw [hR] at b1' e0
  have H1 := Lib.hid (And.intro d1 (And.intro b1' l1))
  have HF := Lib.hid hf
  clear hd d1 b1 l1 hf b1'
  cases ht : thereM D n with
  | false =>
    have HE : Hid (attrM D n name.data.toList = none) := Lib.hid (by unfold attrM; rw [ht]; rfl)
    rw [ht] at CT
    go_enter Try.func14, Try.ntmps14
    go_wp2_with fail
    (refine (CT.out _ _ _ _ H1.out.1).mono ?_)
    rintro e w2 ⟨rfl, b2⟩
    have H2 := Lib.hid (H1.out.2.2.trans (b2.mono H1.out.2.2.size))
    clear b2 hw1 CT
    go_wp2
    go_ret2
    exact ⟨by rw [HE.out]; rfl, H2.out⟩
  | true =>
    rw [ht] at CT
    obtain ⟨-, i, rfl, hi⟩ := there_right ht
    have hE : attrM D (i : Int) name.data.toList = findA name.data.toList D[i].a := by
      unfold attrM
      rw [if_pos ht, Int.toNat_natCast, List.getElem?_eq_getElem hi]
      rfl
    rw [findA_at] at hE
    have CI := find_hid D[i] name (HF.out.2 _ (List.getElem_mem hi)).2.2.1
    have zi : (i : Int) < (D.length : Int) := by omega
    clear ht
    go_enter Try.func14, Try.ntmps14
    go_wp2_with fail
    (refine (CT.out _ _ _ _ H1.out.1).mono ?_)
    rintro e w2 ⟨rfl, b2⟩
    obtain ⟨d2, bx2⟩ := H1.out.1.boxed H1.out.2.1 b2
    have e0 := cell_of bx2 0
    obtain ⟨B, off, rfl, c0, c1, c2, c3, c4, c5, c6, c7⟩ := d2.node hi
    have hat := d2.at' i hi
    obtain ⟨N, hN⟩ := text_of D[i].n
    obtain ⟨T, hT⟩ := text_of D[i].d
    unfold nodeV at CI
    rw [strV_of hN, strV_of hT] at CI
    rw [strV_of hN] at c1
    rw [strV_of hT] at c2
    generalize hxk : D[i].k = xk at c0
    generalize hxp : D[i].p = xp at c4
    generalize hxb : D[i].b = xb at c6
    generalize hxs : D[i].s = xs at c7
    rw [hxk, hxp, hxb, hxs] at CI
    obtain ⟨C, hC⟩ : ∃ C, D[i].a = C := ⟨_, rfl⟩
    rw [hC] at hE hat CI
    obtain ⟨aa, ac, ha⟩ := hat.form
    rw [ha] at c3 hat
    have H2 := Lib.hid (And.intro hat (And.intro bx2 (H1.out.2.2.trans (b2.mono H1.out.2.2.size))))
    have HE := Lib.hid hE
    have HI : Hid (findI name.data.toList C = if atM name.data.toList C < C.length then (atM name.data.toList C : Int) else -1) := Lib.hid rfl
    clear b2 hw1 CT d2 bx2 H1 hxk hxp hxb hxs hN hT hat hE hC ha
    go_wp2_with fail
    (refine (CI.out _ _ _ H2.out.1).mono ?_)
    rintro e w3 ⟨rfl, b3⟩
    have e0 := cell_of ((b3.block _ (lt_of_block H2.out.2.1)).trans H2.out.2.1) 0
    have c3 := (b3.cell (lt_of_cell c3)).trans c3
    have H3 := Lib.hid (And.intro (H2.out.1.below b3) (H2.out.2.2.trans (b3.mono H2.out.2.2.size)))
    clear b3 H2 CI c0 c1 c2 c4 c5 c6 c7
    rw [HI.out]
    by_cases hlt : atM name.data.toList C < C.length
    · rw [if_pos hlt]
      obtain ⟨B2, off2, rfl, -, v0⟩ := H3.out.1.at hlt
      have HV : Hid (attrM D (i : Int) name.data.toList = some C[atM name.data.toList C].2) := Lib.hid (by rw [HE.out, List.getElem?_eq_getElem hlt]; rfl)
      obtain ⟨V, hV⟩ := text_of C[atM name.data.toList C].2
      rw [strV_of hV] at v0
      have HV2 := Lib.hid hV
      generalize hq : atM name.data.toList C = q at *
      have zq : ¬ (q : Int) < 0 := by omega
      have zq2 : (q : Int) < (C.length : Int) := by omega
      clear hq hV HI HE
      go_wp2
      go_ret2
      exact ⟨by rw [HV.out, show attrV (some C[q].2) = .tuple #[strV C[q].2, .bool true] from rfl, strV_of HV2.out]; rfl, H3.out.2⟩
    · rw [if_neg hlt]
      have HV : Hid (attrM D (i : Int) name.data.toList = none) := Lib.hid (by rw [HE.out, List.getElem?_eq_none (by omega)]; rfl)
      clear hlt
      go_wp2
      go_ret2
      exact ⟨by rw [HV.out]; rfl, H3.out.2⟩

end Go.Proofs.Ytcmbkhlnigbooaa.Dm
