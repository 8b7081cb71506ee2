/- What the two tops over chain ask first. -/
import Derived.Test.YthnogdodlhkldaaGreatDoorChH
import Derived.Test.YthnogdodlhkldaaGreatDoorPureD
namespace Go.Proofs.YthnogdodlhkldaaGreatDoor
open Go.RowKit


set_option maxRecDepth 100000 in
set_option maxHeartbeats 4000000 in
theorem long_any (ts : List (List UInt8)) (v : Value) (hl : ts.length ≤ 1000000) (w : World) (ht : TextsIn w v ts) : Calls Tryz.prog 29 #[v] w fun e w' => ∃ b, e = .returned (.bool b) ∧ w' = w ∧ (b = false → ∀ j, (h : j < ts.length) → ts[j].length ≤ 1500) := by
  obtain ⟨a, c, rfl⟩ := ht.form
  have HT := Lib.hid ht
  clear ht
  go_enter Tryz.func29, Tryz.ntmps29
  go_wp2
  go_loopw [3] (fun i wr => ∃ k : Nat, k ≤ ts.length ∧ i = .int .i64 k ∧ wr = w ∧ Hid (∀ j, (h : j < ts.length) → j < k → ts[j].length ≤ 1500)) (fun i _ => ts.length - (intOf i).toNat)
  case atStart => exact ⟨0, Nat.zero_le _, (by first | rfl | trivial), (by first | rfl | trivial), Lib.hid fun j _ h => absurd h (Nat.not_lt_zero _)⟩
  case round =>
    obtain ⟨k, hk, rfl, rfl, HS⟩ := hrel
    by_cases hlt : k < ts.length
    · obtain ⟨B, off, rfl, kc⟩ := HT.out.at hlt
      have HN : Hid (ts[k].length ≤ 1500 → ∀ j, (h : j < ts.length) → j < k + 1 → ts[j].length ≤ 1500) := Lib.hid fun h j hj hjk => by
        by_cases e : j = k
        · subst e; exact h
        · exact HS.out j hj (by omega)
      have hlen : (⟨ts[k].toArray⟩ : ByteArray).size = ts[k].length := by rw [← lsize]
      unfold strV at kc
      generalize ts[k].length = m at HN hlen
      generalize (⟨ts[k].toArray⟩ : ByteArray) = X at kc hlen
      by_cases hz : (1500 : Int) < (X.size : Int)
      · clear HS HN
        go_wp2
        go_ret
        exact ⟨true, rfl, rfl, fun h => by cases h⟩
      · have HM := Lib.hid (HN.out (by omega))
        clear HS HN
        go_wp2
        go_roundw
        case rel => exact ⟨k + 1, by omega, by go_num, (by first | rfl | trivial), HM⟩
        case measure => simp [intOf]; omega
    · obtain rfl : k = ts.length := by omega
      have HM : Hid (∀ j, (h : j < ts.length) → ts[j].length ≤ 1500) := Lib.hid fun j h => HS.out j h h
      clear HS
      go_wp2
      go_ret
      exact ⟨false, rfl, rfl, fun _ => HM.out⟩

set_option maxRecDepth 100000 in
set_option maxHeartbeats 8000000 in
theorem topSays_any (T : ByteArray) (hT : T.size ≤ 100000) (ps : List (List D × Bool)) (hps : polsM false T.data.toList = ps) (hl : ps.length ≤ 1000) (hf : ∀ p ∈ ps, FitD p.1) (rk : Int) (rt : ByteArray) (o : Bool) (s2 h2 : ByteArray) (p : Int) (pa2 q2 : ByteArray) (mv : Bool) (rn : ByteArray) (pr : Bool) (o3 : Bool) (s3 h3 : ByteArray) (p3 : Int) (pa3 q3 : ByteArray) (zt : rt.size ≤ 100000) (su1 : s2.size ≤ 100000) (su2 : h2.size ≤ 100000) (su3 : pa2.size ≤ 100000) (su4 : q2.size ≤ 100000) (sv1 : s3.size ≤ 100000) (sv2 : h3.size ≤ 100000) (sv3 : pa3.size ≤ 100000) (sv4 : q3.size ≤ 100000) (b : Bool) (hb : okC ps (rqM rk rt o s2 h2 p pa2 q2 mv rn pr o3 s3 h3 p3 pa3 q3) = b) (w : World) (hw : Low w) : Calls Tryz.prog 32 #[.string T, reqV rk rt o s2 h2 p pa2 q2 mv rn pr o3 s3 h3 p3 pa3 q3] w fun e w' => e = .returned (.bool b) ∧ Below w.heap.size w w' := by
  have CP := parse12_hid T hT false ps hps
  have CA := chAll_hid ps hl hf rk rt o s2 h2 p pa2 q2 mv rn pr o3 s3 h3 p3 pa3 q3 zt su1 su2 su3 su4 sv1 sv2 sv3 sv4 b hb (blocksC ps (rqM rk rt o s2 h2 p pa2 q2 mv rn pr o3 s3 h3 p3 pa3 q3)) rfl
  generalize (blocksC ps (rqM rk rt o s2 h2 p pa2 q2 mv rn pr o3 s3 h3 p3 pa3 q3)) = bs at CA
  have hfd : ∀ (b : Bool) (a : Option Addr) (n c : Nat) (w : World), (Instr.field 50 (.agg #[.bool b, .slice a n c]) 0).run Tryz.prog w = .ok (.bool b) w := fun _ _ _ _ _ => by kernel_rfl
  unfold reqV at *
  go_enter Tryz.func32, Tryz.ntmps32
  go_wp2
  have xn := RX.made w rk rt o s2 h2 p pa2 q2 mv rn pr o3 s3 h3 p3 pa3 q3
  have gw1 := hw.made (.cells #[.int .i64 rk, .string rt, .bool o, .string s2, .string h2, .int .i64 p, .string pa2, .string q2, .bool mv, .string rn, .bool pr, .bool o3, .string s3, .string h3, .int .i64 p3, .string pa3, .string q3] 42)
  have Bw1 : Below w.heap.size w (w.alloc (.cells #[.int .i64 rk, .string rt, .bool o, .string s2, .string h2, .int .i64 p, .string pa2, .string q2, .bool mv, .string rn, .bool pr, .bool o3, .string s3, .string h3, .int .i64 p3, .string pa3, .string q3] 42)) := ((Below.refl w.heap.size w).alloc (Nat.le_refl _) (.cells #[.int .i64 rk, .string rt, .bool o, .string s2, .string h2, .int .i64 p, .string pa2, .string q2, .bool mv, .string rn, .bool pr, .bool o3, .string s3, .string h3, .int .i64 p3, .string pa3, .string q3] 42))
  generalize hR : w.heap.size = Ra at xn Bw1 ⊢
  have HR := Lib.hid hR
  clear hR
  generalize w.alloc (.cells #[.int .i64 rk, .string rt, .bool o, .string s2, .string h2, .int .i64 p, .string pa2, .string q2, .bool mv, .string rn, .bool pr, .bool o3, .string s3, .string h3, .int .i64 p3, .string pa3, .string q3] 42) = w1 at xn gw1 Bw1  ⊢
  have xRa_w1 := xn
  clear xn hw
  generalize Value.agg #[.int .i64 rk, .string rt, .bool o, .string s2, .string h2, .int .i64 p, .string pa2, .string q2, .bool mv, .string rn, .bool pr, .bool o3, .string s3, .string h3, .int .i64 p3, .string pa3, .string q3] = rq
  have HG := Lib.hid gw1
  have HX := Lib.hid xRa_w1
  have HB := Lib.hid Bw1
  have hlt := xRa_w1.lt
  have dRa0 := xRa_w1.c0
  have dRa1 := xRa_w1.c1
  have dRa2 := xRa_w1.c2
  have dRa3 := xRa_w1.c3
  have dRa4 := xRa_w1.c4
  have dRa5 := xRa_w1.c5
  have dRa6 := xRa_w1.c6
  have dRa7 := xRa_w1.c7
  have dRa8 := xRa_w1.c8
  have dRa9 := xRa_w1.c9
  have dRa10 := xRa_w1.c10
  have dRa11 := xRa_w1.c11
  have dRa12 := xRa_w1.c12
  have dRa13 := xRa_w1.c13
  have dRa14 := xRa_w1.c14
  have dRa15 := xRa_w1.c15
  have dRa16 := xRa_w1.c16
  clear gw1 xRa_w1 Bw1
  go_region_law (first
    | (go_simp
       go_at_call 40
       (with_reducible refine (CP.out _ (HG.out.drew)).mono ?_)
       rintro e w4 ⟨v, rfl, pv, b4⟩
       have b5 : Below w1.heap.size w1 w4 := ((Below.refl w1.heap.size w1).drew).trans b4
       have p4 := pv.in
       obtain ⟨va, vc, rfl⟩ := p4.form
       have X4 := HX.out.below b5
       have e0 := X4.c0
       have e1 := X4.c1
       have e2 := X4.c2
       have e3 := X4.c3
       have e4 := X4.c4
       have e5 := X4.c5
       have e6 := X4.c6
       have e7 := X4.c7
       have e8 := X4.c8
       have e9 := X4.c9
       have e10 := X4.c10
       have e11 := X4.c11
       have e12 := X4.c12
       have e13 := X4.c13
       have e14 := X4.c14
       have e15 := X4.c15
       have e16 := X4.c16
       have H4 : AsideM (Low w4 ∧ PolsIn w4 (.slice va ps.length vc) ps ∧ Below w1.heap.size w1 w4) := ⟨HG.out.below b5, p4, b5⟩
       clear pv b4 b5 p4 X4)
    | (go_simp
       go_at_call 25
       (with_reducible refine (CA.out _ _ H4.out.1 H4.out.2.1).mono ?_)
       rintro e w5 ⟨ua, uc, rfl, _, b5⟩
       have H5 : Aside (Below w1.heap.size w1 w5) := H4.out.2.2.trans (b5.mono H4.out.2.2.size)
       clear b5))
  all_goals
    have BF := HB.out.trans (H5.out.mono (Nat.le_of_lt HX.out.lt))
    go_wp2
    go_ret
    exact ⟨rfl, by rw [HR.out]; exact BF⟩
theorem topSays_hid (T : ByteArray) (hT : T.size ≤ 100000) (ps : List (List D × Bool)) (hps : polsM false T.data.toList = ps) (hl : ps.length ≤ 1000) (hf : ∀ p ∈ ps, FitD p.1) (rk : Int) (rt : ByteArray) (o : Bool) (s2 h2 : ByteArray) (p : Int) (pa2 q2 : ByteArray) (mv : Bool) (rn : ByteArray) (pr : Bool) (o3 : Bool) (s3 h3 : ByteArray) (p3 : Int) (pa3 q3 : ByteArray) (zt : rt.size ≤ 100000) (su1 : s2.size ≤ 100000) (su2 : h2.size ≤ 100000) (su3 : pa2.size ≤ 100000) (su4 : q2.size ≤ 100000) (sv1 : s3.size ≤ 100000) (sv2 : h3.size ≤ 100000) (sv3 : pa3.size ≤ 100000) (sv4 : q3.size ≤ 100000) (b : Bool) (hb : okC ps (rqM rk rt o s2 h2 p pa2 q2 mv rn pr o3 s3 h3 p3 pa3 q3) = b) : Hid (∀ W, Low W → Calls Tryz.prog 32 #[.string T, reqV rk rt o s2 h2 p pa2 q2 mv rn pr o3 s3 h3 p3 pa3 q3] W fun e w' => e = .returned (.bool b) ∧ Below W.heap.size W w') := Lib.hid fun W hw => topSays_any T hT ps hps hl hf rk rt o s2 h2 p pa2 q2 mv rn pr o3 s3 h3 p3 pa3 q3 zt su1 su2 su3 su4 sv1 sv2 sv3 sv4 b hb W hw
def pF1 : List (List D × Bool) := [([⟨[115, 99, 114, 105, 112, 116, 45, 115, 114, 99], [[39, 110, 111, 110, 101, 39]]⟩], false)]
theorem pF1_is : polsM false [115, 99, 114, 105, 112, 116, 45, 115, 114, 99, 32, 39, 110, 111, 110, 101, 39] = pF1 := by decide +kernel
theorem pF1_ok : okC pF1 rqF = false := by decide +kernel
theorem pF1_fit : ∀ p ∈ pF1, FitD p.1 := fPol_fit (by decide)

set_option maxRecDepth 100000 in
set_option maxHeartbeats 8000000 in
theorem firm_any (w : World) (hw : Low w) : Calls Tryz.prog 33 #[] w fun e w' => e = .returned (.bool true) ∧ Below w.heap.size w w' := by
  have S0 := topSays_hid ⟨#[]⟩ (by decide) pR0 pR0_is (by decide) pR0_fit 1 ⟨#[102, 40, 41]⟩ false ⟨#[]⟩ ⟨#[]⟩ 0 ⟨#[]⟩ ⟨#[]⟩ false ⟨#[]⟩ false false ⟨#[]⟩ ⟨#[]⟩ 0 ⟨#[]⟩ ⟨#[]⟩ (by decide) (by decide) (by decide) (by decide) (by decide) (by decide) (by decide) (by decide) (by decide) true pR0_ok
  have S1 := topSays_hid ⟨#[115, 99, 114, 105, 112, 116, 45, 115, 114, 99, 32, 39, 110, 111, 110, 101, 39]⟩ (by decide) pF1 pF1_is (by decide) pF1_fit 1 ⟨#[102, 40, 41]⟩ false ⟨#[]⟩ ⟨#[]⟩ 0 ⟨#[]⟩ ⟨#[]⟩ false ⟨#[]⟩ false false ⟨#[]⟩ ⟨#[]⟩ 0 ⟨#[]⟩ ⟨#[]⟩ (by decide) (by decide) (by decide) (by decide) (by decide) (by decide) (by decide) (by decide) (by decide) false pF1_ok
  have S2 := topSays_hid ⟨#[100, 101, 102, 97, 117, 108, 116, 45, 115, 114, 99, 32, 39, 117, 110, 115, 97, 102, 101, 45, 105, 110, 108, 105, 110, 101, 39]⟩ (by decide) pR2 pR2_is (by decide) pR2_fit 1 ⟨#[102, 40, 41]⟩ false ⟨#[]⟩ ⟨#[]⟩ 0 ⟨#[]⟩ ⟨#[]⟩ false ⟨#[]⟩ false false ⟨#[]⟩ ⟨#[]⟩ 0 ⟨#[]⟩ ⟨#[]⟩ (by decide) (by decide) (by decide) (by decide) (by decide) (by decide) (by decide) (by decide) (by decide) true pR2_ok
  unfold reqV at S0 S1 S2
  go_enter Tryz.func33, Tryz.ntmps33
  go_wp2_with fail
  have xn := RX.made w 1 ⟨#[102, 40, 41]⟩ false ⟨#[]⟩ ⟨#[]⟩ 0 ⟨#[]⟩ ⟨#[]⟩ false ⟨#[]⟩ false false ⟨#[]⟩ ⟨#[]⟩ 0 ⟨#[]⟩ ⟨#[]⟩
  have gw1 := hw.made (.cells #[.int .i64 1, .string ⟨#[102, 40, 41]⟩, .bool false, .string ⟨#[]⟩, .string ⟨#[]⟩, .int .i64 0, .string ⟨#[]⟩, .string ⟨#[]⟩, .bool false, .string ⟨#[]⟩, .bool false, .bool false, .string ⟨#[]⟩, .string ⟨#[]⟩, .int .i64 0, .string ⟨#[]⟩, .string ⟨#[]⟩] 42)
  have Bw1 : Below w.heap.size w (w.alloc (.cells #[.int .i64 1, .string ⟨#[102, 40, 41]⟩, .bool false, .string ⟨#[]⟩, .string ⟨#[]⟩, .int .i64 0, .string ⟨#[]⟩, .string ⟨#[]⟩, .bool false, .string ⟨#[]⟩, .bool false, .bool false, .string ⟨#[]⟩, .string ⟨#[]⟩, .int .i64 0, .string ⟨#[]⟩, .string ⟨#[]⟩] 42)) := ((Below.refl w.heap.size w).alloc (Nat.le_refl _) (.cells #[.int .i64 1, .string ⟨#[102, 40, 41]⟩, .bool false, .string ⟨#[]⟩, .string ⟨#[]⟩, .int .i64 0, .string ⟨#[]⟩, .string ⟨#[]⟩, .bool false, .string ⟨#[]⟩, .bool false, .bool false, .string ⟨#[]⟩, .string ⟨#[]⟩, .int .i64 0, .string ⟨#[]⟩, .string ⟨#[]⟩] 42))
  generalize hR : w.heap.size = Ra at xn Bw1 ⊢
  have HR := Lib.hid hR
  clear hR
  generalize w.alloc (.cells #[.int .i64 1, .string ⟨#[102, 40, 41]⟩, .bool false, .string ⟨#[]⟩, .string ⟨#[]⟩, .int .i64 0, .string ⟨#[]⟩, .string ⟨#[]⟩, .bool false, .string ⟨#[]⟩, .bool false, .bool false, .string ⟨#[]⟩, .string ⟨#[]⟩, .int .i64 0, .string ⟨#[]⟩, .string ⟨#[]⟩] 42) = w1 at xn gw1 Bw1  ⊢
  have xRa_w1 := xn
  clear xn hw
  generalize Value.agg #[.int .i64 1, .string ⟨#[102, 40, 41]⟩, .bool false, .string ⟨#[]⟩, .string ⟨#[]⟩, .int .i64 0, .string ⟨#[]⟩, .string ⟨#[]⟩, .bool false, .string ⟨#[]⟩, .bool false, .bool false, .string ⟨#[]⟩, .string ⟨#[]⟩, .int .i64 0, .string ⟨#[]⟩, .string ⟨#[]⟩] = rq at S0 ⊢
  refine (S0.out _ gw1).mono ?_
  rintro e w2 ⟨rfl, b_⟩
  have gw2 := gw1.below b_
  have Bw2 := Bw1.trans (b_.mono (Nat.le_of_lt xRa_w1.lt))
  have xRa_w2 := xRa_w1.below b_
  clear b_ gw1 Bw1 xRa_w1
  clear S0
  as_aux_lemma =>
    have dRa0 := xRa_w2.c0
    have dRa1 := xRa_w2.c1
    have dRa2 := xRa_w2.c2
    have dRa3 := xRa_w2.c3
    have dRa4 := xRa_w2.c4
    have dRa5 := xRa_w2.c5
    have dRa6 := xRa_w2.c6
    have dRa7 := xRa_w2.c7
    have dRa8 := xRa_w2.c8
    have dRa9 := xRa_w2.c9
    have dRa10 := xRa_w2.c10
    have dRa11 := xRa_w2.c11
    have dRa12 := xRa_w2.c12
    have dRa13 := xRa_w2.c13
    have dRa14 := xRa_w2.c14
    have dRa15 := xRa_w2.c15
    have dRa16 := xRa_w2.c16
    go_wp2_with fail
    clear dRa0 dRa1 dRa2 dRa3 dRa4 dRa5 dRa6 dRa7 dRa8 dRa9 dRa10 dRa11 dRa12 dRa13 dRa14 dRa15 dRa16
    generalize Value.agg #[.int .i64 1, .string ⟨#[102, 40, 41]⟩, .bool false, .string ⟨#[]⟩, .string ⟨#[]⟩, .int .i64 0, .string ⟨#[]⟩, .string ⟨#[]⟩, .bool false, .string ⟨#[]⟩, .bool false, .bool false, .string ⟨#[]⟩, .string ⟨#[]⟩, .int .i64 0, .string ⟨#[]⟩, .string ⟨#[]⟩] = rq0 at S1 ⊢
    refine (S1.out _ gw2).mono ?_
    rintro e w3 ⟨rfl, b_⟩
    have gw3 := gw2.below b_
    have Bw3 := Bw2.trans (b_.mono (Nat.le_of_lt xRa_w2.lt))
    have xRa_w3 := xRa_w2.below b_
    clear b_ gw2 Bw2 xRa_w2
    clear S1
    as_aux_lemma =>
      have dRa0 := xRa_w3.c0
      have dRa1 := xRa_w3.c1
      have dRa2 := xRa_w3.c2
      have dRa3 := xRa_w3.c3
      have dRa4 := xRa_w3.c4
      have dRa5 := xRa_w3.c5
      have dRa6 := xRa_w3.c6
      have dRa7 := xRa_w3.c7
      have dRa8 := xRa_w3.c8
      have dRa9 := xRa_w3.c9
      have dRa10 := xRa_w3.c10
      have dRa11 := xRa_w3.c11
      have dRa12 := xRa_w3.c12
      have dRa13 := xRa_w3.c13
      have dRa14 := xRa_w3.c14
      have dRa15 := xRa_w3.c15
      have dRa16 := xRa_w3.c16
      go_wp2_with fail
      clear dRa0 dRa1 dRa2 dRa3 dRa4 dRa5 dRa6 dRa7 dRa8 dRa9 dRa10 dRa11 dRa12 dRa13 dRa14 dRa15 dRa16
      generalize Value.agg #[.int .i64 1, .string ⟨#[102, 40, 41]⟩, .bool false, .string ⟨#[]⟩, .string ⟨#[]⟩, .int .i64 0, .string ⟨#[]⟩, .string ⟨#[]⟩, .bool false, .string ⟨#[]⟩, .bool false, .bool false, .string ⟨#[]⟩, .string ⟨#[]⟩, .int .i64 0, .string ⟨#[]⟩, .string ⟨#[]⟩] = rq1 at S2 ⊢
      refine (S2.out _ gw3).mono ?_
      rintro e w4 ⟨rfl, b_⟩
      have gw4 := gw3.below b_
      have Bw4 := Bw3.trans (b_.mono (Nat.le_of_lt xRa_w3.lt))
      have xRa_w4 := xRa_w3.below b_
      clear b_ gw3 Bw3 xRa_w3
      clear S2
      as_aux_lemma =>
        go_wp2
        go_ret
        exact ⟨rfl, by rw [HR.out]; exact Bw4⟩
theorem firm_hid : Hid (∀ W, Low W → Calls Tryz.prog 33 #[] W fun e w' => e = .returned (.bool true) ∧ Below W.heap.size W w') := Lib.hid fun W hw => firm_any W hw

end Go.Proofs.YthnogdodlhkldaaGreatDoor
