/- An origin's text, two origins held against each other: the document's. -/
import Derived.Test.YtlkpdepdflcbcaaDoorWalkS
import Derived.Test.YtlkpdepdflcbcaaDoorWalkO
namespace Go.Proofs.YtlkpdepdflcbcaaDoor
open Go.RowKit

theorem dec_len20 (n : Nat) (h : n ≤ 18446744073709551615) : (Lib.decDigits n).length ≤ 20 := by
  rw [Lib.decDigits_length]
  exact nDigits_pow 19 n (by omega)
theorem dec_low {n : Nat} (h : n < 10) : Lib.decDigits n = [UInt8.ofNat (48 + n)] := by rw [Lib.decDigits, dif_pos h]

set_option maxRecDepth 100000 in
set_option maxHeartbeats 2000000 in
theorem bigDigits_any (n : Nat) (hn : n ≤ 9223372036854775807) (T : ByteArray) (hT : T.data.toList = Lib.decDigits n) (w : World) : Calls Tryd.prog 33 #[.int .i64 (n : Int)] w fun e w' => e = .returned (.string T) ∧ w' = w := by
  induction n using Nat.strongRecOn generalizing T w with
  | _ n ih =>
    by_cases h10 : n < 10
    · rw [Lib.decDigits, dif_pos h10] at hT
      have hc : n = 0 ∨ n = 1 ∨ n = 2 ∨ n = 3 ∨ n = 4 ∨ n = 5 ∨ n = 6 ∨ n = 7 ∨ n = 8 ∨ n = 9 := by omega
      clear ih
      rcases hc with rfl | rfl | rfl | rfl | rfl | rfl | rfl | rfl | rfl | rfl
      all_goals
        obtain rfl := text_is hT
        clear hT
        go_enter Tryd.func33, Tryd.ntmps33
        go_wp2
        go_ret
        exact ⟨rfl, rfl⟩
    · rw [Lib.decDigits, dif_neg h10] at hT
      obtain ⟨T1, hT1⟩ := text_of (Lib.decDigits (n / 10))
      obtain ⟨T2, hT2⟩ := text_of (Lib.decDigits (n % 10))
      have e2 : Lib.decDigits (n % 10) = [UInt8.ofNat (48 + n % 10)] := dec_low (by omega)
      have CA : Hid (∀ W, Calls Tryd.prog 33 #[.int .i64 ((n : Int) / 10)] W fun e w' => e = .returned (.string T1) ∧ w' = W) := Lib.hid fun W => by
        have := ih (n / 10) (by omega) (by omega) T1 hT1 W
        rw [Int.natCast_ediv] at this; exact this
      have CB : Hid (∀ W, Calls Tryd.prog 33 #[.int .i64 ((n : Int) % 10)] W fun e w' => e = .returned (.string T2) ∧ w' = W) := Lib.hid fun W => by
        have := ih (n % 10) (by omega) (by omega) T2 hT2 W
        rw [Int.natCast_emod] at this; exact this
      have hadd := add_to T1 T2 T (by rw [hT, hT1, hT2, e2]) (by
        have h1 := dec_len20 (n / 10) (by omega)
        have h2 := dec_len20 (n % 10) (by omega)
        rw [← hT1, lsize] at h1
        rw [← hT2, lsize] at h2
        omega)
      have hz : ¬ (n : Int) < 10 := by omega
      clear ih hT hT1 hT2 e2 h10
      go_enter Tryd.func33, Tryd.ntmps33
      go_wp2_with fail
      refine (CA.out _).mono ?_
      rintro e w ⟨rfl, rfl⟩
      go_wp2_with fail
      refine (CB.out _).mono ?_
      rintro e w ⟨rfl, rfl⟩
      go_wp2
      go_ret
      exact ⟨rfl, rfl⟩

set_option maxRecDepth 100000 in
set_option maxHeartbeats 2000000 in
theorem smallU_any (n : Nat) (hn : n ≤ 18446744073709551615) (T : ByteArray) (hT : T.data.toList = Lib.decDigits n) (w : World) : Calls Tryd.prog 34 #[.int .u64 (n : Int)] w fun e w' => e = .returned (.string T) ∧ w' = w := by
  induction n using Nat.strongRecOn generalizing T w with
  | _ n ih =>
    obtain ⟨T2, hT2⟩ := text_of (Lib.decDigits (n % 10))
    have CB : Hid (∀ W, Calls Tryd.prog 33 #[.int .i64 ((n : Int) % 10)] W fun e w' => e = .returned (.string T2) ∧ w' = W) := Lib.hid fun W => by
      have := bigDigits_any (n % 10) (by omega) T2 hT2 W
      rw [Int.natCast_emod] at this; exact this
    by_cases h10 : n < 10
    · have hz : (n : Int) < 10 := by omega
      obtain rfl : T = T2 := by
        have e : T.data.toList = T2.data.toList := by rw [hT, hT2, Nat.mod_eq_of_lt h10]
        rw [text_is e, ← text_is rfl]
      clear ih hT hT2 h10
      go_enter Tryd.func34, Tryd.ntmps34
      go_wp2_with fail
      with_reducible refine (CB.out _).mono ?_
      rintro e w ⟨rfl, rfl⟩
      go_wp2
      go_ret
      exact ⟨rfl, rfl⟩
    · rw [Lib.decDigits, dif_neg h10] at hT
      obtain ⟨T1, hT1⟩ := text_of (Lib.decDigits (n / 10))
      have e2 : Lib.decDigits (n % 10) = [UInt8.ofNat (48 + n % 10)] := dec_low (by omega)
      have CA : Hid (∀ W, Calls Tryd.prog 34 #[.int .u64 ((n : Int) / 10)] W fun e w' => e = .returned (.string T1) ∧ w' = W) := Lib.hid fun W => by
        have := ih (n / 10) (by omega) (by omega) T1 hT1 W
        rw [Int.natCast_ediv] at this; exact this
      have hadd := add_to T1 T2 T (by rw [hT, hT1, hT2, e2]) (by
        have h1 := dec_len20 (n / 10) (by omega)
        have h2 := dec_len20 (n % 10) (by omega)
        rw [← hT1, lsize] at h1
        rw [← hT2, lsize] at h2
        omega)
      have hz : ¬ (n : Int) < 10 := by omega
      clear ih hT hT1 hT2 e2 h10
      go_enter Tryd.func34, Tryd.ntmps34
      go_wp2_with fail
      with_reducible refine (CA.out _).mono ?_
      rintro e w ⟨rfl, rfl⟩
      go_wp2_with fail
      with_reducible refine (CB.out _).mono ?_
      rintro e w ⟨rfl, rfl⟩
      go_wp2
      go_ret
      exact ⟨rfl, rfl⟩

set_option maxRecDepth 100000 in
set_option maxHeartbeats 2000000 in
theorem refDigits_any (p : Int) (h0 : -9223372036854775808 ≤ p) (h1 : p ≤ 9223372036854775807) (T : ByteArray) (hT : T.data.toList = Lib.itoa p) (w : World) : Calls Tryd.prog 20 #[.int .i64 p] w fun e w' => e = .returned (.string T) ∧ w' = w := by
  unfold Lib.itoa at hT
  by_cases hp : p < 0
  · rw [if_pos hp] at hT
    obtain ⟨T1, hT1⟩ := text_of (Lib.decDigits p.natAbs)
    have C : Hid (∀ W, Calls Tryd.prog 34 #[.int .u64 (IntKind.u64.wrap (-IntKind.u64.wrap p))] W fun e w' => e = .returned (.string T1) ∧ w' = W) := Lib.hid fun W => by
      have := smallU_any p.natAbs (by omega) T1 hT1 W
      have hw : IntKind.u64.wrap (-IntKind.u64.wrap p) = ((p.natAbs : Nat) : Int) := by
        simp only [IntKind.wrap, IntKind.bits, IntKind.signed]
        simp
        omega
      rw [hw]; exact this
    have hadd := add_to ⟨#[45]⟩ T1 T (by rw [hT, hT1]; rfl) (by
      have h1 := dec_len20 p.natAbs (by omega)
      rw [← hT1, lsize] at h1
      show 1 + T1.size ≤ _; omega)
    have hg : ¬ 0 ≤ p := by omega
    clear hT hT1 hp
    go_enter Tryd.func20, Tryd.ntmps20
    go_wp2_with fail
    refine (C.out _).mono ?_
    rintro e w ⟨rfl, rfl⟩
    go_wp2
    go_ret
    exact ⟨rfl, rfl⟩
  · rw [if_neg hp] at hT
    have C : Hid (∀ W, Calls Tryd.prog 33 #[.int .i64 p] W fun e w' => e = .returned (.string T) ∧ w' = W) := Lib.hid fun W => by
      have := bigDigits_any p.toNat (by omega) T hT W
      rw [show ((p.toNat : Nat) : Int) = p by omega] at this; exact this
    have hg : 0 ≤ p := by omega
    clear hT hp
    go_enter Tryd.func20, Tryd.ntmps20
    go_wp2_with fail
    refine (C.out _).mono ?_
    rintro e w ⟨rfl, rfl⟩
    go_wp2
    go_ret
    exact ⟨rfl, rfl⟩

set_option maxRecDepth 100000 in
set_option maxHeartbeats 2000000 in
theorem refOtext_any (o : Bool) (s h : ByteArray) (p : Int) (hs : s.size ≤ 100000) (hh : h.size ≤ 100000) (h0 : -9223372036854775808 ≤ p) (h1 : p ≤ 9223372036854775807) (T : ByteArray) (hT : T.data.toList = otextM (oM o s h p)) (w : World) : Calls Tryd.prog 11 #[oV o s h p] w fun e w' => e = .returned (.string T) ∧ Below w.heap.size w w' := by
  unfold oV
  cases o
  case true =>
    obtain rfl : T = ⟨#[110, 117, 108, 108]⟩ := by apply text_is; rw [hT]; rfl
    clear hT
    go_enter Tryd.func11, Tryd.ntmps11
    go_wp2
    go_ret
    exact ⟨rfl, (Below.refl _ _).alloc (Nat.le_refl _) _⟩
  case false =>
    have hM : T.data.toList = s.data.toList ++ 58 :: 47 :: 47 :: (h.data.toList ++ oportT s.data.toList p) := hT
    obtain ⟨d, hd⟩ : ∃ d, dfl s.data.toList = d := ⟨_, rfl⟩
    have CD := refDefault_hid s d hd
    obtain ⟨A1, hA1⟩ := text_of (s.data.toList ++ [58, 47, 47])
    have z1 : A1.size = s.size + 3 := by rw [← lsize, hA1, List.length_append, lsize]; rfl
    obtain ⟨A2, hA2⟩ := text_of (A1.data.toList ++ h.data.toList)
    have z2 : A2.size = A1.size + h.size := by rw [← lsize, hA2, List.length_append, lsize, lsize]
    have a1 := add_to s ⟨#[58, 47, 47]⟩ A1 hA1 (by show s.size + 3 ≤ _; omega)
    have a2 := add_to A1 h A2 hA2 (by omega)
    by_cases hp : p = (d : Int)
    · have g : (p != (d : Int)) = false := by rw [bne_eq_false_iff_eq]; exact hp
      obtain rfl : T = A2 := by
        have e : T.data.toList = A2.data.toList := by
          rw [hM, hA2, hA1]; unfold oportT; rw [if_pos (by rw [hd]; exact hp)]; simp
        rw [text_is e, ← text_is rfl]
      clear hM hT hd hA1 hA2 z1 z2 hp
      go_enter Tryd.func11, Tryd.ntmps11
      go_wp2
      go_quiet ((go_at_call 19; exact Calls.quiet_of_same (CD.out _)))
      go_wp2
      go_ret
      exact ⟨rfl, belowN ((Below.refl _ _).alloc (Nat.le_refl _) _) _⟩
    · have g : (p != (d : Int)) = true := by rw [bne_iff_ne]; exact hp
      obtain ⟨IT, hIT⟩ := text_of (Lib.itoa p)
      have zi : IT.size ≤ 21 := by rw [← lsize, hIT]; exact itoa_len p h0 h1
      obtain ⟨PT, hPT⟩ := text_of (A2.data.toList ++ [58])
      have zp : PT.size = A2.size + 1 := by rw [← lsize, hPT, List.length_append, lsize]; rfl
      have a3 := add_to A2 ⟨#[58]⟩ PT hPT (by show A2.size + 1 ≤ _; omega)
      have a4 := add_to PT IT T (by
        rw [hM, hPT, hA2, hA1, hIT]; unfold oportT; rw [if_neg (by rw [hd]; exact hp)]; simp) (by omega)
      have CI : Hid (∀ W, Calls Tryd.prog 20 #[.int .i64 p] W fun e w' => e = .returned (.string IT) ∧ w' = W) := Lib.hid fun W => refDigits_any p h0 h1 IT hIT W
      clear hM hT hd hA1 hA2 z1 z2 hp hIT zi hPT zp h0 h1
      go_enter Tryd.func11, Tryd.ntmps11
      go_wp2_with fail
      have x1 := OX.made w false s h p
      have B1 : Below w.heap.size w (w.alloc (.cells #[.bool false, .string s, .string h, .int .i64 p] 23)) := (Below.refl _ _).alloc (Nat.le_refl _) _
      generalize hR : w.heap.size = R at x1 B1 ⊢
      have HR := Lib.hid hR
      clear hR
      generalize w.alloc (.cells #[.bool false, .string s, .string h, .int .i64 p] 23) = w1 at x1 B1 ⊢
      have c1 := x1.c1
      have c3 := x1.c3
      go_quiet ((go_at_call 19; exact Calls.quiet_of_same (CD.out _)))
      have x2 : OX (w1.drewN nq) R false s h p := x1
      have B2 := belowN B1 nq
      generalize w1.drewN nq = w2 at x2 B2 ⊢
      have e1 := x2.c3
      clear x1 B1 c1 c3
      go_wp2_with fail
      refine (CI.out _).mono ?_
      rintro e w2 ⟨rfl, rfl⟩
      go_wp2
      go_ret
      exact ⟨rfl, by rw [HR.out]; exact B2⟩
theorem refOtext_hid (o : Bool) (s h : ByteArray) (p : Int) (hs : s.size ≤ 100000) (hh : h.size ≤ 100000) (h0 : -9223372036854775808 ≤ p) (h1 : p ≤ 9223372036854775807) (T : ByteArray) (hT : T.data.toList = otextM (oM o s h p)) : Hid (∀ W, Calls Tryd.prog 11 #[oV o s h p] W fun e w' => e = .returned (.string T) ∧ Below W.heap.size W w') :=
  Lib.hid fun W => refOtext_any o s h p hs hh h0 h1 T hT W

set_option maxRecDepth 100000 in
set_option maxHeartbeats 2000000 in
theorem refSame_any (o : Bool) (s h : ByteArray) (p : Int) (o2 : Bool) (s2 h2 : ByteArray) (p2 : Int) (w : World) : Calls Tryd.prog 9 #[oV o s h p, oV o2 s2 h2 p2] w fun e w' => e = .returned (.bool (sameM (oM o s h p) (oM o2 s2 h2 p2))) ∧ Below w.heap.size w w' := by
  have g1 : (s.toList == s2.toList) = decide (s.data.toList = s2.data.toList) := text_two _ _
  have g2 : (h.toList == h2.toList) = decide (h.data.toList = h2.data.toList) := text_two _ _
  have g3 : (p == p2) = decide (p = p2) := by rw [Bool.eq_iff_iff]; simp
  have HS : Hid (sameM (oM o s h p) (oM o2 s2 h2 p2) = (!o && (o == o2 && decide (s.data.toList = s2.data.toList) && decide (h.data.toList = h2.data.toList) && decide (p = p2)))) := Lib.hid (by
    unfold sameM oM
    rw [Bool.eq_iff_iff]
    simp [and_assoc])
  generalize decide (s.data.toList = s2.data.toList) = b1 at g1 HS
  generalize decide (h.data.toList = h2.data.toList) = b2 at g2 HS
  generalize decide (p = p2) = b3 at g3 HS
  unfold oV
  cases b1 <;> cases b2 <;> cases b3 <;> cases o <;> cases o2
  all_goals
    have HF := Lib.hid (HS.out.symm)
    clear HS
    go_enter Tryd.func9, Tryd.ntmps9
    go_wp2
    go_ret
    exact ⟨ret_bool HF.out, ((Below.refl _ _).alloc (Nat.le_refl _) _).alloc (Below.size ((Below.refl w.heap.size w).alloc (Nat.le_refl _) _)) _⟩
theorem refSame_hid (o : Bool) (s h : ByteArray) (p : Int) (o2 : Bool) (s2 h2 : ByteArray) (p2 : Int) (b : Bool) (hb : sameM (oM o s h p) (oM o2 s2 h2 p2) = b) : Hid (∀ W, Calls Tryd.prog 9 #[oV o s h p, oV o2 s2 h2 p2] W fun e w' => e = .returned (.bool b) ∧ Below W.heap.size W w') :=
  Lib.hid fun W => by rw [← hb]; exact refSame_any o s h p o2 s2 h2 p2 W

end Go.Proofs.YtlkpdepdflcbcaaDoor
