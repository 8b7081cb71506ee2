/- An origin's text: the program's. -/
import Derived.Test.YtlkpdepdflcbcaaDoorWalkP
import Derived.Test.YtlkpdepdflcbcaaDoorWalkL
namespace Go.Proofs.YtlkpdepdflcbcaaDoor
open Go.RowKit

theorem nDigits_pow : ∀ (k u : Nat), u < 10 ^ (k + 1) → Lib.nDigits u ≤ k + 1
  | 0, u, h => by rw [Lib.nDigits_small (by simpa using h)]; exact Nat.le_refl _
  | k + 1, u, h => by
    by_cases h1 : u < 10
    · rw [Lib.nDigits_small h1]; omega
    · rw [Lib.nDigits_big h1]
      have := nDigits_pow k (u / 10) (by rw [Nat.pow_succ] at h; omega)
      omega
theorem itoa_len (p : Int) (h0 : -9223372036854775808 ≤ p) (h1 : p ≤ 9223372036854775807) : (Lib.itoa p).length ≤ 21 := by
  have k : ∀ u : Nat, u ≤ 9223372036854775808 → (Lib.decDigits u).length ≤ 20 := fun u hu => by
    rw [Lib.decDigits_length]
    exact nDigits_pow 19 u (by omega)
  unfold Lib.itoa
  split
  · have := k p.natAbs (by omega)
    rw [List.length_cons]; omega
  · have := k p.toNat (by omega)
    omega
theorem itoa_all (p : Int) (h0 : -9223372036854775808 ≤ p) (h1 : p ≤ 9223372036854775807) (T : ByteArray) (hT : T.data.toList = Lib.itoa p) : Hid (∀ W, TabIn W → Calls Tryd.prog 18 #[.int .i64 p] W fun e w' => e = .returned (.string T) ∧ Below W.heap.size W w') := Lib.hid fun W ht => by
  have h := Tryd.strconv_Itoa p h0 h1 W ht
  rw [← hT] at h
  refine h.mono fun e w' ⟨h1, k, os, h2⟩ => ⟨?_, ?_⟩
  · rw [h1]
  · rw [h2]; exact Lib.below_grow _ _ (Nat.le_refl _) _ _

set_option maxRecDepth 100000 in
set_option maxHeartbeats 2000000 in
theorem otext_any (o : Bool) (s h : ByteArray) (p : Int) (hs : s.size ≤ 100000) (hh : h.size ≤ 100000) (h0 : -9223372036854775808 ≤ p) (h1 : p ≤ 9223372036854775807) (T : ByteArray) (hT : T.data.toList = otextM (oM o s h p)) (w : World) (ht : TabIn w) : Calls Tryd.prog 10 #[oV o s h p] w fun e w' => e = .returned (.string T) ∧ Below w.heap.size w w' := by
  unfold oV
  cases o
  case true =>
    obtain rfl : T = ⟨#[110, 117, 108, 108]⟩ := by apply text_is; rw [hT]; rfl
    clear hT
    go_enter Tryd.func10, Tryd.ntmps10
    go_wp2
    go_ret
    exact ⟨rfl, (Below.refl _ _).alloc (Nat.le_refl _) _⟩
  case false =>
    have hM : T.data.toList = s.data.toList ++ 58 :: 47 :: 47 :: (h.data.toList ++ oportT s.data.toList p) := hT
    obtain ⟨d, hd⟩ : ∃ d, dfl s.data.toList = d := ⟨_, rfl⟩
    have CD := default_hid s d hd
    obtain ⟨A1, hA1⟩ := text_of (s.data.toList ++ [58, 47, 47])
    have z1 : A1.size = s.size + 3 := by rw [← lsize, hA1, List.length_append, lsize]; rfl
    obtain ⟨A2, hA2⟩ := text_of (A1.data.toList ++ h.data.toList)
    have z2 : A2.size = A1.size + h.size := by rw [← lsize, hA2, List.length_append, lsize, lsize]
    have a1 := add_to s ⟨#[58, 47, 47]⟩ A1 hA1 (by show s.size + 3 ≤ _; omega)
    have a2 := add_to A1 h A2 hA2 (by omega)
    by_cases hp : p = (d : Int)
    · have g : (p != (d : Int)) = false := by rw [bne_eq_false_iff_eq]; exact hp
      obtain rfl : T = A2 := by
        have e : T.data.toList = A2.data.toList := by
          rw [hM, hA2, hA1]; unfold oportT; rw [if_pos (by rw [hd]; exact hp)]; simp
        rw [text_is e, ← text_is rfl]
      clear hM hT hd hA1 hA2 z1 z2 hp
      go_enter Tryd.func10, Tryd.ntmps10
      go_wp2
      go_quiet ((go_at_call 17; exact Calls.quiet_of_same (CD.out _)))
      go_wp2
      go_ret
      exact ⟨rfl, belowN ((Below.refl _ _).alloc (Nat.le_refl _) _) _⟩
    · have g : (p != (d : Int)) = true := by rw [bne_iff_ne]; exact hp
      obtain ⟨IT, hIT⟩ := text_of (Lib.itoa p)
      have zi : IT.size ≤ 21 := by rw [← lsize, hIT]; exact itoa_len p h0 h1
      obtain ⟨PT, hPT⟩ := text_of (58 :: IT.data.toList)
      have zp : PT.size = IT.size + 1 := by rw [← lsize, hPT, List.length_cons, lsize]
      have a3 := add_to ⟨#[58]⟩ IT PT hPT (by show 1 + IT.size ≤ _; omega)
      have a4 := add_to A2 PT T (by
        rw [hM, hPT, hA2, hA1, hIT]; unfold oportT; rw [if_neg (by rw [hd]; exact hp)]; simp) (by omega)
      have CI := itoa_all p h0 h1 IT hIT
      clear hM hT hd hA1 hA2 z1 z2 hp hIT zi hPT zp h0 h1
      go_enter Tryd.func10, Tryd.ntmps10
      go_wp2_with fail
      have x1 := OX.made w false s h p
      have t1 := ht.made (.cells #[.bool false, .string s, .string h, .int .i64 p] 23)
      have B1 : Below w.heap.size w (w.alloc (.cells #[.bool false, .string s, .string h, .int .i64 p] 23)) := (Below.refl _ _).alloc (Nat.le_refl _) _
      generalize hR : w.heap.size = R at x1 B1 ⊢
      have HR := Lib.hid hR
      clear hR
      generalize w.alloc (.cells #[.bool false, .string s, .string h, .int .i64 p] 23) = w1 at x1 B1 t1 ⊢
      have c1 := x1.c1
      have c3 := x1.c3
      go_quiet ((go_at_call 17; exact Calls.quiet_of_same (CD.out _)))
      have x2 : OX (w1.drewN nq) R false s h p := x1
      have t2 : TabIn (w1.drewN nq) := t1
      have B2 := belowN B1 nq
      generalize w1.drewN nq = w2 at x2 t2 B2 ⊢
      have e1 := x2.c3
      clear x1 t1 B1 c1 c3
      go_wp2_with fail
      refine (CI.out _ t2).mono ?_
      rintro e w3 ⟨rfl, b3⟩
      have B3 := B2.trans (b3.mono (Nat.le_of_lt x2.lt))
      clear x2 t2 B2 b3 e1
      go_wp2
      go_ret
      exact ⟨rfl, by rw [HR.out]; exact B3⟩
theorem otext_hid (o : Bool) (s h : ByteArray) (p : Int) (hs : s.size ≤ 100000) (hh : h.size ≤ 100000) (h0 : -9223372036854775808 ≤ p) (h1 : p ≤ 9223372036854775807) (T : ByteArray) (hT : T.data.toList = otextM (oM o s h p)) : Hid (∀ W, TabIn W → Calls Tryd.prog 10 #[oV o s h p] W fun e w' => e = .returned (.string T) ∧ Below W.heap.size W w') :=
  Lib.hid fun W ht => otext_any o s h p hs hh h0 h1 T hT W ht

end Go.Proofs.YtlkpdepdflcbcaaDoor
