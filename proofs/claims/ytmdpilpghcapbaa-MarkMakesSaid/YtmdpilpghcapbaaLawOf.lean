/- The walks: texts have just this mark; a maker has just this mark and count, at any time. -/
import Derived.Test.YtmdpilpghcapbaaLawNil
namespace Go.Proofs.Ytmdpilpghcapbaa
open Go.RowKit

theorem big_hid (p : List (List UInt8)) (v : Value) (w : World) (hp : TextsIn w v p) (hl : p.length ≤ 9223372036854775807) : Hid (Calls Try.prog 9 #[v, .int .i64 20, .int .i64 500] w (BigPost p w)) := Lib.hid (big_any p v w hp hl)
set_option maxRecDepth 100000 in
set_option maxHeartbeats 2000000 in
theorem of_law (p : List (List UInt8)) (v : Value) (w : World) (hp : TextsIn w v p) (hl : p.length ≤ 9223372036854775807) :
    Calls Try.prog 3 #[v] w fun e w' => e = .returned (.bool true) ∧ Below w.heap.size w w' := by
  have CB := big_hid p v w hp hl
  obtain ⟨M, hM⟩ := text_of (markL p.flatten)
  obtain ⟨J, hJ⟩ := text_of p.flatten
  have HP := Lib.hid hp
  have HM := Lib.hid hM
  have HJ := Lib.hid hJ
  clear hp hM hJ hl
  go_enter Try.func3, Try.ntmps3
  go_wp2_with fail
  refine CB.out.mono ?_
  rintro e w' ⟨b, rfl, rfl, hb⟩
  cases b
  · obtain ⟨h20, h5⟩ := hb rfl
    have hf := len_le p h20 h5
    have hjs : J.size ≤ 10000 := by rw [← lsize, HJ.out]; exact hf
    have CO := of_to p M HM.out (by omega) (by omega)
    have CR := ref_to J M (by rw [HM.out, HJ.out]) (by omega)
    have HJo : Hid (∀ W u, TextsIn W u p → Calls Try.prog 14 #[u] W fun e w' => e = .returned (.string J) ∧ W = w') := Lib.hid fun W u h => join_any p u W J HJ.out h (by omega) (by omega)
    have HT : Hid (∀ W u v, TextsIn W u p → TextsIn W v p → Calls Try.prog 15 #[u, v] W fun e w' => e = .returned (.bool true) ∧ Below W.heap.size W w') := Lib.hid fun W u v h1 h2 => texts_bool p p true (eqT_self p) u v W h1 h2 (by omega) (by omega)
    have HO : Hid (∀ W u, TextsIn W u p → Calls Try.prog 10 #[u] W (TextsPost p W)) := Lib.hid fun W u h => own_any p u W h (by omega)
    clear hb h5 h20 hf hjs CB HM HJ
    go_wp2_with fail
    refine (HO.out _ _ HP.out).mono ?_
    rintro e w1 ⟨u1, rfl, t1, B1⟩
    have P1 := Lib.hid (HP.out.below B1)
    have T1 := Lib.hid t1
    clear t1
    go_wp2_with fail
    refine (marks_any _).mono ?_
    rintro e w2 ⟨rfl, b2⟩
    have B2 := B1.trans (b2.mono B1.size)
    have P2 := Lib.hid (P1.out.below b2)
    have T2 := Lib.hid (T1.out.below b2)
    clear P1 T1 b2 B1
    go_wp2_with fail
    refine (CO.out _ _ P2.out).mono ?_
    rintro e w3 ⟨rfl, b3⟩
    have B3 := B2.trans (b3.mono B2.size)
    have P3 := Lib.hid (P2.out.below b3)
    have T3 := Lib.hid (T2.out.below b3)
    clear P2 T2 b3 B2
    go_wp2_with fail
    refine (HJo.out _ _ T3.out).mono ?_
    rintro e w' ⟨rfl, rfl⟩
    go_wp2_with fail
    refine (CR.out _).mono ?_
    rintro e w4 ⟨rfl, b4⟩
    have B4 := B3.trans (b4.mono B3.size)
    have P4 := Lib.hid (P3.out.below b4)
    have T4 := Lib.hid (T3.out.below b4)
    clear P3 T3 b4 B3
    go_wp2_with fail
    refine (HT.out _ _ _ P4.out T4.out).mono ?_
    rintro e w5 ⟨rfl, b5⟩
    have B5 := B4.trans (b5.mono B4.size)
    go_wp2
    go_ret
    exact ⟨rfl, B5⟩
  · clear hb
    go_wp2
    go_ret
    exact ⟨rfl, Below.refl _ _⟩

set_option maxRecDepth 100000 in
set_option maxHeartbeats 2000000 in
theorem makes_law (p : List (List UInt8)) (v : Value) (w : World) (hp : TextsIn w v p) (hl : p.length ≤ 9223372036854775807) :
    Calls Try.prog 4 #[v] w fun e w' => e = .returned (.bool true) ∧ Below w.heap.size w w' := by
  have CB := big_hid p v w hp hl
  obtain ⟨a, c, rfl⟩ := hp.form
  have hcell : Hid (∀ j, (h : j < p.length) → ∃ B off, a = some ⟨B, off, none⟩ ∧ B < w.heap.size ∧ w.cell? ⟨B, off + j, none⟩ = some (strV p[j])) := Lib.hid fun j h => by
    rcases hp with ⟨_, h2⟩ | ⟨B, off, cap, h1, h2⟩
    · subst h2; simp at h
    · cases h1
      exact ⟨B, off, rfl, lt_of_cell (h2 j h), h2 j h⟩
  clear hp hl
  go_enter Try.func4, Try.ntmps4
  go_wp2_with fail
  refine CB.out.mono ?_
  rintro e w' ⟨b, rfl, rfl, hb⟩
  cases b
  · obtain ⟨h20, h5⟩ := hb rfl
    have hf := len_le p h20 h5
    clear hb h5 CB
    go_wp2_with fail
    refine (new_any _).mono ?_
    rintro e w1 ⟨rfl, hk1, B1⟩
    have H1 := Lib.hid hk1
    clear hk1
    go_wp2
    go_loopw [4, 5] (fun s i wr => ∃ (k : Nat) (S : ByteArray), k ≤ p.length ∧ i = .int .i64 k ∧ s = .string S ∧ Below w.heap.size w wr ∧ Hid (S.data.toList = (p.take k).flatten) ∧ Hid (MkAt wr w.heap.size (p.take k).flatten)) (fun _ i _ => p.length - (intOf i).toNat)
    case atStart => exact ⟨0, ⟨#[]⟩, Nat.zero_le _, rfl, rfl, B1, Lib.hid rfl, H1⟩
    case round =>
      obtain ⟨k, S, hk, rfl, rfl, hb, HS, HK⟩ := hrel
      have hSl : S.size ≤ 10000 := by rw [← lsize, HS.out]; have := flat_le p k; omega
      obtain ⟨M, hM⟩ := text_of (markL (p.take k).flatten)
      have CM := mark_hid w.heap.size (p.take k).flatten (by have := flat_le p k; omega) M hM
      have CR := ref_to S M (by rw [hM, HS.out]) (by omega)
      have CN := count_to w.heap.size (p.take k).flatten (S.size : Int) (by rw [← HS.out, lsize])
      have hne : (M.toList == M.toList) = true := by simp
      clear hM B1 H1
      by_cases hlt : k < p.length
      · obtain ⟨B, off, rfl, hB, hc⟩ := hcell.out k hlt
        obtain ⟨T, hT⟩ := text_of p[k]
        obtain ⟨R, hR⟩ := text_of (S.data.toList ++ T.data.toList)
        have hTl : (p.take k).flatten.length + T.size ≤ 10000 := by
          have := flat_le2 p k hlt
          rw [← hT, lsize] at this; omega
        have HC : Hid (w.cell? ⟨B, off + k, none⟩ = some (.string T)) := Lib.hid (by rw [hc, text_is hT]; rfl)
        have HN : Hid (R.data.toList = (p.take (k + 1)).flatten) := Lib.hid (by rw [hR, HS.out, hT, flat_take p k hlt])
        have HA : Hid ((p.take k).flatten ++ T.data.toList = (p.take (k + 1)).flatten) := Lib.hid (by rw [hT, flat_take p k hlt])
        have hadd := add_to S T R hR (by
          have : T.size ≤ 10000 := by omega
          omega)
        have CA := add_to_k w.heap.size w.heap.size (p.take k).flatten T _ HA.out (Nat.le_refl _) (by omega) w
        clear hc hT hR hTl
        go_wp2_with fail
        refine (CM.out _ HK.out).mono ?_
        rintro e w2 ⟨rfl, b2⟩
        have B2 := hb.trans (b2.mono hb.size)
        have K2 := Lib.hid (HK.out.below b2)
        clear b2 hb HK
        go_wp2_with fail
        refine (CR.out _).mono ?_
        rintro e w3 ⟨rfl, b3⟩
        have B3 := B2.trans (b3.mono B2.size)
        have K3 := Lib.hid (K2.out.below b3)
        clear b3 B2 K2
        go_wp2_with fail
        refine (CN.out _ K3.out).mono ?_
        rintro e w' ⟨rfl, rfl⟩
        have hc3 : w3.cell? ⟨B, off + k, none⟩ = some (.string T) := by rw [B3.cell hB]; exact HC.out
        go_wp2_with fail
        refine (CA.out _ B3 K3.out).mono ?_
        rintro e w4 ⟨rfl, B4, k4, _⟩
        have K4 := Lib.hid k4
        have hc4 : w4.cell? ⟨B, off + k, none⟩ = some (.string T) := by rw [B4.cell hB]; exact HC.out
        clear k4 B3 K3
        go_wp2
        go_roundw
        case rel => exact ⟨k + 1, R, by omega, by go_num, rfl, B4, HN, K4⟩
        case measure => simp [intOf]; omega
      · obtain rfl : k = p.length := by omega
        go_wp2_with fail
        refine (marks_any _).mono ?_
        rintro e w1' ⟨rfl, b1⟩
        have B1' := hb.trans (b1.mono hb.size)
        have K1 := Lib.hid (HK.out.below b1)
        clear b1 hb HK
        go_wp2_with fail
        refine (CM.out _ K1.out).mono ?_
        rintro e w2 ⟨rfl, b2⟩
        have B2 := B1'.trans (b2.mono B1'.size)
        have K2 := Lib.hid (K1.out.below b2)
        clear b2 B1' K1
        go_wp2_with fail
        refine (CR.out _).mono ?_
        rintro e w3 ⟨rfl, b3⟩
        have B3 := B2.trans (b3.mono B2.size)
        have K3 := Lib.hid (K2.out.below b3)
        clear b3 B2 K2
        go_wp2_with fail
        refine (CN.out _ K3.out).mono ?_
        rintro e w' ⟨rfl, rfl⟩
        go_wp2
        go_ret
        exact ⟨rfl, B3⟩
  · clear hb
    go_wp2
    go_ret
    exact ⟨rfl, Below.refl _ _⟩

end Go.Proofs.Ytmdpilpghcapbaa
