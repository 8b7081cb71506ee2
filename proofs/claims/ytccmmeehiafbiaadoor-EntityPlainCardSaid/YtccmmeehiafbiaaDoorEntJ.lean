/- The laws of layer 13. -/
import Derived.Test.YtccmmeehiafbiaaDoorEntI
namespace Go.Proofs.YtccmmeehiafbiaaDoor
open Go.RowKit

theorem self_eq (T : ByteArray) : (T.toList == T.toList) = true := by simp
theorem refEncode_hid (s T : ByteArray) (hT : T.data.toList = encT s.data.toList) (hs : s.size ≤ 100000) : Hid (∀ W, Calls Tryd.prog 16 #[.string s] W fun e w' => e = .returned (.string T) ∧ w' = W) := Lib.hid fun W => by
  rw [text_is hT]; exact refEncode_any s hs W

set_option maxRecDepth 100000 in
set_option maxHeartbeats 4000000 in
theorem encodes_law (s : ByteArray) (w : World) (hw : Low w) : Calls Tryd.prog 4 #[.string s] w fun e w' => e = .returned (.bool true) ∧ Below w.heap.size w w' := by
  by_cases hl : s.size ≤ 2000
  · have z : (s.size : Int) ≤ 2000 := by omega
    obtain ⟨T, hT⟩ := text_of (encT s.data.toList)
    have C1 := signs_hid
    have C2 := encode_hid s T hT (by omega)
    have C3 := refEncode_hid s T hT (by omega)
    have g := self_eq T
    have HW := Lib.hid hw
    clear hT hw hl
    go_enter Tryd.func4, Tryd.ntmps4
    go_wp2_with fail
    (with_reducible refine (C1.out _ HW.out).mono ?_)
    rintro e w1 ⟨rfl, b1⟩
    go_wp2_with fail
    (with_reducible refine (C2.out _ (HW.out.below b1).s).mono ?_)
    rintro e w2 ⟨rfl, b⟩
    have b2 := b1.trans (b.mono b1.size)
    clear b
    go_wp2_with fail
    (with_reducible refine (C3.out _).mono ?_)
    rintro e w2 ⟨rfl, rfl⟩
    go_wp2
    go_ret
    exact ⟨rfl, b2⟩
  · have z : ¬ (s.size : Int) ≤ 2000 := by omega
    have z2 : (2000 : Int) < (s.size : Int) := by omega
    clear hl hw
    go_enter Tryd.func4, Tryd.ntmps4
    go_wp2
    go_ret
    exact ⟨rfl, Below.refl _ _⟩

set_option maxRecDepth 100000 in
set_option maxHeartbeats 4000000 in
theorem names_law (s : ByteArray) (w : World) (hw : Low w) : Calls Tryd.prog 7 #[.string s] w fun e w' => e = .returned (.bool true) ∧ Below w.heap.size w w' := by
  by_cases hl : s.size ≤ 2000
  · have z : (s.size : Int) ≤ 2000 := by omega
    obtain ⟨T, hT⟩ := text_of (nameM s.data.toList)
    obtain ⟨D0, hD0⟩ := text_of (38 :: s.data.toList)
    obtain ⟨D, hD⟩ := text_of (38 :: s.data.toList ++ [59])
    have hD0s : D0.size = s.size + 1 := by rw [← lsize, hD0, ← lsize s]; rfl
    have hDs : D.size = s.size + 2 := by rw [← lsize, hD, ← lsize s]; simp
    have a1 := add_to ⟨#[38]⟩ s D0 hD0 (by show 1 + s.size ≤ _; omega)
    have a2 := add_to D0 ⟨#[59]⟩ D (by rw [hD, hD0]) (by show D0.size + 1 ≤ _; omega)
    have C1 := signs_hid
    have HW := Lib.hid hw
    have g := self_eq T
    by_cases hn : nameM s.data.toList = []
    · have C2 := nameP_hid s T hT false (decide_eq_false (fun h => h hn))
      obtain rfl : T = ⟨#[]⟩ := text_is (hT.trans hn)
      obtain ⟨U, hU⟩ := text_of (decT 0 D.data.toList).1
      have C3 := decode_hid D U (decT 0 D.data.toList).2 (by rw [hU]) (by omega)
      obtain ⟨p, hp⟩ : ∃ p, (decT 0 D.data.toList).2 = p := ⟨_, rfl⟩
      rw [hp] at C3
      clear hT hw hl hn hU hD hD0 hDs hD0s hp
      go_enter Tryd.func7, Tryd.ntmps7
      go_wp2_with fail
      (with_reducible refine (C2.out _ HW.out.s).mono ?_)
      rintro e w1 ⟨rfl, b1⟩
      go_wp2_with fail
      (with_reducible refine (C3.out _ (HW.out.below b1)).mono ?_)
      rintro e w2 ⟨a, k, rfl, -, b⟩
      have b2 := b1.trans (b.mono b1.size)
      clear b
      go_wp2_with fail
      (with_reducible refine (C1.out _ (HW.out.below b2)).mono ?_)
      rintro e w3 ⟨rfl, b⟩
      have b3 := b2.trans (b.mono b2.size)
      clear b
      go_wp2
      go_ret
      exact ⟨rfl, b3⟩
    · have C2 := nameP_hid s T hT true (decide_eq_true hn)
      have C3 := decode_hid D T [] (by rw [hD, hT]; exact dec_name _ hn) (by omega)
      clear hT hw hl hn hD hD0 hDs hD0s
      go_enter Tryd.func7, Tryd.ntmps7
      go_wp2_with fail
      (with_reducible refine (C2.out _ HW.out.s).mono ?_)
      rintro e w1 ⟨rfl, b1⟩
      go_wp2_with fail
      (with_reducible refine (C3.out _ (HW.out.below b1)).mono ?_)
      rintro e w2 ⟨a, k, rfl, -, b⟩
      have b2 := b1.trans (b.mono b1.size)
      clear b
      go_wp2_with fail
      (with_reducible refine (C1.out _ (HW.out.below b2)).mono ?_)
      rintro e w3 ⟨rfl, b⟩
      have b3 := b2.trans (b.mono b2.size)
      clear b
      go_wp2
      go_ret
      exact ⟨rfl, b3⟩
  · have z : ¬ (s.size : Int) ≤ 2000 := by omega
    have z2 : (2000 : Int) < (s.size : Int) := by omega
    clear hl hw
    go_enter Tryd.func7, Tryd.ntmps7
    go_wp2
    go_ret
    exact ⟨rfl, Below.refl _ _⟩

set_option maxRecDepth 100000 in
set_option maxHeartbeats 4000000 in
theorem joins_law (a b : ByteArray) (w : World) (hw : Low w) : Calls Tryd.prog 8 #[.string a, .string b] w fun e w' => e = .returned (.bool true) ∧ Below w.heap.size w w' := by
  have z0 : (0 : Int) ≤ (a.size : Int) := by omega
  by_cases hl : a.size ≤ 2000 ∧ b.size ≤ 2000
  · obtain ⟨ha, hb⟩ := hl
    have z : (a.size : Int) ≤ 2000 := by omega
    have z' : (b.size : Int) ≤ 2000 := by omega
    obtain ⟨AB, hAB⟩ := text_of (a.data.toList ++ b.data.toList)
    have hABs : AB.size = a.size + b.size := by rw [← lsize, hAB, List.length_append, lsize, lsize]
    have a1 := add_to a b AB hAB (by omega)
    obtain ⟨TA, hTA⟩ := text_of (encT a.data.toList)
    obtain ⟨TB, hTB⟩ := text_of (encT b.data.toList)
    obtain ⟨R, hR⟩ := text_of (encT AB.data.toList)
    have la := encT_len a.data.toList
    have lb := encT_len b.data.toList
    rw [← hTA, lsize, lsize] at la
    rw [← hTB, lsize, lsize] at lb
    obtain ⟨la1, la2⟩ := la
    obtain ⟨_, lb2⟩ := lb
    have a2 := add_to TA TB R (by rw [hR, hAB, encT_append, hTA, hTB]) (by omega)
    have z3 : (a.size : Int) ≤ (TA.size : Int) := by omega
    have C1 := signs_hid
    have C2 := encode_hid AB R hR (by omega)
    have C3 := encode_hid a TA hTA (by omega)
    have C4 := encode_hid b TB hTB (by omega)
    have g := self_eq R
    have HW := Lib.hid hw
    clear hw hAB hABs hTA hTB hR
    go_enter Tryd.func8, Tryd.ntmps8
    go_wp2_with fail
    (with_reducible refine (C1.out _ HW.out).mono ?_)
    rintro e w1 ⟨rfl, b1⟩
    go_wp2_with fail
    (with_reducible refine (C2.out _ (HW.out.below b1).s).mono ?_)
    rintro e w2 ⟨rfl, b⟩
    have b2 := b1.trans (b.mono b1.size)
    clear b
    go_wp2_with fail
    (with_reducible refine (C3.out _ (HW.out.below b2).s).mono ?_)
    rintro e w3 ⟨rfl, b⟩
    have b3 := b2.trans (b.mono b2.size)
    clear b
    go_wp2_with fail
    (with_reducible refine (C4.out _ (HW.out.below b3).s).mono ?_)
    rintro e w4 ⟨rfl, b⟩
    have b4 := b3.trans (b.mono b3.size)
    clear b
    go_wp2_with fail
    (with_reducible refine (C3.out _ (HW.out.below b4).s).mono ?_)
    rintro e w5 ⟨rfl, b⟩
    have b5 := b4.trans (b.mono b4.size)
    clear b
    go_wp2
    go_ret
    exact ⟨rfl, b5⟩
  · by_cases h1 : a.size ≤ 2000
    · have z1 : (a.size : Int) ≤ 2000 := by omega
      have z2 : (2000 : Int) < (b.size : Int) := by omega
      clear hl hw h1
      go_enter Tryd.func8, Tryd.ntmps8
      go_wp2
      go_ret
      exact ⟨rfl, Below.refl _ _⟩
    · have z2 : (2000 : Int) < (a.size : Int) := by omega
      clear hl hw h1
      go_enter Tryd.func8, Tryd.ntmps8
      go_wp2
      go_ret
      exact ⟨rfl, Below.refl _ _⟩

set_option maxRecDepth 100000 in
set_option maxHeartbeats 4000000 in
theorem back_law (s : ByteArray) (w : World) (hw : Low w) : Calls Tryd.prog 5 #[.string s] w fun e w' => e = .returned (.bool true) ∧ Below w.heap.size w w' := by
  by_cases hl : s.size ≤ 2000
  · have z : (s.size : Int) ≤ 2000 := by omega
    obtain ⟨T, hT⟩ := text_of (encT s.data.toList)
    have hTs : T.size ≤ 12000 := by
      have := (encT_len s.data.toList).2
      rw [← hT, lsize, lsize] at this
      omega
    have C1 := signs_hid
    have C2 := encode_hid s T hT (by omega)
    have C3 := decode_hid T s [] (by rw [hT]; exact dec_enc _ 0) (by omega)
    have g := self_eq s
    have HW := Lib.hid hw
    have HCL : Hid (∀ x ∈ T.data.toList, x ≠ 60 ∧ x ≠ 62 ∧ x ≠ 34 ∧ x ≠ 39) := Lib.hid (by rw [hT]; exact encT_clean _)
    clear hT hw hl
    go_enter Tryd.func5, Tryd.ntmps5
    go_wp2_with fail
    (with_reducible refine (C2.out _ HW.out.s).mono ?_)
    rintro e w1 ⟨rfl, b1⟩
    go_wp2_with fail
    (with_reducible refine (C3.out _ (HW.out.below b1)).mono ?_)
    rintro e w2 ⟨a, n, rfl, -, b⟩
    have b2 := b1.trans (b.mono b1.size)
    have HW2 := Lib.hid (HW.out.below b2)
    clear b
    go_wp2
    go_loop [6] (fun i => ∃ k : Nat, k ≤ T.size ∧ i = .int .i64 k) (fun i => T.size - (intOf i).toNat)
    case atStart => exact ⟨0, Nat.zero_le _, rfl⟩
    case round =>
      obtain ⟨k, hk, rfl⟩ := hrel
      by_cases hlt : k < T.size
      · have hkl : k < T.data.toList.length := by rw [lsize]; exact hlt
        obtain ⟨c, hc⟩ : ∃ c, T.data.toList[k]? = some c := ⟨_, List.getElem?_eq_getElem hkl⟩
        have i0 := index_at T k c hc
        obtain ⟨h1, h2, h3, h4⟩ := HCL.out c (List.mem_of_getElem? hc)
        have g1 : ((c.toNat : Int) == 60) = false := by rw [beq_eq_false_iff_ne]; exact fun h => h1 (byte_is (d := 60) h)
        have g2 : ((c.toNat : Int) == 62) = false := by rw [beq_eq_false_iff_ne]; exact fun h => h2 (byte_is (d := 62) h)
        have g3 : ((c.toNat : Int) == 34) = false := by rw [beq_eq_false_iff_ne]; exact fun h => h3 (byte_is (d := 34) h)
        have g4 : ((c.toNat : Int) == 39) = false := by rw [beq_eq_false_iff_ne]; exact fun h => h4 (byte_is (d := 39) h)
        clear h1 h2 h3 h4 hc hkl
        go_wp2
        go_round
        case rel => exact ⟨k + 1, by omega, by go_num⟩
        case measure => simp [intOf]; omega
      · obtain rfl : k = T.size := by omega
        go_wp2_with fail
        (with_reducible refine (C1.out _ HW2.out).mono ?_)
        rintro e w3 ⟨rfl, b⟩
        have b3 := b2.trans (b.mono b2.size)
        clear b
        go_wp2
        go_ret
        exact ⟨rfl, b3⟩
  · have z2 : (2000 : Int) < (s.size : Int) := by omega
    clear hl hw
    go_enter Tryd.func5, Tryd.ntmps5
    go_wp2
    go_ret
    exact ⟨rfl, Below.refl _ _⟩

set_option maxRecDepth 100000 in
set_option maxHeartbeats 4000000 in
theorem decodes_law (s n : ByteArray) (w : World) (hw : Low w) : Calls Tryd.prog 3 #[.string s, .string n] w fun e w' => e = .returned (.bool true) ∧ Below w.heap.size w w' := by
  have z0 : (0 : Int) ≤ (s.size : Int) := by omega
  by_cases hl : s.size ≤ 2000 ∧ n.size ≤ 2000
  · obtain ⟨hs, hn⟩ := hl
    have z : (s.size : Int) ≤ 2000 := by omega
    have z' : (n.size : Int) ≤ 2000 := by omega
    obtain ⟨T, hT⟩ := text_of (decT 0 s.data.toList).1
    obtain ⟨p, hp⟩ : ∃ p, (decT 0 s.data.toList).2 = p := ⟨_, rfl⟩
    have hd : decT 0 s.data.toList = (T.data.toList, p) := by rw [hT, ← hp]
    have hpl : p.length ≤ 2000 := by rw [← hp]; have := (decT_len 0 s.data.toList).2; rw [lsize] at this; omega
    obtain ⟨M, hM⟩ := text_of (nameM n.data.toList)
    obtain ⟨r, hr⟩ : ∃ r, decide (nameM n.data.toList ≠ []) = r := ⟨_, rfl⟩
    have C1 := signs_hid
    have C2 := decode_hid s T p hd (by omega)
    have C3 := refDecode_hid s T p hd (by omega)
    have C4 := nameP_hid n M hM r hr
    have C5 := refName_hid n M hM r hr
    have g := self_eq T
    have g2 := self_eq M
    have g3 : (r == r) = true := by cases r <;> rfl
    have HW := Lib.hid hw
    clear hw hT hp hd hM hr hs hn
    go_enter Tryd.func3, Tryd.ntmps3
    go_wp2_with fail
    (with_reducible refine (C2.out _ HW.out).mono ?_)
    rintro e w1 ⟨a1, k1, rfl, f1, b1⟩
    go_wp2_with fail
    (with_reducible refine (C3.out _).mono ?_)
    rintro e w2 ⟨a2, k2, rfl, f2, b⟩
    have b2 := b1.trans (b.mono b1.size)
    have f1 := f1.below b
    clear b
    go_wp2_with fail
    (with_reducible refine (C4.out _ (HW.out.below b2).s).mono ?_)
    rintro e w3 ⟨rfl, b⟩
    have b3 := b2.trans (b.mono b2.size)
    have f1 := f1.below b
    have f2 := f2.below b
    clear b
    go_wp2_with fail
    (with_reducible refine (C5.out _).mono ?_)
    rintro e w4 ⟨rfl, b⟩
    have b4 := b3.trans (b.mono b3.size)
    have f1 := f1.below b
    have f2 := f2.below b
    clear b
    go_wp2_with fail
    (with_reducible refine (C1.out _ (HW.out.below b4)).mono ?_)
    rintro e w5 ⟨rfl, b⟩
    have b5 := b4.trans (b.mono b4.size)
    have f1 := f1.below b
    have f2 := f2.below b
    clear b
    have CF := Lib.hid (fails_same p _ _ _ f1 f2 (by omega))
    clear f1 f2
    go_wp2_with fail
    (with_reducible refine CF.out.mono ?_)
    rintro e w6 ⟨rfl, b⟩
    have b6 := b5.trans (b.mono b5.size)
    clear b
    go_wp2
    go_ret
    exact ⟨rfl, b6⟩
  · by_cases h1 : s.size ≤ 2000
    · have z1 : (s.size : Int) ≤ 2000 := by omega
      have z2 : (2000 : Int) < (n.size : Int) := by omega
      clear hl hw h1
      go_enter Tryd.func3, Tryd.ntmps3
      go_wp2
      go_ret
      exact ⟨rfl, Below.refl _ _⟩
    · have z2 : (2000 : Int) < (s.size : Int) := by omega
      clear hl hw h1
      go_enter Tryd.func3, Tryd.ntmps3
      go_wp2
      go_ret
      exact ⟨rfl, Below.refl _ _⟩

end Go.Proofs.YtccmmeehiafbiaaDoor
