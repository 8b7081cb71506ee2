/- The library's ParseUint at base 10, of at most eight bytes. -/
import Derived.Test.YtccmmeehiafbiaaDoorEntC
namespace Go.Proofs.YtccmmeehiafbiaaDoor
open Go.RowKit

set_option maxHeartbeats 8000000 in
set_option maxRecDepth 100000 in
theorem parse10_any (t : ByteArray) (ht : t.size ≤ 8) (w : World) :
    Calls Tryd.prog 35 #[.string t, .int .i64 10, .int .i64 32] w fun e w' => e = .returned (parseV 10 t.data.toList) ∧ Below w.heap.size w w' := by
  by_cases h0 : t.size = 0
  · have e : t.data.toList = [] := List.length_eq_zero_iff.1 (by rw [lsize]; exact h0)
    obtain rfl : t = ⟨#[]⟩ := text_is e
    rw [parseV_no (B := 10) (l := []) (by rfl)]
    clear h0 e ht
    go_enter Tryd.func35, Tryd.ntmps35
    go_wp2
    go_ret2
    exact ⟨rfl, Below.refl _ _⟩
  have hemp : t.toList.isEmpty = false := by
    rw [text_empty]
    cases hq : t.data.toList with
    | nil => exact absurd (by rw [← lsize, hq]; rfl) h0
    | cons a r => rfl
  have hcv := Lib.run_convert_string_bytes (P := Tryd.prog) w 9 35 5 t (u := .string) Tryd.underlying9 Tryd.underlying35 Tryd.underlying5
  have hB : ∀ j, j < t.size → (Lib.bytesWorld w 5 t).cell? ⟨w.heap.size, j, none⟩ = some (.int .u8 (t.data.toList.getD j 0).toNat) := fun j hj => Lib.bytesWorld_cell w 5 t j hj
  have hbb := Lib.bytesWorld_below w 5 t
  obtain ⟨W1, hW1⟩ : ∃ W1, W1 = Lib.bytesWorld w 5 t := ⟨_, rfl⟩
  rw [← hW1] at hcv hB hbb
  clear hW1
  obtain ⟨bs, hL⟩ : ∃ bs, bs = t.data.toList := ⟨_, rfl⟩
  have hLn : bs.length = t.size := by rw [hL, lsize]
  rw [← hL] at hB ⊢
  clear hL
  have HNE : Hid (numD 10 bs = numF 10 0 bs) := Lib.hid (if_neg (fun h => h0 (by rw [← hLn, h]; rfl)))
  have HB := Lib.hid hB
  have HLn := Lib.hid hLn
  have hmv : IntKind.u64.wrap (IntKind.u64.wrap 4294967296 - 1) = 4294967295 := by
    rw [IntKind.wrap_u64, IntKind.wrap_u64]
    decide
  clear hB hLn
  go_enter Tryd.func35, Tryd.ntmps35
  go_wp2
  go_loop [12, 13, 101] (fun vu vn vi => ∃ (k acc : Nat) (a : Int), vu = .bool false ∧ vn = .int .u64 a ∧ vi = .int .i64 k ∧ k ≤ t.size ∧ Hid (a = (acc : Int) ∧ acc + 1 ≤ 10 ^ k ∧ numF 10 0 bs = numF 10 acc (bs.drop k)))
    (fun _ _ vi => t.size - (intOf vi).toNat)
  case atStart => exact ⟨0, 0, 0, rfl, rfl, rfl, by omega, rfl, by decide, rfl⟩
  case round =>
    obtain ⟨k, acc, a, rfl, rfl, rfl, hk, hh⟩ := hrel
    obtain ⟨ha, hacc, hdec⟩ := hh.out
    clear hh
    have a0 : 0 ≤ a := by omega
    by_cases hkn : k < t.size
    · have hpw : 10 ^ k ≤ 10 ^ 7 := Nat.pow_le_pow_right (by decide) (by omega)
      have hpw8 : 10 ^ (k + 1) = 10 ^ k * 10 := Nat.pow_succ _ _
      have hacc7 : acc ≤ 9999999 := by
        have : 10 ^ 7 = 10000000 := by decide
        omega
      have a1 : a ≤ 9999999 := by omega
      have hLn := HLn.out
      have hc := HB.out k hkn
      have hdrop : bs.drop k = bs[k]'(by omega) :: bs.drop (k + 1) := List.drop_eq_getElem_cons (by omega)
      have hget : bs.getD k 0 = bs[k]'(by omega) := by simp [List.getD, List.getElem?_eq_getElem (show k < bs.length by omega)]
      rw [hdrop] at hdec
      rw [hget] at hc
      generalize bs[k]'(by omega) = c at hc hdec
      have hc256 : c.toNat < 256 := c.toNat_lt
      clear hdrop hget hLn
      by_cases hdig : 48 ≤ c.toNat ∧ c.toNat ≤ 57
      · obtain ⟨hd0, hd1⟩ := hdig
        have hs := dig_digit 10 (by decide) c hd0 hd1
        have HN : Hid (a * 10 + ((c.toNat : Int) - 48) = ((acc * 10 + (c.toNat - 48) : Nat) : Int) ∧ acc * 10 + (c.toNat - 48) + 1 ≤ 10 ^ (k + 1) ∧ numF 10 0 bs = numF 10 (acc * 10 + (c.toNat - 48)) (bs.drop (k + 1))) := Lib.hid ⟨by omega, by rw [hpw8]; omega, by rw [hdec, numF_step hs]⟩
        clear hacc hacc7 hdec ha hs hpw hpw8
        go_wp2
        refine ⟨⟨k + 1, acc * 10 + (c.toNat - 48), a * 10 + ((c.toNat : Int) - 48), rfl, (by first | rfl | (congr 1; omega)), (by first | rfl | (congr 1; omega)), by omega, HN⟩, by simp [intOf]; omega⟩
      · have HV : Hid (parseV 10 bs = .tuple #[.int .u64 0, .iface 67 (.int .i64 2)]) := Lib.hid (parseV_no (by rw [HNE.out, hdec, numF_stop (dig_ten c hdig)]))
        clear hacc hacc7 hdec ha hpw hpw8
        by_cases h95 : c = 95
        · subst h95
          have C := low95_hid
          clear hdig
          go_wp2_with (go_at_call 43; refine (C.out _).mono ?_; rintro e w' ⟨rfl, rfl⟩)
          go_ret2
          exact ⟨by rw [HV.out]; rfl, hbb⟩
        · have g95 : ((c.toNat : Int) == 95) = false := by rw [beq_eq_false_iff_ne]; exact fun h => h95 (byte_is (d := 95) h)
          obtain ⟨L, hL⟩ : ∃ L, lowI c = L := ⟨_, rfl⟩
          have C := low_hid c L hL
          have hv0 : 0 ≤ L := by rw [← hL]; unfold lowI; omega
          have hv1 : L ≤ 255 := by rw [← hL]; unfold lowI; have := (c ||| 32).toNat_lt; omega
          clear hL h95
          go_wp2_with (go_at_call 43; refine (C.out _).mono ?_; rintro e w' ⟨rfl, rfl⟩)
          all_goals go_ret2
          all_goals exact ⟨by rw [HV.out]; rfl, hbb⟩
    · have hkk : k = t.size := by omega
      subst hkk
      have HV : Hid (parseV 10 bs = .tuple #[.int .u64 a, .nilIface]) := Lib.hid (by
        rw [ha]
        exact parseV_yes (by rw [HNE.out, hdec, List.drop_eq_nil_of_le (by rw [HLn.out]; exact Nat.le_refl _)]; rfl))
      clear hacc hdec ha
      go_wp2
      go_ret2
      exact ⟨by rw [HV.out]; rfl, hbb⟩
end Go.Proofs.YtccmmeehiafbiaaDoor
