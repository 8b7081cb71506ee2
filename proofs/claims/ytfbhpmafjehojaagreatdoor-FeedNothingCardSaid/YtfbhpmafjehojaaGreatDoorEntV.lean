/- The library's ParseUint, at bases 10 and 16, of at most eight bytes; the number between & and ;: the program's. The library's ParseUint at base 10, of at most eight bytes. The library's ParseUint at base 16, of at most eight bytes. -/
import Derived.Laws.Closers25
import Derived.Laws.Closers25b
import Derived.Test.YtfbhpmafjehojaaGreatDoorEntU
namespace Go.Proofs.YtfbhpmafjehojaaGreatDoor
open Go.RowKit

theorem byte_all {p : UInt8 → Prop} (h : ∀ n : Fin 256, p (UInt8.ofNat n.val)) (b : UInt8) : p b := by
  have := h ⟨b.toNat, b.toNat_lt⟩
  simpa using this
/-- A letter made small. -/
def lowI (c : UInt8) : Int := ((c ||| 32).toNat : Int)
theorem lowI_bits (c : UInt8) : bits .or .u8 (c.toNat : Int) 32 = lowI c := by
  revert c; exact byte_all (by decide +kernel)
theorem low_hid (c : UInt8) (L : Int) (h : lowI c = L) : Hid (∀ W, Calls Tryz.prog 157 #[.int .u8 (c.toNat : Int)] W fun e w' => e = .returned (.int .u8 L) ∧ w' = W) := Lib.hid fun W => by
  rw [← h, ← lowI_bits]
  exact Tryz.internal_strconv_lower _ W
theorem low95_hid : Hid (∀ W, Calls Tryz.prog 157 #[.int .u8 95] W fun e w' => e = .returned (.int .u8 127) ∧ w' = W) := Lib.hid fun W => by
  have h := Tryz.internal_strconv_lower 95 W
  rw [show bits .or .u8 95 32 = 127 by decide +kernel] at h
  exact h
theorem dig_digit (B : Nat) (hB : 10 ≤ B) (c : UInt8) (h0 : 48 ≤ c.toNat) (h1 : c.toNat ≤ 57) : digM B c = some (c.toNat - 48) := by
  unfold digM
  simp only
  rw [if_pos ⟨h0, h1⟩, if_pos (by omega)]
theorem dig_ten (c : UInt8) (h : ¬ (48 ≤ c.toNat ∧ c.toNat ≤ 57)) : digM 10 c = none := by
  unfold digM
  simp only
  rw [if_neg h]
  repeat' split
  all_goals first
    | rfl
    | (exfalso; omega)
theorem dig_low (c : UInt8) : (48 ≤ c.toNat ∧ c.toNat ≤ 57) ∨ (97 ≤ lowI c ∧ lowI c ≤ 102 ∧ digM 16 c = some (lowI c - 87).toNat) ∨ (¬ (97 ≤ lowI c ∧ lowI c ≤ 102) ∧ digM 16 c = none) := by
  revert c; exact byte_all (by decide +kernel)

def parseV (B : Nat) (l : List UInt8) : Value := match numD B l with
  | some n => .tuple #[.int .u64 (n : Int), .nilIface]
  | none => .tuple #[.int .u64 0, .iface 180 (.int .i64 2)]
theorem parseV_yes {B n : Nat} {l : List UInt8} (h : numD B l = some n) : parseV B l = .tuple #[.int .u64 (n : Int), .nilIface] := by unfold parseV; rw [h]
theorem parseV_no {B : Nat} {l : List UInt8} (h : numD B l = none) : parseV B l = .tuple #[.int .u64 0, .iface 180 (.int .i64 2)] := by unfold parseV; rw [h]
theorem numF_step {B : Nat} {n d : Nat} {c : UInt8} {r : List UInt8} (h : digM B c = some d) : numF B n (c :: r) = numF B (n * B + d) r := by
  conv => lhs; unfold numF
  rw [h]
theorem numF_stop {B : Nat} {n : Nat} {c : UInt8} {r : List UInt8} (h : digM B c = none) : numF B n (c :: r) = none := by
  unfold numF; rw [h]

end Go.Proofs.YtfbhpmafjehojaaGreatDoor

namespace Go.Proofs.YtfbhpmafjehojaaGreatDoor
open Go.RowKit

set_option maxHeartbeats 8000000 in
set_option maxRecDepth 100000 in
theorem parse10_any (t : ByteArray) (ht : t.size ≤ 8) (w : World) :
    Calls Tryz.prog 154 #[.string t, .int .i64 10, .int .i64 32] w fun e w' => e = .returned (parseV 10 t.data.toList) ∧ Below w.heap.size w w' := by
  by_cases h0 : t.size = 0
  · have e : t.data.toList = [] := List.length_eq_zero_iff.1 (by rw [lsize]; exact h0)
    obtain rfl : t = ⟨#[]⟩ := text_is e
    rw [parseV_no (B := 10) (l := []) (by rfl)]
    clear h0 e ht
    go_enter Tryz.func154, Tryz.ntmps154
    go_wp2
    go_ret2
    exact ⟨rfl, Below.refl _ _⟩
  have hemp : t.toList.isEmpty = false := by
    rw [text_empty]
    cases hq : t.data.toList with
    | nil => exact absurd (by rw [← lsize, hq]; rfl) h0
    | cons a r => rfl
  have hcv := Lib.run_convert_string_bytes (P := Tryz.prog) w 9 22 5 t (u := .string) Tryz.underlying9 Tryz.underlying22 Tryz.underlying5
  have hB : ∀ j, j < t.size → (Lib.bytesWorld w 5 t).cell? ⟨w.heap.size, j, none⟩ = some (.int .u8 (t.data.toList.getD j 0).toNat) := fun j hj => Lib.bytesWorld_cell w 5 t j hj
  have hbb := Lib.bytesWorld_below w 5 t
  obtain ⟨W1, hW1⟩ : ∃ W1, W1 = Lib.bytesWorld w 5 t := ⟨_, rfl⟩
  rw [← hW1] at hcv hB hbb
  clear hW1
  obtain ⟨bs, hL⟩ : ∃ bs, bs = t.data.toList := ⟨_, rfl⟩
  have hLn : bs.length = t.size := by rw [hL, lsize]
  rw [← hL] at hB ⊢
  clear hL
  have HNE : Hid (numD 10 bs = numF 10 0 bs) := Lib.hid (if_neg (fun h => h0 (by rw [← hLn, h]; rfl)))
  have HB := Lib.hid hB
  have HLn := Lib.hid hLn
  have hmv : IntKind.u64.wrap (IntKind.u64.wrap 4294967296 - 1) = 4294967295 := by
    rw [IntKind.wrap_u64, IntKind.wrap_u64]
    decide
  clear hB hLn
  go_enter Tryz.func154, Tryz.ntmps154
  go_wp2
  go_loop [12, 13, 101] (fun vu vn vi => ∃ (k acc : Nat) (a : Int), vu = .bool false ∧ vn = .int .u64 a ∧ vi = .int .i64 k ∧ k ≤ t.size ∧ Hid (a = (acc : Int) ∧ acc + 1 ≤ 10 ^ k ∧ numF 10 0 bs = numF 10 acc (bs.drop k)))
    (fun _ _ vi => t.size - (intOf vi).toNat)
  case atStart => exact ⟨0, 0, 0, rfl, rfl, rfl, by omega, rfl, by decide, rfl⟩
  case round =>
    obtain ⟨k, acc, a, rfl, rfl, rfl, hk, hh⟩ := hrel
    obtain ⟨ha, hacc, hdec⟩ := hh.out
    clear hh
    have a0 : 0 ≤ a := by omega
    by_cases hkn : k < t.size
    · have hpw : 10 ^ k ≤ 10 ^ 7 := Nat.pow_le_pow_right (by decide) (by omega)
      have hpw8 : 10 ^ (k + 1) = 10 ^ k * 10 := Nat.pow_succ _ _
      have hacc7 : acc ≤ 9999999 := by
        have : 10 ^ 7 = 10000000 := by decide
        omega
      have a1 : a ≤ 9999999 := by omega
      have hLn := HLn.out
      have hc := HB.out k hkn
      have hdrop : bs.drop k = bs[k]'(by omega) :: bs.drop (k + 1) := List.drop_eq_getElem_cons (by omega)
      have hget : bs.getD k 0 = bs[k]'(by omega) := by simp [List.getD, List.getElem?_eq_getElem (show k < bs.length by omega)]
      rw [hdrop] at hdec
      rw [hget] at hc
      generalize bs[k]'(by omega) = c at hc hdec
      have hc256 : c.toNat < 256 := c.toNat_lt
      clear hdrop hget hLn
      by_cases hdig : 48 ≤ c.toNat ∧ c.toNat ≤ 57
      · obtain ⟨hd0, hd1⟩ := hdig
        have hs := dig_digit 10 (by decide) c hd0 hd1
        have HN : Hid (a * 10 + ((c.toNat : Int) - 48) = ((acc * 10 + (c.toNat - 48) : Nat) : Int) ∧ acc * 10 + (c.toNat - 48) + 1 ≤ 10 ^ (k + 1) ∧ numF 10 0 bs = numF 10 (acc * 10 + (c.toNat - 48)) (bs.drop (k + 1))) := Lib.hid ⟨by omega, by rw [hpw8]; omega, by rw [hdec, numF_step hs]⟩
        clear hacc hacc7 hdec ha hs hpw hpw8
        go_wp2
        refine ⟨⟨k + 1, acc * 10 + (c.toNat - 48), a * 10 + ((c.toNat : Int) - 48), rfl, (by first | rfl | (congr 1; omega)), (by first | rfl | (congr 1; omega)), by omega, HN⟩, by simp [intOf]; omega⟩
      · have HV : Hid (parseV 10 bs = .tuple #[.int .u64 0, .iface 180 (.int .i64 2)]) := Lib.hid (parseV_no (by rw [HNE.out, hdec, numF_stop (dig_ten c hdig)]))
        clear hacc hacc7 hdec ha hpw hpw8
        by_cases h95 : c = 95
        · subst h95
          have C := low95_hid
          clear hdig
          go_wp2_with (go_at_call 157; refine (C.out _).mono ?_; rintro e w' ⟨rfl, rfl⟩)
          go_ret2
          exact ⟨by rw [HV.out]; rfl, hbb⟩
        · have g95 : ((c.toNat : Int) == 95) = false := by rw [beq_eq_false_iff_ne]; exact fun h => h95 (byte_is (d := 95) h)
          obtain ⟨L, hL⟩ : ∃ L, lowI c = L := ⟨_, rfl⟩
          have C := low_hid c L hL
          have hv0 : 0 ≤ L := by rw [← hL]; unfold lowI; omega
          have hv1 : L ≤ 255 := by rw [← hL]; unfold lowI; have := (c ||| 32).toNat_lt; omega
          clear hL h95
          go_wp2_with (go_at_call 157; refine (C.out _).mono ?_; rintro e w' ⟨rfl, rfl⟩)
          all_goals go_ret2
          all_goals exact ⟨by rw [HV.out]; rfl, hbb⟩
    · have hkk : k = t.size := by omega
      subst hkk
      have HV : Hid (parseV 10 bs = .tuple #[.int .u64 a, .nilIface]) := Lib.hid (by
        rw [ha]
        exact parseV_yes (by rw [HNE.out, hdec, List.drop_eq_nil_of_le (by rw [HLn.out]; exact Nat.le_refl _)]; rfl))
      clear hacc hdec ha
      go_wp2
      go_ret2
      exact ⟨by rw [HV.out]; rfl, hbb⟩
end Go.Proofs.YtfbhpmafjehojaaGreatDoor

namespace Go.Proofs.YtfbhpmafjehojaaGreatDoor
open Go.RowKit

set_option maxHeartbeats 8000000 in
set_option maxRecDepth 100000 in
theorem parse16_any (t : ByteArray) (ht : t.size ≤ 8) (w : World) :
    Calls Tryz.prog 154 #[.string t, .int .i64 16, .int .i64 32] w fun e w' => e = .returned (parseV 16 t.data.toList) ∧ Below w.heap.size w w' := by
  by_cases h0 : t.size = 0
  · have e : t.data.toList = [] := List.length_eq_zero_iff.1 (by rw [lsize]; exact h0)
    obtain rfl : t = ⟨#[]⟩ := text_is e
    rw [parseV_no (B := 16) (l := []) (by rfl)]
    clear h0 e ht
    go_enter Tryz.func154, Tryz.ntmps154
    go_wp2
    go_ret2
    exact ⟨rfl, Below.refl _ _⟩
  have hemp : t.toList.isEmpty = false := by
    rw [text_empty]
    cases hq : t.data.toList with
    | nil => exact absurd (by rw [← lsize, hq]; rfl) h0
    | cons a r => rfl
  have hcv := Lib.run_convert_string_bytes (P := Tryz.prog) w 9 22 5 t (u := .string) Tryz.underlying9 Tryz.underlying22 Tryz.underlying5
  have hB : ∀ j, j < t.size → (Lib.bytesWorld w 5 t).cell? ⟨w.heap.size, j, none⟩ = some (.int .u8 (t.data.toList.getD j 0).toNat) := fun j hj => Lib.bytesWorld_cell w 5 t j hj
  have hbb := Lib.bytesWorld_below w 5 t
  obtain ⟨W1, hW1⟩ : ∃ W1, W1 = Lib.bytesWorld w 5 t := ⟨_, rfl⟩
  rw [← hW1] at hcv hB hbb
  clear hW1
  obtain ⟨bs, hL⟩ : ∃ bs, bs = t.data.toList := ⟨_, rfl⟩
  have hLn : bs.length = t.size := by rw [hL, lsize]
  rw [← hL] at hB ⊢
  clear hL
  have HNE : Hid (numD 16 bs = numF 16 0 bs) := Lib.hid (if_neg (fun h => h0 (by rw [← hLn, h]; rfl)))
  have HB := Lib.hid hB
  have HLn := Lib.hid hLn
  have hmv : IntKind.u64.wrap (IntKind.u64.wrap 4294967296 - 1) = 4294967295 := by
    rw [IntKind.wrap_u64, IntKind.wrap_u64]
    decide
  clear hB hLn
  go_enter Tryz.func154, Tryz.ntmps154
  go_wp2
  go_loop [12, 13, 101] (fun vu vn vi => ∃ (k acc : Nat) (a : Int), vu = .bool false ∧ vn = .int .u64 a ∧ vi = .int .i64 k ∧ k ≤ t.size ∧ Hid (a = (acc : Int) ∧ acc + 1 ≤ 16 ^ k ∧ numF 16 0 bs = numF 16 acc (bs.drop k)))
    (fun _ _ vi => t.size - (intOf vi).toNat)
  case atStart => exact ⟨0, 0, 0, rfl, rfl, rfl, by omega, rfl, by decide, rfl⟩
  case round =>
    obtain ⟨k, acc, a, rfl, rfl, rfl, hk, hh⟩ := hrel
    obtain ⟨ha, hacc, hdec⟩ := hh.out
    clear hh
    have a0 : 0 ≤ a := by omega
    by_cases hkn : k < t.size
    · have hpw : 16 ^ k ≤ 16 ^ 7 := Nat.pow_le_pow_right (by decide) (by omega)
      have hpw8 : 16 ^ (k + 1) = 16 ^ k * 16 := Nat.pow_succ _ _
      have hacc7 : acc ≤ 268435455 := by
        have : 16 ^ 7 = 268435456 := by decide
        omega
      have a1 : a ≤ 268435455 := by omega
      have hLn := HLn.out
      have hc := HB.out k hkn
      have hdrop : bs.drop k = bs[k]'(by omega) :: bs.drop (k + 1) := List.drop_eq_getElem_cons (by omega)
      have hget : bs.getD k 0 = bs[k]'(by omega) := by simp [List.getD, List.getElem?_eq_getElem (show k < bs.length by omega)]
      rw [hdrop] at hdec
      rw [hget] at hc
      generalize bs[k]'(by omega) = c at hc hdec
      have hc256 : c.toNat < 256 := c.toNat_lt
      clear hdrop hget hLn
      by_cases hdig : 48 ≤ c.toNat ∧ c.toNat ≤ 57
      · obtain ⟨hd0, hd1⟩ := hdig
        have hs := dig_digit 16 (by decide) c hd0 hd1
        have HN : Hid (a * 16 + ((c.toNat : Int) - 48) = ((acc * 16 + (c.toNat - 48) : Nat) : Int) ∧ acc * 16 + (c.toNat - 48) + 1 ≤ 16 ^ (k + 1) ∧ numF 16 0 bs = numF 16 (acc * 16 + (c.toNat - 48)) (bs.drop (k + 1))) := Lib.hid ⟨by omega, by rw [hpw8]; omega, by rw [hdec, numF_step hs]⟩
        clear hacc hacc7 hdec ha hs hpw hpw8
        go_wp2
        refine ⟨⟨k + 1, acc * 16 + (c.toNat - 48), a * 16 + ((c.toNat : Int) - 48), rfl, (by first | rfl | (congr 1; omega)), (by first | rfl | (congr 1; omega)), by omega, HN⟩, by simp [intOf]; omega⟩
      · rcases dig_low c with h | ⟨h1, h2, h3⟩ | ⟨h1, h3⟩
        · exact absurd h hdig
        · have g95 : ((c.toNat : Int) == 95) = false := by
            rw [beq_eq_false_iff_ne]
            intro h
            have h := byte_is (d := 95) h
            subst h
            exact absurd h2 (by decide)
          obtain ⟨L, hL⟩ : ∃ L, lowI c = L := ⟨_, rfl⟩
          have C := low_hid c L hL
          rw [hL] at h1 h2 h3
          have HN : Hid (a * 16 + (L - 97 + 10) = ((acc * 16 + (L - 87).toNat : Nat) : Int) ∧ acc * 16 + (L - 87).toNat + 1 ≤ 16 ^ (k + 1) ∧ numF 16 0 bs = numF 16 (acc * 16 + (L - 87).toNat) (bs.drop (k + 1))) := Lib.hid ⟨by omega, by rw [hpw8]; omega, by rw [hdec, numF_step h3]⟩
          clear hacc hacc7 hdec ha hpw hpw8 hL h3
          go_wp2_with (go_at_call 157; refine (C.out _).mono ?_; rintro e w' ⟨rfl, rfl⟩)
          all_goals refine ⟨⟨k + 1, acc * 16 + (L - 87).toNat, a * 16 + (L - 97 + 10), rfl, (by first | rfl | (congr 1; omega)), (by first | rfl | (congr 1; omega)), by omega, HN⟩, by simp [intOf]; omega⟩
        · have HV : Hid (parseV 16 bs = .tuple #[.int .u64 0, .iface 180 (.int .i64 2)]) := Lib.hid (parseV_no (by rw [HNE.out, hdec, numF_stop h3]))
          clear hacc hacc7 hdec ha hpw hpw8 h3
          by_cases h95 : c = 95
          · subst h95
            have C := low95_hid
            clear hdig h1
            go_wp2_with (go_at_call 157; refine (C.out _).mono ?_; rintro e w' ⟨rfl, rfl⟩)
            go_ret2
            exact ⟨by rw [HV.out]; rfl, hbb⟩
          have g95 : ((c.toNat : Int) == 95) = false := by rw [beq_eq_false_iff_ne]; exact fun h => h95 (byte_is (d := 95) h)
          obtain ⟨L, hL⟩ : ∃ L, lowI c = L := ⟨_, rfl⟩
          have C := low_hid c L hL
          rw [hL] at h1
          have hv0 : 0 ≤ L := by rw [← hL]; unfold lowI; omega
          have hv1 : L ≤ 255 := by rw [← hL]; unfold lowI; have := (c ||| 32).toNat_lt; omega
          clear hL h95
          by_cases h97 : 97 ≤ L
          · have h102 : 102 < L := by omega
            clear h1
            go_wp2_with (go_at_call 157; refine (C.out _).mono ?_; rintro e w' ⟨rfl, rfl⟩)
            all_goals go_ret2
            all_goals exact ⟨by rw [HV.out]; rfl, hbb⟩
          · clear h1
            go_wp2_with (go_at_call 157; refine (C.out _).mono ?_; rintro e w' ⟨rfl, rfl⟩)
            all_goals go_ret2
            all_goals exact ⟨by rw [HV.out]; rfl, hbb⟩
    · have hkk : k = t.size := by omega
      subst hkk
      have HV : Hid (parseV 16 bs = .tuple #[.int .u64 a, .nilIface]) := Lib.hid (by
        rw [ha]
        exact parseV_yes (by rw [HNE.out, hdec, List.drop_eq_nil_of_le (by rw [HLn.out]; exact Nat.le_refl _)]; rfl))
      clear hacc hdec ha
      go_wp2
      go_ret2
      exact ⟨by rw [HV.out]; rfl, hbb⟩
end Go.Proofs.YtfbhpmafjehojaaGreatDoor
