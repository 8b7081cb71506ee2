/- Paths that are clean, what stands behind a scheme that is not ranked, digits, an address' text: the document's. -/
import Derived.Test.YtmfejcmhbncchaaGreatDoorRefB
import Derived.Test.YtmfejcmhbncchaaGreatDoorWalkZ
namespace Go.Proofs.YtmfejcmhbncchaaGreatDoor
open Go.RowKit

/-! Digits. -/
set_option maxRecDepth 100000 in
set_option maxHeartbeats 2000000 in
theorem digits_any (n : Nat) (hn : n ≤ 65535) (T : ByteArray) (hT : T.data.toList = Lib.decDigits n) (w : World) : Calls Tryz.prog 40 #[.int .i64 (n : Int)] w fun e w' => e = .returned (.string T) ∧ w' = w := by
  induction n using Nat.strongRecOn generalizing T w with
  | _ n ih =>
    by_cases h10 : n < 10
    · rw [Lib.decDigits, dif_pos h10] at hT
      have hc : n = 0 ∨ n = 1 ∨ n = 2 ∨ n = 3 ∨ n = 4 ∨ n = 5 ∨ n = 6 ∨ n = 7 ∨ n = 8 ∨ n = 9 := by omega
      clear ih
      rcases hc with rfl | rfl | rfl | rfl | rfl | rfl | rfl | rfl | rfl | rfl
      all_goals
        obtain rfl := text_is hT
        clear hT
        go_enter Tryz.func40, Tryz.ntmps40
        go_wp2
        go_ret
        exact ⟨rfl, rfl⟩
    · rw [Lib.decDigits, dif_neg h10] at hT
      obtain ⟨T1, hT1⟩ := text_of (Lib.decDigits (n / 10))
      obtain ⟨T2, hT2⟩ := text_of (Lib.decDigits (n % 10))
      have e2 : Lib.decDigits (n % 10) = [UInt8.ofNat (48 + n % 10)] := by rw [Lib.decDigits, dif_pos (by omega)]
      have CA : Hid (∀ W, Calls Tryz.prog 40 #[.int .i64 ((n : Int) / 10)] W fun e w' => e = .returned (.string T1) ∧ w' = W) := Lib.hid fun W => by
        have := ih (n / 10) (by omega) (by omega) T1 hT1 W
        rw [Int.natCast_ediv] at this; exact this
      have CB : Hid (∀ W, Calls Tryz.prog 40 #[.int .i64 ((n : Int) % 10)] W fun e w' => e = .returned (.string T2) ∧ w' = W) := Lib.hid fun W => by
        have := ih (n % 10) (by omega) (by omega) T2 hT2 W
        rw [Int.natCast_emod] at this; exact this
      have hadd := add_to T1 T2 T (by rw [hT, hT1, hT2, e2]) (by
        have h1 := dec_len (n / 10)
        have h2 := dec_len (n % 10)
        rw [← hT1, lsize] at h1
        rw [← hT2, lsize] at h2
        omega)
      have hz : ¬ (n : Int) < 10 := by omega
      clear ih hT hT1 hT2 e2 h10
      go_enter Tryz.func40, Tryz.ntmps40
      go_wp2_with fail
      refine (CA.out _).mono ?_
      rintro e w ⟨rfl, rfl⟩
      go_wp2_with fail
      refine (CB.out _).mono ?_
      rintro e w ⟨rfl, rfl⟩
      go_wp2
      go_ret
      exact ⟨rfl, rfl⟩
theorem digits_hid (p : Int) (h0 : 0 ≤ p) (h1 : p ≤ 65535) (T : ByteArray) (hT : T.data.toList = Lib.decDigits p.toNat) : Hid (∀ W, Calls Tryz.prog 40 #[.int .i64 p] W fun e w' => e = .returned (.string T) ∧ w' = W) := Lib.hid fun W => by
  have := digits_any p.toNat (by omega) T hT W
  rw [show ((p.toNat : Nat) : Int) = p by omega] at this
  exact this

end Go.Proofs.YtmfejcmhbncchaaGreatDoor
