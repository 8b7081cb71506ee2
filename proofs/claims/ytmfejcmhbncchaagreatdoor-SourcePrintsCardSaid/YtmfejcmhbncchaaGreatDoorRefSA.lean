/- A source's path: the document's. -/
import Derived.Test.YtmfejcmhbncchaaGreatDoorRefB
import Derived.Test.YtmfejcmhbncchaaGreatDoorPureZ
namespace Go.Proofs.YtmfejcmhbncchaaGreatDoor
open Go.RowKit

theorem inS_split (b : UInt8) : inS b = (decide (33 ≤ b.toNat ∧ b.toNat ≤ 126) && !(b == 63 || (b == 35 || (b == 44 || (b == 59 || b == 58))))) := by
  unfold inS inB
  simp only [List.contains_cons, List.contains_nil, Bool.or_false]

set_option maxRecDepth 100000 in
set_option maxHeartbeats 2000000 in
theorem spath_any (s : ByteArray) (w : World) : Calls Tryz.prog 65 #[.string s] w fun e w' => e = .returned (.bool (spathM s.data.toList)) ∧ w' = w := by
  by_cases hl : (200 : Int) < (s.size : Int)
  · have HR : Hid (false = spathM s.data.toList) := Lib.hid (by unfold spathM; rw [decide_eq_false (by rw [lsize]; omega)]; rfl)
    go_enter Tryz.func65, Tryz.ntmps65
    go_wp2
    go_ret
    exact ⟨ret_bool HR.out, rfl⟩
  have hl2 : s.data.toList.length ≤ 200 := by rw [lsize]; omega
  by_cases h0 : s.size = 0
  · have he : s.data.toList = [] := List.length_eq_zero_iff.1 (by rw [lsize]; exact h0)
    have HR : Hid (true = spathM s.data.toList) := Lib.hid (by rw [he]; rfl)
    have g0 : s.toList.isEmpty = true := by rw [text_empty, he]; rfl
    obtain rfl : s = ⟨#[]⟩ := text_is he
    go_enter Tryz.func65, Tryz.ntmps65
    go_wp2
    go_loop [3] (fun i => i = .int .i64 0) (fun _ => 0)
    case atStart => rfl
    case round =>
      subst hrel
      go_wp2
      go_ret
      exact ⟨ret_bool HR.out, rfl⟩
  have hs0 : 0 < s.size := by omega
  have g0 : s.toList.isEmpty = false := by
    rw [text_empty]
    cases hd : s.data.toList with
    | nil => have := lsize s; rw [hd] at this; simp at this; omega
    | cons b l => rfl
  have g1 := int_beq s[0] 47
  rw [show (((47 : UInt8).toNat : Nat) : Int) = 47 from rfl] at g1
  have hhd : s.data.toList.head? = some s[0] := by rw [List.head?_eq_getElem?]; exact List.getElem?_eq_getElem (by rw [lsize]; exact hs0)
  cases g2 : (s[0] == 47)
  · rw [g2] at g1
    have g3 : ((s[0].toNat : Int) != 47) = true := by simp [bne, g1]
    have HR : Hid (false = spathM s.data.toList) := Lib.hid (by
      unfold spathM
      rw [hhd]
      have e : s.data.toList.isEmpty = false := by rw [← text_empty]; exact g0
      have e2 : (some s[0] == some (47 : UInt8)) = false := by simpa using g2
      rw [e, e2]; simp)
    clear hhd g1 g2
    go_enter Tryz.func65, Tryz.ntmps65
    go_wp2
    go_ret
    exact ⟨ret_bool HR.out, rfl⟩
  rw [g2] at g1
  have g3 : ((s[0].toNat : Int) != 47) = false := by simp [bne, g1]
  have HP : Hid (spathM s.data.toList = s.data.toList.all inS) := Lib.hid (by
    unfold spathM
    rw [hhd, decide_eq_true hl2]
    have e2 : (some s[0] == some (47 : UInt8)) = true := by simpa using g2
    rw [e2]; simp)
  clear hhd g1 g2
  go_enter Tryz.func65, Tryz.ntmps65
  go_wp2
  clear g3
  go_loop [3] (fun i => ∃ k : Nat, k ≤ s.size ∧ i = .int .i64 k ∧ Hid ((s.data.toList.take k).all inS = true)) (fun i => s.size - (intOf i).toNat)
  case atStart => exact ⟨0, by omega, rfl, Lib.hid rfl⟩
  case round =>
    obtain ⟨k, hk, rfl, HS⟩ := hrel
    by_cases hlt : k < s.size
    · have hst := all_step inS hlt HS.out
      have hin := inS_split s[k]
      have e1 := int_beq s[k] 63
      have e2 := int_beq s[k] 35
      have e3 := int_beq s[k] 44
      have e4 := int_beq s[k] 59
      have e5 := int_beq s[k] 58
      rw [← e1, ← e2, ← e3, ← e4, ← e5] at hin
      rw [show (((63 : UInt8).toNat : Nat) : Int) = 63 from rfl, show (((35 : UInt8).toNat : Nat) : Int) = 35 from rfl, show (((44 : UInt8).toNat : Nat) : Int) = 44 from rfl, show (((59 : UInt8).toNat : Nat) : Int) = 59 from rfl, show (((58 : UInt8).toNat : Nat) : Int) = 58 from rfl] at hin
      clear e1 e2 e3 e4 e5
      have HNO : inS s[k] = false → Hid (false = spathM s.data.toList) := fun h => Lib.hid (by rw [HP.out]; exact (hst.2 h).symm)
      have HYES : inS s[k] = true → Hid ((s.data.toList.take (k + 1)).all inS = true) := fun h => Lib.hid (hst.1 h)
      clear hst
      by_cases h1 : (s[k].toNat : Int) < 33
      · have HR := HNO (by rw [hin, decide_eq_false (by omega)]; rfl)
        clear HNO HYES hin
        go_wp2
        go_ret
        exact ⟨ret_bool HR.out, rfl⟩
      by_cases h2 : 126 < (s[k].toNat : Int)
      · have HR := HNO (by rw [hin, decide_eq_false (by omega)]; rfl)
        clear HNO HYES hin
        go_wp2
        go_ret
        exact ⟨ret_bool HR.out, rfl⟩
      rw [decide_eq_true (by omega), Bool.true_and] at hin
      cases g1 : ((s[k].toNat : Int) == 63)
      case true =>
        have HR := HNO (by rw [hin, g1]; simp)
        clear HNO HYES hin
        go_wp2
        go_ret
        exact ⟨ret_bool HR.out, rfl⟩
      cases g2 : ((s[k].toNat : Int) == 35)
      case true =>
        have HR := HNO (by rw [hin, g2]; simp)
        clear HNO HYES hin
        go_wp2
        go_ret
        exact ⟨ret_bool HR.out, rfl⟩
      cases g3 : ((s[k].toNat : Int) == 44)
      case true =>
        have HR := HNO (by rw [hin, g3]; simp)
        clear HNO HYES hin
        go_wp2
        go_ret
        exact ⟨ret_bool HR.out, rfl⟩
      cases g4 : ((s[k].toNat : Int) == 59)
      case true =>
        have HR := HNO (by rw [hin, g4]; simp)
        clear HNO HYES hin
        go_wp2
        go_ret
        exact ⟨ret_bool HR.out, rfl⟩
      cases g5 : ((s[k].toNat : Int) == 58)
      case true =>
        have HR := HNO (by rw [hin, g5]; simp)
        clear HNO HYES hin
        go_wp2
        go_ret
        exact ⟨ret_bool HR.out, rfl⟩
      have HR := HYES (by rw [hin, g1, g2, g3, g4, g5]; rfl)
      clear HNO HYES hin
      go_wp2
      go_round
      case rel => exact ⟨k + 1, by omega, by go_num, HR⟩
      case measure => simp [intOf]; omega
    · obtain rfl : k = s.size := by omega
      have HR : Hid (true = spathM s.data.toList) := Lib.hid (by
        rw [HP.out]
        have := HS.out
        rw [take_all] at this; exact this.symm)
      go_wp2
      go_ret
      exact ⟨ret_bool HR.out, rfl⟩
theorem spath_hid (s : ByteArray) (b : Bool) (h : spathM s.data.toList = b) : Hid (∀ W, Calls Tryz.prog 65 #[.string s] W fun e w' => e = .returned (.bool b) ∧ w' = W) :=
  Lib.hid fun W => by rw [← h]; exact spath_any s W

end Go.Proofs.YtmfejcmhbncchaaGreatDoor
