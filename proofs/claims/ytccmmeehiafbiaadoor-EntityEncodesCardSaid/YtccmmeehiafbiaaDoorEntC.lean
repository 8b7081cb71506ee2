/- The library's ParseUint, at bases 10 and 16, of at most eight bytes; the number between & and ;: the program's. -/
import Derived.Test.YtccmmeehiafbiaaDoorEntB
import Derived.Laws.Closers25
import Derived.Laws.Closers25b
import Derived.Lib.ConvBytes
namespace Go.Proofs.YtccmmeehiafbiaaDoor
open Go.RowKit

theorem byte_all {p : UInt8 → Prop} (h : ∀ n : Fin 256, p (UInt8.ofNat n.val)) (b : UInt8) : p b := by
  have := h ⟨b.toNat, b.toNat_lt⟩
  simpa using this
/-- A letter made small. -/
def lowI (c : UInt8) : Int := ((c ||| 32).toNat : Int)
theorem lowI_bits (c : UInt8) : bits .or .u8 (c.toNat : Int) 32 = lowI c := by
  revert c; exact byte_all (by decide +kernel)
theorem low_hid (c : UInt8) (L : Int) (h : lowI c = L) : Hid (∀ W, Calls Tryd.prog 43 #[.int .u8 (c.toNat : Int)] W fun e w' => e = .returned (.int .u8 L) ∧ w' = W) := Lib.hid fun W => by
  rw [← h, ← lowI_bits]
  exact Tryd.internal_strconv_lower _ W
theorem low95_hid : Hid (∀ W, Calls Tryd.prog 43 #[.int .u8 95] W fun e w' => e = .returned (.int .u8 127) ∧ w' = W) := Lib.hid fun W => by
  have h := Tryd.internal_strconv_lower 95 W
  rw [show bits .or .u8 95 32 = 127 by decide +kernel] at h
  exact h
theorem low95 : ((95 : UInt8).toNat : Int) = 95 := rfl
theorem dig_digit (B : Nat) (hB : 10 ≤ B) (c : UInt8) (h0 : 48 ≤ c.toNat) (h1 : c.toNat ≤ 57) : digM B c = some (c.toNat - 48) := by
  unfold digM
  simp only
  rw [if_pos ⟨h0, h1⟩, if_pos (by omega)]
theorem dig_ten (c : UInt8) (h : ¬ (48 ≤ c.toNat ∧ c.toNat ≤ 57)) : digM 10 c = none := by
  unfold digM
  simp only
  rw [if_neg h]
  repeat' split
  all_goals first
    | rfl
    | (exfalso; omega)
theorem dig_low (c : UInt8) : (48 ≤ c.toNat ∧ c.toNat ≤ 57) ∨ (97 ≤ lowI c ∧ lowI c ≤ 102 ∧ digM 16 c = some (lowI c - 87).toNat) ∨ (¬ (97 ≤ lowI c ∧ lowI c ≤ 102) ∧ digM 16 c = none) := by
  revert c; exact byte_all (by decide +kernel)

def parseV (B : Nat) (l : List UInt8) : Value := match numD B l with
  | some n => .tuple #[.int .u64 (n : Int), .nilIface]
  | none => .tuple #[.int .u64 0, .iface 67 (.int .i64 2)]
theorem parseV_yes {B n : Nat} {l : List UInt8} (h : numD B l = some n) : parseV B l = .tuple #[.int .u64 (n : Int), .nilIface] := by unfold parseV; rw [h]
theorem parseV_no {B : Nat} {l : List UInt8} (h : numD B l = none) : parseV B l = .tuple #[.int .u64 0, .iface 67 (.int .i64 2)] := by unfold parseV; rw [h]
theorem numF_step {B : Nat} {n d : Nat} {c : UInt8} {r : List UInt8} (h : digM B c = some d) : numF B n (c :: r) = numF B (n * B + d) r := by
  conv => lhs; unfold numF
  rw [h]
theorem numF_stop {B : Nat} {n : Nat} {c : UInt8} {r : List UInt8} (h : digM B c = none) : numF B n (c :: r) = none := by
  unfold numF; rw [h]

end Go.Proofs.YtccmmeehiafbiaaDoor
