/- Marks as plain mathematics: two numbers off a list of bytes, four bytes of a number, the sixteen bytes. -/
namespace Go.Proofs.YtaldjkbnngeahaaGreatDoor

def stp (f n : Nat) (b : UInt8) : Nat := (n * f + b.toNat + 1) % 1000000007
def rx (l : List UInt8) : Nat := l.foldl (stp 257) 7
def ry (l : List UInt8) : Nat := l.foldl (stp 65539) 11
def fourM (n : Nat) : List UInt8 := [(n / 16777216).toUInt8, (n / 65536).toUInt8, (n / 256).toUInt8, n.toUInt8]
def markL (l : List UInt8) : List UInt8 := fourM (rx l) ++ fourM (ry l) ++ fourM (rx l * ry l % 1000000007) ++ fourM (l.length % 1000000007)

theorem stp_lt (f n : Nat) (b : UInt8) : stp f n b ≤ 1000000006 := by
  have := Nat.mod_lt (n * f + b.toNat + 1) (show 1000000007 > 0 by decide)
  unfold stp; omega
theorem fold_lt (f : Nat) (l : List UInt8) (n : Nat) (h : n ≤ 1000000006) : l.foldl (stp f) n ≤ 1000000006 := by
  induction l generalizing n with
  | nil => exact h
  | cons b l ih => exact ih _ (stp_lt f n b)
theorem rx_lt (l : List UInt8) : rx l ≤ 1000000006 := fold_lt _ _ _ (by decide)
theorem ry_lt (l : List UInt8) : ry l ≤ 1000000006 := fold_lt _ _ _ (by decide)
theorem rx_snoc (l : List UInt8) (b : UInt8) : rx (l ++ [b]) = stp 257 (rx l) b := by simp [rx]
theorem ry_snoc (l : List UInt8) (b : UInt8) : ry (l ++ [b]) = stp 65539 (ry l) b := by simp [ry]
theorem mul_lt (a b : Nat) (h1 : a ≤ 1000000006) (h2 : b ≤ 1000000006) : a * b ≤ 1000000012000000036 := Nat.le_trans (Nat.mul_le_mul h1 h2) (by decide)
end Go.Proofs.YtaldjkbnngeahaaGreatDoor
