/- Marks as plain mathematics: two numbers off a list of bytes, four bytes of a number, the sixteen bytes. -/
namespace Go.Proofs.Ytmdpilpghcapbaa

def stp (f n : Nat) (b : UInt8) : Nat := (n * f + b.toNat + 1) % 1000000007
def rx (l : List UInt8) : Nat := l.foldl (stp 257) 7
def ry (l : List UInt8) : Nat := l.foldl (stp 65539) 11
def four (n : Nat) : List UInt8 := [(n / 16777216).toUInt8, (n / 65536).toUInt8, (n / 256).toUInt8, n.toUInt8]
def markL (l : List UInt8) : List UInt8 := four (rx l) ++ four (ry l) ++ four (rx l * ry l % 1000000007) ++ four (l.length % 1000000007)

theorem stp_lt (f n : Nat) (b : UInt8) : stp f n b ≤ 1000000006 := by
  have := Nat.mod_lt (n * f + b.toNat + 1) (show 1000000007 > 0 by decide)
  unfold stp; omega
theorem fold_lt (f : Nat) (l : List UInt8) (n : Nat) (h : n ≤ 1000000006) : l.foldl (stp f) n ≤ 1000000006 := by
  induction l generalizing n with
  | nil => exact h
  | cons b l ih => exact ih _ (stp_lt f n b)
theorem rx_lt (l : List UInt8) : rx l ≤ 1000000006 := fold_lt _ _ _ (by decide)
theorem ry_lt (l : List UInt8) : ry l ≤ 1000000006 := fold_lt _ _ _ (by decide)
theorem rx_snoc (l : List UInt8) (b : UInt8) : rx (l ++ [b]) = stp 257 (rx l) b := by simp [rx]
theorem ry_snoc (l : List UInt8) (b : UInt8) : ry (l ++ [b]) = stp 65539 (ry l) b := by simp [ry]
theorem mul_lt (a b : Nat) (h1 : a ≤ 1000000006) (h2 : b ≤ 1000000006) : a * b ≤ 1000000012000000036 := Nat.le_trans (Nat.mul_le_mul h1 h2) (by decide)
theorem four_length (n : Nat) : (four n).length = 4 := rfl
theorem mark_length (l : List UInt8) : (markL l).length = 16 := rfl

theorem four_inj {a b : Nat} (ha : a < 4294967296) (hb : b < 4294967296) (h : four a = four b) : a = b := by
  unfold four at h
  simp only [List.cons.injEq, ← UInt8.toNat_inj, Nat.toUInt8_eq, UInt8.toNat_ofNat', and_true] at h
  omega
/-- Texts of unlike lengths have unlike marks. -/
theorem mark_ne {a b : List UInt8} (ha : a.length ≤ 1000000000) (hb : b.length ≤ 1000000000) (h : a.length ≠ b.length) : markL a ≠ markL b := by
  intro e
  have h1 := congrArg (List.drop 12) e
  have h2 : four (a.length % 1000000007) = four (b.length % 1000000007) := h1
  have := four_inj (by omega) (by omega) h2
  omega

theorem take_snoc {s : ByteArray} {k : Nat} (h : k < s.size) : s.data.toList.take (k + 1) = s.data.toList.take k ++ [s[k]] := by
  rw [List.take_succ_eq_append_getElem (by simpa using h)]; rfl

end Go.Proofs.Ytmdpilpghcapbaa
