/- A piece of the bytes that came in; the part that is written over. -/
import Derived.Test.YtnchaidmbdalbaaDoorFeedsA
import Derived.Test.YtnchaidmbdalbaaDoorApp
namespace Go.Proofs.YtnchaidmbdalbaaDoor
open Go.RowKit

theorem elem22 : Tryd.prog.elem 22 = 5 := by simp [Program.elem, Tryd.underlying22]
theorem cut_in {w : World} {a : Option Addr} {c : Nat} {l : List UInt8} (hv : BytesIn w (.slice a l.length c) l) (hc : l.length ≤ c) (lo hi : Nat) (h1 : lo ≤ hi) (h2 : hi ≤ l.length) :
    BytesIn w (sliced a lo hi c 1) ((l.drop lo).take (hi - lo)) := by
  have hlen : ((l.drop lo).take (hi - lo)).length = hi - lo := by simp; omega
  unfold sliced
  by_cases h : lo = hi
  · subst h
    refine .inl ⟨⟨_, _, by rw [Nat.sub_self]⟩, by simp⟩
  · rcases hv with ⟨_, h0⟩ | ⟨B, off, cap, hs, hcell⟩
    · rw [h0] at h2; simp at h2; omega
    · cases hs
      have hne : ¬ c = lo := by omega
      refine .inr ⟨B, off + lo, c - lo, ?_, fun j hj => ?_⟩
      · rw [hlen, if_neg hne, Nat.mul_one]
        simp only [Option.map_some]
        congr 2
        unfold Addr.add
        split <;> simp_all
      · have hj' : lo + j < l.length := by rw [hlen] at hj; omega
        have := hcell (lo + j) hj'
        rw [Nat.add_assoc, this]
        simp
theorem run_cut {a : Option Addr} {len c : Nat} (lo hi : Nat) (h1 : lo ≤ hi) (h2 : hi ≤ c) (W : World) :
    (Instr.slice 22 (.slice a len c) (some (.int .i64 (lo : Int))) (some (.int .i64 (hi : Int))) none).run Tryd.prog W = .ok (sliced a lo hi c 1) W := by
  have hz : ∀ w, (Go.sizeOf 5).run Tryd.prog w = .ok 1 w := Tryd.sizeOf5
  rw [run_slice_lh W 22 a len c (by rw [elem22]; exact Tryd.underlying22) .i64 .i64 _ _ (by omega) (by omega) (by omega), elem22, hz]
  simp [Result.andThen]
theorem run_cut0 {a : Option Addr} {len c : Nat} (hi : Nat) (h2 : hi ≤ c) (W : World) :
    (Instr.slice 22 (.slice a len c) none (some (.int .i64 (hi : Int))) none).run Tryd.prog W = .ok (sliced a 0 hi c 1) W := by
  have hz : ∀ w, (Go.sizeOf 5).run Tryd.prog w = .ok 1 w := Tryd.sizeOf5
  rw [run_slice_h W 22 a len c (by rw [elem22]; exact Tryd.underlying22) .i64 _ (by omega) (by omega), elem22, hz]
  simp [Result.andThen]

end Go.Proofs.YtnchaidmbdalbaaDoor
