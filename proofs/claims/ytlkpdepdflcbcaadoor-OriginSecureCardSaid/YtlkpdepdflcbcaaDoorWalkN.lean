/- A path cleaned: the document's. -/
import Derived.Test.YtlkpdepdflcbcaaDoorWalkM
namespace Go.Proofs.YtlkpdepdflcbcaaDoor
open Go.RowKit

theorem stepC_dot (acc : List (List UInt8)) : stepC acc [46] = acc := rfl
theorem stepC_up (acc : List (List UInt8)) : stepC acc [46, 46] = acc.dropLast := rfl
theorem stepC_in {acc : List (List UInt8)} {x : List UInt8} (h1 : x ≠ [46]) (h2 : x ≠ [46, 46]) : stepC acc x = acc ++ [x] := by
  unfold stepC
  rw [if_neg h1, if_neg h2]
theorem wt_take (Z : List (List UInt8)) (k : Nat) : wt (Z.take k) ≤ wt Z := by
  unfold wt slashed
  rw [← List.take_append_drop k Z, List.flatMap_append]
  simp

end Go.Proofs.YtlkpdepdflcbcaaDoor
