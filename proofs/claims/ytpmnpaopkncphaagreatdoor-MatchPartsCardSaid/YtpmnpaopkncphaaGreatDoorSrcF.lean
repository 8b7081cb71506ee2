/- The word of a place: the program's. -/
import Derived.Test.YtpmnpaopkncphaaGreatDoorSrcD
namespace Go.Proofs.YtpmnpaopkncphaaGreatDoor
open Go.RowKit

/-- What stands ahead of a place's path, as the program lays it. -/
def placeT (s h : List UInt8) (b : Bool) (p : Int) : List UInt8 := schT s ++ ((if b then 42 :: (if h.isEmpty then [] else [46]) else []) ++ (h ++ sportT p))
theorem placeT_word (k : Int) (t s h : ByteArray) (b : Bool) (p : Int) (pa : ByteArray) : placeT s.data.toList h.data.toList b p ++ pa.data.toList = schT (srcM k t s h b p pa).s ++ (frontS (srcM k t s h b p pa) ++ (sportT p ++ pa.data.toList)) := by
  unfold placeT frontS srcM
  simp
theorem add_step (S T : ByteArray) (n m : Nat) (hS : S.size ≤ n) (hT : T.size ≤ m) (hn : n + m ≤ 4000000) : ∃ R : ByteArray, R.data.toList = S.data.toList ++ T.data.toList ∧ R.size ≤ n + m ∧ ∀ W, (Op.stringOp .add S T).run Tryz.prog W = .ok (.string R) W := by
  obtain ⟨R, hR⟩ := text_of (S.data.toList ++ T.data.toList)
  refine ⟨R, hR, ?_, add_to S T R hR (by omega)⟩
  rw [← lsize, hR, List.length_append, lsize, lsize]
  omega

end Go.Proofs.YtpmnpaopkncphaaGreatDoor
