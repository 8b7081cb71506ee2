/- The law of moves, over arguments. -/
import Derived.Test.YtcmbkhlnigbooaaArgs
import Derived.Test.YtcmbkhlnigbooaaLwM
namespace Go.Proofs.Ytcmbkhlnigbooaa.Dm
open Go.RowKit

theorem moves_law {W : World} {v : Value} {D : List Nd} (h : ArgDoc W v D) (q n : Int) : Calls Try.prog 5 #[v, .int .i64 q, .int .i64 n] W fun e w' => e = .returned (.bool true) ∧ Below W.heap.size W w' := by
  obtain ⟨sl, rfl, h1, h2⟩ := h
  exact (moves_hid D h2.1 h2.2 q n).out W sl h1

end Go.Proofs.Ytcmbkhlnigbooaa.Dm
