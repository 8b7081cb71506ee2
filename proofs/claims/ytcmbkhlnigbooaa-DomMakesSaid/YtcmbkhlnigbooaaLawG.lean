/- The law of nodes that are made, over arguments. -/
import Derived.Test.YtcmbkhlnigbooaaArgs
import Derived.Test.YtcmbkhlnigbooaaLwO
namespace Go.Proofs.Ytcmbkhlnigbooaa.Dm
open Go.RowKit

theorem makes_law {W : World} {v u : Value} {D : List Nd} {y : Nd} (h : ArgDoc W v D) (g : ArgNode W u y) : Calls Try.prog 4 #[v, u] W fun e w' => e = .returned (.bool true) ∧ Below W.heap.size W w' := by
  obtain ⟨sl, rfl, h1, h2⟩ := h
  obtain ⟨av, kv, rfl, g1, g2, g3, g4⟩ := g
  exact (makes_hid D h2.1 h2.2 y g3 g4).out W sl av kv h1 g1 g2

end Go.Proofs.Ytcmbkhlnigbooaa.Dm
