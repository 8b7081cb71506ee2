/- The law of what is right, over arguments. -/
import Derived.Test.YtcmbkhlnigbooaaArgs
import Derived.Test.YtcmbkhlnigbooaaLwG
namespace Go.Proofs.Ytcmbkhlnigbooaa.Dm
open Go.RowKit

theorem right_law {W : World} {v u : Value} {D : List Nd} {y : Nd} (h : ArgDoc W v D) (g : ArgNode W u y) (i k : Int) (nm vl : ByteArray) : Calls Try.prog 7 #[v, u, .int .i64 i, .int .i64 k, .string nm, .string vl] W fun e w' => e = .returned (.bool true) ∧ Below W.heap.size W w' := by
  obtain ⟨sl, rfl, h1, h2⟩ := h
  obtain ⟨av, kv, rfl, g1, g2, g3, g4⟩ := g
  exact (right_hid D h2.1 h2.2 y g3 g4 i k nm vl).out W sl av kv h1 g1 g2

end Go.Proofs.Ytcmbkhlnigbooaa.Dm
