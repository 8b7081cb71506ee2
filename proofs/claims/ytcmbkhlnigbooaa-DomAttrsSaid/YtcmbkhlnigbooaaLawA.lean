/- The laws, over arguments. -/
import Derived.Test.YtcmbkhlnigbooaaArgs
import Derived.Test.YtcmbkhlnigbooaaLwE
namespace Go.Proofs.Ytcmbkhlnigbooaa.Dm
open Go.RowKit

theorem twice_law {W : World} {v : Value} {D : List Nd} (h : ArgDoc W v D) (q n : Int) : Calls Try.prog 10 #[v, .int .i64 q, .int .i64 n] W fun e w' => e = .returned (.bool true) ∧ Below W.heap.size W w' := by
  obtain ⟨sl, rfl, h1, h2⟩ := h
  exact (twice_hid D h2.1 h2.2 q n).out W sl h1
theorem attrs_law {W : World} {v : Value} {D : List Nd} (h : ArgDoc W v D) (n m : Int) (nm ot vl : ByteArray) : Calls Try.prog 9 #[v, .int .i64 n, .int .i64 m, .string nm, .string ot, .string vl] W fun e w' => e = .returned (.bool true) ∧ Below W.heap.size W w' := by
  obtain ⟨sl, rfl, h1, h2⟩ := h
  exact (attrs_hid D h2.1 h2.2 n m nm ot vl).out W sl h1

end Go.Proofs.Ytcmbkhlnigbooaa.Dm
