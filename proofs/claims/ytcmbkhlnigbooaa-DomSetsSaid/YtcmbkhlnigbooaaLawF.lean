/- The law of attributes that are set, over arguments. -/
import Derived.Test.YtcmbkhlnigbooaaArgs
import Derived.Test.YtcmbkhlnigbooaaLwN
namespace Go.Proofs.Ytcmbkhlnigbooaa.Dm
open Go.RowKit

theorem sets_law {W : World} {v : Value} {D : List Nd} (h : ArgDoc W v D) (n : Int) (nm vl : ByteArray) : Calls Try.prog 6 #[v, .int .i64 n, .string nm, .string vl] W fun e w' => e = .returned (.bool true) ∧ Below W.heap.size W w' := by
  obtain ⟨sl, rfl, h1, h2⟩ := h
  exact (sets_hid D h2.1 h2.2 n nm vl).out W sl h1

end Go.Proofs.Ytcmbkhlnigbooaa.Dm
