/- The law of what is asked, over arguments. -/
import Derived.Test.YtcmbkhlnigbooaaArgs
import Derived.Test.YtcmbkhlnigbooaaLwH
namespace Go.Proofs.Ytcmbkhlnigbooaa.Dm
open Go.RowKit

theorem checks_law {W : World} {v : Value} {D : List Nd} (h : ArgDoc W v D) (n : Int) (nm : ByteArray) : Calls Try.prog 3 #[v, .int .i64 n, .string nm] W fun e w' => e = .returned (.bool true) ∧ Below W.heap.size W w' := by
  obtain ⟨sl, rfl, h1, h2⟩ := h
  exact (checks_hid D h2.1 h2.2 n nm).out W sl h1

end Go.Proofs.Ytcmbkhlnigbooaa.Dm
