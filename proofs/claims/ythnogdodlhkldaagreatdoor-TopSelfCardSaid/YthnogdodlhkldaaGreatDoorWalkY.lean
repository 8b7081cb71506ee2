/- The document's rows. A path's pieces, a path cleaned: the document's; ports, and addresses that are too big, the document's. A path cleaned: the document's. Addresses that are too big (the document's). -/
import Derived.Test.YthnogdodlhkldaaGreatDoorWalkZ
namespace Go.Proofs.YthnogdodlhkldaaGreatDoor
open Go.RowKit

end Go.Proofs.YthnogdodlhkldaaGreatDoor

namespace Go.Proofs.YthnogdodlhkldaaGreatDoor
open Go.RowKit

end Go.Proofs.YthnogdodlhkldaaGreatDoor

namespace Go.Proofs.YthnogdodlhkldaaGreatDoor
open Go.RowKit

end Go.Proofs.YthnogdodlhkldaaGreatDoor

namespace Go.Proofs.YthnogdodlhkldaaGreatDoor
open Go.RowKit

set_option maxRecDepth 100000 in
set_option maxHeartbeats 1000000 in
theorem big_any (o : Bool) (s h : ByteArray) (p : Int) (pa q : ByteArray) (w : World) : Calls Tryz.prog 66 #[uV o s h p pa q] w fun e w' => e = .returned (.bool (decide (2000 < s.size) || decide (2000 < h.size) || decide (2000 < pa.size) || decide (2000 < q.size))) ∧ Below w.heap.size w w' := by
  unfold uV
  by_cases h1 : (2000 : Int) < (s.size : Int)
  · rw [decide_eq_true (show 2000 < s.size by omega)]
    go_enter Tryz.func66, Tryz.ntmps66
    go_wp2
    go_ret
    exact ⟨rfl, (Below.refl _ _).alloc (Nat.le_refl _) _⟩
  rw [decide_eq_false (show ¬ 2000 < s.size by omega)]
  by_cases h2 : (2000 : Int) < (h.size : Int)
  · rw [decide_eq_true (show 2000 < h.size by omega)]
    go_enter Tryz.func66, Tryz.ntmps66
    go_wp2
    go_ret
    exact ⟨rfl, (Below.refl _ _).alloc (Nat.le_refl _) _⟩
  rw [decide_eq_false (show ¬ 2000 < h.size by omega)]
  by_cases h3 : (2000 : Int) < (pa.size : Int)
  · rw [decide_eq_true (show 2000 < pa.size by omega)]
    go_enter Tryz.func66, Tryz.ntmps66
    go_wp2
    go_ret
    exact ⟨rfl, (Below.refl _ _).alloc (Nat.le_refl _) _⟩
  rw [decide_eq_false (show ¬ 2000 < pa.size by omega)]
  by_cases h4 : (2000 : Int) < (q.size : Int)
  · rw [decide_eq_true (show 2000 < q.size by omega)]
    go_enter Tryz.func66, Tryz.ntmps66
    go_wp2
    go_ret
    exact ⟨rfl, (Below.refl _ _).alloc (Nat.le_refl _) _⟩
  · rw [decide_eq_false (show ¬ 2000 < q.size by omega)]
    go_enter Tryz.func66, Tryz.ntmps66
    go_wp2
    go_ret
    exact ⟨rfl, (Below.refl _ _).alloc (Nat.le_refl _) _⟩
theorem big_hid (o : Bool) (s h : ByteArray) (p : Int) (pa q : ByteArray) (b : Bool) (hb : (decide (2000 < s.size) || decide (2000 < h.size) || decide (2000 < pa.size) || decide (2000 < q.size)) = b) : Hid (∀ W, Calls Tryz.prog 66 #[uV o s h p pa q] W fun e w' => e = .returned (.bool b) ∧ Below W.heap.size W w') :=
  Lib.hid fun W => by rw [← hb]; exact big_any o s h p pa q W

end Go.Proofs.YthnogdodlhkldaaGreatDoor
