/- Where an address comes from, its port, and two places held against each other: the document's. -/
import Derived.Test.YthnogdodlhkldaaGreatDoorOrgZ
import Derived.Test.YthnogdodlhkldaaGreatDoorWalkY
import Derived.Test.YthnogdodlhkldaaGreatDoorRefD
namespace Go.Proofs.YthnogdodlhkldaaGreatDoor
open Go.RowKit

theorem same_hid (o : Bool) (s h : ByteArray) (p : Int) (o2 : Bool) (s2 h2 : ByteArray) (p2 : Int) (b : Bool) (hb : sameM (oM o s h p) (oM o2 s2 h2 p2) = b) : Hid (∀ W, Calls Tryz.prog 199 #[oV o s h p, oV o2 s2 h2 p2] W fun e w' => e = .returned (.bool b) ∧ Below W.heap.size W w') :=
  Lib.hid fun W => by rw [← hb]; exact same_any o s h p o2 s2 h2 p2 W

end Go.Proofs.YthnogdodlhkldaaGreatDoor
