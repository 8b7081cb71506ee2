/- Paths that are clean, what stands behind a scheme that is not ranked, digits, an address' text: the document's. -/
import Derived.Test.YthnogdodlhkldaaGreatDoorRefZ
import Derived.Test.YthnogdodlhkldaaGreatDoorWalkY
namespace Go.Proofs.YthnogdodlhkldaaGreatDoor
open Go.RowKit

/-! Digits. -/
end Go.Proofs.YthnogdodlhkldaaGreatDoor
