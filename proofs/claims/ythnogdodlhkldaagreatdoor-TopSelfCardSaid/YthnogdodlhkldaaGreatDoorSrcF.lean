/- The word of a place: the program's. -/
import Derived.Test.YthnogdodlhkldaaGreatDoorSrcY
namespace Go.Proofs.YthnogdodlhkldaaGreatDoor
open Go.RowKit

end Go.Proofs.YthnogdodlhkldaaGreatDoor
