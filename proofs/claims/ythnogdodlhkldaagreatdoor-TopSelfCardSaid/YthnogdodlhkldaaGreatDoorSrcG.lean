/- A source's word: the program's Print. -/
import Derived.Test.YthnogdodlhkldaaGreatDoorSrcF
namespace Go.Proofs.YthnogdodlhkldaaGreatDoor
open Go.RowKit

end Go.Proofs.YthnogdodlhkldaaGreatDoor
