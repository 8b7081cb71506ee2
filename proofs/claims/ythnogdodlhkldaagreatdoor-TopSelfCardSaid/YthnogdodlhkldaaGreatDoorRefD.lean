/- An address' text, an address that is right: the document's. -/
import Derived.Test.YthnogdodlhkldaaGreatDoorRefC
namespace Go.Proofs.YthnogdodlhkldaaGreatDoor
open Go.RowKit

end Go.Proofs.YthnogdodlhkldaaGreatDoor
