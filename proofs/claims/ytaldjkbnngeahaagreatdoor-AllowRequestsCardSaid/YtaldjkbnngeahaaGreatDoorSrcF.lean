/- The word of a place: the program's. -/
import Derived.Test.YtaldjkbnngeahaaGreatDoorSrcD
namespace Go.Proofs.YtaldjkbnngeahaaGreatDoor
open Go.RowKit

end Go.Proofs.YtaldjkbnngeahaaGreatDoor
