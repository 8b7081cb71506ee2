/- A source's word: the program's Print. -/
import Derived.Test.YtaldjkbnngeahaaGreatDoorSrcF
namespace Go.Proofs.YtaldjkbnngeahaaGreatDoor
open Go.RowKit

end Go.Proofs.YtaldjkbnngeahaaGreatDoor
