/- The law, over arguments. -/
import Derived.Test.YtlnfbjbagmfpiaaGreatDoorArgsB
import Derived.Test.YtlnfbjbagmfpiaaGreatDoorBlG
namespace Go.Proofs.YtlnfbjbagmfpiaaGreatDoor.Dm
open Go.RowKit
theorem orderA_law {W:World}{u:Value}{L:List Tk}(hw:Low W)(t:ArgTok W u L):Calls Tryz.prog 8 #[u] W fun e w'=>e=.returned (.bool true)/\Below W.heap.size W w':=by
 exact(order_hid L t.2.1 t.2.2).out W u hw t.1
end Go.Proofs.YtlnfbjbagmfpiaaGreatDoor.Dm
