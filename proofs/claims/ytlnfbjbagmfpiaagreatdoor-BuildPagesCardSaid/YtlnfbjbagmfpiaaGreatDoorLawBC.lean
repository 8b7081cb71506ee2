/- The law, over arguments. -/
import Derived.Test.YtlnfbjbagmfpiaaGreatDoorArgsB
import Derived.Test.YtlnfbjbagmfpiaaGreatDoorBlC
namespace Go.Proofs.YtlnfbjbagmfpiaaGreatDoor.Dm
open Go.RowKit
theorem pagesA_law {W:World}{u:Value}{L:List Tk}(hw:Low W)(t:ArgTok W u L)(s:ByteArray):Calls Tryz.prog 4 #[u,.string s] W fun e w'=>e=.returned (.bool true)/\Below W.heap.size W w':=by
 exact(pages_hid L t.2.1 t.2.2 s).out W u hw t.1
end Go.Proofs.YtlnfbjbagmfpiaaGreatDoor.Dm
