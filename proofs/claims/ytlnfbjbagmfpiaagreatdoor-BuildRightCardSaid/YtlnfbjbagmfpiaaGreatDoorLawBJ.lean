/- The law, over arguments. -/
import Derived.Test.YtlnfbjbagmfpiaaGreatDoorArgsB
import Derived.Test.YtlnfbjbagmfpiaaGreatDoorBlJ
namespace Go.Proofs.YtlnfbjbagmfpiaaGreatDoor.Dm
open Go.RowKit
theorem rightA_law {W:World}{v u:Value}{D:List Nd}{L:List Tk}(hw:Low W)(h:ArgDoc W v D)(t:ArgTok W u L)(n:Int)(p:Bool):Calls Tryz.prog 6 #[v,.int .i64 n,u,.bool p] W fun e w'=>e=.returned (.bool true)/\Below W.heap.size W w':=by
 obtain⟨sl,rfl,h1,h2⟩:=h;exact(right_lawH D h2.1 h2.2 n L t.2.1 t.2.2 p).out W sl u hw h1 t.1
end Go.Proofs.YtlnfbjbagmfpiaaGreatDoor.Dm
