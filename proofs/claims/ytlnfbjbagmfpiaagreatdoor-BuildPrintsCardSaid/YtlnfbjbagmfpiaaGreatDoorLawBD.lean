/- The law, over arguments. -/
import Derived.Test.YtlnfbjbagmfpiaaGreatDoorArgsB
import Derived.Test.YtlnfbjbagmfpiaaGreatDoorBlD
namespace Go.Proofs.YtlnfbjbagmfpiaaGreatDoor.Dm
open Go.RowKit
theorem printsA_law {W:World}{v:Value}{D:List Nd}(hw:Low W)(h:ArgDoc W v D)(n:Int):Calls Tryz.prog 5 #[v,.int .i64 n] W fun e w'=>e=.returned (.bool true)/\Below W.heap.size W w':=by
 obtain⟨sl,rfl,h1,h2⟩:=h;exact(prints_hid D h2.1 h2.2 n).out W sl hw h1
end Go.Proofs.YtlnfbjbagmfpiaaGreatDoor.Dm
