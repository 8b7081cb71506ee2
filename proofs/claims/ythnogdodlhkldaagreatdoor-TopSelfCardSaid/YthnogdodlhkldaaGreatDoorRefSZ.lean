/- A source's path: the document's. A source's struct; is a SourceHost right: the document's. -/
import Derived.Test.YthnogdodlhkldaaGreatDoorRefZ
import Derived.Test.YthnogdodlhkldaaGreatDoorPureA
namespace Go.Proofs.YthnogdodlhkldaaGreatDoor
open Go.RowKit

end Go.Proofs.YthnogdodlhkldaaGreatDoor

namespace Go.Proofs.YthnogdodlhkldaaGreatDoor
open Go.RowKit

def srcV (k : Int) (t s h : ByteArray) (b : Bool) (p : Int) (pa : ByteArray) : Value := .agg #[.int .i64 k, .string t, .string s, .string h, .bool b, .int .i64 p, .string pa]
def srcM (k : Int) (t s h : ByteArray) (b : Bool) (p : Int) (pa : ByteArray) : Src := ⟨k, t.data.toList, s.data.toList, h.data.toList, b, p, pa.data.toList⟩

end Go.Proofs.YthnogdodlhkldaaGreatDoor
