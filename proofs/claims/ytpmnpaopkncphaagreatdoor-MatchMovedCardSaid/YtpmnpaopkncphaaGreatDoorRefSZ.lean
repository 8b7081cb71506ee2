/- A source's path: the document's. A source's struct; is a SourceHost right: the document's. -/
import Derived.Test.YtpmnpaopkncphaaGreatDoorRefZ
import Derived.Test.YtpmnpaopkncphaaGreatDoorPureZ
namespace Go.Proofs.YtpmnpaopkncphaaGreatDoor
open Go.RowKit

theorem inS_split (b : UInt8) : inS b = (decide (33 ≤ b.toNat ∧ b.toNat ≤ 126) && !(b == 63 || (b == 35 || (b == 44 || (b == 59 || b == 58))))) := by
  unfold inS inB
  simp only [List.contains_cons, List.contains_nil, Bool.or_false]

end Go.Proofs.YtpmnpaopkncphaaGreatDoor

namespace Go.Proofs.YtpmnpaopkncphaaGreatDoor
open Go.RowKit

def srcV (k : Int) (t s h : ByteArray) (b : Bool) (p : Int) (pa : ByteArray) : Value := .agg #[.int .i64 k, .string t, .string s, .string h, .bool b, .int .i64 p, .string pa]
def srcM (k : Int) (t s h : ByteArray) (b : Bool) (p : Int) (pa : ByteArray) : Src := ⟨k, t.data.toList, s.data.toList, h.data.toList, b, p, pa.data.toList⟩

end Go.Proofs.YtpmnpaopkncphaaGreatDoor
