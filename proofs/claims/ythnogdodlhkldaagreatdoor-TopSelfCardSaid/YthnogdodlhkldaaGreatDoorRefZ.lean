/- Blanks, small letters, trimmed texts; letters and digits: the document's. Schemes, hosts, paths that are clean, what stands behind a scheme that is not ranked: the document's. -/
import Derived.Test.YthnogdodlhkldaaGreatDoorWalkX
namespace Go.Proofs.YthnogdodlhkldaaGreatDoor
open Go.RowKit

theorem extract_mk {s : ByteArray} {i j : Nat} {l : List UInt8} (h : (s.data.toList.drop i).take (j - i) = l) : s.extract i j = ⟨l.toArray⟩ := by
  apply ByteArray.ext
  apply Array.toList_inj.1
  rw [extract_toList, h]
end Go.Proofs.YthnogdodlhkldaaGreatDoor

namespace Go.Proofs.YthnogdodlhkldaaGreatDoor
open Go.RowKit

/-! Hosts. -/
/-- Was a point, or nothing, ahead of a place? -/
def pv (l : List UInt8) : Nat → Bool
  | 0 => true
  | k + 1 => (l[k]?.map dot).getD false
end Go.Proofs.YthnogdodlhkldaaGreatDoor
