/- What the library answers, at this seat: a text repeated. Laid by the shelf's tool in plain words. -/
import Derived.Shelf.Strings.Builder2
import Derived.Shelf.Strings.OnBuilder
import Derived.Shelf.Strings.BuilderF
import Derived.Shelf.Strings.BuilderK
import Derived.Shelf.Strings.Repeat
import Derived.Test.YthnogdodlhkldaaGreatDoorProg
namespace Go.Proofs
open Go.Shelf
end Go.Proofs
