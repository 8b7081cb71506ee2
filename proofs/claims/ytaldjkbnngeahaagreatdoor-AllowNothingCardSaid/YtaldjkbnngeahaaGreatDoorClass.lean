/- A drawn region walked once over a class of worlds. -/
import Derived.Test.YtaldjkbnngeahaaGreatDoorWalkA
import Derived.BigQuiet
namespace Go.Proofs.YtaldjkbnngeahaaGreatDoor
open Go.RowKit

/-- A region that draws its order, walked once in the order of the text: every operation yields one value in each world of a class, and a call leaves a world of the class. -/
theorem region_class {P : Program} {id : Nat} {Q : Exit → Act → World → Prop} {a : Act} {w : World} {l : List Oper} (C : World → Prop) (hm : P.follows .mixedOrders = true) (hB : Region.lexB .any l.toArray = true) (hC : C w.drew)
    (h : wpQuiet P l.toArray C (fun a' => ∀ w', C w' → Q .normal a' w') l a) : (Code.region id l.toArray true).wp P Q a w :=
  wp_region_quiet (C := C) hm hB hC (by simpa using h)

end Go.Proofs.YtaldjkbnngeahaaGreatDoor
