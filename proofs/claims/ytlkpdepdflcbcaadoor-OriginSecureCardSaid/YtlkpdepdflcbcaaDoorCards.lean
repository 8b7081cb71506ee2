/-
  DERIVED. GIVEN WITH THE SEED: THE CARDS: each row of YtlkpdepdflcbcaaDoorRows.lean that lists a variable, with what it lists TIED to the program's text (the seventh form; the later family's looks); each row that meets fmt, with fmt's text TOLD by the authors' own Lean function (tested against real Go, not proved from fmt's source: count such statements apart). THE CARD IS WHAT COUNTS. Prove the row's statement (the work); the ties are given (YtlkpdepdflcbcaaDoorTie.lean); close each card by the builder's one call (the guide's Derived/Test/ToyasCard.lean, 'card_holds'). Laid BY PROGRAM, IN A SANDBOX (cutbox-door.mjs). By AI agents, Wed Nov 11 2026. No macro, syntax, notation, axiom, sorry.
-/
import Derived.Test.YtlkpdepdflcbcaaDoorRows
import GoSem.ClaimSeven
namespace Go.Proofs.YtlkpdepdflcbcaaDoor
namespace Rows

/-- THE TIED CARD OF 'pouncelaw07.OriginSame'. -/
def originSameCard : Claim7 := { stood := { row := originSameRow, standIns := [], harness := (true, "924fb2a1cf3f5d4c7e9dedc6005d4661fc04e66edb2a0ccec6da068c1f2815ee"), looks := false }, kinds := [], alts := [], laidByText := true, laidKinds := [.data, .data, .data, .data, .pinned], laidTests := true, laidLooks := .later }
def OriginSameCardSaid : Prop := Claim7.holds Tryd.pinned (.plain (OpenSpec.ofChange originSameSpec)) originSameCard

/-- THE TIED CARD OF 'pouncelaw07.OriginApart'. -/
def originApartCard : Claim7 := { stood := { row := originApartRow, standIns := [], harness := (true, "924fb2a1cf3f5d4c7e9dedc6005d4661fc04e66edb2a0ccec6da068c1f2815ee"), looks := false }, kinds := [], alts := [], laidByText := true, laidKinds := [.data, .data, .data, .data, .pinned], laidTests := true, laidLooks := .later }
def OriginApartCardSaid : Prop := Claim7.holds Tryd.pinned (.plain (OpenSpec.ofChange originApartSpec)) originApartCard

/-- THE TIED CARD OF 'pouncelaw07.OriginTexts'. -/
def originTextsCard : Claim7 := { stood := { row := originTextsRow, standIns := [], harness := (true, "924fb2a1cf3f5d4c7e9dedc6005d4661fc04e66edb2a0ccec6da068c1f2815ee"), looks := false }, kinds := [], alts := [], laidByText := true, laidKinds := [.data, .data, .data, .data, .pinned], laidTests := true, laidLooks := .later }
def OriginTextsCardSaid : Prop := Claim7.holds Tryd.pinned (.plain (OpenSpec.ofChange originTextsSpec)) originTextsCard

/-- THE TIED CARD OF 'pouncelaw07.OriginSecure'. -/
def originSecureCard : Claim7 := { stood := { row := originSecureRow, standIns := [], harness := (true, "924fb2a1cf3f5d4c7e9dedc6005d4661fc04e66edb2a0ccec6da068c1f2815ee"), looks := false }, kinds := [], alts := [], laidByText := true, laidKinds := [.data, .data, .data, .data, .pinned], laidTests := true, laidLooks := .later }
def OriginSecureCardSaid : Prop := Claim7.holds Tryd.pinned (.plain (OpenSpec.ofChange originSecureSpec)) originSecureCard

/-- THE SECOND FORM's CARD OF 'pouncelaw07.OriginSame'. -/
def originSameUptoCard : Claim7 := { stood := { row := originSameUptoRow, standIns := [], harness := (true, "924fb2a1cf3f5d4c7e9dedc6005d4661fc04e66edb2a0ccec6da068c1f2815ee"), looks := false }, kinds := [], alts := [], laidByText := true, laidKinds := [.data, .data, .data, .data, .pinned], laidTests := true, laidLooks := .later }
def OriginSameUptoCardSaid : Prop := Claim7.holds Tryd.pinned (.plain (OpenSpec.upto originSameSpec)) originSameUptoCard

/-- THE SECOND FORM's CARD OF 'pouncelaw07.OriginApart'. -/
def originApartUptoCard : Claim7 := { stood := { row := originApartUptoRow, standIns := [], harness := (true, "924fb2a1cf3f5d4c7e9dedc6005d4661fc04e66edb2a0ccec6da068c1f2815ee"), looks := false }, kinds := [], alts := [], laidByText := true, laidKinds := [.data, .data, .data, .data, .pinned], laidTests := true, laidLooks := .later }
def OriginApartUptoCardSaid : Prop := Claim7.holds Tryd.pinned (.plain (OpenSpec.upto originApartSpec)) originApartUptoCard

/-- THE SECOND FORM's CARD OF 'pouncelaw07.OriginTexts'. -/
def originTextsUptoCard : Claim7 := { stood := { row := originTextsUptoRow, standIns := [], harness := (true, "924fb2a1cf3f5d4c7e9dedc6005d4661fc04e66edb2a0ccec6da068c1f2815ee"), looks := false }, kinds := [], alts := [], laidByText := true, laidKinds := [.data, .data, .data, .data, .pinned], laidTests := true, laidLooks := .later }
def OriginTextsUptoCardSaid : Prop := Claim7.holds Tryd.pinned (.plain (OpenSpec.upto originTextsSpec)) originTextsUptoCard

/-- THE SECOND FORM's CARD OF 'pouncelaw07.OriginSecure'. -/
def originSecureUptoCard : Claim7 := { stood := { row := originSecureUptoRow, standIns := [], harness := (true, "924fb2a1cf3f5d4c7e9dedc6005d4661fc04e66edb2a0ccec6da068c1f2815ee"), looks := false }, kinds := [], alts := [], laidByText := true, laidKinds := [.data, .data, .data, .data, .pinned], laidTests := true, laidLooks := .later }
def OriginSecureUptoCardSaid : Prop := Claim7.holds Tryd.pinned (.plain (OpenSpec.upto originSecureSpec)) originSecureUptoCard
end Rows
end Go.Proofs.YtlkpdepdflcbcaaDoor
