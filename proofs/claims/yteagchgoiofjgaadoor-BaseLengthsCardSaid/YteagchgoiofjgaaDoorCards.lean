/-
  DERIVED. GIVEN WITH THE SEED: THE CARDS: each row of YteagchgoiofjgaaDoorRows.lean that lists a variable, with what it lists TIED to the program's text (the seventh form; the later family's looks); each row that meets fmt, with fmt's text TOLD by the authors' own Lean function (tested against real Go, not proved from fmt's source: count such statements apart). THE CARD IS WHAT COUNTS. Prove the row's statement (the work); the ties are given (YteagchgoiofjgaaDoorTie.lean); close each card by the builder's one call (the guide's Derived/Test/ToyasCard.lean, 'card_holds'). Laid BY PROGRAM, IN A SANDBOX (cutbox-door.mjs). By AI agents, Wed Nov 11 2026. No macro, syntax, notation, axiom, sorry.
-/
import Derived.Test.YteagchgoiofjgaaDoorRows
import GoSem.ClaimSeven
namespace Go.Proofs.YteagchgoiofjgaaDoor
namespace Rows

/-- THE TIED CARD OF 'pouncelaw04.BaseEncodes'. -/
def baseEncodesCard : Claim7 := { stood := { row := baseEncodesRow, standIns := [], harness := (true, "f73cacf18b834c5a8d88ee9e3dce8782a18b645b29ca2efe60da2c4bce8d73e9"), looks := false }, kinds := [], alts := [], laidByText := true, laidKinds := [.data, .pinned], laidTests := true, laidLooks := .later }
def BaseEncodesCardSaid : Prop := Claim7.holds Tryd.pinned (.plain (OpenSpec.ofChange baseEncodesSpec)) baseEncodesCard

/-- THE TIED CARD OF 'pouncelaw04.BaseDecodes'. -/
def baseDecodesCard : Claim7 := { stood := { row := baseDecodesRow, standIns := [], harness := (true, "f73cacf18b834c5a8d88ee9e3dce8782a18b645b29ca2efe60da2c4bce8d73e9"), looks := false }, kinds := [], alts := [], laidByText := true, laidKinds := [.data, .pinned], laidTests := true, laidLooks := .later }
def BaseDecodesCardSaid : Prop := Claim7.holds Tryd.pinned (.plain (OpenSpec.ofChange baseDecodesSpec)) baseDecodesCard

/-- THE TIED CARD OF 'pouncelaw04.BaseBack'. -/
def baseBackCard : Claim7 := { stood := { row := baseBackRow, standIns := [], harness := (true, "f73cacf18b834c5a8d88ee9e3dce8782a18b645b29ca2efe60da2c4bce8d73e9"), looks := false }, kinds := [], alts := [], laidByText := true, laidKinds := [.data, .pinned], laidTests := true, laidLooks := .later }
def BaseBackCardSaid : Prop := Claim7.holds Tryd.pinned (.plain (OpenSpec.ofChange baseBackSpec)) baseBackCard

/-- THE TIED CARD OF 'pouncelaw04.BaseAgain'. -/
def baseAgainCard : Claim7 := { stood := { row := baseAgainRow, standIns := [], harness := (true, "f73cacf18b834c5a8d88ee9e3dce8782a18b645b29ca2efe60da2c4bce8d73e9"), looks := false }, kinds := [], alts := [], laidByText := true, laidKinds := [.data, .pinned], laidTests := true, laidLooks := .later }
def BaseAgainCardSaid : Prop := Claim7.holds Tryd.pinned (.plain (OpenSpec.ofChange baseAgainSpec)) baseAgainCard

/-- THE TIED CARD OF 'pouncelaw04.BaseThirds'. -/
def baseThirdsCard : Claim7 := { stood := { row := baseThirdsRow, standIns := [], harness := (true, "f73cacf18b834c5a8d88ee9e3dce8782a18b645b29ca2efe60da2c4bce8d73e9"), looks := false }, kinds := [], alts := [], laidByText := true, laidKinds := [.data, .pinned], laidTests := true, laidLooks := .later }
def BaseThirdsCardSaid : Prop := Claim7.holds Tryd.pinned (.plain (OpenSpec.ofChange baseThirdsSpec)) baseThirdsCard

/-- THE TIED CARD OF 'pouncelaw04.BaseLengths'. -/
def baseLengthsCard : Claim7 := { stood := { row := baseLengthsRow, standIns := [], harness := (true, "f73cacf18b834c5a8d88ee9e3dce8782a18b645b29ca2efe60da2c4bce8d73e9"), looks := false }, kinds := [], alts := [], laidByText := true, laidKinds := [.data, .pinned], laidTests := true, laidLooks := .later }
def BaseLengthsCardSaid : Prop := Claim7.holds Tryd.pinned (.plain (OpenSpec.ofChange baseLengthsSpec)) baseLengthsCard

/-- THE SECOND FORM's CARD OF 'pouncelaw04.BaseEncodes'. -/
def baseEncodesUptoCard : Claim7 := { stood := { row := baseEncodesUptoRow, standIns := [], harness := (true, "f73cacf18b834c5a8d88ee9e3dce8782a18b645b29ca2efe60da2c4bce8d73e9"), looks := false }, kinds := [], alts := [], laidByText := true, laidKinds := [.data, .pinned], laidTests := true, laidLooks := .later }
def BaseEncodesUptoCardSaid : Prop := Claim7.holds Tryd.pinned (.plain (OpenSpec.upto baseEncodesSpec)) baseEncodesUptoCard

/-- THE SECOND FORM's CARD OF 'pouncelaw04.BaseDecodes'. -/
def baseDecodesUptoCard : Claim7 := { stood := { row := baseDecodesUptoRow, standIns := [], harness := (true, "f73cacf18b834c5a8d88ee9e3dce8782a18b645b29ca2efe60da2c4bce8d73e9"), looks := false }, kinds := [], alts := [], laidByText := true, laidKinds := [.data, .pinned], laidTests := true, laidLooks := .later }
def BaseDecodesUptoCardSaid : Prop := Claim7.holds Tryd.pinned (.plain (OpenSpec.upto baseDecodesSpec)) baseDecodesUptoCard

/-- THE SECOND FORM's CARD OF 'pouncelaw04.BaseBack'. -/
def baseBackUptoCard : Claim7 := { stood := { row := baseBackUptoRow, standIns := [], harness := (true, "f73cacf18b834c5a8d88ee9e3dce8782a18b645b29ca2efe60da2c4bce8d73e9"), looks := false }, kinds := [], alts := [], laidByText := true, laidKinds := [.data, .pinned], laidTests := true, laidLooks := .later }
def BaseBackUptoCardSaid : Prop := Claim7.holds Tryd.pinned (.plain (OpenSpec.upto baseBackSpec)) baseBackUptoCard

/-- THE SECOND FORM's CARD OF 'pouncelaw04.BaseAgain'. -/
def baseAgainUptoCard : Claim7 := { stood := { row := baseAgainUptoRow, standIns := [], harness := (true, "f73cacf18b834c5a8d88ee9e3dce8782a18b645b29ca2efe60da2c4bce8d73e9"), looks := false }, kinds := [], alts := [], laidByText := true, laidKinds := [.data, .pinned], laidTests := true, laidLooks := .later }
def BaseAgainUptoCardSaid : Prop := Claim7.holds Tryd.pinned (.plain (OpenSpec.upto baseAgainSpec)) baseAgainUptoCard

/-- THE SECOND FORM's CARD OF 'pouncelaw04.BaseThirds'. -/
def baseThirdsUptoCard : Claim7 := { stood := { row := baseThirdsUptoRow, standIns := [], harness := (true, "f73cacf18b834c5a8d88ee9e3dce8782a18b645b29ca2efe60da2c4bce8d73e9"), looks := false }, kinds := [], alts := [], laidByText := true, laidKinds := [.data, .pinned], laidTests := true, laidLooks := .later }
def BaseThirdsUptoCardSaid : Prop := Claim7.holds Tryd.pinned (.plain (OpenSpec.upto baseThirdsSpec)) baseThirdsUptoCard

/-- THE SECOND FORM's CARD OF 'pouncelaw04.BaseLengths'. -/
def baseLengthsUptoCard : Claim7 := { stood := { row := baseLengthsUptoRow, standIns := [], harness := (true, "f73cacf18b834c5a8d88ee9e3dce8782a18b645b29ca2efe60da2c4bce8d73e9"), looks := false }, kinds := [], alts := [], laidByText := true, laidKinds := [.data, .pinned], laidTests := true, laidLooks := .later }
def BaseLengthsUptoCardSaid : Prop := Claim7.holds Tryd.pinned (.plain (OpenSpec.upto baseLengthsSpec)) baseLengthsUptoCard
end Rows
end Go.Proofs.YteagchgoiofjgaaDoor
