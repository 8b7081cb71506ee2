/-
  DERIVED. GIVEN WITH THE SEED: THE CARDS: each row of YtmfejcmhbncchaaGreatDoorRows.lean that lists a variable, with what it lists TIED to the program's text (the seventh form; the later family's looks); each row that meets fmt, with fmt's text TOLD by the authors' own Lean function (tested against real Go, not proved from fmt's source: count such statements apart). THE CARD IS WHAT COUNTS. Prove the row's statement (the work); the ties are given (YtmfejcmhbncchaaGreatDoorTie.lean); close each card by the builder's one call (the guide's Derived/Test/ToyasCard.lean, 'card_holds'). Laid BY PROGRAM, IN A SANDBOX (cutbox-door.mjs). By AI agents, Wed Nov 11 2026. No macro, syntax, notation, axiom, sorry.
-/
import Derived.Test.YtmfejcmhbncchaaGreatDoorRows
import GoSem.ClaimSeven
namespace Go.Proofs.YtmfejcmhbncchaaGreatDoor
namespace Rows

/-- THE TIED CARD OF 'pouncelaw09.SourcePrints'. -/
def sourcePrintsCard : Claim7 := { stood := { row := sourcePrintsRow, standIns := [], harness := (true, "89dcd52f7053bd0f447083e4d8827c78a23ba8a78bc73c09d951927c453771ce"), looks := true }, kinds := [], alts := [], laidByText := true, laidKinds := [.data, .data, .data, .data, .sentinel, .sentinel, .data, .pinned], laidTests := true, laidLooks := .later }
def SourcePrintsCardSaid : Prop := Claim7.holds Tryz.pinned (.plain (OpenSpec.ofChange sourcePrintsSpec)) sourcePrintsCard

/-- THE TIED CARD OF 'pouncelaw09.SourceLetters'. -/
def sourceLettersCard : Claim7 := { stood := { row := sourceLettersRow, standIns := [], harness := (true, "89dcd52f7053bd0f447083e4d8827c78a23ba8a78bc73c09d951927c453771ce"), looks := true }, kinds := [], alts := [], laidByText := true, laidKinds := [.data, .data, .data, .data, .sentinel, .sentinel, .data, .pinned], laidTests := true, laidLooks := .later }
def SourceLettersCardSaid : Prop := Claim7.holds Tryz.pinned (.plain (OpenSpec.ofChange sourceLettersSpec)) sourceLettersCard

/-- THE TIED CARD OF 'pouncelaw09.SourceMarks'. -/
def sourceMarksCard : Claim7 := { stood := { row := sourceMarksRow, standIns := [], harness := (true, "89dcd52f7053bd0f447083e4d8827c78a23ba8a78bc73c09d951927c453771ce"), looks := true }, kinds := [], alts := [], laidByText := true, laidKinds := [.data, .data, .data, .data, .sentinel, .sentinel, .data, .pinned], laidTests := true, laidLooks := .later }
def SourceMarksCardSaid : Prop := Claim7.holds Tryz.pinned (.plain (OpenSpec.ofChange sourceMarksSpec)) sourceMarksCard

/-- THE TIED CARD OF 'pouncelaw09.SourceEach'. -/
def sourceEachCard : Claim7 := { stood := { row := sourceEachRow, standIns := [], harness := (true, "89dcd52f7053bd0f447083e4d8827c78a23ba8a78bc73c09d951927c453771ce"), looks := true }, kinds := [], alts := [], laidByText := true, laidKinds := [.data, .data, .data, .data, .sentinel, .sentinel, .data, .pinned], laidTests := true, laidLooks := .later }
def SourceEachCardSaid : Prop := Claim7.holds Tryz.pinned (.plain (OpenSpec.ofChange sourceEachSpec)) sourceEachCard

/-- THE TIED CARD OF 'pouncelaw09.SourceKept'. -/
def sourceKeptCard : Claim7 := { stood := { row := sourceKeptRow, standIns := [], harness := (true, "89dcd52f7053bd0f447083e4d8827c78a23ba8a78bc73c09d951927c453771ce"), looks := true }, kinds := [], alts := [], laidByText := true, laidKinds := [.data, .data, .data, .data, .sentinel, .sentinel, .data, .pinned], laidTests := true, laidLooks := .later }
def SourceKeptCardSaid : Prop := Claim7.holds Tryz.pinned (.plain (OpenSpec.ofChange sourceKeptSpec)) sourceKeptCard

/-- THE SECOND FORM's CARD OF 'pouncelaw09.SourcePrints'. -/
def sourcePrintsUptoCard : Claim7 := { stood := { row := sourcePrintsUptoRow, standIns := [], harness := (true, "89dcd52f7053bd0f447083e4d8827c78a23ba8a78bc73c09d951927c453771ce"), looks := true }, kinds := [], alts := [], laidByText := true, laidKinds := [.data, .data, .data, .data, .sentinel, .sentinel, .data, .pinned], laidTests := true, laidLooks := .later }
def SourcePrintsUptoCardSaid : Prop := Claim7.holds Tryz.pinned (.plain (OpenSpec.upto sourcePrintsSpec)) sourcePrintsUptoCard

/-- THE SECOND FORM's CARD OF 'pouncelaw09.SourceLetters'. -/
def sourceLettersUptoCard : Claim7 := { stood := { row := sourceLettersUptoRow, standIns := [], harness := (true, "89dcd52f7053bd0f447083e4d8827c78a23ba8a78bc73c09d951927c453771ce"), looks := true }, kinds := [], alts := [], laidByText := true, laidKinds := [.data, .data, .data, .data, .sentinel, .sentinel, .data, .pinned], laidTests := true, laidLooks := .later }
def SourceLettersUptoCardSaid : Prop := Claim7.holds Tryz.pinned (.plain (OpenSpec.upto sourceLettersSpec)) sourceLettersUptoCard

/-- THE SECOND FORM's CARD OF 'pouncelaw09.SourceMarks'. -/
def sourceMarksUptoCard : Claim7 := { stood := { row := sourceMarksUptoRow, standIns := [], harness := (true, "89dcd52f7053bd0f447083e4d8827c78a23ba8a78bc73c09d951927c453771ce"), looks := true }, kinds := [], alts := [], laidByText := true, laidKinds := [.data, .data, .data, .data, .sentinel, .sentinel, .data, .pinned], laidTests := true, laidLooks := .later }
def SourceMarksUptoCardSaid : Prop := Claim7.holds Tryz.pinned (.plain (OpenSpec.upto sourceMarksSpec)) sourceMarksUptoCard

/-- THE SECOND FORM's CARD OF 'pouncelaw09.SourceEach'. -/
def sourceEachUptoCard : Claim7 := { stood := { row := sourceEachUptoRow, standIns := [], harness := (true, "89dcd52f7053bd0f447083e4d8827c78a23ba8a78bc73c09d951927c453771ce"), looks := true }, kinds := [], alts := [], laidByText := true, laidKinds := [.data, .data, .data, .data, .sentinel, .sentinel, .data, .pinned], laidTests := true, laidLooks := .later }
def SourceEachUptoCardSaid : Prop := Claim7.holds Tryz.pinned (.plain (OpenSpec.upto sourceEachSpec)) sourceEachUptoCard

/-- THE SECOND FORM's CARD OF 'pouncelaw09.SourceKept'. -/
def sourceKeptUptoCard : Claim7 := { stood := { row := sourceKeptUptoRow, standIns := [], harness := (true, "89dcd52f7053bd0f447083e4d8827c78a23ba8a78bc73c09d951927c453771ce"), looks := true }, kinds := [], alts := [], laidByText := true, laidKinds := [.data, .data, .data, .data, .sentinel, .sentinel, .data, .pinned], laidTests := true, laidLooks := .later }
def SourceKeptUptoCardSaid : Prop := Claim7.holds Tryz.pinned (.plain (OpenSpec.upto sourceKeptSpec)) sourceKeptUptoCard
end Rows
end Go.Proofs.YtmfejcmhbncchaaGreatDoor
