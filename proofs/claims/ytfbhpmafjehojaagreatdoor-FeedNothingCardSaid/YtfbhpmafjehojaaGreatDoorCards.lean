/-
  DERIVED. GIVEN WITH THE SEED: THE CARDS: each row of YtfbhpmafjehojaaGreatDoorRows.lean that lists a variable, with what it lists TIED to the program's text (the seventh form; the later family's looks); each row that meets fmt, with fmt's text TOLD by the authors' own Lean function (tested against real Go, not proved from fmt's source: count such statements apart). THE CARD IS WHAT COUNTS. Prove the row's statement (the work); the ties are given (YtfbhpmafjehojaaGreatDoorTie.lean); close each card by the builder's one call (the guide's Derived/Test/ToyasCard.lean, 'card_holds'). Laid BY PROGRAM, IN A SANDBOX (cutbox-door.mjs). By AI agents, Wed Nov 11 2026. No macro, syntax, notation, axiom, sorry.
-/
import Derived.Test.YtfbhpmafjehojaaGreatDoorRows
import GoSem.ClaimSeven
namespace Go.Proofs.YtfbhpmafjehojaaGreatDoor
namespace Rows

/-- THE TIED CARD OF 'pouncelaw15.FeedWhole'. -/
def feedWholeCard : Claim7 := { stood := { row := feedWholeRow, standIns := [], harness := (true, "49c282acb79199b292aa33d40a110deb6a3c817fa5f472bf418b486624f92941"), looks := true }, kinds := [], alts := [], laidByText := true, laidKinds := [.data, .data, .data, .data, .sentinel, .sentinel, .data, .pinned], laidTests := true, laidLooks := .later }
def FeedWholeCardSaid : Prop := Claim7.holds Tryz.pinned (.plain (OpenSpec.ofChange feedWholeSpec)) feedWholeCard

/-- THE TIED CARD OF 'pouncelaw15.FeedParts'. -/
def feedPartsCard : Claim7 := { stood := { row := feedPartsRow, standIns := [], harness := (true, "49c282acb79199b292aa33d40a110deb6a3c817fa5f472bf418b486624f92941"), looks := true }, kinds := [], alts := [], laidByText := true, laidKinds := [.data, .data, .data, .data, .sentinel, .sentinel, .data, .pinned], laidTests := true, laidLooks := .later }
def FeedPartsCardSaid : Prop := Claim7.holds Tryz.pinned (.plain (OpenSpec.ofChange feedPartsSpec)) feedPartsCard

/-- THE TIED CARD OF 'pouncelaw15.FeedLimits'. -/
def feedLimitsCard : Claim7 := { stood := { row := feedLimitsRow, standIns := [], harness := (true, "49c282acb79199b292aa33d40a110deb6a3c817fa5f472bf418b486624f92941"), looks := true }, kinds := [], alts := [], laidByText := true, laidKinds := [.data, .data, .data, .data, .sentinel, .sentinel, .data, .pinned], laidTests := true, laidLooks := .later }
def FeedLimitsCardSaid : Prop := Claim7.holds Tryz.pinned (.plain (OpenSpec.ofChange feedLimitsSpec)) feedLimitsCard

/-- THE TIED CARD OF 'pouncelaw15.FeedDecoded'. -/
def feedDecodedCard : Claim7 := { stood := { row := feedDecodedRow, standIns := [], harness := (true, "49c282acb79199b292aa33d40a110deb6a3c817fa5f472bf418b486624f92941"), looks := true }, kinds := [], alts := [], laidByText := true, laidKinds := [.data, .data, .data, .data, .sentinel, .sentinel, .data, .pinned], laidTests := true, laidLooks := .later }
def FeedDecodedCardSaid : Prop := Claim7.holds Tryz.pinned (.plain (OpenSpec.ofChange feedDecodedSpec)) feedDecodedCard

/-- THE TIED CARD OF 'pouncelaw15.FeedNil'. -/
def feedNilCard : Claim7 := { stood := { row := feedNilRow, standIns := [], harness := (true, "49c282acb79199b292aa33d40a110deb6a3c817fa5f472bf418b486624f92941"), looks := true }, kinds := [], alts := [], laidByText := true, laidKinds := [.data, .data, .data, .data, .sentinel, .sentinel, .data, .pinned], laidTests := true, laidLooks := .later }
def FeedNilCardSaid : Prop := Claim7.holds Tryz.pinned (.plain (OpenSpec.ofChange feedNilSpec)) feedNilCard

/-- THE TIED CARD OF 'pouncelaw15.FeedNothing'. -/
def feedNothingCard : Claim7 := { stood := { row := feedNothingRow, standIns := [], harness := (true, "49c282acb79199b292aa33d40a110deb6a3c817fa5f472bf418b486624f92941"), looks := true }, kinds := [], alts := [], laidByText := true, laidKinds := [.data, .data, .data, .data, .sentinel, .sentinel, .data, .pinned], laidTests := true, laidLooks := .later }
def FeedNothingCardSaid : Prop := Claim7.holds Tryz.pinned (.plain (OpenSpec.ofChange feedNothingSpec)) feedNothingCard

/-- THE SECOND FORM's CARD OF 'pouncelaw15.FeedWhole'. -/
def feedWholeUptoCard : Claim7 := { stood := { row := feedWholeUptoRow, standIns := [], harness := (true, "49c282acb79199b292aa33d40a110deb6a3c817fa5f472bf418b486624f92941"), looks := true }, kinds := [], alts := [], laidByText := true, laidKinds := [.data, .data, .data, .data, .sentinel, .sentinel, .data, .pinned], laidTests := true, laidLooks := .later }
def FeedWholeUptoCardSaid : Prop := Claim7.holds Tryz.pinned (.plain (OpenSpec.upto feedWholeSpec)) feedWholeUptoCard

/-- THE SECOND FORM's CARD OF 'pouncelaw15.FeedParts'. -/
def feedPartsUptoCard : Claim7 := { stood := { row := feedPartsUptoRow, standIns := [], harness := (true, "49c282acb79199b292aa33d40a110deb6a3c817fa5f472bf418b486624f92941"), looks := true }, kinds := [], alts := [], laidByText := true, laidKinds := [.data, .data, .data, .data, .sentinel, .sentinel, .data, .pinned], laidTests := true, laidLooks := .later }
def FeedPartsUptoCardSaid : Prop := Claim7.holds Tryz.pinned (.plain (OpenSpec.upto feedPartsSpec)) feedPartsUptoCard

/-- THE SECOND FORM's CARD OF 'pouncelaw15.FeedLimits'. -/
def feedLimitsUptoCard : Claim7 := { stood := { row := feedLimitsUptoRow, standIns := [], harness := (true, "49c282acb79199b292aa33d40a110deb6a3c817fa5f472bf418b486624f92941"), looks := true }, kinds := [], alts := [], laidByText := true, laidKinds := [.data, .data, .data, .data, .sentinel, .sentinel, .data, .pinned], laidTests := true, laidLooks := .later }
def FeedLimitsUptoCardSaid : Prop := Claim7.holds Tryz.pinned (.plain (OpenSpec.upto feedLimitsSpec)) feedLimitsUptoCard

/-- THE SECOND FORM's CARD OF 'pouncelaw15.FeedDecoded'. -/
def feedDecodedUptoCard : Claim7 := { stood := { row := feedDecodedUptoRow, standIns := [], harness := (true, "49c282acb79199b292aa33d40a110deb6a3c817fa5f472bf418b486624f92941"), looks := true }, kinds := [], alts := [], laidByText := true, laidKinds := [.data, .data, .data, .data, .sentinel, .sentinel, .data, .pinned], laidTests := true, laidLooks := .later }
def FeedDecodedUptoCardSaid : Prop := Claim7.holds Tryz.pinned (.plain (OpenSpec.upto feedDecodedSpec)) feedDecodedUptoCard

/-- THE SECOND FORM's CARD OF 'pouncelaw15.FeedNil'. -/
def feedNilUptoCard : Claim7 := { stood := { row := feedNilUptoRow, standIns := [], harness := (true, "49c282acb79199b292aa33d40a110deb6a3c817fa5f472bf418b486624f92941"), looks := true }, kinds := [], alts := [], laidByText := true, laidKinds := [.data, .data, .data, .data, .sentinel, .sentinel, .data, .pinned], laidTests := true, laidLooks := .later }
def FeedNilUptoCardSaid : Prop := Claim7.holds Tryz.pinned (.plain (OpenSpec.upto feedNilSpec)) feedNilUptoCard

/-- THE SECOND FORM's CARD OF 'pouncelaw15.FeedNothing'. -/
def feedNothingUptoCard : Claim7 := { stood := { row := feedNothingUptoRow, standIns := [], harness := (true, "49c282acb79199b292aa33d40a110deb6a3c817fa5f472bf418b486624f92941"), looks := true }, kinds := [], alts := [], laidByText := true, laidKinds := [.data, .data, .data, .data, .sentinel, .sentinel, .data, .pinned], laidTests := true, laidLooks := .later }
def FeedNothingUptoCardSaid : Prop := Claim7.holds Tryz.pinned (.plain (OpenSpec.upto feedNothingSpec)) feedNothingUptoCard
end Rows
end Go.Proofs.YtfbhpmafjehojaaGreatDoor
