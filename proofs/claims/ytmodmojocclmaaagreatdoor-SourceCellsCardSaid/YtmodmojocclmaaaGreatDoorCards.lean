/-
  DERIVED. GIVEN WITH THE SEED: THE CARDS: each row of YtmodmojocclmaaaGreatDoorRows.lean that lists a variable, with what it lists TIED to the program's text (the seventh form; the later family's looks); each row that meets fmt, with fmt's text TOLD by the authors' own Lean function (tested against real Go, not proved from fmt's source: count such statements apart). THE CARD IS WHAT COUNTS. Prove the row's statement (the work); the ties are given (YtmodmojocclmaaaGreatDoorTie.lean); close each card by the builder's one call (the guide's Derived/Test/ToyasCard.lean, 'card_holds'). Laid BY PROGRAM, IN A SANDBOX (cutbox-door.mjs). By AI agents, Wed Nov 11 2026. No macro, syntax, notation, axiom, sorry.
-/
import Derived.Test.YtmodmojocclmaaaGreatDoorRows
import GoSem.ClaimSeven
namespace Go.Proofs.YtmodmojocclmaaaGreatDoor
namespace Rows

/-- THE TIED CARD OF 'brocadelaw12.SourceAnswers'. -/
def sourceAnswersCard : Claim7 := { stood := { row := sourceAnswersRow, standIns := [], harness := (true, "e0b5f248787d02ae20f728c4ff36d9b9ff2f2b087332308a66be035c7704e873"), looks := true }, kinds := [], alts := [], laidByText := true, laidKinds := [.data, .data, .data, .sentinel, .sentinel, .data], laidTests := true, laidLooks := .later }
def SourceAnswersCardSaid : Prop := Claim7.holds Tryz.pinned (.plain (OpenSpec.ofChange sourceAnswersSpec)) sourceAnswersCard

/-- THE TIED CARD OF 'brocadelaw12.SourceReads'. -/
def sourceReadsCard : Claim7 := { stood := { row := sourceReadsRow, standIns := [], harness := (true, "e0b5f248787d02ae20f728c4ff36d9b9ff2f2b087332308a66be035c7704e873"), looks := true }, kinds := [], alts := [], laidByText := true, laidKinds := [.data, .data, .data, .sentinel, .sentinel, .data], laidTests := true, laidLooks := .later }
def SourceReadsCardSaid : Prop := Claim7.holds Tryz.pinned (.plain (OpenSpec.ofChange sourceReadsSpec)) sourceReadsCard

/-- THE TIED CARD OF 'brocadelaw12.SourceCells'. -/
def sourceCellsCard : Claim7 := { stood := { row := sourceCellsRow, standIns := [], harness := (true, "e0b5f248787d02ae20f728c4ff36d9b9ff2f2b087332308a66be035c7704e873"), looks := true }, kinds := [], alts := [], laidByText := true, laidKinds := [.data, .data, .data, .sentinel, .sentinel, .data], laidTests := true, laidLooks := .later }
def SourceCellsCardSaid : Prop := Claim7.holds Tryz.pinned (.plain (OpenSpec.ofChange sourceCellsSpec)) sourceCellsCard

/-- THE TIED CARD OF 'brocadelaw12.SourceNests'. -/
def sourceNestsCard : Claim7 := { stood := { row := sourceNestsRow, standIns := [], harness := (true, "e0b5f248787d02ae20f728c4ff36d9b9ff2f2b087332308a66be035c7704e873"), looks := true }, kinds := [], alts := [], laidByText := true, laidKinds := [.data, .data, .data, .sentinel, .sentinel, .data], laidTests := true, laidLooks := .later }
def SourceNestsCardSaid : Prop := Claim7.holds Tryz.pinned (.plain (OpenSpec.ofChange sourceNestsSpec)) sourceNestsCard

/-- THE TIED CARD OF 'brocadelaw12.SourceLarge'. -/
def sourceLargeCard : Claim7 := { stood := { row := sourceLargeRow, standIns := [], harness := (true, "e0b5f248787d02ae20f728c4ff36d9b9ff2f2b087332308a66be035c7704e873"), looks := true }, kinds := [], alts := [], laidByText := true, laidKinds := [.data, .data, .data, .sentinel, .sentinel, .data], laidTests := true, laidLooks := .later }
def SourceLargeCardSaid : Prop := Claim7.holds Tryz.pinned (.plain (OpenSpec.ofChange sourceLargeSpec)) sourceLargeCard

/-- THE SECOND FORM's CARD OF 'brocadelaw12.SourceAnswers'. -/
def sourceAnswersUptoCard : Claim7 := { stood := { row := sourceAnswersUptoRow, standIns := [], harness := (true, "e0b5f248787d02ae20f728c4ff36d9b9ff2f2b087332308a66be035c7704e873"), looks := true }, kinds := [], alts := [], laidByText := true, laidKinds := [.data, .data, .data, .sentinel, .sentinel, .data], laidTests := true, laidLooks := .later }
def SourceAnswersUptoCardSaid : Prop := Claim7.holds Tryz.pinned (.plain (OpenSpec.upto sourceAnswersSpec)) sourceAnswersUptoCard

/-- THE SECOND FORM's CARD OF 'brocadelaw12.SourceReads'. -/
def sourceReadsUptoCard : Claim7 := { stood := { row := sourceReadsUptoRow, standIns := [], harness := (true, "e0b5f248787d02ae20f728c4ff36d9b9ff2f2b087332308a66be035c7704e873"), looks := true }, kinds := [], alts := [], laidByText := true, laidKinds := [.data, .data, .data, .sentinel, .sentinel, .data], laidTests := true, laidLooks := .later }
def SourceReadsUptoCardSaid : Prop := Claim7.holds Tryz.pinned (.plain (OpenSpec.upto sourceReadsSpec)) sourceReadsUptoCard

/-- THE SECOND FORM's CARD OF 'brocadelaw12.SourceCells'. -/
def sourceCellsUptoCard : Claim7 := { stood := { row := sourceCellsUptoRow, standIns := [], harness := (true, "e0b5f248787d02ae20f728c4ff36d9b9ff2f2b087332308a66be035c7704e873"), looks := true }, kinds := [], alts := [], laidByText := true, laidKinds := [.data, .data, .data, .sentinel, .sentinel, .data], laidTests := true, laidLooks := .later }
def SourceCellsUptoCardSaid : Prop := Claim7.holds Tryz.pinned (.plain (OpenSpec.upto sourceCellsSpec)) sourceCellsUptoCard

/-- THE SECOND FORM's CARD OF 'brocadelaw12.SourceNests'. -/
def sourceNestsUptoCard : Claim7 := { stood := { row := sourceNestsUptoRow, standIns := [], harness := (true, "e0b5f248787d02ae20f728c4ff36d9b9ff2f2b087332308a66be035c7704e873"), looks := true }, kinds := [], alts := [], laidByText := true, laidKinds := [.data, .data, .data, .sentinel, .sentinel, .data], laidTests := true, laidLooks := .later }
def SourceNestsUptoCardSaid : Prop := Claim7.holds Tryz.pinned (.plain (OpenSpec.upto sourceNestsSpec)) sourceNestsUptoCard

/-- THE SECOND FORM's CARD OF 'brocadelaw12.SourceLarge'. -/
def sourceLargeUptoCard : Claim7 := { stood := { row := sourceLargeUptoRow, standIns := [], harness := (true, "e0b5f248787d02ae20f728c4ff36d9b9ff2f2b087332308a66be035c7704e873"), looks := true }, kinds := [], alts := [], laidByText := true, laidKinds := [.data, .data, .data, .sentinel, .sentinel, .data], laidTests := true, laidLooks := .later }
def SourceLargeUptoCardSaid : Prop := Claim7.holds Tryz.pinned (.plain (OpenSpec.upto sourceLargeSpec)) sourceLargeUptoCard
end Rows
end Go.Proofs.YtmodmojocclmaaaGreatDoor
