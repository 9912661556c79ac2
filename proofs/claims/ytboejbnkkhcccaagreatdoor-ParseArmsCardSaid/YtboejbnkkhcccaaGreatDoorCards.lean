/-
  DERIVED. GIVEN WITH THE SEED: THE CARDS: each row of YtboejbnkkhcccaaGreatDoorRows.lean that lists a variable, with what it lists TIED to the program's text (the seventh form; the later family's looks); each row that meets fmt, with fmt's text TOLD by the authors' own Lean function (tested against real Go, not proved from fmt's source: count such statements apart). THE CARD IS WHAT COUNTS. Prove the row's statement (the work); the ties are given (YtboejbnkkhcccaaGreatDoorTie.lean); close each card by the builder's one call (the guide's Derived/Test/ToyasCard.lean, 'card_holds'). Laid BY PROGRAM, IN A SANDBOX (cutbox-door.mjs). By AI agents, Wed Nov 11 2026. No macro, syntax, notation, axiom, sorry.
-/
import Derived.Test.YtboejbnkkhcccaaGreatDoorRows
import GoSem.ClaimSeven
namespace Go.Proofs.YtboejbnkkhcccaaGreatDoor
namespace Rows

/-- THE TIED CARD OF 'brocadelaw02.ParseWords'. -/
def parseWordsCard : Claim7 := { stood := { row := parseWordsRow, standIns := [], harness := (true, "8881fe68cd10e47aa5477aa1f215d4b1fa2d22602af14cc89aabe78db1261d0d"), looks := true }, kinds := [], alts := [], laidByText := true, laidKinds := [.data, .data, .data, .sentinel, .sentinel, .data], laidTests := true, laidLooks := .later }
def ParseWordsCardSaid : Prop := Claim7.holds Tryz.pinned (.plain (OpenSpec.ofChange parseWordsSpec)) parseWordsCard

/-- THE TIED CARD OF 'brocadelaw02.ParseBrackets'. -/
def parseBracketsCard : Claim7 := { stood := { row := parseBracketsRow, standIns := [], harness := (true, "8881fe68cd10e47aa5477aa1f215d4b1fa2d22602af14cc89aabe78db1261d0d"), looks := true }, kinds := [], alts := [], laidByText := true, laidKinds := [.data, .data, .data, .sentinel, .sentinel, .data], laidTests := true, laidLooks := .later }
def ParseBracketsCardSaid : Prop := Claim7.holds Tryz.pinned (.plain (OpenSpec.ofChange parseBracketsSpec)) parseBracketsCard

/-- THE TIED CARD OF 'brocadelaw02.ParseNames'. -/
def parseNamesCard : Claim7 := { stood := { row := parseNamesRow, standIns := [], harness := (true, "8881fe68cd10e47aa5477aa1f215d4b1fa2d22602af14cc89aabe78db1261d0d"), looks := true }, kinds := [], alts := [], laidByText := true, laidKinds := [.data, .data, .data, .sentinel, .sentinel, .data], laidTests := true, laidLooks := .later }
def ParseNamesCardSaid : Prop := Claim7.holds Tryz.pinned (.plain (OpenSpec.ofChange parseNamesSpec)) parseNamesCard

/-- THE TIED CARD OF 'brocadelaw02.ParseArms'. -/
def parseArmsCard : Claim7 := { stood := { row := parseArmsRow, standIns := [], harness := (true, "8881fe68cd10e47aa5477aa1f215d4b1fa2d22602af14cc89aabe78db1261d0d"), looks := true }, kinds := [], alts := [], laidByText := true, laidKinds := [.data, .data, .data, .sentinel, .sentinel, .data], laidTests := true, laidLooks := .later }
def ParseArmsCardSaid : Prop := Claim7.holds Tryz.pinned (.plain (OpenSpec.ofChange parseArmsSpec)) parseArmsCard

/-- THE TIED CARD OF 'brocadelaw02.ParseDeclares'. -/
def parseDeclaresCard : Claim7 := { stood := { row := parseDeclaresRow, standIns := [], harness := (true, "8881fe68cd10e47aa5477aa1f215d4b1fa2d22602af14cc89aabe78db1261d0d"), looks := true }, kinds := [], alts := [], laidByText := true, laidKinds := [.data, .data, .data, .sentinel, .sentinel, .data], laidTests := true, laidLooks := .later }
def ParseDeclaresCardSaid : Prop := Claim7.holds Tryz.pinned (.plain (OpenSpec.ofChange parseDeclaresSpec)) parseDeclaresCard

/-- THE SECOND FORM's CARD OF 'brocadelaw02.ParseWords'. -/
def parseWordsUptoCard : Claim7 := { stood := { row := parseWordsUptoRow, standIns := [], harness := (true, "8881fe68cd10e47aa5477aa1f215d4b1fa2d22602af14cc89aabe78db1261d0d"), looks := true }, kinds := [], alts := [], laidByText := true, laidKinds := [.data, .data, .data, .sentinel, .sentinel, .data], laidTests := true, laidLooks := .later }
def ParseWordsUptoCardSaid : Prop := Claim7.holds Tryz.pinned (.plain (OpenSpec.upto parseWordsSpec)) parseWordsUptoCard

/-- THE SECOND FORM's CARD OF 'brocadelaw02.ParseBrackets'. -/
def parseBracketsUptoCard : Claim7 := { stood := { row := parseBracketsUptoRow, standIns := [], harness := (true, "8881fe68cd10e47aa5477aa1f215d4b1fa2d22602af14cc89aabe78db1261d0d"), looks := true }, kinds := [], alts := [], laidByText := true, laidKinds := [.data, .data, .data, .sentinel, .sentinel, .data], laidTests := true, laidLooks := .later }
def ParseBracketsUptoCardSaid : Prop := Claim7.holds Tryz.pinned (.plain (OpenSpec.upto parseBracketsSpec)) parseBracketsUptoCard

/-- THE SECOND FORM's CARD OF 'brocadelaw02.ParseNames'. -/
def parseNamesUptoCard : Claim7 := { stood := { row := parseNamesUptoRow, standIns := [], harness := (true, "8881fe68cd10e47aa5477aa1f215d4b1fa2d22602af14cc89aabe78db1261d0d"), looks := true }, kinds := [], alts := [], laidByText := true, laidKinds := [.data, .data, .data, .sentinel, .sentinel, .data], laidTests := true, laidLooks := .later }
def ParseNamesUptoCardSaid : Prop := Claim7.holds Tryz.pinned (.plain (OpenSpec.upto parseNamesSpec)) parseNamesUptoCard

/-- THE SECOND FORM's CARD OF 'brocadelaw02.ParseArms'. -/
def parseArmsUptoCard : Claim7 := { stood := { row := parseArmsUptoRow, standIns := [], harness := (true, "8881fe68cd10e47aa5477aa1f215d4b1fa2d22602af14cc89aabe78db1261d0d"), looks := true }, kinds := [], alts := [], laidByText := true, laidKinds := [.data, .data, .data, .sentinel, .sentinel, .data], laidTests := true, laidLooks := .later }
def ParseArmsUptoCardSaid : Prop := Claim7.holds Tryz.pinned (.plain (OpenSpec.upto parseArmsSpec)) parseArmsUptoCard

/-- THE SECOND FORM's CARD OF 'brocadelaw02.ParseDeclares'. -/
def parseDeclaresUptoCard : Claim7 := { stood := { row := parseDeclaresUptoRow, standIns := [], harness := (true, "8881fe68cd10e47aa5477aa1f215d4b1fa2d22602af14cc89aabe78db1261d0d"), looks := true }, kinds := [], alts := [], laidByText := true, laidKinds := [.data, .data, .data, .sentinel, .sentinel, .data], laidTests := true, laidLooks := .later }
def ParseDeclaresUptoCardSaid : Prop := Claim7.holds Tryz.pinned (.plain (OpenSpec.upto parseDeclaresSpec)) parseDeclaresUptoCard
end Rows
end Go.Proofs.YtboejbnkkhcccaaGreatDoor
