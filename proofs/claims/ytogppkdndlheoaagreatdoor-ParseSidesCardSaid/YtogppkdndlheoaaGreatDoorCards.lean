/-
  DERIVED. GIVEN WITH THE SEED: THE CARDS: each row of YtogppkdndlheoaaGreatDoorRows.lean that lists a variable, with what it lists TIED to the program's text (the seventh form; the later family's looks); each row that meets fmt, with fmt's text TOLD by the authors' own Lean function (tested against real Go, not proved from fmt's source: count such statements apart). THE CARD IS WHAT COUNTS. Prove the row's statement (the work); the ties are given (YtogppkdndlheoaaGreatDoorTie.lean); close each card by the builder's one call (the guide's Derived/Test/ToyasCard.lean, 'card_holds'). Laid BY PROGRAM, IN A SANDBOX (cutbox-door.mjs). By AI agents, Wed Nov 11 2026. No macro, syntax, notation, axiom, sorry.
-/
import Derived.Test.YtogppkdndlheoaaGreatDoorRows
import GoSem.ClaimSeven
namespace Go.Proofs.YtogppkdndlheoaaGreatDoor
namespace Rows

/-- THE TIED CARD OF 'brocadelaw02.ParseWords'. -/
def parseWordsCard : Claim7 := { stood := { row := parseWordsRow, standIns := [], harness := (true, "aa4a740d4c6837e69a4814ea295769fc9681a047b38a3700cdfd7b94634202c6"), looks := true }, kinds := [], alts := [], laidByText := true, laidKinds := [.data, .data, .data, .sentinel, .sentinel, .data], laidTests := true, laidLooks := .later }
def ParseWordsCardSaid : Prop := Claim7.holds Tryz.pinned (.plain (OpenSpec.ofChange parseWordsSpec)) parseWordsCard

/-- THE TIED CARD OF 'brocadelaw02.ParseBrackets'. -/
def parseBracketsCard : Claim7 := { stood := { row := parseBracketsRow, standIns := [], harness := (true, "aa4a740d4c6837e69a4814ea295769fc9681a047b38a3700cdfd7b94634202c6"), looks := true }, kinds := [], alts := [], laidByText := true, laidKinds := [.data, .data, .data, .sentinel, .sentinel, .data], laidTests := true, laidLooks := .later }
def ParseBracketsCardSaid : Prop := Claim7.holds Tryz.pinned (.plain (OpenSpec.ofChange parseBracketsSpec)) parseBracketsCard

/-- THE TIED CARD OF 'brocadelaw02.ParseCut'. -/
def parseCutCard : Claim7 := { stood := { row := parseCutRow, standIns := [], harness := (true, "aa4a740d4c6837e69a4814ea295769fc9681a047b38a3700cdfd7b94634202c6"), looks := true }, kinds := [], alts := [], laidByText := true, laidKinds := [.data, .data, .data, .sentinel, .sentinel, .data], laidTests := true, laidLooks := .later }
def ParseCutCardSaid : Prop := Claim7.holds Tryz.pinned (.plain (OpenSpec.ofChange parseCutSpec)) parseCutCard

/-- THE TIED CARD OF 'brocadelaw02.ParseSides'. -/
def parseSidesCard : Claim7 := { stood := { row := parseSidesRow, standIns := [], harness := (true, "aa4a740d4c6837e69a4814ea295769fc9681a047b38a3700cdfd7b94634202c6"), looks := true }, kinds := [], alts := [], laidByText := true, laidKinds := [.data, .data, .data, .sentinel, .sentinel, .data], laidTests := true, laidLooks := .later }
def ParseSidesCardSaid : Prop := Claim7.holds Tryz.pinned (.plain (OpenSpec.ofChange parseSidesSpec)) parseSidesCard

/-- THE TIED CARD OF 'brocadelaw02.ParseNames'. -/
def parseNamesCard : Claim7 := { stood := { row := parseNamesRow, standIns := [], harness := (true, "aa4a740d4c6837e69a4814ea295769fc9681a047b38a3700cdfd7b94634202c6"), looks := true }, kinds := [], alts := [], laidByText := true, laidKinds := [.data, .data, .data, .sentinel, .sentinel, .data], laidTests := true, laidLooks := .later }
def ParseNamesCardSaid : Prop := Claim7.holds Tryz.pinned (.plain (OpenSpec.ofChange parseNamesSpec)) parseNamesCard

/-- THE TIED CARD OF 'brocadelaw02.ParseApps'. -/
def parseAppsCard : Claim7 := { stood := { row := parseAppsRow, standIns := [], harness := (true, "aa4a740d4c6837e69a4814ea295769fc9681a047b38a3700cdfd7b94634202c6"), looks := true }, kinds := [], alts := [], laidByText := true, laidKinds := [.data, .data, .data, .sentinel, .sentinel, .data], laidTests := true, laidLooks := .later }
def ParseAppsCardSaid : Prop := Claim7.holds Tryz.pinned (.plain (OpenSpec.ofChange parseAppsSpec)) parseAppsCard

/-- THE TIED CARD OF 'brocadelaw02.ParseNests'. -/
def parseNestsCard : Claim7 := { stood := { row := parseNestsRow, standIns := [], harness := (true, "aa4a740d4c6837e69a4814ea295769fc9681a047b38a3700cdfd7b94634202c6"), looks := true }, kinds := [], alts := [], laidByText := true, laidKinds := [.data, .data, .data, .sentinel, .sentinel, .data], laidTests := true, laidLooks := .later }
def ParseNestsCardSaid : Prop := Claim7.holds Tryz.pinned (.plain (OpenSpec.ofChange parseNestsSpec)) parseNestsCard

/-- THE TIED CARD OF 'brocadelaw02.ParseArms'. -/
def parseArmsCard : Claim7 := { stood := { row := parseArmsRow, standIns := [], harness := (true, "aa4a740d4c6837e69a4814ea295769fc9681a047b38a3700cdfd7b94634202c6"), looks := true }, kinds := [], alts := [], laidByText := true, laidKinds := [.data, .data, .data, .sentinel, .sentinel, .data], laidTests := true, laidLooks := .later }
def ParseArmsCardSaid : Prop := Claim7.holds Tryz.pinned (.plain (OpenSpec.ofChange parseArmsSpec)) parseArmsCard

/-- THE TIED CARD OF 'brocadelaw02.ParseDeclares'. -/
def parseDeclaresCard : Claim7 := { stood := { row := parseDeclaresRow, standIns := [], harness := (true, "aa4a740d4c6837e69a4814ea295769fc9681a047b38a3700cdfd7b94634202c6"), looks := true }, kinds := [], alts := [], laidByText := true, laidKinds := [.data, .data, .data, .sentinel, .sentinel, .data], laidTests := true, laidLooks := .later }
def ParseDeclaresCardSaid : Prop := Claim7.holds Tryz.pinned (.plain (OpenSpec.ofChange parseDeclaresSpec)) parseDeclaresCard

/-- THE SECOND FORM's CARD OF 'brocadelaw02.ParseWords'. -/
def parseWordsUptoCard : Claim7 := { stood := { row := parseWordsUptoRow, standIns := [], harness := (true, "aa4a740d4c6837e69a4814ea295769fc9681a047b38a3700cdfd7b94634202c6"), looks := true }, kinds := [], alts := [], laidByText := true, laidKinds := [.data, .data, .data, .sentinel, .sentinel, .data], laidTests := true, laidLooks := .later }
def ParseWordsUptoCardSaid : Prop := Claim7.holds Tryz.pinned (.plain (OpenSpec.upto parseWordsSpec)) parseWordsUptoCard

/-- THE SECOND FORM's CARD OF 'brocadelaw02.ParseBrackets'. -/
def parseBracketsUptoCard : Claim7 := { stood := { row := parseBracketsUptoRow, standIns := [], harness := (true, "aa4a740d4c6837e69a4814ea295769fc9681a047b38a3700cdfd7b94634202c6"), looks := true }, kinds := [], alts := [], laidByText := true, laidKinds := [.data, .data, .data, .sentinel, .sentinel, .data], laidTests := true, laidLooks := .later }
def ParseBracketsUptoCardSaid : Prop := Claim7.holds Tryz.pinned (.plain (OpenSpec.upto parseBracketsSpec)) parseBracketsUptoCard

/-- THE SECOND FORM's CARD OF 'brocadelaw02.ParseCut'. -/
def parseCutUptoCard : Claim7 := { stood := { row := parseCutUptoRow, standIns := [], harness := (true, "aa4a740d4c6837e69a4814ea295769fc9681a047b38a3700cdfd7b94634202c6"), looks := true }, kinds := [], alts := [], laidByText := true, laidKinds := [.data, .data, .data, .sentinel, .sentinel, .data], laidTests := true, laidLooks := .later }
def ParseCutUptoCardSaid : Prop := Claim7.holds Tryz.pinned (.plain (OpenSpec.upto parseCutSpec)) parseCutUptoCard

/-- THE SECOND FORM's CARD OF 'brocadelaw02.ParseSides'. -/
def parseSidesUptoCard : Claim7 := { stood := { row := parseSidesUptoRow, standIns := [], harness := (true, "aa4a740d4c6837e69a4814ea295769fc9681a047b38a3700cdfd7b94634202c6"), looks := true }, kinds := [], alts := [], laidByText := true, laidKinds := [.data, .data, .data, .sentinel, .sentinel, .data], laidTests := true, laidLooks := .later }
def ParseSidesUptoCardSaid : Prop := Claim7.holds Tryz.pinned (.plain (OpenSpec.upto parseSidesSpec)) parseSidesUptoCard

/-- THE SECOND FORM's CARD OF 'brocadelaw02.ParseNames'. -/
def parseNamesUptoCard : Claim7 := { stood := { row := parseNamesUptoRow, standIns := [], harness := (true, "aa4a740d4c6837e69a4814ea295769fc9681a047b38a3700cdfd7b94634202c6"), looks := true }, kinds := [], alts := [], laidByText := true, laidKinds := [.data, .data, .data, .sentinel, .sentinel, .data], laidTests := true, laidLooks := .later }
def ParseNamesUptoCardSaid : Prop := Claim7.holds Tryz.pinned (.plain (OpenSpec.upto parseNamesSpec)) parseNamesUptoCard

/-- THE SECOND FORM's CARD OF 'brocadelaw02.ParseApps'. -/
def parseAppsUptoCard : Claim7 := { stood := { row := parseAppsUptoRow, standIns := [], harness := (true, "aa4a740d4c6837e69a4814ea295769fc9681a047b38a3700cdfd7b94634202c6"), looks := true }, kinds := [], alts := [], laidByText := true, laidKinds := [.data, .data, .data, .sentinel, .sentinel, .data], laidTests := true, laidLooks := .later }
def ParseAppsUptoCardSaid : Prop := Claim7.holds Tryz.pinned (.plain (OpenSpec.upto parseAppsSpec)) parseAppsUptoCard

/-- THE SECOND FORM's CARD OF 'brocadelaw02.ParseNests'. -/
def parseNestsUptoCard : Claim7 := { stood := { row := parseNestsUptoRow, standIns := [], harness := (true, "aa4a740d4c6837e69a4814ea295769fc9681a047b38a3700cdfd7b94634202c6"), looks := true }, kinds := [], alts := [], laidByText := true, laidKinds := [.data, .data, .data, .sentinel, .sentinel, .data], laidTests := true, laidLooks := .later }
def ParseNestsUptoCardSaid : Prop := Claim7.holds Tryz.pinned (.plain (OpenSpec.upto parseNestsSpec)) parseNestsUptoCard

/-- THE SECOND FORM's CARD OF 'brocadelaw02.ParseArms'. -/
def parseArmsUptoCard : Claim7 := { stood := { row := parseArmsUptoRow, standIns := [], harness := (true, "aa4a740d4c6837e69a4814ea295769fc9681a047b38a3700cdfd7b94634202c6"), looks := true }, kinds := [], alts := [], laidByText := true, laidKinds := [.data, .data, .data, .sentinel, .sentinel, .data], laidTests := true, laidLooks := .later }
def ParseArmsUptoCardSaid : Prop := Claim7.holds Tryz.pinned (.plain (OpenSpec.upto parseArmsSpec)) parseArmsUptoCard

/-- THE SECOND FORM's CARD OF 'brocadelaw02.ParseDeclares'. -/
def parseDeclaresUptoCard : Claim7 := { stood := { row := parseDeclaresUptoRow, standIns := [], harness := (true, "aa4a740d4c6837e69a4814ea295769fc9681a047b38a3700cdfd7b94634202c6"), looks := true }, kinds := [], alts := [], laidByText := true, laidKinds := [.data, .data, .data, .sentinel, .sentinel, .data], laidTests := true, laidLooks := .later }
def ParseDeclaresUptoCardSaid : Prop := Claim7.holds Tryz.pinned (.plain (OpenSpec.upto parseDeclaresSpec)) parseDeclaresUptoCard
end Rows
end Go.Proofs.YtogppkdndlheoaaGreatDoor
