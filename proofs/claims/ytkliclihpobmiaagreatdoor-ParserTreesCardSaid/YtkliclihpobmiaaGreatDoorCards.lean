/-
  DERIVED. GIVEN WITH THE SEED: THE CARDS: each row of YtkliclihpobmiaaGreatDoorRows.lean that lists a variable, with what it lists TIED to the program's text (the seventh form; the later family's looks); each row that meets fmt, with fmt's text TOLD by the authors' own Lean function (tested against real Go, not proved from fmt's source: count such statements apart). THE CARD IS WHAT COUNTS. Prove the row's statement (the work); the ties are given (YtkliclihpobmiaaGreatDoorTie.lean); close each card by the builder's one call (the guide's Derived/Test/ToyasCard.lean, 'card_holds'). Laid BY PROGRAM, IN A SANDBOX (cutbox-door.mjs). By AI agents, Wed Nov 11 2026. No macro, syntax, notation, axiom, sorry.
-/
import Derived.Test.YtkliclihpobmiaaGreatDoorRows
import GoSem.ClaimSeven
namespace Go.Proofs.YtkliclihpobmiaaGreatDoor
namespace Rows

/-- THE TIED CARD OF 'jacquardlaw04.ParserTrees'. -/
def parserTreesCard : Claim7 := { stood := { row := parserTreesRow, standIns := [], harness := (true, "918b8c48214865324897e208733fa8179209614358e939a7c35ec5f3d29ab1ce"), looks := true }, kinds := [], alts := [], laidByText := true, laidKinds := [.data, .data, .data, .data, .sentinel, .sentinel, .data, .pinned], laidTests := true, laidLooks := .later }
def ParserTreesCardSaid : Prop := Claim7.holds Tryz.pinned (.plain (OpenSpec.ofChange parserTreesSpec)) parserTreesCard

/-- THE TIED CARD OF 'jacquardlaw04.ParserForms'. -/
def parserFormsCard : Claim7 := { stood := { row := parserFormsRow, standIns := [], harness := (true, "918b8c48214865324897e208733fa8179209614358e939a7c35ec5f3d29ab1ce"), looks := true }, kinds := [], alts := [], laidByText := true, laidKinds := [.data, .data, .data, .data, .sentinel, .sentinel, .data, .data, .data, .data, .wider, .data, .data, .wider, .pinned], laidTests := true, laidLooks := .later }
def ParserFormsCardSaid : Prop := Claim7.holds Tryz.pinned (.plain (OpenSpec.ofChange parserFormsSpec)) parserFormsCard

/-- THE TIED CARD OF 'jacquardlaw04.ParserGroups'. -/
def parserGroupsCard : Claim7 := { stood := { row := parserGroupsRow, standIns := [], harness := (true, "918b8c48214865324897e208733fa8179209614358e939a7c35ec5f3d29ab1ce"), looks := true }, kinds := [], alts := [], laidByText := true, laidKinds := [.data, .data, .data, .data, .sentinel, .sentinel, .data, .pinned], laidTests := true, laidLooks := .later }
def ParserGroupsCardSaid : Prop := Claim7.holds Tryz.pinned (.plain (OpenSpec.ofChange parserGroupsSpec)) parserGroupsCard

/-- THE TIED CARD OF 'jacquardlaw04.ParserTokens'. -/
def parserTokensCard : Claim7 := { stood := { row := parserTokensRow, standIns := [], harness := (true, "918b8c48214865324897e208733fa8179209614358e939a7c35ec5f3d29ab1ce"), looks := true }, kinds := [], alts := [], laidByText := true, laidKinds := [.data, .data, .data, .data, .sentinel, .sentinel, .data, .pinned], laidTests := true, laidLooks := .later }
def ParserTokensCardSaid : Prop := Claim7.holds Tryz.pinned (.plain (OpenSpec.ofChange parserTokensSpec)) parserTokensCard

/-- THE TIED CARD OF 'jacquardlaw04.ParserTools'. -/
def parserToolsCard : Claim7 := { stood := { row := parserToolsRow, standIns := [], harness := (true, "918b8c48214865324897e208733fa8179209614358e939a7c35ec5f3d29ab1ce"), looks := true }, kinds := [], alts := [], laidByText := true, laidKinds := [.data, .data, .data, .data, .sentinel, .sentinel, .data, .wider, .pinned], laidTests := true, laidLooks := .later }
def ParserToolsCardSaid : Prop := Claim7.holds Tryz.pinned (.plain (OpenSpec.ofChange parserToolsSpec)) parserToolsCard

/-- THE TIED CARD OF 'jacquardlaw04.ParserBrackets'. -/
def parserBracketsCard : Claim7 := { stood := { row := parserBracketsRow, standIns := [], harness := (true, "918b8c48214865324897e208733fa8179209614358e939a7c35ec5f3d29ab1ce"), looks := true }, kinds := [], alts := [], laidByText := true, laidKinds := [.data, .data, .data, .data, .sentinel, .sentinel, .data, .pinned], laidTests := true, laidLooks := .later }
def ParserBracketsCardSaid : Prop := Claim7.holds Tryz.pinned (.plain (OpenSpec.ofChange parserBracketsSpec)) parserBracketsCard

/-- THE TIED CARD OF 'jacquardlaw04.ParserLevels'. -/
def parserLevelsCard : Claim7 := { stood := { row := parserLevelsRow, standIns := [], harness := (true, "918b8c48214865324897e208733fa8179209614358e939a7c35ec5f3d29ab1ce"), looks := true }, kinds := [], alts := [], laidByText := true, laidKinds := [.data, .data, .data, .data, .sentinel, .sentinel, .data, .pinned], laidTests := true, laidLooks := .later }
def ParserLevelsCardSaid : Prop := Claim7.holds Tryz.pinned (.plain (OpenSpec.ofChange parserLevelsSpec)) parserLevelsCard

/-- THE SECOND FORM's CARD OF 'jacquardlaw04.ParserTrees'. -/
def parserTreesUptoCard : Claim7 := { stood := { row := parserTreesUptoRow, standIns := [], harness := (true, "918b8c48214865324897e208733fa8179209614358e939a7c35ec5f3d29ab1ce"), looks := true }, kinds := [], alts := [], laidByText := true, laidKinds := [.data, .data, .data, .data, .sentinel, .sentinel, .data, .pinned], laidTests := true, laidLooks := .later }
def ParserTreesUptoCardSaid : Prop := Claim7.holds Tryz.pinned (.plain (OpenSpec.upto parserTreesSpec)) parserTreesUptoCard

/-- THE SECOND FORM's CARD OF 'jacquardlaw04.ParserForms'. -/
def parserFormsUptoCard : Claim7 := { stood := { row := parserFormsUptoRow, standIns := [], harness := (true, "918b8c48214865324897e208733fa8179209614358e939a7c35ec5f3d29ab1ce"), looks := true }, kinds := [], alts := [], laidByText := true, laidKinds := [.data, .data, .data, .data, .sentinel, .sentinel, .data, .data, .data, .data, .wider, .data, .data, .wider, .pinned], laidTests := true, laidLooks := .later }
def ParserFormsUptoCardSaid : Prop := Claim7.holds Tryz.pinned (.plain (OpenSpec.upto parserFormsSpec)) parserFormsUptoCard

/-- THE SECOND FORM's CARD OF 'jacquardlaw04.ParserGroups'. -/
def parserGroupsUptoCard : Claim7 := { stood := { row := parserGroupsUptoRow, standIns := [], harness := (true, "918b8c48214865324897e208733fa8179209614358e939a7c35ec5f3d29ab1ce"), looks := true }, kinds := [], alts := [], laidByText := true, laidKinds := [.data, .data, .data, .data, .sentinel, .sentinel, .data, .pinned], laidTests := true, laidLooks := .later }
def ParserGroupsUptoCardSaid : Prop := Claim7.holds Tryz.pinned (.plain (OpenSpec.upto parserGroupsSpec)) parserGroupsUptoCard

/-- THE SECOND FORM's CARD OF 'jacquardlaw04.ParserTokens'. -/
def parserTokensUptoCard : Claim7 := { stood := { row := parserTokensUptoRow, standIns := [], harness := (true, "918b8c48214865324897e208733fa8179209614358e939a7c35ec5f3d29ab1ce"), looks := true }, kinds := [], alts := [], laidByText := true, laidKinds := [.data, .data, .data, .data, .sentinel, .sentinel, .data, .pinned], laidTests := true, laidLooks := .later }
def ParserTokensUptoCardSaid : Prop := Claim7.holds Tryz.pinned (.plain (OpenSpec.upto parserTokensSpec)) parserTokensUptoCard

/-- THE SECOND FORM's CARD OF 'jacquardlaw04.ParserTools'. -/
def parserToolsUptoCard : Claim7 := { stood := { row := parserToolsUptoRow, standIns := [], harness := (true, "918b8c48214865324897e208733fa8179209614358e939a7c35ec5f3d29ab1ce"), looks := true }, kinds := [], alts := [], laidByText := true, laidKinds := [.data, .data, .data, .data, .sentinel, .sentinel, .data, .wider, .pinned], laidTests := true, laidLooks := .later }
def ParserToolsUptoCardSaid : Prop := Claim7.holds Tryz.pinned (.plain (OpenSpec.upto parserToolsSpec)) parserToolsUptoCard

/-- THE SECOND FORM's CARD OF 'jacquardlaw04.ParserBrackets'. -/
def parserBracketsUptoCard : Claim7 := { stood := { row := parserBracketsUptoRow, standIns := [], harness := (true, "918b8c48214865324897e208733fa8179209614358e939a7c35ec5f3d29ab1ce"), looks := true }, kinds := [], alts := [], laidByText := true, laidKinds := [.data, .data, .data, .data, .sentinel, .sentinel, .data, .pinned], laidTests := true, laidLooks := .later }
def ParserBracketsUptoCardSaid : Prop := Claim7.holds Tryz.pinned (.plain (OpenSpec.upto parserBracketsSpec)) parserBracketsUptoCard

/-- THE SECOND FORM's CARD OF 'jacquardlaw04.ParserLevels'. -/
def parserLevelsUptoCard : Claim7 := { stood := { row := parserLevelsUptoRow, standIns := [], harness := (true, "918b8c48214865324897e208733fa8179209614358e939a7c35ec5f3d29ab1ce"), looks := true }, kinds := [], alts := [], laidByText := true, laidKinds := [.data, .data, .data, .data, .sentinel, .sentinel, .data, .pinned], laidTests := true, laidLooks := .later }
def ParserLevelsUptoCardSaid : Prop := Claim7.holds Tryz.pinned (.plain (OpenSpec.upto parserLevelsSpec)) parserLevelsUptoCard
end Rows
end Go.Proofs.YtkliclihpobmiaaGreatDoor
