/-
  DERIVED. GIVEN WITH THE SEED: THE CARDS: each row of YthdbaligapdbeaaGreatDoorRows.lean that lists a variable, with what it lists TIED to the program's text (the seventh form; the later family's looks); each row that meets fmt, with fmt's text TOLD by the authors' own Lean function (tested against real Go, not proved from fmt's source: count such statements apart). THE CARD IS WHAT COUNTS. Prove the row's statement (the work); the ties are given (YthdbaligapdbeaaGreatDoorTie.lean); close each card by the builder's one call (the guide's Derived/Test/ToyasCard.lean, 'card_holds'). Laid BY PROGRAM, IN A SANDBOX (cutbox-door.mjs). By AI agents, Wed Nov 11 2026. No macro, syntax, notation, axiom, sorry.
-/
import Derived.Test.YthdbaligapdbeaaGreatDoorRows
import GoSem.ClaimSeven
namespace Go.Proofs.YthdbaligapdbeaaGreatDoor
namespace Rows

/-- THE TIED CARD OF 'jacquardlaw04.ParserForms'. -/
def parserFormsCard : Claim7 := { stood := { row := parserFormsRow, standIns := [], harness := (true, "b6cfddc412bfdbab6839711d3730a78e6d174bbfa941924ebb39721b58417d97"), looks := true }, kinds := [], alts := [], laidByText := true, laidKinds := [.data, .data, .data, .data, .sentinel, .sentinel, .data, .data, .data, .data, .wider, .data, .data, .wider, .pinned], laidTests := true, laidLooks := .later }
def ParserFormsCardSaid : Prop := Claim7.holds Tryz.pinned (.plain (OpenSpec.ofChange parserFormsSpec)) parserFormsCard

/-- THE TIED CARD OF 'jacquardlaw05.TypesChecks'. -/
def typesChecksCard : Claim7 := { stood := { row := typesChecksRow, standIns := [], harness := (true, "b6cfddc412bfdbab6839711d3730a78e6d174bbfa941924ebb39721b58417d97"), looks := true }, kinds := [], alts := [], laidByText := true, laidKinds := [.data, .data, .data, .data, .sentinel, .sentinel, .data, .data, .data, .data, .wider, .data, .data, .wider, .data, .data, .data, .pinned], laidTests := true, laidLooks := .later }
def TypesChecksCardSaid : Prop := Claim7.holds Tryz.pinned (.plain (OpenSpec.ofChange typesChecksSpec)) typesChecksCard

/-- THE TIED CARD OF 'jacquardlaw05.TypesAgain'. -/
def typesAgainCard : Claim7 := { stood := { row := typesAgainRow, standIns := [], harness := (true, "b6cfddc412bfdbab6839711d3730a78e6d174bbfa941924ebb39721b58417d97"), looks := true }, kinds := [], alts := [], laidByText := true, laidKinds := [.data, .data, .data, .data, .sentinel, .sentinel, .data, .data, .data, .data, .wider, .data, .data, .wider, .data, .data, .data, .pinned], laidTests := true, laidLooks := .later }
def TypesAgainCardSaid : Prop := Claim7.holds Tryz.pinned (.plain (OpenSpec.ofChange typesAgainSpec)) typesAgainCard

/-- THE TIED CARD OF 'jacquardlaw05.TypesTyped'. -/
def typesTypedCard : Claim7 := { stood := { row := typesTypedRow, standIns := [], harness := (true, "b6cfddc412bfdbab6839711d3730a78e6d174bbfa941924ebb39721b58417d97"), looks := true }, kinds := [], alts := [], laidByText := true, laidKinds := [.data, .data, .data, .data, .sentinel, .sentinel, .data, .data, .data, .data, .wider, .data, .data, .wider, .data, .data, .data, .pinned], laidTests := true, laidLooks := .later }
def TypesTypedCardSaid : Prop := Claim7.holds Tryz.pinned (.plain (OpenSpec.ofChange typesTypedSpec)) typesTypedCard

/-- THE TIED CARD OF 'jacquardlaw05.TypesOperands'. -/
def typesOperandsCard : Claim7 := { stood := { row := typesOperandsRow, standIns := [], harness := (true, "b6cfddc412bfdbab6839711d3730a78e6d174bbfa941924ebb39721b58417d97"), looks := true }, kinds := [], alts := [], laidByText := true, laidKinds := [.data, .data, .data, .data, .sentinel, .sentinel, .data, .data, .data, .data, .wider, .data, .data, .wider, .data, .data, .data, .pinned], laidTests := true, laidLooks := .later }
def TypesOperandsCardSaid : Prop := Claim7.holds Tryz.pinned (.plain (OpenSpec.ofChange typesOperandsSpec)) typesOperandsCard

/-- THE TIED CARD OF 'jacquardlaw05.TypesRenamed'. -/
def typesRenamedCard : Claim7 := { stood := { row := typesRenamedRow, standIns := [], harness := (true, "b6cfddc412bfdbab6839711d3730a78e6d174bbfa941924ebb39721b58417d97"), looks := true }, kinds := [], alts := [], laidByText := true, laidKinds := [.data, .data, .data, .data, .sentinel, .sentinel, .data, .data, .data, .data, .wider, .data, .data, .wider, .data, .data, .data, .pinned], laidTests := true, laidLooks := .later }
def TypesRenamedCardSaid : Prop := Claim7.holds Tryz.pinned (.plain (OpenSpec.ofChange typesRenamedSpec)) typesRenamedCard

/-- THE TIED CARD OF 'jacquardlaw05.TypesNumbers'. -/
def typesNumbersCard : Claim7 := { stood := { row := typesNumbersRow, standIns := [], harness := (true, "b6cfddc412bfdbab6839711d3730a78e6d174bbfa941924ebb39721b58417d97"), looks := true }, kinds := [], alts := [], laidByText := true, laidKinds := [.data, .data, .data, .data, .sentinel, .sentinel, .data, .data, .data, .data, .wider, .data, .data, .wider, .data, .data, .data, .pinned], laidTests := true, laidLooks := .later }
def TypesNumbersCardSaid : Prop := Claim7.holds Tryz.pinned (.plain (OpenSpec.ofChange typesNumbersSpec)) typesNumbersCard

/-- THE SECOND FORM's CARD OF 'jacquardlaw04.ParserForms'. -/
def parserFormsUptoCard : Claim7 := { stood := { row := parserFormsUptoRow, standIns := [], harness := (true, "b6cfddc412bfdbab6839711d3730a78e6d174bbfa941924ebb39721b58417d97"), looks := true }, kinds := [], alts := [], laidByText := true, laidKinds := [.data, .data, .data, .data, .sentinel, .sentinel, .data, .data, .data, .data, .wider, .data, .data, .wider, .pinned], laidTests := true, laidLooks := .later }
def ParserFormsUptoCardSaid : Prop := Claim7.holds Tryz.pinned (.plain (OpenSpec.upto parserFormsSpec)) parserFormsUptoCard

/-- THE SECOND FORM's CARD OF 'jacquardlaw05.TypesChecks'. -/
def typesChecksUptoCard : Claim7 := { stood := { row := typesChecksUptoRow, standIns := [], harness := (true, "b6cfddc412bfdbab6839711d3730a78e6d174bbfa941924ebb39721b58417d97"), looks := true }, kinds := [], alts := [], laidByText := true, laidKinds := [.data, .data, .data, .data, .sentinel, .sentinel, .data, .data, .data, .data, .wider, .data, .data, .wider, .data, .data, .data, .pinned], laidTests := true, laidLooks := .later }
def TypesChecksUptoCardSaid : Prop := Claim7.holds Tryz.pinned (.plain (OpenSpec.upto typesChecksSpec)) typesChecksUptoCard

/-- THE SECOND FORM's CARD OF 'jacquardlaw05.TypesAgain'. -/
def typesAgainUptoCard : Claim7 := { stood := { row := typesAgainUptoRow, standIns := [], harness := (true, "b6cfddc412bfdbab6839711d3730a78e6d174bbfa941924ebb39721b58417d97"), looks := true }, kinds := [], alts := [], laidByText := true, laidKinds := [.data, .data, .data, .data, .sentinel, .sentinel, .data, .data, .data, .data, .wider, .data, .data, .wider, .data, .data, .data, .pinned], laidTests := true, laidLooks := .later }
def TypesAgainUptoCardSaid : Prop := Claim7.holds Tryz.pinned (.plain (OpenSpec.upto typesAgainSpec)) typesAgainUptoCard

/-- THE SECOND FORM's CARD OF 'jacquardlaw05.TypesTyped'. -/
def typesTypedUptoCard : Claim7 := { stood := { row := typesTypedUptoRow, standIns := [], harness := (true, "b6cfddc412bfdbab6839711d3730a78e6d174bbfa941924ebb39721b58417d97"), looks := true }, kinds := [], alts := [], laidByText := true, laidKinds := [.data, .data, .data, .data, .sentinel, .sentinel, .data, .data, .data, .data, .wider, .data, .data, .wider, .data, .data, .data, .pinned], laidTests := true, laidLooks := .later }
def TypesTypedUptoCardSaid : Prop := Claim7.holds Tryz.pinned (.plain (OpenSpec.upto typesTypedSpec)) typesTypedUptoCard

/-- THE SECOND FORM's CARD OF 'jacquardlaw05.TypesOperands'. -/
def typesOperandsUptoCard : Claim7 := { stood := { row := typesOperandsUptoRow, standIns := [], harness := (true, "b6cfddc412bfdbab6839711d3730a78e6d174bbfa941924ebb39721b58417d97"), looks := true }, kinds := [], alts := [], laidByText := true, laidKinds := [.data, .data, .data, .data, .sentinel, .sentinel, .data, .data, .data, .data, .wider, .data, .data, .wider, .data, .data, .data, .pinned], laidTests := true, laidLooks := .later }
def TypesOperandsUptoCardSaid : Prop := Claim7.holds Tryz.pinned (.plain (OpenSpec.upto typesOperandsSpec)) typesOperandsUptoCard

/-- THE SECOND FORM's CARD OF 'jacquardlaw05.TypesRenamed'. -/
def typesRenamedUptoCard : Claim7 := { stood := { row := typesRenamedUptoRow, standIns := [], harness := (true, "b6cfddc412bfdbab6839711d3730a78e6d174bbfa941924ebb39721b58417d97"), looks := true }, kinds := [], alts := [], laidByText := true, laidKinds := [.data, .data, .data, .data, .sentinel, .sentinel, .data, .data, .data, .data, .wider, .data, .data, .wider, .data, .data, .data, .pinned], laidTests := true, laidLooks := .later }
def TypesRenamedUptoCardSaid : Prop := Claim7.holds Tryz.pinned (.plain (OpenSpec.upto typesRenamedSpec)) typesRenamedUptoCard

/-- THE SECOND FORM's CARD OF 'jacquardlaw05.TypesNumbers'. -/
def typesNumbersUptoCard : Claim7 := { stood := { row := typesNumbersUptoRow, standIns := [], harness := (true, "b6cfddc412bfdbab6839711d3730a78e6d174bbfa941924ebb39721b58417d97"), looks := true }, kinds := [], alts := [], laidByText := true, laidKinds := [.data, .data, .data, .data, .sentinel, .sentinel, .data, .data, .data, .data, .wider, .data, .data, .wider, .data, .data, .data, .pinned], laidTests := true, laidLooks := .later }
def TypesNumbersUptoCardSaid : Prop := Claim7.holds Tryz.pinned (.plain (OpenSpec.upto typesNumbersSpec)) typesNumbersUptoCard
end Rows
end Go.Proofs.YthdbaligapdbeaaGreatDoor
