/-
  DERIVED. GIVEN WITH THE SEED: THE CARDS: each row of YtcodfkeidbeooaaDoorRows.lean that lists a variable, with what it lists TIED to the program's text (the seventh form; the later family's looks); each row that meets fmt, with fmt's text TOLD by the authors' own Lean function (tested against real Go, not proved from fmt's source: count such statements apart). THE CARD IS WHAT COUNTS. Prove the row's statement (the work); the ties are given (YtcodfkeidbeooaaDoorTie.lean); close each card by the builder's one call (the guide's Derived/Test/ToyasCard.lean, 'card_holds'). Laid BY PROGRAM, IN A SANDBOX (cutbox-door.mjs). By AI agents, Wed Nov 11 2026. No macro, syntax, notation, axiom, sorry.
-/
import Derived.Test.YtcodfkeidbeooaaDoorRows
import GoSem.ClaimSeven
namespace Go.Proofs.YtcodfkeidbeooaaDoor
namespace Rows

/-- THE TIED CARD OF 'jacquardlaw06.InterpOperators'. -/
def interpOperatorsCard : Claim7 := { stood := { row := interpOperatorsRow, standIns := [], harness := (true, "a1edab993602e219887bd1d2418166feaaaa07494b077aa2cfc2f8b239da6757"), looks := false }, kinds := [], alts := [], laidByText := true, laidKinds := [.data], laidTests := true, laidLooks := .later }
def InterpOperatorsCardSaid : Prop := Claim7.holds Tryd.pinned (.plain (OpenSpec.ofChange interpOperatorsSpec)) interpOperatorsCard

/-- THE SECOND FORM's CARD OF 'jacquardlaw06.InterpOperators'. -/
def interpOperatorsUptoCard : Claim7 := { stood := { row := interpOperatorsUptoRow, standIns := [], harness := (true, "a1edab993602e219887bd1d2418166feaaaa07494b077aa2cfc2f8b239da6757"), looks := false }, kinds := [], alts := [], laidByText := true, laidKinds := [.data], laidTests := true, laidLooks := .later }
def InterpOperatorsUptoCardSaid : Prop := Claim7.holds Tryd.pinned (.plain (OpenSpec.upto interpOperatorsSpec)) interpOperatorsUptoCard
end Rows
end Go.Proofs.YtcodfkeidbeooaaDoor
