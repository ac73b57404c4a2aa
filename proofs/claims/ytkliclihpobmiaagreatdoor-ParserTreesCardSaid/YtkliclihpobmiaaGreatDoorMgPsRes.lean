/- The trees of nested brackets and of many operators of one operand. Nothing of the program stands here. -/
import Derived.Test.YtkliclihpobmiaaGreatDoorMgPsTxt
namespace Go.Proofs.YtkliclihpobmiaaGreatDoor
open Go Go.RowKit
set_option linter.unusedVariables false

end Go.Proofs.YtkliclihpobmiaaGreatDoor
