/- Small lemmas that open an argument: a word is a natural number below 2 to the 64; an array of integers by value is written out. -/
import Derived.Test.YthdbaligapdbeaaGreatDoorRows
import Derived.WalkKit
import Derived.ProofKit
import Derived.OpenShut
import Derived.ShutString
import Derived.ChangeOld
import Derived.Below
import Derived.Lib.Hide
namespace Go.Proofs.YthdbaligapdbeaaGreatDoor
open Go.ChangeShapes Go.WideShapes Go.ChangeAt Go.RowKit

theorem own : ownKnob Tryz.prog.godebug = none := by kernel_rfl
theorem laidOut : laidOutB Tryz.prog = true := by kernel_rfl

theorem nat_u64 {a : Int} (h : (Lit.int .u64 a).wf = true) : ∃ x : Nat, a = (x : Int) ∧ x < 18446744073709551616 := by
 have := bounds_u64 h
 exact ⟨a.toNat, by omega, by omega⟩

end Go.Proofs.YthdbaligapdbeaaGreatDoor
