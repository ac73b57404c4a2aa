/- Which operators commute, associate and have an identity; the reference's two guards. -/
import Derived.Test.YtcodfkeidbeooaaDoorBitProg
namespace Go.Proofs.YtcodfkeidbeooaaDoor
open Go.RowKit

/-- The operators of which Commutes reports true. -/
def comm (op : Int) : Bool := decide (op = 2 ∨ op = 4 ∨ op = 9 ∨ op = 10 ∨ op = 11 ∨ op = 15 ∨ op = 16)
def assoc (op : Int) : Bool := decide (op = 2 ∨ op = 4 ∨ op = 9 ∨ op = 10 ∨ op = 11)
/-- The operators that have an identity; the word. -/
def hasId (op : Int) : Bool := decide ((2 ≤ op ∧ op ≤ 4) ∨ op = 5 ∨ op = 7 ∨ (9 ≤ op ∧ op ≤ 14))
def idWord (op w : Int) : Nat := if op = 4 ∨ op = 5 ∨ op = 7 then 1 else if op = 9 then mask w else 0
/-! the reference's guards -/
end Go.Proofs.YtcodfkeidbeooaaDoor
