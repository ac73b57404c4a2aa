/- An append of one element inside a region that draws its order. Nothing of the program stands here. -/
import Derived.Test.YtkliclihpobmiaaGreatDoorMgSliceKit
import Derived.Deep.RegionHeld3
import Derived.Deep.AppendLies
namespace Go.Proofs.YtkliclihpobmiaaGreatDoor
open Go.RowKit

end Go.Proofs.YtkliclihpobmiaaGreatDoor
