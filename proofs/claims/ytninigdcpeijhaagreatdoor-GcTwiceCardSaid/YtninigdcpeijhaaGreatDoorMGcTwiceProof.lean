/- GcTwice returns true for every list of objects, every root, every number and every list of roots: a second run frees nothing and moves nothing, and no word in the heap leads to nothing; the listed package-level variables of the library start as the program's text lays them. -/
import Derived.Test.YtninigdcpeijhaaGreatDoorMGcTwiceWalk
import Derived.Test.YtninigdcpeijhaaGreatDoorMMade
import Derived.Test.YtninigdcpeijhaaGreatDoorMLaid
namespace Go.Proofs.YtninigdcpeijhaaGreatDoor.gcTwice
open Go.ChangeShapes Go.WideShapes Go.ChangeAt Go.RowKit
set_option linter.unusedVariables false

theorem laidOut : laidOutB Tryz.prog = true := by kernel_rfl
end Go.Proofs.YtninigdcpeijhaaGreatDoor.gcTwice
