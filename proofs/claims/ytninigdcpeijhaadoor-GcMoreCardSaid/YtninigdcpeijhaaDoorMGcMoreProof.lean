/- GcMore returns true for every list of objects, every root, every number, every list of roots and every number more: a root more keeps no less; the listed package-level variables of the library start as the program's text lays them. -/
import Derived.Test.YtninigdcpeijhaaDoorMGcMoreWalk
import Derived.Test.YtninigdcpeijhaaDoorMMade
import Derived.Test.YtninigdcpeijhaaDoorMLaid
namespace Go.Proofs.YtninigdcpeijhaaDoor.gcMore
open Go.ChangeShapes Go.WideShapes Go.ChangeAt Go.RowKit
set_option linter.unusedVariables false

theorem laidOut : laidOutB Tryd.prog = true := by kernel_rfl
end Go.Proofs.YtninigdcpeijhaaDoor.gcMore
