/- From the row's list of package-level variables to what the walks ask of them, and a world that holds them. From the rows of code: their list of package-level variables, code's own error among them. -/
import Derived.Test.YtomcfjckhajhmabGreatDoorMWords
import Derived.Test.YtomcfjckhajhmabGreatDoorCards
import Derived.Test.YtomcfjckhajhmabGreatDoorTie
import Derived.Test.YtomcfjckhajhmabGreatDoorMCodeA
import Derived.Deep.DeepHandedRow
import Derived.Deep.DeepWitnessRowRef
import Derived.Lib.LaidTab
import Derived.OpenShut
import Derived.ProofKit
import Derived.LaidHandle
import Derived.Stop.LaidErr
namespace Go.Proofs.YtomcfjckhajhmabGreatDoor
open Go.ChangeShapes Go.WideShapes Go.ChangeAt Go.RowKit

theorem wf_u64 {a : Int} (h : (Lit.int .u64 a).wf = true) : 0 ≤ a ∧ a ≤ 18446744073709551615 := by
  have := bounds_u64 h; omega
theorem own : ownKnob Tryz.prog.godebug = none := by kernel_rfl
theorem g_et : Tryz.prog.globalNamed "errors.errorType" = some 5 := by kernel_rfl
theorem cells_u64 : Tryz.prog.cellsOf 28 = 1 := by kernel_rfl
theorem rt_type : (Tryz.prog.cutTypes.find? (·.1 == "internal/reflectlite.rtype")).map (·.2) = some 179 := by kernel_rfl
theorem one_error : ((List.range 250).filter fun t => Tryz.prog.rowNamed t [101, 114, 114, 111, 114]) = [92] := by kernel_rfl
theorem n_types : Tryz.prog.types.size = 250 := by kernel_rfl
end Go.Proofs.YtomcfjckhajhmabGreatDoor
namespace Go.Proofs.YtomcfjckhajhmabGreatDoor
open Go.ChangeShapes Go.WideShapes Go.ChangeAt Go.RowKit

theorem g_ef : Tryz.prog.globalNamed "tappet/code.errField" = some 1 := by kernel_rfl
theorem g_efType : (Tryz.prog.globals[1]?).map (·.type) = some 92 := by kernel_rfl
theorem name_es : "*" ++ "errors.errorString" = "*errors.errorString" := by decide
theorem row_es (u : TypeId) (h : Tryz.prog.typeName? 3 u = some "*errors.errorString") : u = 218 :=
  typeName_ptr_named (nm := "errors.errorString") (by rw [name_es]; kernel_rfl) (by kernel_rfl) (by decide) u (by rw [name_es]; exact h)
theorem cells_es : Tryz.prog.cellsOf 238 = 1 := by kernel_rfl
theorem cells_str : Tryz.prog.cellsOf 9 = 1 := by kernel_rfl
theorem field_of_laid {W : World} (h : laidMet Tryz.prog [("tappet/code.errField", Rows.laid_tappet_code_errField)] W) : Field W := by
  obtain ⟨a, s, hv, -⟩ := laid_sentinel (tp := 218) (te := 238) (ts := 9) h g_ef g_efType Tryz.underlying92 row_es Tryz.underlying218 Tryz.underlying238 rfl rfl Tryz.underlying9 cells_es cells_str
  exact ⟨a, by simpa using World.var?_cell g_ef hv 0⟩
def putPtr (b : Nat) : Obj → Obj
  | .cells _ t frozen => .cells #[.iface 218 (.pointer (some ⟨b, 0, none⟩))] t frozen
  | o => o
end Go.Proofs.YtomcfjckhajhmabGreatDoor
