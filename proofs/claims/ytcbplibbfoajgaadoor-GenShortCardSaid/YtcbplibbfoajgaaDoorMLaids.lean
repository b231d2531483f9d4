/- From the row's list of package-level variables to what the walks ask of them, and a world that holds them. From the rows of code: their list of package-level variables, code's own error among them. -/
import Derived.Test.YtcbplibbfoajgaaDoorMWords
import Derived.Test.YtcbplibbfoajgaaDoorCards
import Derived.Test.YtcbplibbfoajgaaDoorTie
import Derived.Test.YtcbplibbfoajgaaDoorMCodeA
import Derived.Deep.DeepHandedRow
import Derived.Deep.DeepWitnessRowRef
import Derived.Lib.LaidTab
import Derived.OpenShut
import Derived.ProofKit
import Derived.LaidHandle
import Derived.Stop.LaidErr
namespace Go.Proofs.YtcbplibbfoajgaaDoor
open Go.ChangeShapes Go.WideShapes Go.ChangeAt Go.RowKit

theorem wf_u64 {a : Int} (h : (Lit.int .u64 a).wf = true) : 0 ≤ a ∧ a ≤ 18446744073709551615 := by
  have := bounds_u64 h; omega
theorem own : ownKnob Tryd.prog.godebug = none := by kernel_rfl
theorem g_et : Tryd.prog.globalNamed "errors.errorType" = some 5 := by kernel_rfl
theorem cells_u64 : Tryd.prog.cellsOf 27 = 1 := by kernel_rfl
theorem rt_type : (Tryd.prog.cutTypes.find? (·.1 == "internal/reflectlite.rtype")).map (·.2) = some 133 := by kernel_rfl
theorem one_error : ((List.range 184).filter fun t => Tryd.prog.rowNamed t [101, 114, 114, 111, 114]) = [60] := by kernel_rfl
theorem n_types : Tryd.prog.types.size = 184 := by kernel_rfl
end Go.Proofs.YtcbplibbfoajgaaDoor
namespace Go.Proofs.YtcbplibbfoajgaaDoor
open Go.ChangeShapes Go.WideShapes Go.ChangeAt Go.RowKit

theorem g_ef : Tryd.prog.globalNamed "tappet/code.errField" = some 1 := by kernel_rfl
theorem g_efType : (Tryd.prog.globals[1]?).map (·.type) = some 60 := by kernel_rfl
theorem name_es : "*" ++ "errors.errorString" = "*errors.errorString" := by decide
theorem row_es (u : TypeId) (h : Tryd.prog.typeName? 3 u = some "*errors.errorString") : u = 151 :=
  typeName_ptr_named (nm := "errors.errorString") (by rw [name_es]; kernel_rfl) (by kernel_rfl) (by decide) u (by rw [name_es]; exact h)
theorem cells_es : Tryd.prog.cellsOf 172 = 1 := by kernel_rfl
theorem cells_str : Tryd.prog.cellsOf 9 = 1 := by kernel_rfl
theorem field_of_laid {W : World} (h : laidMet Tryd.prog [("tappet/code.errField", Rows.laid_tappet_code_errField)] W) : Field W := by
  obtain ⟨a, s, hv, -⟩ := laid_sentinel (tp := 151) (te := 172) (ts := 9) h g_ef g_efType Tryd.underlying60 row_es Tryd.underlying151 Tryd.underlying172 rfl rfl Tryd.underlying9 cells_es cells_str
  exact ⟨a, by simpa using World.var?_cell g_ef hv 0⟩
def putPtr (b : Nat) : Obj → Obj
  | .cells _ t frozen => .cells #[.iface 151 (.pointer (some ⟨b, 0, none⟩))] t frozen
  | o => o
end Go.Proofs.YtcbplibbfoajgaaDoor
