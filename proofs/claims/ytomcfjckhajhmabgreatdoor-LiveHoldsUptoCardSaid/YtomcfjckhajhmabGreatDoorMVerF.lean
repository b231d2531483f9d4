/- From the rows of verify: their list of package-level variables, and a world that holds them. -/
import Derived.Test.YtomcfjckhajhmabGreatDoorMLaids
import Derived.Test.YtomcfjckhajhmabGreatDoorMVerE
namespace Go.Proofs.YtomcfjckhajhmabGreatDoor
open Go.ChangeShapes Go.WideShapes Go.ChangeAt Go.RowKit

/-- the list of the rows -/
def laidAllV : List (String × DataW Unit) := [("math/bits.deBruijn32tab", Rows.laid_math_bits_deBruijn32tab), ("errors.errorType", Rows.laid_errors_errorType), ("tappet/code.errField", Rows.laid_tappet_code_errField), ("tappet/verify.errMethod", Rows.laid_tappet_verify_errMethod), ("tappet/verify.errOperand", Rows.laid_tappet_verify_errOperand), ("tappet/verify.errFew", Rows.laid_tappet_verify_errFew), ("tappet/verify.errMany", Rows.laid_tappet_verify_errMany), ("tappet/verify.errDepths", Rows.laid_tappet_verify_errDepths), ("tappet/verify.errBeyond", Rows.laid_tappet_verify_errBeyond)]
theorem g_db : Tryz.prog.globalNamed "math/bits.deBruijn32tab" = some 6 := by kernel_rfl
theorem g_dbType : (Tryz.prog.globals[6]?).map (·.type) = some 176 := by kernel_rfl
theorem cells_db : Tryz.prog.cellsOf 176 = 32 := by kernel_rfl
theorem cells_u8 : Tryz.prog.cellsOf 5 = 1 := by kernel_rfl
theorem db_is : (Rows.laid_math_bits_deBruijn32tab : DataW Unit) = Lib.tabData .u8 dbTab := by kernel_rfl
theorem db_of_laid {W : World} {r : List (String × DataW Unit)} (h : laidMet Tryz.prog (("math/bits.deBruijn32tab", Rows.laid_math_bits_deBruijn32tab) :: r) W) : DbAt W := by
  rw [db_is] at h
  have hv := Lib.tabIs_of_head g_db g_dbType Tryz.underlying176 Tryz.underlying5 cells_u8 cells_db h
  intro j x hj
  have := World.var?_cell g_db hv j
  rw [this]
  simp [hj]
theorem g_errMethod : Tryz.prog.globalNamed "tappet/verify.errMethod" = some 0 := by kernel_rfl
theorem gt_errMethod : (Tryz.prog.globals[0]?).map (·.type) = some 92 := by kernel_rfl
theorem errMethod_of_laid {W : World} {r : List (String × DataW Unit)} (h : laidMet Tryz.prog (("tappet/verify.errMethod", Rows.laid_tappet_verify_errMethod) :: r) W) : ∃ a, W.cell? ⟨0, 0, none⟩ = some (.iface 218 (.pointer (some a))) := by
  obtain ⟨a, s, hv, -⟩ := laid_sentinel (tp := 218) (te := 238) (ts := 9) h g_errMethod gt_errMethod Tryz.underlying92 row_es Tryz.underlying218 Tryz.underlying238 rfl rfl Tryz.underlying9 cells_es cells_str
  exact ⟨a, by simpa using World.var?_cell g_errMethod hv 0⟩
theorem g_errOperand : Tryz.prog.globalNamed "tappet/verify.errOperand" = some 2 := by kernel_rfl
theorem gt_errOperand : (Tryz.prog.globals[2]?).map (·.type) = some 92 := by kernel_rfl
theorem errOperand_of_laid {W : World} {r : List (String × DataW Unit)} (h : laidMet Tryz.prog (("tappet/verify.errOperand", Rows.laid_tappet_verify_errOperand) :: r) W) : ∃ a, W.cell? ⟨2, 0, none⟩ = some (.iface 218 (.pointer (some a))) := by
  obtain ⟨a, s, hv, -⟩ := laid_sentinel (tp := 218) (te := 238) (ts := 9) h g_errOperand gt_errOperand Tryz.underlying92 row_es Tryz.underlying218 Tryz.underlying238 rfl rfl Tryz.underlying9 cells_es cells_str
  exact ⟨a, by simpa using World.var?_cell g_errOperand hv 0⟩
theorem g_errFew : Tryz.prog.globalNamed "tappet/verify.errFew" = some 7 := by kernel_rfl
theorem gt_errFew : (Tryz.prog.globals[7]?).map (·.type) = some 92 := by kernel_rfl
theorem errFew_of_laid {W : World} {r : List (String × DataW Unit)} (h : laidMet Tryz.prog (("tappet/verify.errFew", Rows.laid_tappet_verify_errFew) :: r) W) : ∃ a, W.cell? ⟨7, 0, none⟩ = some (.iface 218 (.pointer (some a))) := by
  obtain ⟨a, s, hv, -⟩ := laid_sentinel (tp := 218) (te := 238) (ts := 9) h g_errFew gt_errFew Tryz.underlying92 row_es Tryz.underlying218 Tryz.underlying238 rfl rfl Tryz.underlying9 cells_es cells_str
  exact ⟨a, by simpa using World.var?_cell g_errFew hv 0⟩
theorem g_errMany : Tryz.prog.globalNamed "tappet/verify.errMany" = some 8 := by kernel_rfl
theorem gt_errMany : (Tryz.prog.globals[8]?).map (·.type) = some 92 := by kernel_rfl
theorem errMany_of_laid {W : World} {r : List (String × DataW Unit)} (h : laidMet Tryz.prog (("tappet/verify.errMany", Rows.laid_tappet_verify_errMany) :: r) W) : ∃ a, W.cell? ⟨8, 0, none⟩ = some (.iface 218 (.pointer (some a))) := by
  obtain ⟨a, s, hv, -⟩ := laid_sentinel (tp := 218) (te := 238) (ts := 9) h g_errMany gt_errMany Tryz.underlying92 row_es Tryz.underlying218 Tryz.underlying238 rfl rfl Tryz.underlying9 cells_es cells_str
  exact ⟨a, by simpa using World.var?_cell g_errMany hv 0⟩
theorem g_errDepths : Tryz.prog.globalNamed "tappet/verify.errDepths" = some 3 := by kernel_rfl
theorem gt_errDepths : (Tryz.prog.globals[3]?).map (·.type) = some 92 := by kernel_rfl
theorem errDepths_of_laid {W : World} {r : List (String × DataW Unit)} (h : laidMet Tryz.prog (("tappet/verify.errDepths", Rows.laid_tappet_verify_errDepths) :: r) W) : ∃ a, W.cell? ⟨3, 0, none⟩ = some (.iface 218 (.pointer (some a))) := by
  obtain ⟨a, s, hv, -⟩ := laid_sentinel (tp := 218) (te := 238) (ts := 9) h g_errDepths gt_errDepths Tryz.underlying92 row_es Tryz.underlying218 Tryz.underlying238 rfl rfl Tryz.underlying9 cells_es cells_str
  exact ⟨a, by simpa using World.var?_cell g_errDepths hv 0⟩
theorem g_errBeyond : Tryz.prog.globalNamed "tappet/verify.errBeyond" = some 4 := by kernel_rfl
theorem gt_errBeyond : (Tryz.prog.globals[4]?).map (·.type) = some 92 := by kernel_rfl
theorem errBeyond_of_laid {W : World} {r : List (String × DataW Unit)} (h : laidMet Tryz.prog (("tappet/verify.errBeyond", Rows.laid_tappet_verify_errBeyond) :: r) W) : ∃ a, W.cell? ⟨4, 0, none⟩ = some (.iface 218 (.pointer (some a))) := by
  obtain ⟨a, s, hv, -⟩ := laid_sentinel (tp := 218) (te := 238) (ts := 9) h g_errBeyond gt_errBeyond Tryz.underlying92 row_es Tryz.underlying218 Tryz.underlying238 rfl rfl Tryz.underlying9 cells_es cells_str
  exact ⟨a, by simpa using World.var?_cell g_errBeyond hv 0⟩
theorem field_of_laidV {W : World} {r : List (String × DataW Unit)} (h : laidMet Tryz.prog (("tappet/code.errField", Rows.laid_tappet_code_errField) :: r) W) : Field W := by
  obtain ⟨a, s, hv, -⟩ := laid_sentinel (tp := 218) (te := 238) (ts := 9) h g_ef g_efType Tryz.underlying92 row_es Tryz.underlying218 Tryz.underlying238 rfl rfl Tryz.underlying9 cells_es cells_str
  exact ⟨a, by simpa using World.var?_cell g_ef hv 0⟩
theorem vg_of_laid {W : World} (h : laidMetH Tryz.prog laidAllV W) : VG W := by
  have h' : laidMet Tryz.prog [("math/bits.deBruijn32tab", Rows.laid_math_bits_deBruijn32tab), ("tappet/code.errField", Rows.laid_tappet_code_errField), ("tappet/verify.errMethod", Rows.laid_tappet_verify_errMethod), ("tappet/verify.errOperand", Rows.laid_tappet_verify_errOperand), ("tappet/verify.errFew", Rows.laid_tappet_verify_errFew), ("tappet/verify.errMany", Rows.laid_tappet_verify_errMany), ("tappet/verify.errDepths", Rows.laid_tappet_verify_errDepths), ("tappet/verify.errBeyond", Rows.laid_tappet_verify_errBeyond)] W ∧ handlesMet Tryz.prog [("errors.errorType", Rows.laid_errors_errorType)] W := h
  refine ⟨⟨errFew_of_laid h'.1.tail.tail.tail.tail, errMany_of_laid h'.1.tail.tail.tail.tail.tail, errDepths_of_laid h'.1.tail.tail.tail.tail.tail.tail, errBeyond_of_laid h'.1.tail.tail.tail.tail.tail.tail.tail, errOperand_of_laid h'.1.tail.tail.tail, errMethod_of_laid h'.1.tail.tail⟩, field_of_laidV h'.1.tail, db_of_laid h'.1, ?_⟩
  obtain ⟨name, u, ty, e1, e2, e3, e4, e5⟩ := h'.2 _ (List.mem_singleton.2 rfl)
  have en : name = [101, 114, 114, 111, 114] := (Option.some.inj e1).symm
  subst en
  obtain rfl := Option.some.inj (rt_type.symm.trans e2)
  have hm : ty ∈ (List.range 250).filter fun t => Tryz.prog.rowNamed t [101, 114, 114, 111, 114] := List.mem_filter.2 ⟨List.mem_range.2 (by rw [← n_types]; exact e3), e4⟩
  rw [one_error] at hm
  obtain rfl := List.mem_singleton.1 hm
  have hh : typeHandle Tryz.prog 92 = .pointer (some ⟨9, 92, none⟩) := by kernel_rfl
  rw [hh] at e5
  unfold EType
  simpa using World.var?_cell g_et e5 0
def putErr (b : Nat) : Obj → Obj
  | .cells _ t frozen => .cells #[.iface 218 (.pointer (some ⟨b, 0, none⟩))] t frozen
  | o => o
def addErr (w : World) (g : Nat) (bs : Array UInt8) : World := { w with heap := Array.push (Array.modify w.heap g (putErr w.heap.size)) (Obj.cells #[.string ⟨bs⟩] 238 (0, 0)) }
def putType : Obj → Obj
  | .cells _ t frozen => .cells #[.iface 179 (.agg #[.pointer (some ⟨9, 92, none⟩)])] t frozen
  | o => o
def putTab : Obj → Obj
  | .cells _ t frozen => .cells (dbTab.map (Value.int .u8)).toArray t frozen
  | o => o
noncomputable def laidWorldV0 (os : Os) : World := { World.holding Tryz.prog os ⟨#[], #[], []⟩ with heap := Array.modify (Array.modify (World.holding Tryz.prog os ⟨#[], #[], []⟩).heap 5 putType) 6 putTab }
/-- a world that holds them -/
noncomputable def laidWorldV (os : Os) : World := addErr (addErr (addErr (addErr (addErr (addErr (addErr (laidWorldV0 os) 1 #[99, 111, 100, 101, 58, 32, 97, 110, 32, 105, 110, 118, 97, 108, 105, 100, 32, 102, 105, 101, 108, 100]) 0 #[110, 111, 32, 109, 101, 116, 104, 111, 100]) 2 #[97, 110, 32, 111, 112, 101, 114, 97, 110, 100, 32, 111, 117, 116, 32, 111, 102, 32, 105, 116, 115, 32, 114, 97, 110, 103, 101]) 7 #[116, 111, 111, 32, 102, 101, 119, 32, 119, 111, 114, 100, 115, 32, 111, 110, 32, 116, 104, 101, 32, 115, 116, 97, 99, 107]) 8 #[116, 111, 111, 32, 109, 97, 110, 121, 32, 119, 111, 114, 100, 115, 32, 111, 110, 32, 116, 104, 101, 32, 115, 116, 97, 99, 107]) 3 #[114, 101, 97, 99, 104, 101, 100, 32, 119, 105, 116, 104, 32, 100, 105, 102, 102, 101, 114, 101, 110, 116, 32, 100, 101, 112, 116, 104, 115]) 4 #[116, 104, 101, 32, 99, 111, 100, 101, 32, 101, 110, 100, 115, 32, 98, 101, 104, 105, 110, 100, 32, 105, 116]
theorem laid_metV (os : Os) (args : Array Value) : laidMetH Tryz.prog laidAllV ((laidWorldV os).forCall (fun _ _ => 0) ⟨#[], args, []⟩).memory :=
  laidMetH_of_parts (laidMet_of_run' 8 (by kernel_rfl) (by kernel_rfl)) (by kernel_rfl)
end Go.Proofs.YtomcfjckhajhmabGreatDoor
