/- From the rows of VerifyChecks and VerifyFields: their list of package-level variables, and a world that holds them. Methods with their places, and outers, that came in. -/
import Derived.Test.YtjghgambieflaaaGreatDoorMLaids
import Derived.Test.YtjghgambieflaaaGreatDoorMVerK
import Derived.Test.YtjghgambieflaaaGreatDoorMVerF
import Derived.Deep.Strs
namespace Go.Proofs.YtjghgambieflaaaGreatDoor
open Go.ChangeShapes Go.WideShapes Go.ChangeAt Go.RowKit

/-- the list of the rows -/
def laidAll6 : List (String × DataW Unit) := [("math/bits.deBruijn32tab", Rows.laid_math_bits_deBruijn32tab), ("math/bits.deBruijn64tab", Rows.laid_math_bits_deBruijn64tab), ("internal/strconv.uint64pow10", Rows.laid_internal_strconv_uint64pow10), ("errors.errorType", Rows.laid_errors_errorType), ("tappet/code.errField", Rows.laid_tappet_code_errField), ("tappet/verify.errMethod", Rows.laid_tappet_verify_errMethod), ("tappet/verify.errPrim", Rows.laid_tappet_verify_errPrim), ("tappet/verify.errOperand", Rows.laid_tappet_verify_errOperand), ("tappet/verify.errFew", Rows.laid_tappet_verify_errFew), ("tappet/verify.errMany", Rows.laid_tappet_verify_errMany), ("tappet/verify.errDepths", Rows.laid_tappet_verify_errDepths), ("tappet/verify.errBeyond", Rows.laid_tappet_verify_errBeyond), ("tappet/verify.errField", Rows.laid_tappet_verify_errField), ("tappet/verify.errInside", Rows.laid_tappet_verify_errInside), ("tappet/verify.errOutside", Rows.laid_tappet_verify_errOutside), ("tappet/verify.errOuter", Rows.laid_tappet_verify_errOuter), ("tappet/verify.errNested", Rows.laid_tappet_verify_errNested)]
theorem g6_db : Tryz.prog.globalNamed "math/bits.deBruijn32tab" = some 12 := by kernel_rfl
theorem g6_dbType : (Tryz.prog.globals[12]?).map (·.type) = some 195 := by kernel_rfl
theorem cells6_db : Tryz.prog.cellsOf 195 = 32 := by kernel_rfl
theorem cells6_u8 : Tryz.prog.cellsOf 5 = 1 := by kernel_rfl
theorem db6_is : (Rows.laid_math_bits_deBruijn32tab : DataW Unit) = Lib.tabData .u8 dbTab := by kernel_rfl
theorem db6_of_laid {W : World} {r : List (String × DataW Unit)} (h : laidMet Tryz.prog (("math/bits.deBruijn32tab", Rows.laid_math_bits_deBruijn32tab) :: r) W) : DbAt W := by
  rw [db6_is] at h
  have hv := Lib.tabIs_of_head g6_db g6_dbType Tryz.underlying195 Tryz.underlying5 cells6_u8 cells6_db h
  intro j x hj
  have := World.var?_cell g6_db hv j
  rw [this]
  simp [hj]
theorem g6_code_errField : Tryz.prog.globalNamed "tappet/code.errField" = some 2 := by kernel_rfl
theorem gt6_code_errField : (Tryz.prog.globals[2]?).map (·.type) = some 59 := by kernel_rfl
theorem code_errField_of_laid6 {W : World} {r : List (String × DataW Unit)} (h : laidMet Tryz.prog (("tappet/code.errField", Rows.laid_tappet_code_errField) :: r) W) : ∃ a, W.cell? ⟨2, 0, none⟩ = some (.iface 224 (.pointer (some a))) := by
  obtain ⟨a, s, hv, -⟩ := laid_sentinel (tp := 224) (te := 244) (ts := 9) h g6_code_errField gt6_code_errField Tryz.underlying59 row_es Tryz.underlying224 Tryz.underlying244 rfl rfl Tryz.underlying9 cells_es cells_str
  exact ⟨a, by simpa using World.var?_cell g6_code_errField hv 0⟩
theorem g6_verify_errMethod : Tryz.prog.globalNamed "tappet/verify.errMethod" = some 0 := by kernel_rfl
theorem gt6_verify_errMethod : (Tryz.prog.globals[0]?).map (·.type) = some 59 := by kernel_rfl
theorem verify_errMethod_of_laid6 {W : World} {r : List (String × DataW Unit)} (h : laidMet Tryz.prog (("tappet/verify.errMethod", Rows.laid_tappet_verify_errMethod) :: r) W) : ∃ a, W.cell? ⟨0, 0, none⟩ = some (.iface 224 (.pointer (some a))) := by
  obtain ⟨a, s, hv, -⟩ := laid_sentinel (tp := 224) (te := 244) (ts := 9) h g6_verify_errMethod gt6_verify_errMethod Tryz.underlying59 row_es Tryz.underlying224 Tryz.underlying244 rfl rfl Tryz.underlying9 cells_es cells_str
  exact ⟨a, by simpa using World.var?_cell g6_verify_errMethod hv 0⟩
theorem g6_verify_errPrim : Tryz.prog.globalNamed "tappet/verify.errPrim" = some 1 := by kernel_rfl
theorem gt6_verify_errPrim : (Tryz.prog.globals[1]?).map (·.type) = some 59 := by kernel_rfl
theorem verify_errPrim_of_laid6 {W : World} {r : List (String × DataW Unit)} (h : laidMet Tryz.prog (("tappet/verify.errPrim", Rows.laid_tappet_verify_errPrim) :: r) W) : ∃ a, W.cell? ⟨1, 0, none⟩ = some (.iface 224 (.pointer (some a))) := by
  obtain ⟨a, s, hv, -⟩ := laid_sentinel (tp := 224) (te := 244) (ts := 9) h g6_verify_errPrim gt6_verify_errPrim Tryz.underlying59 row_es Tryz.underlying224 Tryz.underlying244 rfl rfl Tryz.underlying9 cells_es cells_str
  exact ⟨a, by simpa using World.var?_cell g6_verify_errPrim hv 0⟩
theorem g6_verify_errOperand : Tryz.prog.globalNamed "tappet/verify.errOperand" = some 8 := by kernel_rfl
theorem gt6_verify_errOperand : (Tryz.prog.globals[8]?).map (·.type) = some 59 := by kernel_rfl
theorem verify_errOperand_of_laid6 {W : World} {r : List (String × DataW Unit)} (h : laidMet Tryz.prog (("tappet/verify.errOperand", Rows.laid_tappet_verify_errOperand) :: r) W) : ∃ a, W.cell? ⟨8, 0, none⟩ = some (.iface 224 (.pointer (some a))) := by
  obtain ⟨a, s, hv, -⟩ := laid_sentinel (tp := 224) (te := 244) (ts := 9) h g6_verify_errOperand gt6_verify_errOperand Tryz.underlying59 row_es Tryz.underlying224 Tryz.underlying244 rfl rfl Tryz.underlying9 cells_es cells_str
  exact ⟨a, by simpa using World.var?_cell g6_verify_errOperand hv 0⟩
theorem g6_verify_errFew : Tryz.prog.globalNamed "tappet/verify.errFew" = some 13 := by kernel_rfl
theorem gt6_verify_errFew : (Tryz.prog.globals[13]?).map (·.type) = some 59 := by kernel_rfl
theorem verify_errFew_of_laid6 {W : World} {r : List (String × DataW Unit)} (h : laidMet Tryz.prog (("tappet/verify.errFew", Rows.laid_tappet_verify_errFew) :: r) W) : ∃ a, W.cell? ⟨13, 0, none⟩ = some (.iface 224 (.pointer (some a))) := by
  obtain ⟨a, s, hv, -⟩ := laid_sentinel (tp := 224) (te := 244) (ts := 9) h g6_verify_errFew gt6_verify_errFew Tryz.underlying59 row_es Tryz.underlying224 Tryz.underlying244 rfl rfl Tryz.underlying9 cells_es cells_str
  exact ⟨a, by simpa using World.var?_cell g6_verify_errFew hv 0⟩
theorem g6_verify_errMany : Tryz.prog.globalNamed "tappet/verify.errMany" = some 14 := by kernel_rfl
theorem gt6_verify_errMany : (Tryz.prog.globals[14]?).map (·.type) = some 59 := by kernel_rfl
theorem verify_errMany_of_laid6 {W : World} {r : List (String × DataW Unit)} (h : laidMet Tryz.prog (("tappet/verify.errMany", Rows.laid_tappet_verify_errMany) :: r) W) : ∃ a, W.cell? ⟨14, 0, none⟩ = some (.iface 224 (.pointer (some a))) := by
  obtain ⟨a, s, hv, -⟩ := laid_sentinel (tp := 224) (te := 244) (ts := 9) h g6_verify_errMany gt6_verify_errMany Tryz.underlying59 row_es Tryz.underlying224 Tryz.underlying244 rfl rfl Tryz.underlying9 cells_es cells_str
  exact ⟨a, by simpa using World.var?_cell g6_verify_errMany hv 0⟩
theorem g6_verify_errDepths : Tryz.prog.globalNamed "tappet/verify.errDepths" = some 9 := by kernel_rfl
theorem gt6_verify_errDepths : (Tryz.prog.globals[9]?).map (·.type) = some 59 := by kernel_rfl
theorem verify_errDepths_of_laid6 {W : World} {r : List (String × DataW Unit)} (h : laidMet Tryz.prog (("tappet/verify.errDepths", Rows.laid_tappet_verify_errDepths) :: r) W) : ∃ a, W.cell? ⟨9, 0, none⟩ = some (.iface 224 (.pointer (some a))) := by
  obtain ⟨a, s, hv, -⟩ := laid_sentinel (tp := 224) (te := 244) (ts := 9) h g6_verify_errDepths gt6_verify_errDepths Tryz.underlying59 row_es Tryz.underlying224 Tryz.underlying244 rfl rfl Tryz.underlying9 cells_es cells_str
  exact ⟨a, by simpa using World.var?_cell g6_verify_errDepths hv 0⟩
theorem g6_verify_errBeyond : Tryz.prog.globalNamed "tappet/verify.errBeyond" = some 10 := by kernel_rfl
theorem gt6_verify_errBeyond : (Tryz.prog.globals[10]?).map (·.type) = some 59 := by kernel_rfl
theorem verify_errBeyond_of_laid6 {W : World} {r : List (String × DataW Unit)} (h : laidMet Tryz.prog (("tappet/verify.errBeyond", Rows.laid_tappet_verify_errBeyond) :: r) W) : ∃ a, W.cell? ⟨10, 0, none⟩ = some (.iface 224 (.pointer (some a))) := by
  obtain ⟨a, s, hv, -⟩ := laid_sentinel (tp := 224) (te := 244) (ts := 9) h g6_verify_errBeyond gt6_verify_errBeyond Tryz.underlying59 row_es Tryz.underlying224 Tryz.underlying244 rfl rfl Tryz.underlying9 cells_es cells_str
  exact ⟨a, by simpa using World.var?_cell g6_verify_errBeyond hv 0⟩
theorem g6_verify_errField : Tryz.prog.globalNamed "tappet/verify.errField" = some 4 := by kernel_rfl
theorem gt6_verify_errField : (Tryz.prog.globals[4]?).map (·.type) = some 59 := by kernel_rfl
theorem verify_errField_of_laid6 {W : World} {r : List (String × DataW Unit)} (h : laidMet Tryz.prog (("tappet/verify.errField", Rows.laid_tappet_verify_errField) :: r) W) : ∃ a, W.cell? ⟨4, 0, none⟩ = some (.iface 224 (.pointer (some a))) := by
  obtain ⟨a, s, hv, -⟩ := laid_sentinel (tp := 224) (te := 244) (ts := 9) h g6_verify_errField gt6_verify_errField Tryz.underlying59 row_es Tryz.underlying224 Tryz.underlying244 rfl rfl Tryz.underlying9 cells_es cells_str
  exact ⟨a, by simpa using World.var?_cell g6_verify_errField hv 0⟩
theorem g6_verify_errInside : Tryz.prog.globalNamed "tappet/verify.errInside" = some 5 := by kernel_rfl
theorem gt6_verify_errInside : (Tryz.prog.globals[5]?).map (·.type) = some 59 := by kernel_rfl
theorem verify_errInside_of_laid6 {W : World} {r : List (String × DataW Unit)} (h : laidMet Tryz.prog (("tappet/verify.errInside", Rows.laid_tappet_verify_errInside) :: r) W) : ∃ a, W.cell? ⟨5, 0, none⟩ = some (.iface 224 (.pointer (some a))) := by
  obtain ⟨a, s, hv, -⟩ := laid_sentinel (tp := 224) (te := 244) (ts := 9) h g6_verify_errInside gt6_verify_errInside Tryz.underlying59 row_es Tryz.underlying224 Tryz.underlying244 rfl rfl Tryz.underlying9 cells_es cells_str
  exact ⟨a, by simpa using World.var?_cell g6_verify_errInside hv 0⟩
theorem g6_verify_errOutside : Tryz.prog.globalNamed "tappet/verify.errOutside" = some 7 := by kernel_rfl
theorem gt6_verify_errOutside : (Tryz.prog.globals[7]?).map (·.type) = some 59 := by kernel_rfl
theorem verify_errOutside_of_laid6 {W : World} {r : List (String × DataW Unit)} (h : laidMet Tryz.prog (("tappet/verify.errOutside", Rows.laid_tappet_verify_errOutside) :: r) W) : ∃ a, W.cell? ⟨7, 0, none⟩ = some (.iface 224 (.pointer (some a))) := by
  obtain ⟨a, s, hv, -⟩ := laid_sentinel (tp := 224) (te := 244) (ts := 9) h g6_verify_errOutside gt6_verify_errOutside Tryz.underlying59 row_es Tryz.underlying224 Tryz.underlying244 rfl rfl Tryz.underlying9 cells_es cells_str
  exact ⟨a, by simpa using World.var?_cell g6_verify_errOutside hv 0⟩
theorem g6_verify_errOuter : Tryz.prog.globalNamed "tappet/verify.errOuter" = some 6 := by kernel_rfl
theorem gt6_verify_errOuter : (Tryz.prog.globals[6]?).map (·.type) = some 59 := by kernel_rfl
theorem verify_errOuter_of_laid6 {W : World} {r : List (String × DataW Unit)} (h : laidMet Tryz.prog (("tappet/verify.errOuter", Rows.laid_tappet_verify_errOuter) :: r) W) : ∃ a, W.cell? ⟨6, 0, none⟩ = some (.iface 224 (.pointer (some a))) := by
  obtain ⟨a, s, hv, -⟩ := laid_sentinel (tp := 224) (te := 244) (ts := 9) h g6_verify_errOuter gt6_verify_errOuter Tryz.underlying59 row_es Tryz.underlying224 Tryz.underlying244 rfl rfl Tryz.underlying9 cells_es cells_str
  exact ⟨a, by simpa using World.var?_cell g6_verify_errOuter hv 0⟩
theorem g6_verify_errNested : Tryz.prog.globalNamed "tappet/verify.errNested" = some 11 := by kernel_rfl
theorem gt6_verify_errNested : (Tryz.prog.globals[11]?).map (·.type) = some 59 := by kernel_rfl
theorem verify_errNested_of_laid6 {W : World} {r : List (String × DataW Unit)} (h : laidMet Tryz.prog (("tappet/verify.errNested", Rows.laid_tappet_verify_errNested) :: r) W) : ∃ a, W.cell? ⟨11, 0, none⟩ = some (.iface 224 (.pointer (some a))) := by
  obtain ⟨a, s, hv, -⟩ := laid_sentinel (tp := 224) (te := 244) (ts := 9) h g6_verify_errNested gt6_verify_errNested Tryz.underlying59 row_es Tryz.underlying224 Tryz.underlying244 rfl rfl Tryz.underlying9 cells_es cells_str
  exact ⟨a, by simpa using World.var?_cell g6_verify_errNested hv 0⟩
/-- what the walks ask of them -/
structure VG6 (W : World) : Prop where
  glob : Glob W
  field : Field W
  verrs : VErrs W
  cerrs : CErrs W
  db : DbAt W
  et : EType W
theorem vg6_of_laid {W : World} (h : laidMetH Tryz.prog laidAll6 W) : VG6 W := by
  have h' : laidMet Tryz.prog [("math/bits.deBruijn32tab", Rows.laid_math_bits_deBruijn32tab), ("math/bits.deBruijn64tab", Rows.laid_math_bits_deBruijn64tab), ("internal/strconv.uint64pow10", Rows.laid_internal_strconv_uint64pow10), ("tappet/code.errField", Rows.laid_tappet_code_errField), ("tappet/verify.errMethod", Rows.laid_tappet_verify_errMethod), ("tappet/verify.errPrim", Rows.laid_tappet_verify_errPrim), ("tappet/verify.errOperand", Rows.laid_tappet_verify_errOperand), ("tappet/verify.errFew", Rows.laid_tappet_verify_errFew), ("tappet/verify.errMany", Rows.laid_tappet_verify_errMany), ("tappet/verify.errDepths", Rows.laid_tappet_verify_errDepths), ("tappet/verify.errBeyond", Rows.laid_tappet_verify_errBeyond), ("tappet/verify.errField", Rows.laid_tappet_verify_errField), ("tappet/verify.errInside", Rows.laid_tappet_verify_errInside), ("tappet/verify.errOutside", Rows.laid_tappet_verify_errOutside), ("tappet/verify.errOuter", Rows.laid_tappet_verify_errOuter), ("tappet/verify.errNested", Rows.laid_tappet_verify_errNested)] W ∧ handlesMet Tryz.prog [("errors.errorType", Rows.laid_errors_errorType)] W := h
  have het : EType W := by
    obtain ⟨name, u, ty, e1, e2, e3, e4, e5⟩ := h'.2 _ (List.mem_singleton.2 rfl)
    have en : name = [101, 114, 114, 111, 114] := (Option.some.inj e1).symm
    subst en
    obtain rfl := Option.some.inj (rt_type.symm.trans e2)
    have hm : ty ∈ (List.range 256).filter fun t => Tryz.prog.rowNamed t [101, 114, 114, 111, 114] := List.mem_filter.2 ⟨List.mem_range.2 (by rw [← n_types]; exact e3), e4⟩
    rw [one_error] at hm
    obtain rfl := List.mem_singleton.1 hm
    have hh : typeHandle Tryz.prog 59 = .pointer (some ⟨17, 59, none⟩) := by kernel_rfl
    rw [hh] at e5
    unfold EType
    simpa using World.var?_cell g_et e5 0
  have htab : Lib.TabIs Tryz.prog W "internal/strconv.uint64pow10" .u64 Lib.pow10Tab := by
    have h3 := h'.1.tail.tail
    rw [tab_is] at h3
    exact Lib.tabIs_of_head g_tab g_tabType Tryz.underlying220 Tryz.underlying31 cells_u64 cells_tab h3
  exact ⟨⟨het, htab⟩, code_errField_of_laid6 h'.1.tail.tail.tail, ⟨verify_errFew_of_laid6 h'.1.tail.tail.tail.tail.tail.tail.tail, verify_errMany_of_laid6 h'.1.tail.tail.tail.tail.tail.tail.tail.tail, verify_errDepths_of_laid6 h'.1.tail.tail.tail.tail.tail.tail.tail.tail.tail, verify_errBeyond_of_laid6 h'.1.tail.tail.tail.tail.tail.tail.tail.tail.tail.tail, verify_errOperand_of_laid6 h'.1.tail.tail.tail.tail.tail.tail, verify_errMethod_of_laid6 h'.1.tail.tail.tail.tail⟩, ⟨verify_errField_of_laid6 h'.1.tail.tail.tail.tail.tail.tail.tail.tail.tail.tail.tail, verify_errInside_of_laid6 h'.1.tail.tail.tail.tail.tail.tail.tail.tail.tail.tail.tail.tail, verify_errOutside_of_laid6 h'.1.tail.tail.tail.tail.tail.tail.tail.tail.tail.tail.tail.tail.tail, verify_errOuter_of_laid6 h'.1.tail.tail.tail.tail.tail.tail.tail.tail.tail.tail.tail.tail.tail.tail, verify_errNested_of_laid6 h'.1.tail.tail.tail.tail.tail.tail.tail.tail.tail.tail.tail.tail.tail.tail.tail, verify_errPrim_of_laid6 h'.1.tail.tail.tail.tail.tail⟩, db6_of_laid h'.1, het⟩
def putErr6 (b : Nat) : Obj → Obj
  | .cells _ t frozen => .cells #[.iface 224 (.pointer (some ⟨b, 0, none⟩))] t frozen
  | o => o
def addErr6 (w : World) (g : Nat) (bs : Array UInt8) : World := { w with heap := Array.push (Array.modify w.heap g (putErr6 w.heap.size)) (Obj.cells #[.string ⟨bs⟩] 244 (0, 0)) }
/-- a world that holds them -/
noncomputable def laidWorld6 (os : Os) : World := addErr6 (addErr6 (addErr6 (addErr6 (addErr6 (addErr6 (addErr6 (addErr6 (addErr6 (addErr6 (addErr6 (addErr6 (addErr6 (laidWorld os) 2 #[99, 111, 100, 101, 58, 32, 97, 110, 32, 105, 110, 118, 97, 108, 105, 100, 32, 102, 105, 101, 108, 100]) 0 #[110, 111, 32, 109, 101, 116, 104, 111, 100]) 1 #[97, 32, 98, 108, 111, 99, 107, 32, 119, 105, 116, 104, 32, 97, 32, 112, 114, 105, 109, 105, 116, 105, 118, 101]) 8 #[97, 110, 32, 111, 112, 101, 114, 97, 110, 100, 32, 111, 117, 116, 32, 111, 102, 32, 105, 116, 115, 32, 114, 97, 110, 103, 101]) 13 #[116, 111, 111, 32, 102, 101, 119, 32, 119, 111, 114, 100, 115, 32, 111, 110, 32, 116, 104, 101, 32, 115, 116, 97, 99, 107]) 14 #[116, 111, 111, 32, 109, 97, 110, 121, 32, 119, 111, 114, 100, 115, 32, 111, 110, 32, 116, 104, 101, 32, 115, 116, 97, 99, 107]) 9 #[114, 101, 97, 99, 104, 101, 100, 32, 119, 105, 116, 104, 32, 100, 105, 102, 102, 101, 114, 101, 110, 116, 32, 100, 101, 112, 116, 104, 115]) 10 #[116, 104, 101, 32, 99, 111, 100, 101, 32, 101, 110, 100, 115, 32, 98, 101, 104, 105, 110, 100, 32, 105, 116]) 4 #[110, 111, 32, 115, 117, 99, 104, 32, 102, 105, 101, 108, 100]) 5 #[111, 110, 108, 121, 32, 111, 117, 116, 115, 105, 100, 101, 32, 111, 102, 32, 97, 32, 98, 108, 111, 99, 107]) 7 #[111, 110, 108, 121, 32, 105, 110, 32, 97, 32, 98, 108, 111, 99, 107]) 6 #[110, 111, 32, 115, 117, 99, 104, 32, 111, 117, 116, 101, 114, 32, 116, 101, 109, 112, 111, 114, 97, 114, 121]) 11 #[97, 32, 98, 108, 111, 99, 107, 32, 110, 101, 115, 116, 101, 100, 32, 116, 111, 111, 32, 100, 101, 101, 112]
theorem laid_met6 (os : Os) (args : Array Value) : laidMetH Tryz.prog laidAll6 ((laidWorld6 os).forCall (fun _ _ => 0) ⟨#[], args, []⟩).memory :=
  laidMetH_of_parts (laidMet_of_run' 8 (by kernel_rfl) (by kernel_rfl)) (by kernel_rfl)
end Go.Proofs.YtjghgambieflaaaGreatDoor
namespace Go.Proofs.YtjghgambieflaaaGreatDoor
open Go.ChangeShapes Go.WideShapes Go.RowKit Go.Deep
/-- a method and where it is to be named -/
structure Nst where
  m : Mth
  la : Option Addr
  lc : Nat
  ca : Option Addr
  cc : Nat
  up : Int
  i : Int
def Mth.cs (m : Mth) (la : Option Addr) (lc : Nat) (ca : Option Addr) (cc : Nat) : List Value := [.int .i64 m.args, .int .i64 m.temps, .int .i64 m.stack, .int .i64 m.prim, .slice la m.lits.length lc, .slice ca m.code.length cc]
def Nst.cs (n : Nst) : List Value := [.int .i64 n.m.args, .int .i64 n.m.temps, .int .i64 n.m.stack, .int .i64 n.m.prim, .slice n.la n.m.lits.length n.lc, .slice n.ca n.m.code.length n.cc, .int .i64 n.up, .int .i64 n.i]
def flatN (l : List Nst) : List Value := l.flatMap Nst.cs
theorem flatN_cons (a : Nst) (l : List Nst) : flatN (a :: l) = a.cs ++ flatN l := rfl
theorem flatN_len (l : List Nst) : (flatN l).length = l.length * 8 := by
  induction l with
  | nil => rfl
  | cons a l ih => rw [flatN_cons, List.length_append, ih]; simp [Nst.cs]; omega
theorem flatN_at {l : List Nst} {k j : Nat} {n : Nst} (h : l[k]? = some n) (hj : j < 8) : (flatN l)[k * 8 + j]? = n.cs[j]? := by
  induction l generalizing k with
  | nil => simp at h
  | cons a l ih =>
    rw [flatN_cons]
    have hl : a.cs.length = 8 := rfl
    cases k with
    | zero =>
      simp only [List.getElem?_cons_zero, Option.some.injEq] at h
      subst h
      rw [Nat.zero_mul, Nat.zero_add, List.getElem?_append_left (by omega)]
    | succ k =>
      rw [List.getElem?_append_right (by omega), hl, show (k + 1) * 8 + j - 8 = k * 8 + j by omega]
      exact ih (by simpa using h)
theorem flatN_get {l : List Nst} {j : Nat} {u : Value} (h : (flatN l)[j]? = some u) : ∃ i n k, l[i]? = some n ∧ k < 8 ∧ j = i * 8 + k ∧ n.cs[k]? = some u := by
  have hj := (List.getElem?_eq_some_iff.1 h).1
  rw [flatN_len] at hj
  have hi : j / 8 < l.length := by omega
  have hio := List.getElem?_eq_getElem hi
  have hk : j % 8 < 8 := by omega
  have hr : j = j / 8 * 8 + j % 8 := by omega
  refine ⟨j / 8, l[j / 8], j % 8, hio, hk, hr, ?_⟩
  rw [← flatN_at hio hk, ← hr]
  exact h
section
variable {H : Type} {enc : TypeId × Value → H} {w : World} {base : Nat} {spare : Nat → Bool} {held : Bool}

theorem list6_of {cs : List Value} {a b c d e f : Value} (h : cs.length = 6) (h0 : cs[0]? = some a) (h1 : cs[1]? = some b) (h2 : cs[2]? = some c) (h3 : cs[3]? = some d) (h4 : cs[4]? = some e) (h5 : cs[5]? = some f) : cs = [a, b, c, d, e, f] := by
  match cs, h with
  | [x, y, z, u, v, t], _ => simp at h0 h1 h2 h3 h4 h5; rw [h0, h1, h2, h3, h4, h5]
set_option maxRecDepth 100000 in
theorem read_method_cs {n : Nat} {cs : List Value} {y : DataW H × List MemPlace} (hf : DataW.trod enc Tryz.prog w base spare held n 25 cs = some y) (hl : Light 25 y.1) : ∃ m la lc ca cc, cs = Mth.cs m la lc ca cc ∧ MIn w m la lc ca ∧ m.code.length ≤ cc := by
  have hf0 := hf
  obtain ⟨ys, k, hx, hlen, hF⟩ := fields_of Tryz.underlying25 (by kernel_rfl) (by kernel_rfl) hf
  rw [hx] at hl
  obtain ⟨v0, y0, c0, -, t0⟩ := hF 0 _ rfl
  obtain ⟨v1, y1, c1, -, t1⟩ := hF 1 _ rfl
  obtain ⟨v2, y2, c2, -, t2⟩ := hF 2 _ rfl
  obtain ⟨v3, y3, c3, -, t3⟩ := hF 3 _ rfl
  obtain ⟨v4, y4, c4, hy4, t4⟩ := hF 4 _ rfl
  obtain ⟨v5, y5, c5, hy5, t5⟩ := hF 5 _ rfl
  have l4 := hl.field Tryz.underlying25 (j := 4) rfl hy4
  have l5 := hl.field Tryz.underlying25 (j := 5) rfl hy5
  obtain ⟨z0, e0, -, g0⟩ := DataW.trod_int Tryz.underlying3 t0
  obtain ⟨z1, e1, -, g1⟩ := DataW.trod_int Tryz.underlying3 t1
  obtain ⟨z2, e2, -, g2⟩ := DataW.trod_int Tryz.underlying3 t2
  obtain ⟨z3, e3, -, g3⟩ := DataW.trod_int Tryz.underlying3 t3
  obtain ⟨la, lc, xs, rfl, hwd, hwb, hxl, hnil, hpos⟩ := read_words2 t4 l4
  obtain ⟨ca, cc, is, rfl, hro, hil, hcb⟩ := read_instrs t5 l5
  simp only [List.cons.injEq, and_true] at e0 e1 e2 e3
  subst e0
  subst e1
  subst e2
  subst e3
  have hcs := list6_of hlen c0 c1 c2 c3 c4 c5
  have hM : MAt w ⟨z0, z1, z2, z3, xs, is⟩ la lc ca := ⟨hwd, fun h => hnil h, hro⟩
  have hlb : xs ≠ [] → ∀ a, la = some a → a.block < w.heap.size := fun hne a ha => by
    obtain ⟨b, o, e, hbl⟩ := hpos (List.length_pos_iff.2 hne)
    rw [e] at ha
    cases ha
    exact hbl
  rw [hcs] at hf0
  have hcap := read_cap (m := ⟨z0, z1, z2, z3, xs, is⟩) (la := la) (lc := lc) (d := y.1) (p := y.2) ⟨n, hf0⟩
  exact ⟨⟨z0, z1, z2, z3, xs, is⟩, la, lc, ca, cc, hcs, ⟨hM, hwb, hxl, hil, wf_i64' g0, wf_i64' g1, wf_i64' g2, wf_i64' g3, hlb, hcb⟩, hcap⟩
theorem cells_Nest : Tryz.prog.cellsOf 55 = 8 := by kernel_rfl
theorem bytes_Nest : Tryz.prog.bytesOf 55 = 96 := by kernel_rfl
theorem cells_Method : Tryz.prog.cellsOf 25 = 6 := by kernel_rfl
theorem cells_int : Tryz.prog.cellsOf 3 = 1 := by kernel_rfl
theorem bytes_int : Tryz.prog.bytesOf 3 = 8 := by kernel_rfl
/-- what is known of one that came in -/
structure NIn (w : World) (n : Nst) : Prop where
  m : MIn w n.m n.la n.lc n.ca
  cap : n.m.code.length ≤ n.cc
  up : -9223372036854775808 ≤ n.up ∧ n.up ≤ 9223372036854775807
  i : -9223372036854775808 ≤ n.i ∧ n.i ≤ 9223372036854775807
theorem split8 {cs : List Value} {a b : Value} {l : List Value} (hl : cs.length = 8) (h0 : (cs.drop 0).take 6 = l) (h1 : (cs.drop 6).take 1 = [a]) (h2 : (cs.drop 7).take 1 = [b]) : cs = l ++ [a, b] := by
  match cs, hl with
  | [x0, x1, x2, x3, x4, x5, x6, x7], _ =>
    simp at h0 h1 h2
    subst h0
    subst h1
    subst h2
    rfl
set_option maxRecDepth 100000 in
theorem read_nest {n : Nat} {cs : List Value} {y : DataW H × List MemPlace} (h : DataW.trod enc Tryz.prog w base spare held n 55 cs = some y) (hl : Light 55 y.1) : ∃ o : Nst, cs = o.cs ∧ NIn w o := by
  obtain ⟨y0, y1, y2, k, hx, hlen, t0, t1, t2⟩ := trod_struct3 Tryz.underlying55 h
  rw [cells_Nest] at hlen
  rw [hx] at hl
  have l0 := hl.agg Tryz.underlying55 (j := 0) rfl rfl
  obtain ⟨m, la, lc, ca, cc, e0, hM, hcap⟩ := read_method_cs t0 l0
  obtain ⟨z1, e1, -, g1⟩ := DataW.trod_int Tryz.underlying3 t1
  obtain ⟨z2, e2, -, g2⟩ := DataW.trod_int Tryz.underlying3 t2
  rw [cells_Method] at e0
  rw [cells_int] at e1 e2
  exact ⟨⟨m, la, lc, ca, cc, z1, z2⟩, split8 hlen e0 e1 e2, hM, hcap, wf_i64' g1, wf_i64' g2⟩
theorem cs_get {w : World} {a : Addr} {cs : List Value} {n : Nst} (hat : ∀ j, j < 8 → w.cell? (a.add j) = cs[j]?) (h : cs = n.cs) {j : Nat} {u : Value} (hj : n.cs[j]? = some u) : w.cell? (a.add j) = some u := by
  have hl : j < 8 := (List.getElem?_eq_some_iff.1 hj).1
  rw [hat j hl, h, hj]
set_option maxRecDepth 100000 in
theorem read_nests {n : Nat} {v : Value} {y : DataW H × List MemPlace} (h : DataW.trod enc Tryz.prog w base spare held n 26 [v] = some y) (hl : Light 26 y.1) :
    ∃ lo lc l, v = .slice lo (List.length l) lc ∧ RowAt w lo (flatN l) ∧ (∀ o ∈ l, NIn w o) ∧ l.length ≤ 1466015503658 ∧ (l ≠ [] → ∀ a, lo = some a → a.block < w.heap.size) := by
  rcases open_slice Tryz.underlying26 h with ⟨hcs, hx⟩ | ⟨a, len, cap, m, k, D, Pl, hcs, -, hlc, -, hm, hx, hi⟩
  · simp only [List.cons.injEq, and_true] at hcs
    subst hcs
    exact ⟨none, 0, [], rfl, fun i x hx => by simp [flatN] at hx, (fun _ h => by cases h), by simp, fun h => absurd rfl h⟩
  · simp only [List.cons.injEq, and_true] at hcs
    subst hcs
    have hml : len ≤ m := by rw [hm]; split <;> omega
    rw [hx] at hl
    obtain ⟨hb, hle⟩ := hl.slice Tryz.underlying26
    rw [bytes_Nest] at hb
    simp only [List.length_map, List.length_range] at hb
    have hlen : len ≤ 1466015503658 := by unfold reachBytes at hb; omega
    obtain ⟨its, hil, hits⟩ := list_of (p := fun i (o : Nst) => (∀ j u, o.cs[j]? = some u → w.cell? (a.add (i * 8 + j)) = some u) ∧ NIn w o) len (fun i hil => by
      obtain ⟨cs', hc, ht⟩ := hi i (by omega)
      rw [cells_Nest] at hc
      obtain ⟨-, hcl, hat⟩ := World.cells?_some hc
      have hld := hle (D i) (List.mem_map.2 ⟨i, List.mem_range.2 hil, rfl⟩)
      obtain ⟨o, ho, hN⟩ := read_nest ht hld
      refine ⟨o, fun j u hj => ?_, hN⟩
      have := cs_get (fun j hj => hat j (by omega)) ho hj
      rwa [add_add] at this)
    refine ⟨some a, cap, its, by rw [hil], fun j u hu => ?_, fun o ho => ?_, by omega, fun hne a' ha' => ?_⟩
    · obtain ⟨i, o, q, hio, hq, rfl, hc⟩ := flatN_get hu
      have ho := (hits i o hio).1
      have h0 : 0 < its.length := Nat.lt_of_le_of_lt (Nat.zero_le _) (List.getElem?_eq_some_iff.1 hio).1
      have hz := (hits 0 _ (List.getElem?_eq_getElem h0)).1 0 _ rfl
      obtain ⟨b, oo, hab⟩ := spot_of (by simpa [Addr.add] using hz)
      subst hab
      refine ⟨b, oo, rfl, ?_⟩
      rw [← Lib.add_plain]
      exact ho q u hc
    · obtain ⟨i, hi'⟩ := List.getElem?_of_mem ho
      exact (hits i o hi').2
    · cases ha'
      have hz := (hits 0 _ (List.getElem?_eq_getElem (List.length_pos_iff.2 hne))).1 0 _ rfl
      exact World.block_lt_of_cell? w _ (by simpa [Addr.add] using hz)
theorem read_ints {n : Nat} {v : Value} {y : DataW H × List MemPlace} (h : DataW.trod enc Tryz.prog w base spare held n 27 [v] = some y) (hl : Light 27 y.1) :
    ∃ fa fc xs, v = .slice fa (List.length xs) fc ∧ RowAt w fa (xs.map (Value.int .i64)) ∧ (∀ x ∈ xs, -9223372036854775808 ≤ x ∧ x ≤ 9223372036854775807) ∧ xs.length ≤ 17592186043904 ∧ (fa = none → fc = 0 ∧ xs = []) ∧ (xs ≠ [] → ∀ a, fa = some a → a.block < w.heap.size) := by
  rcases open_slice Tryz.underlying27 h with ⟨hcs, hx⟩ | ⟨a, len, cap, m, k, D, Pl, hcs, -, hlc, -, hm, hx, hi⟩
  · simp only [List.cons.injEq, and_true] at hcs
    subst hcs
    exact ⟨none, 0, [], rfl, fun i x hx => by simp at hx, fun x hx => by simp at hx, by simp, fun _ => ⟨rfl, rfl⟩, fun h => absurd rfl h⟩
  · simp only [List.cons.injEq, and_true] at hcs
    subst hcs
    have hml : len ≤ m := by rw [hm]; split <;> omega
    rw [hx] at hl
    have hb := (hl.slice Tryz.underlying27).1
    rw [bytes_int] at hb
    simp only [List.length_map, List.length_range] at hb
    have hlen : len ≤ 17592186043904 := by unfold reachBytes at hb; omega
    obtain ⟨xs, hxl, hxs⟩ := list_of (p := fun i z => w.cell? (a.add i) = some (.int .i64 z) ∧ -9223372036854775808 ≤ z ∧ z ≤ 9223372036854775807) len (fun i hil => by
      obtain ⟨cs', hc, ht⟩ := hi i (by omega)
      rw [cells_int, Nat.mul_one] at hc
      obtain ⟨-, hcl, hat⟩ := World.cells?_some hc
      obtain ⟨z, rfl, -, hwf⟩ := DataW.trod_int Tryz.underlying3 ht
      have := hat 0 (by omega)
      rw [add_add, Nat.add_zero] at this
      exact ⟨z, this, wf_i64' hwf⟩)
    refine ⟨some a, cap, xs, by rw [hxl], fun i x hxi => ?_, fun x hxm => ?_, by omega, fun h => by simp at h, fun hne a' ha' => ?_⟩
    · rw [List.getElem?_map] at hxi
      cases hz : xs[i]? with
      | none => rw [hz] at hxi; cases hxi
      | some z =>
        rw [hz] at hxi
        cases hxi
        obtain ⟨h0, -⟩ := hxs 0 _ (List.getElem?_eq_getElem (Nat.lt_of_le_of_lt (Nat.zero_le _) (List.getElem?_eq_some_iff.1 hz).1))
        obtain ⟨b, o, hab⟩ := spot_of (by simpa [Addr.add] using h0)
        subst hab
        refine ⟨b, o, rfl, ?_⟩
        have := (hxs i z hz).1
        rwa [Lib.add_plain] at this
    · obtain ⟨i, hi'⟩ := List.getElem?_of_mem hxm
      exact (hxs i x hi').2
    · cases ha'
      obtain ⟨h0, -⟩ := hxs 0 _ (List.getElem?_eq_getElem (List.length_pos_iff.2 hne))
      exact World.block_lt_of_cell? w _ (by simpa [Addr.add] using h0)
end
end Go.Proofs.YtjghgambieflaaaGreatDoor
