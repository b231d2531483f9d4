/- From the rows of image: their list of package-level variables, image's two errors among them, and a world that holds them. -/
import Derived.Test.YtfhhjdfdfbelgaaGreatDoorMLaids
import Derived.Test.YtfhhjdfdfbelgaaGreatDoorMImgD
namespace Go.Proofs.YtfhhjdfdfbelgaaGreatDoor
open Go.ChangeShapes Go.WideShapes Go.ChangeAt Go.RowKit

theorem name_es : "*" ++ "errors.errorString" = "*errors.errorString" := by decide
theorem row_es (u : TypeId) (h : Tryz.prog.typeName? 3 u = some "*errors.errorString") : u = 185 :=
  typeName_ptr_named (nm := "errors.errorString") (by rw [name_es]; kernel_rfl) (by kernel_rfl) (by decide) u (by rw [name_es]; exact h)
theorem cells_es : Tryz.prog.cellsOf 205 = 1 := by kernel_rfl
theorem cells_str : Tryz.prog.cellsOf 9 = 1 := by kernel_rfl
theorem gI_T : Tryz.prog.globalNamed "tappet/image.errTruncated" = some 0 := by kernel_rfl
theorem gI_TT : (Tryz.prog.globals[0]?).map (·.type) = some 54 := by kernel_rfl
theorem gI_F : Tryz.prog.globalNamed "tappet/image.errForm" = some 1 := by kernel_rfl
theorem gI_FT : (Tryz.prog.globals[1]?).map (·.type) = some 54 := by kernel_rfl
/-- a sentinel that is laid, and its block -/
theorem laid_sentI {P : Program} {n nm : String} {text : List UInt8} {r : List (String × DataW Unit)} {W : World} {g : Nat} {ti tp te ts : TypeId} {ms : Array (String × TypeId)} {f : Field}
    (h : laidMet P ((n, .iface nm (.ptr (.agg [.lit (.string text)]))) :: r) W)
    (hg : P.globalNamed n = some g) (ht : (P.globals[g]?).map (·.type) = some ti) (hi : P.underlying ti = some (.interface ms)) (hrow : ∀ u, P.typeName? 3 u = some nm → u = tp)
    (hp : P.underlying tp = some (.pointer te)) (he : P.underlying te = some (.struct #[f])) (hft : f.type = ts) (hfo : f.offset = 0) (hs : P.underlying ts = some .string) (hc : P.cellsOf te = 1) (hcs : P.cellsOf ts = 1) :
    ∃ (a : Addr) (s : ByteArray), W.var? P n = some #[.iface tp (.pointer (some a))] ∧ W.cell? a = some (.string s) ∧ s.data.toList = text ∧ ∃ c t, W.heap[a.block]? = some (.cells c t (0, 0)) := by
  obtain ⟨ps, ⟨g0, t0, cs0, f0, p0, q0, hg0, ht0, hv0, hd0, _, e0⟩, _, hrows⟩ := h
  obtain rfl := Option.some.inj (hg.symm.trans hg0)
  obtain rfl := Option.some.inj (ht.symm.trans ht0)
  subst e0
  obtain ⟨l0⟩ := cs0
  have ok0 : ∀ u v, l0 = [.iface u v] → Value.okWide P W .any 0 u v := fun u v e => by
    subst e
    exact (hrows g 0 (by simp [MemPlace.row])).2 u v (by simpa using World.var?_cell hg0 hv0 0)
  obtain ⟨a0, s0, rfl, hc0, hs0, hz0, hp0⟩ := errorString_of_trod hi hrow hp he hft hfo hs hc hcs hd0 ok0
  exact ⟨a0, s0, hv0, hc0, hs0, (hrows a0.block a0.off (by rw [hp0]; simp [MemPlace.row])).1⟩
/-- the list of the rows -/
def laidAllI : List (String × DataW Unit) := [("math/bits.deBruijn32tab", Rows.laid_math_bits_deBruijn32tab), ("math/bits.deBruijn64tab", Rows.laid_math_bits_deBruijn64tab), ("internal/strconv.uint64pow10", Rows.laid_internal_strconv_uint64pow10), ("errors.errorType", Rows.laid_errors_errorType), ("tappet/image.errTruncated", Rows.laid_tappet_image_errTruncated), ("tappet/image.errForm", Rows.laid_tappet_image_errForm)]
theorem globs_of_laidI {W : World} (h : laidMetH Tryz.prog laidAllI W) : Glob W ∧ ∃ bT bF, IGlob W bT bF := by
  have h' : laidMet Tryz.prog [("math/bits.deBruijn32tab", Rows.laid_math_bits_deBruijn32tab), ("math/bits.deBruijn64tab", Rows.laid_math_bits_deBruijn64tab), ("internal/strconv.uint64pow10", Rows.laid_internal_strconv_uint64pow10), ("tappet/image.errTruncated", Rows.laid_tappet_image_errTruncated), ("tappet/image.errForm", Rows.laid_tappet_image_errForm)] W ∧ handlesMet Tryz.prog [("errors.errorType", Rows.laid_errors_errorType)] W := h
  have hT := laid_sentI (tp := 185) (te := 205) (ts := 9) h'.1.tail.tail.tail gI_T gI_TT Tryz.underlying54 row_es Tryz.underlying185 Tryz.underlying205 rfl rfl Tryz.underlying9 cells_es cells_str
  have hF := laid_sentI (tp := 185) (te := 205) (ts := 9) h'.1.tail.tail.tail.tail gI_F gI_FT Tryz.underlying54 row_es Tryz.underlying185 Tryz.underlying205 rfl rfl Tryz.underlying9 cells_es cells_str
  obtain ⟨a, s, ha, hca, hsa, hba⟩ := hT
  obtain ⟨b, t, hb, hcb, hsb, hbb⟩ := hF
  refine ⟨⟨?_, ?_⟩, a, b, ⟨by simpa using World.var?_cell gI_T ha 0, by simpa using World.var?_cell gI_F hb 0⟩, fun e => ?_, hba, hbb⟩
  · obtain ⟨name, u, ty, e1, e2, e3, e4, e5⟩ := h'.2 _ (List.mem_singleton.2 rfl)
    have en : name = [101, 114, 114, 111, 114] := (Option.some.inj e1).symm
    subst en
    obtain rfl := Option.some.inj (rt_type.symm.trans e2)
    have hm : ty ∈ (List.range 217).filter fun t => Tryz.prog.rowNamed t [101, 114, 114, 111, 114] := List.mem_filter.2 ⟨List.mem_range.2 (by rw [← n_types]; exact e3), e4⟩
    rw [one_error] at hm
    obtain rfl := List.mem_singleton.1 hm
    have hh : typeHandle Tryz.prog 54 = .pointer (some ⟨6, 54, none⟩) := by kernel_rfl
    rw [hh] at e5
    simpa using World.var?_cell g_et e5 0
  · have h3 := h'.1.tail.tail
    rw [tab_is] at h3
    exact Lib.tabIs_of_head g_tab g_tabType Tryz.underlying178 Tryz.underlying34 cells_u64 cells_tab h3
  · subst e
    rw [hca] at hcb
    have e := Value.string.inj (Option.some.inj hcb)
    rw [← e, hsa] at hsb
    exact absurd hsb (by decide)
def putErrI (b : Nat) : Obj → Obj
  | .cells _ t frozen => .cells #[.iface 185 (.pointer (some ⟨b, 0, none⟩))] t frozen
  | o => o
def addErrI (w : World) (g : Nat) (bs : Array UInt8) : World := { w with heap := Array.push (Array.modify w.heap g (putErrI w.heap.size)) (Obj.cells #[.string ⟨bs⟩] 205 (0, 0)) }
/-- a world that holds them -/
noncomputable def laidWorldI (os : Os) : World := addErrI (addErrI (laidWorld os) 0 #[97, 32, 110, 117, 109, 98, 101, 114, 32, 105, 115, 32, 99, 117, 116, 32, 111, 102, 102]) 1 #[110, 111, 116, 32, 116, 104, 101, 32, 102, 111, 114, 109, 32, 111, 102, 32, 97, 110, 32, 105, 109, 97, 103, 101]
theorem laid_metI (os : Os) (args : Array Value) : laidMetH Tryz.prog laidAllI ((laidWorldI os).forCall (fun _ _ => 0) ⟨#[], args, []⟩).memory :=
  laidMetH_of_parts (laidMet_of_run' 8 (by kernel_rfl) (by kernel_rfl)) (by kernel_rfl)
end Go.Proofs.YtfhhjdfdfbelgaaGreatDoor
