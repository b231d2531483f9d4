/- What the document's list of ways says of each place: plain. What the laws of verify need of plain text: lengths, cuts, the next places. From the rows of verify: their list of package-level variables, and a world that holds them. Truths that came in. -/
import Derived.Test.YtbmfmklalonhiaaGreatDoorMVerA
import Derived.Test.YtbmfmklalonhiaaGreatDoorMCodeA
import Derived.Test.YtbmfmklalonhiaaGreatDoorMLaids
import Derived.Test.YtbmfmklalonhiaaGreatDoorMVerE
import Derived.Test.YtbmfmklalonhiaaGreatDoorMCodeE
namespace Go.Proofs.YtbmfmklalonhiaaGreatDoor

/-- a way goes beyond the last instruction from here -/
def Mth.beyond (m : Mth) (A : Nat → List Nat) (k : Nat) : Prop := ∃ d i, d ∈ A k ∧ m.code[k]? = some i ∧ m.fine i d = true ∧ i.goesOn = true ∧ k + 1 = m.code.length
theorem two_of_nodup {l : List Nat} (h : l.Nodup) (hl : 1 < l.length) : ∃ x y, x ∈ l ∧ y ∈ l ∧ x ≠ y := by
  match l, h, hl with
  | x :: y :: r, h, _ =>
    refine ⟨x, y, by simp, by simp, fun e => ?_⟩
    subst e
    simp at h
theorem one_of {l : List Nat} {d : Nat} (h : d ∈ l) : 1 < l.length ∨ l = [d] := by
  match l, h with
  | [x], h => simp at h; subst h; exact .inr rfl
  | x :: y :: r, h => exact .inl (by simp)
theorem Flow.bad_iff {m : Mth} {A : Nat → List Nat} (h : Flow m A []) {k : Nat} {i : Ins} (hi : m.code[k]? = some i) : m.bad k ↔ m.beyond A k ∨ 1 < (A k).length ∨ ∃ d, A k = [d] ∧ m.fine i d = false := by
  have hA : ∀ d, d ∈ A k ↔ Way m k d := fun d => h.done
  constructor
  · rintro (⟨d, e, h1, h2, hne⟩ | ⟨d, i', h1, hi', h3⟩)
    · rcases one_of ((hA d).2 h1) with hl | hl
      · exact .inr (.inl hl)
      · have := (hA e).2 h2
        rw [hl] at this
        simp at this
        exact absurd this.symm hne
    · rw [hi] at hi'
      cases hi'
      have d1 := (hA d).2 h1
      cases hf : m.fine i d with
      | false =>
        rcases one_of d1 with hl | hl
        · exact .inr (.inl hl)
        · exact .inr (.inr ⟨d, hl, hf⟩)
      | true =>
        rcases h3 with h3 | ⟨hg, he⟩
        · rw [hf] at h3; cases h3
        · exact .inl ⟨d, i, d1, hi, hf, hg, he⟩
  · rintro (⟨d, i', h1, hi', hf, hg, he⟩ | hl | ⟨d, hd, hf⟩)
    · exact .inr ⟨d, i', (hA d).1 h1, hi', .inr ⟨hg, he⟩⟩
    · obtain ⟨x, y, hx, hy, hne⟩ := two_of_nodup (h.nodup k) hl
      exact .inl ⟨x, y, (hA x).1 hx, (hA y).1 hy, hne⟩
    · exact .inr ⟨d, i, (hA d).1 (by rw [hd]; simp), hi, .inl hf⟩
theorem Flow.depth_none {m : Mth} {A : Nat → List Nat} (h : Flow m A []) {k : Nat} (he : A k = []) : m.depthAt k = -1 := by
  refine Mth.depthAt_none ?_
  rintro ⟨d, hd⟩
  have := h.done.2 hd
  rw [he] at this
  cases this
theorem Flow.depth_one {m : Mth} {A : Nat → List Nat} (h : Flow m A []) {k d : Nat} (hb : ¬ m.bad k) (he : A k = [d]) : m.depthAt k = d := Mth.depthAt_way hb (h.done.1 (by rw [he]; simp))
theorem Mth.beyond_add {m : Mth} {A : Nat → List Nat} {pc d k : Nat} {i : Ins} (hi : m.code[pc]? = some i) : m.beyond (addAt A pc d) k ↔ m.beyond A k ∨ (k = pc ∧ m.fine i d = true ∧ i.goesOn = true ∧ pc + 1 = m.code.length) := by
  unfold Mth.beyond
  constructor
  · rintro ⟨e, i', h1, h2, h3, h4, h5⟩
    rcases mem_addAt.1 h1 with h1 | ⟨rfl, rfl⟩
    · exact .inl ⟨e, i', h1, h2, h3, h4, h5⟩
    · rw [hi] at h2
      cases h2
      exact .inr ⟨rfl, h3, h4, h5⟩
  · rintro (⟨e, i', h1, h2, h3, h4, h5⟩ | ⟨rfl, h3, h4, h5⟩)
    · exact ⟨e, i', mem_addAt.2 (.inl h1), h2, h3, h4, h5⟩
    · exact ⟨d, i, mem_addAt.2 (.inr ⟨rfl, rfl⟩), hi, h3, h4, h5⟩
/-- the places of a list that there are, with a depth -/
def goTo (n e : Nat) (l : List Int) : List (Nat × Nat) := l.filterMap fun q => if q < (n : Int) then some (q.toNat, e) else none
theorem goTo_app (n e : Nat) (l r : List Int) : goTo n e (l ++ r) = goTo n e l ++ goTo n e r := by simp [goTo]
theorem goTo_one (n e : Nat) (q : Int) : goTo n e [q] = if q < (n : Int) then [(q.toNat, e)] else [] := by
  unfold goTo
  by_cases h : q < (n : Int)
  · simp [h]
  · simp [h]
theorem next_succ {m : Mth} {i : Ins} (hio : i.ok = true) (hop : m.opOk i = true) {pc : Nat} (d : Nat) : goTo m.code.length (i.after d) (i.next pc) = m.succ i pc d ∧ ((∃ q ∈ i.next pc, (m.code.length : Int) ≤ q) ↔ i.goesOn = true ∧ m.code.length ≤ pc + 1) := by
  rw [Ins.ok_iff] at hio
  have hjump : i.op = 14 ∨ i.op = 15 ∨ i.op = 16 → i.a < m.code.length := fun h => by
    unfold Mth.opOk at hop
    rw [if_neg (by omega), if_neg (by omega), if_neg (by omega), if_neg (by omega), if_pos h] at hop
    simpa using hop
  have hE : i.ends = decide (i.op = 17 ∨ i.op = 22 ∨ i.op = 23 ∨ i.op = 18) := rfl
  have hJ : i.jumps = decide (i.op = 14 ∨ i.op = 15 ∨ i.op = 16) := rfl
  have hG : i.goesOn = !(i.ends || decide (i.op = 14)) := rfl
  by_cases he : i.op = 17 ∨ i.op = 22 ∨ i.op = 23 ∨ i.op = 18
  · have e1 : i.ends = true := by rw [hE]; simpa using he
    have e2 : i.jumps = false := by rw [hJ]; simp; omega
    have e3 : i.goesOn = false := by rw [hG, e1]; rfl
    unfold Ins.next Mth.succ
    rw [if_pos e1, e2, e3]
    simp [goTo]
  · have e1 : i.ends = false := by rw [hE]; simpa using he
    by_cases h14 : i.op = 14
    · have e2 : i.jumps = true := by rw [hJ]; simp [h14]
      have e3 : i.goesOn = false := by rw [hG, h14]; simp
      have ha := hjump (.inl h14)
      unfold Ins.next Mth.succ
      rw [if_neg (by rw [e1]; simp), if_pos h14, e2, e3, goTo_one, if_pos ha]
      simp
      omega
    · have e3 : i.goesOn = true := by rw [hG, e1]; simp [h14]
      by_cases h15 : i.op = 15 ∨ i.op = 16
      · have e2 : i.jumps = true := by rw [hJ]; simp; omega
        have ha := hjump (by omega)
        unfold Ins.next Mth.succ
        rw [if_neg (by rw [e1]; simp), if_neg h14, if_pos h15, e2, e3]
        have hs : goTo m.code.length (i.after d) [i.a, (pc : Int) + 1] = goTo m.code.length (i.after d) [i.a] ++ goTo m.code.length (i.after d) [(pc : Int) + 1] := goTo_app _ _ [i.a] [(pc : Int) + 1]
        rw [hs, goTo_one, goTo_one, if_pos ha]
        refine ⟨?_, ?_⟩
        · by_cases hp : pc + 1 < m.code.length
          · rw [if_pos (by omega), if_pos rfl, if_pos ⟨rfl, hp⟩]; rfl
          · rw [if_neg (by omega), if_pos rfl, if_neg (by omega)]
        · simp
          omega
      · have e2 : i.jumps = false := by rw [hJ]; simp; omega
        unfold Ins.next Mth.succ
        rw [if_neg (by rw [e1]; simp), if_neg h14, if_neg h15, e2, e3, goTo_one]
        refine ⟨?_, ?_⟩
        · by_cases hp : pc + 1 < m.code.length
          · rw [if_pos (by omega), if_neg (by simp), if_pos ⟨rfl, hp⟩]; rfl
          · rw [if_neg (by omega), if_neg (by simp), if_neg (by omega)]; rfl
        · simp
          omega
end Go.Proofs.YtbmfmklalonhiaaGreatDoor
namespace Go.Proofs.YtbmfmklalonhiaaGreatDoor

theorem DepthsTo.len {m : Mth} {l : List Int} {p en : Int} (h : DepthsTo m l p en) : l.length ≤ 128 := by
  rcases h.err with rfl | ⟨-, rfl⟩
  · obtain ⟨g, rfl, -⟩ := h.ok_good
    rw [m.depths_len]
    have := m.head_iff.1 (m.ok_iff.1 g.ok).1
    omega
  · simp
theorem Mth.depthAt_some {m : Mth} {k : Nat} (h : 0 ≤ m.depthAt k) : ∃ d : Nat, Way m k d ∧ m.depthAt k = d := by
  by_cases hx : ∃ d, Way m k d
  · refine ⟨Classical.choose hx, Classical.choose_spec hx, ?_⟩
    unfold Mth.depthAt
    rw [dif_pos hx]
  · rw [Mth.depthAt_none hx] at h
    omega
theorem flatI_take {l : List Ins} {n j : Nat} {u : Value} (h : (flatI (l.take n))[j]? = some u) : (flatI l)[j]? = some u := by
  have e : flatI l = flatI (l.take n) ++ flatI (l.drop n) := by
    unfold flatI
    rw [← List.flatMap_append, List.take_append_drop]
  rw [e, List.getElem?_append_left (List.getElem?_eq_some_iff.1 h).1]
  exact h
theorem cut_len {m : Mth} {pc : Nat} (h : pc < m.code.length) : (m.cut (pc + 1)).code.length = pc + 1 := by simp [Mth.cut]; omega
theorem cut_err {m : Mth} {pc : Nat} {i : Ins} (hi : m.code[pc]? = some i) (h0 : 0 ≤ m.depthAt pc) (he : i.ends = false) (h14 : i.op ≠ 14) {l : List Int} {p en : Int} (h : DepthsTo (m.cut (pc + 1)) l p en) : en = 4 := by
  obtain ⟨d, hw, -⟩ := Mth.depthAt_some h0
  exact (h.not_good (Mth.cut_not_good hw hi ((Ins.goesOn_iff i).2 ⟨he, h14⟩))).1
theorem next_two {i : Ins} {pc : Nat} (he : i.ends = false) : (∃ x, i.next pc = [x]) ∨ ∃ x y, i.next pc = [x, y] := by
  unfold Ins.next
  rw [if_neg (by rw [he]; simp)]
  split
  · exact .inl ⟨_, rfl⟩
  · split
    · exact .inr ⟨_, _, rfl⟩
    · exact .inl ⟨_, rfl⟩
theorem next_nn {i : Ins} (h : i.ok = true) {pc : Nat} {x : Int} (hx : x ∈ i.next pc) : 0 ≤ x := by
  rw [Ins.ok_iff] at h
  unfold Ins.next at hx
  split at hx
  · cases hx
  · split at hx
    · simp at hx; omega
    · split at hx
      · simp at hx; omega
      · simp at hx; omega
theorem next_le {i : Ins} (pc : Nat) : (i.next pc).length ≤ 2 := by
  unfold Ins.next
  split
  · simp
  · split
    · simp
    · split <;> simp
/-- where a way stands: the place, its depth, the instruction, and where it goes on -/
structure At (m : Mth) (q e : Nat) (i : Ins) : Prop where
  way : Way m q e
  ins : m.code[q]? = some i
  lt : q < m.code.length
  d16 : e ≤ 16
  iok : i.ok = true
  need : 0 ≤ i.need ∧ 0 ≤ i.leave ∧ i.leave ≤ 2 ∧ i.need ≤ 4096
  after : ((i.after e : Nat) : Int) = (e : Int) - i.need + i.leave
  low : i.need ≤ e
  high : (e : Int) - i.need + i.leave ≤ m.stack
  nn : 0 ≤ (e : Int) - i.need + i.leave
  dep : m.depths[q]? = some (e : Int)
theorem at_of {m : Mth} (g : m.good) {q e : Nat} (h : Way m q e) : ∃ i, At m q e i := by
  have hl := h.lt g.ok g.op
  obtain ⟨i, hi⟩ : ∃ i, m.code[q]? = some i := ⟨_, List.getElem?_eq_getElem hl.1⟩
  have hio := (m.ok_iff.1 g.ok).2 i (List.mem_of_getElem? hi)
  have hd := m.head_iff.1 (m.ok_iff.1 g.ok).1
  have ha := Ins.after_int hio (g.fine h hi)
  refine ⟨i, h, hi, hl.1, by omega, hio, i.need_nn hio, ha.1, ha.2.1, ha.2.2.1, ha.2.2.2, ?_⟩
  rw [m.depths_at hl.1, Mth.depthAt_way (g.nb q hl.1) h]
theorem At.next {m : Mth} (g : m.good) {q e : Nat} {i : Ins} (h : At m q e i) {x : Int} (hx : x ∈ i.next q) : 0 ≤ x ∧ Way m x.toNat (i.after e) := g.step h.way h.ins hx
end Go.Proofs.YtbmfmklalonhiaaGreatDoor
namespace Go.Proofs.YtbmfmklalonhiaaGreatDoor
open Go.ChangeShapes Go.WideShapes Go.ChangeAt Go.RowKit

/-- the list of the rows -/
def laidAllV : List (String × DataW Unit) := [("math/bits.deBruijn32tab", Rows.laid_math_bits_deBruijn32tab), ("errors.errorType", Rows.laid_errors_errorType), ("tappet/code.errField", Rows.laid_tappet_code_errField), ("tappet/verify.errMethod", Rows.laid_tappet_verify_errMethod), ("tappet/verify.errOperand", Rows.laid_tappet_verify_errOperand), ("tappet/verify.errFew", Rows.laid_tappet_verify_errFew), ("tappet/verify.errMany", Rows.laid_tappet_verify_errMany), ("tappet/verify.errDepths", Rows.laid_tappet_verify_errDepths), ("tappet/verify.errBeyond", Rows.laid_tappet_verify_errBeyond)]
theorem g_db : Tryz.prog.globalNamed "math/bits.deBruijn32tab" = some 6 := by kernel_rfl
theorem g_dbType : (Tryz.prog.globals[6]?).map (·.type) = some 187 := by kernel_rfl
theorem cells_db : Tryz.prog.cellsOf 187 = 32 := by kernel_rfl
theorem cells_u8 : Tryz.prog.cellsOf 5 = 1 := by kernel_rfl
theorem db_is : (Rows.laid_math_bits_deBruijn32tab : DataW Unit) = Lib.tabData .u8 dbTab := by kernel_rfl
theorem db_of_laid {W : World} {r : List (String × DataW Unit)} (h : laidMet Tryz.prog (("math/bits.deBruijn32tab", Rows.laid_math_bits_deBruijn32tab) :: r) W) : DbAt W := by
  rw [db_is] at h
  have hv := Lib.tabIs_of_head g_db g_dbType Tryz.underlying187 Tryz.underlying5 cells_u8 cells_db h
  intro j x hj
  have := World.var?_cell g_db hv j
  rw [this]
  simp [hj]
theorem g_errMethod : Tryz.prog.globalNamed "tappet/verify.errMethod" = some 0 := by kernel_rfl
theorem gt_errMethod : (Tryz.prog.globals[0]?).map (·.type) = some 99 := by kernel_rfl
theorem errMethod_of_laid {W : World} {r : List (String × DataW Unit)} (h : laidMet Tryz.prog (("tappet/verify.errMethod", Rows.laid_tappet_verify_errMethod) :: r) W) : ∃ a, W.cell? ⟨0, 0, none⟩ = some (.iface 228 (.pointer (some a))) := by
  obtain ⟨a, s, hv, -⟩ := laid_sentinel (tp := 228) (te := 248) (ts := 9) h g_errMethod gt_errMethod Tryz.underlying99 row_es Tryz.underlying228 Tryz.underlying248 rfl rfl Tryz.underlying9 cells_es cells_str
  exact ⟨a, by simpa using World.var?_cell g_errMethod hv 0⟩
theorem g_errOperand : Tryz.prog.globalNamed "tappet/verify.errOperand" = some 2 := by kernel_rfl
theorem gt_errOperand : (Tryz.prog.globals[2]?).map (·.type) = some 99 := by kernel_rfl
theorem errOperand_of_laid {W : World} {r : List (String × DataW Unit)} (h : laidMet Tryz.prog (("tappet/verify.errOperand", Rows.laid_tappet_verify_errOperand) :: r) W) : ∃ a, W.cell? ⟨2, 0, none⟩ = some (.iface 228 (.pointer (some a))) := by
  obtain ⟨a, s, hv, -⟩ := laid_sentinel (tp := 228) (te := 248) (ts := 9) h g_errOperand gt_errOperand Tryz.underlying99 row_es Tryz.underlying228 Tryz.underlying248 rfl rfl Tryz.underlying9 cells_es cells_str
  exact ⟨a, by simpa using World.var?_cell g_errOperand hv 0⟩
theorem g_errFew : Tryz.prog.globalNamed "tappet/verify.errFew" = some 7 := by kernel_rfl
theorem gt_errFew : (Tryz.prog.globals[7]?).map (·.type) = some 99 := by kernel_rfl
theorem errFew_of_laid {W : World} {r : List (String × DataW Unit)} (h : laidMet Tryz.prog (("tappet/verify.errFew", Rows.laid_tappet_verify_errFew) :: r) W) : ∃ a, W.cell? ⟨7, 0, none⟩ = some (.iface 228 (.pointer (some a))) := by
  obtain ⟨a, s, hv, -⟩ := laid_sentinel (tp := 228) (te := 248) (ts := 9) h g_errFew gt_errFew Tryz.underlying99 row_es Tryz.underlying228 Tryz.underlying248 rfl rfl Tryz.underlying9 cells_es cells_str
  exact ⟨a, by simpa using World.var?_cell g_errFew hv 0⟩
theorem g_errMany : Tryz.prog.globalNamed "tappet/verify.errMany" = some 8 := by kernel_rfl
theorem gt_errMany : (Tryz.prog.globals[8]?).map (·.type) = some 99 := by kernel_rfl
theorem errMany_of_laid {W : World} {r : List (String × DataW Unit)} (h : laidMet Tryz.prog (("tappet/verify.errMany", Rows.laid_tappet_verify_errMany) :: r) W) : ∃ a, W.cell? ⟨8, 0, none⟩ = some (.iface 228 (.pointer (some a))) := by
  obtain ⟨a, s, hv, -⟩ := laid_sentinel (tp := 228) (te := 248) (ts := 9) h g_errMany gt_errMany Tryz.underlying99 row_es Tryz.underlying228 Tryz.underlying248 rfl rfl Tryz.underlying9 cells_es cells_str
  exact ⟨a, by simpa using World.var?_cell g_errMany hv 0⟩
theorem g_errDepths : Tryz.prog.globalNamed "tappet/verify.errDepths" = some 3 := by kernel_rfl
theorem gt_errDepths : (Tryz.prog.globals[3]?).map (·.type) = some 99 := by kernel_rfl
theorem errDepths_of_laid {W : World} {r : List (String × DataW Unit)} (h : laidMet Tryz.prog (("tappet/verify.errDepths", Rows.laid_tappet_verify_errDepths) :: r) W) : ∃ a, W.cell? ⟨3, 0, none⟩ = some (.iface 228 (.pointer (some a))) := by
  obtain ⟨a, s, hv, -⟩ := laid_sentinel (tp := 228) (te := 248) (ts := 9) h g_errDepths gt_errDepths Tryz.underlying99 row_es Tryz.underlying228 Tryz.underlying248 rfl rfl Tryz.underlying9 cells_es cells_str
  exact ⟨a, by simpa using World.var?_cell g_errDepths hv 0⟩
theorem g_errBeyond : Tryz.prog.globalNamed "tappet/verify.errBeyond" = some 4 := by kernel_rfl
theorem gt_errBeyond : (Tryz.prog.globals[4]?).map (·.type) = some 99 := by kernel_rfl
theorem errBeyond_of_laid {W : World} {r : List (String × DataW Unit)} (h : laidMet Tryz.prog (("tappet/verify.errBeyond", Rows.laid_tappet_verify_errBeyond) :: r) W) : ∃ a, W.cell? ⟨4, 0, none⟩ = some (.iface 228 (.pointer (some a))) := by
  obtain ⟨a, s, hv, -⟩ := laid_sentinel (tp := 228) (te := 248) (ts := 9) h g_errBeyond gt_errBeyond Tryz.underlying99 row_es Tryz.underlying228 Tryz.underlying248 rfl rfl Tryz.underlying9 cells_es cells_str
  exact ⟨a, by simpa using World.var?_cell g_errBeyond hv 0⟩
theorem field_of_laidV {W : World} {r : List (String × DataW Unit)} (h : laidMet Tryz.prog (("tappet/code.errField", Rows.laid_tappet_code_errField) :: r) W) : Field W := by
  obtain ⟨a, s, hv, -⟩ := laid_sentinel (tp := 228) (te := 248) (ts := 9) h g_ef g_efType Tryz.underlying99 row_es Tryz.underlying228 Tryz.underlying248 rfl rfl Tryz.underlying9 cells_es cells_str
  exact ⟨a, by simpa using World.var?_cell g_ef hv 0⟩
theorem vg_of_laid {W : World} (h : laidMetH Tryz.prog laidAllV W) : VG W := by
  have h' : laidMet Tryz.prog [("math/bits.deBruijn32tab", Rows.laid_math_bits_deBruijn32tab), ("tappet/code.errField", Rows.laid_tappet_code_errField), ("tappet/verify.errMethod", Rows.laid_tappet_verify_errMethod), ("tappet/verify.errOperand", Rows.laid_tappet_verify_errOperand), ("tappet/verify.errFew", Rows.laid_tappet_verify_errFew), ("tappet/verify.errMany", Rows.laid_tappet_verify_errMany), ("tappet/verify.errDepths", Rows.laid_tappet_verify_errDepths), ("tappet/verify.errBeyond", Rows.laid_tappet_verify_errBeyond)] W ∧ handlesMet Tryz.prog [("errors.errorType", Rows.laid_errors_errorType)] W := h
  refine ⟨⟨errFew_of_laid h'.1.tail.tail.tail.tail, errMany_of_laid h'.1.tail.tail.tail.tail.tail, errDepths_of_laid h'.1.tail.tail.tail.tail.tail.tail, errBeyond_of_laid h'.1.tail.tail.tail.tail.tail.tail.tail, errOperand_of_laid h'.1.tail.tail.tail, errMethod_of_laid h'.1.tail.tail⟩, field_of_laidV h'.1.tail, db_of_laid h'.1, ?_⟩
  obtain ⟨name, u, ty, e1, e2, e3, e4, e5⟩ := h'.2 _ (List.mem_singleton.2 rfl)
  have en : name = [101, 114, 114, 111, 114] := (Option.some.inj e1).symm
  subst en
  obtain rfl := Option.some.inj (rt_type.symm.trans e2)
  have hm : ty ∈ (List.range 260).filter fun t => Tryz.prog.rowNamed t [101, 114, 114, 111, 114] := List.mem_filter.2 ⟨List.mem_range.2 (by rw [← n_types]; exact e3), e4⟩
  rw [one_error] at hm
  obtain rfl := List.mem_singleton.1 hm
  have hh : typeHandle Tryz.prog 99 = .pointer (some ⟨9, 99, none⟩) := by kernel_rfl
  rw [hh] at e5
  unfold EType
  simpa using World.var?_cell g_et e5 0
def putErr (b : Nat) : Obj → Obj
  | .cells _ t frozen => .cells #[.iface 228 (.pointer (some ⟨b, 0, none⟩))] t frozen
  | o => o
def addErr (w : World) (g : Nat) (bs : Array UInt8) : World := { w with heap := Array.push (Array.modify w.heap g (putErr w.heap.size)) (Obj.cells #[.string ⟨bs⟩] 248 (0, 0)) }
def putType : Obj → Obj
  | .cells _ t frozen => .cells #[.iface 190 (.agg #[.pointer (some ⟨9, 99, none⟩)])] t frozen
  | o => o
def putTab : Obj → Obj
  | .cells _ t frozen => .cells (dbTab.map (Value.int .u8)).toArray t frozen
  | o => o
noncomputable def laidWorldV0 (os : Os) : World := { World.holding Tryz.prog os ⟨#[], #[], []⟩ with heap := Array.modify (Array.modify (World.holding Tryz.prog os ⟨#[], #[], []⟩).heap 5 putType) 6 putTab }
/-- a world that holds them -/
noncomputable def laidWorldV (os : Os) : World := addErr (addErr (addErr (addErr (addErr (addErr (addErr (laidWorldV0 os) 1 #[99, 111, 100, 101, 58, 32, 97, 110, 32, 105, 110, 118, 97, 108, 105, 100, 32, 102, 105, 101, 108, 100]) 0 #[110, 111, 32, 109, 101, 116, 104, 111, 100]) 2 #[97, 110, 32, 111, 112, 101, 114, 97, 110, 100, 32, 111, 117, 116, 32, 111, 102, 32, 105, 116, 115, 32, 114, 97, 110, 103, 101]) 7 #[116, 111, 111, 32, 102, 101, 119, 32, 119, 111, 114, 100, 115, 32, 111, 110, 32, 116, 104, 101, 32, 115, 116, 97, 99, 107]) 8 #[116, 111, 111, 32, 109, 97, 110, 121, 32, 119, 111, 114, 100, 115, 32, 111, 110, 32, 116, 104, 101, 32, 115, 116, 97, 99, 107]) 3 #[114, 101, 97, 99, 104, 101, 100, 32, 119, 105, 116, 104, 32, 100, 105, 102, 102, 101, 114, 101, 110, 116, 32, 100, 101, 112, 116, 104, 115]) 4 #[116, 104, 101, 32, 99, 111, 100, 101, 32, 101, 110, 100, 115, 32, 98, 101, 104, 105, 110, 100, 32, 105, 116]
theorem laid_metV (os : Os) (args : Array Value) : laidMetH Tryz.prog laidAllV ((laidWorldV os).forCall (fun _ _ => 0) ⟨#[], args, []⟩).memory :=
  laidMetH_of_parts (laidMet_of_run' 8 (by kernel_rfl) (by kernel_rfl)) (by kernel_rfl)
end Go.Proofs.YtbmfmklalonhiaaGreatDoor
namespace Go.Proofs.YtbmfmklalonhiaaGreatDoor
open Go.ChangeShapes Go.WideShapes Go.RowKit Go.Deep
section
variable {H : Type} {enc : TypeId × Value → H} {w : World} {base : Nat} {spare : Nat → Bool} {held : Bool}

set_option maxRecDepth 100000 in
/-- a method's list of instructions is no longer than its room -/
theorem read_cap {m : Mth} {la ca : Option Addr} {lc cc : Nat} {d : DataW H} {p : List MemPlace} (h : DataW.Trod enc Tryz.prog w base spare held 25 (m.v la lc ca cc) d p) : m.code.length ≤ cc := by
  obtain ⟨fuel, hf⟩ := h
  obtain ⟨ys, k, hx, hlen, hF⟩ := fields_of Tryz.underlying25 (by kernel_rfl) (by kernel_rfl) (show DataW.trod enc Tryz.prog w base spare held fuel 25 [.int .i64 m.args, .int .i64 m.temps, .int .i64 m.stack, .int .i64 m.prim, .slice la m.lits.length lc, .slice ca m.code.length cc] = some (d, p) from hf)
  obtain ⟨v5, y5, c5, -, t5⟩ := hF 5 _ rfl
  have e5 : v5 = .slice ca m.code.length cc := by simpa using c5.symm
  subst e5
  rcases open_slice Tryz.underlying23 t5 with ⟨hcs, -⟩ | ⟨a, len, cap, _, _, _, _, hcs, -, hlc, -⟩
  · simp only [List.cons.injEq, and_true, Value.slice.injEq] at hcs
    omega
  · simp only [List.cons.injEq, and_true, Value.slice.injEq] at hcs
    omega
theorem cells_bool : Tryz.prog.cellsOf 4 = 1 := by kernel_rfl
theorem bytes_bool : Tryz.prog.bytesOf 4 = 1 := by kernel_rfl
set_option maxRecDepth 100000 in
theorem read_bools {n : Nat} {v : Value} {y : DataW H × List MemPlace} (h : DataW.trod enc Tryz.prog w base spare held n 26 [v] = some y) (hl : Light 26 y.1) :
    ∃ (fa : Option Addr) (fc : Nat) (bs : List Bool), v = .slice fa bs.length fc ∧ RowAt w fa (bs.map Value.bool) ∧ bs.length ≤ 140737488355328 := by
  rcases open_slice Tryz.underlying26 h with ⟨hcs, hx⟩ | ⟨a, len, cap, m, k, D, Pl, hcs, -, hlc, -, hm, hx, hi⟩
  · simp only [List.cons.injEq, and_true] at hcs
    subst hcs
    exact ⟨none, 0, [], rfl, fun i x hx => by simp at hx, by simp⟩
  · simp only [List.cons.injEq, and_true] at hcs
    subst hcs
    have hml : len ≤ m := by rw [hm]; split <;> omega
    rw [hx] at hl
    have hb := (hl.slice Tryz.underlying26).1
    rw [bytes_bool] at hb
    simp only [List.length_map, List.length_range] at hb
    have hlen : len ≤ 140737488355328 := by unfold reachBytes at hb; omega
    obtain ⟨xs, hxl, hxs⟩ := list_of (p := fun i (z : Bool) => w.cell? (a.add i) = some (.bool z)) len (fun i hil => by
      obtain ⟨cs', hc, ht⟩ := hi i (by omega)
      rw [cells_bool, Nat.mul_one] at hc
      obtain ⟨-, hcl, hat⟩ := World.cells?_some hc
      obtain ⟨z, rfl, -⟩ := DataW.trod_bool Tryz.underlying4 ht
      have := hat 0 (by omega)
      rw [add_add, Nat.add_zero] at this
      exact ⟨z, this⟩)
    refine ⟨some a, cap, xs, by rw [hxl], fun i x hxi => ?_, by omega⟩
    have h0 := hxs 0 _ (List.getElem?_eq_getElem (Nat.lt_of_le_of_lt (Nat.zero_le i) (by have := (List.getElem?_eq_some_iff.1 hxi).1; simpa using this)))
    obtain ⟨b, o, hab⟩ := spot_of (by simpa [Addr.add] using h0)
    subst hab
    refine ⟨b, o, rfl, ?_⟩
    rw [List.getElem?_map] at hxi
    cases hz : xs[i]? with
    | none => rw [hz] at hxi; cases hxi
    | some z =>
      rw [hz] at hxi
      cases hxi
      have := hxs i z hz
      rwa [Lib.add_plain] at this
end
end Go.Proofs.YtbmfmklalonhiaaGreatDoor
