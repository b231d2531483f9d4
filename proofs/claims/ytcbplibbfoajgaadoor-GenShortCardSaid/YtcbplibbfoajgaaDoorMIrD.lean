/- ir: parts of an instruction. ir: may an instruction be? (written by geninst.py) ir: the instructions of a unit. ir.Check. -/
import Derived.Test.YtcbplibbfoajgaaDoorMIrB
import Derived.Test.YtcbplibbfoajgaaDoorMIrC
import Derived.Test.YtcbplibbfoajgaaDoorMIrA
import Derived.Deep.RegionHeld3
namespace Go.Proofs.YtcbplibbfoajgaaDoor
open Go.RowKit

end Go.Proofs.YtcbplibbfoajgaaDoor
namespace Go.Proofs.YtcbplibbfoajgaaDoor
open Go.RowKit

/-- Q where the region comes to its end; nothing else is let by -/
def INorm (Q : Exit → Act → World → Prop) : Exit → Act → World → Prop
  | .normal, a, w => Q .normal a w
  | _, _, _ => False
theorem INorm.imp {Q : Exit → Act → World → Prop} : ∀ (e : Exit) (a : Act) (w : World), INorm Q e a w → Q e a w := fun e a w h => by
  cases e <;> first | exact h | exact (h : False).elim
theorem INorm.mk {Q : Exit → Act → World → Prop} {a : Act} {w : World} (h : Q .normal a w) : INorm Q .normal a w := h
theorem five (a b c d : Bool) : a = false ∨ (a = true ∧ b = false) ∨ (a = true ∧ b = true ∧ c = false) ∨ (a = true ∧ b = true ∧ c = true ∧ d = false) ∨ (a = true ∧ b = true ∧ c = true ∧ d = true) := by
  revert a b c d; decide
end Go.Proofs.YtcbplibbfoajgaaDoor
namespace Go.Proofs.YtcbplibbfoajgaaDoor
open Go.RowKit

/-- no two sends have one site -/
def apart (l : List Ii) : Prop := ∀ (i j : Nat) (a b : Ii), i < j → l[i]? = some a → l[j]? = some b → a.op = 7 → b.op = 7 → a.n ≠ b.n
/-- which sites were taken -/
def marks (S : Nat) (l : List Ii) : List Bool := (List.range S).map fun (j : Nat) => l.any fun i => decide (i.op = 7 ∧ i.n = (j : Int))
theorem marks_len (S : Nat) (l : List Ii) : (marks S l).length = S := by simp [marks]
theorem marks_nil (S : Nat) : marks S [] = List.replicate S false := by
  unfold marks
  simp only [List.any_nil]
  exact List.ext_getElem (by simp) (fun i h1 h2 => by simp)
theorem marks_at {S : Nat} {l : List Ii} {j : Nat} (h : j < S) : (marks S l)[j]? = some (l.any fun i => decide (i.op = 7 ∧ i.n = (j : Int))) := by
  simp [marks, h]
theorem marks_other {S : Nat} {l : List Ii} {i : Ii} (h : i.op ≠ 7) : marks S (l ++ [i]) = marks S l := by
  unfold marks
  simp [h]
theorem marks_set {S : Nat} {l : List Ii} {i : Ii} {n : Nat} (h : i.op = 7) (hn : i.n = (n : Int)) : marks S (l ++ [i]) = (marks S l).set n true := by
  apply List.ext_getElem?
  intro j
  by_cases hj : j < S
  · rw [marks_at hj]
    by_cases e : n = j
    · subst e
      rw [List.getElem?_set_self (by rw [marks_len]; exact hj)]
      simp [h, hn]
    · rw [List.getElem?_set_ne e, marks_at hj]
      have : ¬ ((n : Int) = (j : Int)) := by omega
      simp [hn, this]
  · rw [List.getElem?_eq_none (by rw [marks_len]; omega), List.getElem?_eq_none (by rw [List.length_set, marks_len]; omega)]
theorem apart_snoc {l : List Ii} {k : Nat} {i : Ii} (h : l[k]? = some i) (ha : apart (l.take k)) (hn : i.op = 7 → (l.take k).any (fun a => decide (a.op = 7 ∧ a.n = i.n)) = false) : apart (l.take (k + 1)) := by
  intro x y a b hxy hx hy ha7 hb7
  have hyl := (List.getElem?_eq_some_iff.1 hy).1
  rw [List.length_take] at hyl
  by_cases hyk : y = k
  · subst hyk
    rw [List.getElem?_take_of_lt (by omega)] at hx hy
    rw [h] at hy
    cases hy
    intro e
    have := hn hb7
    rw [List.any_eq_false] at this
    refine this a (List.mem_of_getElem? (i := x) ?_) (by simp [ha7, e])
    rw [List.getElem?_take_of_lt hxy]
    exact hx
  · refine ha x y a b hxy ?_ ?_ ha7 hb7
    · rw [List.getElem?_take_of_lt (by omega)] at hx ⊢; exact hx
    · rw [List.getElem?_take_of_lt (by omega)] at hy ⊢; exact hy
theorem apart_no {l : List Ii} {k : Nat} {i : Ii} (h : l[k]? = some i) (h7 : i.op = 7) (hn : (l.take k).any (fun a => decide (a.op = 7 ∧ a.n = i.n)) = true) : ¬ apart l := by
  intro hA
  obtain ⟨a, ha, hb⟩ := List.any_eq_true.1 hn
  simp only [decide_eq_true_eq] at hb
  obtain ⟨x, hx⟩ := List.getElem?_of_mem ha
  have hxl := (List.getElem?_eq_some_iff.1 hx).1
  rw [List.length_take] at hxl
  rw [List.getElem?_take_of_lt (by omega)] at hx
  exact hA x k a i (by omega) hx h hb.1 h7 hb.2
/-- a row of truths -/
def TkAt (w : World) (b : Nat) (M : List Bool) : Prop := w.heap[b]? = some (.cells (M.map Value.bool).toArray 4 (0, 0))
theorem TkAt.set {w : World} {b : Nat} {M : List Bool} (h : TkAt w b M) (k : Nat) (x : Bool) : TkAt (w.setCell ⟨b, k, none⟩ (.bool x)) b (M.set k x) := by
  unfold TkAt
  rw [heap_setCell_same h]
  simp [List.map_set]
theorem TkAt.cell {w : World} {b : Nat} {M : List Bool} (h : TkAt w b M) {k : Nat} {x : Bool} (hk : M[k]? = some x) : w.cell? ⟨b, k, none⟩ = some (.bool x) := cell_of_heap h (by simp [hk])
theorem mades_ones (z : Value) (n : Nat) (h : z.cells = #[z]) : madeCells z.cells n = (List.replicate n z).toArray := by
  apply Array.ext'
  rw [h, toList_madeCells_one]
theorem infoTk : (Tryd.prog.info? 4).map (fun i => (i.zero, i.size, i.bytes)) = some (some (.bool false), 1, 1) := by kernel_rfl
theorem makeTk (n : Nat) (h2 : n ≤ 65536) (W : World) : (Instr.makeSlice 47 (.int .i64 (n : Int)) (.int .i64 (n : Int))).run Tryd.prog W = .ok (.slice (some ⟨W.heap.size, 0, none⟩) n n) (W.alloc (.cells (List.replicate n (Value.bool false)).toArray 4)) := by
  obtain ⟨i0, hi, hz0, hz1, hz2⟩ := info_parts infoTk
  have hr := run_make (P := Tryd.prog) W 47 4 i0 (.bool false) Tryd.underlying47 hi hz0 .i64 .i64 n n (by omega) (by omega) (by rw [hz2]; omega) (by omega)
  simp only [Int.toNat_natCast, hz1, Nat.mul_one] at hr
  rw [mades_ones _ _ rfl] at hr
  exact hr
theorem made_marks (S : Nat) : List.replicate S (Value.bool false) = (marks S []).map Value.bool := by rw [marks_nil]; simp
open Classical in
/-- may the instructions be? -/
noncomputable def codeOkU (u : Un) : Bool := decide ((∀ i ∈ u.enter, i.op = 1) ∧ u.enter.all (insOkU u.regs u.spills u.sites u.maps.length) = true ∧ u.code.all (insOkU u.regs u.spills u.sites u.maps.length) = true ∧ apart u.code)
theorem codeOk_iff (u : Un) : codeOkU u = true ↔ ((∀ i ∈ u.enter, i.op = 1) ∧ u.enter.all (insOkU u.regs u.spills u.sites u.maps.length) = true ∧ u.code.all (insOkU u.regs u.spills u.sites u.maps.length) = true ∧ apart u.code) := by
  unfold codeOkU
  simp
theorem insOk_site {R P S M : Int} {i : Ii} (h : insOkU R P S M i = true) (h7 : i.op = 7) : 0 ≤ i.n ∧ i.n < S := by
  unfold insOkU at h
  simp only [Bool.and_eq_true] at h
  have h2 := h.1.2
  rw [h7] at h2
  unfold wtn grt at h2
  simp at h2
  omega
end Go.Proofs.YtcbplibbfoajgaaDoor
namespace Go.Proofs.YtcbplibbfoajgaaDoor
open Go.RowKit

noncomputable def okU (u : Un) : Bool := numsOk u && startsOk u && u.maps.all (mapOk u.regs u.spills u.temps) && codeOkU u
noncomputable def errU (u : Un) : Int := if okU u = true then 0 else 1
theorem numsOk_iff (u : Un) : numsOk u = true ↔ u.method ≠ 0 ∧ (0 ≤ u.args ∧ u.args ≤ 4) ∧ (u.args ≤ u.temps ∧ u.temps ≤ 16) ∧ (0 ≤ u.regs ∧ u.regs ≤ 4096) ∧ (0 ≤ u.spills ∧ u.spills ≤ 4096) ∧ (0 ≤ u.sites ∧ u.sites ≤ 128) := by
  unfold numsOk wtn
  simp [and_assoc]
theorem four (a b c d : Bool) : a = false ∨ (a = true ∧ b = false) ∨ (a = true ∧ b = true ∧ c = false) ∨ (a = true ∧ b = true ∧ c = true) := by
  cases a <;> cases b <;> cases c <;> cases d <;> simp
end Go.Proofs.YtcbplibbfoajgaaDoor
