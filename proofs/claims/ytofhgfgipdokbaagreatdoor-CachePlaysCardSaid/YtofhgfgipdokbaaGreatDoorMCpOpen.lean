/- A list of a cache's operations that came in, read. -/
import Derived.Test.YtofhgfgipdokbaaGreatDoorMMade
namespace Go.Proofs.YtofhgfgipdokbaaGreatDoor
open Go.ChangeShapes Go.WideShapes Go.RowKit Go.Deep
/-- operations that lie in a row, each with numbers that may be -/
def Ops8At (w : World) (ao : Option Addr) (len : Nat) : Prop := ∀ i, i < len → ∃ g o z0 z1 z2 z3 z4, ao = some ⟨g, o, none⟩ ∧ ((-9223372036854775808 ≤ z0 ∧ z0 ≤ 9223372036854775807) ∧ (-9223372036854775808 ≤ z1 ∧ z1 ≤ 9223372036854775807) ∧ (-9223372036854775808 ≤ z2 ∧ z2 ≤ 9223372036854775807) ∧ (-9223372036854775808 ≤ z3 ∧ z3 ≤ 9223372036854775807) ∧ WB z4) ∧
  w.cell? ⟨g, o + i * 5, none⟩ = some (.int .i64 z0) ∧ w.cell? ⟨g, o + i * 5 + 1, none⟩ = some (.int .i64 z1) ∧ w.cell? ⟨g, o + i * 5 + 2, none⟩ = some (.int .i64 z2) ∧ w.cell? ⟨g, o + i * 5 + 3, none⟩ = some (.int .i64 z3) ∧ w.cell? ⟨g, o + i * 5 + 4, none⟩ = some (.int .u64 z4)
theorem Ops8At.fr0 {w w' : World} {ao : Option Addr} {len : Nat} (h : Ops8At w ao len) (hF : Fr [] w w') : Ops8At w' ao len := by
  intro i hi
  obtain ⟨g, o, z0, z1, z2, z3, z4, e, hb, c0, c1, c2, c3, c4⟩ := h i hi
  exact ⟨g, o, z0, z1, z2, z3, z4, e, hb, hF.cell (by simp) c0, hF.cell (by simp) c1, hF.cell (by simp) c2, hF.cell (by simp) c3, hF.cell (by simp) c4⟩
section
variable {H : Type} {enc : TypeId × Value → H} {w : World} {base : Nat} {spare : Nat → Bool} {held : Bool}
theorem cells_Op8 : Tryz.prog.cellsOf 41 = 5 := by kernel_rfl
set_option maxRecDepth 100000 in
theorem read_ops8 {n : Nat} {v : Value} {y : DataW H × List MemPlace} (h : DataW.trod enc Tryz.prog w base spare held n 25 [v] = some y) : ∃ ao len cap, v = .slice ao len cap ∧ Ops8At w ao len := by
  rcases open_slice Tryz.underlying25 h with ⟨hcs, hx⟩ | ⟨a, len, cap, m, k, D, Pl, hcs, hbd, hlc, -, hm, hx, hi⟩
  · simp only [List.cons.injEq, and_true] at hcs
    subst hcs
    exact ⟨none, 0, 0, rfl, fun i hi => by omega⟩
  · simp only [List.cons.injEq, and_true] at hcs
    subst hcs
    have hml : len ≤ m := by rw [hm]; split <;> omega
    refine ⟨some a, len, cap, rfl, fun i hil => ?_⟩
    have hfst : ∃ b o, a = ⟨b, o, none⟩ := by
      obtain ⟨cs', hc, ht⟩ := hi 0 (by omega)
      rw [cells_Op8] at hc
      obtain ⟨-, hcl, hat⟩ := World.cells?_some hc
      have h0 := hat 0 (by omega)
      rw [add_add] at h0
      have h0' : w.cell? a = cs'[0]? := by simpa [Addr.add] using h0
      rw [List.getElem?_eq_getElem (by omega)] at h0'
      exact spot_of h0'
    obtain ⟨b, o, rfl⟩ := hfst
    obtain ⟨cs', hc, ht⟩ := hi i (by omega)
    rw [cells_Op8] at hc
    obtain ⟨-, hcl, hat⟩ := World.cells?_some hc
    obtain ⟨ys, k', hx', hsz, hf⟩ := fields_of Tryz.underlying41 (by kernel_rfl) (by kernel_rfl) ht
    obtain ⟨v0, y0, c0, -, t0⟩ := hf 0 _ rfl
    obtain ⟨v1, y1, c1, -, t1⟩ := hf 1 _ rfl
    obtain ⟨v2, y2, c2, -, t2⟩ := hf 2 _ rfl
    obtain ⟨v3, y3, c3, -, t3⟩ := hf 3 _ rfl
    obtain ⟨v4, y4, c4, -, t4⟩ := hf 4 _ rfl
    obtain ⟨z0, e0, -, g0⟩ := DataW.trod_int Tryz.underlying3 t0
    obtain ⟨z1, e1, -, g1⟩ := DataW.trod_int Tryz.underlying3 t1
    obtain ⟨z2, e2, -, g2⟩ := DataW.trod_int Tryz.underlying3 t2
    obtain ⟨z3, e3, -, g3⟩ := DataW.trod_int Tryz.underlying3 t3
    obtain ⟨z4, e4, -, g4⟩ := DataW.trod_int Tryz.underlying24 t4
    simp only [List.cons.injEq, and_true] at e0 e1 e2 e3 e4
    subst e0
    subst e1
    subst e2
    subst e3
    subst e4
    have a0 := (hat 0 (by omega)).trans c0
    have a1 := (hat 1 (by omega)).trans c1
    have a2 := (hat 2 (by omega)).trans c2
    have a3 := (hat 3 (by omega)).trans c3
    have a4 := (hat 4 (by omega)).trans c4
    rw [add_add, Lib.add_plain] at a0 a1 a2 a3 a4
    exact ⟨b, o, z0, z1, z2, z3, z4, rfl, ⟨wf_i64' g0, wf_i64' g1, wf_i64' g2, wf_i64' g3, wf_u64' g4⟩, a0, a1, a2, a3, a4⟩
end
end Go.Proofs.YtofhgfgipdokbaaGreatDoor
