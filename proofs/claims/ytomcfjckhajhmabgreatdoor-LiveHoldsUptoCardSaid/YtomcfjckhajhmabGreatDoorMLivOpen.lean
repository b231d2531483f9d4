/- live: intervals that came in. -/
import Derived.Test.YtomcfjckhajhmabGreatDoorMIrOpen
import Derived.Test.YtomcfjckhajhmabGreatDoorMLvA
namespace Go.Proofs.YtomcfjckhajhmabGreatDoor
open Go.ChangeShapes Go.WideShapes Go.RowKit Go.Deep
section
variable {H : Type} {enc : TypeId × Value → H} {w : World} {base : Nat} {spare : Nat → Bool} {held : Bool}

theorem cells_LIv : Tryz.prog.cellsOf 63 = 3 := by kernel_rfl
set_option maxRecDepth 100000 in
theorem read_ivc {n : Nat} {cs : List Value} {x : DataW H × List MemPlace} (h : DataW.trod enc Tryz.prog w base spare held n 63 cs = some x) : ∃ v f t : Int, cs = [.int .i64 v, .int .i64 f, .int .i64 t] := by
  obtain ⟨ys, k, hyy, rfl, hlen, hyl, hf⟩ := DataW.trod_struct Tryz.underlying63 h
  rw [cells_LIv] at hlen
  match cs, hlen with
  | [c0, c1, c2], _ =>
    have h0 := hf 0 _ rfl
    have h1 := hf 1 _ rfl
    have h2 := hf 2 _ rfl
    match ys, hyl with
    | [y0, y1, y2], _ =>
      obtain ⟨z0, e0, p0, -⟩ := DataW.trod_int (k := .i64) Tryz.underlying3 (show DataW.trod enc Tryz.prog w base spare held k 3 [c0] = some y0 from h0)
      obtain ⟨z1, e1, p1, -⟩ := DataW.trod_int (k := .i64) Tryz.underlying3 (show DataW.trod enc Tryz.prog w base spare held k 3 [c1] = some y1 from h1)
      obtain ⟨z2, e2, p2, -⟩ := DataW.trod_int (k := .i64) Tryz.underlying3 (show DataW.trod enc Tryz.prog w base spare held k 3 [c2] = some y2 from h2)
      simp only [List.cons.injEq, and_true] at e0 e1 e2
      subst e0 e1 e2
      exact ⟨z0, z1, z2, rfl⟩
set_option maxRecDepth 100000 in
/-- an interval that came in by value -/
theorem read_iv {r : Reach} {b0 : Nat} {v : Value} {d : DataW H} {p : List MemPlace} (hv : Value.okWide Tryz.prog w r b0 63 v) (h : DataW.Trod enc Tryz.prog w base spare held 63 v d p) : ∃ x f t : Int, v = ivA x f t := by
  obtain ⟨cs, rfl, hsz⟩ := okWide_struct Tryz.underlying63 hv
  obtain ⟨fuel, hf0⟩ := h
  obtain ⟨l⟩ := cs
  obtain ⟨x, f, t, e⟩ := read_ivc (show DataW.trod enc Tryz.prog w base spare held fuel 63 l = some (d, p) from hf0)
  exact ⟨x, f, t, by rw [e]; rfl⟩
end
end Go.Proofs.YtomcfjckhajhmabGreatDoor
