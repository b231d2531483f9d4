/- live: a unit that came in has no more instructions than its bulk. -/
import Derived.Test.YtomcfjckhajhmabGreatDoorMLivOpen
import Derived.Test.YtomcfjckhajhmabGreatDoorMOpenB
namespace Go.Proofs.YtomcfjckhajhmabGreatDoor
open Go.ChangeShapes Go.WideShapes Go.RowKit Go.Deep
section
variable {H : Type} {enc : TypeId × Value → H} {w : World} {base : Nat} {spare : Nat → Bool} {held : Bool}

theorem inss_bulk {n : Nat} {a : Option Addr} {k c : Nat} {y : DataW H × List MemPlace} (h : DataW.trod enc Tryz.prog w base spare held n 30 [.slice a k c] = some y) : k ≤ Rows.uptoBulk y.1 := by
  rcases open_slice Tryz.underlying30 h with ⟨hcs, hx⟩ | ⟨a', len, cap, m, k', D, Pl, hcs, -, hlc, -, hm, hx, hi⟩
  · simp only [List.cons.injEq, and_true] at hcs
    cases hcs
    exact Nat.zero_le _
  · simp only [List.cons.injEq, and_true] at hcs
    cases hcs
    have hml : k ≤ m := by rw [hm]; split <;> omega
    rw [hx]
    refine Nat.le_trans ?_ (bulk_slice _ _)
    simp only [List.length_map, List.length_range]
    omega
theorem bulk_part {l : List (DataW H)} {j : Nat} {d : DataW H} (h : l[j]? = some d) : Rows.uptoBulk d ≤ Rows.uptoBulkAll l := by
  induction l generalizing j with
  | nil => cases h
  | cons a l ih =>
    simp only [Rows.uptoBulkAll]
    cases j with
    | zero => cases h; omega
    | succ j => have := ih (j := j) (by simpa using h); omega
set_option maxRecDepth 100000 in
theorem unit_bulk {u : Un} {d : DataW H} {p : List MemPlace} (h : DataW.Trod enc Tryz.prog w base spare held 34 u.v d p) : u.code.length ≤ Rows.uptoBulk d := by
  obtain ⟨fuel, hf0⟩ := h
  obtain ⟨ys, k, hyy, hxx, hlen, hyl, hf⟩ := DataW.trod_struct Tryz.underlying34 (show DataW.trod enc Tryz.prog w base spare held fuel 34 u.v.cells.toList = some (d, p) from hf0)
  rw [cells_IUnit] at hlen
  match ys, hyl with
  | [y0, y1, y2, y3, y4, y5, y6, y7, y8, y9], _ =>
    obtain ⟨rfl, rfl⟩ := Prod.mk.inj hxx
    have h7 := inss_bulk (show DataW.trod enc Tryz.prog w base spare held k 30 [.slice u.ca u.code.length u.cc] = some y7 from hf 7 _ rfl)
    refine Nat.le_trans h7 (Nat.le_trans (bulk_part (j := 7) (l := [y0.1, y1.1, y2.1, y3.1, y4.1, y5.1, y6.1, y7.1, y8.1, y9.1]) rfl) ?_)
    simp only [Rows.uptoBulk, List.map_cons, List.map_nil]
    exact Nat.le_succ _
end
end Go.Proofs.YtomcfjckhajhmabGreatDoor
