/- GcOrder, walked. -/
import Derived.Test.YtjjkbdkalnhcbaaGreatDoorMGcRoomWalk
namespace Go.Proofs.YtjjkbdkalnhcbaaGreatDoor
open Go.RowKit

/-- the roots, as they lead behind a run: no further behind, in their order -/
theorem order_law {os : List Ob} {root : Int} {roots : List Int} (hl : endOf os ≤ 65536) (hall : roots.all (okB (marksOf os)) = true) {i j : Nat} {x y : Int} (hx : roots[i]? = some x) (hx0 : x ≠ 0) (hx1 : odd x = false) (hy : roots[j]? = some y) (hy0 : y ≠ 0) (hy1 : odd y = false) :
    moveW (keepR os (root :: roots)) os x ≤ x ∧ (moveW (keepR os (root :: roots)) os y < moveW (keepR os (root :: roots)) os x ↔ y < x) := by
  have hm := fun z hz => List.all_eq_true.1 hall z hz
  have lx := ok_look hl (hm x (List.mem_of_getElem? hx)) hx0 hx1
  have ly := ok_look hl (hm y (List.mem_of_getElem? hy)) hy0 hy1
  have kx : keepR os (root :: roots) x = true := keepR_iff.2 (.root (by simp [List.mem_of_getElem? hx]) lx)
  have ky : keepR os (root :: roots) y = true := keepR_iff.2 (.root (by simp [List.mem_of_getElem? hy]) ly)
  obtain ⟨r, -, e, -, h⟩ := move_le lx kx
  exact ⟨by rw [e]; exact h, move_lt ly ky lx kx⟩
theorem move_words {f : Int → Int} {xs : List Int} {W : World} {v : Value} {n : Nat} (h : W.ownsRow 0 24 1 v n ((xs.map f).map (Value.int .u64))) : ∃ va vc, v = .slice va n vc ∧ WordsAt W va (xs.map f) := by
  obtain ⟨va, vc, rfl⟩ := row_shape h
  refine ⟨va, vc, rfl, fun i x hx => ?_⟩
  obtain ⟨g, o, e, hc⟩ := row_rowAt h i (.int .u64 x) (by rw [List.getElem?_map, hx]; rfl)
  exact ⟨g, o, e, hc⟩
end Go.Proofs.YtjjkbdkalnhcbaaGreatDoor
