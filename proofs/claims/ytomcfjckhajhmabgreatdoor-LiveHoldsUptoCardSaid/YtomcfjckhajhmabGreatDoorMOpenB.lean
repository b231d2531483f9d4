/- Bytes that came in; what a bound on the whole of what came in says of them. -/
import Derived.Test.YtomcfjckhajhmabGreatDoorMMade
import Derived.Test.YtomcfjckhajhmabGreatDoorMImgB
namespace Go.Proofs.YtomcfjckhajhmabGreatDoor
open Go.ChangeShapes Go.WideShapes Go.RowKit Go.Deep
section
variable {H : Type} {enc : TypeId × Value → H} {w : World} {base : Nat} {spare : Nat → Bool} {held : Bool}

theorem bulk_pos (d : DataW H) : 1 ≤ Rows.uptoBulk d := by
  cases d with
  | lit l => cases l <;> simp [Rows.uptoBulk]
  | _ => simp [Rows.uptoBulk]
theorem bulk_len : ∀ (l : List (DataW H)), l.length ≤ Rows.uptoBulkAll l
  | [] => by simp [Rows.uptoBulkAll]
  | x :: r => by
    have h1 := bulk_pos x
    have h2 := bulk_len r
    simp only [Rows.uptoBulkAll, List.length_cons]
    omega
theorem bulk_slice (es rs : List (DataW H)) : es.length + rs.length ≤ Rows.uptoBulk (.slice es rs) := by
  have h1 := bulk_len es
  have h2 := bulk_len rs
  simp only [Rows.uptoBulk]
  omega
theorem bulk_first (d : DataW H) (l : List (DataW H)) : Rows.uptoBulk d ≤ Rows.uptoBulkAll (d :: l) := by
  simp only [Rows.uptoBulkAll]
  omega
theorem bulk_bound {l : List (DataW H)} (h : Rows.uptoSmall H l = true) : Rows.uptoBulkAll l ≤ 1048576 := by
  have := of_decide_eq_true h
  exact this
theorem cells_b8 : Tryz.prog.cellsOf 5 = 1 := by kernel_rfl
end
end Go.Proofs.YtomcfjckhajhmabGreatDoor
