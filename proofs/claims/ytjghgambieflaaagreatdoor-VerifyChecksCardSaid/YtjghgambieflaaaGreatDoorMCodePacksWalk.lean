/- CodePacks: instructions and their words, there and back. -/
import Derived.Test.YtjghgambieflaaaGreatDoorMCodeApartWalk
import Derived.Test.YtjghgambieflaaaGreatDoorMCodeD
namespace Go.Proofs.YtjghgambieflaaaGreatDoor
open Go.RowKit

/-- the instruction that Unpack answers -/
def insAt (x : Int) : Ins := if insOk x = true then insOf (intOfW x) else ⟨0, 0, 0⟩
theorem insAt_v (x : Int) : (if insOk x = true then (insOf (intOfW x)).v else .agg #[.int .i64 0, .int .i64 0, .int .i64 0]) = (insAt x).v := by
  unfold insAt
  split <;> rfl
theorem runpack_ins (x : Int) (hx : WB x) (w : World) : Calls Tryz.prog 44 #[.int .u64 x] w (Still (.tuple #[(insAt x).v, .int .i64 (if insOk x = true then 0 else 4)]) w) := by
  have := runpack_at x hx w
  rw [insAt_v] at this
  exact this
end Go.Proofs.YtjghgambieflaaaGreatDoor
