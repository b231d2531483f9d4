/- The document's Check, fields, Write. -/
import Derived.Test.YtbmfmklalonhiaaGreatDoorMCodeB
import Derived.Test.YtbmfmklalonhiaaGreatDoorMCodeD
namespace Go.Proofs.YtbmfmklalonhiaaGreatDoor
open Go.RowKit

theorem head_case (m : Mth) : m.head = (decide (0 ≤ m.args ∧ m.args ≤ 4) && decide (m.args ≤ m.temps ∧ m.temps ≤ 16) && decide (0 ≤ m.stack ∧ m.stack ≤ 16) && decide (0 ≤ m.prim ∧ m.prim ≤ 255) && !decide ((32 : Int) < m.lits.length) && decide (1 ≤ (m.code.length : Int) ∧ (m.code.length : Int) ≤ 128)) := by
  rw [Bool.eq_iff_iff]
  simp [Mth.head]
  omega
end Go.Proofs.YtbmfmklalonhiaaGreatDoor
