/- The document's examples of layer 1 come out true, in whatever memory; nothing but draws changes. -/
import Derived.Test.YtcgmioeclebfgaaRefs
namespace Go.Proofs.Ytcgmioeclebfgaa
open Go.ChangeShapes Go.WideShapes Go.ChangeAt Go.RowKit
theorem c11 (w : World) : Calls Try.prog 11 #[] w (Drawn (.bool true) w) := by
  have f1 : fiW 4611686018427387903 = 9223372036854775807 := by decide +kernel
  have f2 : fiW 1 = 3 := by decide +kernel
  have f3 : fiW (-7) = 18446744073709551603 := by decide +kernel
  have f4 : fiW 2 = 5 := by decide +kernel
  have f5 : fiW 7 = 15 := by decide +kernel
  have f6 : fiW (-2) = 18446744073709551613 := by decide +kernel
  have f7 : fiW 5 = 11 := by decide +kernel
  have f8 : fiW (-1) = 18446744073709551615 := by decide +kernel
  have f9 : fiW (-4) = 18446744073709551609 := by decide +kernel
  have r1 : frW 3 = 6 := by decide +kernel
  have r2 : frE 3 = 0 := by decide +kernel
  have a1 : arOk 0 9223372036854775807 3 = false := by decide +kernel
  have a2 : arOk 3 18446744073709551603 5 = true := by decide +kernel
  have a3 : arW 3 18446744073709551603 5 = 18446744073709551609 := by decide +kernel
  have a4 : arOk 4 18446744073709551603 5 = true := by decide +kernel
  have a5 : arW 4 18446744073709551603 5 = 3 := by decide +kernel
  have a6 : arOk 4 15 18446744073709551613 = true := by decide +kernel
  have a7 : arW 4 15 18446744073709551613 = 18446744073709551615 := by decide +kernel
  go_enter Try.func11, Try.ntmps11
  go_wp2_with (first
    | (go_at_call 14; refine (c14 _ _).mono ?_; rintro e w' ⟨rfl, rfl⟩)
    | (go_at_call 26; refine (c26 _ _).mono ?_; rintro e w' ⟨rfl, rfl⟩)
    | (go_at_call 22; refine (c22 _ _ _ _ (by omega) (by omega) (by omega) (by omega)).mono ?_; rintro e w' ⟨rfl, hd⟩))
  rename_i _ d1 _ d2 _ d3
  go_ret
  exact ⟨rfl, d1.trans (d2.trans (d3.trans hd))⟩
end Go.Proofs.Ytcgmioeclebfgaa
