/-
  DERIVED. GIVEN WITH THE SEED: THE PROGRAM's TIES (one call each: nine closed facts by the kernel) AND EACH ROW's TIE, after the 31st guide's Derived/Test/Toyas{Tie, Card}.lean. No idea stands in it: it is a product of the set-up. Laid BY PROGRAM, IN A SANDBOX (cutbox-door.mjs). By AI agents, Wed Nov 11 2026. No macro, syntax, notation, axiom, sorry.
-/
import Derived.Test.YtomcfjckhajhmabGreatDoorRows
import Derived.LaidByTextLater
import Derived.SevenTiedAt
import Derived.LaidSub
import Derived.LaidOnce
namespace Go.Proofs.YtomcfjckhajhmabGreatDoor
open Go
set_option maxRecDepth 100000
theorem seatTie1 : Tryz.prog.laidByTextLater [("math/bits.deBruijn32tab", Rows.laid_math_bits_deBruijn32tab), ("errors.errorType", Rows.laid_errors_errorType), ("tappet/code.errField", Rows.laid_tappet_code_errField), ("tappet/verify.errMethod", Rows.laid_tappet_verify_errMethod), ("tappet/verify.errOperand", Rows.laid_tappet_verify_errOperand), ("tappet/verify.errFew", Rows.laid_tappet_verify_errFew), ("tappet/verify.errMany", Rows.laid_tappet_verify_errMany), ("tappet/verify.errDepths", Rows.laid_tappet_verify_errDepths), ("tappet/verify.errBeyond", Rows.laid_tappet_verify_errBeyond)] [.data, .handle, .sentinel, .sentinel, .sentinel, .sentinel, .sentinel, .sentinel, .sentinel] true :=
  Program.laidByTextLater_by_one 154 8 33 (by kernel_rfl) (by kernel_rfl) (by kernel_rfl) (by kernel_rfl) (by kernel_rfl) (by kernel_rfl) (fun _ _ => by kernel_rfl)
theorem noOwnUnsafe : Tryz.pinned.checked.prog.headLifts.contains "ownunsafe" = false := by kernel_rfl
theorem tie : Tryz.prog.laidByTextLater [("math/bits.deBruijn32tab", Rows.laid_math_bits_deBruijn32tab), ("errors.errorType", Rows.laid_errors_errorType), ("tappet/code.errField", Rows.laid_tappet_code_errField), ("tappet/verify.errMethod", Rows.laid_tappet_verify_errMethod), ("tappet/verify.errOperand", Rows.laid_tappet_verify_errOperand), ("tappet/verify.errFew", Rows.laid_tappet_verify_errFew), ("tappet/verify.errMany", Rows.laid_tappet_verify_errMany), ("tappet/verify.errDepths", Rows.laid_tappet_verify_errDepths), ("tappet/verify.errBeyond", Rows.laid_tappet_verify_errBeyond)] [.data, .handle, .sentinel, .sentinel, .sentinel, .sentinel, .sentinel, .sentinel, .sentinel] true :=
  Program.laidByTextLater.sub seatTie1 ["math/bits.deBruijn32tab", "errors.errorType", "tappet/code.errField", "tappet/verify.errMethod", "tappet/verify.errOperand", "tappet/verify.errFew", "tappet/verify.errMany", "tappet/verify.errDepths", "tappet/verify.errBeyond"] (by kernel_rfl) (by kernel_rfl)
theorem genState_row_tie : Rows.genStateRow.laidByTextAt .later Tryz.pinned [.data, .handle, .sentinel, .sentinel, .sentinel, .sentinel, .sentinel, .sentinel, .sentinel] true :=
  OpenClaim.laidByTextAt_later rfl rfl tie noOwnUnsafe
theorem liveHolds_row_tie : Rows.liveHoldsRow.laidByTextAt .later Tryz.pinned [.data, .handle, .sentinel, .sentinel, .sentinel, .sentinel, .sentinel, .sentinel, .sentinel] true :=
  OpenClaim.laidByTextAt_later rfl rfl tie noOwnUnsafe
theorem genStateUpto_row_tie : Rows.genStateUptoRow.laidByTextAt .later Tryz.pinned [.data, .handle, .sentinel, .sentinel, .sentinel, .sentinel, .sentinel, .sentinel, .sentinel] true :=
  OpenClaim.laidByTextAt_later rfl rfl tie noOwnUnsafe
theorem liveHoldsUpto_row_tie : Rows.liveHoldsUptoRow.laidByTextAt .later Tryz.pinned [.data, .handle, .sentinel, .sentinel, .sentinel, .sentinel, .sentinel, .sentinel, .sentinel] true :=
  OpenClaim.laidByTextAt_later rfl rfl tie noOwnUnsafe
end Go.Proofs.YtomcfjckhajhmabGreatDoor
