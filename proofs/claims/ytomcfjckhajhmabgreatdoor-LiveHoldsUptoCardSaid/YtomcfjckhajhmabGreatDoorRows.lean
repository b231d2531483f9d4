/-
  NARROWER THAN 'FOR EVERY INPUT', by the rows' own cells (each row's printed sentence says how): GenState: laid · LiveHolds: laid.
  DERIVED. THE GIVEN ROWS OF THIS SEAT. 2 by the template 'for every input the law returns true; each argument reads behind the call as it read before'; 0 by the template 'total and deterministic' (their statements: YtomcfjckhajhmabGreatDoorTotals.lean).
  GIVEN WITH THE SEED: the statements are not yours to turn. If you find one false, say at which input.
  Laid BY PROGRAM, IN A SANDBOX (cutbox-rows.mjs): the forced cells as the released guide's own fill.sh prints them over the translation 4c51ecfcfefe2017… (all of the seat's roots in one cut). By AI agents, Wed Nov 11 2026. No macro, syntax, notation, axiom, sorry.
-/
import Derived.Test.YtomcfjckhajhmabGreatDoorChecked
import GoSem.Claim
import GoSem.ClaimJoined
import GoSem.ClaimMapViews
import Derived.JoinedTies
import Derived.KernelRfl
namespace Go.Proofs.YtomcfjckhajhmabGreatDoor
/- THE CELL 'sum', in the pinned program and in every row, IS THE sha256 OF THE DUMP (.gsa) THAT YtomcfjckhajhmabGreatDoorProg.lean LOADS. Nothing in Lean hashes anything: it is a label: what it is worth is what the hold of that sum in a sandbox is worth. -/
noncomputable def Tryz.pinned : Pinned := { name := "ytomcfjckhajhmabgreatdoor", sum := "4c51ecfcfefe2017c0d4a652211dd1d33399846d62f3efdb512efafa2e0f33ff", checked := Tryz.checked }
namespace Rows
def none {H : Type} : Left H := { results := [], args := [] }

/- WHAT THE LISTED PACKAGE-LEVEL VARIABLES READ AS WHEN THE CALL BEGINS. Each datum BY PROGRAM (the guide's laid-datum.mjs) off the statement by which the dump's own 'gosem.cut.vars' lays the variable. In a bare row this is a premise. The card (YtomcfjckhajhmabGreatDoorCards.lean) ties it to the program's text. -/
def laid_math_bits_deBruijn32tab {H : Type} : DataW H := .agg [.lit (.int .u8 0), .lit (.int .u8 1), .lit (.int .u8 28), .lit (.int .u8 2), .lit (.int .u8 29), .lit (.int .u8 14), .lit (.int .u8 24), .lit (.int .u8 3), .lit (.int .u8 30), .lit (.int .u8 22), .lit (.int .u8 20), .lit (.int .u8 15), .lit (.int .u8 25), .lit (.int .u8 17), .lit (.int .u8 4), .lit (.int .u8 8), .lit (.int .u8 31), .lit (.int .u8 27), .lit (.int .u8 13), .lit (.int .u8 23), .lit (.int .u8 21), .lit (.int .u8 19), .lit (.int .u8 16), .lit (.int .u8 7), .lit (.int .u8 26), .lit (.int .u8 12), .lit (.int .u8 18), .lit (.int .u8 6), .lit (.int .u8 11), .lit (.int .u8 5), .lit (.int .u8 10), .lit (.int .u8 9)]
def laid_errors_errorType {H : Type} : DataW H := .iface "internal/reflectlite.rtype" (.agg [.ptr (.lit (.string [101, 114, 114, 111, 114]))])
def laid_tappet_code_errField {H : Type} : DataW H := .iface "*errors.errorString" (.ptr (.agg [.lit (.string [99, 111, 100, 101, 58, 32, 97, 110, 32, 105, 110, 118, 97, 108, 105, 100, 32, 102, 105, 101, 108, 100])]))
def laid_tappet_verify_errMethod {H : Type} : DataW H := .iface "*errors.errorString" (.ptr (.agg [.lit (.string [110, 111, 32, 109, 101, 116, 104, 111, 100])]))
def laid_tappet_verify_errOperand {H : Type} : DataW H := .iface "*errors.errorString" (.ptr (.agg [.lit (.string [97, 110, 32, 111, 112, 101, 114, 97, 110, 100, 32, 111, 117, 116, 32, 111, 102, 32, 105, 116, 115, 32, 114, 97, 110, 103, 101])]))
def laid_tappet_verify_errFew {H : Type} : DataW H := .iface "*errors.errorString" (.ptr (.agg [.lit (.string [116, 111, 111, 32, 102, 101, 119, 32, 119, 111, 114, 100, 115, 32, 111, 110, 32, 116, 104, 101, 32, 115, 116, 97, 99, 107])]))
def laid_tappet_verify_errMany {H : Type} : DataW H := .iface "*errors.errorString" (.ptr (.agg [.lit (.string [116, 111, 111, 32, 109, 97, 110, 121, 32, 119, 111, 114, 100, 115, 32, 111, 110, 32, 116, 104, 101, 32, 115, 116, 97, 99, 107])]))
def laid_tappet_verify_errDepths {H : Type} : DataW H := .iface "*errors.errorString" (.ptr (.agg [.lit (.string [114, 101, 97, 99, 104, 101, 100, 32, 119, 105, 116, 104, 32, 100, 105, 102, 102, 101, 114, 101, 110, 116, 32, 100, 101, 112, 116, 104, 115])]))
def laid_tappet_verify_errBeyond {H : Type} : DataW H := .iface "*errors.errorString" (.ptr (.agg [.lit (.string [116, 104, 101, 32, 99, 111, 100, 101, 32, 101, 110, 100, 115, 32, 98, 101, 104, 105, 110, 100, 32, 105, 116])]))

/-- 'tappetlaw12.GenState': WHATEVER THE INPUT: true; the input reads as it did. -/
def genStateSpec : ChangeSpec := { name := "genState", fn := fun _ => fun
  | [d1, d2] => { results := [.lit (.bool true)], args := [d1, d2] }
  | _ => none }
def genStateRow : OpenClaim := { program := "ytomcfjckhajhmabgreatdoor", sum := "4c51ecfcfefe2017c0d4a652211dd1d33399846d62f3efdb512efafa2e0f33ff", func := "tappet/tappetlaw12.GenState", spec := "genState", inPlace := ["internal/reflectlite.TypeOf", "internal/reflectlite.ValueOf", "(internal/reflectlite.Value).Type", "(internal/reflectlite.Value).IsNil", "(internal/reflectlite.Value).Elem", "(internal/reflectlite.Value).Set"], unfollowed := true, recurses := true, named := ["tappet/verify.errMethod", "tappet/code.errField", "tappet/verify.errOperand", "tappet/verify.errFew", "tappet/verify.errMany", "tappet/verify.errDepths", "tappet/verify.errBeyond", "math/bits.deBruijn32tab", "errors.errorType"], apart := false, laid := [("math/bits.deBruijn32tab", laid_math_bits_deBruijn32tab), ("errors.errorType", laid_errors_errorType), ("tappet/code.errField", laid_tappet_code_errField), ("tappet/verify.errMethod", laid_tappet_verify_errMethod), ("tappet/verify.errOperand", laid_tappet_verify_errOperand), ("tappet/verify.errFew", laid_tappet_verify_errFew), ("tappet/verify.errMany", laid_tappet_verify_errMany), ("tappet/verify.errDepths", laid_tappet_verify_errDepths), ("tappet/verify.errBeyond", laid_tappet_verify_errBeyond)] }
def GenStateSaid : Prop := genStateRow.holds Tryz.pinned (OpenSpec.ofChange genStateSpec)

/-- ITS FALSE NEIGHBOUR: 'it returns false'. Refute it at one input. -/
def genStateWrong : ChangeSpec := { name := "genState", fn := fun _ => fun
  | [d1, d2] => { results := [.lit (.bool false)], args := [d1, d2] }
  | _ => none }
def GenStateWrongFalsely : Prop := genStateRow.holds Tryz.pinned (OpenSpec.ofChange genStateWrong)

/-- 'tappetlaw13.LiveHolds': WHATEVER THE INPUT: true; the input reads as it did. -/
def liveHoldsSpec : ChangeSpec := { name := "liveHolds", fn := fun _ => fun
  | [d] => { results := [.lit (.bool true)], args := [d] }
  | _ => none }
def liveHoldsRow : OpenClaim := { program := "ytomcfjckhajhmabgreatdoor", sum := "4c51ecfcfefe2017c0d4a652211dd1d33399846d62f3efdb512efafa2e0f33ff", func := "tappet/tappetlaw13.LiveHolds", spec := "liveHolds", inPlace := ["internal/reflectlite.TypeOf", "internal/reflectlite.ValueOf", "(internal/reflectlite.Value).Type", "(internal/reflectlite.Value).IsNil", "(internal/reflectlite.Value).Elem", "(internal/reflectlite.Value).Set"], unfollowed := true, recurses := true, named := ["tappet/verify.errMethod", "tappet/code.errField", "tappet/verify.errOperand", "tappet/verify.errFew", "tappet/verify.errMany", "tappet/verify.errDepths", "tappet/verify.errBeyond", "math/bits.deBruijn32tab", "errors.errorType"], apart := false, laid := [("math/bits.deBruijn32tab", laid_math_bits_deBruijn32tab), ("errors.errorType", laid_errors_errorType), ("tappet/code.errField", laid_tappet_code_errField), ("tappet/verify.errMethod", laid_tappet_verify_errMethod), ("tappet/verify.errOperand", laid_tappet_verify_errOperand), ("tappet/verify.errFew", laid_tappet_verify_errFew), ("tappet/verify.errMany", laid_tappet_verify_errMany), ("tappet/verify.errDepths", laid_tappet_verify_errDepths), ("tappet/verify.errBeyond", laid_tappet_verify_errBeyond)] }
def LiveHoldsSaid : Prop := liveHoldsRow.holds Tryz.pinned (OpenSpec.ofChange liveHoldsSpec)

/-- ITS FALSE NEIGHBOUR: 'it returns false'. Refute it at one input. -/
def liveHoldsWrong : ChangeSpec := { name := "liveHolds", fn := fun _ => fun
  | [d] => { results := [.lit (.bool false)], args := [d] }
  | _ => none }
def LiveHoldsWrongFalsely : Prop := liveHoldsRow.holds Tryz.pinned (OpenSpec.ofChange liveHoldsWrong)

/- THE SECOND FORM. 'bulk': how many values and letters a reading holds, each counted each time it is reached (what is shared counts as often as it is met; a slice's spare places count too). A statement '..UptoSaid' is the law's where the arguments, and the package variables that the reading takes, are together of bulk at most 1048576: NARROWER than '..Said'. Prove '..Said' where nothing that the law and all that it calls make is longer than what came in: it says more and counts as full. Else prove '..UptoSaid'. A law counts once. -/
mutual
def uptoBulk {H : Type} : DataW H → Nat
  | .lit (.string bytes) => bytes.length + 1
  | .lit _ => 1
  | .nil => 1
  | .ptr d => uptoBulk d + 1
  | .slice elems spare => uptoBulkAll elems + uptoBulkAll spare + 1
  | .agg parts => uptoBulkAll parts + 1
  | .iface _ d => uptoBulk d + 1
  | .map entries => uptoBulkEntries entries + 1
  | .held _ => 1
def uptoBulkAll {H : Type} : List (DataW H) → Nat
  | [] => 0
  | d :: r => uptoBulk d + uptoBulkAll r
def uptoBulkEntries {H : Type} : List (Lit × DataW H) → Nat
  | [] => 0
  | x :: r => uptoBulkEntry x + uptoBulkEntries r
def uptoBulkEntry {H : Type} : Lit × DataW H → Nat
  | (.string bytes, d) => bytes.length + uptoBulk d + 1
  | (_, d) => uptoBulk d + 1
 end
def uptoSmall : (H : Type) → List (DataW H) → Bool := fun _ ds => decide (uptoBulkAll ds ≤ 1048576)
def OpenSpec.upto (s : _root_.Go.ChangeSpec) : _root_.Go.OpenSpec := { _root_.Go.OpenSpec.ofChange s with cond := some uptoSmall }

/-- 'tappetlaw12.GenState', WHERE WHAT IT READS IS OF BULK AT MOST 1048576: true; the input reads as it did. -/
def genStateUptoRow : OpenClaim := { program := "ytomcfjckhajhmabgreatdoor", sum := "4c51ecfcfefe2017c0d4a652211dd1d33399846d62f3efdb512efafa2e0f33ff", func := "tappet/tappetlaw12.GenState", spec := "genState", inPlace := ["internal/reflectlite.TypeOf", "internal/reflectlite.ValueOf", "(internal/reflectlite.Value).Type", "(internal/reflectlite.Value).IsNil", "(internal/reflectlite.Value).Elem", "(internal/reflectlite.Value).Set"], unfollowed := true, recurses := true, named := ["tappet/verify.errMethod", "tappet/code.errField", "tappet/verify.errOperand", "tappet/verify.errFew", "tappet/verify.errMany", "tappet/verify.errDepths", "tappet/verify.errBeyond", "math/bits.deBruijn32tab", "errors.errorType"], apart := false, laid := [("math/bits.deBruijn32tab", laid_math_bits_deBruijn32tab), ("errors.errorType", laid_errors_errorType), ("tappet/code.errField", laid_tappet_code_errField), ("tappet/verify.errMethod", laid_tappet_verify_errMethod), ("tappet/verify.errOperand", laid_tappet_verify_errOperand), ("tappet/verify.errFew", laid_tappet_verify_errFew), ("tappet/verify.errMany", laid_tappet_verify_errMany), ("tappet/verify.errDepths", laid_tappet_verify_errDepths), ("tappet/verify.errBeyond", laid_tappet_verify_errBeyond)], narrowed := true }
def GenStateUptoSaid : Prop := genStateUptoRow.holds Tryz.pinned (OpenSpec.upto genStateSpec)

/-- 'tappetlaw13.LiveHolds', WHERE WHAT IT READS IS OF BULK AT MOST 1048576: true; the input reads as it did. -/
def liveHoldsUptoRow : OpenClaim := { program := "ytomcfjckhajhmabgreatdoor", sum := "4c51ecfcfefe2017c0d4a652211dd1d33399846d62f3efdb512efafa2e0f33ff", func := "tappet/tappetlaw13.LiveHolds", spec := "liveHolds", inPlace := ["internal/reflectlite.TypeOf", "internal/reflectlite.ValueOf", "(internal/reflectlite.Value).Type", "(internal/reflectlite.Value).IsNil", "(internal/reflectlite.Value).Elem", "(internal/reflectlite.Value).Set"], unfollowed := true, recurses := true, named := ["tappet/verify.errMethod", "tappet/code.errField", "tappet/verify.errOperand", "tappet/verify.errFew", "tappet/verify.errMany", "tappet/verify.errDepths", "tappet/verify.errBeyond", "math/bits.deBruijn32tab", "errors.errorType"], apart := false, laid := [("math/bits.deBruijn32tab", laid_math_bits_deBruijn32tab), ("errors.errorType", laid_errors_errorType), ("tappet/code.errField", laid_tappet_code_errField), ("tappet/verify.errMethod", laid_tappet_verify_errMethod), ("tappet/verify.errOperand", laid_tappet_verify_errOperand), ("tappet/verify.errFew", laid_tappet_verify_errFew), ("tappet/verify.errMany", laid_tappet_verify_errMany), ("tappet/verify.errDepths", laid_tappet_verify_errDepths), ("tappet/verify.errBeyond", laid_tappet_verify_errBeyond)], narrowed := true }
def LiveHoldsUptoSaid : Prop := liveHoldsUptoRow.holds Tryz.pinned (OpenSpec.upto liveHoldsSpec)

end Rows
end Go.Proofs.YtomcfjckhajhmabGreatDoor
