/-
  NARROWER THAN 'FOR EVERY INPUT', by the rows' own cells (each row's printed sentence says how): VerifyChecks: laid · VerifyFields: laid.
  DERIVED. THE GIVEN ROWS OF THIS SEAT. 2 by the template 'for every input the law returns true; each argument reads behind the call as it read before'; 0 by the template 'total and deterministic' (their statements: YtjghgambieflaaaGreatDoorTotals.lean).
  GIVEN WITH THE SEED: the statements are not yours to turn. If you find one false, say at which input.
  Laid BY PROGRAM, IN A SANDBOX (cutbox-rows.mjs): the forced cells as the released guide's own fill.sh prints them over the translation 18abb14d9a63c0b8… (all of the seat's roots in one cut). By AI agents, Wed Nov 11 2026. No macro, syntax, notation, axiom, sorry.
-/
import Derived.Test.YtjghgambieflaaaGreatDoorChecked
import GoSem.Claim
import GoSem.ClaimJoined
import GoSem.ClaimMapViews
import Derived.JoinedTies
import Derived.KernelRfl
namespace Go.Proofs.YtjghgambieflaaaGreatDoor
/- THE CELL 'sum', in the pinned program and in every row, IS THE sha256 OF THE DUMP (.gsa) THAT YtjghgambieflaaaGreatDoorProg.lean LOADS. Nothing in Lean hashes anything: it is a label: what it is worth is what the hold of that sum in a sandbox is worth. -/
noncomputable def Tryz.pinned : Pinned := { name := "ytjghgambieflaaagreatdoor", sum := "18abb14d9a63c0b8893e56c390d408198b72ed3d7cbce402b8ba4813ee11c5c2", checked := Tryz.checked }
namespace Rows
def none {H : Type} : Left H := { results := [], args := [] }

/- WHAT THE LISTED PACKAGE-LEVEL VARIABLES READ AS WHEN THE CALL BEGINS. Each datum BY PROGRAM (the guide's laid-datum.mjs) off the statement by which the dump's own 'gosem.cut.vars' lays the variable. In a bare row this is a premise. The card (YtjghgambieflaaaGreatDoorCards.lean) ties it to the program's text. -/
def laid_math_bits_deBruijn32tab {H : Type} : DataW H := .agg [.lit (.int .u8 0), .lit (.int .u8 1), .lit (.int .u8 28), .lit (.int .u8 2), .lit (.int .u8 29), .lit (.int .u8 14), .lit (.int .u8 24), .lit (.int .u8 3), .lit (.int .u8 30), .lit (.int .u8 22), .lit (.int .u8 20), .lit (.int .u8 15), .lit (.int .u8 25), .lit (.int .u8 17), .lit (.int .u8 4), .lit (.int .u8 8), .lit (.int .u8 31), .lit (.int .u8 27), .lit (.int .u8 13), .lit (.int .u8 23), .lit (.int .u8 21), .lit (.int .u8 19), .lit (.int .u8 16), .lit (.int .u8 7), .lit (.int .u8 26), .lit (.int .u8 12), .lit (.int .u8 18), .lit (.int .u8 6), .lit (.int .u8 11), .lit (.int .u8 5), .lit (.int .u8 10), .lit (.int .u8 9)]
def laid_math_bits_deBruijn64tab {H : Type} : DataW H := .agg [.lit (.int .u8 0), .lit (.int .u8 1), .lit (.int .u8 56), .lit (.int .u8 2), .lit (.int .u8 57), .lit (.int .u8 49), .lit (.int .u8 28), .lit (.int .u8 3), .lit (.int .u8 61), .lit (.int .u8 58), .lit (.int .u8 42), .lit (.int .u8 50), .lit (.int .u8 38), .lit (.int .u8 29), .lit (.int .u8 17), .lit (.int .u8 4), .lit (.int .u8 62), .lit (.int .u8 47), .lit (.int .u8 59), .lit (.int .u8 36), .lit (.int .u8 45), .lit (.int .u8 43), .lit (.int .u8 51), .lit (.int .u8 22), .lit (.int .u8 53), .lit (.int .u8 39), .lit (.int .u8 33), .lit (.int .u8 30), .lit (.int .u8 24), .lit (.int .u8 18), .lit (.int .u8 12), .lit (.int .u8 5), .lit (.int .u8 63), .lit (.int .u8 55), .lit (.int .u8 48), .lit (.int .u8 27), .lit (.int .u8 60), .lit (.int .u8 41), .lit (.int .u8 37), .lit (.int .u8 16), .lit (.int .u8 46), .lit (.int .u8 35), .lit (.int .u8 44), .lit (.int .u8 21), .lit (.int .u8 52), .lit (.int .u8 32), .lit (.int .u8 23), .lit (.int .u8 11), .lit (.int .u8 54), .lit (.int .u8 26), .lit (.int .u8 40), .lit (.int .u8 15), .lit (.int .u8 34), .lit (.int .u8 20), .lit (.int .u8 31), .lit (.int .u8 10), .lit (.int .u8 25), .lit (.int .u8 14), .lit (.int .u8 19), .lit (.int .u8 9), .lit (.int .u8 13), .lit (.int .u8 8), .lit (.int .u8 7), .lit (.int .u8 6)]
def laid_internal_strconv_uint64pow10 {H : Type} : DataW H := .agg [.lit (.int .u64 1), .lit (.int .u64 10), .lit (.int .u64 100), .lit (.int .u64 1000), .lit (.int .u64 10000), .lit (.int .u64 100000), .lit (.int .u64 1000000), .lit (.int .u64 10000000), .lit (.int .u64 100000000), .lit (.int .u64 1000000000), .lit (.int .u64 10000000000), .lit (.int .u64 100000000000), .lit (.int .u64 1000000000000), .lit (.int .u64 10000000000000), .lit (.int .u64 100000000000000), .lit (.int .u64 1000000000000000), .lit (.int .u64 10000000000000000), .lit (.int .u64 100000000000000000), .lit (.int .u64 1000000000000000000), .lit (.int .u64 10000000000000000000)]
def laid_errors_errorType {H : Type} : DataW H := .iface "internal/reflectlite.rtype" (.agg [.ptr (.lit (.string [101, 114, 114, 111, 114]))])
def laid_tappet_code_errField {H : Type} : DataW H := .iface "*errors.errorString" (.ptr (.agg [.lit (.string [99, 111, 100, 101, 58, 32, 97, 110, 32, 105, 110, 118, 97, 108, 105, 100, 32, 102, 105, 101, 108, 100])]))
def laid_tappet_verify_errMethod {H : Type} : DataW H := .iface "*errors.errorString" (.ptr (.agg [.lit (.string [110, 111, 32, 109, 101, 116, 104, 111, 100])]))
def laid_tappet_verify_errPrim {H : Type} : DataW H := .iface "*errors.errorString" (.ptr (.agg [.lit (.string [97, 32, 98, 108, 111, 99, 107, 32, 119, 105, 116, 104, 32, 97, 32, 112, 114, 105, 109, 105, 116, 105, 118, 101])]))
def laid_tappet_verify_errOperand {H : Type} : DataW H := .iface "*errors.errorString" (.ptr (.agg [.lit (.string [97, 110, 32, 111, 112, 101, 114, 97, 110, 100, 32, 111, 117, 116, 32, 111, 102, 32, 105, 116, 115, 32, 114, 97, 110, 103, 101])]))
def laid_tappet_verify_errFew {H : Type} : DataW H := .iface "*errors.errorString" (.ptr (.agg [.lit (.string [116, 111, 111, 32, 102, 101, 119, 32, 119, 111, 114, 100, 115, 32, 111, 110, 32, 116, 104, 101, 32, 115, 116, 97, 99, 107])]))
def laid_tappet_verify_errMany {H : Type} : DataW H := .iface "*errors.errorString" (.ptr (.agg [.lit (.string [116, 111, 111, 32, 109, 97, 110, 121, 32, 119, 111, 114, 100, 115, 32, 111, 110, 32, 116, 104, 101, 32, 115, 116, 97, 99, 107])]))
def laid_tappet_verify_errDepths {H : Type} : DataW H := .iface "*errors.errorString" (.ptr (.agg [.lit (.string [114, 101, 97, 99, 104, 101, 100, 32, 119, 105, 116, 104, 32, 100, 105, 102, 102, 101, 114, 101, 110, 116, 32, 100, 101, 112, 116, 104, 115])]))
def laid_tappet_verify_errBeyond {H : Type} : DataW H := .iface "*errors.errorString" (.ptr (.agg [.lit (.string [116, 104, 101, 32, 99, 111, 100, 101, 32, 101, 110, 100, 115, 32, 98, 101, 104, 105, 110, 100, 32, 105, 116])]))
def laid_tappet_verify_errField {H : Type} : DataW H := .iface "*errors.errorString" (.ptr (.agg [.lit (.string [110, 111, 32, 115, 117, 99, 104, 32, 102, 105, 101, 108, 100])]))
def laid_tappet_verify_errInside {H : Type} : DataW H := .iface "*errors.errorString" (.ptr (.agg [.lit (.string [111, 110, 108, 121, 32, 111, 117, 116, 115, 105, 100, 101, 32, 111, 102, 32, 97, 32, 98, 108, 111, 99, 107])]))
def laid_tappet_verify_errOutside {H : Type} : DataW H := .iface "*errors.errorString" (.ptr (.agg [.lit (.string [111, 110, 108, 121, 32, 105, 110, 32, 97, 32, 98, 108, 111, 99, 107])]))
def laid_tappet_verify_errOuter {H : Type} : DataW H := .iface "*errors.errorString" (.ptr (.agg [.lit (.string [110, 111, 32, 115, 117, 99, 104, 32, 111, 117, 116, 101, 114, 32, 116, 101, 109, 112, 111, 114, 97, 114, 121])]))
def laid_tappet_verify_errNested {H : Type} : DataW H := .iface "*errors.errorString" (.ptr (.agg [.lit (.string [97, 32, 98, 108, 111, 99, 107, 32, 110, 101, 115, 116, 101, 100, 32, 116, 111, 111, 32, 100, 101, 101, 112])]))

/-- 'tappetlaw05.VerifyChecks': WHATEVER THE INPUT: true; the input reads as it did. -/
def verifyChecksSpec : ChangeSpec := { name := "verifyChecks", fn := fun _ => fun
  | [d1, d2, d3, d4] => { results := [.lit (.bool true)], args := [d1, d2, d3, d4] }
  | _ => none }
def verifyChecksRow : OpenClaim := { program := "ytjghgambieflaaagreatdoor", sum := "18abb14d9a63c0b8893e56c390d408198b72ed3d7cbce402b8ba4813ee11c5c2", func := "tappet/tappetlaw05.VerifyChecks", spec := "verifyChecks", inPlace := ["internal/reflectlite.TypeOf", "internal/reflectlite.ValueOf", "(internal/reflectlite.Value).Type", "(internal/reflectlite.Value).IsNil", "(internal/reflectlite.Value).Elem", "(internal/reflectlite.Value).Set"], unfollowed := true, recurses := true, named := ["tappet/verify.errMethod", "tappet/code.errField", "tappet/verify.errOperand", "tappet/verify.errFew", "tappet/verify.errMany", "tappet/verify.errDepths", "tappet/verify.errBeyond", "math/bits.deBruijn32tab", "errors.errorType", "internal/strconv.uint64pow10", "math/bits.deBruijn64tab", "tappet/verify.errPrim", "tappet/verify.errField", "tappet/verify.errInside", "tappet/verify.errOuter", "tappet/verify.errOutside", "tappet/verify.errNested"], apart := false, laid := [("math/bits.deBruijn32tab", laid_math_bits_deBruijn32tab), ("math/bits.deBruijn64tab", laid_math_bits_deBruijn64tab), ("internal/strconv.uint64pow10", laid_internal_strconv_uint64pow10), ("errors.errorType", laid_errors_errorType), ("tappet/code.errField", laid_tappet_code_errField), ("tappet/verify.errMethod", laid_tappet_verify_errMethod), ("tappet/verify.errPrim", laid_tappet_verify_errPrim), ("tappet/verify.errOperand", laid_tappet_verify_errOperand), ("tappet/verify.errFew", laid_tappet_verify_errFew), ("tappet/verify.errMany", laid_tappet_verify_errMany), ("tappet/verify.errDepths", laid_tappet_verify_errDepths), ("tappet/verify.errBeyond", laid_tappet_verify_errBeyond), ("tappet/verify.errField", laid_tappet_verify_errField), ("tappet/verify.errInside", laid_tappet_verify_errInside), ("tappet/verify.errOutside", laid_tappet_verify_errOutside), ("tappet/verify.errOuter", laid_tappet_verify_errOuter), ("tappet/verify.errNested", laid_tappet_verify_errNested)] }
def VerifyChecksSaid : Prop := verifyChecksRow.holds Tryz.pinned (OpenSpec.ofChange verifyChecksSpec)

/-- ITS FALSE NEIGHBOUR: 'it returns false'. Refute it at one input. -/
def verifyChecksWrong : ChangeSpec := { name := "verifyChecks", fn := fun _ => fun
  | [d1, d2, d3, d4] => { results := [.lit (.bool false)], args := [d1, d2, d3, d4] }
  | _ => none }
def VerifyChecksWrongFalsely : Prop := verifyChecksRow.holds Tryz.pinned (OpenSpec.ofChange verifyChecksWrong)

/-- 'tappetlaw05.VerifyFields': WHATEVER THE INPUT: true; the input reads as it did. -/
def verifyFieldsSpec : ChangeSpec := { name := "verifyFields", fn := fun _ => fun
  | [d1, d2, d3, d4, d5] => { results := [.lit (.bool true)], args := [d1, d2, d3, d4, d5] }
  | _ => none }
def verifyFieldsRow : OpenClaim := { program := "ytjghgambieflaaagreatdoor", sum := "18abb14d9a63c0b8893e56c390d408198b72ed3d7cbce402b8ba4813ee11c5c2", func := "tappet/tappetlaw05.VerifyFields", spec := "verifyFields", inPlace := ["internal/reflectlite.TypeOf", "internal/reflectlite.ValueOf", "(internal/reflectlite.Value).Type", "(internal/reflectlite.Value).IsNil", "(internal/reflectlite.Value).Elem", "(internal/reflectlite.Value).Set"], unfollowed := true, recurses := true, named := ["tappet/verify.errMethod", "tappet/code.errField", "tappet/verify.errOperand", "tappet/verify.errFew", "tappet/verify.errMany", "tappet/verify.errDepths", "tappet/verify.errBeyond", "math/bits.deBruijn32tab", "errors.errorType", "internal/strconv.uint64pow10", "math/bits.deBruijn64tab", "tappet/verify.errPrim", "tappet/verify.errField", "tappet/verify.errInside", "tappet/verify.errOuter", "tappet/verify.errOutside", "tappet/verify.errNested"], apart := false, laid := [("math/bits.deBruijn32tab", laid_math_bits_deBruijn32tab), ("math/bits.deBruijn64tab", laid_math_bits_deBruijn64tab), ("internal/strconv.uint64pow10", laid_internal_strconv_uint64pow10), ("errors.errorType", laid_errors_errorType), ("tappet/code.errField", laid_tappet_code_errField), ("tappet/verify.errMethod", laid_tappet_verify_errMethod), ("tappet/verify.errPrim", laid_tappet_verify_errPrim), ("tappet/verify.errOperand", laid_tappet_verify_errOperand), ("tappet/verify.errFew", laid_tappet_verify_errFew), ("tappet/verify.errMany", laid_tappet_verify_errMany), ("tappet/verify.errDepths", laid_tappet_verify_errDepths), ("tappet/verify.errBeyond", laid_tappet_verify_errBeyond), ("tappet/verify.errField", laid_tappet_verify_errField), ("tappet/verify.errInside", laid_tappet_verify_errInside), ("tappet/verify.errOutside", laid_tappet_verify_errOutside), ("tappet/verify.errOuter", laid_tappet_verify_errOuter), ("tappet/verify.errNested", laid_tappet_verify_errNested)] }
def VerifyFieldsSaid : Prop := verifyFieldsRow.holds Tryz.pinned (OpenSpec.ofChange verifyFieldsSpec)

/-- ITS FALSE NEIGHBOUR: 'it returns false'. Refute it at one input. -/
def verifyFieldsWrong : ChangeSpec := { name := "verifyFields", fn := fun _ => fun
  | [d1, d2, d3, d4, d5] => { results := [.lit (.bool false)], args := [d1, d2, d3, d4, d5] }
  | _ => none }
def VerifyFieldsWrongFalsely : Prop := verifyFieldsRow.holds Tryz.pinned (OpenSpec.ofChange verifyFieldsWrong)

/- THE SECOND FORM. 'bulk': how many values and letters a reading holds, each counted each time it is reached (what is shared counts as often as it is met; a slice's spare places count too). A statement '..UptoSaid' is the law's where the arguments, and the package variables that the reading takes, are together of bulk at most 1048576: NARROWER than '..Said'. Prove '..Said' where nothing that the law and all that it calls make is longer than what came in: it says more and counts as full. Else prove '..UptoSaid'. A law counts once. -/
mutual
def uptoBulk {H : Type} : DataW H → Nat
  | .lit (.string bytes) => bytes.length + 1
  | .lit _ => 1
  | .nil => 1
  | .ptr d => uptoBulk d + 1
  | .slice elems spare => uptoBulkAll elems + uptoBulkAll spare + 1
  | .agg parts => uptoBulkAll parts + 1
  | .iface _ d => uptoBulk d + 1
  | .map entries => uptoBulkEntries entries + 1
  | .held _ => 1
def uptoBulkAll {H : Type} : List (DataW H) → Nat
  | [] => 0
  | d :: r => uptoBulk d + uptoBulkAll r
def uptoBulkEntries {H : Type} : List (Lit × DataW H) → Nat
  | [] => 0
  | x :: r => uptoBulkEntry x + uptoBulkEntries r
def uptoBulkEntry {H : Type} : Lit × DataW H → Nat
  | (.string bytes, d) => bytes.length + uptoBulk d + 1
  | (_, d) => uptoBulk d + 1
 end
def uptoSmall : (H : Type) → List (DataW H) → Bool := fun _ ds => decide (uptoBulkAll ds ≤ 1048576)
def OpenSpec.upto (s : _root_.Go.ChangeSpec) : _root_.Go.OpenSpec := { _root_.Go.OpenSpec.ofChange s with cond := some uptoSmall }

/-- 'tappetlaw05.VerifyChecks', WHERE WHAT IT READS IS OF BULK AT MOST 1048576: true; the input reads as it did. -/
def verifyChecksUptoRow : OpenClaim := { program := "ytjghgambieflaaagreatdoor", sum := "18abb14d9a63c0b8893e56c390d408198b72ed3d7cbce402b8ba4813ee11c5c2", func := "tappet/tappetlaw05.VerifyChecks", spec := "verifyChecks", inPlace := ["internal/reflectlite.TypeOf", "internal/reflectlite.ValueOf", "(internal/reflectlite.Value).Type", "(internal/reflectlite.Value).IsNil", "(internal/reflectlite.Value).Elem", "(internal/reflectlite.Value).Set"], unfollowed := true, recurses := true, named := ["tappet/verify.errMethod", "tappet/code.errField", "tappet/verify.errOperand", "tappet/verify.errFew", "tappet/verify.errMany", "tappet/verify.errDepths", "tappet/verify.errBeyond", "math/bits.deBruijn32tab", "errors.errorType", "internal/strconv.uint64pow10", "math/bits.deBruijn64tab", "tappet/verify.errPrim", "tappet/verify.errField", "tappet/verify.errInside", "tappet/verify.errOuter", "tappet/verify.errOutside", "tappet/verify.errNested"], apart := false, laid := [("math/bits.deBruijn32tab", laid_math_bits_deBruijn32tab), ("math/bits.deBruijn64tab", laid_math_bits_deBruijn64tab), ("internal/strconv.uint64pow10", laid_internal_strconv_uint64pow10), ("errors.errorType", laid_errors_errorType), ("tappet/code.errField", laid_tappet_code_errField), ("tappet/verify.errMethod", laid_tappet_verify_errMethod), ("tappet/verify.errPrim", laid_tappet_verify_errPrim), ("tappet/verify.errOperand", laid_tappet_verify_errOperand), ("tappet/verify.errFew", laid_tappet_verify_errFew), ("tappet/verify.errMany", laid_tappet_verify_errMany), ("tappet/verify.errDepths", laid_tappet_verify_errDepths), ("tappet/verify.errBeyond", laid_tappet_verify_errBeyond), ("tappet/verify.errField", laid_tappet_verify_errField), ("tappet/verify.errInside", laid_tappet_verify_errInside), ("tappet/verify.errOutside", laid_tappet_verify_errOutside), ("tappet/verify.errOuter", laid_tappet_verify_errOuter), ("tappet/verify.errNested", laid_tappet_verify_errNested)], narrowed := true }
def VerifyChecksUptoSaid : Prop := verifyChecksUptoRow.holds Tryz.pinned (OpenSpec.upto verifyChecksSpec)

/-- 'tappetlaw05.VerifyFields', WHERE WHAT IT READS IS OF BULK AT MOST 1048576: true; the input reads as it did. -/
def verifyFieldsUptoRow : OpenClaim := { program := "ytjghgambieflaaagreatdoor", sum := "18abb14d9a63c0b8893e56c390d408198b72ed3d7cbce402b8ba4813ee11c5c2", func := "tappet/tappetlaw05.VerifyFields", spec := "verifyFields", inPlace := ["internal/reflectlite.TypeOf", "internal/reflectlite.ValueOf", "(internal/reflectlite.Value).Type", "(internal/reflectlite.Value).IsNil", "(internal/reflectlite.Value).Elem", "(internal/reflectlite.Value).Set"], unfollowed := true, recurses := true, named := ["tappet/verify.errMethod", "tappet/code.errField", "tappet/verify.errOperand", "tappet/verify.errFew", "tappet/verify.errMany", "tappet/verify.errDepths", "tappet/verify.errBeyond", "math/bits.deBruijn32tab", "errors.errorType", "internal/strconv.uint64pow10", "math/bits.deBruijn64tab", "tappet/verify.errPrim", "tappet/verify.errField", "tappet/verify.errInside", "tappet/verify.errOuter", "tappet/verify.errOutside", "tappet/verify.errNested"], apart := false, laid := [("math/bits.deBruijn32tab", laid_math_bits_deBruijn32tab), ("math/bits.deBruijn64tab", laid_math_bits_deBruijn64tab), ("internal/strconv.uint64pow10", laid_internal_strconv_uint64pow10), ("errors.errorType", laid_errors_errorType), ("tappet/code.errField", laid_tappet_code_errField), ("tappet/verify.errMethod", laid_tappet_verify_errMethod), ("tappet/verify.errPrim", laid_tappet_verify_errPrim), ("tappet/verify.errOperand", laid_tappet_verify_errOperand), ("tappet/verify.errFew", laid_tappet_verify_errFew), ("tappet/verify.errMany", laid_tappet_verify_errMany), ("tappet/verify.errDepths", laid_tappet_verify_errDepths), ("tappet/verify.errBeyond", laid_tappet_verify_errBeyond), ("tappet/verify.errField", laid_tappet_verify_errField), ("tappet/verify.errInside", laid_tappet_verify_errInside), ("tappet/verify.errOutside", laid_tappet_verify_errOutside), ("tappet/verify.errOuter", laid_tappet_verify_errOuter), ("tappet/verify.errNested", laid_tappet_verify_errNested)], narrowed := true }
def VerifyFieldsUptoSaid : Prop := verifyFieldsUptoRow.holds Tryz.pinned (OpenSpec.upto verifyFieldsSpec)

end Rows
end Go.Proofs.YtjghgambieflaaaGreatDoor
