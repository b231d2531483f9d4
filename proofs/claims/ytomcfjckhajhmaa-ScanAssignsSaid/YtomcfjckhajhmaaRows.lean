/-
  No cell of these rows narrows 'for every input' (looked for: loops, veiled, ifaces, maps, wideKeys, modest, calm, conditions, laid).
  DERIVED. THE GIVEN ROWS OF THIS SEAT. 6 by the template 'for every input the law returns true; each argument reads behind the call as it read before'; 0 by the template 'total and deterministic' (their statements: YtomcfjckhajhmaaTotals.lean).
  GIVEN WITH THE SEED: the statements are not yours to turn. If you find one false, say at which input.
  Laid BY PROGRAM, IN A SANDBOX (cutbox-rows.mjs): the forced cells as the released guide's own fill.sh prints them over the translation 365eeaa42fb799d4… (all of the seat's roots in one cut). By AI agents, Wed Nov 11 2026. No macro, syntax, notation, axiom, sorry.
-/
import Derived.Test.YtomcfjckhajhmaaChecked
import GoSem.Claim
import GoSem.ClaimJoined
import GoSem.ClaimMapViews
import Derived.JoinedTies
import Derived.KernelRfl
namespace Go.Proofs.Ytomcfjckhajhmaa
/- THE CELL 'sum', in the pinned program and in every row, IS THE sha256 OF THE DUMP (.gsa) THAT YtomcfjckhajhmaaProg.lean LOADS. Nothing in Lean hashes anything: it is a label: what it is worth is what the hold of that sum in a sandbox is worth. -/
noncomputable def Try.pinned : Pinned := { name := "ytomcfjckhajhmaa", sum := "365eeaa42fb799d491d08524471b21734e6f8c4962a02557e2134683607b5188", checked := Try.checked }
namespace Rows
def none {H : Type} : Left H := { results := [], args := [] }

/-- 'tappetlaw14.ScanAssigns': WHATEVER THE INPUT: true; the input reads as it did. -/
def scanAssignsSpec : ChangeSpec := { name := "scanAssigns", fn := fun _ => fun
  | [d1, d2] => { results := [.lit (.bool true)], args := [d1, d2] }
  | _ => none }
def scanAssignsRow : OpenClaim := { program := "ytomcfjckhajhmaa", sum := "365eeaa42fb799d491d08524471b21734e6f8c4962a02557e2134683607b5188", func := "tappet/tappetlaw14.ScanAssigns", spec := "scanAssigns", unfollowed := true, recurses := true, apart := false }
def ScanAssignsSaid : Prop := scanAssignsRow.holds Try.pinned (OpenSpec.ofChange scanAssignsSpec)

/-- ITS FALSE NEIGHBOUR: 'it returns false'. Refute it at one input. -/
def scanAssignsWrong : ChangeSpec := { name := "scanAssigns", fn := fun _ => fun
  | [d1, d2] => { results := [.lit (.bool false)], args := [d1, d2] }
  | _ => none }
def ScanAssignsWrongFalsely : Prop := scanAssignsRow.holds Try.pinned (OpenSpec.ofChange scanAssignsWrong)

/-- 'tappetlaw14.ScanApart': WHATEVER THE INPUT: true; the input reads as it did. -/
def scanApartSpec : ChangeSpec := { name := "scanApart", fn := fun _ => fun
  | [d1, d2] => { results := [.lit (.bool true)], args := [d1, d2] }
  | _ => none }
def scanApartRow : OpenClaim := { program := "ytomcfjckhajhmaa", sum := "365eeaa42fb799d491d08524471b21734e6f8c4962a02557e2134683607b5188", func := "tappet/tappetlaw14.ScanApart", spec := "scanApart", unfollowed := true, recurses := true, apart := false }
def ScanApartSaid : Prop := scanApartRow.holds Try.pinned (OpenSpec.ofChange scanApartSpec)

/-- ITS FALSE NEIGHBOUR: 'it returns false'. Refute it at one input. -/
def scanApartWrong : ChangeSpec := { name := "scanApart", fn := fun _ => fun
  | [d1, d2] => { results := [.lit (.bool false)], args := [d1, d2] }
  | _ => none }
def ScanApartWrongFalsely : Prop := scanApartRow.holds Try.pinned (OpenSpec.ofChange scanApartWrong)

/-- 'tappetlaw14.ScanEnough': WHATEVER THE INPUT: true; the input reads as it did. -/
def scanEnoughSpec : ChangeSpec := { name := "scanEnough", fn := fun _ => fun
  | [d1, d2] => { results := [.lit (.bool true)], args := [d1, d2] }
  | _ => none }
def scanEnoughRow : OpenClaim := { program := "ytomcfjckhajhmaa", sum := "365eeaa42fb799d491d08524471b21734e6f8c4962a02557e2134683607b5188", func := "tappet/tappetlaw14.ScanEnough", spec := "scanEnough", unfollowed := true, recurses := true, apart := false }
def ScanEnoughSaid : Prop := scanEnoughRow.holds Try.pinned (OpenSpec.ofChange scanEnoughSpec)

/-- ITS FALSE NEIGHBOUR: 'it returns false'. Refute it at one input. -/
def scanEnoughWrong : ChangeSpec := { name := "scanEnough", fn := fun _ => fun
  | [d1, d2] => { results := [.lit (.bool false)], args := [d1, d2] }
  | _ => none }
def ScanEnoughWrongFalsely : Prop := scanEnoughRow.holds Try.pinned (OpenSpec.ofChange scanEnoughWrong)

/-- 'tappetlaw14.ScanOrder': WHATEVER THE INPUT: true; the input reads as it did. -/
def scanOrderSpec : ChangeSpec := { name := "scanOrder", fn := fun _ => fun
  | [d1, d2, d3] => { results := [.lit (.bool true)], args := [d1, d2, d3] }
  | _ => none }
def scanOrderRow : OpenClaim := { program := "ytomcfjckhajhmaa", sum := "365eeaa42fb799d491d08524471b21734e6f8c4962a02557e2134683607b5188", func := "tappet/tappetlaw14.ScanOrder", spec := "scanOrder", unfollowed := true, recurses := true, apart := false }
def ScanOrderSaid : Prop := scanOrderRow.holds Try.pinned (OpenSpec.ofChange scanOrderSpec)

/-- ITS FALSE NEIGHBOUR: 'it returns false'. Refute it at one input. -/
def scanOrderWrong : ChangeSpec := { name := "scanOrder", fn := fun _ => fun
  | [d1, d2, d3] => { results := [.lit (.bool false)], args := [d1, d2, d3] }
  | _ => none }
def ScanOrderWrongFalsely : Prop := scanOrderRow.holds Try.pinned (OpenSpec.ofChange scanOrderWrong)

/-- 'tappetlaw14.ScanFirst': WHATEVER THE INPUT: true; the input reads as it did. -/
def scanFirstSpec : ChangeSpec := { name := "scanFirst", fn := fun _ => fun
  | [d1, d2] => { results := [.lit (.bool true)], args := [d1, d2] }
  | _ => none }
def scanFirstRow : OpenClaim := { program := "ytomcfjckhajhmaa", sum := "365eeaa42fb799d491d08524471b21734e6f8c4962a02557e2134683607b5188", func := "tappet/tappetlaw14.ScanFirst", spec := "scanFirst", unfollowed := true, recurses := true, apart := false }
def ScanFirstSaid : Prop := scanFirstRow.holds Try.pinned (OpenSpec.ofChange scanFirstSpec)

/-- ITS FALSE NEIGHBOUR: 'it returns false'. Refute it at one input. -/
def scanFirstWrong : ChangeSpec := { name := "scanFirst", fn := fun _ => fun
  | [d1, d2] => { results := [.lit (.bool false)], args := [d1, d2] }
  | _ => none }
def ScanFirstWrongFalsely : Prop := scanFirstRow.holds Try.pinned (OpenSpec.ofChange scanFirstWrong)

/-- 'tappetlaw14.ScanRegs': WHATEVER THE INPUT: true; the input reads as it did. -/
def scanRegsSpec : ChangeSpec := { name := "scanRegs", fn := fun _ => fun
  | [d1, d2] => { results := [.lit (.bool true)], args := [d1, d2] }
  | _ => none }
def scanRegsRow : OpenClaim := { program := "ytomcfjckhajhmaa", sum := "365eeaa42fb799d491d08524471b21734e6f8c4962a02557e2134683607b5188", func := "tappet/tappetlaw14.ScanRegs", spec := "scanRegs", unfollowed := true, recurses := true, apart := false }
def ScanRegsSaid : Prop := scanRegsRow.holds Try.pinned (OpenSpec.ofChange scanRegsSpec)

/-- ITS FALSE NEIGHBOUR: 'it returns false'. Refute it at one input. -/
def scanRegsWrong : ChangeSpec := { name := "scanRegs", fn := fun _ => fun
  | [d1, d2] => { results := [.lit (.bool false)], args := [d1, d2] }
  | _ => none }
def ScanRegsWrongFalsely : Prop := scanRegsRow.holds Try.pinned (OpenSpec.ofChange scanRegsWrong)

/- THE SECOND FORM. 'bulk': how many values and letters a reading holds, each counted each time it is reached (what is shared counts as often as it is met; a slice's spare places count too). A statement '..UptoSaid' is the law's where the arguments, and the package variables that the reading takes, are together of bulk at most 1048576: NARROWER than '..Said'. Prove '..Said' where nothing that the law and all that it calls make is longer than what came in: it says more and counts as full. Else prove '..UptoSaid'. A law counts once. -/
mutual
def uptoBulk {H : Type} : DataW H → Nat
  | .lit (.string bytes) => bytes.length + 1
  | .lit _ => 1
  | .nil => 1
  | .ptr d => uptoBulk d + 1
  | .slice elems spare => uptoBulkAll elems + uptoBulkAll spare + 1
  | .agg parts => uptoBulkAll parts + 1
  | .iface _ d => uptoBulk d + 1
  | .map entries => uptoBulkEntries entries + 1
  | .held _ => 1
def uptoBulkAll {H : Type} : List (DataW H) → Nat
  | [] => 0
  | d :: r => uptoBulk d + uptoBulkAll r
def uptoBulkEntries {H : Type} : List (Lit × DataW H) → Nat
  | [] => 0
  | x :: r => uptoBulkEntry x + uptoBulkEntries r
def uptoBulkEntry {H : Type} : Lit × DataW H → Nat
  | (.string bytes, d) => bytes.length + uptoBulk d + 1
  | (_, d) => uptoBulk d + 1
 end
def uptoSmall : (H : Type) → List (DataW H) → Bool := fun _ ds => decide (uptoBulkAll ds ≤ 1048576)
def OpenSpec.upto (s : _root_.Go.ChangeSpec) : _root_.Go.OpenSpec := { _root_.Go.OpenSpec.ofChange s with cond := some uptoSmall }

/-- 'tappetlaw14.ScanAssigns', WHERE WHAT IT READS IS OF BULK AT MOST 1048576: true; the input reads as it did. -/
def scanAssignsUptoRow : OpenClaim := { program := "ytomcfjckhajhmaa", sum := "365eeaa42fb799d491d08524471b21734e6f8c4962a02557e2134683607b5188", func := "tappet/tappetlaw14.ScanAssigns", spec := "scanAssigns", unfollowed := true, recurses := true, apart := false, narrowed := true }
def ScanAssignsUptoSaid : Prop := scanAssignsUptoRow.holds Try.pinned (OpenSpec.upto scanAssignsSpec)

/-- 'tappetlaw14.ScanApart', WHERE WHAT IT READS IS OF BULK AT MOST 1048576: true; the input reads as it did. -/
def scanApartUptoRow : OpenClaim := { program := "ytomcfjckhajhmaa", sum := "365eeaa42fb799d491d08524471b21734e6f8c4962a02557e2134683607b5188", func := "tappet/tappetlaw14.ScanApart", spec := "scanApart", unfollowed := true, recurses := true, apart := false, narrowed := true }
def ScanApartUptoSaid : Prop := scanApartUptoRow.holds Try.pinned (OpenSpec.upto scanApartSpec)

/-- 'tappetlaw14.ScanEnough', WHERE WHAT IT READS IS OF BULK AT MOST 1048576: true; the input reads as it did. -/
def scanEnoughUptoRow : OpenClaim := { program := "ytomcfjckhajhmaa", sum := "365eeaa42fb799d491d08524471b21734e6f8c4962a02557e2134683607b5188", func := "tappet/tappetlaw14.ScanEnough", spec := "scanEnough", unfollowed := true, recurses := true, apart := false, narrowed := true }
def ScanEnoughUptoSaid : Prop := scanEnoughUptoRow.holds Try.pinned (OpenSpec.upto scanEnoughSpec)

/-- 'tappetlaw14.ScanOrder', WHERE WHAT IT READS IS OF BULK AT MOST 1048576: true; the input reads as it did. -/
def scanOrderUptoRow : OpenClaim := { program := "ytomcfjckhajhmaa", sum := "365eeaa42fb799d491d08524471b21734e6f8c4962a02557e2134683607b5188", func := "tappet/tappetlaw14.ScanOrder", spec := "scanOrder", unfollowed := true, recurses := true, apart := false, narrowed := true }
def ScanOrderUptoSaid : Prop := scanOrderUptoRow.holds Try.pinned (OpenSpec.upto scanOrderSpec)

/-- 'tappetlaw14.ScanFirst', WHERE WHAT IT READS IS OF BULK AT MOST 1048576: true; the input reads as it did. -/
def scanFirstUptoRow : OpenClaim := { program := "ytomcfjckhajhmaa", sum := "365eeaa42fb799d491d08524471b21734e6f8c4962a02557e2134683607b5188", func := "tappet/tappetlaw14.ScanFirst", spec := "scanFirst", unfollowed := true, recurses := true, apart := false, narrowed := true }
def ScanFirstUptoSaid : Prop := scanFirstUptoRow.holds Try.pinned (OpenSpec.upto scanFirstSpec)

/-- 'tappetlaw14.ScanRegs', WHERE WHAT IT READS IS OF BULK AT MOST 1048576: true; the input reads as it did. -/
def scanRegsUptoRow : OpenClaim := { program := "ytomcfjckhajhmaa", sum := "365eeaa42fb799d491d08524471b21734e6f8c4962a02557e2134683607b5188", func := "tappet/tappetlaw14.ScanRegs", spec := "scanRegs", unfollowed := true, recurses := true, apart := false, narrowed := true }
def ScanRegsUptoSaid : Prop := scanRegsUptoRow.holds Try.pinned (OpenSpec.upto scanRegsSpec)

end Rows
end Go.Proofs.Ytomcfjckhajhmaa
