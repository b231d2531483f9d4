/-
  DERIVED. GIVEN WITH THE SEED: THE CARDS: each row of YtcbplibbfoajgaaGreatDoorRows.lean that lists a variable, with what it lists TIED to the program's text (the seventh form; the later family's looks); each row that meets fmt, with fmt's text TOLD by the authors' own Lean function (tested against real Go, not proved from fmt's source: count such statements apart). THE CARD IS WHAT COUNTS. Prove the row's statement (the work); the ties are given (YtcbplibbfoajgaaGreatDoorTie.lean); close each card by the builder's one call (the guide's Derived/Test/ToyasCard.lean, 'card_holds'). Laid BY PROGRAM, IN A SANDBOX (cutbox-door.mjs). By AI agents, Wed Nov 11 2026. No macro, syntax, notation, axiom, sorry.
-/
import Derived.Test.YtcbplibbfoajgaaGreatDoorRows
import GoSem.ClaimSeven
namespace Go.Proofs.YtcbplibbfoajgaaGreatDoor
namespace Rows

/-- THE TIED CARD OF 'tappetlaw12.GenChecks'. -/
def genChecksCard : Claim7 := { stood := { row := genChecksRow, standIns := [], harness := (true, "c737ef4e6130d7162a191dd9ef29f3c6a5dbcc33748b8d367b596e1466e8f23a"), looks := true }, kinds := [], alts := [], laidByText := true, laidKinds := [.data, .handle, .sentinel, .sentinel, .sentinel, .sentinel, .sentinel, .sentinel, .sentinel], laidTests := true, laidLooks := .later }
def GenChecksCardSaid : Prop := Claim7.holds Tryz.pinned (.plain (OpenSpec.ofChange genChecksSpec)) genChecksCard

/-- THE TIED CARD OF 'tappetlaw12.GenState'. -/
def genStateCard : Claim7 := { stood := { row := genStateRow, standIns := [], harness := (true, "c737ef4e6130d7162a191dd9ef29f3c6a5dbcc33748b8d367b596e1466e8f23a"), looks := true }, kinds := [], alts := [], laidByText := true, laidKinds := [.data, .handle, .sentinel, .sentinel, .sentinel, .sentinel, .sentinel, .sentinel, .sentinel], laidTests := true, laidLooks := .later }
def GenStateCardSaid : Prop := Claim7.holds Tryz.pinned (.plain (OpenSpec.ofChange genStateSpec)) genStateCard

/-- THE SECOND FORM's CARD OF 'tappetlaw12.GenChecks'. -/
def genChecksUptoCard : Claim7 := { stood := { row := genChecksUptoRow, standIns := [], harness := (true, "c737ef4e6130d7162a191dd9ef29f3c6a5dbcc33748b8d367b596e1466e8f23a"), looks := true }, kinds := [], alts := [], laidByText := true, laidKinds := [.data, .handle, .sentinel, .sentinel, .sentinel, .sentinel, .sentinel, .sentinel, .sentinel], laidTests := true, laidLooks := .later }
def GenChecksUptoCardSaid : Prop := Claim7.holds Tryz.pinned (.plain (OpenSpec.upto genChecksSpec)) genChecksUptoCard

/-- THE SECOND FORM's CARD OF 'tappetlaw12.GenState'. -/
def genStateUptoCard : Claim7 := { stood := { row := genStateUptoRow, standIns := [], harness := (true, "c737ef4e6130d7162a191dd9ef29f3c6a5dbcc33748b8d367b596e1466e8f23a"), looks := true }, kinds := [], alts := [], laidByText := true, laidKinds := [.data, .handle, .sentinel, .sentinel, .sentinel, .sentinel, .sentinel, .sentinel, .sentinel], laidTests := true, laidLooks := .later }
def GenStateUptoCardSaid : Prop := Claim7.holds Tryz.pinned (.plain (OpenSpec.upto genStateSpec)) genStateUptoCard
end Rows
end Go.Proofs.YtcbplibbfoajgaaGreatDoor
