/-
  DERIVED. GIVEN WITH THE SEED: THE CARDS: each row of YtmifnlalocoeiaaGreatDoorRows.lean that lists a variable, with what it lists TIED to the program's text (the seventh form; the later family's looks); each row that meets fmt, with fmt's text TOLD by the authors' own Lean function (tested against real Go, not proved from fmt's source: count such statements apart). THE CARD IS WHAT COUNTS. Prove the row's statement (the work); the ties are given (YtmifnlalocoeiaaGreatDoorTie.lean); close each card by the builder's one call (the guide's Derived/Test/ToyasCard.lean, 'card_holds'). Laid BY PROGRAM, IN A SANDBOX (cutbox-door.mjs). By AI agents, Wed Nov 11 2026. No macro, syntax, notation, axiom, sorry.
-/
import Derived.Test.YtmifnlalocoeiaaGreatDoorRows
import GoSem.ClaimSeven
namespace Go.Proofs.YtmifnlalocoeiaaGreatDoor
namespace Rows

/-- THE TIED CARD OF 'tappetlaw09.PrimMinus'. -/
def primMinusCard : Claim7 := { stood := { row := primMinusRow, standIns := [], harness := (true, "404aa6350c30846d9fc817ab5f7257eb909c0c56d4cd342cfbba7df140725c97"), looks := true }, kinds := [], alts := [], laidByText := true, laidKinds := [.data, .data, .data, .handle], laidTests := true, laidLooks := .later }
def PrimMinusCardSaid : Prop := Claim7.holds Tryz.pinned (.plain (OpenSpec.ofChange primMinusSpec)) primMinusCard

/-- THE SECOND FORM's CARD OF 'tappetlaw09.PrimMinus'. -/
def primMinusUptoCard : Claim7 := { stood := { row := primMinusUptoRow, standIns := [], harness := (true, "404aa6350c30846d9fc817ab5f7257eb909c0c56d4cd342cfbba7df140725c97"), looks := true }, kinds := [], alts := [], laidByText := true, laidKinds := [.data, .data, .data, .handle], laidTests := true, laidLooks := .later }
def PrimMinusUptoCardSaid : Prop := Claim7.holds Tryz.pinned (.plain (OpenSpec.upto primMinusSpec)) primMinusUptoCard
end Rows
end Go.Proofs.YtmifnlalocoeiaaGreatDoor
