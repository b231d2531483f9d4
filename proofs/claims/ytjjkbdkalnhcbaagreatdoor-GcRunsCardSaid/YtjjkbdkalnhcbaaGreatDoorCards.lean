/-
  DERIVED. GIVEN WITH THE SEED: THE CARDS: each row of YtjjkbdkalnhcbaaGreatDoorRows.lean that lists a variable, with what it lists TIED to the program's text (the seventh form; the later family's looks); each row that meets fmt, with fmt's text TOLD by the authors' own Lean function (tested against real Go, not proved from fmt's source: count such statements apart). THE CARD IS WHAT COUNTS. Prove the row's statement (the work); the ties are given (YtjjkbdkalnhcbaaGreatDoorTie.lean); close each card by the builder's one call (the guide's Derived/Test/ToyasCard.lean, 'card_holds'). Laid BY PROGRAM, IN A SANDBOX (cutbox-door.mjs). By AI agents, Wed Nov 11 2026. No macro, syntax, notation, axiom, sorry.
-/
import Derived.Test.YtjjkbdkalnhcbaaGreatDoorRows
import GoSem.ClaimSeven
namespace Go.Proofs.YtjjkbdkalnhcbaaGreatDoor
namespace Rows

/-- THE TIED CARD OF 'tappetlaw03.GcRuns'. -/
def gcRunsCard : Claim7 := { stood := { row := gcRunsRow, standIns := [], harness := (true, "a8f97a95ae23557be8132fbbd97fb52ed1ebde7502d6266da30a595f5805be41"), looks := true }, kinds := [], alts := [], laidByText := true, laidKinds := [.data, .data, .data, .handle], laidTests := true, laidLooks := .later }
def GcRunsCardSaid : Prop := Claim7.holds Tryz.pinned (.plain (OpenSpec.ofChange gcRunsSpec)) gcRunsCard

/-- THE SECOND FORM's CARD OF 'tappetlaw03.GcRuns'. -/
def gcRunsUptoCard : Claim7 := { stood := { row := gcRunsUptoRow, standIns := [], harness := (true, "a8f97a95ae23557be8132fbbd97fb52ed1ebde7502d6266da30a595f5805be41"), looks := true }, kinds := [], alts := [], laidByText := true, laidKinds := [.data, .data, .data, .handle], laidTests := true, laidLooks := .later }
def GcRunsUptoCardSaid : Prop := Claim7.holds Tryz.pinned (.plain (OpenSpec.upto gcRunsSpec)) gcRunsUptoCard
end Rows
end Go.Proofs.YtjjkbdkalnhcbaaGreatDoor
