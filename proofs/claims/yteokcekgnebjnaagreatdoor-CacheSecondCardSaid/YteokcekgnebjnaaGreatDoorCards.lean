/-
  DERIVED. GIVEN WITH THE SEED: THE CARDS: each row of YteokcekgnebjnaaGreatDoorRows.lean that lists a variable, with what it lists TIED to the program's text (the seventh form; the later family's looks); each row that meets fmt, with fmt's text TOLD by the authors' own Lean function (tested against real Go, not proved from fmt's source: count such statements apart). THE CARD IS WHAT COUNTS. Prove the row's statement (the work); the ties are given (YteokcekgnebjnaaGreatDoorTie.lean); close each card by the builder's one call (the guide's Derived/Test/ToyasCard.lean, 'card_holds'). Laid BY PROGRAM, IN A SANDBOX (cutbox-door.mjs). By AI agents, Wed Nov 11 2026. No macro, syntax, notation, axiom, sorry.
-/
import Derived.Test.YteokcekgnebjnaaGreatDoorRows
import GoSem.ClaimSeven
namespace Go.Proofs.YteokcekgnebjnaaGreatDoor
namespace Rows

/-- THE TIED CARD OF 'tappetlaw08.CacheSecond'. -/
def cacheSecondCard : Claim7 := { stood := { row := cacheSecondRow, standIns := [], harness := (true, "6445b259fdbc6d802876057a51840faf85875364e4db10f724efb105ba8ca864"), looks := true }, kinds := [], alts := [], laidByText := true, laidKinds := [.data, .data, .data, .handle], laidTests := true, laidLooks := .later }
def CacheSecondCardSaid : Prop := Claim7.holds Tryz.pinned (.plain (OpenSpec.ofChange cacheSecondSpec)) cacheSecondCard

/-- THE SECOND FORM's CARD OF 'tappetlaw08.CacheSecond'. -/
def cacheSecondUptoCard : Claim7 := { stood := { row := cacheSecondUptoRow, standIns := [], harness := (true, "6445b259fdbc6d802876057a51840faf85875364e4db10f724efb105ba8ca864"), looks := true }, kinds := [], alts := [], laidByText := true, laidKinds := [.data, .data, .data, .handle], laidTests := true, laidLooks := .later }
def CacheSecondUptoCardSaid : Prop := Claim7.holds Tryz.pinned (.plain (OpenSpec.upto cacheSecondSpec)) cacheSecondUptoCard
end Rows
end Go.Proofs.YteokcekgnebjnaaGreatDoor
