/-
  DERIVED. GIVEN WITH THE SEED: THE CARDS: each row of YtomcfjckhajhmabGreatDoorRows.lean that lists a variable, with what it lists TIED to the program's text (the seventh form; the later family's looks); each row that meets fmt, with fmt's text TOLD by the authors' own Lean function (tested against real Go, not proved from fmt's source: count such statements apart). THE CARD IS WHAT COUNTS. Prove the row's statement (the work); the ties are given (YtomcfjckhajhmabGreatDoorTie.lean); close each card by the builder's one call (the guide's Derived/Test/ToyasCard.lean, 'card_holds'). Laid BY PROGRAM, IN A SANDBOX (cutbox-door.mjs). By AI agents, Wed Nov 11 2026. No macro, syntax, notation, axiom, sorry.
-/
import Derived.Test.YtomcfjckhajhmabGreatDoorRows
import GoSem.ClaimSeven
namespace Go.Proofs.YtomcfjckhajhmabGreatDoor
namespace Rows

/-- THE TIED CARD OF 'tappetlaw12.GenState'. -/
def genStateCard : Claim7 := { stood := { row := genStateRow, standIns := [], harness := (true, "71e8ccca950a05196e2b8547aaf42534b41ca03a6812d20b05724cade1d82433"), looks := true }, kinds := [], alts := [], laidByText := true, laidKinds := [.data, .handle, .sentinel, .sentinel, .sentinel, .sentinel, .sentinel, .sentinel, .sentinel], laidTests := true, laidLooks := .later }
def GenStateCardSaid : Prop := Claim7.holds Tryz.pinned (.plain (OpenSpec.ofChange genStateSpec)) genStateCard

/-- THE TIED CARD OF 'tappetlaw13.LiveHolds'. -/
def liveHoldsCard : Claim7 := { stood := { row := liveHoldsRow, standIns := [], harness := (true, "71e8ccca950a05196e2b8547aaf42534b41ca03a6812d20b05724cade1d82433"), looks := true }, kinds := [], alts := [], laidByText := true, laidKinds := [.data, .handle, .sentinel, .sentinel, .sentinel, .sentinel, .sentinel, .sentinel, .sentinel], laidTests := true, laidLooks := .later }
def LiveHoldsCardSaid : Prop := Claim7.holds Tryz.pinned (.plain (OpenSpec.ofChange liveHoldsSpec)) liveHoldsCard

/-- THE SECOND FORM's CARD OF 'tappetlaw12.GenState'. -/
def genStateUptoCard : Claim7 := { stood := { row := genStateUptoRow, standIns := [], harness := (true, "71e8ccca950a05196e2b8547aaf42534b41ca03a6812d20b05724cade1d82433"), looks := true }, kinds := [], alts := [], laidByText := true, laidKinds := [.data, .handle, .sentinel, .sentinel, .sentinel, .sentinel, .sentinel, .sentinel, .sentinel], laidTests := true, laidLooks := .later }
def GenStateUptoCardSaid : Prop := Claim7.holds Tryz.pinned (.plain (OpenSpec.upto genStateSpec)) genStateUptoCard

/-- THE SECOND FORM's CARD OF 'tappetlaw13.LiveHolds'. -/
def liveHoldsUptoCard : Claim7 := { stood := { row := liveHoldsUptoRow, standIns := [], harness := (true, "71e8ccca950a05196e2b8547aaf42534b41ca03a6812d20b05724cade1d82433"), looks := true }, kinds := [], alts := [], laidByText := true, laidKinds := [.data, .handle, .sentinel, .sentinel, .sentinel, .sentinel, .sentinel, .sentinel, .sentinel], laidTests := true, laidLooks := .later }
def LiveHoldsUptoCardSaid : Prop := Claim7.holds Tryz.pinned (.plain (OpenSpec.upto liveHoldsSpec)) liveHoldsUptoCard
end Rows
end Go.Proofs.YtomcfjckhajhmabGreatDoor
