/-
  DERIVED. GIVEN WITH THE SEED: THE CARDS: each row of YtninigdcpeijhaaDoorRows.lean that lists a variable, with what it lists TIED to the program's text (the seventh form; the later family's looks); each row that meets fmt, with fmt's text TOLD by the authors' own Lean function (tested against real Go, not proved from fmt's source: count such statements apart). THE CARD IS WHAT COUNTS. Prove the row's statement (the work); the ties are given (YtninigdcpeijhaaDoorTie.lean); close each card by the builder's one call (the guide's Derived/Test/ToyasCard.lean, 'card_holds'). Laid BY PROGRAM, IN A SANDBOX (cutbox-door.mjs). By AI agents, Wed Nov 11 2026. No macro, syntax, notation, axiom, sorry.
-/
import Derived.Test.YtninigdcpeijhaaDoorRows
import GoSem.ClaimSeven
namespace Go.Proofs.YtninigdcpeijhaaDoor
namespace Rows

/-- THE TIED CARD OF 'tappetlaw03.GcRoom'. -/
def gcRoomCard : Claim7 := { stood := { row := gcRoomRow, standIns := [], harness := (true, "1ca879a74a777aa4d6cd185a1ef79e4b1367de75826c6a58d20a4e330841cb74"), looks := true }, kinds := [], alts := [], laidByText := true, laidKinds := [.data, .data, .data, .handle], laidTests := true, laidLooks := .later }
def GcRoomCardSaid : Prop := Claim7.holds Tryd.pinned (.plain (OpenSpec.ofChange gcRoomSpec)) gcRoomCard

/-- THE TIED CARD OF 'tappetlaw03.GcMore'. -/
def gcMoreCard : Claim7 := { stood := { row := gcMoreRow, standIns := [], harness := (true, "1ca879a74a777aa4d6cd185a1ef79e4b1367de75826c6a58d20a4e330841cb74"), looks := true }, kinds := [], alts := [], laidByText := true, laidKinds := [.data, .data, .data, .handle], laidTests := true, laidLooks := .later }
def GcMoreCardSaid : Prop := Claim7.holds Tryd.pinned (.plain (OpenSpec.ofChange gcMoreSpec)) gcMoreCard

/-- THE TIED CARD OF 'tappetlaw03.GcOrder'. -/
def gcOrderCard : Claim7 := { stood := { row := gcOrderRow, standIns := [], harness := (true, "1ca879a74a777aa4d6cd185a1ef79e4b1367de75826c6a58d20a4e330841cb74"), looks := true }, kinds := [], alts := [], laidByText := true, laidKinds := [.data, .data, .data, .handle], laidTests := true, laidLooks := .later }
def GcOrderCardSaid : Prop := Claim7.holds Tryd.pinned (.plain (OpenSpec.ofChange gcOrderSpec)) gcOrderCard

/-- THE SECOND FORM's CARD OF 'tappetlaw03.GcRoom'. -/
def gcRoomUptoCard : Claim7 := { stood := { row := gcRoomUptoRow, standIns := [], harness := (true, "1ca879a74a777aa4d6cd185a1ef79e4b1367de75826c6a58d20a4e330841cb74"), looks := true }, kinds := [], alts := [], laidByText := true, laidKinds := [.data, .data, .data, .handle], laidTests := true, laidLooks := .later }
def GcRoomUptoCardSaid : Prop := Claim7.holds Tryd.pinned (.plain (OpenSpec.upto gcRoomSpec)) gcRoomUptoCard

/-- THE SECOND FORM's CARD OF 'tappetlaw03.GcMore'. -/
def gcMoreUptoCard : Claim7 := { stood := { row := gcMoreUptoRow, standIns := [], harness := (true, "1ca879a74a777aa4d6cd185a1ef79e4b1367de75826c6a58d20a4e330841cb74"), looks := true }, kinds := [], alts := [], laidByText := true, laidKinds := [.data, .data, .data, .handle], laidTests := true, laidLooks := .later }
def GcMoreUptoCardSaid : Prop := Claim7.holds Tryd.pinned (.plain (OpenSpec.upto gcMoreSpec)) gcMoreUptoCard

/-- THE SECOND FORM's CARD OF 'tappetlaw03.GcOrder'. -/
def gcOrderUptoCard : Claim7 := { stood := { row := gcOrderUptoRow, standIns := [], harness := (true, "1ca879a74a777aa4d6cd185a1ef79e4b1367de75826c6a58d20a4e330841cb74"), looks := true }, kinds := [], alts := [], laidByText := true, laidKinds := [.data, .data, .data, .handle], laidTests := true, laidLooks := .later }
def GcOrderUptoCardSaid : Prop := Claim7.holds Tryd.pinned (.plain (OpenSpec.upto gcOrderSpec)) gcOrderUptoCard
end Rows
end Go.Proofs.YtninigdcpeijhaaDoor
