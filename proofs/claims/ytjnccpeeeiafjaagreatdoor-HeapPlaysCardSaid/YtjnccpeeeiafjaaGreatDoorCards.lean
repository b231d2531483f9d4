/-
  DERIVED. GIVEN WITH THE SEED: THE CARDS: each row of YtjnccpeeeiafjaaGreatDoorRows.lean that lists a variable, with what it lists TIED to the program's text (the seventh form; the later family's looks); each row that meets fmt, with fmt's text TOLD by the authors' own Lean function (tested against real Go, not proved from fmt's source: count such statements apart). THE CARD IS WHAT COUNTS. Prove the row's statement (the work); the ties are given (YtjnccpeeeiafjaaGreatDoorTie.lean); close each card by the builder's one call (the guide's Derived/Test/ToyasCard.lean, 'card_holds'). Laid BY PROGRAM, IN A SANDBOX (cutbox-door.mjs). By AI agents, Wed Nov 11 2026. No macro, syntax, notation, axiom, sorry.
-/
import Derived.Test.YtjnccpeeeiafjaaGreatDoorRows
import GoSem.ClaimSeven
namespace Go.Proofs.YtjnccpeeeiafjaaGreatDoor
namespace Rows

/-- THE TIED CARD OF 'tappetlaw02.HeapPlays'. -/
def heapPlaysCard : Claim7 := { stood := { row := heapPlaysRow, standIns := [], harness := (true, "09c038945615f3f55562bd8c35eb174c6616ad2d27dfd42a93b933a68ef05999"), looks := true }, kinds := [], alts := [], laidByText := true, laidKinds := [.data, .data, .data, .handle], laidTests := true, laidLooks := .later }
def HeapPlaysCardSaid : Prop := Claim7.holds Tryz.pinned (.plain (OpenSpec.ofChange heapPlaysSpec)) heapPlaysCard

/-- THE TIED CARD OF 'tappetlaw02.HeapHolds'. -/
def heapHoldsCard : Claim7 := { stood := { row := heapHoldsRow, standIns := [], harness := (true, "09c038945615f3f55562bd8c35eb174c6616ad2d27dfd42a93b933a68ef05999"), looks := true }, kinds := [], alts := [], laidByText := true, laidKinds := [.data, .data, .data, .handle], laidTests := true, laidLooks := .later }
def HeapHoldsCardSaid : Prop := Claim7.holds Tryz.pinned (.plain (OpenSpec.ofChange heapHoldsSpec)) heapHoldsCard

/-- THE TIED CARD OF 'tappetlaw02.HeapHashes'. -/
def heapHashesCard : Claim7 := { stood := { row := heapHashesRow, standIns := [], harness := (true, "09c038945615f3f55562bd8c35eb174c6616ad2d27dfd42a93b933a68ef05999"), looks := true }, kinds := [], alts := [], laidByText := true, laidKinds := [.data, .data, .data, .handle], laidTests := true, laidLooks := .later }
def HeapHashesCardSaid : Prop := Claim7.holds Tryz.pinned (.plain (OpenSpec.ofChange heapHashesSpec)) heapHashesCard

/-- THE TIED CARD OF 'tappetlaw02.HeapFresh'. -/
def heapFreshCard : Claim7 := { stood := { row := heapFreshRow, standIns := [], harness := (true, "09c038945615f3f55562bd8c35eb174c6616ad2d27dfd42a93b933a68ef05999"), looks := true }, kinds := [], alts := [], laidByText := true, laidKinds := [.data, .data, .data, .handle], laidTests := true, laidLooks := .later }
def HeapFreshCardSaid : Prop := Claim7.holds Tryz.pinned (.plain (OpenSpec.ofChange heapFreshSpec)) heapFreshCard

/-- THE TIED CARD OF 'tappetlaw03.GcRuns'. -/
def gcRunsCard : Claim7 := { stood := { row := gcRunsRow, standIns := [], harness := (true, "09c038945615f3f55562bd8c35eb174c6616ad2d27dfd42a93b933a68ef05999"), looks := true }, kinds := [], alts := [], laidByText := true, laidKinds := [.data, .data, .data, .handle], laidTests := true, laidLooks := .later }
def GcRunsCardSaid : Prop := Claim7.holds Tryz.pinned (.plain (OpenSpec.ofChange gcRunsSpec)) gcRunsCard

/-- THE TIED CARD OF 'tappetlaw03.GcTwice'. -/
def gcTwiceCard : Claim7 := { stood := { row := gcTwiceRow, standIns := [], harness := (true, "09c038945615f3f55562bd8c35eb174c6616ad2d27dfd42a93b933a68ef05999"), looks := true }, kinds := [], alts := [], laidByText := true, laidKinds := [.data, .data, .data, .handle], laidTests := true, laidLooks := .later }
def GcTwiceCardSaid : Prop := Claim7.holds Tryz.pinned (.plain (OpenSpec.ofChange gcTwiceSpec)) gcTwiceCard

/-- THE TIED CARD OF 'tappetlaw03.GcGraph'. -/
def gcGraphCard : Claim7 := { stood := { row := gcGraphRow, standIns := [], harness := (true, "09c038945615f3f55562bd8c35eb174c6616ad2d27dfd42a93b933a68ef05999"), looks := true }, kinds := [], alts := [], laidByText := true, laidKinds := [.data, .data, .data, .handle], laidTests := true, laidLooks := .later }
def GcGraphCardSaid : Prop := Claim7.holds Tryz.pinned (.plain (OpenSpec.ofChange gcGraphSpec)) gcGraphCard

/-- THE SECOND FORM's CARD OF 'tappetlaw02.HeapPlays'. -/
def heapPlaysUptoCard : Claim7 := { stood := { row := heapPlaysUptoRow, standIns := [], harness := (true, "09c038945615f3f55562bd8c35eb174c6616ad2d27dfd42a93b933a68ef05999"), looks := true }, kinds := [], alts := [], laidByText := true, laidKinds := [.data, .data, .data, .handle], laidTests := true, laidLooks := .later }
def HeapPlaysUptoCardSaid : Prop := Claim7.holds Tryz.pinned (.plain (OpenSpec.upto heapPlaysSpec)) heapPlaysUptoCard

/-- THE SECOND FORM's CARD OF 'tappetlaw02.HeapHolds'. -/
def heapHoldsUptoCard : Claim7 := { stood := { row := heapHoldsUptoRow, standIns := [], harness := (true, "09c038945615f3f55562bd8c35eb174c6616ad2d27dfd42a93b933a68ef05999"), looks := true }, kinds := [], alts := [], laidByText := true, laidKinds := [.data, .data, .data, .handle], laidTests := true, laidLooks := .later }
def HeapHoldsUptoCardSaid : Prop := Claim7.holds Tryz.pinned (.plain (OpenSpec.upto heapHoldsSpec)) heapHoldsUptoCard

/-- THE SECOND FORM's CARD OF 'tappetlaw02.HeapHashes'. -/
def heapHashesUptoCard : Claim7 := { stood := { row := heapHashesUptoRow, standIns := [], harness := (true, "09c038945615f3f55562bd8c35eb174c6616ad2d27dfd42a93b933a68ef05999"), looks := true }, kinds := [], alts := [], laidByText := true, laidKinds := [.data, .data, .data, .handle], laidTests := true, laidLooks := .later }
def HeapHashesUptoCardSaid : Prop := Claim7.holds Tryz.pinned (.plain (OpenSpec.upto heapHashesSpec)) heapHashesUptoCard

/-- THE SECOND FORM's CARD OF 'tappetlaw02.HeapFresh'. -/
def heapFreshUptoCard : Claim7 := { stood := { row := heapFreshUptoRow, standIns := [], harness := (true, "09c038945615f3f55562bd8c35eb174c6616ad2d27dfd42a93b933a68ef05999"), looks := true }, kinds := [], alts := [], laidByText := true, laidKinds := [.data, .data, .data, .handle], laidTests := true, laidLooks := .later }
def HeapFreshUptoCardSaid : Prop := Claim7.holds Tryz.pinned (.plain (OpenSpec.upto heapFreshSpec)) heapFreshUptoCard

/-- THE SECOND FORM's CARD OF 'tappetlaw03.GcRuns'. -/
def gcRunsUptoCard : Claim7 := { stood := { row := gcRunsUptoRow, standIns := [], harness := (true, "09c038945615f3f55562bd8c35eb174c6616ad2d27dfd42a93b933a68ef05999"), looks := true }, kinds := [], alts := [], laidByText := true, laidKinds := [.data, .data, .data, .handle], laidTests := true, laidLooks := .later }
def GcRunsUptoCardSaid : Prop := Claim7.holds Tryz.pinned (.plain (OpenSpec.upto gcRunsSpec)) gcRunsUptoCard

/-- THE SECOND FORM's CARD OF 'tappetlaw03.GcTwice'. -/
def gcTwiceUptoCard : Claim7 := { stood := { row := gcTwiceUptoRow, standIns := [], harness := (true, "09c038945615f3f55562bd8c35eb174c6616ad2d27dfd42a93b933a68ef05999"), looks := true }, kinds := [], alts := [], laidByText := true, laidKinds := [.data, .data, .data, .handle], laidTests := true, laidLooks := .later }
def GcTwiceUptoCardSaid : Prop := Claim7.holds Tryz.pinned (.plain (OpenSpec.upto gcTwiceSpec)) gcTwiceUptoCard

/-- THE SECOND FORM's CARD OF 'tappetlaw03.GcGraph'. -/
def gcGraphUptoCard : Claim7 := { stood := { row := gcGraphUptoRow, standIns := [], harness := (true, "09c038945615f3f55562bd8c35eb174c6616ad2d27dfd42a93b933a68ef05999"), looks := true }, kinds := [], alts := [], laidByText := true, laidKinds := [.data, .data, .data, .handle], laidTests := true, laidLooks := .later }
def GcGraphUptoCardSaid : Prop := Claim7.holds Tryz.pinned (.plain (OpenSpec.upto gcGraphSpec)) gcGraphUptoCard
end Rows
end Go.Proofs.YtjnccpeeeiafjaaGreatDoor
