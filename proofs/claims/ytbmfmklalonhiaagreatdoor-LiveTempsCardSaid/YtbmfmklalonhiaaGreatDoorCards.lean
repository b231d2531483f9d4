/-
  DERIVED. GIVEN WITH THE SEED: THE CARDS: each row of YtbmfmklalonhiaaGreatDoorRows.lean that lists a variable, with what it lists TIED to the program's text (the seventh form; the later family's looks); each row that meets fmt, with fmt's text TOLD by the authors' own Lean function (tested against real Go, not proved from fmt's source: count such statements apart). THE CARD IS WHAT COUNTS. Prove the row's statement (the work); the ties are given (YtbmfmklalonhiaaGreatDoorTie.lean); close each card by the builder's one call (the guide's Derived/Test/ToyasCard.lean, 'card_holds'). Laid BY PROGRAM, IN A SANDBOX (cutbox-door.mjs). By AI agents, Wed Nov 11 2026. No macro, syntax, notation, axiom, sorry.
-/
import Derived.Test.YtbmfmklalonhiaaGreatDoorRows
import GoSem.ClaimSeven
namespace Go.Proofs.YtbmfmklalonhiaaGreatDoor
namespace Rows

/-- THE TIED CARD OF 'tappetlaw12.GenState'. -/
def genStateCard : Claim7 := { stood := { row := genStateRow, standIns := [], harness := (true, "dae35593fce3af615193db891ac1d7cb9a3ba544b7c10365afafd2ddfe73ec3b"), looks := true }, kinds := [], alts := [], laidByText := true, laidKinds := [.data, .handle, .sentinel, .sentinel, .sentinel, .sentinel, .sentinel, .sentinel, .sentinel], laidTests := true, laidLooks := .later }
def GenStateCardSaid : Prop := Claim7.holds Tryz.pinned (.plain (OpenSpec.ofChange genStateSpec)) genStateCard

/-- THE TIED CARD OF 'tappetlaw13.LiveIntervals'. -/
def liveIntervalsCard : Claim7 := { stood := { row := liveIntervalsRow, standIns := [], harness := (true, "dae35593fce3af615193db891ac1d7cb9a3ba544b7c10365afafd2ddfe73ec3b"), looks := true }, kinds := [], alts := [], laidByText := true, laidKinds := [.data, .handle, .sentinel, .sentinel, .sentinel, .sentinel, .sentinel, .sentinel, .sentinel], laidTests := true, laidLooks := .later }
def LiveIntervalsCardSaid : Prop := Claim7.holds Tryz.pinned (.plain (OpenSpec.ofChange liveIntervalsSpec)) liveIntervalsCard

/-- THE TIED CARD OF 'tappetlaw13.LiveMeets'. -/
def liveMeetsCard : Claim7 := { stood := { row := liveMeetsRow, standIns := [], harness := (true, "dae35593fce3af615193db891ac1d7cb9a3ba544b7c10365afafd2ddfe73ec3b"), looks := true }, kinds := [], alts := [], laidByText := true, laidKinds := [.data, .handle, .sentinel, .sentinel, .sentinel, .sentinel, .sentinel, .sentinel, .sentinel], laidTests := true, laidLooks := .later }
def LiveMeetsCardSaid : Prop := Claim7.holds Tryz.pinned (.plain (OpenSpec.ofChange liveMeetsSpec)) liveMeetsCard

/-- THE TIED CARD OF 'tappetlaw13.LiveHolds'. -/
def liveHoldsCard : Claim7 := { stood := { row := liveHoldsRow, standIns := [], harness := (true, "dae35593fce3af615193db891ac1d7cb9a3ba544b7c10365afafd2ddfe73ec3b"), looks := true }, kinds := [], alts := [], laidByText := true, laidKinds := [.data, .handle, .sentinel, .sentinel, .sentinel, .sentinel, .sentinel, .sentinel, .sentinel], laidTests := true, laidLooks := .later }
def LiveHoldsCardSaid : Prop := Claim7.holds Tryz.pinned (.plain (OpenSpec.ofChange liveHoldsSpec)) liveHoldsCard

/-- THE TIED CARD OF 'tappetlaw13.LiveTemps'. -/
def liveTempsCard : Claim7 := { stood := { row := liveTempsRow, standIns := [], harness := (true, "dae35593fce3af615193db891ac1d7cb9a3ba544b7c10365afafd2ddfe73ec3b"), looks := true }, kinds := [], alts := [], laidByText := true, laidKinds := [.data, .handle, .sentinel, .sentinel, .sentinel, .sentinel, .sentinel, .sentinel, .sentinel], laidTests := true, laidLooks := .later }
def LiveTempsCardSaid : Prop := Claim7.holds Tryz.pinned (.plain (OpenSpec.ofChange liveTempsSpec)) liveTempsCard

/-- THE TIED CARD OF 'tappetlaw13.LiveEmpty'. -/
def liveEmptyCard : Claim7 := { stood := { row := liveEmptyRow, standIns := [], harness := (true, "dae35593fce3af615193db891ac1d7cb9a3ba544b7c10365afafd2ddfe73ec3b"), looks := true }, kinds := [], alts := [], laidByText := true, laidKinds := [.data, .handle, .sentinel, .sentinel, .sentinel, .sentinel, .sentinel, .sentinel, .sentinel], laidTests := true, laidLooks := .later }
def LiveEmptyCardSaid : Prop := Claim7.holds Tryz.pinned (.plain (OpenSpec.ofChange liveEmptySpec)) liveEmptyCard

/-- THE SECOND FORM's CARD OF 'tappetlaw12.GenState'. -/
def genStateUptoCard : Claim7 := { stood := { row := genStateUptoRow, standIns := [], harness := (true, "dae35593fce3af615193db891ac1d7cb9a3ba544b7c10365afafd2ddfe73ec3b"), looks := true }, kinds := [], alts := [], laidByText := true, laidKinds := [.data, .handle, .sentinel, .sentinel, .sentinel, .sentinel, .sentinel, .sentinel, .sentinel], laidTests := true, laidLooks := .later }
def GenStateUptoCardSaid : Prop := Claim7.holds Tryz.pinned (.plain (OpenSpec.upto genStateSpec)) genStateUptoCard

/-- THE SECOND FORM's CARD OF 'tappetlaw13.LiveIntervals'. -/
def liveIntervalsUptoCard : Claim7 := { stood := { row := liveIntervalsUptoRow, standIns := [], harness := (true, "dae35593fce3af615193db891ac1d7cb9a3ba544b7c10365afafd2ddfe73ec3b"), looks := true }, kinds := [], alts := [], laidByText := true, laidKinds := [.data, .handle, .sentinel, .sentinel, .sentinel, .sentinel, .sentinel, .sentinel, .sentinel], laidTests := true, laidLooks := .later }
def LiveIntervalsUptoCardSaid : Prop := Claim7.holds Tryz.pinned (.plain (OpenSpec.upto liveIntervalsSpec)) liveIntervalsUptoCard

/-- THE SECOND FORM's CARD OF 'tappetlaw13.LiveMeets'. -/
def liveMeetsUptoCard : Claim7 := { stood := { row := liveMeetsUptoRow, standIns := [], harness := (true, "dae35593fce3af615193db891ac1d7cb9a3ba544b7c10365afafd2ddfe73ec3b"), looks := true }, kinds := [], alts := [], laidByText := true, laidKinds := [.data, .handle, .sentinel, .sentinel, .sentinel, .sentinel, .sentinel, .sentinel, .sentinel], laidTests := true, laidLooks := .later }
def LiveMeetsUptoCardSaid : Prop := Claim7.holds Tryz.pinned (.plain (OpenSpec.upto liveMeetsSpec)) liveMeetsUptoCard

/-- THE SECOND FORM's CARD OF 'tappetlaw13.LiveHolds'. -/
def liveHoldsUptoCard : Claim7 := { stood := { row := liveHoldsUptoRow, standIns := [], harness := (true, "dae35593fce3af615193db891ac1d7cb9a3ba544b7c10365afafd2ddfe73ec3b"), looks := true }, kinds := [], alts := [], laidByText := true, laidKinds := [.data, .handle, .sentinel, .sentinel, .sentinel, .sentinel, .sentinel, .sentinel, .sentinel], laidTests := true, laidLooks := .later }
def LiveHoldsUptoCardSaid : Prop := Claim7.holds Tryz.pinned (.plain (OpenSpec.upto liveHoldsSpec)) liveHoldsUptoCard

/-- THE SECOND FORM's CARD OF 'tappetlaw13.LiveTemps'. -/
def liveTempsUptoCard : Claim7 := { stood := { row := liveTempsUptoRow, standIns := [], harness := (true, "dae35593fce3af615193db891ac1d7cb9a3ba544b7c10365afafd2ddfe73ec3b"), looks := true }, kinds := [], alts := [], laidByText := true, laidKinds := [.data, .handle, .sentinel, .sentinel, .sentinel, .sentinel, .sentinel, .sentinel, .sentinel], laidTests := true, laidLooks := .later }
def LiveTempsUptoCardSaid : Prop := Claim7.holds Tryz.pinned (.plain (OpenSpec.upto liveTempsSpec)) liveTempsUptoCard

/-- THE SECOND FORM's CARD OF 'tappetlaw13.LiveEmpty'. -/
def liveEmptyUptoCard : Claim7 := { stood := { row := liveEmptyUptoRow, standIns := [], harness := (true, "dae35593fce3af615193db891ac1d7cb9a3ba544b7c10365afafd2ddfe73ec3b"), looks := true }, kinds := [], alts := [], laidByText := true, laidKinds := [.data, .handle, .sentinel, .sentinel, .sentinel, .sentinel, .sentinel, .sentinel, .sentinel], laidTests := true, laidLooks := .later }
def LiveEmptyUptoCardSaid : Prop := Claim7.holds Tryz.pinned (.plain (OpenSpec.upto liveEmptySpec)) liveEmptyUptoCard
end Rows
end Go.Proofs.YtbmfmklalonhiaaGreatDoor
