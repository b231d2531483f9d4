/-
  DERIVED. GIVEN WITH THE SEED: THE CARDS: each row of YtbiccjkgobehoaaDoorRows.lean that lists a variable, with what it lists TIED to the program's text (the seventh form; the later family's looks); each row that meets fmt, with fmt's text TOLD by the authors' own Lean function (tested against real Go, not proved from fmt's source: count such statements apart). THE CARD IS WHAT COUNTS. Prove the row's statement (the work); the ties are given (YtbiccjkgobehoaaDoorTie.lean); close each card by the builder's one call (the guide's Derived/Test/ToyasCard.lean, 'card_holds'). Laid BY PROGRAM, IN A SANDBOX (cutbox-door.mjs). By AI agents, Wed Nov 11 2026. No macro, syntax, notation, axiom, sorry.
-/
import Derived.Test.YtbiccjkgobehoaaDoorRows
import GoSem.ClaimSeven
namespace Go.Proofs.YtbiccjkgobehoaaDoor
namespace Rows

/-- THE TIED CARD OF 'tappetlaw06.ImageOnly'. -/
def imageOnlyCard : Claim7 := { stood := { row := imageOnlyRow, standIns := [], harness := (true, "6ceb7b698946a5b15c7c0256280afe387f1bf07fe7c428240281d1a7982df209"), looks := true }, kinds := [], alts := [], laidByText := true, laidKinds := [.data, .data, .data, .handle, .sentinel, .sentinel], laidTests := true, laidLooks := .later }
def ImageOnlyCardSaid : Prop := Claim7.holds Tryd.pinned (.plain (OpenSpec.ofChange imageOnlySpec)) imageOnlyCard

/-- THE SECOND FORM's CARD OF 'tappetlaw06.ImageOnly'. -/
def imageOnlyUptoCard : Claim7 := { stood := { row := imageOnlyUptoRow, standIns := [], harness := (true, "6ceb7b698946a5b15c7c0256280afe387f1bf07fe7c428240281d1a7982df209"), looks := true }, kinds := [], alts := [], laidByText := true, laidKinds := [.data, .data, .data, .handle, .sentinel, .sentinel], laidTests := true, laidLooks := .later }
def ImageOnlyUptoCardSaid : Prop := Claim7.holds Tryd.pinned (.plain (OpenSpec.upto imageOnlySpec)) imageOnlyUptoCard
end Rows
end Go.Proofs.YtbiccjkgobehoaaDoor
