/-
  DERIVED. GIVEN WITH THE SEED: THE CARDS: each row of YtcbplibbfoajgaaDoorRows.lean that lists a variable, with what it lists TIED to the program's text (the seventh form; the later family's looks); each row that meets fmt, with fmt's text TOLD by the authors' own Lean function (tested against real Go, not proved from fmt's source: count such statements apart). THE CARD IS WHAT COUNTS. Prove the row's statement (the work); the ties are given (YtcbplibbfoajgaaDoorTie.lean); close each card by the builder's one call (the guide's Derived/Test/ToyasCard.lean, 'card_holds'). Laid BY PROGRAM, IN A SANDBOX (cutbox-door.mjs). By AI agents, Wed Nov 11 2026. No macro, syntax, notation, axiom, sorry.
-/
import Derived.Test.YtcbplibbfoajgaaDoorRows
import GoSem.ClaimSeven
namespace Go.Proofs.YtcbplibbfoajgaaDoor
namespace Rows

/-- THE TIED CARD OF 'tappetlaw12.GenHome'. -/
def genHomeCard : Claim7 := { stood := { row := genHomeRow, standIns := [], harness := (true, "3eca0d24d84f51697513796ef565db02183a390525cb77483f2d19583178a188"), looks := true }, kinds := [], alts := [], laidByText := true, laidKinds := [.data, .handle, .sentinel, .sentinel, .sentinel, .sentinel, .sentinel, .sentinel, .sentinel], laidTests := true, laidLooks := .later }
def GenHomeCardSaid : Prop := Claim7.holds Tryd.pinned (.plain (OpenSpec.ofChange genHomeSpec)) genHomeCard

/-- THE TIED CARD OF 'tappetlaw12.GenSites'. -/
def genSitesCard : Claim7 := { stood := { row := genSitesRow, standIns := [], harness := (true, "3eca0d24d84f51697513796ef565db02183a390525cb77483f2d19583178a188"), looks := true }, kinds := [], alts := [], laidByText := true, laidKinds := [.data, .handle, .sentinel, .sentinel, .sentinel, .sentinel, .sentinel, .sentinel, .sentinel], laidTests := true, laidLooks := .later }
def GenSitesCardSaid : Prop := Claim7.holds Tryd.pinned (.plain (OpenSpec.ofChange genSitesSpec)) genSitesCard

/-- THE TIED CARD OF 'tappetlaw12.GenShort'. -/
def genShortCard : Claim7 := { stood := { row := genShortRow, standIns := [], harness := (true, "3eca0d24d84f51697513796ef565db02183a390525cb77483f2d19583178a188"), looks := true }, kinds := [], alts := [], laidByText := true, laidKinds := [.data, .handle, .sentinel, .sentinel, .sentinel, .sentinel, .sentinel, .sentinel, .sentinel], laidTests := true, laidLooks := .later }
def GenShortCardSaid : Prop := Claim7.holds Tryd.pinned (.plain (OpenSpec.ofChange genShortSpec)) genShortCard

/-- THE SECOND FORM's CARD OF 'tappetlaw12.GenHome'. -/
def genHomeUptoCard : Claim7 := { stood := { row := genHomeUptoRow, standIns := [], harness := (true, "3eca0d24d84f51697513796ef565db02183a390525cb77483f2d19583178a188"), looks := true }, kinds := [], alts := [], laidByText := true, laidKinds := [.data, .handle, .sentinel, .sentinel, .sentinel, .sentinel, .sentinel, .sentinel, .sentinel], laidTests := true, laidLooks := .later }
def GenHomeUptoCardSaid : Prop := Claim7.holds Tryd.pinned (.plain (OpenSpec.upto genHomeSpec)) genHomeUptoCard

/-- THE SECOND FORM's CARD OF 'tappetlaw12.GenSites'. -/
def genSitesUptoCard : Claim7 := { stood := { row := genSitesUptoRow, standIns := [], harness := (true, "3eca0d24d84f51697513796ef565db02183a390525cb77483f2d19583178a188"), looks := true }, kinds := [], alts := [], laidByText := true, laidKinds := [.data, .handle, .sentinel, .sentinel, .sentinel, .sentinel, .sentinel, .sentinel, .sentinel], laidTests := true, laidLooks := .later }
def GenSitesUptoCardSaid : Prop := Claim7.holds Tryd.pinned (.plain (OpenSpec.upto genSitesSpec)) genSitesUptoCard

/-- THE SECOND FORM's CARD OF 'tappetlaw12.GenShort'. -/
def genShortUptoCard : Claim7 := { stood := { row := genShortUptoRow, standIns := [], harness := (true, "3eca0d24d84f51697513796ef565db02183a390525cb77483f2d19583178a188"), looks := true }, kinds := [], alts := [], laidByText := true, laidKinds := [.data, .handle, .sentinel, .sentinel, .sentinel, .sentinel, .sentinel, .sentinel, .sentinel], laidTests := true, laidLooks := .later }
def GenShortUptoCardSaid : Prop := Claim7.holds Tryd.pinned (.plain (OpenSpec.upto genShortSpec)) genShortUptoCard
end Rows
end Go.Proofs.YtcbplibbfoajgaaDoor
