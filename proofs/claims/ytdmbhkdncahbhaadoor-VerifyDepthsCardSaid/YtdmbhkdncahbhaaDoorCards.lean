/-
  DERIVED. GIVEN WITH THE SEED: THE CARDS: each row of YtdmbhkdncahbhaaDoorRows.lean that lists a variable, with what it lists TIED to the program's text (the seventh form; the later family's looks); each row that meets fmt, with fmt's text TOLD by the authors' own Lean function (tested against real Go, not proved from fmt's source: count such statements apart). THE CARD IS WHAT COUNTS. Prove the row's statement (the work); the ties are given (YtdmbhkdncahbhaaDoorTie.lean); close each card by the builder's one call (the guide's Derived/Test/ToyasCard.lean, 'card_holds'). Laid BY PROGRAM, IN A SANDBOX (cutbox-door.mjs). By AI agents, Wed Nov 11 2026. No macro, syntax, notation, axiom, sorry.
-/
import Derived.Test.YtdmbhkdncahbhaaDoorRows
import GoSem.ClaimSeven
namespace Go.Proofs.YtdmbhkdncahbhaaDoor
namespace Rows

/-- THE TIED CARD OF 'tappetlaw05.VerifyDepths'. -/
def verifyDepthsCard : Claim7 := { stood := { row := verifyDepthsRow, standIns := [], harness := (true, "d4fc949a40efe182352e1a5cad6fca61eae3fc93b3e18e11d787d2d71161e5ea"), looks := true }, kinds := [], alts := [], laidByText := true, laidKinds := [.data, .handle, .sentinel, .sentinel, .sentinel, .sentinel, .sentinel, .sentinel, .sentinel], laidTests := true, laidLooks := .later }
def VerifyDepthsCardSaid : Prop := Claim7.holds Tryd.pinned (.plain (OpenSpec.ofChange verifyDepthsSpec)) verifyDepthsCard

/-- THE TIED CARD OF 'tappetlaw05.VerifyWays'. -/
def verifyWaysCard : Claim7 := { stood := { row := verifyWaysRow, standIns := [], harness := (true, "d4fc949a40efe182352e1a5cad6fca61eae3fc93b3e18e11d787d2d71161e5ea"), looks := true }, kinds := [], alts := [], laidByText := true, laidKinds := [.data, .handle, .sentinel, .sentinel, .sentinel, .sentinel, .sentinel, .sentinel, .sentinel], laidTests := true, laidLooks := .later }
def VerifyWaysCardSaid : Prop := Claim7.holds Tryd.pinned (.plain (OpenSpec.ofChange verifyWaysSpec)) verifyWaysCard

/-- THE TIED CARD OF 'tappetlaw05.VerifyLess'. -/
def verifyLessCard : Claim7 := { stood := { row := verifyLessRow, standIns := [], harness := (true, "d4fc949a40efe182352e1a5cad6fca61eae3fc93b3e18e11d787d2d71161e5ea"), looks := true }, kinds := [], alts := [], laidByText := true, laidKinds := [.data, .handle, .sentinel, .sentinel, .sentinel, .sentinel, .sentinel, .sentinel, .sentinel], laidTests := true, laidLooks := .later }
def VerifyLessCardSaid : Prop := Claim7.holds Tryd.pinned (.plain (OpenSpec.ofChange verifyLessSpec)) verifyLessCard

/-- THE TIED CARD OF 'tappetlaw05.VerifyLast'. -/
def verifyLastCard : Claim7 := { stood := { row := verifyLastRow, standIns := [], harness := (true, "d4fc949a40efe182352e1a5cad6fca61eae3fc93b3e18e11d787d2d71161e5ea"), looks := true }, kinds := [], alts := [], laidByText := true, laidKinds := [.data, .handle, .sentinel, .sentinel, .sentinel, .sentinel, .sentinel, .sentinel, .sentinel], laidTests := true, laidLooks := .later }
def VerifyLastCardSaid : Prop := Claim7.holds Tryd.pinned (.plain (OpenSpec.ofChange verifyLastSpec)) verifyLastCard

/-- THE SECOND FORM's CARD OF 'tappetlaw05.VerifyDepths'. -/
def verifyDepthsUptoCard : Claim7 := { stood := { row := verifyDepthsUptoRow, standIns := [], harness := (true, "d4fc949a40efe182352e1a5cad6fca61eae3fc93b3e18e11d787d2d71161e5ea"), looks := true }, kinds := [], alts := [], laidByText := true, laidKinds := [.data, .handle, .sentinel, .sentinel, .sentinel, .sentinel, .sentinel, .sentinel, .sentinel], laidTests := true, laidLooks := .later }
def VerifyDepthsUptoCardSaid : Prop := Claim7.holds Tryd.pinned (.plain (OpenSpec.upto verifyDepthsSpec)) verifyDepthsUptoCard

/-- THE SECOND FORM's CARD OF 'tappetlaw05.VerifyWays'. -/
def verifyWaysUptoCard : Claim7 := { stood := { row := verifyWaysUptoRow, standIns := [], harness := (true, "d4fc949a40efe182352e1a5cad6fca61eae3fc93b3e18e11d787d2d71161e5ea"), looks := true }, kinds := [], alts := [], laidByText := true, laidKinds := [.data, .handle, .sentinel, .sentinel, .sentinel, .sentinel, .sentinel, .sentinel, .sentinel], laidTests := true, laidLooks := .later }
def VerifyWaysUptoCardSaid : Prop := Claim7.holds Tryd.pinned (.plain (OpenSpec.upto verifyWaysSpec)) verifyWaysUptoCard

/-- THE SECOND FORM's CARD OF 'tappetlaw05.VerifyLess'. -/
def verifyLessUptoCard : Claim7 := { stood := { row := verifyLessUptoRow, standIns := [], harness := (true, "d4fc949a40efe182352e1a5cad6fca61eae3fc93b3e18e11d787d2d71161e5ea"), looks := true }, kinds := [], alts := [], laidByText := true, laidKinds := [.data, .handle, .sentinel, .sentinel, .sentinel, .sentinel, .sentinel, .sentinel, .sentinel], laidTests := true, laidLooks := .later }
def VerifyLessUptoCardSaid : Prop := Claim7.holds Tryd.pinned (.plain (OpenSpec.upto verifyLessSpec)) verifyLessUptoCard

/-- THE SECOND FORM's CARD OF 'tappetlaw05.VerifyLast'. -/
def verifyLastUptoCard : Claim7 := { stood := { row := verifyLastUptoRow, standIns := [], harness := (true, "d4fc949a40efe182352e1a5cad6fca61eae3fc93b3e18e11d787d2d71161e5ea"), looks := true }, kinds := [], alts := [], laidByText := true, laidKinds := [.data, .handle, .sentinel, .sentinel, .sentinel, .sentinel, .sentinel, .sentinel, .sentinel], laidTests := true, laidLooks := .later }
def VerifyLastUptoCardSaid : Prop := Claim7.holds Tryd.pinned (.plain (OpenSpec.upto verifyLastSpec)) verifyLastUptoCard
end Rows
end Go.Proofs.YtdmbhkdncahbhaaDoor
