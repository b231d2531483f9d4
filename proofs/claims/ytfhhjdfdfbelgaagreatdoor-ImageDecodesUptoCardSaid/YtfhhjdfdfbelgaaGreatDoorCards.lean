/-
  DERIVED. GIVEN WITH THE SEED: THE CARDS: each row of YtfhhjdfdfbelgaaGreatDoorRows.lean that lists a variable, with what it lists TIED to the program's text (the seventh form; the later family's looks); each row that meets fmt, with fmt's text TOLD by the authors' own Lean function (tested against real Go, not proved from fmt's source: count such statements apart). THE CARD IS WHAT COUNTS. Prove the row's statement (the work); the ties are given (YtfhhjdfdfbelgaaGreatDoorTie.lean); close each card by the builder's one call (the guide's Derived/Test/ToyasCard.lean, 'card_holds'). Laid BY PROGRAM, IN A SANDBOX (cutbox-door.mjs). By AI agents, Wed Nov 11 2026. No macro, syntax, notation, axiom, sorry.
-/
import Derived.Test.YtfhhjdfdfbelgaaGreatDoorRows
import GoSem.ClaimSeven
namespace Go.Proofs.YtfhhjdfdfbelgaaGreatDoor
namespace Rows

/-- THE TIED CARD OF 'tappetlaw06.ImageDecodes'. -/
def imageDecodesCard : Claim7 := { stood := { row := imageDecodesRow, standIns := [], harness := (true, "376de20448c26d9a2b0903b45b0d0d5890c7e81ba55ef67329bc22dc53d2cad0"), looks := true }, kinds := [], alts := [], laidByText := true, laidKinds := [.data, .data, .data, .handle, .sentinel, .sentinel], laidTests := true, laidLooks := .later }
def ImageDecodesCardSaid : Prop := Claim7.holds Tryz.pinned (.plain (OpenSpec.ofChange imageDecodesSpec)) imageDecodesCard

/-- THE TIED CARD OF 'tappetlaw06.ImageEncodes'. -/
def imageEncodesCard : Claim7 := { stood := { row := imageEncodesRow, standIns := [], harness := (true, "376de20448c26d9a2b0903b45b0d0d5890c7e81ba55ef67329bc22dc53d2cad0"), looks := true }, kinds := [], alts := [], laidByText := true, laidKinds := [.data, .data, .data, .handle, .sentinel, .sentinel], laidTests := true, laidLooks := .later }
def ImageEncodesCardSaid : Prop := Claim7.holds Tryz.pinned (.plain (OpenSpec.ofChange imageEncodesSpec)) imageEncodesCard

/-- THE TIED CARD OF 'tappetlaw06.ImageRoom'. -/
def imageRoomCard : Claim7 := { stood := { row := imageRoomRow, standIns := [], harness := (true, "376de20448c26d9a2b0903b45b0d0d5890c7e81ba55ef67329bc22dc53d2cad0"), looks := true }, kinds := [], alts := [], laidByText := true, laidKinds := [.data, .data, .data, .handle, .sentinel, .sentinel], laidTests := true, laidLooks := .later }
def ImageRoomCardSaid : Prop := Claim7.holds Tryz.pinned (.plain (OpenSpec.ofChange imageRoomSpec)) imageRoomCard

/-- THE TIED CARD OF 'tappetlaw06.ImageSize'. -/
def imageSizeCard : Claim7 := { stood := { row := imageSizeRow, standIns := [], harness := (true, "376de20448c26d9a2b0903b45b0d0d5890c7e81ba55ef67329bc22dc53d2cad0"), looks := true }, kinds := [], alts := [], laidByText := true, laidKinds := [.data, .data, .data, .handle, .sentinel, .sentinel], laidTests := true, laidLooks := .later }
def ImageSizeCardSaid : Prop := Claim7.holds Tryz.pinned (.plain (OpenSpec.ofChange imageSizeSpec)) imageSizeCard

/-- THE TIED CARD OF 'tappetlaw06.ImageCut'. -/
def imageCutCard : Claim7 := { stood := { row := imageCutRow, standIns := [], harness := (true, "376de20448c26d9a2b0903b45b0d0d5890c7e81ba55ef67329bc22dc53d2cad0"), looks := true }, kinds := [], alts := [], laidByText := true, laidKinds := [.data, .data, .data, .handle, .sentinel, .sentinel], laidTests := true, laidLooks := .later }
def ImageCutCardSaid : Prop := Claim7.holds Tryz.pinned (.plain (OpenSpec.ofChange imageCutSpec)) imageCutCard

/-- THE SECOND FORM's CARD OF 'tappetlaw06.ImageDecodes'. -/
def imageDecodesUptoCard : Claim7 := { stood := { row := imageDecodesUptoRow, standIns := [], harness := (true, "376de20448c26d9a2b0903b45b0d0d5890c7e81ba55ef67329bc22dc53d2cad0"), looks := true }, kinds := [], alts := [], laidByText := true, laidKinds := [.data, .data, .data, .handle, .sentinel, .sentinel], laidTests := true, laidLooks := .later }
def ImageDecodesUptoCardSaid : Prop := Claim7.holds Tryz.pinned (.plain (OpenSpec.upto imageDecodesSpec)) imageDecodesUptoCard

/-- THE SECOND FORM's CARD OF 'tappetlaw06.ImageEncodes'. -/
def imageEncodesUptoCard : Claim7 := { stood := { row := imageEncodesUptoRow, standIns := [], harness := (true, "376de20448c26d9a2b0903b45b0d0d5890c7e81ba55ef67329bc22dc53d2cad0"), looks := true }, kinds := [], alts := [], laidByText := true, laidKinds := [.data, .data, .data, .handle, .sentinel, .sentinel], laidTests := true, laidLooks := .later }
def ImageEncodesUptoCardSaid : Prop := Claim7.holds Tryz.pinned (.plain (OpenSpec.upto imageEncodesSpec)) imageEncodesUptoCard

/-- THE SECOND FORM's CARD OF 'tappetlaw06.ImageRoom'. -/
def imageRoomUptoCard : Claim7 := { stood := { row := imageRoomUptoRow, standIns := [], harness := (true, "376de20448c26d9a2b0903b45b0d0d5890c7e81ba55ef67329bc22dc53d2cad0"), looks := true }, kinds := [], alts := [], laidByText := true, laidKinds := [.data, .data, .data, .handle, .sentinel, .sentinel], laidTests := true, laidLooks := .later }
def ImageRoomUptoCardSaid : Prop := Claim7.holds Tryz.pinned (.plain (OpenSpec.upto imageRoomSpec)) imageRoomUptoCard

/-- THE SECOND FORM's CARD OF 'tappetlaw06.ImageSize'. -/
def imageSizeUptoCard : Claim7 := { stood := { row := imageSizeUptoRow, standIns := [], harness := (true, "376de20448c26d9a2b0903b45b0d0d5890c7e81ba55ef67329bc22dc53d2cad0"), looks := true }, kinds := [], alts := [], laidByText := true, laidKinds := [.data, .data, .data, .handle, .sentinel, .sentinel], laidTests := true, laidLooks := .later }
def ImageSizeUptoCardSaid : Prop := Claim7.holds Tryz.pinned (.plain (OpenSpec.upto imageSizeSpec)) imageSizeUptoCard

/-- THE SECOND FORM's CARD OF 'tappetlaw06.ImageCut'. -/
def imageCutUptoCard : Claim7 := { stood := { row := imageCutUptoRow, standIns := [], harness := (true, "376de20448c26d9a2b0903b45b0d0d5890c7e81ba55ef67329bc22dc53d2cad0"), looks := true }, kinds := [], alts := [], laidByText := true, laidKinds := [.data, .data, .data, .handle, .sentinel, .sentinel], laidTests := true, laidLooks := .later }
def ImageCutUptoCardSaid : Prop := Claim7.holds Tryz.pinned (.plain (OpenSpec.upto imageCutSpec)) imageCutUptoCard
end Rows
end Go.Proofs.YtfhhjdfdfbelgaaGreatDoor
