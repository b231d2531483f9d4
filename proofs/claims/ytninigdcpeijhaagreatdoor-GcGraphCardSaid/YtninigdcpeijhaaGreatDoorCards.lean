/-
  DERIVED. GIVEN WITH THE SEED: THE CARDS: each row of YtninigdcpeijhaaGreatDoorRows.lean that lists a variable, with what it lists TIED to the program's text (the seventh form; the later family's looks); each row that meets fmt, with fmt's text TOLD by the authors' own Lean function (tested against real Go, not proved from fmt's source: count such statements apart). THE CARD IS WHAT COUNTS. Prove the row's statement (the work); the ties are given (YtninigdcpeijhaaGreatDoorTie.lean); close each card by the builder's one call (the guide's Derived/Test/ToyasCard.lean, 'card_holds'). Laid BY PROGRAM, IN A SANDBOX (cutbox-door.mjs). By AI agents, Wed Nov 11 2026. No macro, syntax, notation, axiom, sorry.
-/
import Derived.Test.YtninigdcpeijhaaGreatDoorRows
import GoSem.ClaimSeven
namespace Go.Proofs.YtninigdcpeijhaaGreatDoor
namespace Rows

/-- THE TIED CARD OF 'tappetlaw03.GcRuns'. -/
def gcRunsCard : Claim7 := { stood := { row := gcRunsRow, standIns := [], harness := (true, "55d152893cc39afe16c5cad556801800579f9b572f28c5eec4b87ac093a8ef64"), looks := true }, kinds := [], alts := [], laidByText := true, laidKinds := [.data, .data, .data, .handle], laidTests := true, laidLooks := .later }
def GcRunsCardSaid : Prop := Claim7.holds Tryz.pinned (.plain (OpenSpec.ofChange gcRunsSpec)) gcRunsCard

/-- THE TIED CARD OF 'tappetlaw03.GcTwice'. -/
def gcTwiceCard : Claim7 := { stood := { row := gcTwiceRow, standIns := [], harness := (true, "55d152893cc39afe16c5cad556801800579f9b572f28c5eec4b87ac093a8ef64"), looks := true }, kinds := [], alts := [], laidByText := true, laidKinds := [.data, .data, .data, .handle], laidTests := true, laidLooks := .later }
def GcTwiceCardSaid : Prop := Claim7.holds Tryz.pinned (.plain (OpenSpec.ofChange gcTwiceSpec)) gcTwiceCard

/-- THE TIED CARD OF 'tappetlaw03.GcGraph'. -/
def gcGraphCard : Claim7 := { stood := { row := gcGraphRow, standIns := [], harness := (true, "55d152893cc39afe16c5cad556801800579f9b572f28c5eec4b87ac093a8ef64"), looks := true }, kinds := [], alts := [], laidByText := true, laidKinds := [.data, .data, .data, .handle], laidTests := true, laidLooks := .later }
def GcGraphCardSaid : Prop := Claim7.holds Tryz.pinned (.plain (OpenSpec.ofChange gcGraphSpec)) gcGraphCard

/-- THE TIED CARD OF 'tappetlaw04.CodePacks'. -/
def codePacksCard : Claim7 := { stood := { row := codePacksRow, standIns := [], harness := (true, "55d152893cc39afe16c5cad556801800579f9b572f28c5eec4b87ac093a8ef64"), looks := true }, kinds := [], alts := [], laidByText := true, laidKinds := [.data, .data, .data, .handle, .sentinel], laidTests := true, laidLooks := .later }
def CodePacksCardSaid : Prop := Claim7.holds Tryz.pinned (.plain (OpenSpec.ofChange codePacksSpec)) codePacksCard

/-- THE TIED CARD OF 'tappetlaw04.CodeWrites'. -/
def codeWritesCard : Claim7 := { stood := { row := codeWritesRow, standIns := [], harness := (true, "55d152893cc39afe16c5cad556801800579f9b572f28c5eec4b87ac093a8ef64"), looks := true }, kinds := [], alts := [], laidByText := true, laidKinds := [.data, .data, .data, .handle, .sentinel], laidTests := true, laidLooks := .later }
def CodeWritesCardSaid : Prop := Claim7.holds Tryz.pinned (.plain (OpenSpec.ofChange codeWritesSpec)) codeWritesCard

/-- THE TIED CARD OF 'tappetlaw04.CodeReads'. -/
def codeReadsCard : Claim7 := { stood := { row := codeReadsRow, standIns := [], harness := (true, "55d152893cc39afe16c5cad556801800579f9b572f28c5eec4b87ac093a8ef64"), looks := true }, kinds := [], alts := [], laidByText := true, laidKinds := [.data, .data, .data, .handle, .sentinel], laidTests := true, laidLooks := .later }
def CodeReadsCardSaid : Prop := Claim7.holds Tryz.pinned (.plain (OpenSpec.ofChange codeReadsSpec)) codeReadsCard

/-- THE TIED CARD OF 'tappetlaw04.CodeBack'. -/
def codeBackCard : Claim7 := { stood := { row := codeBackRow, standIns := [], harness := (true, "55d152893cc39afe16c5cad556801800579f9b572f28c5eec4b87ac093a8ef64"), looks := true }, kinds := [], alts := [], laidByText := true, laidKinds := [.data, .data, .data, .handle, .sentinel], laidTests := true, laidLooks := .later }
def CodeBackCardSaid : Prop := Claim7.holds Tryz.pinned (.plain (OpenSpec.ofChange codeBackSpec)) codeBackCard

/-- THE TIED CARD OF 'tappetlaw04.CodeApart'. -/
def codeApartCard : Claim7 := { stood := { row := codeApartRow, standIns := [], harness := (true, "55d152893cc39afe16c5cad556801800579f9b572f28c5eec4b87ac093a8ef64"), looks := true }, kinds := [], alts := [], laidByText := true, laidKinds := [.data, .data, .data, .handle, .sentinel], laidTests := true, laidLooks := .later }
def CodeApartCardSaid : Prop := Claim7.holds Tryz.pinned (.plain (OpenSpec.ofChange codeApartSpec)) codeApartCard

/-- THE TIED CARD OF 'tappetlaw04.CodeFields'. -/
def codeFieldsCard : Claim7 := { stood := { row := codeFieldsRow, standIns := [], harness := (true, "55d152893cc39afe16c5cad556801800579f9b572f28c5eec4b87ac093a8ef64"), looks := true }, kinds := [], alts := [], laidByText := true, laidKinds := [.data, .data, .data, .handle, .sentinel], laidTests := true, laidLooks := .later }
def CodeFieldsCardSaid : Prop := Claim7.holds Tryz.pinned (.plain (OpenSpec.ofChange codeFieldsSpec)) codeFieldsCard

/-- THE SECOND FORM's CARD OF 'tappetlaw03.GcRuns'. -/
def gcRunsUptoCard : Claim7 := { stood := { row := gcRunsUptoRow, standIns := [], harness := (true, "55d152893cc39afe16c5cad556801800579f9b572f28c5eec4b87ac093a8ef64"), looks := true }, kinds := [], alts := [], laidByText := true, laidKinds := [.data, .data, .data, .handle], laidTests := true, laidLooks := .later }
def GcRunsUptoCardSaid : Prop := Claim7.holds Tryz.pinned (.plain (OpenSpec.upto gcRunsSpec)) gcRunsUptoCard

/-- THE SECOND FORM's CARD OF 'tappetlaw03.GcTwice'. -/
def gcTwiceUptoCard : Claim7 := { stood := { row := gcTwiceUptoRow, standIns := [], harness := (true, "55d152893cc39afe16c5cad556801800579f9b572f28c5eec4b87ac093a8ef64"), looks := true }, kinds := [], alts := [], laidByText := true, laidKinds := [.data, .data, .data, .handle], laidTests := true, laidLooks := .later }
def GcTwiceUptoCardSaid : Prop := Claim7.holds Tryz.pinned (.plain (OpenSpec.upto gcTwiceSpec)) gcTwiceUptoCard

/-- THE SECOND FORM's CARD OF 'tappetlaw03.GcGraph'. -/
def gcGraphUptoCard : Claim7 := { stood := { row := gcGraphUptoRow, standIns := [], harness := (true, "55d152893cc39afe16c5cad556801800579f9b572f28c5eec4b87ac093a8ef64"), looks := true }, kinds := [], alts := [], laidByText := true, laidKinds := [.data, .data, .data, .handle], laidTests := true, laidLooks := .later }
def GcGraphUptoCardSaid : Prop := Claim7.holds Tryz.pinned (.plain (OpenSpec.upto gcGraphSpec)) gcGraphUptoCard

/-- THE SECOND FORM's CARD OF 'tappetlaw04.CodePacks'. -/
def codePacksUptoCard : Claim7 := { stood := { row := codePacksUptoRow, standIns := [], harness := (true, "55d152893cc39afe16c5cad556801800579f9b572f28c5eec4b87ac093a8ef64"), looks := true }, kinds := [], alts := [], laidByText := true, laidKinds := [.data, .data, .data, .handle, .sentinel], laidTests := true, laidLooks := .later }
def CodePacksUptoCardSaid : Prop := Claim7.holds Tryz.pinned (.plain (OpenSpec.upto codePacksSpec)) codePacksUptoCard

/-- THE SECOND FORM's CARD OF 'tappetlaw04.CodeWrites'. -/
def codeWritesUptoCard : Claim7 := { stood := { row := codeWritesUptoRow, standIns := [], harness := (true, "55d152893cc39afe16c5cad556801800579f9b572f28c5eec4b87ac093a8ef64"), looks := true }, kinds := [], alts := [], laidByText := true, laidKinds := [.data, .data, .data, .handle, .sentinel], laidTests := true, laidLooks := .later }
def CodeWritesUptoCardSaid : Prop := Claim7.holds Tryz.pinned (.plain (OpenSpec.upto codeWritesSpec)) codeWritesUptoCard

/-- THE SECOND FORM's CARD OF 'tappetlaw04.CodeReads'. -/
def codeReadsUptoCard : Claim7 := { stood := { row := codeReadsUptoRow, standIns := [], harness := (true, "55d152893cc39afe16c5cad556801800579f9b572f28c5eec4b87ac093a8ef64"), looks := true }, kinds := [], alts := [], laidByText := true, laidKinds := [.data, .data, .data, .handle, .sentinel], laidTests := true, laidLooks := .later }
def CodeReadsUptoCardSaid : Prop := Claim7.holds Tryz.pinned (.plain (OpenSpec.upto codeReadsSpec)) codeReadsUptoCard

/-- THE SECOND FORM's CARD OF 'tappetlaw04.CodeBack'. -/
def codeBackUptoCard : Claim7 := { stood := { row := codeBackUptoRow, standIns := [], harness := (true, "55d152893cc39afe16c5cad556801800579f9b572f28c5eec4b87ac093a8ef64"), looks := true }, kinds := [], alts := [], laidByText := true, laidKinds := [.data, .data, .data, .handle, .sentinel], laidTests := true, laidLooks := .later }
def CodeBackUptoCardSaid : Prop := Claim7.holds Tryz.pinned (.plain (OpenSpec.upto codeBackSpec)) codeBackUptoCard

/-- THE SECOND FORM's CARD OF 'tappetlaw04.CodeApart'. -/
def codeApartUptoCard : Claim7 := { stood := { row := codeApartUptoRow, standIns := [], harness := (true, "55d152893cc39afe16c5cad556801800579f9b572f28c5eec4b87ac093a8ef64"), looks := true }, kinds := [], alts := [], laidByText := true, laidKinds := [.data, .data, .data, .handle, .sentinel], laidTests := true, laidLooks := .later }
def CodeApartUptoCardSaid : Prop := Claim7.holds Tryz.pinned (.plain (OpenSpec.upto codeApartSpec)) codeApartUptoCard

/-- THE SECOND FORM's CARD OF 'tappetlaw04.CodeFields'. -/
def codeFieldsUptoCard : Claim7 := { stood := { row := codeFieldsUptoRow, standIns := [], harness := (true, "55d152893cc39afe16c5cad556801800579f9b572f28c5eec4b87ac093a8ef64"), looks := true }, kinds := [], alts := [], laidByText := true, laidKinds := [.data, .data, .data, .handle, .sentinel], laidTests := true, laidLooks := .later }
def CodeFieldsUptoCardSaid : Prop := Claim7.holds Tryz.pinned (.plain (OpenSpec.upto codeFieldsSpec)) codeFieldsUptoCard
end Rows
end Go.Proofs.YtninigdcpeijhaaGreatDoor
