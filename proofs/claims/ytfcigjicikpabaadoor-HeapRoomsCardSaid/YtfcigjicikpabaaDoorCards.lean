/-
  DERIVED. GIVEN WITH THE SEED: THE CARDS: each row of YtfcigjicikpabaaDoorRows.lean that lists a variable, with what it lists TIED to the program's text (the seventh form; the later family's looks); each row that meets fmt, with fmt's text TOLD by the authors' own Lean function (tested against real Go, not proved from fmt's source: count such statements apart). THE CARD IS WHAT COUNTS. Prove the row's statement (the work); the ties are given (YtfcigjicikpabaaDoorTie.lean); close each card by the builder's one call (the guide's Derived/Test/ToyasCard.lean, 'card_holds'). Laid BY PROGRAM, IN A SANDBOX (cutbox-door.mjs). By AI agents, Wed Nov 11 2026. No macro, syntax, notation, axiom, sorry.
-/
import Derived.Test.YtfcigjicikpabaaDoorRows
import GoSem.ClaimSeven
namespace Go.Proofs.YtfcigjicikpabaaDoor
namespace Rows

/-- THE TIED CARD OF 'tappetlaw02.HeapNone'. -/
def heapNoneCard : Claim7 := { stood := { row := heapNoneRow, standIns := [], harness := (true, "e9c3763116984e83860ed61e3db0927855f518f5c0caeef9fe339e38b8a2f745"), looks := true }, kinds := [], alts := [], laidByText := true, laidKinds := [.data, .data, .data, .handle], laidTests := true, laidLooks := .later }
def HeapNoneCardSaid : Prop := Claim7.holds Tryd.pinned (.plain (OpenSpec.ofChange heapNoneSpec)) heapNoneCard

/-- THE TIED CARD OF 'tappetlaw02.HeapRooms'. -/
def heapRoomsCard : Claim7 := { stood := { row := heapRoomsRow, standIns := [], harness := (true, "e9c3763116984e83860ed61e3db0927855f518f5c0caeef9fe339e38b8a2f745"), looks := true }, kinds := [], alts := [], laidByText := true, laidKinds := [.data, .data, .data, .handle], laidTests := true, laidLooks := .later }
def HeapRoomsCardSaid : Prop := Claim7.holds Tryd.pinned (.plain (OpenSpec.ofChange heapRoomsSpec)) heapRoomsCard

/-- THE SECOND FORM's CARD OF 'tappetlaw02.HeapNone'. -/
def heapNoneUptoCard : Claim7 := { stood := { row := heapNoneUptoRow, standIns := [], harness := (true, "e9c3763116984e83860ed61e3db0927855f518f5c0caeef9fe339e38b8a2f745"), looks := true }, kinds := [], alts := [], laidByText := true, laidKinds := [.data, .data, .data, .handle], laidTests := true, laidLooks := .later }
def HeapNoneUptoCardSaid : Prop := Claim7.holds Tryd.pinned (.plain (OpenSpec.upto heapNoneSpec)) heapNoneUptoCard

/-- THE SECOND FORM's CARD OF 'tappetlaw02.HeapRooms'. -/
def heapRoomsUptoCard : Claim7 := { stood := { row := heapRoomsUptoRow, standIns := [], harness := (true, "e9c3763116984e83860ed61e3db0927855f518f5c0caeef9fe339e38b8a2f745"), looks := true }, kinds := [], alts := [], laidByText := true, laidKinds := [.data, .data, .data, .handle], laidTests := true, laidLooks := .later }
def HeapRoomsUptoCardSaid : Prop := Claim7.holds Tryd.pinned (.plain (OpenSpec.upto heapRoomsSpec)) heapRoomsUptoCard
end Rows
end Go.Proofs.YtfcigjicikpabaaDoor
