/-
  DERIVED. GIVEN WITH THE SEED: THE CARDS: each row of YtmpcnhpdobdmcaaGreatDoorRows.lean that lists a variable, with what it lists TIED to the program's text (the seventh form; the later family's looks); each row that meets fmt, with fmt's text TOLD by the authors' own Lean function (tested against real Go, not proved from fmt's source: count such statements apart). THE CARD IS WHAT COUNTS. Prove the row's statement (the work); the ties are given (YtmpcnhpdobdmcaaGreatDoorTie.lean); close each card by the builder's one call (the guide's Derived/Test/ToyasCard.lean, 'card_holds'). Laid BY PROGRAM, IN A SANDBOX (cutbox-door.mjs). By AI agents, Wed Nov 11 2026. No macro, syntax, notation, axiom, sorry.
-/
import Derived.Test.YtmpcnhpdobdmcaaGreatDoorRows
import GoSem.ClaimSeven
namespace Go.Proofs.YtmpcnhpdobdmcaaGreatDoor
namespace Rows

/-- THE TIED CARD OF 'clerestorylaw12.StoreRooms'. -/
def storeRoomsCard : Claim7 := { stood := { row := storeRoomsRow, standIns := [], harness := (true, "bdec852fc436cfa413b8b3a2e9ed6dc54196238c2cfdf4131d2d5fc9d9875c2a"), looks := true }, kinds := [], alts := [], laidByText := true, laidKinds := [.sentinel, .sentinel, .sentinel, .sentinel], laidTests := true, laidLooks := .later }
def StoreRoomsCardSaid : Prop := Claim7.holds Tryz.pinned (.plain (OpenSpec.ofChange storeRoomsSpec)) storeRoomsCard

/-- THE TIED CARD OF 'clerestorylaw12.StoreNotes'. -/
def storeNotesCard : Claim7 := { stood := { row := storeNotesRow, standIns := [], harness := (true, "bdec852fc436cfa413b8b3a2e9ed6dc54196238c2cfdf4131d2d5fc9d9875c2a"), looks := true }, kinds := [], alts := [], laidByText := true, laidKinds := [.sentinel, .sentinel, .sentinel, .sentinel], laidTests := true, laidLooks := .later }
def StoreNotesCardSaid : Prop := Claim7.holds Tryz.pinned (.plain (OpenSpec.ofChange storeNotesSpec)) storeNotesCard

/-- THE TIED CARD OF 'clerestorylaw12.StoreTorn'. -/
def storeTornCard : Claim7 := { stood := { row := storeTornRow, standIns := [], harness := (true, "bdec852fc436cfa413b8b3a2e9ed6dc54196238c2cfdf4131d2d5fc9d9875c2a"), looks := true }, kinds := [], alts := [], laidByText := true, laidKinds := [.sentinel, .sentinel, .sentinel, .sentinel], laidTests := true, laidLooks := .later }
def StoreTornCardSaid : Prop := Claim7.holds Tryz.pinned (.plain (OpenSpec.ofChange storeTornSpec)) storeTornCard

/-- THE SECOND FORM's CARD OF 'clerestorylaw12.StoreRooms'. -/
def storeRoomsUptoCard : Claim7 := { stood := { row := storeRoomsUptoRow, standIns := [], harness := (true, "bdec852fc436cfa413b8b3a2e9ed6dc54196238c2cfdf4131d2d5fc9d9875c2a"), looks := true }, kinds := [], alts := [], laidByText := true, laidKinds := [.sentinel, .sentinel, .sentinel, .sentinel], laidTests := true, laidLooks := .later }
def StoreRoomsUptoCardSaid : Prop := Claim7.holds Tryz.pinned (.plain (OpenSpec.upto storeRoomsSpec)) storeRoomsUptoCard

/-- THE SECOND FORM's CARD OF 'clerestorylaw12.StoreNotes'. -/
def storeNotesUptoCard : Claim7 := { stood := { row := storeNotesUptoRow, standIns := [], harness := (true, "bdec852fc436cfa413b8b3a2e9ed6dc54196238c2cfdf4131d2d5fc9d9875c2a"), looks := true }, kinds := [], alts := [], laidByText := true, laidKinds := [.sentinel, .sentinel, .sentinel, .sentinel], laidTests := true, laidLooks := .later }
def StoreNotesUptoCardSaid : Prop := Claim7.holds Tryz.pinned (.plain (OpenSpec.upto storeNotesSpec)) storeNotesUptoCard

/-- THE SECOND FORM's CARD OF 'clerestorylaw12.StoreTorn'. -/
def storeTornUptoCard : Claim7 := { stood := { row := storeTornUptoRow, standIns := [], harness := (true, "bdec852fc436cfa413b8b3a2e9ed6dc54196238c2cfdf4131d2d5fc9d9875c2a"), looks := true }, kinds := [], alts := [], laidByText := true, laidKinds := [.sentinel, .sentinel, .sentinel, .sentinel], laidTests := true, laidLooks := .later }
def StoreTornUptoCardSaid : Prop := Claim7.holds Tryz.pinned (.plain (OpenSpec.upto storeTornSpec)) storeTornUptoCard
end Rows
end Go.Proofs.YtmpcnhpdobdmcaaGreatDoor
