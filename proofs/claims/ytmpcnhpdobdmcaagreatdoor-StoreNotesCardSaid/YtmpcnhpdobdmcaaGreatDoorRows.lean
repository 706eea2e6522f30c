/-
  NARROWER THAN 'FOR EVERY INPUT', by the rows' own cells (each row's printed sentence says how): StoreRooms: laid · StoreNotes: laid · StoreTorn: laid.
  DERIVED. THE GIVEN ROWS OF THIS SEAT. 3 by the template 'for every input the law returns true; each argument reads behind the call as it read before'; 0 by the template 'total and deterministic' (their statements: YtmpcnhpdobdmcaaGreatDoorTotals.lean).
  GIVEN WITH THE SEED: the statements are not yours to turn. If you find one false, say at which input.
  Laid BY PROGRAM, IN A SANDBOX (cutbox-rows.mjs): the forced cells as the released guide's own fill.sh prints them over the translation e56ee3af5d7b2055… (all of the seat's roots in one cut). By AI agents, Wed Nov 11 2026. No macro, syntax, notation, axiom, sorry.
-/
import Derived.Test.YtmpcnhpdobdmcaaGreatDoorChecked
import GoSem.Claim
import GoSem.ClaimJoined
import GoSem.ClaimMapViews
import Derived.JoinedTies
import Derived.KernelRfl
namespace Go.Proofs.YtmpcnhpdobdmcaaGreatDoor
/- THE CELL 'sum', in the pinned program and in every row, IS THE sha256 OF THE DUMP (.gsa) THAT YtmpcnhpdobdmcaaGreatDoorProg.lean LOADS. Nothing in Lean hashes anything: it is a label: what it is worth is what the hold of that sum in a sandbox is worth. -/
noncomputable def Tryz.pinned : Pinned := { name := "ytmpcnhpdobdmcaagreatdoor", sum := "e56ee3af5d7b2055b41a27862e7f6938e9b708ac0f2231fa6895411db7bcdb70", checked := Tryz.checked }
namespace Rows
def none {H : Type} : Left H := { results := [], args := [] }

/- WHAT THE LISTED PACKAGE-LEVEL VARIABLES READ AS WHEN THE CALL BEGINS. Each datum BY PROGRAM (the guide's laid-datum.mjs) off the statement by which the dump's own 'gosem.cut.vars' lays the variable. In a bare row this is a premise. The card (YtmpcnhpdobdmcaaGreatDoorCards.lean) ties it to the program's text. -/
def laid_clerestory_store_errArg {H : Type} : DataW H := .iface "*errors.errorString" (.ptr (.agg [.lit (.string [97, 32, 98, 97, 116, 99, 104, 32, 116, 104, 97, 116, 32, 109, 97, 121, 32, 110, 111, 116, 32, 98, 101])]))
def laid_clerestory_store_errBig {H : Type} : DataW H := .iface "*errors.errorString" (.ptr (.agg [.lit (.string [109, 111, 114, 101, 32, 116, 104, 97, 110, 32, 116, 104, 101, 114, 101, 32, 109, 97, 121, 32, 98, 101])]))
def laid_clerestory_store_errBytes {H : Type} : DataW H := .iface "*errors.errorString" (.ptr (.agg [.lit (.string [98, 121, 116, 101, 115, 32, 111, 102, 32, 119, 104, 105, 99, 104, 32, 110, 111, 32, 115, 116, 111, 114, 101, 32, 105, 115, 32, 116, 104, 101, 32, 109, 97, 107, 101, 114])]))
def laid_clerestory_store_errNone {H : Type} : DataW H := .iface "*errors.errorString" (.ptr (.agg [.lit (.string [97, 32, 102, 105, 108, 101, 32, 116, 104, 97, 116, 32, 105, 115, 32, 110, 111, 116, 32, 116, 104, 101, 114, 101])]))

/-- 'clerestorylaw12.StoreRooms': WHATEVER THE INPUT: true; the input reads as it did. -/
def storeRoomsSpec : ChangeSpec := { name := "storeRooms", fn := fun _ => fun
  | [d1, d2, d3] => { results := [.lit (.bool true)], args := [d1, d2, d3] }
  | _ => none }
def storeRoomsRow : OpenClaim := { program := "ytmpcnhpdobdmcaagreatdoor", sum := "e56ee3af5d7b2055b41a27862e7f6938e9b708ac0f2231fa6895411db7bcdb70", func := "clerestory/clerestorylaw12.StoreRooms", spec := "storeRooms", inPlace := ["internal/bytealg.abigen_runtime_cmpstring", "internal/reflectlite.TypeOf", "maps.clone"], unfollowed := true, recurses := true, named := ["clerestory/store.errBytes", "clerestory/store.errNone", "clerestory/store.errArg", "clerestory/store.errBig"], apart := false, laid := [("clerestory/store.errArg", laid_clerestory_store_errArg), ("clerestory/store.errBig", laid_clerestory_store_errBig), ("clerestory/store.errBytes", laid_clerestory_store_errBytes), ("clerestory/store.errNone", laid_clerestory_store_errNone)] }
def StoreRoomsSaid : Prop := storeRoomsRow.holds Tryz.pinned (OpenSpec.ofChange storeRoomsSpec)

/-- ITS FALSE NEIGHBOUR: 'it returns false'. Refute it at one input. -/
def storeRoomsWrong : ChangeSpec := { name := "storeRooms", fn := fun _ => fun
  | [d1, d2, d3] => { results := [.lit (.bool false)], args := [d1, d2, d3] }
  | _ => none }
def StoreRoomsWrongFalsely : Prop := storeRoomsRow.holds Tryz.pinned (OpenSpec.ofChange storeRoomsWrong)

/-- 'clerestorylaw12.StoreNotes': WHATEVER THE INPUT: true; the input reads as it did. -/
def storeNotesSpec : ChangeSpec := { name := "storeNotes", fn := fun _ => fun
  | [d] => { results := [.lit (.bool true)], args := [d] }
  | _ => none }
def storeNotesRow : OpenClaim := { program := "ytmpcnhpdobdmcaagreatdoor", sum := "e56ee3af5d7b2055b41a27862e7f6938e9b708ac0f2231fa6895411db7bcdb70", func := "clerestory/clerestorylaw12.StoreNotes", spec := "storeNotes", inPlace := ["internal/bytealg.abigen_runtime_cmpstring", "internal/reflectlite.TypeOf", "maps.clone"], unfollowed := true, recurses := true, named := ["clerestory/store.errBytes", "clerestory/store.errNone", "clerestory/store.errArg", "clerestory/store.errBig"], apart := false, laid := [("clerestory/store.errArg", laid_clerestory_store_errArg), ("clerestory/store.errBig", laid_clerestory_store_errBig), ("clerestory/store.errBytes", laid_clerestory_store_errBytes), ("clerestory/store.errNone", laid_clerestory_store_errNone)] }
def StoreNotesSaid : Prop := storeNotesRow.holds Tryz.pinned (OpenSpec.ofChange storeNotesSpec)

/-- ITS FALSE NEIGHBOUR: 'it returns false'. Refute it at one input. -/
def storeNotesWrong : ChangeSpec := { name := "storeNotes", fn := fun _ => fun
  | [d] => { results := [.lit (.bool false)], args := [d] }
  | _ => none }
def StoreNotesWrongFalsely : Prop := storeNotesRow.holds Tryz.pinned (OpenSpec.ofChange storeNotesWrong)

/-- 'clerestorylaw12.StoreTorn': WHATEVER THE INPUT: true; the input reads as it did. -/
def storeTornSpec : ChangeSpec := { name := "storeTorn", fn := fun _ => fun
  | [d1, d2, d3] => { results := [.lit (.bool true)], args := [d1, d2, d3] }
  | _ => none }
def storeTornRow : OpenClaim := { program := "ytmpcnhpdobdmcaagreatdoor", sum := "e56ee3af5d7b2055b41a27862e7f6938e9b708ac0f2231fa6895411db7bcdb70", func := "clerestory/clerestorylaw12.StoreTorn", spec := "storeTorn", inPlace := ["internal/bytealg.abigen_runtime_cmpstring", "internal/reflectlite.TypeOf", "maps.clone"], unfollowed := true, recurses := true, named := ["clerestory/store.errBytes", "clerestory/store.errNone", "clerestory/store.errArg", "clerestory/store.errBig"], apart := false, laid := [("clerestory/store.errArg", laid_clerestory_store_errArg), ("clerestory/store.errBig", laid_clerestory_store_errBig), ("clerestory/store.errBytes", laid_clerestory_store_errBytes), ("clerestory/store.errNone", laid_clerestory_store_errNone)] }
def StoreTornSaid : Prop := storeTornRow.holds Tryz.pinned (OpenSpec.ofChange storeTornSpec)

/-- ITS FALSE NEIGHBOUR: 'it returns false'. Refute it at one input. -/
def storeTornWrong : ChangeSpec := { name := "storeTorn", fn := fun _ => fun
  | [d1, d2, d3] => { results := [.lit (.bool false)], args := [d1, d2, d3] }
  | _ => none }
def StoreTornWrongFalsely : Prop := storeTornRow.holds Tryz.pinned (OpenSpec.ofChange storeTornWrong)

/- THE SECOND FORM. 'bulk': how many values and letters a reading holds, each counted each time it is reached (what is shared counts as often as it is met; a slice's spare places count too). A statement '..UptoSaid' is the law's where the arguments, and the package variables that the reading takes, are together of bulk at most 1048576: NARROWER than '..Said'. Prove '..Said' where nothing that the law and all that it calls make is longer than what came in: it says more and counts as full. Else prove '..UptoSaid'. A law counts once. -/
mutual
def uptoBulk {H : Type} : DataW H → Nat
  | .lit (.string bytes) => bytes.length + 1
  | .lit _ => 1
  | .nil => 1
  | .ptr d => uptoBulk d + 1
  | .slice elems spare => uptoBulkAll elems + uptoBulkAll spare + 1
  | .agg parts => uptoBulkAll parts + 1
  | .iface _ d => uptoBulk d + 1
  | .map entries => uptoBulkEntries entries + 1
  | .held _ => 1
def uptoBulkAll {H : Type} : List (DataW H) → Nat
  | [] => 0
  | d :: r => uptoBulk d + uptoBulkAll r
def uptoBulkEntries {H : Type} : List (Lit × DataW H) → Nat
  | [] => 0
  | x :: r => uptoBulkEntry x + uptoBulkEntries r
def uptoBulkEntry {H : Type} : Lit × DataW H → Nat
  | (.string bytes, d) => bytes.length + uptoBulk d + 1
  | (_, d) => uptoBulk d + 1
 end
def uptoSmall : (H : Type) → List (DataW H) → Bool := fun _ ds => decide (uptoBulkAll ds ≤ 1048576)
def OpenSpec.upto (s : _root_.Go.ChangeSpec) : _root_.Go.OpenSpec := { _root_.Go.OpenSpec.ofChange s with cond := some uptoSmall }

/-- 'clerestorylaw12.StoreRooms', WHERE WHAT IT READS IS OF BULK AT MOST 1048576: true; the input reads as it did. -/
def storeRoomsUptoRow : OpenClaim := { program := "ytmpcnhpdobdmcaagreatdoor", sum := "e56ee3af5d7b2055b41a27862e7f6938e9b708ac0f2231fa6895411db7bcdb70", func := "clerestory/clerestorylaw12.StoreRooms", spec := "storeRooms", inPlace := ["internal/bytealg.abigen_runtime_cmpstring", "internal/reflectlite.TypeOf", "maps.clone"], unfollowed := true, recurses := true, named := ["clerestory/store.errBytes", "clerestory/store.errNone", "clerestory/store.errArg", "clerestory/store.errBig"], apart := false, laid := [("clerestory/store.errArg", laid_clerestory_store_errArg), ("clerestory/store.errBig", laid_clerestory_store_errBig), ("clerestory/store.errBytes", laid_clerestory_store_errBytes), ("clerestory/store.errNone", laid_clerestory_store_errNone)], narrowed := true }
def StoreRoomsUptoSaid : Prop := storeRoomsUptoRow.holds Tryz.pinned (OpenSpec.upto storeRoomsSpec)

/-- 'clerestorylaw12.StoreNotes', WHERE WHAT IT READS IS OF BULK AT MOST 1048576: true; the input reads as it did. -/
def storeNotesUptoRow : OpenClaim := { program := "ytmpcnhpdobdmcaagreatdoor", sum := "e56ee3af5d7b2055b41a27862e7f6938e9b708ac0f2231fa6895411db7bcdb70", func := "clerestory/clerestorylaw12.StoreNotes", spec := "storeNotes", inPlace := ["internal/bytealg.abigen_runtime_cmpstring", "internal/reflectlite.TypeOf", "maps.clone"], unfollowed := true, recurses := true, named := ["clerestory/store.errBytes", "clerestory/store.errNone", "clerestory/store.errArg", "clerestory/store.errBig"], apart := false, laid := [("clerestory/store.errArg", laid_clerestory_store_errArg), ("clerestory/store.errBig", laid_clerestory_store_errBig), ("clerestory/store.errBytes", laid_clerestory_store_errBytes), ("clerestory/store.errNone", laid_clerestory_store_errNone)], narrowed := true }
def StoreNotesUptoSaid : Prop := storeNotesUptoRow.holds Tryz.pinned (OpenSpec.upto storeNotesSpec)

/-- 'clerestorylaw12.StoreTorn', WHERE WHAT IT READS IS OF BULK AT MOST 1048576: true; the input reads as it did. -/
def storeTornUptoRow : OpenClaim := { program := "ytmpcnhpdobdmcaagreatdoor", sum := "e56ee3af5d7b2055b41a27862e7f6938e9b708ac0f2231fa6895411db7bcdb70", func := "clerestory/clerestorylaw12.StoreTorn", spec := "storeTorn", inPlace := ["internal/bytealg.abigen_runtime_cmpstring", "internal/reflectlite.TypeOf", "maps.clone"], unfollowed := true, recurses := true, named := ["clerestory/store.errBytes", "clerestory/store.errNone", "clerestory/store.errArg", "clerestory/store.errBig"], apart := false, laid := [("clerestory/store.errArg", laid_clerestory_store_errArg), ("clerestory/store.errBig", laid_clerestory_store_errBig), ("clerestory/store.errBytes", laid_clerestory_store_errBytes), ("clerestory/store.errNone", laid_clerestory_store_errNone)], narrowed := true }
def StoreTornUptoSaid : Prop := storeTornUptoRow.holds Tryz.pinned (OpenSpec.upto storeTornSpec)

end Rows
end Go.Proofs.YtmpcnhpdobdmcaaGreatDoor
