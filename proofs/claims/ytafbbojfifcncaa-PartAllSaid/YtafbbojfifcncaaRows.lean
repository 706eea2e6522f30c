/-
  No cell of these rows narrows 'for every input' (looked for: loops, veiled, ifaces, maps, wideKeys, modest, calm, conditions, laid).
  DERIVED. THE GIVEN ROWS OF THIS SEAT. 5 by the template 'for every input the law returns true; each argument reads behind the call as it read before'; 0 by the template 'total and deterministic' (their statements: YtafbbojfifcncaaTotals.lean).
  GIVEN WITH THE SEED: the statements are not yours to turn. If you find one false, say at which input.
  Laid BY PROGRAM, IN A SANDBOX (cutbox-rows.mjs): the forced cells as the released guide's own fill.sh prints them over the translation e1cc5927450e6095… (all of the seat's roots in one cut). By AI agents, Wed Nov 11 2026. No macro, syntax, notation, axiom, sorry.
-/
import Derived.Test.YtafbbojfifcncaaChecked
import GoSem.Claim
import GoSem.ClaimJoined
import GoSem.ClaimMapViews
import Derived.JoinedTies
import Derived.KernelRfl
namespace Go.Proofs.Ytafbbojfifcncaa
/- THE CELL 'sum', in the pinned program and in every row, IS THE sha256 OF THE DUMP (.gsa) THAT YtafbbojfifcncaaProg.lean LOADS. Nothing in Lean hashes anything: it is a label: what it is worth is what the hold of that sum in a sandbox is worth. -/
noncomputable def Try.pinned : Pinned := { name := "ytafbbojfifcncaa", sum := "e1cc5927450e60954b0095c7bfb7c623b982808eecafcdabfc20906d2983f97b", checked := Try.checked }
namespace Rows
def none {H : Type} : Left H := { results := [], args := [] }

/-- 'clerestorylaw08.PartAll': WHATEVER THE INPUT: true; the input reads as it did. -/
def partAllSpec : ChangeSpec := { name := "partAll", fn := fun _ => fun
  | [d1, d2, d3, d4, d5] => { results := [.lit (.bool true)], args := [d1, d2, d3, d4, d5] }
  | _ => none }
def partAllRow : OpenClaim := { program := "ytafbbojfifcncaa", sum := "e1cc5927450e60954b0095c7bfb7c623b982808eecafcdabfc20906d2983f97b", func := "clerestory/clerestorylaw08.PartAll", spec := "partAll", inPlace := ["internal/bytealg.abigen_runtime_cmpstring"], unfollowed := true, recurses := true, apart := false }
def PartAllSaid : Prop := partAllRow.holds Try.pinned (OpenSpec.ofChange partAllSpec)

/-- ITS FALSE NEIGHBOUR: 'it returns false'. Refute it at one input. -/
def partAllWrong : ChangeSpec := { name := "partAll", fn := fun _ => fun
  | [d1, d2, d3, d4, d5] => { results := [.lit (.bool false)], args := [d1, d2, d3, d4, d5] }
  | _ => none }
def PartAllWrongFalsely : Prop := partAllRow.holds Try.pinned (OpenSpec.ofChange partAllWrong)

/-- 'clerestorylaw08.PartJoins': WHATEVER THE INPUT: true; the input reads as it did. -/
def partJoinsSpec : ChangeSpec := { name := "partJoins", fn := fun _ => fun
  | [d1, d2, d3, d4] => { results := [.lit (.bool true)], args := [d1, d2, d3, d4] }
  | _ => none }
def partJoinsRow : OpenClaim := { program := "ytafbbojfifcncaa", sum := "e1cc5927450e60954b0095c7bfb7c623b982808eecafcdabfc20906d2983f97b", func := "clerestory/clerestorylaw08.PartJoins", spec := "partJoins", inPlace := ["internal/bytealg.abigen_runtime_cmpstring"], unfollowed := true, recurses := true, apart := false }
def PartJoinsSaid : Prop := partJoinsRow.holds Try.pinned (OpenSpec.ofChange partJoinsSpec)

/-- ITS FALSE NEIGHBOUR: 'it returns false'. Refute it at one input. -/
def partJoinsWrong : ChangeSpec := { name := "partJoins", fn := fun _ => fun
  | [d1, d2, d3, d4] => { results := [.lit (.bool false)], args := [d1, d2, d3, d4] }
  | _ => none }
def PartJoinsWrongFalsely : Prop := partJoinsRow.holds Try.pinned (OpenSpec.ofChange partJoinsWrong)

/-- 'clerestorylaw08.PartSees': WHATEVER THE INPUT: true; the input reads as it did. -/
def partSeesSpec : ChangeSpec := { name := "partSees", fn := fun _ => fun
  | [d1, d2, d3] => { results := [.lit (.bool true)], args := [d1, d2, d3] }
  | _ => none }
def partSeesRow : OpenClaim := { program := "ytafbbojfifcncaa", sum := "e1cc5927450e60954b0095c7bfb7c623b982808eecafcdabfc20906d2983f97b", func := "clerestory/clerestorylaw08.PartSees", spec := "partSees", inPlace := ["internal/bytealg.abigen_runtime_cmpstring"], unfollowed := true, recurses := true, apart := false }
def PartSeesSaid : Prop := partSeesRow.holds Try.pinned (OpenSpec.ofChange partSeesSpec)

/-- ITS FALSE NEIGHBOUR: 'it returns false'. Refute it at one input. -/
def partSeesWrong : ChangeSpec := { name := "partSees", fn := fun _ => fun
  | [d1, d2, d3] => { results := [.lit (.bool false)], args := [d1, d2, d3] }
  | _ => none }
def PartSeesWrongFalsely : Prop := partSeesRow.holds Try.pinned (OpenSpec.ofChange partSeesWrong)

/-- 'clerestorylaw08.PartRooms': WHATEVER THE INPUT: true; the input reads as it did. -/
def partRoomsSpec : ChangeSpec := { name := "partRooms", fn := fun _ => fun
  | [d1, d2, d3] => { results := [.lit (.bool true)], args := [d1, d2, d3] }
  | _ => none }
def partRoomsRow : OpenClaim := { program := "ytafbbojfifcncaa", sum := "e1cc5927450e60954b0095c7bfb7c623b982808eecafcdabfc20906d2983f97b", func := "clerestory/clerestorylaw08.PartRooms", spec := "partRooms", inPlace := ["internal/bytealg.abigen_runtime_cmpstring"], unfollowed := true, recurses := true, apart := false }
def PartRoomsSaid : Prop := partRoomsRow.holds Try.pinned (OpenSpec.ofChange partRoomsSpec)

/-- ITS FALSE NEIGHBOUR: 'it returns false'. Refute it at one input. -/
def partRoomsWrong : ChangeSpec := { name := "partRooms", fn := fun _ => fun
  | [d1, d2, d3] => { results := [.lit (.bool false)], args := [d1, d2, d3] }
  | _ => none }
def PartRoomsWrongFalsely : Prop := partRoomsRow.holds Try.pinned (OpenSpec.ofChange partRoomsWrong)

/-- 'clerestorylaw08.PartGones': WHATEVER THE INPUT: true; the input reads as it did. -/
def partGonesSpec : ChangeSpec := { name := "partGones", fn := fun _ => fun
  | [d1, d2, d3] => { results := [.lit (.bool true)], args := [d1, d2, d3] }
  | _ => none }
def partGonesRow : OpenClaim := { program := "ytafbbojfifcncaa", sum := "e1cc5927450e60954b0095c7bfb7c623b982808eecafcdabfc20906d2983f97b", func := "clerestory/clerestorylaw08.PartGones", spec := "partGones", inPlace := ["internal/bytealg.abigen_runtime_cmpstring"], unfollowed := true, recurses := true, apart := false }
def PartGonesSaid : Prop := partGonesRow.holds Try.pinned (OpenSpec.ofChange partGonesSpec)

/-- ITS FALSE NEIGHBOUR: 'it returns false'. Refute it at one input. -/
def partGonesWrong : ChangeSpec := { name := "partGones", fn := fun _ => fun
  | [d1, d2, d3] => { results := [.lit (.bool false)], args := [d1, d2, d3] }
  | _ => none }
def PartGonesWrongFalsely : Prop := partGonesRow.holds Try.pinned (OpenSpec.ofChange partGonesWrong)

/- THE SECOND FORM. 'bulk': how many values and letters a reading holds, each counted each time it is reached (what is shared counts as often as it is met; a slice's spare places count too). A statement '..UptoSaid' is the law's where the arguments, and the package variables that the reading takes, are together of bulk at most 1048576: NARROWER than '..Said'. Prove '..Said' where nothing that the law and all that it calls make is longer than what came in: it says more and counts as full. Else prove '..UptoSaid'. A law counts once. -/
mutual
def uptoBulk {H : Type} : DataW H → Nat
  | .lit (.string bytes) => bytes.length + 1
  | .lit _ => 1
  | .nil => 1
  | .ptr d => uptoBulk d + 1
  | .slice elems spare => uptoBulkAll elems + uptoBulkAll spare + 1
  | .agg parts => uptoBulkAll parts + 1
  | .iface _ d => uptoBulk d + 1
  | .map entries => uptoBulkEntries entries + 1
  | .held _ => 1
def uptoBulkAll {H : Type} : List (DataW H) → Nat
  | [] => 0
  | d :: r => uptoBulk d + uptoBulkAll r
def uptoBulkEntries {H : Type} : List (Lit × DataW H) → Nat
  | [] => 0
  | x :: r => uptoBulkEntry x + uptoBulkEntries r
def uptoBulkEntry {H : Type} : Lit × DataW H → Nat
  | (.string bytes, d) => bytes.length + uptoBulk d + 1
  | (_, d) => uptoBulk d + 1
 end
def uptoSmall : (H : Type) → List (DataW H) → Bool := fun _ ds => decide (uptoBulkAll ds ≤ 1048576)
def OpenSpec.upto (s : _root_.Go.ChangeSpec) : _root_.Go.OpenSpec := { _root_.Go.OpenSpec.ofChange s with cond := some uptoSmall }

/-- 'clerestorylaw08.PartAll', WHERE WHAT IT READS IS OF BULK AT MOST 1048576: true; the input reads as it did. -/
def partAllUptoRow : OpenClaim := { program := "ytafbbojfifcncaa", sum := "e1cc5927450e60954b0095c7bfb7c623b982808eecafcdabfc20906d2983f97b", func := "clerestory/clerestorylaw08.PartAll", spec := "partAll", inPlace := ["internal/bytealg.abigen_runtime_cmpstring"], unfollowed := true, recurses := true, apart := false, narrowed := true }
def PartAllUptoSaid : Prop := partAllUptoRow.holds Try.pinned (OpenSpec.upto partAllSpec)

/-- 'clerestorylaw08.PartJoins', WHERE WHAT IT READS IS OF BULK AT MOST 1048576: true; the input reads as it did. -/
def partJoinsUptoRow : OpenClaim := { program := "ytafbbojfifcncaa", sum := "e1cc5927450e60954b0095c7bfb7c623b982808eecafcdabfc20906d2983f97b", func := "clerestory/clerestorylaw08.PartJoins", spec := "partJoins", inPlace := ["internal/bytealg.abigen_runtime_cmpstring"], unfollowed := true, recurses := true, apart := false, narrowed := true }
def PartJoinsUptoSaid : Prop := partJoinsUptoRow.holds Try.pinned (OpenSpec.upto partJoinsSpec)

/-- 'clerestorylaw08.PartSees', WHERE WHAT IT READS IS OF BULK AT MOST 1048576: true; the input reads as it did. -/
def partSeesUptoRow : OpenClaim := { program := "ytafbbojfifcncaa", sum := "e1cc5927450e60954b0095c7bfb7c623b982808eecafcdabfc20906d2983f97b", func := "clerestory/clerestorylaw08.PartSees", spec := "partSees", inPlace := ["internal/bytealg.abigen_runtime_cmpstring"], unfollowed := true, recurses := true, apart := false, narrowed := true }
def PartSeesUptoSaid : Prop := partSeesUptoRow.holds Try.pinned (OpenSpec.upto partSeesSpec)

/-- 'clerestorylaw08.PartRooms', WHERE WHAT IT READS IS OF BULK AT MOST 1048576: true; the input reads as it did. -/
def partRoomsUptoRow : OpenClaim := { program := "ytafbbojfifcncaa", sum := "e1cc5927450e60954b0095c7bfb7c623b982808eecafcdabfc20906d2983f97b", func := "clerestory/clerestorylaw08.PartRooms", spec := "partRooms", inPlace := ["internal/bytealg.abigen_runtime_cmpstring"], unfollowed := true, recurses := true, apart := false, narrowed := true }
def PartRoomsUptoSaid : Prop := partRoomsUptoRow.holds Try.pinned (OpenSpec.upto partRoomsSpec)

/-- 'clerestorylaw08.PartGones', WHERE WHAT IT READS IS OF BULK AT MOST 1048576: true; the input reads as it did. -/
def partGonesUptoRow : OpenClaim := { program := "ytafbbojfifcncaa", sum := "e1cc5927450e60954b0095c7bfb7c623b982808eecafcdabfc20906d2983f97b", func := "clerestory/clerestorylaw08.PartGones", spec := "partGones", inPlace := ["internal/bytealg.abigen_runtime_cmpstring"], unfollowed := true, recurses := true, apart := false, narrowed := true }
def PartGonesUptoSaid : Prop := partGonesUptoRow.holds Try.pinned (OpenSpec.upto partGonesSpec)

end Rows
end Go.Proofs.Ytafbbojfifcncaa
