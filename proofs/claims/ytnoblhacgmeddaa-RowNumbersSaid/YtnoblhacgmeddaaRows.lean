/-
  No cell of these rows narrows 'for every input' (looked for: loops, veiled, ifaces, maps, wideKeys, modest, calm, conditions, laid).
  DERIVED. THE GIVEN ROWS OF THIS SEAT. 5 by the template 'for every input the law returns true; each argument reads behind the call as it read before'; 0 by the template 'total and deterministic' (their statements: YtnoblhacgmeddaaTotals.lean).
  GIVEN WITH THE SEED: the statements are not yours to turn. If you find one false, say at which input.
  Laid BY PROGRAM, IN A SANDBOX (cutbox-rows.mjs): the forced cells as the released guide's own fill.sh prints them over the translation 28156466aceab61a… (all of the seat's roots in one cut). By AI agents, Wed Nov 11 2026. No macro, syntax, notation, axiom, sorry.
-/
import Derived.Test.YtnoblhacgmeddaaChecked
import GoSem.Claim
import GoSem.ClaimJoined
import GoSem.ClaimMapViews
import Derived.JoinedTies
import Derived.KernelRfl
namespace Go.Proofs.Ytnoblhacgmeddaa
/- THE CELL 'sum', in the pinned program and in every row, IS THE sha256 OF THE DUMP (.gsa) THAT YtnoblhacgmeddaaProg.lean LOADS. Nothing in Lean hashes anything: it is a label: what it is worth is what the hold of that sum in a sandbox is worth. -/
noncomputable def Try.pinned : Pinned := { name := "ytnoblhacgmeddaa", sum := "28156466aceab61aa5e9d002fb8af05d44700ef3b6c6391127318ada4c5868f5", checked := Try.checked }
namespace Rows
def none {H : Type} : Left H := { results := [], args := [] }

/-- 'clerestorylaw07.RowAll': WHATEVER THE INPUT: true; the input reads as it did. -/
def rowAllSpec : ChangeSpec := { name := "rowAll", fn := fun _ => fun
  | [d1, d2, d3, d4, d5, d6] => { results := [.lit (.bool true)], args := [d1, d2, d3, d4, d5, d6] }
  | _ => none }
def rowAllRow : OpenClaim := { program := "ytnoblhacgmeddaa", sum := "28156466aceab61aa5e9d002fb8af05d44700ef3b6c6391127318ada4c5868f5", func := "clerestory/clerestorylaw07.RowAll", spec := "rowAll", inPlace := ["internal/bytealg.abigen_runtime_cmpstring"], unfollowed := true, recurses := true, apart := false }
def RowAllSaid : Prop := rowAllRow.holds Try.pinned (OpenSpec.ofChange rowAllSpec)

/-- ITS FALSE NEIGHBOUR: 'it returns false'. Refute it at one input. -/
def rowAllWrong : ChangeSpec := { name := "rowAll", fn := fun _ => fun
  | [d1, d2, d3, d4, d5, d6] => { results := [.lit (.bool false)], args := [d1, d2, d3, d4, d5, d6] }
  | _ => none }
def RowAllWrongFalsely : Prop := rowAllRow.holds Try.pinned (OpenSpec.ofChange rowAllWrong)

/-- 'clerestorylaw07.RowJoins': WHATEVER THE INPUT: true; the input reads as it did. -/
def rowJoinsSpec : ChangeSpec := { name := "rowJoins", fn := fun _ => fun
  | [d1, d2, d3] => { results := [.lit (.bool true)], args := [d1, d2, d3] }
  | _ => none }
def rowJoinsRow : OpenClaim := { program := "ytnoblhacgmeddaa", sum := "28156466aceab61aa5e9d002fb8af05d44700ef3b6c6391127318ada4c5868f5", func := "clerestory/clerestorylaw07.RowJoins", spec := "rowJoins", inPlace := ["internal/bytealg.abigen_runtime_cmpstring"], unfollowed := true, recurses := true, apart := false }
def RowJoinsSaid : Prop := rowJoinsRow.holds Try.pinned (OpenSpec.ofChange rowJoinsSpec)

/-- ITS FALSE NEIGHBOUR: 'it returns false'. Refute it at one input. -/
def rowJoinsWrong : ChangeSpec := { name := "rowJoins", fn := fun _ => fun
  | [d1, d2, d3] => { results := [.lit (.bool false)], args := [d1, d2, d3] }
  | _ => none }
def RowJoinsWrongFalsely : Prop := rowJoinsRow.holds Try.pinned (OpenSpec.ofChange rowJoinsWrong)

/-- 'clerestorylaw07.RowNumbers': WHATEVER THE INPUT: true; the input reads as it did. -/
def rowNumbersSpec : ChangeSpec := { name := "rowNumbers", fn := fun _ => fun
  | [d1, d2, d3] => { results := [.lit (.bool true)], args := [d1, d2, d3] }
  | _ => none }
def rowNumbersRow : OpenClaim := { program := "ytnoblhacgmeddaa", sum := "28156466aceab61aa5e9d002fb8af05d44700ef3b6c6391127318ada4c5868f5", func := "clerestory/clerestorylaw07.RowNumbers", spec := "rowNumbers", inPlace := ["internal/bytealg.abigen_runtime_cmpstring"], unfollowed := true, recurses := true, apart := false }
def RowNumbersSaid : Prop := rowNumbersRow.holds Try.pinned (OpenSpec.ofChange rowNumbersSpec)

/-- ITS FALSE NEIGHBOUR: 'it returns false'. Refute it at one input. -/
def rowNumbersWrong : ChangeSpec := { name := "rowNumbers", fn := fun _ => fun
  | [d1, d2, d3] => { results := [.lit (.bool false)], args := [d1, d2, d3] }
  | _ => none }
def RowNumbersWrongFalsely : Prop := rowNumbersRow.holds Try.pinned (OpenSpec.ofChange rowNumbersWrong)

/-- 'clerestorylaw07.RowShades': WHATEVER THE INPUT: true; the input reads as it did. -/
def rowShadesSpec : ChangeSpec := { name := "rowShades", fn := fun _ => fun
  | [d1, d2, d3, d4, d5, d6] => { results := [.lit (.bool true)], args := [d1, d2, d3, d4, d5, d6] }
  | _ => none }
def rowShadesRow : OpenClaim := { program := "ytnoblhacgmeddaa", sum := "28156466aceab61aa5e9d002fb8af05d44700ef3b6c6391127318ada4c5868f5", func := "clerestory/clerestorylaw07.RowShades", spec := "rowShades", apart := false }
def RowShadesSaid : Prop := rowShadesRow.holds Try.pinned (OpenSpec.ofChange rowShadesSpec)

/-- ITS FALSE NEIGHBOUR: 'it returns false'. Refute it at one input. -/
def rowShadesWrong : ChangeSpec := { name := "rowShades", fn := fun _ => fun
  | [d1, d2, d3, d4, d5, d6] => { results := [.lit (.bool false)], args := [d1, d2, d3, d4, d5, d6] }
  | _ => none }
def RowShadesWrongFalsely : Prop := rowShadesRow.holds Try.pinned (OpenSpec.ofChange rowShadesWrong)

/-- 'clerestorylaw07.RowSpoilt': WHATEVER THE INPUT: true; the input reads as it did. -/
def rowSpoiltSpec : ChangeSpec := { name := "rowSpoilt", fn := fun _ => fun
  | [d1, d2, d3] => { results := [.lit (.bool true)], args := [d1, d2, d3] }
  | _ => none }
def rowSpoiltRow : OpenClaim := { program := "ytnoblhacgmeddaa", sum := "28156466aceab61aa5e9d002fb8af05d44700ef3b6c6391127318ada4c5868f5", func := "clerestory/clerestorylaw07.RowSpoilt", spec := "rowSpoilt", apart := false }
def RowSpoiltSaid : Prop := rowSpoiltRow.holds Try.pinned (OpenSpec.ofChange rowSpoiltSpec)

/-- ITS FALSE NEIGHBOUR: 'it returns false'. Refute it at one input. -/
def rowSpoiltWrong : ChangeSpec := { name := "rowSpoilt", fn := fun _ => fun
  | [d1, d2, d3] => { results := [.lit (.bool false)], args := [d1, d2, d3] }
  | _ => none }
def RowSpoiltWrongFalsely : Prop := rowSpoiltRow.holds Try.pinned (OpenSpec.ofChange rowSpoiltWrong)

/- THE SECOND FORM. 'bulk': how many values and letters a reading holds, each counted each time it is reached (what is shared counts as often as it is met; a slice's spare places count too). A statement '..UptoSaid' is the law's where the arguments, and the package variables that the reading takes, are together of bulk at most 1048576: NARROWER than '..Said'. Prove '..Said' where nothing that the law and all that it calls make is longer than what came in: it says more and counts as full. Else prove '..UptoSaid'. A law counts once. -/
mutual
def uptoBulk {H : Type} : DataW H → Nat
  | .lit (.string bytes) => bytes.length + 1
  | .lit _ => 1
  | .nil => 1
  | .ptr d => uptoBulk d + 1
  | .slice elems spare => uptoBulkAll elems + uptoBulkAll spare + 1
  | .agg parts => uptoBulkAll parts + 1
  | .iface _ d => uptoBulk d + 1
  | .map entries => uptoBulkEntries entries + 1
  | .held _ => 1
def uptoBulkAll {H : Type} : List (DataW H) → Nat
  | [] => 0
  | d :: r => uptoBulk d + uptoBulkAll r
def uptoBulkEntries {H : Type} : List (Lit × DataW H) → Nat
  | [] => 0
  | x :: r => uptoBulkEntry x + uptoBulkEntries r
def uptoBulkEntry {H : Type} : Lit × DataW H → Nat
  | (.string bytes, d) => bytes.length + uptoBulk d + 1
  | (_, d) => uptoBulk d + 1
 end
def uptoSmall : (H : Type) → List (DataW H) → Bool := fun _ ds => decide (uptoBulkAll ds ≤ 1048576)
def OpenSpec.upto (s : _root_.Go.ChangeSpec) : _root_.Go.OpenSpec := { _root_.Go.OpenSpec.ofChange s with cond := some uptoSmall }

/-- 'clerestorylaw07.RowAll', WHERE WHAT IT READS IS OF BULK AT MOST 1048576: true; the input reads as it did. -/
def rowAllUptoRow : OpenClaim := { program := "ytnoblhacgmeddaa", sum := "28156466aceab61aa5e9d002fb8af05d44700ef3b6c6391127318ada4c5868f5", func := "clerestory/clerestorylaw07.RowAll", spec := "rowAll", inPlace := ["internal/bytealg.abigen_runtime_cmpstring"], unfollowed := true, recurses := true, apart := false, narrowed := true }
def RowAllUptoSaid : Prop := rowAllUptoRow.holds Try.pinned (OpenSpec.upto rowAllSpec)

/-- 'clerestorylaw07.RowJoins', WHERE WHAT IT READS IS OF BULK AT MOST 1048576: true; the input reads as it did. -/
def rowJoinsUptoRow : OpenClaim := { program := "ytnoblhacgmeddaa", sum := "28156466aceab61aa5e9d002fb8af05d44700ef3b6c6391127318ada4c5868f5", func := "clerestory/clerestorylaw07.RowJoins", spec := "rowJoins", inPlace := ["internal/bytealg.abigen_runtime_cmpstring"], unfollowed := true, recurses := true, apart := false, narrowed := true }
def RowJoinsUptoSaid : Prop := rowJoinsUptoRow.holds Try.pinned (OpenSpec.upto rowJoinsSpec)

/-- 'clerestorylaw07.RowNumbers', WHERE WHAT IT READS IS OF BULK AT MOST 1048576: true; the input reads as it did. -/
def rowNumbersUptoRow : OpenClaim := { program := "ytnoblhacgmeddaa", sum := "28156466aceab61aa5e9d002fb8af05d44700ef3b6c6391127318ada4c5868f5", func := "clerestory/clerestorylaw07.RowNumbers", spec := "rowNumbers", inPlace := ["internal/bytealg.abigen_runtime_cmpstring"], unfollowed := true, recurses := true, apart := false, narrowed := true }
def RowNumbersUptoSaid : Prop := rowNumbersUptoRow.holds Try.pinned (OpenSpec.upto rowNumbersSpec)

/-- 'clerestorylaw07.RowShades', WHERE WHAT IT READS IS OF BULK AT MOST 1048576: true; the input reads as it did. -/
def rowShadesUptoRow : OpenClaim := { program := "ytnoblhacgmeddaa", sum := "28156466aceab61aa5e9d002fb8af05d44700ef3b6c6391127318ada4c5868f5", func := "clerestory/clerestorylaw07.RowShades", spec := "rowShades", apart := false, narrowed := true }
def RowShadesUptoSaid : Prop := rowShadesUptoRow.holds Try.pinned (OpenSpec.upto rowShadesSpec)

/-- 'clerestorylaw07.RowSpoilt', WHERE WHAT IT READS IS OF BULK AT MOST 1048576: true; the input reads as it did. -/
def rowSpoiltUptoRow : OpenClaim := { program := "ytnoblhacgmeddaa", sum := "28156466aceab61aa5e9d002fb8af05d44700ef3b6c6391127318ada4c5868f5", func := "clerestory/clerestorylaw07.RowSpoilt", spec := "rowSpoilt", apart := false, narrowed := true }
def RowSpoiltUptoSaid : Prop := rowSpoiltUptoRow.holds Try.pinned (OpenSpec.upto rowSpoiltSpec)

end Rows
end Go.Proofs.Ytnoblhacgmeddaa
