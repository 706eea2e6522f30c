/-
  No cell of these rows narrows 'for every input' (looked for: loops, veiled, ifaces, maps, wideKeys, modest, calm, conditions, laid).
  DERIVED. THE GIVEN ROWS OF THIS SEAT. 6 by the template 'for every input the law returns true; each argument reads behind the call as it read before'; 0 by the template 'total and deterministic' (their statements: YtdjncindngifhaaTotals.lean).
  GIVEN WITH THE SEED: the statements are not yours to turn. If you find one false, say at which input.
  Laid BY PROGRAM, IN A SANDBOX (cutbox-rows.mjs): the forced cells as the released guide's own fill.sh prints them over the translation e1a03096abccdbe8… (all of the seat's roots in one cut). By AI agents, Wed Nov 11 2026. No macro, syntax, notation, axiom, sorry.
-/
import Derived.Test.YtdjncindngifhaaChecked
import GoSem.Claim
import GoSem.ClaimJoined
import GoSem.ClaimMapViews
import Derived.JoinedTies
import Derived.KernelRfl
namespace Go.Proofs.Ytdjncindngifhaa
/- THE CELL 'sum', in the pinned program and in every row, IS THE sha256 OF THE DUMP (.gsa) THAT YtdjncindngifhaaProg.lean LOADS. Nothing in Lean hashes anything: it is a label: what it is worth is what the hold of that sum in a sandbox is worth. -/
noncomputable def Try.pinned : Pinned := { name := "ytdjncindngifhaa", sum := "e1a03096abccdbe8aba30fad6e9c91415bfd60014e3b2bc3b0d53deec2b7cbec", checked := Try.checked }
namespace Rows
def none {H : Type} : Left H := { results := [], args := [] }

/-- 'clerestorylaw01.RunesAll': WHATEVER THE INPUT: true; the input reads as it did. -/
def runesAllSpec : ChangeSpec := { name := "runesAll", fn := fun _ => fun
  | [d1, d2, d3] => { results := [.lit (.bool true)], args := [d1, d2, d3] }
  | _ => none }
def runesAllRow : OpenClaim := { program := "ytdjncindngifhaa", sum := "e1a03096abccdbe8aba30fad6e9c91415bfd60014e3b2bc3b0d53deec2b7cbec", func := "clerestory/clerestorylaw01.RunesAll", spec := "runesAll", inPlace := ["internal/abi.NoEscape"], apart := false }
def RunesAllSaid : Prop := runesAllRow.holds Try.pinned (OpenSpec.ofChange runesAllSpec)

/-- ITS FALSE NEIGHBOUR: 'it returns false'. Refute it at one input. -/
def runesAllWrong : ChangeSpec := { name := "runesAll", fn := fun _ => fun
  | [d1, d2, d3] => { results := [.lit (.bool false)], args := [d1, d2, d3] }
  | _ => none }
def RunesAllWrongFalsely : Prop := runesAllRow.holds Try.pinned (OpenSpec.ofChange runesAllWrong)

/-- 'clerestorylaw01.RunesGo': WHATEVER THE INPUT: true; the input reads as it did. -/
def runesGoSpec : ChangeSpec := { name := "runesGo", fn := fun _ => fun
  | [d] => { results := [.lit (.bool true)], args := [d] }
  | _ => none }
def runesGoRow : OpenClaim := { program := "ytdjncindngifhaa", sum := "e1a03096abccdbe8aba30fad6e9c91415bfd60014e3b2bc3b0d53deec2b7cbec", func := "clerestory/clerestorylaw01.RunesGo", spec := "runesGo", inPlace := ["internal/abi.NoEscape"], apart := false }
def RunesGoSaid : Prop := runesGoRow.holds Try.pinned (OpenSpec.ofChange runesGoSpec)

/-- ITS FALSE NEIGHBOUR: 'it returns false'. Refute it at one input. -/
def runesGoWrong : ChangeSpec := { name := "runesGo", fn := fun _ => fun
  | [d] => { results := [.lit (.bool false)], args := [d] }
  | _ => none }
def RunesGoWrongFalsely : Prop := runesGoRow.holds Try.pinned (OpenSpec.ofChange runesGoWrong)

/-- 'clerestorylaw01.RunesQuotes': WHATEVER THE INPUT: true; the input reads as it did. -/
def runesQuotesSpec : ChangeSpec := { name := "runesQuotes", fn := fun _ => fun
  | [d1, d2, d3] => { results := [.lit (.bool true)], args := [d1, d2, d3] }
  | _ => none }
def runesQuotesRow : OpenClaim := { program := "ytdjncindngifhaa", sum := "e1a03096abccdbe8aba30fad6e9c91415bfd60014e3b2bc3b0d53deec2b7cbec", func := "clerestory/clerestorylaw01.RunesQuotes", spec := "runesQuotes", inPlace := ["internal/abi.NoEscape"], apart := false }
def RunesQuotesSaid : Prop := runesQuotesRow.holds Try.pinned (OpenSpec.ofChange runesQuotesSpec)

/-- ITS FALSE NEIGHBOUR: 'it returns false'. Refute it at one input. -/
def runesQuotesWrong : ChangeSpec := { name := "runesQuotes", fn := fun _ => fun
  | [d1, d2, d3] => { results := [.lit (.bool false)], args := [d1, d2, d3] }
  | _ => none }
def RunesQuotesWrongFalsely : Prop := runesQuotesRow.holds Try.pinned (OpenSpec.ofChange runesQuotesWrong)

/-- 'clerestorylaw01.RunesNames': WHATEVER THE INPUT: true; the input reads as it did. -/
def runesNamesSpec : ChangeSpec := { name := "runesNames", fn := fun _ => fun
  | [d1, d2] => { results := [.lit (.bool true)], args := [d1, d2] }
  | _ => none }
def runesNamesRow : OpenClaim := { program := "ytdjncindngifhaa", sum := "e1a03096abccdbe8aba30fad6e9c91415bfd60014e3b2bc3b0d53deec2b7cbec", func := "clerestory/clerestorylaw01.RunesNames", spec := "runesNames", inPlace := ["internal/abi.NoEscape"], apart := false }
def RunesNamesSaid : Prop := runesNamesRow.holds Try.pinned (OpenSpec.ofChange runesNamesSpec)

/-- ITS FALSE NEIGHBOUR: 'it returns false'. Refute it at one input. -/
def runesNamesWrong : ChangeSpec := { name := "runesNames", fn := fun _ => fun
  | [d1, d2] => { results := [.lit (.bool false)], args := [d1, d2] }
  | _ => none }
def RunesNamesWrongFalsely : Prop := runesNamesRow.holds Try.pinned (OpenSpec.ofChange runesNamesWrong)

/-- 'clerestorylaw01.RunesParts': WHATEVER THE INPUT: true; the input reads as it did. -/
def runesPartsSpec : ChangeSpec := { name := "runesParts", fn := fun _ => fun
  | [d1, d2, d3] => { results := [.lit (.bool true)], args := [d1, d2, d3] }
  | _ => none }
def runesPartsRow : OpenClaim := { program := "ytdjncindngifhaa", sum := "e1a03096abccdbe8aba30fad6e9c91415bfd60014e3b2bc3b0d53deec2b7cbec", func := "clerestory/clerestorylaw01.RunesParts", spec := "runesParts", inPlace := ["internal/abi.NoEscape"], apart := false }
def RunesPartsSaid : Prop := runesPartsRow.holds Try.pinned (OpenSpec.ofChange runesPartsSpec)

/-- ITS FALSE NEIGHBOUR: 'it returns false'. Refute it at one input. -/
def runesPartsWrong : ChangeSpec := { name := "runesParts", fn := fun _ => fun
  | [d1, d2, d3] => { results := [.lit (.bool false)], args := [d1, d2, d3] }
  | _ => none }
def RunesPartsWrongFalsely : Prop := runesPartsRow.holds Try.pinned (OpenSpec.ofChange runesPartsWrong)

/-- 'clerestorylaw01.RunesDoubled': WHATEVER THE INPUT: true; the input reads as it did. -/
def runesDoubledSpec : ChangeSpec := { name := "runesDoubled", fn := fun _ => fun
  | [d] => { results := [.lit (.bool true)], args := [d] }
  | _ => none }
def runesDoubledRow : OpenClaim := { program := "ytdjncindngifhaa", sum := "e1a03096abccdbe8aba30fad6e9c91415bfd60014e3b2bc3b0d53deec2b7cbec", func := "clerestory/clerestorylaw01.RunesDoubled", spec := "runesDoubled", inPlace := ["internal/abi.NoEscape"], apart := false }
def RunesDoubledSaid : Prop := runesDoubledRow.holds Try.pinned (OpenSpec.ofChange runesDoubledSpec)

/-- ITS FALSE NEIGHBOUR: 'it returns false'. Refute it at one input. -/
def runesDoubledWrong : ChangeSpec := { name := "runesDoubled", fn := fun _ => fun
  | [d] => { results := [.lit (.bool false)], args := [d] }
  | _ => none }
def RunesDoubledWrongFalsely : Prop := runesDoubledRow.holds Try.pinned (OpenSpec.ofChange runesDoubledWrong)

/- THE SECOND FORM. 'bulk': how many values and letters a reading holds, each counted each time it is reached (what is shared counts as often as it is met; a slice's spare places count too). A statement '..UptoSaid' is the law's where the arguments, and the package variables that the reading takes, are together of bulk at most 1048576: NARROWER than '..Said'. Prove '..Said' where nothing that the law and all that it calls make is longer than what came in: it says more and counts as full. Else prove '..UptoSaid'. A law counts once. -/
mutual
def uptoBulk {H : Type} : DataW H → Nat
  | .lit (.string bytes) => bytes.length + 1
  | .lit _ => 1
  | .nil => 1
  | .ptr d => uptoBulk d + 1
  | .slice elems spare => uptoBulkAll elems + uptoBulkAll spare + 1
  | .agg parts => uptoBulkAll parts + 1
  | .iface _ d => uptoBulk d + 1
  | .map entries => uptoBulkEntries entries + 1
  | .held _ => 1
def uptoBulkAll {H : Type} : List (DataW H) → Nat
  | [] => 0
  | d :: r => uptoBulk d + uptoBulkAll r
def uptoBulkEntries {H : Type} : List (Lit × DataW H) → Nat
  | [] => 0
  | x :: r => uptoBulkEntry x + uptoBulkEntries r
def uptoBulkEntry {H : Type} : Lit × DataW H → Nat
  | (.string bytes, d) => bytes.length + uptoBulk d + 1
  | (_, d) => uptoBulk d + 1
 end
def uptoSmall : (H : Type) → List (DataW H) → Bool := fun _ ds => decide (uptoBulkAll ds ≤ 1048576)
def OpenSpec.upto (s : _root_.Go.ChangeSpec) : _root_.Go.OpenSpec := { _root_.Go.OpenSpec.ofChange s with cond := some uptoSmall }

/-- 'clerestorylaw01.RunesAll', WHERE WHAT IT READS IS OF BULK AT MOST 1048576: true; the input reads as it did. -/
def runesAllUptoRow : OpenClaim := { program := "ytdjncindngifhaa", sum := "e1a03096abccdbe8aba30fad6e9c91415bfd60014e3b2bc3b0d53deec2b7cbec", func := "clerestory/clerestorylaw01.RunesAll", spec := "runesAll", inPlace := ["internal/abi.NoEscape"], apart := false, narrowed := true }
def RunesAllUptoSaid : Prop := runesAllUptoRow.holds Try.pinned (OpenSpec.upto runesAllSpec)

/-- 'clerestorylaw01.RunesGo', WHERE WHAT IT READS IS OF BULK AT MOST 1048576: true; the input reads as it did. -/
def runesGoUptoRow : OpenClaim := { program := "ytdjncindngifhaa", sum := "e1a03096abccdbe8aba30fad6e9c91415bfd60014e3b2bc3b0d53deec2b7cbec", func := "clerestory/clerestorylaw01.RunesGo", spec := "runesGo", inPlace := ["internal/abi.NoEscape"], apart := false, narrowed := true }
def RunesGoUptoSaid : Prop := runesGoUptoRow.holds Try.pinned (OpenSpec.upto runesGoSpec)

/-- 'clerestorylaw01.RunesQuotes', WHERE WHAT IT READS IS OF BULK AT MOST 1048576: true; the input reads as it did. -/
def runesQuotesUptoRow : OpenClaim := { program := "ytdjncindngifhaa", sum := "e1a03096abccdbe8aba30fad6e9c91415bfd60014e3b2bc3b0d53deec2b7cbec", func := "clerestory/clerestorylaw01.RunesQuotes", spec := "runesQuotes", inPlace := ["internal/abi.NoEscape"], apart := false, narrowed := true }
def RunesQuotesUptoSaid : Prop := runesQuotesUptoRow.holds Try.pinned (OpenSpec.upto runesQuotesSpec)

/-- 'clerestorylaw01.RunesNames', WHERE WHAT IT READS IS OF BULK AT MOST 1048576: true; the input reads as it did. -/
def runesNamesUptoRow : OpenClaim := { program := "ytdjncindngifhaa", sum := "e1a03096abccdbe8aba30fad6e9c91415bfd60014e3b2bc3b0d53deec2b7cbec", func := "clerestory/clerestorylaw01.RunesNames", spec := "runesNames", inPlace := ["internal/abi.NoEscape"], apart := false, narrowed := true }
def RunesNamesUptoSaid : Prop := runesNamesUptoRow.holds Try.pinned (OpenSpec.upto runesNamesSpec)

/-- 'clerestorylaw01.RunesParts', WHERE WHAT IT READS IS OF BULK AT MOST 1048576: true; the input reads as it did. -/
def runesPartsUptoRow : OpenClaim := { program := "ytdjncindngifhaa", sum := "e1a03096abccdbe8aba30fad6e9c91415bfd60014e3b2bc3b0d53deec2b7cbec", func := "clerestory/clerestorylaw01.RunesParts", spec := "runesParts", inPlace := ["internal/abi.NoEscape"], apart := false, narrowed := true }
def RunesPartsUptoSaid : Prop := runesPartsUptoRow.holds Try.pinned (OpenSpec.upto runesPartsSpec)

/-- 'clerestorylaw01.RunesDoubled', WHERE WHAT IT READS IS OF BULK AT MOST 1048576: true; the input reads as it did. -/
def runesDoubledUptoRow : OpenClaim := { program := "ytdjncindngifhaa", sum := "e1a03096abccdbe8aba30fad6e9c91415bfd60014e3b2bc3b0d53deec2b7cbec", func := "clerestory/clerestorylaw01.RunesDoubled", spec := "runesDoubled", inPlace := ["internal/abi.NoEscape"], apart := false, narrowed := true }
def RunesDoubledUptoSaid : Prop := runesDoubledUptoRow.holds Try.pinned (OpenSpec.upto runesDoubledSpec)

end Rows
end Go.Proofs.Ytdjncindngifhaa
