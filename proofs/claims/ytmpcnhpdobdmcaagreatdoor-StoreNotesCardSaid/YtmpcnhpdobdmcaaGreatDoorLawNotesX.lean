import Derived.Test.YtmpcnhpdobdmcaaGreatDoorLawNotesN
import Derived.Test.YtmpcnhpdobdmcaaGreatDoorLawNotesK
import Derived.Test.YtmpcnhpdobdmcaaGreatDoorLawNotesO
import Derived.Deep.CutBlock
import Derived.Laws.EntriesVeiled
import Derived.Deep.DeepCutAuto
set_option linter.unusedVariables false
set_option linter.unusedSimpArgs false
namespace Go.Proofs.YtmpcnhpdobdmcaaGreatDoor
open Go Go.RowKit
def ptr (k : Nat) : Value := .pointer (some ⟨k,0,none⟩)
def F1 (q : Nat) : Value := .func (.func 263) #[] #[.pointer (some ⟨q,0,none⟩),.pointer (some ⟨q + 2,0,none⟩),.pointer (some ⟨q + 3,0,none⟩)]
def F2 (q : Nat) : Value := .func (.func 264) #[] #[.pointer (some ⟨q + 1,0,none⟩),.pointer (some ⟨q,0,none⟩),.pointer (some ⟨q + 2,0,none⟩),.pointer (some ⟨q + 3,0,none⟩)]
def F3 (q : Nat) : Value := .func (.func 265) #[] #[.pointer (some ⟨q + 3,0,none⟩),.pointer (some ⟨q + 2,0,none⟩),.pointer (some ⟨q,0,none⟩)]
section
variable {w w' : World} {q : Nat} {A : Option Addr} {n c : Nat} {l : Bs} {i : Nat}
end
end Go.Proofs.YtmpcnhpdobdmcaaGreatDoor
