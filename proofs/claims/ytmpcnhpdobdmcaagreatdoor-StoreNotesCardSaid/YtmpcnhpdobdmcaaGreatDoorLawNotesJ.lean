import Derived.Test.YtmpcnhpdobdmcaaGreatDoorLawNotesG
import Derived.Maps.OwnSet
set_option linter.unusedVariables false
set_option linter.unusedSimpArgs false
namespace Go.Proofs.YtmpcnhpdobdmcaaGreatDoor
open Go Go.RowKit
section
variable {F F' F'' G G' : Nat -> Prop} {w w' w'' : World}
theorem map_kept {H : Type} {P : Program} {k : TypeId} {R : Value -> Option (DataW H × List MemPlace)} {b n : Nat} {D : DataW H} (h : w.ownsMap P k R b n D) (hk : w'.heap[b]? = w.heap[b]?) : w'.ownsMap P k R b n D := by
 obtain ⟨es,clock,hb,r⟩ := h
 exact ⟨es,clock,by rw [hk]; exact hb,r⟩
end
end Go.Proofs.YtmpcnhpdobdmcaaGreatDoor
