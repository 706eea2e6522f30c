import Derived.Test.YtmpcnhpdobdmcaaGreatDoorProg
import Derived.ProofKit
import Derived.OpenShut
set_option linter.unusedVariables false
set_option linter.unusedSimpArgs false
namespace Go.Proofs.YtmpcnhpdobdmcaaGreatDoor
open Go Go.ChangeShapes Go.WideShapes Go.ChangeAt Go.RowKit
theorem trod_lt1 {H : Type} {enc : TypeId × Value -> H} {P : Program} {w : World} {base : Nat} {sp : Nat -> Bool} {held : Bool} {t : TypeId} {v : Value} {d : DataW H} {ps : List MemPlace} (h : DataW.Trod enc P w base sp held t v d ps) : ∀ p ∈ ps,p.block < w.heap.size := by
 obtain ⟨f,hf⟩ := h
 exact DataW.trod_lt f t _ _ hf
end Go.Proofs.YtmpcnhpdobdmcaaGreatDoor
