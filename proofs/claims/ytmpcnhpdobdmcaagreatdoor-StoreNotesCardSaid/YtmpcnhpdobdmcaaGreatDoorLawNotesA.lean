import Derived.Test.YtmpcnhpdobdmcaaGreatDoorProg
import Derived.WalkKit
import Derived.Deep.RegionHeld3
set_option linter.unusedVariables false
set_option linter.unusedSimpArgs false
namespace Go.Proofs.YtmpcnhpdobdmcaaGreatDoor
open Go
section
variable {P : Program} {ops : Array Oper} {Q : Exit -> Act -> World -> Prop} {md : Region.Mode} {S : World -> Prop}
structure TakeH (P : Program) (md : Region.Mode) (ops : Array Oper) (Q : Exit -> Act -> World -> Prop) (S : World -> Prop) (is : List Nat) (fuel : Nat) (listed : Array Bool) (a : Act) (w : World) : Prop where
 run : wpAnyH P md ops Q S fuel listed a w
theorem takesH (is : List Nat) {fuel : Nat} {listed : Array Bool} {a : Act} {w : World} (h : TakeH P md ops Q S is fuel listed a w) : wpAnyH P md ops Q S fuel listed a w := h.run
theorem takesH_nil {fuel : Nat} {listed : Array Bool} {a : Act} {w : World} (h : wpAnyH P md ops Q S fuel listed a w) : TakeH P md ops Q S [] fuel listed a w := ⟨h⟩
theorem takesH_one {i : Nat} {is : List Nat} {oi : Oper} {v : Value} {fuel : Nat} {listed : Array Bool} {a : Act} {w : World} (hy : YieldsIf P ops S oi v a)
    (h : TakeH P md ops Q S is fuel (listed.setIfInBounds i true) (a.put oi.dst v) w) (hi : ops[i]? = some oi := by rfl)
    (hs : Region.noSelect ops = true := by kernel_rfl) (hf : Region.free md ops listed i = true := by kernel_rfl) (hr : (Region.ready md ops listed).contains i = true := by kernel_rfl)
    (hQ : ∀ c a w,Q (.panic c) (a.put oi.dst v) w -> Q (.panic c) a w := by exact fun _ _ _ h => h) (hS : S w := by assumption) : TakeH P md ops Q S (i :: is) (fuel + 1) listed a w :=
 ⟨wpAnyH_take hi hs hf hr hQ hy hS h.run⟩
end
end Go.Proofs.YtmpcnhpdobdmcaaGreatDoor
