/-
  A region that draws its order, walked by hand: what is held of the world may grow from call to call.
-/
import Derived.Test.YtcihgnkmikhboaaSl
import Derived.Test.YtcihgnkmikhboaaPlc
import Derived.Deep.RegionHeld3
set_option linter.unusedVariables false
namespace Go.Proofs.Ytcihgnkmikhboaa
open Go Go.RowKit

section
variable {P : Program} {ops : Array Oper} {Q : Exit → Act → World → Prop} {md : Region.Mode}
/-- More may be held from here on. -/
theorem held_more {S S' : World → Prop} (hSS : ∀ w, S' w → S w) : ∀ (fuel : Nat) (listed : Array Bool) (a : Act) (w : World), wpAnyH P md ops Q S' fuel listed a w → wpAnyH P md ops Q S fuel listed a w
  | 0, _, _, _, h => h
  | fuel + 1, _, _, _, h => ⟨h.1, fun i hi => wpOp_mono (fun a' w' h' => ⟨hSS _ h'.1, held_more hSS fuel _ a' w' h'.2⟩) (h.2 i hi)⟩
end

/-- w' is W with what has been made since. -/
def Since (W w' : World) : Prop := Below W.heap.size W w'
theorem Since.refl (W : World) : Since W W := Below.refl _ _
theorem Since.on {W w w' : World} (h : Since W w) (k : Since w w') : Since W w' := Below.trans h (Below.mono k h.size)
theorem cv_since {W : World} {B n : Nat} {A : Option Addr} {l : List UInt8} (h : Rd W B A n l) (hB : B ≤ W.heap.size) (c : Nat) (q : ByteArray) (hq : q.data.toList = l) :
    ∀ w', Since W w' → (convert 22 9 (.slice A n c)).run Try.prog w' = .ok (.string q) w' := by
  intro w' hs
  rw [cv_string ((h.up hB).below hs) c, mk_eq l q hq]
end Go.Proofs.Ytcihgnkmikhboaa
