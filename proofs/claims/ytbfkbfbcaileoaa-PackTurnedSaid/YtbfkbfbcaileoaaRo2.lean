/-
  The document's own SameCols.
-/
import Derived.Test.YtbfkbfbcaileoaaRo1
import Derived.Test.YtbfkbfbcaileoaaCeA
import Derived.Test.YtbfkbfbcaileoaaCeOk
import Derived.Test.YtbfkbfbcaileoaaCe5
import Derived.Deep.DeepCutAuto
set_option linter.unusedVariables false
set_option linter.unusedSimpArgs false
namespace Go.Proofs.Ytbfkbfbcaileoaa
open Go Go.RowKit

instance : DecidableEq Ce := fun x y => decidable_of_iff _ (same_iff x y)

def Ro.same (x y : Ro) : Bool := x.key.toList == y.key.toList && (x.live.same y.live && (x.gone == y.gone && (x.shade == y.shade && decide (x.cols = y.cols))))
theorem rosame_iff (x y : Ro) : x.same y = true ↔ x = y := by
  unfold Ro.same
  rw [Bool.and_eq_true, Bool.and_eq_true, Bool.and_eq_true, Bool.and_eq_true, eqB_iff, same_iff, beq_iff_eq, beq_iff_eq, decide_eq_true_iff]
  constructor
  · rintro ⟨h1, h2, h3, h4, h5⟩
    cases x; cases y; simp_all
  · rintro rfl
    simp

end Go.Proofs.Ytbfkbfbcaileoaa
