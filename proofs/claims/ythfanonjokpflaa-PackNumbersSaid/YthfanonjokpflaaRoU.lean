/-
  Rows that may be, and what is joined (plain).
-/
import Derived.Test.YthfanonjokpflaaRoB
import Derived.Test.YthfanonjokpflaaRw4
set_option linter.unusedVariables false
set_option linter.unusedSimpArgs false
namespace Go.Proofs.Ythfanonjokpflaa
open Go Go.RowKit

theorem up_of_ok {R : Ro} (h : R.ok = true) : R.Up := by
  unfold Ro.ok at h
  simp only [Bool.and_eq_true] at h
  exact ⟨colsB_rise h.2.2.2.2.2, colsB_full h.2.2.2.2.2⟩
end Go.Proofs.Ythfanonjokpflaa
