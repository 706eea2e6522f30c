/-
  Rows that may be, and what is joined (plain).
-/
import Derived.Test.YtbfkbfbcaileoaaRoB
import Derived.Test.YtbfkbfbcaileoaaRw4
set_option linter.unusedVariables false
set_option linter.unusedSimpArgs false
namespace Go.Proofs.Ytbfkbfbcaileoaa
open Go Go.RowKit

theorem up_of_ok {R : Ro} (h : R.ok = true) : R.Up := by
  unfold Ro.ok at h
  simp only [Bool.and_eq_true] at h
  exact ⟨colsB_rise h.2.2.2.2.2, colsB_full h.2.2.2.2.2⟩
theorem len_join (R R' : Ro) : (R.join R').cols.length ≤ R.cols.length + R'.cols.length := mrg_length _ _
end Go.Proofs.Ytbfkbfbcaileoaa
