/-
  Rows that may be, and what is joined (plain).
-/
import Derived.Test.YthfanonjokpflaaGreatRoB
import Derived.Test.YthfanonjokpflaaGreatRw4
set_option linter.unusedVariables false
set_option linter.unusedSimpArgs false
namespace Go.Proofs.YthfanonjokpflaaGreat
open Go Go.RowKit

theorem len_join (R R' : Ro) : (R.join R').cols.length ≤ R.cols.length + R'.cols.length := mrg_length _ _
end Go.Proofs.YthfanonjokpflaaGreat
