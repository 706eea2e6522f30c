/-
  Slices of bytes: append as an operation of whatever region, onto what is the call's own or full; make. GENERAL.
-/
import Derived.Test.YthfanonjokpflaaSl
import Derived.Test.YthfanonjokpflaaApp
import Derived.Test.YthfanonjokpflaaPlc
import Derived.Lib.AppendStr
import Derived.Laws.OwnMore
import Derived.Laws.MakeOwn
set_option linter.unusedVariables false
namespace Go.Proofs.Ythfanonjokpflaa
open Go Go.RowKit

/-! ### make -/

/-! ### a slice of a slice -/
theorem sizeB : Try.prog.elem 33 = 5 := by kernel_rfl
end Go.Proofs.Ythfanonjokpflaa
