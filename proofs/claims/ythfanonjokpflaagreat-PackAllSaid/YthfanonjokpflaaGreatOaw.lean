/-
  The example of layer 2: awake; the contracts in the forms that the laws ask.
-/
import Derived.Test.YthfanonjokpflaaGreatOr4
import Derived.Test.YthfanonjokpflaaGreatPlc
set_option linter.unusedVariables false
namespace Go.Proofs.YthfanonjokpflaaGreat
open Go Go.RowKit

theorem cv_as {w : World} {B n : Nat} {A : Option Addr} {l : List UInt8} (h : Rd w B A n l) (c : Nat) (q : ByteArray) (hq : q.data.toList = l) :
    (convert 33 9 (.slice A n c)).run Tryz.prog w = .ok (.string q) w := by
  rw [cv_string h c, mk_eq l q hq]

end Go.Proofs.YthfanonjokpflaaGreat
