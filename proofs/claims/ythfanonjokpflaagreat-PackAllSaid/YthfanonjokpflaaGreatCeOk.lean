/-
  Which cells may be (plain).
-/
import Derived.Test.YthfanonjokpflaaGreatCe
set_option linter.unusedVariables false
set_option linter.unusedSimpArgs false
namespace Go.Proofs.YthfanonjokpflaaGreat
open Go Go.RowKit

def stm (n : Int) : Bool := decide (0 ≤ n) && decide (n ≤ 1099511627776)
def Ce.ok (c : Ce) : Bool :=
  if c.a = 0 then c.same ⟨⟨#[]⟩, false, 0, 0⟩ else if stm c.a = false then false else if c.d = true then c.same ⟨⟨#[]⟩, true, c.a, 0⟩ else decide (c.s.size ≤ 100) && stm c.e

end Go.Proofs.YthfanonjokpflaaGreat
