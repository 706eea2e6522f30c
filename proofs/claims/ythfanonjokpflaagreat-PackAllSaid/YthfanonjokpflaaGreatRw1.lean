/-
  The developers' row: Gone, counts, Cell, Best.
-/
import Derived.Test.YthfanonjokpflaaGreatRo1
import Derived.Test.YthfanonjokpflaaGreatCe5
set_option linter.unusedVariables false
set_option linter.unusedSimpArgs false
namespace Go.Proofs.YthfanonjokpflaaGreat
open Go Go.RowKit

theorem new_at {W : World} {r : Nat} {cs : Array Value} {t : TypeId} (h : W.heap[r]? = some (.cells cs t (0, 0))) (o : Obj) : (W.alloc o).heap[r]? = some (.cells cs t (0, 0)) :=
  (((Below.refl W.heap.size W).alloc (Nat.le_refl _) o).block r (Array.getElem?_eq_some_iff.1 h).1).trans h

end Go.Proofs.YthfanonjokpflaaGreat
