/-
  The developers' calls, a row as one thing (RA); a row's key compared.
-/
import Derived.Test.YthfanonjokpflaaGreatPo
import Derived.Test.YthfanonjokpflaaGreatPa
set_option linter.unusedVariables false
set_option linter.unusedSimpArgs false
namespace Go.Proofs.YthfanonjokpflaaGreat
open Go Go.RowKit

def tot (L : List RA) : Nat := (L.map fun x => x.ro.cols.length).sum
theorem tot_cons (x : RA) (L : List RA) : tot (x :: L) = x.ro.cols.length + tot L := by simp [tot]
theorem tot_app (L k : List RA) : tot (L ++ k) = tot L + tot k := by simp [tot]
theorem tot_nil : tot [] = 0 := rfl
end Go.Proofs.YthfanonjokpflaaGreat
