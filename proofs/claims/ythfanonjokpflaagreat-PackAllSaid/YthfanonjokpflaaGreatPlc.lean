/-
  Place, the small helper of the laws. Texts by their lists.
-/
import Derived.Test.YthfanonjokpflaaGreatProg
import Derived.WalkKit
import Derived.BigCall
import Derived.Lib.Hide
import Derived.Lib.Strings
import Derived.OpenShut
set_option linter.unusedVariables false
namespace Go.Proofs.YthfanonjokpflaaGreat
open Go Go.RowKit

theorem mk_eq (l : List UInt8) (q : ByteArray) (h : q.data.toList = l) : (⟨l.toArray⟩ : ByteArray) = q := by
  rw [← h]
theorem ba_ext {a b : ByteArray} (h : a.data.toList = b.data.toList) : a = b := by
  rw [← mk_eq _ b rfl, ← mk_eq _ a rfl, h]

end Go.Proofs.YthfanonjokpflaaGreat
