/-
  Texts compared for equality, in the walk's spelling (as in LwLists). GENERAL.
-/
import Derived.Test.YtbfkbfbcaileoaaPlc
namespace Go.Proofs.Ytbfkbfbcaileoaa
open Go Go.RowKit

theorem eqB_iff (a b : ByteArray) : (a.toList == b.toList) = true ↔ a = b := by
  rw [Lib.toList_data, Lib.toList_data, beq_iff_eq]
  exact ⟨fun h => ba_ext h, fun h => by rw [h]⟩
end Go.Proofs.Ytbfkbfbcaileoaa
