/-
  Texts compared for equality, in the walk's spelling (as in LwLists). GENERAL.
-/
import Derived.Test.YtdbdlgmejddbhaaDoorPlc
namespace Go.Proofs.YtdbdlgmejddbhaaDoor
open Go Go.RowKit

theorem eqB_iff (a b : ByteArray) : (a.toList == b.toList) = true ↔ a = b := by
  rw [Lib.toList_data, Lib.toList_data, beq_iff_eq]
  exact ⟨fun h => ba_ext h, fun h => by rw [h]⟩
theorem eqB_true {a b : ByteArray} (h : a = b) : (a.toList == b.toList) = true := (eqB_iff a b).2 h
theorem eqB_false {a b : ByteArray} (h : a ≠ b) : (a.toList == b.toList) = false := by
  rw [Bool.eq_false_iff]
  exact fun e => h ((eqB_iff a b).1 e)
theorem neB_true {a b : ByteArray} (h : a ≠ b) : (a.toList != b.toList) = true := by
  unfold bne; rw [eqB_false h]; rfl
end Go.Proofs.YtdbdlgmejddbhaaDoor
