/-
  The walk of CellEnds, whole.
-/
import Derived.Test.YtipkghchcacgiaaLwEnds
import Derived.ProofKit
set_option linter.unusedVariables false
namespace Go.Proofs.Ytipkghchcacgiaa
open Go Go.RowKit

theorem ends_law (at_ end_ now : Int) (s : ByteArray) (w : World) (h0 : (Lit.int .i64 at_).wf = true) (h1 : (Lit.int .i64 end_).wf = true) (h2 : (Lit.int .i64 now).wf = true) (h3 : s.size ≤ maxLen) :
    Calls Try.prog 6 #[.int .i64 at_, .int .i64 end_, .int .i64 now, .string s] w fun e w' => e = .returned (.bool true) ∧ Below w.heap.size w w' := by
  by_cases h : 100 < s.size
  · exact ends_long at_ end_ now s w h
  · exact ends_short at_ end_ now _ _ _ s w (by omega) (bounds_i64 h0) (bounds_i64 h1) (bounds_i64 h2) rfl rfl rfl (Int.emod_nonneg _ (by decide)) (Int.emod_lt_of_pos _ (by decide)) (Int.emod_nonneg _ (by decide)) (Int.emod_lt_of_pos _ (by decide)) (Int.emod_nonneg _ (by decide)) (Int.emod_lt_of_pos _ (by decide)) _ rfl (by simp)
end Go.Proofs.Ytipkghchcacgiaa
