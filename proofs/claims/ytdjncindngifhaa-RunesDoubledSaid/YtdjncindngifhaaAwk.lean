/-
  The example of layer 1, and the small helpers of its laws: awake, Place.
-/
import Derived.Test.YtdjncindngifhaaRn4
set_option linter.unusedVariables false
namespace Go.Proofs.Ytdjncindngifhaa
open Go Go.RowKit

set_option maxHeartbeats 1600000 in
set_option maxRecDepth 100000 in
theorem awake_any (w : World) :
    Calls Try.prog 9 #[] w fun e w' => e = .returned (.bool true) ∧ Below w.heap.size w w' := by
  have hu : unquoteV (unquoteO [120, 39, 105, 116, 39, 39, 115, 39] 1) = .tuple #[.string ⟨#[105, 116, 39, 115]⟩, .int .i64 8, .bool true] := rfl
  have hq : (quoteL [105, 116, 39, 115]).toArray = #[39, 105, 116, 39, 39, 115, 39] := rfl
  have hn : nameB ⟨#[95, 97, 49]⟩ = true := by decide
  go_enter Try.func9, Try.ntmps9
  go_wp2_with fail
  refine (unquote_any _ _ _ (by decide)).mono ?_
  rintro e w1 ⟨rfl, b1⟩
  rw [hu]
  go_wp2_with fail
  refine (quote_any _ _ (by decide)).mono ?_
  rintro e w2 ⟨rfl, b2⟩
  rw [hq]
  go_wp2_with fail
  refine (name_any _ _ (by decide)).mono ?_
  rintro e w3 ⟨rfl, b3⟩
  rw [hn]
  go_wp2
  go_ret
  exact ⟨rfl, b1.trans ((b2.mono b1.size).trans (b3.mono (Nat.le_trans b1.size b2.size)))⟩
end Go.Proofs.Ytdjncindngifhaa
