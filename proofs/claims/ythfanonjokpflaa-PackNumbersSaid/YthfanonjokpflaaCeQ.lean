/-
  The model's own comparison of two cells.
-/
import Derived.Test.YthfanonjokpflaaCeA
import Derived.Laws.StructEq
set_option linter.unusedVariables false
set_option linter.unusedSimpArgs false
namespace Go.Proofs.Ythfanonjokpflaa
open Go Go.RowKit

/-- The model's own comparison of two cells. -/
theorem run_eqCe (s t : ByteArray) (d f : Bool) (a b e g : Int) (w : World) :
    (binOp .eql 58 (.agg #[.string s, .bool d, .int .i64 a, .int .i64 e]) (.agg #[.string t, .bool f, .int .i64 b, .int .i64 g])).run Try.prog w = .ok (.bool (Ce.same ⟨s, d, a, e⟩ ⟨t, f, b, g⟩)) w := by
  have u3 := Try.underlying3
  have u4 := Try.underlying4
  have u9 := Try.underlying9
  have a3 := Try.isAgg3
  have a4 := Try.isAgg4
  have a9 := Try.isAgg9
  have z3 := Try.sizeOf3
  have z4 := Try.sizeOf4
  have z9 := Try.sizeOf9
  have hS : Try.prog.underlying 58 = some (.struct (Try.prog.fieldsOf 58)) := by kernel_rfl
  have hp : Try.prog.stoodInHeld 58 = false := by kernel_rfl
  rw [run_eql_struct, show (10000 : Nat) = 9999 + 1 from rfl, run_equalIn_struct w 9999 58 _ _ hS hp]
  simp only [Program.fieldsOf, Try.underlying58]
  go_simp
  unfold Ce.same
  by_cases h1 : s.toList = t.toList <;> by_cases h2 : d = f <;> by_cases h3 : a = b <;> by_cases h4 : e = g <;> simp [h1, h2, h3, h4]

end Go.Proofs.Ythfanonjokpflaa
