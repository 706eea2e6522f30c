/-
  The model's own comparison of two cells.
-/
import Derived.Test.YthfanonjokpflaaGreatCeA
import Derived.Laws.StructEq
set_option linter.unusedVariables false
set_option linter.unusedSimpArgs false
namespace Go.Proofs.YthfanonjokpflaaGreat
open Go Go.RowKit

/-- The model's own comparison of two cells. -/
theorem run_eqCe (s t : ByteArray) (d f : Bool) (a b e g : Int) (w : World) :
    (binOp .eql 54 (.agg #[.string s, .bool d, .int .i64 a, .int .i64 e]) (.agg #[.string t, .bool f, .int .i64 b, .int .i64 g])).run Tryz.prog w = .ok (.bool (Ce.same ⟨s, d, a, e⟩ ⟨t, f, b, g⟩)) w := by
  have u3 := Tryz.underlying3
  have u4 := Tryz.underlying4
  have u9 := Tryz.underlying9
  have a3 := Tryz.isAgg3
  have a4 := Tryz.isAgg4
  have a9 := Tryz.isAgg9
  have z3 := Tryz.sizeOf3
  have z4 := Tryz.sizeOf4
  have z9 := Tryz.sizeOf9
  have hS : Tryz.prog.underlying 54 = some (.struct (Tryz.prog.fieldsOf 54)) := by kernel_rfl
  have hp : Tryz.prog.stoodInHeld 54 = false := by kernel_rfl
  rw [run_eql_struct, show (10000 : Nat) = 9999 + 1 from rfl, run_equalIn_struct w 9999 54 _ _ hS hp]
  simp only [Program.fieldsOf, Tryz.underlying54]
  go_simp
  unfold Ce.same
  by_cases h1 : s.toList = t.toList <;> by_cases h2 : d = f <;> by_cases h3 : a = b <;> by_cases h4 : e = g <;> simp [h1, h2, h3, h4]

end Go.Proofs.YthfanonjokpflaaGreat
