/-
  Same of cells.
-/
import Derived.Test.YtafbbojfifcncaaCeQ
set_option linter.unusedVariables false
set_option linter.unusedSimpArgs false
namespace Go.Proofs.Ytafbbojfifcncaa
open Go Go.RowKit

theorem same_any (s t : ByteArray) (d f : Bool) (a b e g : Int) (w : World) :
    Calls Try.prog 51 #[.agg #[.string s, .bool d, .int .i64 a, .int .i64 e], .agg #[.string t, .bool f, .int .i64 b, .int .i64 g]] w fun x w' => x = .returned (.bool (Ce.same ⟨s, d, a, e⟩ ⟨t, f, b, g⟩)) ∧ Below w.heap.size w w' := by
  have he := fun w => run_eqCe s t d f a b e g w
  have hm : Try.prog.eqGuardType Try.prog.depth 33 = false := by kernel_rfl
  have hg := fun (w : World) (x y : Operand) => run_eqGuard_agg (P := Try.prog) w .eql 33 x y #[.string s, .bool d, .int .i64 a, .int .i64 e] #[.string t, .bool f, .int .i64 b, .int .i64 g] hm
  have bz := Lib.hid (((Below.refl w.heap.size w).alloc (Nat.le_refl _) (.cells #[.string s, .bool d, .int .i64 a, .int .i64 e] 33)).alloc (by simp) (.cells #[.string t, .bool f, .int .i64 b, .int .i64 g] 33))
  clear hm
  go_enter Try.func51, Try.ntmps51
  go_wp2
  go_ret
  exact ⟨rfl, bz.out⟩

end Go.Proofs.Ytafbbojfifcncaa
