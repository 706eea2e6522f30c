/-
  The document's own Same, Seen, Check of cells.
-/
import Derived.Test.YthfanonjokpflaaCeA
import Derived.Test.YthfanonjokpflaaCeOk
import Derived.Deep.DeepCutAuto
set_option linter.unusedVariables false
set_option linter.unusedSimpArgs false
namespace Go.Proofs.Ythfanonjokpflaa
open Go Go.RowKit

set_option maxHeartbeats 2000000 in
theorem rsame_any (s t : ByteArray) (d f : Bool) (a b e g : Int) (w : World) :
    Calls Try.prog 79 #[.agg #[.string s, .bool d, .int .i64 a, .int .i64 e], .agg #[.string t, .bool f, .int .i64 b, .int .i64 g]] w fun x w' => x = .returned (.bool (Ce.same ⟨s, d, a, e⟩ ⟨t, f, b, g⟩)) ∧ Below w.heap.size w w' := by
  obtain ⟨r, hr⟩ : ∃ r, Ce.same ⟨s, d, a, e⟩ ⟨t, f, b, g⟩ = r := ⟨_, rfl⟩
  rw [hr]
  have HR := Lib.hid hr
  clear hr
  have bz := Lib.hid (((Below.refl w.heap.size w).alloc (Nat.le_refl _) (.cells #[.string s, .bool d, .int .i64 a, .int .i64 e] 58)).alloc (by simp) (.cells #[.string t, .bool f, .int .i64 b, .int .i64 g] 58))
  cases h1 : (s.toList == t.toList)
  · have hv : r = false := by rw [← HR.out]; unfold Ce.same; rw [h1]; rfl
    subst hv
    go_enter Try.func79, Try.ntmps79
    go_wp2
    go_ret
    exact ⟨rfl, bz.out⟩
  · cases h2 : (d == f)
    · have hv : r = false := by rw [← HR.out]; unfold Ce.same; rw [h1, h2]; rfl
      subst hv
      go_enter Try.func79, Try.ntmps79
      go_wp2
      go_ret
      exact ⟨rfl, bz.out⟩
    · cases h3 : (a == b)
      · have hv : r = false := by rw [← HR.out]; unfold Ce.same; rw [h1, h2, h3]; rfl
        subst hv
        go_enter Try.func79, Try.ntmps79
        go_wp2
        go_ret
        exact ⟨rfl, bz.out⟩
      · cases h4 : (e == g)
        · have hv : r = false := by rw [← HR.out]; unfold Ce.same; rw [h1, h2, h3, h4]; rfl
          subst hv
          go_enter Try.func79, Try.ntmps79
          go_wp2
          go_ret
          exact ⟨rfl, bz.out⟩
        · have hv : r = true := by rw [← HR.out]; unfold Ce.same; rw [h1, h2, h3, h4]; rfl
          subst hv
          go_enter Try.func79, Try.ntmps79
          go_wp2
          go_ret
          exact ⟨rfl, bz.out⟩

end Go.Proofs.Ythfanonjokpflaa
