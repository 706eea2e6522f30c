/-
  Seen of a cell.
-/
import Derived.Test.YtafbbojfifcncaaCeA
set_option linter.unusedVariables false
set_option linter.unusedSimpArgs false
namespace Go.Proofs.Ytafbbojfifcncaa
open Go Go.RowKit

set_option maxHeartbeats 2000000 in
theorem seen_any (s : ByteArray) (d : Bool) (a e n : Int) (w : World) :
    Calls Try.prog 63 #[.agg #[.string s, .bool d, .int .i64 a, .int .i64 e], .int .i64 n] w fun x w' => x = .returned (.bool (Ce.seen ⟨s, d, a, e⟩ n)) ∧ Below w.heap.size w w' := by
  obtain ⟨r, hr⟩ : ∃ r, Ce.seen ⟨s, d, a, e⟩ n = r := ⟨_, rfl⟩
  rw [hr]
  have HR := Lib.hid hr
  clear hr
  have bz := Lib.hid ((Below.refl w.heap.size w).alloc (Nat.le_refl _) (.cells #[.string s, .bool d, .int .i64 a, .int .i64 e] 33))
  by_cases h1 : 0 < a
  · cases d
    · by_cases h2 : e = 0
      · have hb : (e == 0) = true := by rw [beq_iff_eq]; exact h2
        have hv : r = true := by rw [← HR.out]; simp [Ce.seen, h1, h2]
        subst hv
        subst h2
        go_enter Try.func63, Try.ntmps63
        go_wp2
        go_ret
        exact ⟨rfl, bz.out⟩
      · have hb : (e == 0) = false := by rw [beq_eq_false_iff_ne]; exact h2
        by_cases h3 : n < e
        · have hv : r = true := by rw [← HR.out]; simp [Ce.seen, h1, h2, h3]
          subst hv
          go_enter Try.func63, Try.ntmps63
          go_wp2
          go_ret
          exact ⟨rfl, bz.out⟩
        · have hv : r = false := by rw [← HR.out]; simp [Ce.seen, h1, h2]; omega
          subst hv
          go_enter Try.func63, Try.ntmps63
          go_wp2
          go_ret
          exact ⟨rfl, bz.out⟩
    · have hv : r = false := by rw [← HR.out]; simp [Ce.seen]
      subst hv
      go_enter Try.func63, Try.ntmps63
      go_wp2
      go_ret
      exact ⟨rfl, bz.out⟩
  · have hv : r = false := by rw [← HR.out]; simp [Ce.seen, h1]
    subst hv
    go_enter Try.func63, Try.ntmps63
    go_wp2
    go_ret
    exact ⟨rfl, bz.out⟩

end Go.Proofs.Ytafbbojfifcncaa
