/-
  Check of cells.
-/
import Derived.Test.YthfanonjokpflaaGreatCeQ
import Derived.Test.YthfanonjokpflaaGreatCeOk
set_option linter.unusedVariables false
set_option linter.unusedSimpArgs false
namespace Go.Proofs.YthfanonjokpflaaGreat
open Go Go.RowKit

theorem stamp_any (n : Int) (w : World) :
    Calls Tryz.prog 124 #[.int .i64 n] w fun x w' => x = .returned (.bool (decide (0 ≤ n) && decide (n ≤ 1099511627776))) ∧ w = w' := by
  by_cases h : 0 ≤ n
  · go_enter Tryz.func124, Tryz.ntmps124
    go_wp2
    go_ret
    exact ⟨by simp [h], rfl⟩
  · go_enter Tryz.func124, Tryz.ntmps124
    go_wp2
    go_ret
    exact ⟨by rw [show decide (0 ≤ n) = false from decide_eq_false (by omega)]; rfl, rfl⟩

set_option maxHeartbeats 2000000 in
theorem check_any (s : ByteArray) (d : Bool) (a e : Int) (w : World) (hs : s.size ≤ maxLen) :
    Calls Tryz.prog 118 #[.agg #[.string s, .bool d, .int .i64 a, .int .i64 e]] w fun x w' => x = .returned (.bool (Ce.ok ⟨s, d, a, e⟩)) ∧ Below w.heap.size w w' := by
  have bz := Lib.hid ((Below.refl w.heap.size w).alloc (Nat.le_refl _) (.cells #[.string s, .bool d, .int .i64 a, .int .i64 e] 54))
  have hm : Tryz.prog.eqGuardType Tryz.prog.depth 54 = false := by kernel_rfl
  by_cases h1 : a = 0
  · subst h1
    have hv : Ce.ok ⟨s, d, 0, e⟩ = Ce.same ⟨s, d, 0, e⟩ ⟨⟨#[]⟩, false, 0, 0⟩ := rfl
    rw [hv]
    have he := fun w => run_eqCe s ⟨#[]⟩ d false 0 0 e 0 w
    have hg := fun (w : World) (x y : Operand) => run_eqGuard_agg (P := Tryz.prog) w .eql 54 x y #[.string s, .bool d, .int .i64 0, .int .i64 e] #[.string ⟨#[]⟩, .bool false, .int .i64 0, .int .i64 0] hm
    clear hm hv
    go_enter Tryz.func118, Tryz.ntmps118
    go_wp2
    go_ret
    exact ⟨rfl, bz.out⟩
  · have hb : (a == 0) = false := by rw [beq_eq_false_iff_ne]; exact h1
    cases h2 : stm a
    · have hv : Ce.ok ⟨s, d, a, e⟩ = false := by unfold Ce.ok; rw [if_neg h1, if_pos h2]
      rw [hv]
      have H2 := Lib.hid h2
      clear h2 hv
      go_enter Tryz.func118, Tryz.ntmps118
      go_wp2_with fail
      refine (stamp_any a _).mono ?_
      rintro x w1 ⟨rfl, rfl⟩
      rw [show (decide (0 ≤ a) && decide (a ≤ 1099511627776)) = false from H2.out]
      go_wp2
      go_ret
      exact ⟨rfl, bz.out⟩
    · have hv : Ce.ok ⟨s, d, a, e⟩ = if d = true then Ce.same ⟨s, d, a, e⟩ ⟨⟨#[]⟩, true, a, 0⟩ else decide (s.size ≤ 100) && stm e := by unfold Ce.ok; rw [if_neg h1, if_neg (by rw [h2]; decide)]
      rw [hv]
      have H2 := Lib.hid h2
      clear h2 hv
      cases d
      · rw [if_neg (by decide)]
        by_cases h3 : s.size ≤ 100
        · have d3 : decide ((s.size : Int) ≤ 100) = true := by simp; omega
          rw [show decide (s.size ≤ 100) = true from decide_eq_true h3]
          go_enter Tryz.func118, Tryz.ntmps118
          go_wp2_with fail
          refine (stamp_any a _).mono ?_
          rintro x w1 ⟨rfl, rfl⟩
          rw [show (decide (0 ≤ a) && decide (a ≤ 1099511627776)) = true from H2.out]
          go_wp2_with fail
          refine (stamp_any e _).mono ?_
          rintro x w1 ⟨rfl, rfl⟩
          go_wp2
          go_ret
          exact ⟨rfl, bz.out⟩
        · have d3 : decide ((s.size : Int) ≤ 100) = false := by simp; omega
          rw [show decide (s.size ≤ 100) = false from decide_eq_false h3]
          go_enter Tryz.func118, Tryz.ntmps118
          go_wp2_with fail
          refine (stamp_any a _).mono ?_
          rintro x w1 ⟨rfl, rfl⟩
          rw [show (decide (0 ≤ a) && decide (a ≤ 1099511627776)) = true from H2.out]
          go_wp2
          go_ret
          exact ⟨rfl, bz.out⟩
      · rw [if_pos rfl]
        have he := fun w => run_eqCe s ⟨#[]⟩ true true a a e 0 w
        have hg := fun (w : World) (x y : Operand) => run_eqGuard_agg (P := Tryz.prog) w .eql 54 x y #[.string s, .bool true, .int .i64 a, .int .i64 e] #[.string ⟨#[]⟩, .bool true, .int .i64 a, .int .i64 0] hm
        clear hm
        go_enter Tryz.func118, Tryz.ntmps118
        go_wp2_with fail
        refine (stamp_any a _).mono ?_
        rintro x w1 ⟨rfl, rfl⟩
        rw [show (decide (0 ≤ a) && decide (a ≤ 1099511627776)) = true from H2.out]
        go_wp2
        go_ret
        exact ⟨rfl, bz.out⟩

end Go.Proofs.YthfanonjokpflaaGreat
