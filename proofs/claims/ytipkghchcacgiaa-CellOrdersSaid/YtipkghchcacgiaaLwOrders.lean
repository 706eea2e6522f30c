/-
  The walk of CellOrders.
-/
import Derived.Test.YtipkghchcacgiaaCe5
set_option linter.unusedVariables false
set_option linter.unusedSimpArgs false
namespace Go.Proofs.Ytipkghchcacgiaa
open Go Go.RowKit

set_option maxHeartbeats 4000000 in
theorem orders_law (s1 : ByteArray) (d1 : Bool) (a1 e1 : Int) (s2 : ByteArray) (d2 : Bool) (a2 e2 : Int) (s3 : ByteArray) (d3 : Bool) (a3 e3 : Int) (w : World) (ws1 : s1.size ≤ maxLen) (wa1 : (Lit.int .i64 a1).wf = true) (we1 : (Lit.int .i64 e1).wf = true) (ws2 : s2.size ≤ maxLen) (wa2 : (Lit.int .i64 a2).wf = true) (we2 : (Lit.int .i64 e2).wf = true) (ws3 : s3.size ≤ maxLen) (wa3 : (Lit.int .i64 a3).wf = true) (we3 : (Lit.int .i64 e3).wf = true) :
    Calls Try.prog 5 #[.agg #[.string s1, .bool d1, .int .i64 a1, .int .i64 e1], .agg #[.string s2, .bool d2, .int .i64 a2, .int .i64 e2], .agg #[.string s3, .bool d3, .int .i64 a3, .int .i64 e3]] w fun e w' => e = .returned (.bool true) ∧ Below w.heap.size w w' := by
  clear ws1 wa1 we1 ws2 wa2 we2 ws3 wa3 we3
  have h3 := three w s1 s2 s3 d1 d2 d3 a1 e1 a2 e2 a3 e3
  have rd := RdC.lit (((w.alloc (.cells #[.string s1, .bool d1, .int .i64 a1, .int .i64 e1] 23)).alloc (.cells #[.string s2, .bool d2, .int .i64 a2, .int .i64 e2] 23)).alloc (.cells #[.string s3, .bool d3, .int .i64 a3, .int .i64 e3] 23)) [⟨s1, d1, a1, e1⟩, ⟨s2, d2, a2, e2⟩, ⟨s3, d3, a3, e3⟩] (w.heap.size + 1 + 1 + 1) (by simp)
  have bz := (((Below.refl w.heap.size w).alloc (Nat.le_refl _) (.cells #[.string s1, .bool d1, .int .i64 a1, .int .i64 e1] 23)).alloc (by simp) (.cells #[.string s2, .bool d2, .int .i64 a2, .int .i64 e2] 23)).alloc (by simp; omega) (.cells #[.string s3, .bool d3, .int .i64 a3, .int .i64 e3] 23)
  obtain ⟨r1, hr1⟩ : ∃ r, Ce.cmp ⟨s1, d1, a1, e1⟩ ⟨s2, d2, a2, e2⟩ = r := ⟨_, rfl⟩
  obtain ⟨r2, hr2⟩ : ∃ r, Ce.cmp ⟨s2, d2, a2, e2⟩ ⟨s3, d3, a3, e3⟩ = r := ⟨_, rfl⟩
  obtain ⟨r3, hr3⟩ : ∃ r, Ce.cmp ⟨s1, d1, a1, e1⟩ ⟨s3, d3, a3, e3⟩ = r := ⟨_, rfl⟩
  have hr4 : Ce.cmp ⟨s2, d2, a2, e2⟩ ⟨s1, d1, a1, e1⟩ = -r1 := by rw [← hr1]; exact cmp_tot.anti _ _
  have hr5 : Ce.cmp ⟨s1, d1, a1, e1⟩ ⟨s1, d1, a1, e1⟩ = 0 := cmp_self _
  have hsm : Ce.same ⟨s1, d1, a1, e1⟩ ⟨s2, d2, a2, e2⟩ = (r1 == 0) := by rw [← hr1]; exact (same_cmp _ _).symm
  have t1 : r1 ≤ 0 → r2 ≤ 0 → r3 ≤ 0 := by rw [← hr1, ← hr2, ← hr3]; exact cmp_tot.trans _ _ _
  have t2 : 0 ≤ r1 → 0 ≤ r2 → 0 ≤ r3 := by
    have := cmp_tot.trans ⟨s3, d3, a3, e3⟩ ⟨s2, d2, a2, e2⟩ ⟨s1, d1, a1, e1⟩
    rw [cmp_tot.anti ⟨s2, d2, a2, e2⟩ ⟨s3, d3, a3, e3⟩, cmp_tot.anti ⟨s1, d1, a1, e1⟩ ⟨s2, d2, a2, e2⟩, cmp_tot.anti ⟨s1, d1, a1, e1⟩ ⟨s3, d3, a3, e3⟩, hr1, hr2, hr3] at this
    omega
  have l1 : r1 = -1 ∨ r1 = 0 ∨ r1 = 1 := by rw [← hr1]; exact cmp_three _ _
  have l2 : r2 = -1 ∨ r2 = 0 ∨ r2 = 1 := by rw [← hr2]; exact cmp_three _ _
  have R1 := Lib.hid hr1; have R2 := Lib.hid hr2; have R3 := Lib.hid hr3; have R4 := Lib.hid hr4; have R5 := Lib.hid hr5
  have SM := Lib.hid hsm; have T1 := Lib.hid t1; have T2 := Lib.hid t2; have L1 := Lib.hid l1; have L2 := Lib.hid l2
  clear hr1 hr2 hr3 hr4 hr5 hsm t1 t2 l1 l2
  have H3 := Lib.hid h3
  have RD := Lib.hid rd
  have BZ := Lib.hid bz
  clear h3 rd bz
  cases hf : few [⟨s1, d1, a1, e1⟩, ⟨s2, d2, a2, e2⟩, ⟨s3, d3, a3, e3⟩]
  · have HF := Lib.hid hf
    clear hf
    go_enter Try.func5, Try.ntmps5
    go_wp2_with fail
    refine (few_as _ _ _ _ _ _ _ RD.out (by simp) (by simp) HF.out).mono ?_
    rintro x w1 ⟨rfl, b1⟩
    go_wp2_with fail
    refine (awake_any _).mono ?_
    rintro x w2 ⟨rfl, b2⟩
    go_wp2
    go_ret
    exact ⟨rfl, next (next (BZ.out.alloc (by simp; omega) _) b1) b2⟩
  · have HF := Lib.hid hf
    clear hf
    go_enter Try.func5, Try.ntmps5
    go_wp2_with fail
    refine (few_as _ _ _ _ _ _ _ RD.out (by simp) (by simp) HF.out).mono ?_
    rintro x w1 ⟨rfl, b1⟩
    have b1' := next (BZ.out.alloc (by simp; omega) _) b1
    have B1 : Below (w.heap.size + 3) (((w.alloc (.cells #[.string s1, .bool d1, .int .i64 a1, .int .i64 e1] 23)).alloc (.cells #[.string s2, .bool d2, .int .i64 a2, .int .i64 e2] 23)).alloc (.cells #[.string s3, .bool d3, .int .i64 a3, .int .i64 e3] 23)) w1 := ((Below.refl _ _).alloc (by simp) _).trans (b1.mono (by simp))
    have hs1 : w.heap.size + 3 ≤ w1.heap.size := by have := B1.size; simpa using this
    have hall := fun w' (hb : Below w1.heap.size w1 w') => H3.out w' (B1.trans (hb.mono hs1))
    have HALL := Lib.hid hall
    obtain ⟨⟨c0, c1, c2, c3⟩, ⟨c4, c5, c6, c7⟩, c8, c9, c10, c11⟩ := hall w1 (Below.refl _ _)
    have hB0 : Below w1.heap.size w1 w1.drew := (Below.refl _ _).drew
    clear hall hs1 B1
    go_wp2_with fail
    go_region_held3 (fun w' => (w'.cell? ⟨w.heap.size, 0, none⟩ = some (.string s1) ∧ w'.cell? ⟨w.heap.size, 1, none⟩ = some (.bool d1) ∧ w'.cell? ⟨w.heap.size, 2, none⟩ = some (.int .i64 a1) ∧ w'.cell? ⟨w.heap.size, 3, none⟩ = some (.int .i64 e1)) ∧ (w'.cell? ⟨w.heap.size + 1, 0, none⟩ = some (.string s2) ∧ w'.cell? ⟨w.heap.size + 1, 1, none⟩ = some (.bool d2) ∧ w'.cell? ⟨w.heap.size + 1, 2, none⟩ = some (.int .i64 a2) ∧ w'.cell? ⟨w.heap.size + 1, 3, none⟩ = some (.int .i64 e2)) ∧ (w'.cell? ⟨w.heap.size + 1 + 1, 0, none⟩ = some (.string s3) ∧ w'.cell? ⟨w.heap.size + 1 + 1, 1, none⟩ = some (.bool d3) ∧ w'.cell? ⟨w.heap.size + 1 + 1, 2, none⟩ = some (.int .i64 a3) ∧ w'.cell? ⟨w.heap.size + 1 + 1, 3, none⟩ = some (.int .i64 e3))) (refine ⟨⟨?_, ?_, ?_, ?_⟩, ⟨?_, ?_, ?_, ?_⟩, ?_, ?_, ?_, ?_⟩ <;> assumption) (first
      | (go_at_call 15; refine (cmp_any _ _ _ _ _ _ _ _ _).mono ?_; rintro x w2 ⟨rfl, b2⟩; (first | rw [R1.out] | rw [R2.out] | rw [R3.out]); have hB2 := next (w := w1) (by assumption) b2; obtain ⟨⟨_, _, _, _⟩, ⟨_, _, _, _⟩, _, _, _, _⟩ := HALL.out _ hB2))
    rcases L1.out with rfl | rfl | rfl <;> rcases L2.out with rfl | rfl | rfl
    all_goals (try have k1 : r3 ≤ 0 := T1.out (by decide) (by decide))
    all_goals (try have k2 : 0 ≤ r3 := T2.out (by decide) (by decide))
    all_goals go_wp2_with fail
    all_goals refine (cmp_any _ _ _ _ _ _ _ _ _).mono ?_
    all_goals rintro x w3 ⟨rfl, b3⟩
    all_goals rw [R4.out]
    all_goals have hB3 := next (w := w1) (by assumption) b3
    all_goals obtain ⟨⟨_, _, _, _⟩, ⟨_, _, _, _⟩, _, _, _, _⟩ := HALL.out _ hB3
    all_goals go_wp2_with fail
    all_goals refine (same_any _ _ _ _ _ _ _ _ _).mono ?_
    all_goals rintro x w4 ⟨rfl, b4⟩
    all_goals rw [SM.out]
    all_goals have hB4 := next hB3 b4
    all_goals obtain ⟨⟨_, _, _, _⟩, ⟨_, _, _, _⟩, _, _, _, _⟩ := HALL.out _ hB4
    all_goals go_wp2_with fail
    all_goals refine (cmp_any _ _ _ _ _ _ _ _ _).mono ?_
    all_goals rintro x w5 ⟨rfl, b5⟩
    all_goals rw [R5.out]
    all_goals have hB5 := next hB4 b5
    all_goals go_wp2_with fail
    all_goals refine (awake_any _).mono ?_
    all_goals rintro x w6 ⟨rfl, b6⟩
    all_goals go_wp2
    all_goals go_ret
    all_goals refine ⟨?_, next (next b1' hB5) b6⟩
    all_goals first
      | rfl
      | (show Ending.returned (.bool (!decide (0 < r3))) = _; rw [decide_eq_false (by omega)]; rfl)
      | (show Ending.returned (.bool (!decide (r3 < 0))) = _; rw [decide_eq_false (by omega)]; rfl)
      | (show Ending.returned (.bool (!decide (0 < r3) && !decide (r3 < 0))) = _; rw [decide_eq_false (show ¬ 0 < r3 by omega), decide_eq_false (show ¬ r3 < 0 by omega)]; rfl)
end Go.Proofs.Ytipkghchcacgiaa
