/-
  Rows that may be, and what is joined (plain).
-/
import Derived.Test.YtafbbojfifcncaaRoB
import Derived.Test.YtafbbojfifcncaaRw4
set_option linter.unusedVariables false
set_option linter.unusedSimpArgs false
namespace Go.Proofs.Ytafbbojfifcncaa
open Go Go.RowKit

theorem up_of_ok {R : Ro} (h : R.ok = true) : R.Up := by
  unfold Ro.ok at h
  simp only [Bool.and_eq_true] at h
  exact ⟨colsB_rise h.2.2.2.2.2, colsB_full h.2.2.2.2.2⟩
/-- What holds of all columns of two holds of what is joined. -/
theorem few_join {R R' : Ro} (h : Few R.cols) (h' : Few R'.cols) : Few (R.join R').cols := by
  unfold Few Ro.join
  simp only
  refine mrg_all (fun n c d hc hd => ?_) h h'
  rcases join_or d c with e | e <;> rw [e] <;> assumption
theorem len_join (R R' : Ro) : (R.join R').cols.length ≤ R.cols.length + R'.cols.length := mrg_length _ _
theorem live_join (R R' : Ro) {m : Nat} (h : R.live.s.size ≤ m) (h' : R'.live.s.size ≤ m) : (R.join R').live.s.size ≤ m := by
  show (R.live.join R'.live).s.size ≤ m
  rcases join_or R.live R'.live with e | e <;> rw [e] <;> assumption
end Go.Proofs.Ytafbbojfifcncaa
