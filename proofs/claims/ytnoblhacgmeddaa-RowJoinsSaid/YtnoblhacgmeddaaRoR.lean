/-
  The document's own calls, a row as one thing.
-/
import Derived.Test.YtnoblhacgmeddaaRoV
import Derived.Test.YtnoblhacgmeddaaRo6
import Derived.Test.YtnoblhacgmeddaaRo7
import Derived.Test.YtnoblhacgmeddaaRo3
set_option linter.unusedVariables false
set_option linter.unusedSimpArgs false
namespace Go.Proofs.Ytnoblhacgmeddaa
open Go Go.RowKit

theorem rcheck_ro (R : Ro) (A : Option Addr) (c B : Nat) (w : World) (h : RoIn w B R A c) (hB : B ≤ w.heap.size) (hn : R.cols.length ≤ 1000) (hf : Few R.cols) (hs : R.live.s.size ≤ maxLen) :
    Calls Try.prog 11 #[R.val A c] w fun x w' => x = .returned (.bool R.ok) ∧ Below w.heap.size w w' :=
  rcheckrow_any R.key R.live.s R.live.d R.live.a R.live.e R.gone R.shade A R.cols.length c B R.cols w h.rd hB (by omega) hf hs
theorem rjoin_ro (R R' X : Ro) (A A' : Option Addr) (c c' B B' : Nat) (w : World) (h : RoIn w B R A c) (h' : RoIn w B' R' A' c') (hB : B ≤ w.heap.size) (hB' : B' ≤ w.heap.size) (hn : R.cols.length + R'.cols.length ≤ 1000) (hX : R.join R' = X) :
    Calls Try.prog 20 #[R.val A c, R'.val A' c'] w fun x w' => ∃ Aj cj, x = .returned (X.val Aj cj) ∧ Cur w w' (.slice Aj X.cols.length cj) X.cols := by
  subst hX
  refine (rjoinrow_any R.key R.live.s R'.key R'.live.s R.live.d R'.live.d R.live.a R.live.e R.gone R.shade R'.live.a R'.live.e R'.gone R'.shade A A' R.cols.length c R'.cols.length c' B B' R.cols R'.cols w h.rd h'.rd hB hB' h.cap h'.cap hn).mono ?_
  rintro x w' ⟨js, jd, ja, je, Aj, cj, hj, rfl, hc⟩
  refine ⟨Aj, cj, ?_, hc⟩
  have hj' : R.live.join R'.live = ⟨js, jd, ja, je⟩ := hj
  unfold Ro.val Ro.join
  simp only
  rw [hj']
theorem rsame_ro (R R' : Ro) (A A' : Option Addr) (c c' B B' : Nat) (w : World) (h : RoIn w B R A c) (h' : RoIn w B' R' A' c') (hB : B ≤ w.heap.size) (hB' : B' ≤ w.heap.size) (hn : R.cols.length ≤ 1000) (hn' : R'.cols.length ≤ 1000) :
    Calls Try.prog 15 #[R.val A c, R'.val A' c'] w fun x w' => x = .returned (.bool (R.same R')) ∧ Below w.heap.size w w' :=
  rsamerow_any R.key R.live.s R'.key R'.live.s R.live.d R'.live.d R.live.a R.live.e R.gone R.shade R'.live.a R'.live.e R'.gone R'.shade A A' R.cols.length c R'.cols.length c' B B' R.cols R'.cols w h.rd h'.rd hB hB' (by omega) (by omega)
theorem up_of_ok {R : Ro} (h : R.ok = true) : R.Up := by
  unfold Ro.ok at h
  simp only [Bool.and_eq_true] at h
  exact ⟨colsB_rise h.2.2.2.2.2, colsB_full h.2.2.2.2.2⟩
/-- What holds of all columns of two holds of what is joined. -/
theorem few_join {R R' : Ro} (h : Few R.cols) (h' : Few R'.cols) : Few (R.join R').cols := by
  unfold Few Ro.join
  simp only
  refine mrg_all (fun n c d hc hd => ?_) h h'
  rcases join_or d c with e | e <;> rw [e] <;> assumption
theorem len_join (R R' : Ro) : (R.join R').cols.length ≤ R.cols.length + R'.cols.length := mrg_length _ _
theorem live_join (R R' : Ro) {m : Nat} (h : R.live.s.size ≤ m) (h' : R'.live.s.size ≤ m) : (R.join R').live.s.size ≤ m := by
  show (R.live.join R'.live).s.size ≤ m
  rcases join_or R.live R'.live with e | e <;> rw [e] <;> assumption
end Go.Proofs.Ytnoblhacgmeddaa
