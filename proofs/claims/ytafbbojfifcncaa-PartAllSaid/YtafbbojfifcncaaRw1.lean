/-
  The developers' row: Gone, counts, Cell, Best.
-/
import Derived.Test.YtafbbojfifcncaaRo1
import Derived.Test.YtafbbojfifcncaaCe5
import Derived.Test.YtafbbojfifcncaaRo4
set_option linter.unusedVariables false
set_option linter.unusedSimpArgs false
namespace Go.Proofs.Ytafbbojfifcncaa
open Go Go.RowKit

theorem new_at {W : World} {r : Nat} {cs : Array Value} {t : TypeId} (h : W.heap[r]? = some (.cells cs t (0, 0))) (o : Obj) : (W.alloc o).heap[r]? = some (.cells cs t (0, 0)) :=
  (((Below.refl W.heap.size W).alloc (Nat.le_refl _) o).block r (Array.getElem?_eq_some_iff.1 h).1).trans h
/-- Does a cell count, where all is gone up to m? As the developers ask it. -/
def cntD (m : Int) (c : Ce) : Bool := !c.d && decide (m < c.a)
def bestD (m : Int) (c : Ce) : Ce := if cntD m c = true then c else noC
theorem cntD_eq {m : Int} (h : 0 ≤ m) (c : Ce) : cntD m c = cnt m c := by
  unfold cntD cnt
  congr 1
  rw [Bool.eq_iff_iff, Bool.and_eq_true, decide_eq_true_iff, decide_eq_true_iff]
  omega
theorem bestD_eq {m : Int} (h : 0 ≤ m) (c : Ce) : bestD m c = bestC m c := by unfold bestD bestC; rw [cntD_eq h]

theorem gone_any (k s : ByteArray) (d : Bool) (a e g h p : Int) (A : Option Addr) (n c : Nat) (w : World) :
    Calls Try.prog 64 #[.agg #[.string k, .string s, .bool d, .int .i64 a, .int .i64 e, .int .i64 g, .int .i64 h, .slice A n c], .int .i64 p] w fun x w' => x = .returned (.int .i64 (max g p)) ∧ Below w.heap.size w w' := by
  have bz := Lib.hid ((Below.refl w.heap.size w).alloc (Nat.le_refl _) (.cells #[.string k, .string s, .bool d, .int .i64 a, .int .i64 e, .int .i64 g, .int .i64 h, .slice A n c] 36))
  go_enter Try.func64, Try.ntmps64
  go_wp2
  go_ret
  exact ⟨rfl, bz.out⟩

theorem counts_any (s : ByteArray) (d : Bool) (a e m : Int) (w : World) :
    Calls Try.prog 65 #[.agg #[.string s, .bool d, .int .i64 a, .int .i64 e], .int .i64 m] w fun x w' => x = .returned (.bool (cntD m ⟨s, d, a, e⟩)) ∧ Below w.heap.size w w' := by
  obtain ⟨r, hr⟩ : ∃ r : Bool, cntD m ⟨s, d, a, e⟩ = r := ⟨_, rfl⟩
  rw [hr]
  have HR := Lib.hid hr
  clear hr
  have bz := Lib.hid ((Below.refl w.heap.size w).alloc (Nat.le_refl _) (.cells #[.string s, .bool d, .int .i64 a, .int .i64 e] 33))
  cases d
  · by_cases h1 : m < a
    · have hv : r = true := by rw [← HR.out]; simp [cntD, h1]
      subst hv
      go_enter Try.func65, Try.ntmps65
      go_wp2
      go_ret
      exact ⟨rfl, bz.out⟩
    · have hv : r = false := by rw [← HR.out]; simp [cntD, h1]
      subst hv
      go_enter Try.func65, Try.ntmps65
      go_wp2
      go_ret
      exact ⟨rfl, bz.out⟩
  · have hv : r = false := by rw [← HR.out]; simp [cntD]
    subst hv
    go_enter Try.func65, Try.ntmps65
    go_wp2
    go_ret
    exact ⟨rfl, bz.out⟩
end Go.Proofs.Ytafbbojfifcncaa
