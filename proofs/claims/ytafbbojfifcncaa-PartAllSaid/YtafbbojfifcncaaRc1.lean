/-
  The document's own comparison of cells.
-/
import Derived.Test.YtafbbojfifcncaaCeA
import Derived.Deep.DeepCutAuto
set_option linter.unusedVariables false
set_option linter.unusedSimpArgs false
namespace Go.Proofs.Ytafbbojfifcncaa
open Go Go.RowKit

set_option maxHeartbeats 1000000 in
theorem rorder_any (x y : Int) (w : World) :
    Calls Try.prog 98 #[.int .i64 x, .int .i64 y] w fun e w' => e = .returned (.int .i64 (icmp x y)) ∧ w = w' := by
  obtain ⟨r, hr⟩ : ∃ r, icmp x y = r := ⟨_, rfl⟩
  rw [hr]
  have HR := Lib.hid hr
  clear hr
  by_cases h1 : x < y
  · go_enter Try.func98, Try.ntmps98
    go_wp2
    go_ret
    exact ⟨by show Ending.returned (.int .i64 (-1)) = _; rw [show r = -1 from by rw [← HR.out]; unfold icmp; omega], rfl⟩
  · by_cases h2 : y < x
    · go_enter Try.func98, Try.ntmps98
      go_wp2
      go_ret
      exact ⟨by show Ending.returned (.int .i64 1) = _; rw [show r = 1 from by rw [← HR.out]; unfold icmp; omega], rfl⟩
    · go_enter Try.func98, Try.ntmps98
      go_wp2
      go_ret
      exact ⟨by show Ending.returned (.int .i64 0) = _; rw [show r = 0 from by rw [← HR.out]; unfold icmp; omega], rfl⟩

set_option maxHeartbeats 1000000 in
theorem rtext_any (x y : ByteArray) (w : World) :
    Calls Try.prog 100 #[.string x, .string y] w fun e w' => e = .returned (.int .i64 (tcmp x y)) ∧ w = w' := by
  obtain ⟨r, hr⟩ : ∃ r, tcmp x y = r := ⟨_, rfl⟩
  rw [hr]
  have HR := Lib.hid hr
  clear hr
  by_cases h1 : x.data.toList < y.data.toList
  · have f1 : Op.bytesLess x.toList y.toList = true := (blB_iff _ _).2 h1
    have hv : r = -1 := by rw [← HR.out]; unfold tcmp; rw [if_pos h1]
    subst hv
    clear h1
    go_enter Try.func100, Try.ntmps100
    go_wp2
    go_ret
    exact ⟨rfl, rfl⟩
  · have f1 : Op.bytesLess x.toList y.toList = false := by rw [Bool.eq_false_iff]; exact fun h => h1 ((blB_iff _ _).1 h)
    by_cases h2 : y.data.toList < x.data.toList
    · have f2 : (x.toList == y.toList) = false := eqB_false fun h => by subst h; exact h1 h2
      have f3 : (!Op.bytesLess x.toList y.toList && !(x.toList == y.toList)) = true := by rw [f1, f2]; rfl
      have hv : r = 1 := by rw [← HR.out]; unfold tcmp; rw [if_neg h1, if_pos h2]
      subst hv
      clear h1 h2
      go_enter Try.func100, Try.ntmps100
      go_wp2
      go_ret
      exact ⟨rfl, rfl⟩
    · have e1 := ba_ext (lt_or h1 h2)
      have f2 : (x.toList == y.toList) = true := eqB_true e1
      have f3 : (!Op.bytesLess x.toList y.toList && !(x.toList == y.toList)) = false := by rw [f1, f2]; rfl
      have hv : r = 0 := by rw [← HR.out]; unfold tcmp; rw [if_neg h1, if_neg h2]
      subst hv
      clear h1 h2 e1
      go_enter Try.func100, Try.ntmps100
      go_wp2
      go_ret
      exact ⟨rfl, rfl⟩

theorem rbit_any (x : Bool) (w : World) :
    Calls Try.prog 99 #[.bool x] w fun e w' => e = .returned (.int .i64 (if x = true then 1 else 0)) ∧ w = w' := by
  cases x
  all_goals
    go_enter Try.func99, Try.ntmps99
    go_wp2
    go_ret
    exact ⟨rfl, rfl⟩
theorem bits_cmp (x y : Bool) : icmp (if x = true then 1 else 0) (if y = true then 1 else 0) = bcmp x y := by cases x <;> cases y <;> decide
end Go.Proofs.Ytafbbojfifcncaa
