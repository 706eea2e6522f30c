/-
  Partitions by numbers (plain): their joins are partitions that may be.
-/
import Derived.Test.YthfanonjokpflaaPk
import Derived.Test.YthfanonjokpflaaNx5
import Derived.Test.YthfanonjokpflaaRoU
import Derived.Test.YthfanonjokpflaaRi
set_option linter.unusedVariables false
set_option linter.unusedSimpArgs false
namespace Go.Proofs.Ythfanonjokpflaa
open Go Go.RowKit

theorem riseK_of_rise : ∀ {l : Cols}, Rise l → RiseK Prod.fst l
  | [], _ => trivial
  | (m, c) :: l, h => ⟨h.1, riseK_of_rise h.2⟩
/-- Columns of the four names. -/
structure ColsIn (l : Cols) : Prop where
  rise : Rise l
  all : ∀ x ∈ l, colB x = true ∧ x.1.size ≤ 1 ∧ x.2.s.size ≤ 1 ∧ x.1 ∈ [nm 0, nm 1, nm 2, nm 3]
theorem ColsTo.in4 {l : Cols} (h : ColsTo 4 l) : ColsIn l := ⟨h.rise, fun x hx => by
  obtain ⟨h1, h2, h3, _⟩ := h.all x hx
  obtain ⟨i, hi, e⟩ := h.nms x hx
  refine ⟨h1, h2, h3, ?_⟩
  rw [e]
  have : i = 0 ∨ i = 1 ∨ i = 2 ∨ i = 3 := by omega
  rcases this with rfl | rfl | rfl | rfl <;> simp⟩
theorem ColsIn.nil : ColsIn [] := ⟨trivial, fun x hx => by cases hx⟩
theorem ColsIn.len {l : Cols} (h : ColsIn l) : l.length ≤ 4 := riseK_few (riseK_of_rise h.rise) fun x hx => (h.all x hx).2.2.2
/-- A row by numbers, or joins of such. -/
structure RowIn (r : Ro) : Prop where
  ok : r.ok = true
  cols : ColsIn r.cols
theorem RowIn.up {a : Ro} (h : RowIn a) : a.Up := up_of_ok h.ok
/-- A partition by numbers, or joins of such. -/
structure PartIn (p : Pa) : Prop where
  key : p.key.size ≤ 100
  gone : stm p.gone = true
  rise : RiseR p.rows
  rows : ∀ r ∈ p.rows, RowIn r ∧ r.key ∈ [dg 0, dg 1, dg 2, dg 3]
theorem PartIn.up {p : Pa} (h : PartIn p) : p.Up := ⟨h.rise, fun r hr => (h.rows r hr).1.up⟩
theorem PartIn.len {p : Pa} (h : PartIn p) : p.rows.length ≤ 4 := riseK_few h.rise fun r hr => (h.rows r hr).2
theorem PartIn.ok {p : Pa} (h : PartIn p) : p.ok = true := by
  unfold Pa.ok
  rw [decide_eq_true h.key, h.gone, decide_eq_true (show p.rows.length ≤ 100 from Nat.le_trans h.len (by omega)), rowsB_of h.rise fun r hr => (h.rows r hr).1.ok]
  rfl
end Go.Proofs.Ythfanonjokpflaa
