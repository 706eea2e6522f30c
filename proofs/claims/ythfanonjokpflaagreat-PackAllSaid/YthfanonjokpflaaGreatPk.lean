/-
  Which partitions may be (plain).
-/
import Derived.Test.YthfanonjokpflaaGreatPa
import Derived.Test.YthfanonjokpflaaGreatRoU
set_option linter.unusedVariables false
set_option linter.unusedSimpArgs false
namespace Go.Proofs.YthfanonjokpflaaGreat
open Go Go.RowKit

def goodR (l : Rows) (j : Nat) : Bool :=
  match l[j]? with
  | none => true
  | some x => x.ok && (match j with
    | 0 => true
    | i + 1 => match l[i]? with
      | none => true
      | some y => decide (nlt y.key x.key))
def rowsB (l : Rows) : Bool := (List.range l.length).all (goodR l)
def Pa.ok (p : Pa) : Bool := decide (p.key.size ≤ 100) && (stm p.gone && (decide (p.rows.length ≤ 100) && rowsB p.rows))
theorem goodR_zero {l : Rows} (h : 0 < l.length) : goodR l 0 = l[0].ok := by
  unfold goodR
  rw [List.getElem?_eq_getElem h]
  simp
theorem goodR_succ {l : Rows} {i : Nat} (h : i + 1 < l.length) : goodR l (i + 1) = (l[i + 1].ok && decide (nlt l[i].key l[i + 1].key)) := by
  unfold goodR
  rw [List.getElem?_eq_getElem h]
  simp only
  rw [List.getElem?_eq_getElem (by omega)]
theorem goodsR_step {l : Rows} {t : Nat} (h : (List.range t).all (goodR l) = true) (hg : goodR l t = true) : (List.range (t + 1)).all (goodR l) = true := by
  rw [List.range_succ, List.all_append, h]
  simp [hg]
theorem goodsR_no {l : Rows} {t : Nat} (ht : t < l.length) (hg : goodR l t = false) : rowsB l = false := by
  unfold rowsB
  rw [List.all_eq_false]
  exact ⟨t, List.mem_range.2 ht, by rw [hg]; decide⟩
theorem rowsB_at {l : Rows} (h : rowsB l = true) {j : Nat} (hj : j < l.length) : goodR l j = true := List.all_eq_true.1 h j (List.mem_range.2 hj)
theorem rowsB_each {l : Rows} (h : rowsB l = true) : ∀ r ∈ l, r.ok = true := fun r hr => by
  obtain ⟨j, hj, rfl⟩ := List.mem_iff_getElem.1 hr
  have := rowsB_at h hj
  match j, hj with
  | 0, hj => rwa [goodR_zero hj] at this
  | i + 1, hj =>
    rw [goodR_succ hj, Bool.and_eq_true] at this
    exact this.1
theorem Pa.ok_of {p : Pa} (h : p.ok = true) : p.key.size ≤ 100 ∧ stm p.gone = true ∧ p.rows.length ≤ 100 ∧ rowsB p.rows = true := by
  unfold Pa.ok at h
  simpa only [Bool.and_eq_true, decide_eq_true_iff] using h
end Go.Proofs.YthfanonjokpflaaGreat
