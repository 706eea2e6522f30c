/-
  Which rows may be (plain).
-/
import Derived.Test.YthfanonjokpflaaRo
import Derived.Test.YthfanonjokpflaaCeOk
import Derived.Test.YthfanonjokpflaaRnN
import Derived.Test.YthfanonjokpflaaCeZ
set_option linter.unusedVariables false
set_option linter.unusedSimpArgs false
namespace Go.Proofs.Ythfanonjokpflaa
open Go Go.RowKit

def colB (x : ByteArray × Ce) : Bool := nameB x.1 && (x.2.ok && decide (1 ≤ x.2.a))
def goodAt (l : Cols) (j : Nat) : Bool :=
  match l[j]? with
  | none => true
  | some x => colB x && (match j with
    | 0 => true
    | i + 1 => match l[i]? with
      | none => true
      | some y => decide (nlt y.1 x.1))
def colsB (l : Cols) : Bool := (List.range l.length).all (goodAt l)
def liveB (c : Ce) : Bool := c.ok && (c.s.toList.isEmpty && !c.d)
def Ro.ok (r : Ro) : Bool := decide (r.key.size ≤ 400) && (liveB r.live && (stm r.gone && (stm r.shade && (decide (r.cols.length ≤ 8) && colsB r.cols))))
theorem good_zero {l : Cols} (h : 0 < l.length) : goodAt l 0 = colB l[0] := by
  unfold goodAt
  rw [List.getElem?_eq_getElem h]
  simp
theorem good_succ {l : Cols} {i : Nat} (h : i + 1 < l.length) : goodAt l (i + 1) = (colB l[i + 1] && decide (nlt l[i].1 l[i + 1].1)) := by
  unfold goodAt
  rw [List.getElem?_eq_getElem h]
  simp only
  rw [List.getElem?_eq_getElem (by omega)]
theorem goods_step {l : Cols} {t : Nat} (h : (List.range t).all (goodAt l) = true) (hg : goodAt l t = true) : (List.range (t + 1)).all (goodAt l) = true := by
  rw [List.range_succ, List.all_append, h]
  simp [hg]
theorem goods_no {l : Cols} {t : Nat} (ht : t < l.length) (hg : goodAt l t = false) : colsB l = false := by
  unfold colsB
  rw [List.all_eq_false]
  exact ⟨t, List.mem_range.2 ht, by rw [hg]; decide⟩
theorem colsB_at {l : Cols} (h : colsB l = true) {j : Nat} (hj : j < l.length) : goodAt l j = true := List.all_eq_true.1 h j (List.mem_range.2 hj)
theorem colB_a {x : ByteArray × Ce} (h : colB x = true) : 1 ≤ x.2.a := by
  unfold colB at h
  rw [Bool.and_eq_true, Bool.and_eq_true, decide_eq_true_iff] at h
  exact h.2.2
theorem colsB_each {l : Cols} (h : colsB l = true) {j : Nat} (hj : j < l.length) : colB l[j] = true := by
  have := colsB_at h hj
  match j, hj with
  | 0, hj => rwa [good_zero hj] at this
  | i + 1, hj =>
    rw [good_succ hj, Bool.and_eq_true] at this
    exact this.1
theorem rise_of : ∀ {l : Cols}, (∀ i (h : i + 1 < l.length), nlt l[i].1 l[i + 1].1) → Rise l
  | [], _ => trivial
  | [x], _ => ⟨fun y hy => (by cases hy), trivial⟩
  | x :: y :: l, h => by
    have h0 : nlt x.1 y.1 := h 0 (by simp)
    have ih : Rise (y :: l) := rise_of fun i hi => h (i + 1) (by simpa using hi)
    refine ⟨fun z hz => ?_, ih⟩
    rcases List.mem_cons.1 hz with rfl | hz
    · exact h0
    · exact nlt_tr h0 (ih.1 z hz)
theorem colsB_full {l : Cols} (h : colsB l = true) : Full l := fun x hx => by
  obtain ⟨j, hj, rfl⟩ := List.mem_iff_getElem.1 hx
  exact colB_a (colsB_each h hj)
theorem colsB_rise {l : Cols} (h : colsB l = true) : Rise l := rise_of fun i hi => by
  have := colsB_at h hi
  rw [good_succ hi, Bool.and_eq_true, decide_eq_true_iff] at this
  exact this.2
theorem rise_at : ∀ {l : Cols}, Rise l → ∀ i (h : i + 1 < l.length), nlt l[i].1 l[i + 1].1
  | [], _, i, h => by simp at h
  | x :: l, hr, 0, h => hr.1 _ (by simp)
  | x :: l, hr, i + 1, h => rise_at hr.2 i (by simpa using h)
theorem colsB_of {l : Cols} (hr : Rise l) (hc : ∀ x ∈ l, colB x = true) : colsB l = true := by
  unfold colsB
  rw [List.all_eq_true]
  intro j hj
  have hj := List.mem_range.1 hj
  match j, hj with
  | 0, hj => rw [good_zero hj]; exact hc _ (List.getElem_mem hj)
  | i + 1, hj => rw [good_succ hj, hc _ (List.getElem_mem hj), decide_eq_true (rise_at hr i hj)]; rfl
theorem blB_true {a b : ByteArray} (h : nlt a b) : Op.bytesLess a.toList b.toList = true := (blB_iff _ _).2 h
theorem blB_false {a b : ByteArray} (h : ¬ nlt a b) : Op.bytesLess a.toList b.toList = false := by
  rw [Bool.eq_false_iff]
  exact fun e => h ((blB_iff _ _).1 e)
end Go.Proofs.Ythfanonjokpflaa
