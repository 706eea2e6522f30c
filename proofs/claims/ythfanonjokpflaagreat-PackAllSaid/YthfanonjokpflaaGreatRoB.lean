/-
  Which rows may be (plain).
-/
import Derived.Test.YthfanonjokpflaaGreatRo
import Derived.Test.YthfanonjokpflaaGreatCeOk
import Derived.Test.YthfanonjokpflaaGreatRnN
import Derived.Test.YthfanonjokpflaaGreatCeZ
set_option linter.unusedVariables false
set_option linter.unusedSimpArgs false
namespace Go.Proofs.YthfanonjokpflaaGreat
open Go Go.RowKit

def colB (x : ByteArray × Ce) : Bool := nameB x.1 && (x.2.ok && decide (1 ≤ x.2.a))
def goodAt (l : Cols) (j : Nat) : Bool :=
  match l[j]? with
  | none => true
  | some x => colB x && (match j with
    | 0 => true
    | i + 1 => match l[i]? with
      | none => true
      | some y => decide (nlt y.1 x.1))
def colsB (l : Cols) : Bool := (List.range l.length).all (goodAt l)
def liveB (c : Ce) : Bool := c.ok && (c.s.toList.isEmpty && !c.d)
def Ro.ok (r : Ro) : Bool := decide (r.key.size ≤ 400) && (liveB r.live && (stm r.gone && (stm r.shade && (decide (r.cols.length ≤ 8) && colsB r.cols))))
theorem good_zero {l : Cols} (h : 0 < l.length) : goodAt l 0 = colB l[0] := by
  unfold goodAt
  rw [List.getElem?_eq_getElem h]
  simp
theorem good_succ {l : Cols} {i : Nat} (h : i + 1 < l.length) : goodAt l (i + 1) = (colB l[i + 1] && decide (nlt l[i].1 l[i + 1].1)) := by
  unfold goodAt
  rw [List.getElem?_eq_getElem h]
  simp only
  rw [List.getElem?_eq_getElem (by omega)]
theorem goods_step {l : Cols} {t : Nat} (h : (List.range t).all (goodAt l) = true) (hg : goodAt l t = true) : (List.range (t + 1)).all (goodAt l) = true := by
  rw [List.range_succ, List.all_append, h]
  simp [hg]
theorem goods_no {l : Cols} {t : Nat} (ht : t < l.length) (hg : goodAt l t = false) : colsB l = false := by
  unfold colsB
  rw [List.all_eq_false]
  exact ⟨t, List.mem_range.2 ht, by rw [hg]; decide⟩
theorem blB_true {a b : ByteArray} (h : nlt a b) : Op.bytesLess a.toList b.toList = true := (blB_iff _ _).2 h
theorem blB_false {a b : ByteArray} (h : ¬ nlt a b) : Op.bytesLess a.toList b.toList = false := by
  rw [Bool.eq_false_iff]
  exact fun e => h ((blB_iff _ _).1 e)
end Go.Proofs.YthfanonjokpflaaGreat
