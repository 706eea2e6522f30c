/-
  Rows by numbers: they may be; rows that are spoilt (plain, and in memory).
-/
import Derived.Test.YtnoblhacgmeddaaNx5
import Derived.Test.YtnoblhacgmeddaaRoV
import Derived.Test.YtnoblhacgmeddaaRoJ
set_option linter.unusedVariables false
set_option linter.unusedSimpArgs false
namespace Go.Proofs.Ytnoblhacgmeddaa
open Go Go.RowKit Go.Joins

/-- A row by numbers. -/
def rowN (a e g : Int) (l : Cols) : Ro := ⟨⟨#[107]⟩, ⟨⟨#[]⟩, false, a, e⟩, g, 0, l⟩
structure NumOk (a e g : Int) (l : Cols) : Prop where
  num : 0 ≤ a ∧ a ≤ 8 ∧ 0 ≤ e ∧ e ≤ 11 ∧ 0 ≤ g ∧ g ≤ 8 ∧ (a = 0 → e = 0)
  cols : ColsTo 4 l
theorem stm_of {n : Int} (h0 : 0 ≤ n) (h1 : n ≤ 1099511627776) : stm n = true := by unfold stm; rw [decide_eq_true h0, decide_eq_true h1]; rfl
theorem NumOk.live {a e g : Int} {l : Cols} (h : NumOk a e g l) : liveB ⟨⟨#[]⟩, false, a, e⟩ = true := by
  obtain ⟨h0, h1, h2, h3, h4, h5, h6⟩ := h.num
  have hok : Ce.ok ⟨⟨#[]⟩, false, a, e⟩ = true := by
    unfold Ce.ok
    simp only
    by_cases h7 : a = 0
    · rw [if_pos h7]
      have h8 := h6 h7
      subst h7; subst h8
      exact same_self _
    · rw [if_neg h7, stm_of h0 (by omega), if_neg (by decide), if_neg (by decide), stm_of h2 (by omega)]
      rfl
  unfold liveB
  rw [hok, Lib.toList_data]
  rfl
theorem NumOk.ok {a e g : Int} {l : Cols} (h : NumOk a e g l) : (rowN a e g l).ok = true := by
  obtain ⟨h0, h1, h2, h3, h4, h5, h6⟩ := h.num
  unfold Ro.ok rowN
  simp only
  rw [h.live, stm_of h4 (by omega), stm_of (Int.le_refl 0) (by omega), h.cols.ok, decide_eq_true (show l.length ≤ 8 by have := h.cols.len; omega)]
  rfl
theorem NumOk.few {a e g : Int} {l : Cols} (h : NumOk a e g l) : Few l := fun x hx => by
  obtain ⟨_, h1, h2, _⟩ := h.cols.all x hx
  exact ⟨by omega, by unfold maxLen; omega⟩
theorem NumOk.up {a e g : Int} {l : Cols} (h : NumOk a e g l) : (rowN a e g l).Up := ⟨h.cols.rise, fun x hx => colB_a (h.cols.all x hx).1⟩

theorem ok_key {R : Ro} (h : 400 < R.key.size) : R.ok = false := by unfold Ro.ok; rw [decide_eq_false (by omega)]; rfl
theorem ok_live {R : Ro} (h : liveB R.live = false) : R.ok = false := by unfold Ro.ok; rw [h]; simp
theorem ok_gone {R : Ro} (h : stm R.gone = false) : R.ok = false := by unfold Ro.ok; rw [h]; simp
theorem ok_shade {R : Ro} (h : stm R.shade = false) : R.ok = false := by unfold Ro.ok; rw [h]; simp
theorem ok_cols {R : Ro} (h : colsB R.cols = false) : R.ok = false := by unfold Ro.ok; rw [h]; simp
theorem cols_twice (l : Cols) (x y : ByteArray × Ce) (h : x.1 = y.1) : colsB (l ++ [x, y]) = false := by
  rw [Bool.eq_false_iff]
  intro h1
  have h2 := rise_at (colsB_rise h1) l.length (by simp)
  have e1 : (l ++ [x, y])[l.length]'(by simp) = x := by simp
  have e2 : (l ++ [x, y])[l.length + 1]'(by simp) = y := by simp [List.getElem_append_right]
  rw [e1, e2, h] at h2
  exact nlt_irr _ h2
theorem cols_first (l : Cols) (x : ByteArray × Ce) (h : colB x = false) : colsB (x :: l) = false := by
  rw [Bool.eq_false_iff]
  intro h1
  have h2 := colsB_each h1 (j := 0) (by simp)
  rw [List.getElem_cons_zero, h] at h2
  cases h2
theorem cols_last (l : Cols) (x : ByteArray × Ce) (h : colB x = false) : colsB (l ++ [x]) = false := by
  rw [Bool.eq_false_iff]
  intro h1
  have h2 := colsB_each h1 (j := l.length) (by simp)
  rw [List.getElem_append_right (Nat.le_refl _)] at h2
  simp only [Nat.sub_self, List.getElem_cons_zero] at h2
  rw [h] at h2
  cases h2
/-- Two columns in a slice that was just laid. -/
theorem RdK.two (w : World) (x y : ByteArray × Ce) : RdK (w.alloc (.cells #[.string x.1, .string x.2.s, .bool x.2.d, .int .i64 x.2.a, .int .i64 x.2.e, .string y.1, .string y.2.s, .bool y.2.d, .int .i64 y.2.a, .int .i64 y.2.e] 51)) (w.heap.size + 1) (some ⟨w.heap.size, 0, none⟩) 2 [x, y] := by
  refine RdK.of_all rfl (by omega) fun j u hu => ?_
  have : (kRow [x, y]) = kcs x ++ kcs y := by simp [kRow]
  rw [this] at hu
  rw [Nat.zero_add]
  simpa [kcs] using hu
/-- .. one, as a row of the call's own. -/
theorem own_one (w : World) (x : ByteArray × Ce) (b : Nat) (hb : b ≤ w.heap.size) : (w.alloc (.cells #[.string x.1, .string x.2.s, .bool x.2.d, .int .i64 x.2.a, .int .i64 x.2.e] 51)).ownsRow b 51 5 (.slice (some ⟨w.heap.size, 0, none⟩) 1 1) 1 (kRow [x]) := by
  refine ⟨by simp [kRow, kcs], Or.inr ⟨w.heap.size, 1, _, rfl, hb, heap_alloc_new w _, Nat.le_refl _, by unfold maxLen; decide, rfl, ?_⟩⟩
  simp [kRow, kcs]
theorem own_roIn {w : World} {b : Nat} {R : Ro} {A : Option Addr} {m c : Nat} (h : w.ownsRow b 51 5 (.slice A m c) R.cols.length (kRow R.cols)) : m = R.cols.length ∧ RoIn w w.heap.size R A c := by
  obtain ⟨A', c', e, h1, _⟩ := own_slice h
  injection e with e1 e2 e3
  subst e1; subst e2; subst e3
  exact ⟨rfl, RdK.of_own h, h1⟩
end Go.Proofs.Ytnoblhacgmeddaa
