/-
  Notes by numbers: what is had behind something put or dropped (plain).
-/
import Derived.Test.YtfldlkdnjkaidaaNm
set_option linter.unusedVariables false
set_option linter.unusedSimpArgs false
namespace Go.Proofs.Ytfldlkdnjkaidaa
open Go

theorem putN_eq {S : Fl} (hu : Up S) (n : Int) (b : ByteArray) : putN S n b = insF (delF S n) n b := by
  unfold putN
  by_cases h : hasF S n = true
  · rw [if_pos h, insF_del hu h]
  · rw [if_neg h, delF_none (by simpa using h)]
theorem hasF_ins (T : Fl) (n m : Int) (b : ByteArray) : hasF (insF T n b) m = (n == m || hasF T m) := by
  unfold hasF insF
  rw [List.any_append, List.any_cons]
  have e : T.any (fun x => x.1 == m) = ((T.take (idxF T n)).any (fun x => x.1 == m) || (T.drop (idxF T n)).any (fun x => x.1 == m)) := by rw [← List.any_append, List.take_append_drop]
  rw [e]
  cases (T.take (idxF T n)).any (fun x => x.1 == m) <;> cases (n == m) <;> rfl
theorem hasF_dels (S : Fl) (n m : Int) : hasF (delF S n) m = (!(m == n) && hasF S m) := by
  unfold hasF delF
  rw [List.any_filter]
  by_cases h : m = n
  · subst h
    rw [show (m == m) = true by simp, Bool.not_true, Bool.false_and, List.any_eq_false]
    intro x _
    cases hx : (x.1 == m) <;> simp
  · rw [show (m == n) = false by simpa using h, Bool.not_false, Bool.true_and]
    congr 1
    funext x
    by_cases hx : x.1 = m
    · have h1 : (x.1 == n) = false := by rw [hx]; simpa using h
      rw [h1, Bool.not_false, Bool.true_and]
    · have h1 : (x.1 == m) = false := by simpa using hx
      rw [h1, Bool.and_false]
theorem hasF_put {S : Fl} (hu : Up S) (n m : Int) (b : ByteArray) : hasF (putN S n b) m = (n == m || hasF S m) := by
  rw [putN_eq hu, hasF_ins, hasF_dels]
  by_cases h : m = n
  · subst h; simp
  · rw [show (m == n) = false by simpa using h]; simp
theorem getF_ins {T : Fl} {n : Int} (hT : hasF T n = false) (m : Int) (b : ByteArray) : getF (insF T n b) m = if m = n then b else getF T m := by
  have e : T.find? (fun x => x.1 == m) = ((T.take (idxF T n)).find? (fun x => x.1 == m)).or ((T.drop (idxF T n)).find? (fun x => x.1 == m)) := by rw [← List.find?_append, List.take_append_drop]
  unfold getF insF
  rw [List.find?_append, List.find?_cons, e]
  by_cases h : m = n
  · subst h
    rw [if_pos rfl]
    have h0 : (T.take (idxF T m)).find? (fun x => x.1 == m) = none := List.find?_eq_none.2 fun x hx => by
      have := hasF_false hT x (List.mem_of_mem_take hx)
      simpa using this
    rw [h0]
    simp
  · rw [if_neg h, show (n == m) = false by simpa using fun e => h e.symm]
theorem getF_dels (S : Fl) {n m : Int} (h : m ≠ n) : getF (delF S n) m = getF S m := by
  unfold getF delF
  rw [List.find?_filter]
  congr 2
  funext x
  by_cases hx : x.1 = m
  · have h1 : (m == n) = false := by simpa using h
    simp [hx, h1, h]
  · have h1 : (x.1 == m) = false := by simpa using hx
    simp [h1]
theorem getF_put {S : Fl} (hu : Up S) (n m : Int) (b : ByteArray) : getF (putN S n b) m = if m = n then b else getF S m := by
  rw [putN_eq hu, getF_ins (hasF_del S n)]
  by_cases h : m = n
  · rw [if_pos h, if_pos h]
  · rw [if_neg h, if_neg h, getF_dels S h]
theorem delF_length {S : Fl} (hu : Up S) (n : Int) : (delF S n).length + (if hasF S n = true then 1 else 0) = S.length := by
  by_cases h : hasF S n = true
  · rw [if_pos h]
    obtain ⟨hi, he⟩ := (hasF_iff hu n).1 h
    rw [delF_at hu hi he, List.length_append, List.length_take, List.length_drop]
    omega
  · rw [if_neg h, delF_none (by simpa using h)]; rfl
end Go.Proofs.Ytfldlkdnjkaidaa
