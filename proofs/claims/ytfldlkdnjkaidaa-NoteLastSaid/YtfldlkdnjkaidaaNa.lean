/-
  Notes by numbers (plain): what may be kept, what is put in.
-/
import Derived.Test.YtfldlkdnjkaidaaFs
set_option linter.unusedVariables false
namespace Go.Proofs.Ytfldlkdnjkaidaa
open Go

/-- Numbers rise, all of them stamps; not too many, none too long. -/
structure NOk (S : Fl) : Prop where
  up : Up S
  wf : ∀ x ∈ S, 1 ≤ x.1 ∧ x.1 ≤ 1099511627776
  len : S.length ≤ 300
  bod : ∀ x ∈ S, x.2.size ≤ 4096
def setF (S : Fl) (n : Int) (b : ByteArray) : Fl := S.set (idxF S n) (n, b)
/-- May (n, b) not be kept beside S? -/
def BadN (S : Fl) (n : Int) (b : ByteArray) : Prop := n < 1 ∨ 1099511627776 < n ∨ 4096 < b.size ∨ (hasF S n = false ∧ 300 ≤ S.length)
instance (S : Fl) (n : Int) (b : ByteArray) : Decidable (BadN S n b) := by unfold BadN; exact inferInstance
def putN (S : Fl) (n : Int) (b : ByteArray) : Fl := if hasF S n = true then setF S n b else insF S n b
def addN (S : Fl) (n : Int) (b : ByteArray) : Fl × Bool := if BadN S n b then (S, false) else (putN S n b, true)
def fitN (S : Fl) : Fl → Bool
  | [] => true
  | x :: r => (addN S x.1 x.2).2 && fitN (addN S x.1 x.2).1 r
def dropsN (S : Fl) (l : List Int) : Fl := l.foldl delF S
theorem NOk.nil : NOk [] := ⟨List.Pairwise.nil, fun x hx => (by cases hx), Nat.zero_le _, fun x hx => (by cases hx)⟩
theorem setF_length (S : Fl) (n : Int) (b : ByteArray) : (setF S n b).length = S.length := List.length_set
theorem set_up {S : Fl} (hu : Up S) {i : Nat} (hi : i < S.length) {n : Int} (b : ByteArray) (he : S[i].1 = n) : Up (S.set i (n, b)) := by
  unfold Up at hu ⊢
  rw [List.pairwise_iff_getElem] at hu ⊢
  intro a c ha hc hac
  rw [List.length_set] at ha hc
  have h := hu a c ha hc hac
  rw [List.getElem_set, List.getElem_set]
  by_cases h1 : i = a
  · subst h1
    rw [if_pos rfl, if_neg (by omega)]
    show n < _
    omega
  · rw [if_neg h1]
    by_cases h2 : i = c
    · subst h2
      rw [if_pos rfl]
      show _ < n
      omega
    · rw [if_neg h2]
      exact h
theorem NOk.put {S : Fl} (h : NOk S) {n : Int} {b : ByteArray} (hb : ¬ BadN S n b) : NOk (putN S n b) := by
  unfold BadN at hb
  have h1 : 1 ≤ n := by omega
  have h2 : n ≤ 1099511627776 := by omega
  have h3 : b.size ≤ 4096 := by omega
  unfold putN
  by_cases hh : hasF S n = true
  · rw [if_pos hh]
    obtain ⟨hi, he⟩ := (hasF_iff h.up n).1 hh
    refine ⟨set_up h.up hi b he, fun x hx => ?_, by rw [setF_length]; exact h.len, fun x hx => ?_⟩
    · rcases List.mem_or_eq_of_mem_set hx with h4 | h4
      · exact h.wf x h4
      · rw [h4]; exact ⟨h1, h2⟩
    · rcases List.mem_or_eq_of_mem_set hx with h4 | h4
      · exact h.bod x h4
      · rw [h4]; exact h3
  · rw [if_neg hh]
    have hf : hasF S n = false := by simpa using hh
    refine ⟨h.up.ins hf b, fun x hx => ?_, ?_, fun x hx => ?_⟩
    · rcases mem_insF hx with h4 | h4
      · rw [h4]; exact ⟨h1, h2⟩
      · exact h.wf x h4
    · rw [insF_length]
      have : ¬ 300 ≤ S.length := fun h5 => hb (Or.inr (Or.inr (Or.inr ⟨hf, h5⟩)))
      omega
    · rcases mem_insF hx with h4 | h4
      · rw [h4]; exact h3
      · exact h.bod x h4
theorem NOk.del {S : Fl} (h : NOk S) (n : Int) : NOk (delF S n) :=
  ⟨h.up.del n, fun x hx => h.wf x (mem_delF hx), Nat.le_trans (delF_length_le S n) h.len, fun x hx => h.bod x (mem_delF hx)⟩
theorem NOk.add {S : Fl} (h : NOk S) (n : Int) (b : ByteArray) : NOk (addN S n b).1 := by
  unfold addN
  by_cases hb : BadN S n b
  · rw [if_pos hb]; exact h
  · rw [if_neg hb]; exact h.put hb
end Go.Proofs.Ytfldlkdnjkaidaa
