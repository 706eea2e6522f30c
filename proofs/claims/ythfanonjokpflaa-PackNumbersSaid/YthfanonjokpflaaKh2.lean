/-
  Plain: a loop of readings under way.
-/
import Derived.Test.YthfanonjokpflaaKh
set_option linter.unusedVariables false
set_option linter.unusedSimpArgs false
namespace Go.Proofs.Ythfanonjokpflaa
open Go

/-- From place 'i', 'e' wrong so far, of n readings by 'p' K have been read; the reader is at 'j', 'f' wrong. -/
structure Loops {α : Type} (p : Pz α) (l : Bs) (n i : Nat) (e : Int) (K : List α) (j : Nat) (f : Int) : Prop where
  le : f = 0 → i ≤ j
  len : j ≤ l.length
  many : K.length ≤ n
  stays : e ≠ 0 → f = e
  ok : e = 0 → f = 0 → manyP p n (l.drop i) = (match manyP p (n - K.length) (l.drop j) with | .error c => .error c | .ok x => .ok (K ++ x.1, x.2))
  no : e = 0 → f ≠ 0 → manyP p n (l.drop i) = .error f
section
variable {α : Type} {p : Pz α} {l : Bs} {n i j k : Nat} {e f g : Int} {K : List α} {x : α}
theorem Loops.start (p : Pz α) (n : Nat) (hi : i ≤ l.length) (e : Int) : Loops p l n i e [] i e where
  le := fun _ => Nat.le_refl _
  len := hi
  many := Nat.zero_le _
  stays := fun _ => rfl
  ok := fun _ _ => by
    show manyP p n (l.drop i) = (match manyP p n (l.drop i) with | .error c => .error c | .ok x => .ok ([] ++ x.1, x.2))
    cases manyP p n (l.drop i) <;> rfl
  no := fun h h' => absurd h h'
theorem Loops.step (h : Loops p l n i e K j 0) (hn : K.length < n) (hw : Went p l j 0 x k g) : Loops p l n i e (K ++ [x]) k g where
  le := fun hg => Nat.le_trans (h.le rfl) (hw.le hg)
  len := hw.len
  many := by rw [List.length_append]; exact hn
  stays := fun he => absurd (h.stays he).symm he
  ok := fun he hg => by
    rw [h.ok he rfl, List.length_append]
    obtain ⟨m, hm⟩ : ∃ m, n - K.length = m + 1 := ⟨n - K.length - 1, by omega⟩
    have hm2 : n - (K.length + [x].length) = m := by simp; omega
    rw [hm, hm2]
    have h1 : manyP p (m + 1) (l.drop j) = (bindP (manyP p m) fun xs => retP (x :: xs)) (l.drop k) := by
      show (bindP p fun y => bindP (manyP p m) fun xs => retP (y :: xs)) (l.drop j) = _
      rw [bind_ok (hw.ok rfl hg)]
    rw [h1]
    unfold bindP
    cases manyP p m (l.drop k) with
    | error c => rfl
    | ok z => simp [retP]
  no := fun he hg => by
    rw [h.ok he rfl]
    obtain ⟨m, hm⟩ : ∃ m, n - K.length = m + 1 := ⟨n - K.length - 1, by omega⟩
    rw [hm]
    have h1 : manyP p (m + 1) (l.drop j) = .error g := by
      show (bindP p fun y => bindP (manyP p m) fun xs => retP (y :: xs)) (l.drop j) = _
      exact bind_err (hw.no rfl hg)
    rw [h1]
theorem Loops.done (h : Loops p l n i e K j f) (hd : f = 0 → K.length = n) : Went (manyP p n) l i e K j f where
  le := h.le
  len := h.len
  stays := h.stays
  ok := fun he hf => by
    rw [h.ok he hf, hd hf, Nat.sub_self]
    show Except.ok (K ++ [], l.drop j) = _
    rw [List.append_nil]
  no := h.no
/-- How many, then they. -/
theorem Loops.list (hc : Went cntP l i e n j f) (h : Loops p l n j f K k g) (hd : g = 0 → K.length = n) : Went (listP p) l i e K k g := hc.bind (h.done hd)
end
end Go.Proofs.Ythfanonjokpflaa
