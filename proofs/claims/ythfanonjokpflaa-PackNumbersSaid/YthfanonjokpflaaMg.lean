/-
  Lists by key, merged (plain, of whatever is joined by key: rows in a partition, and what comes later). GENERAL.
-/
import Derived.Test.YthfanonjokpflaaRo
set_option linter.unusedVariables false
namespace Go.Proofs.Ythfanonjokpflaa
open Go Go.RowKit

/-- What is joined by its key. -/
structure JK {α : Type} (key : α → ByteArray) (jn : α → α → α) (Good : α → Prop) : Prop where
  key_ : ∀ x y, key x = key y → key (jn x y) = key x
  good : ∀ {x y}, Good x → Good y → key x = key y → Good (jn x y)
  comm : ∀ {x y}, Good x → Good y → key x = key y → jn x y = jn y x
  assoc : ∀ {x y z}, Good x → Good y → Good z → key x = key y → key y = key z → jn (jn x y) z = jn x (jn y z)
  self : ∀ {x}, Good x → jn x x = x

section
variable {α : Type} (key : α → ByteArray) (jn : α → α → α)
/-- Keys rise. -/
def RiseK : List α → Prop
  | [] => True
  | x :: l => (∀ y ∈ l, nlt (key x) (key y)) ∧ RiseK l
end

section
variable {α : Type} {key : α → ByteArray} {jn : α → α → α} {Good : α → Prop}

def AllK (Good : α → Prop) (l : List α) : Prop := ∀ x ∈ l, Good x
theorem riseK_snoc : ∀ {l : List α} {x : α}, RiseK key l → (∀ y ∈ l, nlt (key y) (key x)) → RiseK key (l ++ [x])
  | [], x, _, _ => ⟨fun y hy => (by cases hy), trivial⟩
  | z :: l, x, hr, h => ⟨fun y hy => by
      rcases List.mem_append.1 hy with h1 | h1
      · exact hr.1 y h1
      · rw [List.mem_singleton.1 h1]
        exact h z (List.mem_cons_self ..), riseK_snoc hr.2 fun y hy => h y (List.mem_cons_of_mem _ hy)⟩
theorem riseK_at : ∀ {l : List α}, RiseK key l → ∀ i (h : i + 1 < l.length), nlt (key l[i]) (key l[i + 1])
  | [], _, i, h => by simp at h
  | x :: l, hr, 0, h => hr.1 _ (by simp)
  | x :: l, hr, i + 1, h => riseK_at hr.2 i (by simpa using h)

/-! Two lists in order, the next one always put at the end. -/
section
variable (key : α → ByteArray) (jn : α → α → α)
end
end
end Go.Proofs.Ythfanonjokpflaa
