/-
  Partitions (plain): joined; many of them joined in any order; what is seen.
-/
import Derived.Test.YthfanonjokpflaaMg
import Derived.Test.YthfanonjokpflaaRw2
set_option linter.unusedVariables false
set_option linter.unusedSimpArgs false
namespace Go.Proofs.Ythfanonjokpflaa
open Go Go.RowKit

/-- Joins that are one way, however ordered and however often (GENERAL). -/
structure SL {α : Type} (jn : α → α → α) (G : α → Prop) : Prop where
  good : ∀ {x y}, G x → G y → G (jn x y)
  comm : ∀ {x y}, G x → G y → jn x y = jn y x
  assoc : ∀ {x y z}, G x → G y → G z → jn (jn x y) z = jn x (jn y z)
  self : ∀ {x}, G x → jn x x = x
section
variable {α : Type} {jn : α → α → α} {G : α → Prop}
/-- Of few keys there are few. -/
theorem riseK_few {key : α → ByteArray} : ∀ {l : List α} {ks : List ByteArray}, RiseK key l → (∀ x ∈ l, key x ∈ ks) → l.length ≤ ks.length
  | [], ks, _, _ => Nat.zero_le _
  | x :: l, ks, h, hk => by
    have hx : key x ∈ ks := hk x (List.mem_cons_self ..)
    have ih := riseK_few (l := l) (ks := ks.filter fun k => decide (k ≠ key x)) h.2 fun y hy => List.mem_filter.2 ⟨hk y (List.mem_cons_of_mem _ hy), decide_eq_true_iff.2 (nlt_ne (h.1 y hy)).symm⟩
    have hlt : (ks.filter fun k => decide (k ≠ key x)).length < ks.length := List.length_filter_lt_length_iff_exists.2 ⟨key x, hx, by simp⟩
    rw [List.length_cons]
    omega
end

abbrev Rows := List Ro
abbrev RiseR (l : Rows) : Prop := RiseK Ro.key l
/-- A partition: key, gone, rows. -/
structure Pa where
  key : ByteArray
  gone : Int
  rows : Rows
structure Pa.Up (p : Pa) : Prop where
  rise : RiseR p.rows
  up : AllK Ro.Up p.rows
end Go.Proofs.Ythfanonjokpflaa
