/-
  Plain rows: columns by name, joined. No program is named here.
-/
import Derived.Test.YthfanonjokpflaaCe
set_option linter.unusedVariables false
namespace Go.Proofs.Ythfanonjokpflaa
open Go Go.RowKit

/-- A name ahead of another one. -/
def nlt (a b : ByteArray) : Prop := a.data.toList < b.data.toList
theorem nlt_irr (a : ByteArray) : ¬ nlt a a := lt_irr' _
theorem nlt_tr {a b c : ByteArray} (h : nlt a b) (h' : nlt b c) : nlt a c := lt_tr h h'
theorem nlt_ne {a b : ByteArray} (h : nlt a b) : a ≠ b := fun e => nlt_irr _ (e ▸ h)
instance (a b : ByteArray) : Decidable (nlt a b) := by unfold nlt; infer_instance

/-- The cell of no column. -/
def noC : Ce := ⟨⟨#[]⟩, false, 0, 0⟩

abbrev Cols := List (ByteArray × Ce)
/-- Names rise. -/
def Rise : Cols → Prop
  | [] => True
  | (m, _) :: l => (∀ x ∈ l, nlt m x.1) ∧ Rise l
def Full (l : Cols) : Prop := ∀ x ∈ l, 1 ≤ x.2.a

/-- A row: key, what makes it be, gone, shade, columns. -/
structure Ro where
  key : ByteArray
  live : Ce
  gone : Int
  shade : Int
  cols : Cols
structure Ro.Up (r : Ro) : Prop where
  rise : Rise r.cols
  full : Full r.cols
end Go.Proofs.Ythfanonjokpflaa
