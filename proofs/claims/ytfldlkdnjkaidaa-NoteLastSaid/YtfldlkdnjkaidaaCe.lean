/-
  Plain cells: how they compare. No program is named here.
-/
import Derived.Test.YtfldlkdnjkaidaaPlc
set_option linter.unusedVariables false
namespace Go.Proofs.Ytfldlkdnjkaidaa
open Go Go.RowKit

/-- A cell: value, dead, stamp, end. -/
structure Ce where
  s : ByteArray
  d : Bool
  a : Int
  e : Int

def Ce.v (c : Ce) : Value := .agg #[.string c.s, .bool c.d, .int .i64 c.a, .int .i64 c.e]
def Ce.same (x y : Ce) : Bool := x.s.toList == y.s.toList && (x.d == y.d && (x.a == y.a && x.e == y.e))

/-- An order, told by a number below, at or above 0. -/
structure Tot {α : Type} (f : α → α → Int) : Prop where
  anti : ∀ x y, f y x = -f x y
  trans : ∀ x y z, f x y ≤ 0 → f y z ≤ 0 → f x z ≤ 0
  cong : ∀ x y z, f x y = 0 → f x z = f y z
  low : ∀ x y, -1 ≤ f x y
theorem Tot.on {α β : Type} {f : α → α → Int} (h : Tot f) (p : β → α) : Tot fun x y => f (p x) (p y) :=
  ⟨fun _ _ => h.anti _ _, fun _ _ _ => h.trans _ _ _, fun _ _ _ => h.cong _ _ _, fun _ _ => h.low _ _⟩

end Go.Proofs.Ytfldlkdnjkaidaa
