/-
  Plain cells: how they compare. No program is named here.
-/
import Derived.Test.YtdbdlgmejddbhaaDoorPlc
set_option linter.unusedVariables false
namespace Go.Proofs.YtdbdlgmejddbhaaDoor
open Go Go.RowKit

/-- A cell: value, dead, stamp, end. -/
structure Ce where
  s : ByteArray
  d : Bool
  a : Int
  e : Int

def lexI (x y : Int) : Int := if x = 0 then y else x
def Ce.v (c : Ce) : Value := .agg #[.string c.s, .bool c.d, .int .i64 c.a, .int .i64 c.e]
def Ce.same (x y : Ce) : Bool := x.s.toList == y.s.toList && (x.d == y.d && (x.a == y.a && x.e == y.e))

/-- An order, told by a number below, at or above 0. -/
structure Tot {α : Type} (f : α → α → Int) : Prop where
  anti : ∀ x y, f y x = -f x y
  trans : ∀ x y z, f x y ≤ 0 → f y z ≤ 0 → f x z ≤ 0
  cong : ∀ x y z, f x y = 0 → f x z = f y z
  low : ∀ x y, -1 ≤ f x y
theorem Tot.on {α β : Type} {f : α → α → Int} (h : Tot f) (p : β → α) : Tot fun x y => f (p x) (p y) :=
  ⟨fun _ _ => h.anti _ _, fun _ _ _ => h.trans _ _ _, fun _ _ _ => h.cong _ _ _, fun _ _ => h.low _ _⟩
theorem Tot.lex {α : Type} {f g : α → α → Int} (hf : Tot f) (hg : Tot g) : Tot fun x y => lexI (f x y) (g x y) := by
  refine ⟨fun x y => ?_, fun x y z => ?_, fun x y z => ?_, fun x y => ?_⟩
  · have := hf.anti x y; have := hg.anti x y; simp only [lexI]; split <;> split <;> omega
  · intro h h'
    simp only [lexI] at h h' ⊢
    have f1 : f x y ≤ 0 := by split at h <;> omega
    have f2 : f y z ≤ 0 := by split at h' <;> omega
    have f3 := hf.trans _ _ _ f1 f2
    split
    · rename_i e
      have e1 := hf.cong _ _ y e
      have e2 := hf.anti y z
      have e3 : f x y = 0 := by omega
      have e4 := hf.cong _ _ z e3
      rw [if_pos e3] at h
      rw [if_pos (by omega)] at h'
      exact hg.trans _ _ _ h h'
    · exact f3
  · intro h
    simp only [lexI] at h ⊢
    have f1 : f x y = 0 := by split at h <;> omega
    rw [if_pos f1] at h
    rw [hf.cong _ _ z f1, hg.cong _ _ z h]
  · have := hf.low x y; have := hg.low x y; simp only [lexI]; split <;> omega

end Go.Proofs.YtdbdlgmejddbhaaDoor
