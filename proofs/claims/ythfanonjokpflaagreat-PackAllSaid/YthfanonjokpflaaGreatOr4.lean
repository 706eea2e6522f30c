/-
  Contracts of package order, fourth part: GetText.
-/
import Derived.Test.YthfanonjokpflaaGreatOr3
set_option linter.unusedVariables false
namespace Go.Proofs.YthfanonjokpflaaGreat
open Go Go.RowKit

/-- A call that hands back a text, a place, an error's number. -/
def GivesT (w : World) (x : List UInt8 × Int × Int) (e : Ending) (w' : World) : Prop :=
  ∃ s : ByteArray, e = .returned (.tuple #[.string s, .int .i64 x.2.1, .int .i64 x.2.2]) ∧ s.data.toList = x.1 ∧ Below w.heap.size w w'
theorem GivesT.none {w w' : World} {k : Int} (hb : Below w.heap.size w w') : GivesT w ([], 0, k) (.returned (.tuple #[.string ⟨#[]⟩, .int .i64 0, .int .i64 k])) w' := ⟨_, rfl, rfl, hb⟩

/-- How far a reading has come: what is collected, and that the rest decides. -/
def Come (l : List UInt8) (i f : Nat) (acc : List UInt8) : Prop := unesc (l.drop i) = (unesc (l.drop f)).map (fun x => (acc ++ x.1, (f - i) + x.2))
theorem Come.start (l : List UInt8) (i : Nat) : Come l i i [] := by
  unfold Come
  cases unesc (l.drop i) <;> simp [Except.map]
theorem Come.none {l : List UInt8} {i f : Nat} {acc : List UInt8} (h : Come l i f acc) (hp : ∀ c ∈ l.drop f, c ≠ 0) : unesc (l.drop i) = .error 8 := by
  rw [h, unesc_short _ hp]; rfl
theorem Come.last {l : List UInt8} {i f : Nat} {acc p : List UInt8} (h : Come l i f acc) (hp : ∀ c ∈ p, c ≠ 0) (e : l.drop f = p ++ [0]) : unesc (l.drop i) = .error 8 := by
  rw [h, e, unesc_run p _ hp]; rfl
theorem Come.bad {l : List UInt8} {i f : Nat} {acc p r : List UInt8} {d : UInt8} (h : Come l i f acc) (hp : ∀ c ∈ p, c ≠ 0) (e : l.drop f = p ++ 0 :: d :: r) (h1 : d ≠ 1) (h2 : d ≠ 255) : unesc (l.drop i) = .error 6 := by
  rw [h, e, unesc_run p _ hp, unesc_bad d r h1 h2]; rfl
theorem Come.on {l : List UInt8} {i f : Nat} {acc p r : List UInt8} (h : Come l i f acc) (hi : i ≤ f) (hp : ∀ c ∈ p, c ≠ 0) (e : l.drop f = p ++ 0 :: 255 :: r) : Come l i (f + p.length + 2) (acc ++ (p ++ [0])) := by
  unfold Come
  have er : l.drop (f + p.length + 2) = r := by
    rw [Nat.add_assoc, ← List.drop_drop, e, ← List.drop_drop, List.drop_left]; rfl
  rw [h, e, unesc_run p _ hp, unesc_null, er]
  cases unesc r with
  | error k => rfl
  | ok x => simp [Except.map]; omega

end Go.Proofs.YthfanonjokpflaaGreat
