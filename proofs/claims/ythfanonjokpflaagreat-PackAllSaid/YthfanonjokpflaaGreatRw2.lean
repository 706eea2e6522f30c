/-
  The developers' Seen, Is.
-/
import Derived.Test.YthfanonjokpflaaGreatTkl
import Derived.Test.YthfanonjokpflaaGreatRw1
import Derived.Test.YthfanonjokpflaaGreatRoK
import Derived.Test.YthfanonjokpflaaGreatCeA
set_option linter.unusedVariables false
set_option linter.unusedSimpArgs false
namespace Go.Proofs.YthfanonjokpflaaGreat
open Go Go.RowKit

theorem grown_ownN {w0 w w' : World} {b : Nat} {v : Value} {n sz : Nat} {xs : List Value} {e : TypeId} (hb : Below b w0 w) (h0 : b ≤ w0.heap.size) (ho : w.ownsRow b e sz v n xs) (hg : w.grownBy w' v.ownBlock) : Below b w0 w' :=
  hb.grown hg (by have := hb.size; omega) fun g h => (ho.lt g h).1
theorem own_base {w : World} {b b' n size : Nat} {e : TypeId} {v : Value} {xs : List Value} (h : w.ownsRow b e size v n xs) (hb : b' ≤ b) : w.ownsRow b' e size v n xs := by
  refine ⟨h.1, ?_⟩
  rcases h.2 with ⟨rfl, rfl⟩ | ⟨g, cap, cur, rfl, h2, h3⟩
  · exact Or.inl ⟨rfl, rfl⟩
  · exact Or.inr ⟨g, cap, cur, rfl, by omega, h3⟩
/-- Columns of the call's own, behind all that was there in w0. -/
structure Cur (w0 w : World) (v : Value) (C : Cols) : Prop where
  own : w.ownsRow w0.heap.size 99 5 v C.length (kRow C)
  below : Below w0.heap.size w0 w
theorem Cur.on {w0 w w' : World} {v : Value} {C : Cols} (h : Cur w0 w v C) (hb : Below w.heap.size w w') : Cur w0 w' v C :=
  ⟨own_below h.own hb, next h.below hb⟩
theorem Cur.app {w0 w w' : World} {v v' : Value} {C k : Cols} {m : Nat} (h : Cur w0 w v C) (ho : w'.ownsRow w0.heap.size 99 5 v' (C.length + m) (kRow (C ++ k))) (hm : k.length = m) (hg : w.grownBy w' v.ownBlock) : Cur w0 w' v' (C ++ k) := by
  refine ⟨?_, grown_ownN h.below (Nat.le_refl _) h.own hg⟩
  rw [List.length_append, hm]
  exact ho
theorem Cur.slice {w0 w : World} {v : Value} {C : Cols} (h : Cur w0 w v C) : ∃ A c, v = .slice A C.length c ∧ C.length ≤ c ∧ c ≤ maxLen ∧ (A = none → c = 0) ∧ RdK w w.heap.size A C.length C := by
  obtain ⟨A, c, rfl, h1, h2, h3⟩ := own_slice h.own
  exact ⟨A, c, rfl, h1, h2, h3, RdK.of_own h.own⟩

end Go.Proofs.YthfanonjokpflaaGreat
