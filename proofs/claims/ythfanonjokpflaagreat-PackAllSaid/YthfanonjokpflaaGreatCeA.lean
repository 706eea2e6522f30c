/-
  The cell at block q; whole numbers in a slice that was just laid. GENERAL.
-/
import Derived.Test.YthfanonjokpflaaGreatCeZ
import Derived.Deep.RegionHeld3
import Derived.Laws.NewBlocks
import Derived.Laws.Alloc2
set_option linter.unusedVariables false
set_option linter.unusedSimpArgs false
namespace Go.Proofs.YthfanonjokpflaaGreat
open Go Go.RowKit

/-- The cell at block q. -/
def CeAt (w : World) (q : Nat) (s : ByteArray) (d : Bool) (a e : Int) : Prop := w.cell? ⟨q, 0, none⟩ = some (.string s) ∧ w.cell? ⟨q, 1, none⟩ = some (.bool d) ∧ w.cell? ⟨q, 2, none⟩ = some (.int .i64 a) ∧ w.cell? ⟨q, 3, none⟩ = some (.int .i64 e)
theorem CeAt.new (w : World) (s : ByteArray) (d : Bool) (a e : Int) : CeAt (w.alloc (.cells #[.string s, .bool d, .int .i64 a, .int .i64 e] 54)) w.heap.size s d a e := by
  unfold CeAt
  simp
theorem CeAt.below {w w' : World} {q : Nat} {s : ByteArray} {d : Bool} {a e : Int} {B : Nat} (h : CeAt w q s d a e) (hb : Below B w w') (hq : q < B) : CeAt w' q s d a e :=
  ⟨(hb.cell (p := ⟨q, 0, none⟩) hq).trans h.1, (hb.cell (p := ⟨q, 1, none⟩) hq).trans h.2.1, (hb.cell (p := ⟨q, 2, none⟩) hq).trans h.2.2.1, (hb.cell (p := ⟨q, 3, none⟩) hq).trans h.2.2.2⟩
theorem CeAt.alloc {w : World} {q : Nat} {s : ByteArray} {d : Bool} {a e : Int} (h : CeAt w q s d a e) (hq : q < w.heap.size) (o : Obj) : CeAt (w.alloc o) q s d a e :=
  h.below ((Below.refl w.heap.size w).alloc (Nat.le_refl _) o) hq

end Go.Proofs.YthfanonjokpflaaGreat
