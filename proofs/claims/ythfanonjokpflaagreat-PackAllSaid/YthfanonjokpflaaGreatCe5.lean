/-
  From world to world; three boxes.
-/
import Derived.Test.YthfanonjokpflaaGreatCeA
set_option linter.unusedVariables false
set_option linter.unusedSimpArgs false
namespace Go.Proofs.YthfanonjokpflaaGreat
open Go Go.RowKit

theorem next {w w1 w2 : World} (h : Below w.heap.size w w1) (b : Below w1.heap.size w1 w2) : Below w.heap.size w w2 := h.trans (b.mono h.size)
/-- Three cells, one behind the other. -/
def Three (w : World) (g : Nat) (s1 s2 s3 : ByteArray) (d1 d2 d3 : Bool) (a1 e1 a2 e2 a3 e3 : Int) : Prop :=
  (w.cell? ⟨g, 0, none⟩ = some (.string s1) ∧ w.cell? ⟨g, 1, none⟩ = some (.bool d1) ∧ w.cell? ⟨g, 2, none⟩ = some (.int .i64 a1) ∧ w.cell? ⟨g, 3, none⟩ = some (.int .i64 e1)) ∧ (w.cell? ⟨g + 1, 0, none⟩ = some (.string s2) ∧ w.cell? ⟨g + 1, 1, none⟩ = some (.bool d2) ∧ w.cell? ⟨g + 1, 2, none⟩ = some (.int .i64 a2) ∧ w.cell? ⟨g + 1, 3, none⟩ = some (.int .i64 e2)) ∧ (w.cell? ⟨g + 1 + 1, 0, none⟩ = some (.string s3) ∧ w.cell? ⟨g + 1 + 1, 1, none⟩ = some (.bool d3) ∧ w.cell? ⟨g + 1 + 1, 2, none⟩ = some (.int .i64 a3) ∧ w.cell? ⟨g + 1 + 1, 3, none⟩ = some (.int .i64 e3))
theorem three (w : World) (s1 s2 s3 : ByteArray) (d1 d2 d3 : Bool) (a1 e1 a2 e2 a3 e3 : Int) : ∀ w', Below (w.heap.size + 3) (((w.alloc (.cells #[.string s1, .bool d1, .int .i64 a1, .int .i64 e1] 54)).alloc (.cells #[.string s2, .bool d2, .int .i64 a2, .int .i64 e2] 54)).alloc (.cells #[.string s3, .bool d3, .int .i64 a3, .int .i64 e3] 54)) w' →
    Three w' w.heap.size s1 s2 s3 d1 d2 d3 a1 e1 a2 e2 a3 e3 := by
  intro w' hb
  have p1 := (((CeAt.new w s1 d1 a1 e1).alloc (by simp) (.cells #[.string s2, .bool d2, .int .i64 a2, .int .i64 e2] 54)).alloc (by simp; omega) (.cells #[.string s3, .bool d3, .int .i64 a3, .int .i64 e3] 54)).below hb (by omega)
  have p2 := ((CeAt.new (w.alloc (.cells #[.string s1, .bool d1, .int .i64 a1, .int .i64 e1] 54)) s2 d2 a2 e2).alloc (by simp) (.cells #[.string s3, .bool d3, .int .i64 a3, .int .i64 e3] 54)).below hb (by simp)
  have p3 := (CeAt.new ((w.alloc (.cells #[.string s1, .bool d1, .int .i64 a1, .int .i64 e1] 54)).alloc (.cells #[.string s2, .bool d2, .int .i64 a2, .int .i64 e2] 54)) s3 d3 a3 e3).below hb (by simp)
  simp only [World.size_alloc] at p1 p2 p3
  exact ⟨p1, p2, p3⟩

end Go.Proofs.YthfanonjokpflaaGreat
