/-
  The developers' Same of partitions.
-/
import Derived.Test.YtbfkbfbcaileoaaPm0
set_option linter.unusedVariables false
set_option linter.unusedSimpArgs false
namespace Go.Proofs.Ytbfkbfbcaileoaa
open Go Go.RowKit

instance : DecidableEq Ro := fun x y => decidable_of_iff _ (rosame_iff x y)

/-- A partition's three cells at block q. -/
def PtAt (w : World) (q : Nat) (k : ByteArray) (g : Int) (A : Option Addr) (n c : Nat) : Prop := w.cell? ⟨q, 0, none⟩ = some (.string k) ∧ w.cell? ⟨q, 1, none⟩ = some (.int .i64 g) ∧ w.cell? ⟨q, 2, none⟩ = some (.slice A n c)
theorem PtAt.of {w : World} {q : Nat} {k : ByteArray} {g : Int} {A : Option Addr} {n c : Nat} (h : w.heap[q]? = some (.cells #[.string k, .int .i64 g, .slice A n c] 24 (0, 0))) : PtAt w q k g A n c := ⟨cell_at h rfl, cell_at h rfl, cell_at h rfl⟩
theorem PtAt.below {w w' : World} {q B : Nat} {k : ByteArray} {g : Int} {A : Option Addr} {n c : Nat} (r : PtAt w q k g A n c) (hb : Below B w w') (hg : q < B) : PtAt w' q k g A n c :=
  ⟨(hb.cell (p := ⟨q, _, none⟩) hg).trans r.1, (hb.cell (p := ⟨q, _, none⟩) hg).trans r.2.1, (hb.cell (p := ⟨q, _, none⟩) hg).trans r.2.2⟩
end Go.Proofs.Ytbfkbfbcaileoaa
