/-
  The developers' Same of partitions.
-/
import Derived.Test.YthfanonjokpflaaGreatPm0
set_option linter.unusedVariables false
set_option linter.unusedSimpArgs false
namespace Go.Proofs.YthfanonjokpflaaGreat
open Go Go.RowKit

instance : DecidableEq Ro := fun x y => decidable_of_iff _ (rosame_iff x y)
/-- Partitions alike. -/
def psame (k : ByteArray) (g : Int) (l : List Ro) (k' : ByteArray) (g' : Int) (l' : List Ro) : Bool := k.toList == k'.toList && (g == g' && decide (l = l'))
theorem psame_iff {k k' : ByteArray} {g g' : Int} {l l' : List Ro} : psame k g l k' g' l' = true ↔ k = k' ∧ g = g' ∧ l = l' := by
  unfold psame
  rw [Bool.and_eq_true, Bool.and_eq_true, eqB_iff, beq_iff_eq, decide_eq_true_iff]
theorem psame_self (k : ByteArray) (g : Int) (l : List Ro) : psame k g l k g l = true := psame_iff.2 ⟨rfl, rfl, rfl⟩
theorem ros_take {L : List RA} {t : Nat} (h : t < L.length) : ros (L.take (t + 1)) = ros (L.take t) ++ [L[t].ro] := by
  rw [List.take_succ_eq_append_getElem h, ros, List.map_append]
  rfl

/-- A partition's three cells at block q. -/
def PtAt (w : World) (q : Nat) (k : ByteArray) (g : Int) (A : Option Addr) (n c : Nat) : Prop := w.cell? ⟨q, 0, none⟩ = some (.string k) ∧ w.cell? ⟨q, 1, none⟩ = some (.int .i64 g) ∧ w.cell? ⟨q, 2, none⟩ = some (.slice A n c)
theorem PtAt.of {w : World} {q : Nat} {k : ByteArray} {g : Int} {A : Option Addr} {n c : Nat} (h : w.heap[q]? = some (.cells #[.string k, .int .i64 g, .slice A n c] 24 (0, 0))) : PtAt w q k g A n c := ⟨cell_at h rfl, cell_at h rfl, cell_at h rfl⟩
theorem PtAt.below {w w' : World} {q B : Nat} {k : ByteArray} {g : Int} {A : Option Addr} {n c : Nat} (r : PtAt w q k g A n c) (hb : Below B w w') (hg : q < B) : PtAt w' q k g A n c :=
  ⟨(hb.cell (p := ⟨q, _, none⟩) hg).trans r.1, (hb.cell (p := ⟨q, _, none⟩) hg).trans r.2.1, (hb.cell (p := ⟨q, _, none⟩) hg).trans r.2.2⟩
end Go.Proofs.YthfanonjokpflaaGreat
