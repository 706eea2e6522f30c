/-
  Rows and columns in memory; the document's own Cell, Gone.
-/
import Derived.Test.YthfanonjokpflaaGreatRo
import Derived.Test.YthfanonjokpflaaGreatCeA
import Derived.Test.YthfanonjokpflaaGreatKq
import Derived.Laws.IdiomStrings
import Derived.Laws.IdiomRangeMap
set_option linter.unusedVariables false
set_option linter.unusedSimpArgs false
namespace Go.Proofs.YthfanonjokpflaaGreat
open Go Go.RowKit

/-- The row at block q. -/
def RoAt (w : World) (q : Nat) (k s : ByteArray) (d : Bool) (a e g h : Int) (A : Option Addr) (n c : Nat) : Prop := w.cell? ⟨q, 0, none⟩ = some (.string k) ∧ w.cell? ⟨q, 1, none⟩ = some (.string s) ∧ w.cell? ⟨q, 2, none⟩ = some (.bool d) ∧ w.cell? ⟨q, 3, none⟩ = some (.int .i64 a) ∧ w.cell? ⟨q, 4, none⟩ = some (.int .i64 e) ∧ w.cell? ⟨q, 5, none⟩ = some (.int .i64 g) ∧ w.cell? ⟨q, 6, none⟩ = some (.int .i64 h) ∧ w.cell? ⟨q, 7, none⟩ = some (.slice A n c)
theorem RoAt.new (w : World) (k s : ByteArray) (d : Bool) (a e g h : Int) (A : Option Addr) (n c : Nat) : RoAt (w.alloc (.cells #[.string k, .string s, .bool d, .int .i64 a, .int .i64 e, .int .i64 g, .int .i64 h, .slice A n c] 57)) w.heap.size k s d a e g h A n c := by
  unfold RoAt
  simp
theorem RoAt.below {w w' : World} {q : Nat} {k s : ByteArray} {d : Bool} {a e g h : Int} {A : Option Addr} {n c B : Nat} (r : RoAt w q k s d a e g h A n c) (hb : Below B w w') (hq : q < B) : RoAt w' q k s d a e g h A n c := by
  obtain ⟨h0, h1, h2, h3, h4, h5, h6, h7⟩ := r
  exact ⟨(hb.cell (p := ⟨q, 0, none⟩) hq).trans h0, (hb.cell (p := ⟨q, 1, none⟩) hq).trans h1, (hb.cell (p := ⟨q, 2, none⟩) hq).trans h2, (hb.cell (p := ⟨q, 3, none⟩) hq).trans h3, (hb.cell (p := ⟨q, 4, none⟩) hq).trans h4, (hb.cell (p := ⟨q, 5, none⟩) hq).trans h5, (hb.cell (p := ⟨q, 6, none⟩) hq).trans h6, (hb.cell (p := ⟨q, 7, none⟩) hq).trans h7⟩
/-- A slice of columns. -/
def RdK (w : World) (B : Nat) (A : Option Addr) (n : Nat) (l : Cols) : Prop :=
  l.length = n ∧ (0 < n → ∃ g o, A = some ⟨g, o, none⟩ ∧ g < B ∧ ∀ j (hj : j < l.length), w.cell? ⟨g, o + j * 5, none⟩ = some (.string l[j].1) ∧ w.cell? ⟨g, o + j * 5 + 1, none⟩ = some (.string l[j].2.s) ∧ w.cell? ⟨g, o + j * 5 + 2, none⟩ = some (.bool l[j].2.d) ∧ w.cell? ⟨g, o + j * 5 + 3, none⟩ = some (.int .i64 l[j].2.a) ∧ w.cell? ⟨g, o + j * 5 + 4, none⟩ = some (.int .i64 l[j].2.e))
theorem RdK.below {w w' : World} {B n : Nat} {A : Option Addr} {l : Cols} (h : RdK w B A n l) (hb : Below B w w') : RdK w' B A n l :=
  ⟨h.1, fun hn => by
    obtain ⟨g, o, e, hg, hc⟩ := h.2 hn
    refine ⟨g, o, e, hg, fun j hj => ?_⟩
    obtain ⟨h0, h1, h2, h3, h4⟩ := hc j hj
    exact ⟨(hb.cell (p := ⟨g, _, none⟩) hg).trans h0, (hb.cell (p := ⟨g, _, none⟩) hg).trans h1, (hb.cell (p := ⟨g, _, none⟩) hg).trans h2, (hb.cell (p := ⟨g, _, none⟩) hg).trans h3, (hb.cell (p := ⟨g, _, none⟩) hg).trans h4⟩⟩

end Go.Proofs.YthfanonjokpflaaGreat
