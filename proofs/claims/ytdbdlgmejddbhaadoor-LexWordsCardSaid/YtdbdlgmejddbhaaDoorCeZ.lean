/-
  Texts' order as the walk spells it; whole numbers in a slice. GENERAL.
-/
import Derived.Test.YtdbdlgmejddbhaaDoorCe
import Derived.Test.YtdbdlgmejddbhaaDoorStr
import Derived.WalkSpells
import Derived.Sort.Walk0
import Derived.Laws.Cover1
import Derived.Deep.QuietTactic
set_option linter.unusedVariables false
set_option linter.unusedSimpArgs false
namespace Go.Proofs.YtdbdlgmejddbhaaDoor
open Go Go.RowKit

/-- Whole numbers in a slice. -/
def RdZ (w : World) (B : Nat) (A : Option Addr) (n : Nat) (l : List Int) : Prop :=
  l.length = n ∧ (0 < n → ∃ g o, A = some ⟨g, o, none⟩ ∧ g < B ∧ ∀ j (hj : j < l.length), w.cell? ⟨g, o + j, none⟩ = some (.int .i64 l[j]))
theorem RdZ.below {w w' : World} {B n : Nat} {A : Option Addr} {l : List Int} (h : RdZ w B A n l) (hb : Below B w w') : RdZ w' B A n l :=
  ⟨h.1, fun hn => by
    obtain ⟨g, o, e, hg, hc⟩ := h.2 hn
    exact ⟨g, o, e, hg, fun j hj => (hb.cell (p := ⟨g, o + j, none⟩) hg).trans (hc j hj)⟩⟩

end Go.Proofs.YtdbdlgmejddbhaaDoor
