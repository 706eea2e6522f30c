/-
  NotePlays, as the lift wants it.
-/
import Derived.Test.YtfldlkdnjkaidaaNd6
import Derived.Test.YtfldlkdnjkaidaaLwNPlays
set_option linter.unusedVariables false
namespace Go.Proofs.Ytfldlkdnjkaidaa
open Go Go.RowKit

theorem nplays_lawZ (A : Option Addr) (n c : Nat) (L : List OA) (w : World) (h : LiesO w w.heap.size A n L) (hc : n ≤ c) (hm : c ≤ maxLen) (hx : ∀ x ∈ L, OpF x) :
    Calls Try.prog 3 #[.slice A n c] w fun e w' => e = .returned (.bool true) ∧ Below w.heap.size w w' := nplays devN A n c L w h hx
end Go.Proofs.Ytfldlkdnjkaidaa
