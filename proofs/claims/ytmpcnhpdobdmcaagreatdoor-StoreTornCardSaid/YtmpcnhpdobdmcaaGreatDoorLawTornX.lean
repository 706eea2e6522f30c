import Derived.Test.YtmpcnhpdobdmcaaGreatDoorLawTornL
import Derived.Lib.SmallJoins
set_option linter.unusedVariables false
set_option linter.unusedSimpArgs false
namespace Go.Proofs.YtmpcnhpdobdmcaaGreatDoor
open Go Go.RowKit Go.Joins
def RJ (w : World) (r : Nat) (k s : ByteArray) (d : Bool) (a e g h : Int) (A : Option Addr) (n c : Nat) : Prop := w.heap[r]? = some (.cells #[.string k,.string s,.bool d,.int .i64 a,.int .i64 e,.int .i64 g,.int .i64 h,.slice A n c] 45 (0,0))
theorem RJ.cells {w : World} {r : Nat} {k s : ByteArray} {d : Bool} {a e g h : Int} {A : Option Addr} {n c : Nat} (hr : RJ w r k s d a e g h A n c) : RoAt w r k s d a e g h A n c :=
 ⟨cell_at hr rfl,cell_at hr rfl,cell_at hr rfl,cell_at hr rfl,cell_at hr rfl,cell_at hr rfl,cell_at hr rfl,cell_at hr rfl⟩
end Go.Proofs.YtmpcnhpdobdmcaaGreatDoor
