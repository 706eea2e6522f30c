import Derived.Shelf.SlIter.Nil
import Derived.Shelf.SlSortCmp.NoneTotal
import Derived.Test.YtmpcnhpdobdmcaaGreatDoorLawNotesBK
set_option linter.unusedVariables false
set_option linter.unusedSimpArgs false
namespace Go.Proofs.YtmpcnhpdobdmcaaGreatDoor
open Go Go.RowKit Go.Shelf Go.Proofs Go.Sort Go.Maps
def hcs (c : HdP) : List Value := [.string c.1,.int .i64 c.2.1,.slice c.2.2.1 c.2.2.2.1 c.2.2.2.2]
end Go.Proofs.YtmpcnhpdobdmcaaGreatDoor
