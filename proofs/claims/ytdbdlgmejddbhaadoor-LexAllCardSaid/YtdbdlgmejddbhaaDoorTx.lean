/-
  Plain words on texts put one behind the other: where code points begin, what an added text turns.
-/
import Derived.Test.YtdbdlgmejddbhaaDoorRn4
set_option linter.unusedVariables false
namespace Go.Proofs.YtdbdlgmejddbhaaDoor
open Go Go.RowKit

theorem ba_size_list (s : ByteArray) : s.data.toList.length = s.size := by rw [Lib.size_eq]

end Go.Proofs.YtdbdlgmejddbhaaDoor
