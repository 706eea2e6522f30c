import Derived.Test.YtmpcnhpdobdmcaaGreatDoorLawRoomsL
import Derived.Test.YtmpcnhpdobdmcaaGreatDoorLawRoomsJ
import Derived.Test.YtmpcnhpdobdmcaaGreatDoorLawRoomsM
import Derived.Deep.CutBlock
import Derived.Laws.EntriesVeiled
import Derived.Deep.DeepCutAuto
set_option linter.unusedVariables false
set_option linter.unusedSimpArgs false
namespace Go.Proofs.YtmpcnhpdobdmcaaGreatDoor
open Go Go.RowKit
def ptr (k : Nat) : Value := .pointer (some ⟨k,0,none⟩)
def F1 (q : Nat) : Value := .func (.func 263) #[] #[.pointer (some ⟨q,0,none⟩),.pointer (some ⟨q + 2,0,none⟩),.pointer (some ⟨q + 3,0,none⟩)]
def F2 (q : Nat) : Value := .func (.func 264) #[] #[.pointer (some ⟨q + 1,0,none⟩),.pointer (some ⟨q,0,none⟩),.pointer (some ⟨q + 2,0,none⟩),.pointer (some ⟨q + 3,0,none⟩)]
def F3 (q : Nat) : Value := .func (.func 265) #[] #[.pointer (some ⟨q + 3,0,none⟩),.pointer (some ⟨q + 2,0,none⟩),.pointer (some ⟨q,0,none⟩)]
structure RS (w : World) (q : Nat) (A : Option Addr) (n c : Nat) (l : Bs) (i : Nat) : Prop where
 bb : w.heap[q]? = some (.cells #[.slice A n c] 29 (0,0))
 fb : w.heap[q + 1]? = some (.cells #[F1 q] 75 (0,0))
 ab : w.heap[q + 2]? = some (.cells #[.int .i64 (i : Nat)] 3 (0,0))
 ob : w.heap[q + 3]? = some (.cells #[.bool true] 4 (0,0))
 rd : Rd w q A n l
 nc : n <= c
 cm : c <= maxLen
 le : i <= l.length
 sz : n <= 1000000000
section
variable {w w' : World} {q : Nat} {A : Option Addr} {n c : Nat} {l : Bs} {i : Nat}
theorem RS.lt (h : RS w q A n c l i) : q + 3 < w.heap.size := (Array.getElem?_eq_some_iff.1 h.ob).1
theorem RS.below (h : RS w q A n c l i) (hb : Below w.heap.size w w') : RS w' q A n c l i := by
 have := h.lt
 exact ⟨(hb.block q (by omega)).trans h.bb,(hb.block _ (by omega)).trans h.fb,(hb.block _ (by omega)).trans h.ab,(hb.block _ (by omega)).trans h.ob,h.rd.below (hb.mono (by omega)),h.nc,h.cm,h.le,h.sz⟩
end
end Go.Proofs.YtmpcnhpdobdmcaaGreatDoor
