import Derived.Test.YtmpcnhpdobdmcaaGreatDoorLawRoomsL
import Derived.Test.YtmpcnhpdobdmcaaGreatDoorLawRoomsP
set_option linter.unusedVariables false
set_option linter.unusedSimpArgs false
namespace Go.Proofs.YtmpcnhpdobdmcaaGreatDoor
open Go
theorem recs_snoc_small (l : List Bt) (b : Bt) : (recs (l ++ [b])).length <= (recs l).length + (7 * (bE b).length + 12) := by
 rw [recs_snoc_le]
 have := put_length_le (recs l).length (bE b)
 omega
def btM (t k : ByteArray) (g : Int) : Bt := ⟨[(t,⟨k,g,[]⟩)],[],[]⟩
theorem btM_len {t k : ByteArray} {g : Int} (h1 : 0 <= g) (h2 : g <= 1099511627776) (ht : t.size <= 100) (hk : k.size <= 100) : (bE (btM t k g)).length <= 300 := by
 have a := numL_le (v := g.toNat) (by omega)
 have b := tE_le ht (by omega)
 have b2 := tE_le hk (by omega)
 have c : (numL 0).length <= 9 := numL_le (by omega)
 have d : (numL 1).length <= 9 := numL_le (by omega)
 have hp : (pE ⟨k,g,[]⟩).length <= 127 := by
  unfold pE
  simp only [List.length_append,List.flatMap_nil,List.length_nil]
  omega
 have e := numL_le (v := (pE ⟨k,g,[]⟩).length) (by omega)
 unfold bE btM mE
 simp only [List.length_append,List.length_nil,List.length_cons,List.flatMap_nil,List.flatMap_cons,Nat.zero_add]
 omega
end Go.Proofs.YtmpcnhpdobdmcaaGreatDoor
