import Derived.Test.YtmpcnhpdobdmcaaGreatDoorLawNotesE
import Derived.Test.YtmpcnhpdobdmcaaGreatDoorLawNotesI
import Derived.Lib.SmallJoins
set_option linter.unusedVariables false
set_option linter.unusedSimpArgs false
set_option maxRecDepth 8000
namespace Go.Proofs.YtmpcnhpdobdmcaaGreatDoor
open Go Go.ChangeShapes Go.WideShapes Go.ChangeAt Go.RowKit Go.Joins
theorem cellsI : Tryz.prog.cellsOf 3 = 1 := by kernel_rfl
theorem open_rdz {H : Type} {enc : TypeId × Value -> H} {W : World} {base : Nat} {v : Value} {d : DataW H} {p : List MemPlace} (hval : Value.okWide Tryz.prog W .any base 38 v) (h : DataW.Trod enc Tryz.prog W 0 (fun _ => true) true 38 v d p) :
    ∃ A n c l,v = .slice A n c /\ RdZ W W.heap.size A n l /\ n <= c /\ c <= maxLen /\ (∀ x ∈ l,(Lit.int .i64 x).wf = true) := by
 obtain ⟨a1,len,cap,rfl⟩ := okWide_slice Tryz.underlying38 hval
 obtain ⟨fuel,hf⟩ := h
 rcases open_ints Tryz.underlying38 Tryz.underlying3 cellsI hf with ⟨hcs,hx⟩ | ⟨a,len',cap',zs,hcs,_,hl,hm,hz,hx,hcell,hwz⟩
 ·simp [Value.cells] at hcs
  obtain ⟨rfl,rfl,rfl⟩ := hcs
  exact ⟨none,0,0,[],rfl,⟨rfl,fun h => absurd h (by omega)⟩,Nat.le_refl _,Nat.zero_le _,fun x hx => by cases hx⟩
 ·simp [Value.cells] at hcs
  obtain ⟨rfl,rfl,rfl⟩ := hcs
  simp only [if_true] at hz
  refine ⟨some a,len,cap,zs.take len,rfl,⟨by simp; omega,fun hn => ?_⟩,hl,hm,fun x hx => ?_⟩
  ·have h0 := hcell 0 (by omega)
   have hs : a.spot = none := by simpa [Addr.add] using World.cell?_spot h0
   obtain ⟨g,o,sp⟩ := a
   simp only at hs
   subst hs
   refine ⟨g,o,rfl,World.block_lt_of_cell? W ⟨g,o,none⟩ (by simpa [Addr.add] using h0),fun j hj => ?_⟩
   have hj2 : j < zs.length := by simp at hj; omega
   have e : zs.getD j 0 = zs[j] := by simp [List.getD,hj2]
   have := hcell j hj2
   rw [e] at this
   simp only [Addr.add_lit] at this
   rw [this,List.getElem_take]
  ·exact hwz x (List.mem_of_mem_take hx)
end Go.Proofs.YtmpcnhpdobdmcaaGreatDoor
