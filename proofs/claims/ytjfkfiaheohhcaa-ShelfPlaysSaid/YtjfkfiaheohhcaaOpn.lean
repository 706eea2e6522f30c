/-
  A slice of bytes that came in: what it reads as.
-/
import Derived.Test.YtjfkfiaheohhcaaSl
import Derived.ProofKit
import Derived.OpenShut
import Derived.ChangeOld
import Derived.Carry
set_option linter.unusedVariables false
namespace Go.Proofs.Ytjfkfiaheohhcaa
open Go Go.ChangeShapes Go.WideShapes Go.ChangeAt Go.RowKit

theorem cellsB : Try.prog.cellsOf 5 = 1 := by kernel_rfl
theorem trod_lt1 {H : Type} {enc : TypeId × Value → H} {P : Program} {w : World} {base : Nat} {sp : Nat → Bool} {held : Bool} {t : TypeId} {v : Value} {d : DataW H} {ps : List MemPlace} (h : DataW.Trod enc P w base sp held t v d ps) : ∀ p ∈ ps, p.block < w.heap.size := by
  obtain ⟨f, hf⟩ := h
  exact DataW.trod_lt f t _ _ hf
theorem open_rd {H : Type} {enc : TypeId × Value → H} {W : World} {base : Nat} {v : Value} {d : DataW H} {p : List MemPlace} (hval : Value.okWide Try.prog W .any base 48 v) (h : DataW.Trod enc Try.prog W 0 (fun _ => true) true 48 v d p) :
    ∃ A n c l, v = .slice A n c ∧ Rd W W.heap.size A n l ∧ n ≤ c ∧ c ≤ maxLen ∧ (A = none → c = 0) := by
  obtain ⟨a1, len, cap, rfl⟩ := okWide_slice Try.underlying48 hval
  obtain ⟨fuel, hf⟩ := h
  rcases open_ints Try.underlying48 Try.underlying5 cellsB hf with ⟨hcs, hx⟩ | ⟨a, len', cap', zs, hcs, _, hl, hm, hz, hx, hcell, hwz⟩
  · simp [Value.cells] at hcs
    obtain ⟨rfl, rfl, rfl⟩ := hcs
    exact ⟨none, 0, 0, [], rfl, Rd.nil _ _, Nat.le_refl _, Nat.zero_le _, fun _ => rfl⟩
  · simp [Value.cells] at hcs
    obtain ⟨rfl, rfl, rfl⟩ := hcs
    simp only [if_true] at hz
    refine ⟨some a, len, cap, (zs.take len).map fun n => UInt8.ofNat n.toNat, rfl, ⟨by simp; omega, fun hn => ⟨a, rfl, World.block_lt_of_cell? W a (by simpa [Addr.add] using hcell 0 (by omega)), fun j hj => ?_⟩⟩, hl, hm, fun h => by cases h⟩
    have hj2 : j < zs.length := by simp at hj; omega
    have hb := range_u8 hwz j
    rw [hcell j hj2]
    simp only [List.getElem_map, List.getElem_take]
    have e : zs.getD j 0 = zs[j] := by simp [List.getD, hj2]
    rw [List.getD_eq_getElem?_getD] at e
    rw [e] at hb
    rw [List.getD_eq_getElem?_getD, e]
    congr 2
    simp only [UInt8.toNat_ofNat']
    omega
end Go.Proofs.Ytjfkfiaheohhcaa
