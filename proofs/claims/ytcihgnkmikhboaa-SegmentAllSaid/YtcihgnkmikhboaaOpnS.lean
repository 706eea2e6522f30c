/-
  A slice of texts that came in: what it reads as; a slice of it. GENERAL.
-/
import Derived.Test.YtcihgnkmikhboaaOpn
import Derived.Test.YtcihgnkmikhboaaSap
import Derived.SliceStrings
set_option linter.unusedVariables false
namespace Go.Proofs.Ytcihgnkmikhboaa
open Go Go.ChangeShapes Go.WideShapes Go.ChangeAt Go.RowKit

theorem cellsS : Try.prog.cellsOf 9 = 1 := by kernel_rfl
theorem open_rds {H : Type} {enc : TypeId × Value → H} {W : World} {base : Nat} {v : Value} {d : DataW H} {p : List MemPlace} (hval : Value.okWide Try.prog W .any base 24 v) (h : DataW.Trod enc Try.prog W 0 (fun _ => true) true 24 v d p) :
    ∃ A n c l, v = .slice A n c ∧ RdS W W.heap.size A n l ∧ n ≤ c ∧ c ≤ maxLen ∧ (A = none → c = 0) ∧ (∀ s ∈ l, s.size ≤ maxLen) := by
  obtain ⟨a1, len, cap, rfl⟩ := okWide_slice Try.underlying24 hval
  obtain ⟨fuel, hf⟩ := h
  rcases Go.ChangeShapes.open_strings Try.underlying24 Try.underlying9 cellsS hf with ⟨hcs, hx⟩ | ⟨a, len', cap', ss, hcs, _, hl, hm, hz, hx, hcell, hwz⟩
  · simp [Value.cells] at hcs
    obtain ⟨rfl, rfl, rfl⟩ := hcs
    exact ⟨none, 0, 0, [], rfl, ⟨rfl, fun h => absurd h (by omega)⟩, Nat.le_refl _, Nat.zero_le _, fun _ => rfl, fun s h => by cases h⟩
  · simp [Value.cells] at hcs
    obtain ⟨rfl, rfl, rfl⟩ := hcs
    simp only [if_true] at hz
    refine ⟨some a, len, cap, ss.take len, rfl, ⟨by simp; omega, fun hn => ⟨a, rfl, World.block_lt_of_cell? W a (by simpa [Addr.add] using hcell 0 (by omega)), fun j hj => ?_⟩⟩, hl, hm, (fun h => by cases h), fun s hs => hwz s (List.mem_of_mem_take hs)⟩
    have hj2 : j < ss.length := by simp at hj; omega
    rw [hcell j hj2]
    simp [List.getD, hj2]

theorem sizeS : Try.prog.elem 24 = 9 := by kernel_rfl
theorem sl_hS {w : World} {B n : Nat} {A : Option Addr} {l : List ByteArray} (h : RdS w B A n l) {c : Nat} (hn : n ≤ c) (hA : A = none → c = 0) (y : Int) (hi : Nat) (ey : y = (hi : Nat)) (h2 : hi ≤ n) :
    (∀ wx : World, (Instr.slice 24 (.slice A n c) none (some (.int .i64 y)) none).run Try.prog wx = .ok (.slice A hi c) wx) ∧ RdS w B A hi (l.take hi) := by
  refine ⟨fun wx => ?_, h.pre h2⟩
  obtain ⟨i, hi', hz0, hz1, hz2⟩ := info_parts infoS
  subst ey
  rw [run_slice_h (P := Try.prog) (t := 24) (ht := by rw [sizeS]; exact Try.underlying24) (h0 := by omega) (h2 := by omega), sizeS]
  cases A with
  | none => simp [sizeOf, typeInfo, hi', hz1, sliced, Result.andThen]
  | some a =>
    have e : a.add 0 = a := by unfold Addr.add; rw [if_pos rfl]
    simp [sizeOf, typeInfo, hi', hz1, sliced, Result.andThen, e]
end Go.Proofs.Ytcihgnkmikhboaa
