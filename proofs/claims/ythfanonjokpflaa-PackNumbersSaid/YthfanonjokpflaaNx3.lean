/-
  A cell by numbers: it may be.
-/
import Derived.Test.YthfanonjokpflaaNx2
import Derived.Test.YthfanonjokpflaaCeOk
set_option linter.unusedVariables false
set_option linter.unusedSimpArgs false
namespace Go.Proofs.Ythfanonjokpflaa
open Go Go.RowKit Go.Joins

theorem xyz_at (i : Int) (i0 : 0 ≤ i) (i1 : i < 3) : ∃ s : ByteArray, s.size = 1 ∧ ∀ wx : World, (Instr.slice 9 (.string ⟨#[120, 121, 122]⟩) (some (.int .i64 i)) (some (.int .i64 (i + 1))) none).run Try.prog wx = .ok (.string s) wx := by
  refine ⟨(⟨#[120, 121, 122]⟩ : ByteArray).extract i.toNat (i + 1).toNat, ?_, fun wx => ?_⟩
  · rw [ByteArray.size_extract]
    show min (i + 1).toNat 3 - i.toNat = 1
    omega
  · rw [run_slice_string_if (P := Try.prog) wx 9 ⟨#[120, 121, 122]⟩ .i64 .i64 i (i + 1) Try.underlying9]
    rw [if_pos ⟨by omega, by show (i + 1) ≤ ((3 : Nat) : Int); omega⟩, if_pos ⟨i0, by omega⟩]

end Go.Proofs.Ythfanonjokpflaa
