/-
  Slices of bytes: append as an operation of whatever region, onto what is the call's own or full; make. GENERAL.
-/
import Derived.Test.YtfldlkdnjkaidaaSl
import Derived.Test.YtfldlkdnjkaidaaApp
import Derived.Test.YtfldlkdnjkaidaaPlc
import Derived.Lib.AppendStr
import Derived.Laws.OwnMore
import Derived.Laws.MakeOwn
set_option linter.unusedVariables false
namespace Go.Proofs.Ytfldlkdnjkaidaa
open Go Go.RowKit

/-! ### make -/
theorem made_zero (n : Nat) : (madeCells (Value.int .u8 0).cells (n * 1)).toList = Lib.byteCells (List.replicate n 0) := by
  have e : (Value.int .u8 0).cells = #[Value.int .u8 0] := rfl
  unfold madeCells Lib.byteCells
  rw [e, Nat.mul_one, List.map_replicate, Array.toList_map]
  refine List.eq_replicate_iff.2 ⟨by simp, fun b hb => ?_⟩
  obtain ⟨j, _, rfl⟩ := List.mem_map.1 hb
  simp [Nat.mod_one]
theorem run_makeB (w : World) (n : Nat) (hn : n ≤ 70368744177664) :
    (Instr.makeSlice 46 (.int .i64 (n : Nat)) (.int .i64 (n : Nat))).run Try.prog w = .ok (.slice (some ⟨w.heap.size, 0, none⟩) n n) (w.alloc (.cells (madeCells (Value.int .u8 0).cells (n * 1)) 5)) := by
  obtain ⟨i, hi, hz0, hz1, hz2⟩ := info_parts infoB
  have h := run_make (P := Try.prog) w 46 5 i (.int .u8 0) Try.underlying46 hi hz0 .i64 .i64 (n : Int) (n : Int) (by omega) (by omega) (by rw [hz2]; omega) (by omega)
  rw [hz1, Int.toNat_natCast] at h
  exact h
theorem made_rd (w : World) (n : Nat) : Rd (w.alloc (.cells (madeCells (Value.int .u8 0).cells (n * 1)) 5)) (w.heap.size + 1) (some ⟨w.heap.size, 0, none⟩) n (List.replicate n 0) := by
  have := Rd.laid (w := w.alloc (.cells (madeCells (Value.int .u8 0).cells (n * 1)) 5)) (g := w.heap.size) (l := List.replicate n 0) (heap_alloc_new w _) (made_zero n)
  simpa using this

/-! ### a slice of a slice -/
end Go.Proofs.Ytfldlkdnjkaidaa
