/-
  The library's contracts that package order leans on: bits.Len64.
-/
import Derived.Shelf.Strconv.Itoa0
import Derived.Test.YthfanonjokpflaaSl
set_option linter.unusedVariables false
namespace Go.Proofs.Ythfanonjokpflaa
open Go Go.RowKit Go.Shelf Go.Proofs

def lenRen : Go.Shelf.Ren := ⟨fun | 129 => 88 | n => n, fun | 53 => 123 | 3 => 3 | 4 => 4 | 46 => 118 | 5 => 5 | 9 => 9 | n => n, fun | n => n⟩
theorem lenLays : Go.Proofs.Lays.n129 Try.prog lenRen := {
  mixed := by kernel_rfl
  f129 := Try.func88.trans (congrArg some (by kernel_rfl))
  t3 := Try.underlying3
  a3 := Try.isAgg3
  z3 := Try.sizeOf3
  v3 := Try.zeroValue3
  t4 := Try.underlying4
  a4 := Try.isAgg4
  z4 := Try.sizeOf4
  v4 := Try.zeroValue4
  t5 := Try.underlying5
  a5 := Try.isAgg5
  z5 := Try.sizeOf5
  v5 := Try.zeroValue5
  t9 := Try.underlying9
  a9 := Try.isAgg9
  z9 := Try.sizeOf9
  v9 := Try.zeroValue9
  t46 := Try.underlying118
  a46 := Try.isAgg118
  z46 := Try.sizeOf118
  v46 := Try.zeroValue118
  t53 := Try.underlying123
  a53 := Try.isAgg123
  z53 := Try.sizeOf123
  v53 := Try.zeroValue123 }
theorem len64_any (v : Int) (w : World) (h0 : 0 ≤ v) (h1 : v ≤ 18446744073709551615) :
    Calls Try.prog 88 #[.int .u64 v] w fun e w' => e = .returned (.int .i64 (Lib.bitLen v.toNat)) ∧ w = w' :=
  (Any.bits_Len64 lenLays v w h0 h1).mono fun e w' ⟨h, h'⟩ => ⟨h, h'.symm⟩
end Go.Proofs.Ythfanonjokpflaa
