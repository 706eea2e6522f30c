import Derived.Shelf.Strconv.Itoa0
import Derived.Test.YtmpcnhpdobdmcaaGreatDoorLawNotesF
set_option linter.unusedVariables false
set_option linter.unusedSimpArgs false
namespace Go.Proofs.YtmpcnhpdobdmcaaGreatDoor
open Go Go.RowKit Go.Shelf Go.Proofs
def lenRen : Go.Shelf.Ren := ⟨fun | 129 => 137 | n => n,fun | 53 => 214 | 3 => 3 | 4 => 4 | 46 => 149 | 5 => 5 | 9 => 9 | n => n,fun | n => n⟩
theorem lenLays : Go.Proofs.Lays.n129 Tryz.prog lenRen := {
 mixed := by kernel_rfl
 f129 := Tryz.func137.trans (congrArg some (by kernel_rfl))
 t3 := Tryz.underlying3
 a3 := Tryz.isAgg3
 z3 := Tryz.sizeOf3
 v3 := Tryz.zeroValue3
 t4 := Tryz.underlying4
 a4 := Tryz.isAgg4
 z4 := Tryz.sizeOf4
 v4 := Tryz.zeroValue4
 t5 := Tryz.underlying5
 a5 := Tryz.isAgg5
 z5 := Tryz.sizeOf5
 v5 := Tryz.zeroValue5
 t9 := Tryz.underlying9
 a9 := Tryz.isAgg9
 z9 := Tryz.sizeOf9
 v9 := Tryz.zeroValue9
 t46 := Tryz.underlying149
 a46 := Tryz.isAgg149
 z46 := Tryz.sizeOf149
 v46 := Tryz.zeroValue149
 t53 := Tryz.underlying214
 a53 := Tryz.isAgg214
 z53 := Tryz.sizeOf214
 v53 := Tryz.zeroValue214 }
theorem len64_any (v : Int) (w : World) (h0 : 0 <= v) (h1 : v <= 18446744073709551615) :
    Calls Tryz.prog 137 #[.int .u64 v] w fun e w' => e = .returned (.int .i64 (Lib.bitLen v.toNat)) /\ w = w' :=
 (Any.bits_Len64 lenLays v w h0 h1).mono fun e w' ⟨h,h'⟩ => ⟨h,h'.symm⟩
end Go.Proofs.YtmpcnhpdobdmcaaGreatDoor
