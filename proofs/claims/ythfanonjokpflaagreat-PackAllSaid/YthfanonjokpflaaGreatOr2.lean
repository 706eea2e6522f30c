/-
  Contracts of package order, second part: get, Int, GetInt, Text.
-/
import Derived.Test.YthfanonjokpflaaGreatOr1
import Derived.Test.YthfanonjokpflaaGreatOsl
import Derived.Lib.ConvBytes
import Derived.Laws.Bits64b
set_option linter.unusedVariables false
namespace Go.Proofs.YthfanonjokpflaaGreat
open Go Go.RowKit

theorem vl_step (a : Nat) (b : UInt8) (h : a < 72057594037927936) : bits BinOp.or IntKind.u64 (IntKind.u64.wrap ((a : Int) * 256)) (b.toNat : Int) = ((a * 256 + b.toNat : Nat) : Int) := by
  have hb := b.toNat_lt
  rw [IntWalk.u64_in _ (by omega), show (a : Int) * 256 = ((a * 256 : Nat) : Int) from by omega, bits_or_u64_nat _ _ (by omega) (by omega), or_byte a b.toNat (by omega)]
theorem vl_small (l : List UInt8) (k : Nat) (h : k ≤ 7) : vl (l.take k) < 72057594037927936 := by
  have h1 := vl_lt (l.take k)
  have h2 : (l.take k).length ≤ 7 := by rw [List.length_take]; omega
  have h3 : 256 ^ (l.take k).length ≤ 256 ^ 7 := Nat.pow_le_pow_right (by omega) h2
  have h4 : (256 : Nat) ^ 7 = 72057594037927936 := rfl
  omega

set_option maxHeartbeats 1000000 in
theorem get_any (A : Option Addr) (n c B : Nat) (l : List UInt8) (w : World) (h : Rd w B A n l) (hn : n ≤ 8) :
    Calls Tryz.prog 121 #[.slice A n c] w fun e w' => e = .returned (.int .u64 (vl l : Nat)) ∧ w = w' := by
  have hl := h.1
  have HL := Lib.hid hl
  clear hl
  go_enter Tryz.func121, Tryz.ntmps121
  go_wp2
  go_loop [3, 8] (fun v i => ∃ k : Nat, k ≤ n ∧ i = .int .i64 k ∧ v = .int .u64 (vl (l.take k) : Nat)) (fun _ i => n - (intOf i).toNat)
  case atStart => exact ⟨0, Nat.zero_le _, rfl, rfl⟩
  case round =>
    obtain ⟨k, hk, rfl, rfl⟩ := hrel
    by_cases hlt : k < n
    · obtain ⟨ad, rfl, _, hc⟩ := h.at_ hlt
      have hkl : k < l.length := by rw [HL.out]; exact hlt
      have hck := hc k hkl
      have hst : vl (l.take (k + 1)) = vl (l.take k) * 256 + l[k].toNat := by
        rw [List.take_succ_eq_append_getElem hkl, vl_snoc]
      have hv := vl_small l k (by omega)
      have hbk := l[k].toNat_lt
      have HC := Lib.hid hc
      have HS := Lib.hid hst
      have HV := Lib.hid hv
      clear hc hst hv
      go_wp2
      go_round
      case rel => exact ⟨k + 1, by omega, by go_num, by rw [vl_step _ _ HV.out, HS.out]⟩
      case measure => simp [intOf]; omega
    · obtain rfl : k = n := by omega
      go_wp2
      go_ret
      refine ⟨?_, rfl⟩
      show Ending.returned (.int .u64 ((vl (l.take k) : Nat) : Int)) = _
      rw [List.take_of_length_le (by rw [HL.out]; exact Nat.le_refl _)]

end Go.Proofs.YthfanonjokpflaaGreat
