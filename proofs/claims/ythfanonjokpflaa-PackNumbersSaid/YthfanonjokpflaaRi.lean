/-
  A whole number's eight bytes, as the document's own answer of chapter 2 gives them (for the laws by numbers of chapters that don't reach the rest of chapter 2).
-/
import Derived.Test.YthfanonjokpflaaOb
import Derived.Test.YthfanonjokpflaaSl
import Derived.Test.YthfanonjokpflaaPlc
import Derived.Laws.Bits64
import Derived.LoopTactic
import Derived.Outline
import Derived.WalkSpells
set_option linter.unusedVariables false
namespace Go.Proofs.Ythfanonjokpflaa
open Go Go.RowKit

def intE (v : Int) : List UInt8 := be (v + 9223372036854775808).toNat 8
theorem cv_asE {w : World} {B n : Nat} {A : Option Addr} {l : List UInt8} (h : Rd w B A n l) (c : Nat) (q : ByteArray) (hq : q.data.toList = l) :
    (convert 33 9 (.slice A n c)).run Try.prog w = .ok (.string q) w := by
  rw [cv_string h c, mk_eq l q hq]
theorem shr_byteE (v m : Nat) : (v : Int) / 2 ^ (8 * m) % 256 = ((UInt8.ofNat (v / 256 ^ m)).toNat : Nat) := by
  have e : (2 : Int) ^ (8 * m) = ((256 ^ m : Nat) : Int) := by rw [Int.pow_mul]; simp
  rw [e, UInt8.toNat_ofNat']
  simp

theorem xor63E (a : Nat) (h : a < 18446744073709551616) : a ^^^ 9223372036854775808 = (a + 9223372036854775808) % 18446744073709551616 := by
  have small : ∀ b : Nat, b < 2 ^ 63 → b ^^^ 2 ^ 63 = 2 ^ 63 + b := by
    intro b hb
    apply Nat.eq_of_testBit_eq
    intro i
    rw [Nat.testBit_xor, Nat.testBit_two_pow]
    rcases Nat.lt_trichotomy i 63 with hi | hi | hi
    · rw [Nat.testBit_two_pow_add_gt hi, decide_eq_false (by omega), Bool.xor_false]
    · subst hi
      rw [Nat.testBit_two_pow_add_eq]
      simp
    · rw [Nat.testBit_lt_two_pow (Nat.lt_of_lt_of_le hb (Nat.pow_le_pow_right (by omega) (by omega))), Nat.testBit_lt_two_pow (x := 2 ^ 63 + b) (Nat.lt_of_lt_of_le (show 2 ^ 63 + b < 2 ^ 64 by omega) (Nat.pow_le_pow_right (by omega) (by omega))), decide_eq_false (by omega)]
      rfl
  rw [show (9223372036854775808 : Nat) = 2 ^ 63 from rfl]
  by_cases hs : a < 2 ^ 63
  · rw [small a hs]; omega
  · obtain ⟨b, rfl⟩ : ∃ b, a = 2 ^ 63 + b := ⟨a - 2 ^ 63, by omega⟩
    rw [← small b (by omega), Nat.xor_assoc, Nat.xor_self, Nat.xor_zero, small b (by omega)]
    omega

set_option maxRecDepth 8000 in
set_option maxHeartbeats 2000000 in
theorem rint_anyE (v : Int) (w : World) (h1 : -9223372036854775808 ≤ v) (h2 : v ≤ 9223372036854775807) :
    Calls Try.prog 66 #[.int .i64 v] w (GivesS w (intE v)) := by
  obtain ⟨u, hu⟩ : ∃ u : Nat, (v + 9223372036854775808).toNat = u := ⟨_, rfl⟩
  have hul : u < 18446744073709551616 := by omega
  have e : bits BinOp.xor IntKind.u64 (IntKind.u64.wrap v) 9223372036854775808 = (u : Int) := by
    rw [IntKind.wrap_u64]
    have h3 : v % 18446744073709551616 = (((v % 18446744073709551616).toNat : Nat) : Int) := by omega
    rw [h3, show (9223372036854775808 : Int) = ((9223372036854775808 : Nat) : Int) from rfl, bits_xor_u64_nat _ _ (by omega) (by omega), xor63E _ (by omega)]
    omega
  have HE := Lib.hid e
  have HU := Lib.hid hu
  clear e hu
  go_enter Try.func66, Try.ntmps66
  go_wp2
  rw [HE.out]
  go_loopw [4, 5] (fun t i wr => ∃ (k : Nat) (q : ByteArray), i = .int .i64 k ∧ k ≤ 8 ∧ t = .string q ∧ q.data.toList = be u k ∧ q.size = k ∧ Below w.heap.size w wr) (fun _ i _ => 8 - (intOf i).toNat)
  case atStart => exact ⟨0, ⟨#[]⟩, rfl, Nat.zero_le _, rfl, rfl, rfl, Below.refl _ _⟩
  case round =>
    obtain ⟨k, q, rfl, hk, rfl, hq, hqs, hb⟩ := hrel
    have hz := hb.size
    by_cases hlt : k < 8
    · have hcv := cv_asE (Rd.one wr ((u : Int) / 2 ^ (8 * k) % 256) (UInt8.ofNat (u / 256 ^ k)) (shr_byteE u k)) 1 ⟨#[UInt8.ofNat (u / 256 ^ k)]⟩ rfl
      obtain ⟨q2, hq2e⟩ : ∃ x : ByteArray, (⟨#[UInt8.ofNat (u / 256 ^ k)]⟩ : ByteArray) ++ q = x := ⟨_, rfl⟩
      have hadd : ∀ wx : World, (Op.stringOp .add ⟨#[UInt8.ofNat (u / 256 ^ k)]⟩ q).run Try.prog wx = .ok (.string q2) wx := by
        intro wx; rw [run_string_add_sum wx _ q (by rw [show (⟨#[UInt8.ofNat (u / 256 ^ k)]⟩ : ByteArray).size = 1 from rfl]; omega), hq2e]
      have hq2 : q2.data.toList = be u (k + 1) := by rw [← hq2e, be, ← hq]; simp
      have hq2s : q2.size = k + 1 := by rw [← hq2e, ByteArray.size_append, hqs]; exact Nat.add_comm _ _
      have HQ := Lib.hid hq2
      have HS := Lib.hid hq2s
      clear hq hqs hq2e hq2 hq2s
      go_wp2
      go_roundw
      case rel => exact ⟨k + 1, q2, by go_num, by omega, rfl, HQ.out, HS.out, hb.alloc hz _⟩
      case measure => simp [intOf]; omega
    · obtain rfl : k = 8 := by omega
      have HQ := Lib.hid hq
      clear hq hqs
      go_wp2
      go_ret
      exact ⟨q, rfl, by rw [HQ.out, intE, HU.out], hb⟩

/-- The keys of the rows of numbers: whole numbers, encoded. -/
def dg (i : Nat) : ByteArray := ⟨(intE (i : Int)).toArray⟩
theorem dg_facts : (∀ i, i < 4 → (dg i).size = 8) ∧ ∀ i, i < 4 → ∀ j, j < i → (dg j).data.toList < (dg i).data.toList := by decide
end Go.Proofs.Ythfanonjokpflaa
