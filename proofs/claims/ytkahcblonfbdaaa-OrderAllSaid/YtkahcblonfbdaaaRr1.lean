/-
  Contracts of the document's own answers, chapter 2, first part: Num, Int, GetInt, Text.
-/
import Derived.Test.YtkahcblonfbdaaaOaw
import Derived.Test.YtkahcblonfbdaaaOl
import Derived.Laws.Bits64
set_option linter.unusedVariables false
namespace Go.Proofs.Ytkahcblonfbdaaa
open Go Go.RowKit

theorem one_byte (x : Int) (n : Nat) (h : x = (n % 256 : Nat)) : x = ((UInt8.ofNat n).toNat : Nat) := by
  rw [h, UInt8.toNat_ofNat']

set_option maxHeartbeats 2000000 in
theorem rnum_any (v : Nat) (w : World) (hv : v < 18446744073709551616) :
    Calls Try.prog 10 #[.int .u64 (v : Nat)] w (GivesS w (numL v)) := by
  have hn8 := (nb_facts v hv).1
  go_enter Try.func10, Try.ntmps10
  go_wp2
  go_loopw [0, 3] (fun a t wr => ∃ (u : Nat) (q : ByteArray), a = .int .u64 u ∧ t = .string q ∧ u ≤ v ∧ be u (nb u) ++ q.data.toList = be v (nb v) ∧ q.size + nb u = nb v ∧ Below w.heap.size w wr) (fun a _ _ => (intOf a).toNat)
  case atStart => exact ⟨v, ⟨#[]⟩, rfl, rfl, Nat.le_refl _, by simp, by simp [ByteArray.size], Below.refl _ _⟩
  case round =>
    obtain ⟨u, q, rfl, rfl, huv, hq, hqs, hb⟩ := hrel
    have hz := hb.size
    by_cases h0 : 0 < u
    · have hst := nb_step u (by omega) (by omega)
      have hq2 : be (u / 256) (nb (u / 256)) ++ ([UInt8.ofNat u] ++ q.data.toList) = be v (nb v) := by
        rw [← hq, hst, ← be_append, List.append_assoc]
      have hqs2 : 1 + q.size + nb (u / 256) = nb v := by omega
      have hcv := cv_as (Rd.one wr ((u : Int) % 256) (UInt8.ofNat u) (one_byte _ _ (by omega))) 1 ⟨#[UInt8.ofNat u]⟩ rfl
      have hadd : ∀ wx : World, (Op.stringOp .add ⟨#[UInt8.ofNat u]⟩ q).run Try.prog wx = .ok (.string (⟨#[UInt8.ofNat u]⟩ ++ q)) wx := by
        intro wx; rw [run_string_add_sum wx _ q (by rw [show (⟨#[UInt8.ofNat u]⟩ : ByteArray).size = 1 from rfl]; omega)]
      have hqq : ((⟨#[UInt8.ofNat u]⟩ : ByteArray) ++ q).data.toList = [UInt8.ofNat u] ++ q.data.toList := by simp
      have hqz : ((⟨#[UInt8.ofNat u]⟩ : ByteArray) ++ q).size = 1 + q.size := by rw [ByteArray.size_append]; rfl
      obtain ⟨q2, hq2e⟩ : ∃ x : ByteArray, (⟨#[UInt8.ofNat u]⟩ : ByteArray) ++ q = x := ⟨_, rfl⟩
      rw [hq2e] at hqq hqz
      simp only [hq2e] at hadd
      rw [← hqq] at hq2
      rw [← hqz] at hqs2
      have HQ := Lib.hid hq2
      have HS := Lib.hid hqs2
      clear hq hqs hst hq2 hqs2 hqq hqz hq2e
      go_wp2
      go_roundw
      case rel => exact ⟨u / 256, q2, by go_num, rfl, by omega, HQ.out, HS.out, hb.alloc hz _⟩
      case measure => simp [intOf]; omega
    · obtain rfl : u = 0 := by omega
      rw [nb_zero] at hq hqs
      rw [be, List.nil_append] at hq
      rw [Nat.add_zero] at hqs
      have hq8 : q.size ≤ 8 := by omega
      have hcv := cv_as (Rd.one wr ((q.size : Nat) : Int) (UInt8.ofNat (nb v)) (one_byte _ _ (by omega))) 1 ⟨#[UInt8.ofNat (nb v)]⟩ rfl
      obtain ⟨q2, hq2e⟩ : ∃ x : ByteArray, (⟨#[UInt8.ofNat (nb v)]⟩ : ByteArray) ++ q = x := ⟨_, rfl⟩
      have hadd : ∀ wx : World, (Op.stringOp .add ⟨#[UInt8.ofNat (nb v)]⟩ q).run Try.prog wx = .ok (.string q2) wx := by
        intro wx; rw [run_string_add_sum wx _ q (by rw [show (⟨#[UInt8.ofNat (nb v)]⟩ : ByteArray).size = 1 from rfl]; omega), hq2e]
      have hres : q2.data.toList = numL v := by rw [← hq2e, numL, ← hq]; simp
      have HR := Lib.hid hres
      have HQ := Lib.hid hq
      have HS := Lib.hid hqs
      clear hq hqs hq2e hres
      go_wp2
      go_ret
      exact ⟨q2, rfl, HR.out, hb.alloc hz _⟩
theorem xor63 (a : Nat) (h : a < 18446744073709551616) : a ^^^ 9223372036854775808 = (a + 9223372036854775808) % 18446744073709551616 := by
  have small : ∀ b : Nat, b < 2 ^ 63 → b ^^^ 2 ^ 63 = 2 ^ 63 + b := by
    intro b hb
    apply Nat.eq_of_testBit_eq
    intro i
    rw [Nat.testBit_xor, Nat.testBit_two_pow]
    rcases Nat.lt_trichotomy i 63 with hi | hi | hi
    · rw [Nat.testBit_two_pow_add_gt hi, decide_eq_false (by omega), Bool.xor_false]
    · subst hi
      rw [Nat.testBit_two_pow_add_eq]
      simp
    · rw [Nat.testBit_lt_two_pow (Nat.lt_of_lt_of_le hb (Nat.pow_le_pow_right (by omega) (by omega))), Nat.testBit_lt_two_pow (x := 2 ^ 63 + b) (Nat.lt_of_lt_of_le (show 2 ^ 63 + b < 2 ^ 64 by omega) (Nat.pow_le_pow_right (by omega) (by omega))), decide_eq_false (by omega)]
      rfl
  rw [show (9223372036854775808 : Nat) = 2 ^ 63 from rfl]
  by_cases hs : a < 2 ^ 63
  · rw [small a hs]; omega
  · obtain ⟨b, rfl⟩ : ∃ b, a = 2 ^ 63 + b := ⟨a - 2 ^ 63, by omega⟩
    rw [← small b (by omega), Nat.xor_assoc, Nat.xor_self, Nat.xor_zero, small b (by omega)]
    omega

set_option maxHeartbeats 2000000 in
theorem rint_any (v : Int) (w : World) (h1 : -9223372036854775808 ≤ v) (h2 : v ≤ 9223372036854775807) :
    Calls Try.prog 14 #[.int .i64 v] w (GivesS w (intL v)) := by
  obtain ⟨u, hu⟩ : ∃ u : Nat, (v + 9223372036854775808).toNat = u := ⟨_, rfl⟩
  have hul : u < 18446744073709551616 := by omega
  have e : bits BinOp.xor IntKind.u64 (IntKind.u64.wrap v) 9223372036854775808 = (u : Int) := by
    rw [IntKind.wrap_u64]
    have h3 : v % 18446744073709551616 = (((v % 18446744073709551616).toNat : Nat) : Int) := by omega
    rw [h3, show (9223372036854775808 : Int) = ((9223372036854775808 : Nat) : Int) from rfl, bits_xor_u64_nat _ _ (by omega) (by omega), xor63 _ (by omega)]
    omega
  have HE := Lib.hid e
  have HU := Lib.hid hu
  clear e hu
  go_enter Try.func14, Try.ntmps14
  go_wp2
  rw [HE.out]
  go_loopw [4, 5] (fun t i wr => ∃ (k : Nat) (q : ByteArray), i = .int .i64 k ∧ k ≤ 8 ∧ t = .string q ∧ q.data.toList = be u k ∧ q.size = k ∧ Below w.heap.size w wr) (fun _ i _ => 8 - (intOf i).toNat)
  case atStart => exact ⟨0, ⟨#[]⟩, rfl, Nat.zero_le _, rfl, rfl, rfl, Below.refl _ _⟩
  case round =>
    obtain ⟨k, q, rfl, hk, rfl, hq, hqs, hb⟩ := hrel
    have hz := hb.size
    by_cases hlt : k < 8
    · have hcv := cv_as (Rd.one wr ((u : Int) / 2 ^ (8 * k) % 256) (UInt8.ofNat (u / 256 ^ k)) (shr_byte u k)) 1 ⟨#[UInt8.ofNat (u / 256 ^ k)]⟩ rfl
      obtain ⟨q2, hq2e⟩ : ∃ x : ByteArray, (⟨#[UInt8.ofNat (u / 256 ^ k)]⟩ : ByteArray) ++ q = x := ⟨_, rfl⟩
      have hadd : ∀ wx : World, (Op.stringOp .add ⟨#[UInt8.ofNat (u / 256 ^ k)]⟩ q).run Try.prog wx = .ok (.string q2) wx := by
        intro wx; rw [run_string_add_sum wx _ q (by rw [show (⟨#[UInt8.ofNat (u / 256 ^ k)]⟩ : ByteArray).size = 1 from rfl]; omega), hq2e]
      have hq2 : q2.data.toList = be u (k + 1) := by rw [← hq2e, be, ← hq]; simp
      have hq2s : q2.size = k + 1 := by rw [← hq2e, ByteArray.size_append, hqs]; exact Nat.add_comm _ _
      have HQ := Lib.hid hq2
      have HS := Lib.hid hq2s
      clear hq hqs hq2e hq2 hq2s
      go_wp2
      go_roundw
      case rel => exact ⟨k + 1, q2, by go_num, by omega, rfl, HQ.out, HS.out, hb.alloc hz _⟩
      case measure => simp [intOf]; omega
    · obtain rfl : k = 8 := by omega
      have HQ := Lib.hid hq
      clear hq hqs
      go_wp2
      go_ret
      exact ⟨q, rfl, by rw [HQ.out, intL, HU.out], hb⟩

set_option maxHeartbeats 1000000 in
theorem rgetInt_no (s : ByteArray) (w : World) (h : s.size ≠ 8) (hs : s.size ≤ maxLen) :
    Calls Try.prog 20 #[.string s] w fun e w' => e = .returned (.tuple #[.int .i64 0, .bool false]) ∧ w = w' := by
  have hb : ((s.size : Int) != 8) = true := by rw [bne_iff_ne]; omega
  go_enter Try.func20, Try.ntmps20
  go_wp2
  go_ret2
  exact ⟨rfl, rfl⟩

set_option maxHeartbeats 2000000 in
theorem rgetInt_yes (s : ByteArray) (w : World) (h : s.size = 8) :
    Calls Try.prog 20 #[.string s] w fun e w' => e = .returned (.tuple #[.int .i64 ((vl s.data.toList : Nat) - 9223372036854775808), .bool true]) ∧ w = w' := by
  have hb : ((s.size : Int) != 8) = false := by rw [bne_eq_false_iff_eq]; omega
  have hl : s.data.toList.length = 8 := by rw [← Lib.size_eq, h]
  have hlt := vl_lt s.data.toList
  rw [hl, show (256 : Nat) ^ 8 = 18446744073709551616 from rfl] at hlt
  obtain ⟨u, hu⟩ : ∃ u : Nat, vl s.data.toList = u := ⟨_, rfl⟩
  rw [hu] at hlt ⊢
  have e : wrap64 (bits BinOp.xor IntKind.u64 (u : Int) 9223372036854775808) = (u : Int) - 9223372036854775808 := by
    rw [show (9223372036854775808 : Int) = ((9223372036854775808 : Nat) : Int) from rfl, bits_xor_u64_nat _ _ (by omega) (by omega), xor63 _ (by omega)]
    unfold wrap64
    omega
  have HU := Lib.hid hu
  have HE := Lib.hid e
  have HS := Lib.hid h
  have h8 : s.size ≤ 8 ∧ 8 ≤ s.size := by omega
  obtain ⟨h81, h82⟩ := h8
  have HL := Lib.hid hl
  clear e hu h hl
  go_enter Try.func20, Try.ntmps20
  go_wp2
  go_loop [4, 5] (fun v i => ∃ k : Nat, k ≤ 8 ∧ i = .int .i64 k ∧ v = .int .u64 (vl (s.data.toList.take k) : Nat)) (fun _ i => 8 - (intOf i).toNat)
  case atStart => exact ⟨0, Nat.zero_le _, rfl, rfl⟩
  case round =>
    obtain ⟨k, hk, rfl, rfl⟩ := hrel
    by_cases hlt : k < 8
    · have hks : k < s.size := by omega
      have hkl : k < s.data.toList.length := by rw [HL.out]; exact hlt
      have ek : s.data.toList[k] = s[k] := rfl
      have hst : vl (s.data.toList.take (k + 1)) = vl (s.data.toList.take k) * 256 + s[k].toNat := by
        rw [List.take_succ_eq_append_getElem hkl, vl_snoc, ek]
      have hv := vl_small s.data.toList k (by omega)
      have hbk := s[k].toNat_lt
      have HST := Lib.hid hst
      have HV := Lib.hid hv
      clear hst hv ek
      go_wp2
      go_round
      case rel => exact ⟨k + 1, by omega, by go_num, by rw [vl_step _ _ HV.out, HST.out]⟩
      case measure => simp [intOf]; omega
    · obtain rfl : k = 8 := by omega
      rw [List.take_of_length_le (by rw [HL.out]; exact Nat.le_refl _), HU.out]
      go_wp2
      go_ret2
      refine ⟨?_, rfl⟩
      show Ending.returned (.tuple #[.int .i64 (wrap64 (bits BinOp.xor IntKind.u64 (u : Int) 9223372036854775808)), .bool true]) = _
      rw [HE.out]
end Go.Proofs.Ytkahcblonfbdaaa
