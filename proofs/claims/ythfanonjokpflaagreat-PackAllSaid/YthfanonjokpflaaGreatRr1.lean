/-
  Contracts of the document's own answers, chapter 2, first part: Num, Int, GetInt, Text.
-/
import Derived.Test.YthfanonjokpflaaGreatOaw
import Derived.Test.YthfanonjokpflaaGreatOb
import Derived.Laws.Bits64
set_option linter.unusedVariables false
namespace Go.Proofs.YthfanonjokpflaaGreat
open Go Go.RowKit

theorem one_byte (x : Int) (n : Nat) (h : x = (n % 256 : Nat)) : x = ((UInt8.ofNat n).toNat : Nat) := by
  rw [h, UInt8.toNat_ofNat']

set_option maxHeartbeats 2000000 in
theorem rnum_any (v : Nat) (w : World) (hv : v < 18446744073709551616) :
    Calls Tryz.prog 71 #[.int .u64 (v : Nat)] w (GivesS w (numL v)) := by
  have hn8 := (nb_facts v hv).1
  go_enter Tryz.func71, Tryz.ntmps71
  go_wp2
  go_loopw [0, 3] (fun a t wr => ∃ (u : Nat) (q : ByteArray), a = .int .u64 u ∧ t = .string q ∧ u ≤ v ∧ be u (nb u) ++ q.data.toList = be v (nb v) ∧ q.size + nb u = nb v ∧ Below w.heap.size w wr) (fun a _ _ => (intOf a).toNat)
  case atStart => exact ⟨v, ⟨#[]⟩, rfl, rfl, Nat.le_refl _, by simp, by simp [ByteArray.size], Below.refl _ _⟩
  case round =>
    obtain ⟨u, q, rfl, rfl, huv, hq, hqs, hb⟩ := hrel
    have hz := hb.size
    by_cases h0 : 0 < u
    · have hst := nb_step u (by omega) (by omega)
      have hq2 : be (u / 256) (nb (u / 256)) ++ ([UInt8.ofNat u] ++ q.data.toList) = be v (nb v) := by
        rw [← hq, hst, ← be_append, List.append_assoc]
      have hqs2 : 1 + q.size + nb (u / 256) = nb v := by omega
      have hcv := cv_as (Rd.one wr ((u : Int) % 256) (UInt8.ofNat u) (one_byte _ _ (by omega))) 1 ⟨#[UInt8.ofNat u]⟩ rfl
      have hadd : ∀ wx : World, (Op.stringOp .add ⟨#[UInt8.ofNat u]⟩ q).run Tryz.prog wx = .ok (.string (⟨#[UInt8.ofNat u]⟩ ++ q)) wx := by
        intro wx; rw [run_string_add_sum wx _ q (by rw [show (⟨#[UInt8.ofNat u]⟩ : ByteArray).size = 1 from rfl]; omega)]
      have hqq : ((⟨#[UInt8.ofNat u]⟩ : ByteArray) ++ q).data.toList = [UInt8.ofNat u] ++ q.data.toList := by simp
      have hqz : ((⟨#[UInt8.ofNat u]⟩ : ByteArray) ++ q).size = 1 + q.size := by rw [ByteArray.size_append]; rfl
      obtain ⟨q2, hq2e⟩ : ∃ x : ByteArray, (⟨#[UInt8.ofNat u]⟩ : ByteArray) ++ q = x := ⟨_, rfl⟩
      rw [hq2e] at hqq hqz
      simp only [hq2e] at hadd
      rw [← hqq] at hq2
      rw [← hqz] at hqs2
      have HQ := Lib.hid hq2
      have HS := Lib.hid hqs2
      clear hq hqs hst hq2 hqs2 hqq hqz hq2e
      go_wp2
      go_roundw
      case rel => exact ⟨u / 256, q2, by go_num, rfl, by omega, HQ.out, HS.out, hb.alloc hz _⟩
      case measure => simp [intOf]; omega
    · obtain rfl : u = 0 := by omega
      rw [nb_zero] at hq hqs
      rw [be, List.nil_append] at hq
      rw [Nat.add_zero] at hqs
      have hq8 : q.size ≤ 8 := by omega
      have hcv := cv_as (Rd.one wr ((q.size : Nat) : Int) (UInt8.ofNat (nb v)) (one_byte _ _ (by omega))) 1 ⟨#[UInt8.ofNat (nb v)]⟩ rfl
      obtain ⟨q2, hq2e⟩ : ∃ x : ByteArray, (⟨#[UInt8.ofNat (nb v)]⟩ : ByteArray) ++ q = x := ⟨_, rfl⟩
      have hadd : ∀ wx : World, (Op.stringOp .add ⟨#[UInt8.ofNat (nb v)]⟩ q).run Tryz.prog wx = .ok (.string q2) wx := by
        intro wx; rw [run_string_add_sum wx _ q (by rw [show (⟨#[UInt8.ofNat (nb v)]⟩ : ByteArray).size = 1 from rfl]; omega), hq2e]
      have hres : q2.data.toList = numL v := by rw [← hq2e, numL, ← hq]; simp
      have HR := Lib.hid hres
      have HQ := Lib.hid hq
      have HS := Lib.hid hqs
      clear hq hqs hq2e hres
      go_wp2
      go_ret
      exact ⟨q2, rfl, HR.out, hb.alloc hz _⟩

end Go.Proofs.YthfanonjokpflaaGreat
