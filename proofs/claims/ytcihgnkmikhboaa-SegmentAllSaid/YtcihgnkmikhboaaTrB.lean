/-
  Contracts of the document's own answers, chapter 3, first part: Of, Bytes.
-/
import Derived.Test.YtcihgnkmikhboaaTas
import Derived.Deep.QuietTactic
import Derived.BigQuiet
set_option linter.unusedVariables false
set_option linter.unusedSimpArgs false
namespace Go.Proofs.Ytcihgnkmikhboaa
open Go Go.RowKit

set_option maxHeartbeats 400000 in
theorem rcut_any (t : Int) (w : World) :
    Calls Try.prog 31 #[.int .i64 t] w fun e w' => e = .returned (.int .i64 (tcut t : Nat)) ∧ w = w' := by
  by_cases h1 : 2147483646 < t
  · rw [tcut_hi t (by omega)]
    go_enter Try.func31, Try.ntmps31
    go_wp2
    all_goals go_ret
    all_goals first | exact ⟨rfl, rfl⟩ | (refine ⟨?_, rfl⟩; show Ending.returned (Value.int .i64 _) = _; congr 2; omega)
  by_cases h2 : t < 0
  · rw [tcut_lo t (by omega)]
    go_enter Try.func31, Try.ntmps31
    go_wp2
    all_goals go_ret
    all_goals first | exact ⟨rfl, rfl⟩ | (refine ⟨?_, rfl⟩; show Ending.returned (Value.int .i64 _) = _; congr 2; omega)
  · have e := tcut_in t (by omega) (by omega)
    rw [e]
    go_enter Try.func31, Try.ntmps31
    go_wp2
    all_goals go_ret
    all_goals first | exact ⟨rfl, rfl⟩ | (refine ⟨?_, rfl⟩; show Ending.returned (Value.int .i64 _) = _; congr 2; omega)

set_option maxHeartbeats 1000000 in
theorem rmore_any (t : Int) (s : ByteArray) (w : World) (hs : s.size ≤ maxLen) :
    Calls Try.prog 32 #[.int .i64 t, .string s] w fun e w' => e = .returned (.int .i64 (tgo (tcut t) s.data.toList : Nat)) ∧ w = w' := by
  unfold maxLen at hs
  have hlen : s.data.toList.length = s.size := (Lib.size_eq s).symm
  have HLEN := Lib.hid hlen
  obtain ⟨h, hh⟩ : ∃ h, tcut t = h := ⟨_, rfl⟩
  have hlt : h < 2147483647 := by rw [← hh]; exact tcut_lt t
  have HH := Lib.hid hh
  clear hlen
  rw [hh]
  clear hh
  go_enter Try.func32, Try.ntmps32
  go_wp2_with fail
  refine (rcut_any t _).mono ?_
  rintro e w1 ⟨rfl, rfl⟩
  rw [HH.out]
  go_wp2
  go_loop [5, 6] (fun v i => ∃ k : Nat, k ≤ s.size ∧ i = .int .i64 k ∧ v = .int .i64 (tgo h (s.data.toList.take k) : Nat)) (fun _ i => s.size - (intOf i).toNat)
  case atStart => exact ⟨0, Nat.zero_le _, rfl, rfl⟩
  case round =>
    obtain ⟨k, hk, rfl, rfl⟩ := hrel
    have hgl := tgo_lt (s.data.toList.take k) h hlt
    by_cases hlt : k < s.size
    · have hkl : k < s.data.toList.length := by rw [HLEN.out]; exact hlt
      have hst := tgo_take h s.data.toList k hkl
      have ek : s.data.toList[k] = s[k] := rfl
      rw [ek] at hst
      have hbk := s[k].toNat_lt
      have hsi : ((tgo h (s.data.toList.take (k + 1)) : Nat) : Int) = (257 * ((tgo h (s.data.toList.take k) : Nat) : Int) + (s[k].toNat : Nat) + 1) % 2147483647 := by
        rw [hst]; unfold tstep; omega
      have HST := Lib.hid hsi
      clear hst ek hsi
      go_wp2
      go_round
      case rel => exact ⟨k + 1, by omega, by go_num, by rw [HST.out]⟩
      case measure => simp [intOf]; omega
    · obtain rfl : k = s.size := by omega
      go_wp2
      go_ret
      refine ⟨?_, rfl⟩
      rw [List.take_of_length_le (by rw [HLEN.out]; exact Nat.le_refl _)]
      rfl

theorem rof_any (s : ByteArray) (w : World) (hs : s.size ≤ maxLen) :
    Calls Try.prog 28 #[.string s] w fun e w' => e = .returned (.int .i64 (tgo 1 s.data.toList : Nat)) ∧ w = w' := by
  go_enter Try.func28, Try.ntmps28
  go_wp2_with fail
  refine (rmore_any 1 s _ hs).mono ?_
  rintro e w1 ⟨rfl, rfl⟩
  rw [show tcut 1 = 1 from rfl]
  go_wp2
  go_ret
  exact ⟨rfl, rfl⟩

set_option maxHeartbeats 1000000 in
theorem rbytes_any (t : Int) (w : World) :
    Calls Try.prog 27 #[.int .i64 t] w (GivesS w (be (tcut t) 4)) := by
  obtain ⟨h, hh⟩ : ∃ h, tcut t = h := ⟨_, rfl⟩
  have hlt : h < 2147483647 := by rw [← hh]; exact tcut_lt t
  have HH := Lib.hid hh
  rw [hh]
  clear hh
  go_enter Try.func27, Try.ntmps27
  go_wp2_with fail
  refine (rcut_any t _).mono ?_
  rintro e w1 ⟨rfl, rfl⟩
  rw [HH.out]
  have hrd := Rd.laid (w := w.alloc (.cells #[.int .u8 ((h : Int) / 16777216), .int .u8 ((h : Int) / 65536 % 256), .int .u8 ((h : Int) / 256 % 256), .int .u8 ((h : Int) % 256)] 5)) (g := w.heap.size) (l := be h 4) (heap_alloc_new w _) (by
    have e0 : (h : Int) / 16777216 = ((UInt8.ofNat (h / 256 ^ 3)).toNat : Nat) := by rw [UInt8.toNat_ofNat']; omega
    have e1 : (h : Int) / 65536 % 256 = ((UInt8.ofNat (h / 256 ^ 2)).toNat : Nat) := by rw [UInt8.toNat_ofNat']; omega
    have e2 : (h : Int) / 256 % 256 = ((UInt8.ofNat (h / 256 ^ 1)).toNat : Nat) := by rw [UInt8.toNat_ofNat']; omega
    have e3 : (h : Int) % 256 = ((UInt8.ofNat (h / 256 ^ 0)).toNat : Nat) := by rw [UInt8.toNat_ofNat']; omega
    rw [e0, e1, e2, e3]
    rfl)
  rw [be_length] at hrd
  have hcv := cv_as hrd 4 ⟨(be h 4).toArray⟩ rfl
  have HRD := Lib.hid hrd
  clear hrd
  go_wp2
  go_ret
  exact ⟨_, rfl, rfl, (Below.refl _ _).alloc (Nat.le_refl _) _⟩
end Go.Proofs.Ytcihgnkmikhboaa
