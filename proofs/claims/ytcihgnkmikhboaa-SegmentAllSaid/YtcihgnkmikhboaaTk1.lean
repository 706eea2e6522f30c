/-
  Contracts of package token, first part: cut, round and its closure, More, Of.
-/
import Derived.Test.YtcihgnkmikhboaaTk
import Derived.Test.YtcihgnkmikhboaaPlc
import Derived.LoopTactic
import Derived.Outline
import Derived.WalkSpells
set_option linter.unusedVariables false
set_option linter.unusedSimpArgs false
namespace Go.Proofs.Ytcihgnkmikhboaa
open Go Go.RowKit

theorem tcut_hi (t : Int) (h : 2147483646 ≤ t) : tcut t = 2147483646 := by
  unfold tcut
  rw [if_neg (by omega), if_pos h]
theorem tcut_lo (t : Int) (h : t ≤ 0) : tcut t = 0 := by
  unfold tcut
  rw [if_pos h]
theorem tcut_in (t : Int) (h : 0 ≤ t) (h2 : t ≤ 2147483646) : ((tcut t : Nat) : Int) = t := by
  unfold tcut
  split
  · omega
  · split <;> omega

set_option maxHeartbeats 400000 in
theorem cut_any (t : Int) (w : World) :
    Calls Try.prog 33 #[.int .i64 t] w fun e w' => e = .returned (.int .i64 (tcut t : Nat)) ∧ w = w' := by
  by_cases h1 : 2147483646 ≤ t
  · rw [tcut_hi t h1]
    go_enter Try.func33, Try.ntmps33
    go_wp2
    all_goals go_ret
    all_goals first | exact ⟨rfl, rfl⟩ | (refine ⟨?_, rfl⟩; show Ending.returned (Value.int .i64 _) = _; congr 2; omega)
  by_cases h2 : t ≤ 0
  · rw [tcut_lo t h2]
    go_enter Try.func33, Try.ntmps33
    go_wp2
    all_goals go_ret
    all_goals first | exact ⟨rfl, rfl⟩ | (refine ⟨?_, rfl⟩; show Ending.returned (Value.int .i64 _) = _; congr 2; omega)
  · have e := tcut_in t (by omega) (by omega)
    rw [e]
    go_enter Try.func33, Try.ntmps33
    go_wp2
    all_goals go_ret
    all_goals first | exact ⟨rfl, rfl⟩ | (refine ⟨?_, rfl⟩; show Ending.returned (Value.int .i64 _) = _; congr 2; omega)

/-- A byte further: the variable that the closure holds goes on. -/
theorem stepf_any (b : UInt8) (h g B : Nat) (w : World) (hg : w.heap[g]? = some (.cells #[.int .i64 (h : Nat)] 3 (0, 0))) (hB : B ≤ g) (hh : h < 2147483647) :
    Calls Try.prog 36 #[.int .u8 (b.toNat : Nat), .pointer (some ⟨g, 0, none⟩)] w fun e w' => e = .returned (.int .i64 (tstep h b : Nat)) ∧ w'.heap[g]? = some (.cells #[.int .i64 (tstep h b : Nat)] 3 (0, 0)) ∧ Below B w w' := by
  have hc := cell_of_one hg
  have hf := free_of_one hg
  have hb := b.toNat_lt
  have HG := Lib.hid hg
  clear hg
  go_enter Try.func36, Try.ntmps36
  go_wp2
  go_ret
  have e : ((h : Int) * 257 + (b.toNat : Nat) + 1) % 2147483647 = (tstep h b : Nat) := by unfold tstep; omega
  refine ⟨?_, ?_, (Below.refl _ _).setCell hB _⟩
  · show Ending.returned (Value.int .i64 (((h : Int) * 257 + (b.toNat : Nat) + 1) % 2147483647)) = _
    rw [e]
  · rw [e]
    exact one_setCell HG.out

theorem round_any (h : Nat) (w : World) :
    Calls Try.prog 35 #[.int .i64 (h : Nat)] w fun e w' => e = .returned (.func (.func 36) #[] #[.pointer (some ⟨w.heap.size, 0, none⟩)]) ∧ w' = w.alloc (.cells #[.int .i64 (h : Nat)] 3) := by
  have hmf : ∀ (fn : Fn) (first cap : Array Value) (w : World), (Instr.makeFunc fn first cap).run Try.prog w = .ok (.func fn first cap) w := fun _ _ _ _ => rfl
  go_enter Try.func35, Try.ntmps35
  go_wp2
  go_ret
  exact ⟨rfl, rfl⟩

set_option maxHeartbeats 1000000 in
theorem more_any (t : Int) (s : ByteArray) (w : World) (hs : s.size ≤ maxLen) :
    Calls Try.prog 34 #[.int .i64 t, .string s] w fun e w' => e = .returned (.int .i64 (tgo (tcut t) s.data.toList : Nat)) ∧ Below w.heap.size w w' := by
  unfold maxLen at hs
  have hlen : s.data.toList.length = s.size := (Lib.size_eq s).symm
  have HLEN := Lib.hid hlen
  obtain ⟨h, hh⟩ : ∃ h, tcut t = h := ⟨_, rfl⟩
  have hlt : h < 2147483647 := by rw [← hh]; exact tcut_lt t
  have HH := Lib.hid hh
  clear hlen
  rw [hh]
  clear hh
  go_enter Try.func34, Try.ntmps34
  go_wp2_with fail
  refine (cut_any t _).mono ?_
  rintro e w1 ⟨rfl, rfl⟩
  rw [HH.out]
  go_wp2_with fail
  refine (round_any h _).mono ?_
  rintro e w1 ⟨rfl, rfl⟩
  go_wp2
  go_loopw [5, 14] (fun v i wr => ∃ k : Nat, k ≤ s.size ∧ i = .int .i64 k ∧ v = .int .i64 (tgo h (s.data.toList.take k) : Nat) ∧ wr.heap[w.heap.size]? = some (.cells #[.int .i64 (tgo h (s.data.toList.take k) : Nat)] 3 (0, 0)) ∧ Below w.heap.size w wr) (fun _ i _ => s.size - (intOf i).toNat)
  case atStart => exact ⟨0, Nat.zero_le _, rfl, rfl, heap_alloc_new _ _, (Below.refl _ _).alloc (Nat.le_refl _) _⟩
  case round =>
    obtain ⟨k, hk, rfl, rfl, hg, hb⟩ := hrel
    have hgl := tgo_lt (s.data.toList.take k) h hlt
    by_cases hlt : k < s.size
    · have hkl : k < s.data.toList.length := by rw [HLEN.out]; exact hlt
      have hst := tgo_take h s.data.toList k hkl
      have ek : s.data.toList[k] = s[k] := rfl
      rw [ek] at hst
      have HST := Lib.hid hst
      clear hst ek
      go_wp2_with fail
      refine (stepf_any s[k] _ w.heap.size w.heap.size wr hg (Nat.le_refl _) hgl).mono ?_
      rintro e w1 ⟨rfl, hg1, hb1⟩
      rw [← HST.out] at hg1 ⊢
      go_wp2
      go_roundw
      case rel => exact ⟨k + 1, by omega, by go_num, rfl, hg1, hb.trans hb1⟩
      case measure => simp [intOf]; omega
    · obtain rfl : k = s.size := by omega
      go_wp2
      go_ret
      refine ⟨?_, hb⟩
      rw [List.take_of_length_le (by rw [HLEN.out]; exact Nat.le_refl _)]
      rfl

theorem of_any (s : ByteArray) (w : World) (hs : s.size ≤ maxLen) :
    Calls Try.prog 30 #[.string s] w fun e w' => e = .returned (.int .i64 (tgo 1 s.data.toList : Nat)) ∧ Below w.heap.size w w' := by
  go_enter Try.func30, Try.ntmps30
  go_wp2_with fail
  refine (more_any 1 s _ hs).mono ?_
  rintro e w1 ⟨rfl, b1⟩
  rw [show tcut 1 = 1 from rfl]
  go_wp2
  go_ret
  exact ⟨rfl, b1⟩
end Go.Proofs.Ytcihgnkmikhboaa
