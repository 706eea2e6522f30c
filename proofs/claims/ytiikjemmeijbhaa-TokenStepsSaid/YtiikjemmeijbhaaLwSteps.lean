/-
  The walk of TokenSteps.
-/
import Derived.Test.YtiikjemmeijbhaaTaw
set_option linter.unusedVariables false
set_option linter.unusedSimpArgs false
namespace Go.Proofs.Ytiikjemmeijbhaa
open Go Go.RowKit

theorem tstep_int (T : Nat) (c : UInt8) : ((tstep T c : Nat) : Int) = (257 * (T : Int) + (c.toNat : Int) + 1) % 2147483647 := by
  unfold tstep
  omega

set_option maxHeartbeats 4000000 in
set_option maxRecDepth 100000 in
theorem steps_law (s : ByteArray) (c z : Int) (w : World) (hs : s.size ≤ maxLen) (hc : (Lit.int .u8 c).wf = true) (hz : (Lit.int .i64 z).wf = true) :
    Calls Try.prog 5 #[.string s, .int .u8 c, .int .i64 z] w fun e w' => e = .returned (.bool true) ∧ Below w.heap.size w w' := by
  have hsm := Lib.hid hs
  unfold maxLen at hs
  have hc2 := bounds_u8 hc
  have hz2 := bounds_i64 hz
  clear hc hz
  obtain ⟨cb, rfl⟩ : ∃ cb : UInt8, c = (cb.toNat : Nat) := ⟨UInt8.ofNat c.toNat, by rw [UInt8.toNat_ofNat']; omega⟩
  by_cases hbig : 500 < s.size
  · go_enter Try.func5, Try.ntmps5
    go_wp2_with (go_at_call 7; refine (awake_any _).mono ?_; rintro e w' ⟨rfl, b1⟩)
    go_ret
    exact ⟨rfl, b1⟩
  have hs500 : s.size ≤ 500 := by omega
  clear hs hbig
  obtain ⟨T, hT⟩ : ∃ T : Int, T = (tgo 1 s.data.toList : Nat) := ⟨_, rfl⟩
  have hT0 : 0 ≤ T := by omega
  have hT1 : T < 2147483647 := by
    have := tgo_lt s.data.toList 1 (by omega)
    omega
  obtain ⟨p, hp⟩ : ∃ p : ByteArray, s ++ ⟨#[cb]⟩ = p := ⟨_, rfl⟩
  have hps : p.size ≤ maxLen := by
    rw [← hp, ByteArray.size_append, show (⟨#[cb]⟩ : ByteArray).size = 1 from rfl]
    unfold maxLen
    omega
  have hpl : p.data.toList = s.data.toList ++ [cb] := by rw [← hp]; simp
  obtain ⟨V, hV⟩ : ∃ V : Int, V = (257 * T + (cb.toNat : Int) + 1) % 2147483647 := ⟨_, rfl⟩
  have hVp : V = (tgo 1 p.data.toList : Nat) := by rw [hpl, tgo_snoc, tstep_int, hV, hT]
  have hne : (V != (257 * T + (cb.toNat : Int) + 1) % 2147483647) = false := by rw [bne_eq_false_iff_eq]; exact hV
  have hadd : ∀ wx : World, (Op.stringOp .add s ⟨#[cb]⟩).run Try.prog wx = .ok (.string p) wx := by
    intro wx; rw [run_string_add_sum wx _ _ (by rw [show (⟨#[cb]⟩ : ByteArray).size = 1 from rfl]; omega), hp]
  have hcv : ∀ wx : World, (convert 30 9 (.slice (some ⟨wx.heap.size, 0, none⟩) 1 1)).run Try.prog (wx.alloc (.cells #[.int .u8 (cb.toNat : Nat)] 5)) = .ok (.string ⟨#[cb]⟩) (wx.alloc (.cells #[.int .u8 (cb.toNat : Nat)] 5)) :=
    fun wx => cv_as (Rd.one wx _ cb rfl) 1 ⟨#[cb]⟩ rfl
  have HT := Lib.hid hT
  have HPS := Lib.hid hps
  have HVP := Lib.hid hVp
  clear hT hp hps hpl hV hVp
  go_enter Try.func5, Try.ntmps5
  go_wp2_with fail
  refine (of_int s T _ hsm.out HT.out).mono ?_
  rintro e w1 ⟨rfl, b1⟩
  go_wp2_with fail
  refine (of_int p V _ HPS.out HVP.out).mono ?_
  rintro e w2 ⟨rfl, b2⟩
  have b2 : Below w.heap.size w w2 := (b1.alloc b1.size _).trans (b2.mono (by have := b1.size; simp; omega))
  go_wp2_with fail
  refine (place_any z 40 _ (by omega) (by omega) hz2).mono ?_
  rintro e w3 ⟨rfl, rfl⟩
  go_wp2
  have hm1 := Int.emod_nonneg z (show (40 : Int) ≠ 0 by omega)
  have hm2 := Int.emod_lt_of_pos z (show (0 : Int) < 40 by omega)
  obtain ⟨m, hm⟩ : ∃ m : Nat, z % 40 = (m : Nat) := ⟨(z % 40).toNat, by omega⟩
  rw [hm]
  have hm40 : m < 40 := by omega
  clear hm hm1 hm2 hz2
  clear hne hadd hcv
  go_loopw [7, 8] (fun t i wr => ∃ (k : Nat) (u : Int), i = .int .i64 k ∧ k < 40 ∧ t = .int .i64 u ∧ 0 ≤ u ∧ u < 2147483647 ∧ Below w.heap.size w wr) (fun _ i _ => (intOf i).toNat)
  case atStart => exact ⟨m, T, rfl, hm40, rfl, hT0, hT1, b2⟩
  case round =>
    obtain ⟨k, u, rfl, hk, rfl, hu0, hu1, hb⟩ := hrel
    by_cases h0 : 0 < k
    · obtain ⟨y, hy⟩ : ∃ y : Int, y = (257 * u + 1) % 2147483647 := ⟨_, rfl⟩
      have hy0 : 0 ≤ y := by omega
      have hy1 : y < 2147483647 := by omega
      have hym : y = (tgo (tcut u) (⟨#[0]⟩ : ByteArray).data.toList : Nat) := by
        obtain ⟨n, rfl⟩ : ∃ n : Nat, u = (n : Nat) := ⟨u.toNat, by omega⟩
        rw [tcut_of n (by omega), show tgo n (⟨#[0]⟩ : ByteArray).data.toList = tstep n 0 from rfl, tstep_int, hy]
        simp
      have hne : (y != (257 * u + 1) % 2147483647) = false := by rw [bne_eq_false_iff_eq]; exact hy
      have HYM := Lib.hid hym
      clear hy hym
      go_wp2_with fail
      refine (more_int u ⟨#[0]⟩ y _ (by decide) HYM.out).mono ?_
      rintro e w3 ⟨rfl, b3⟩
      go_wp2
      go_roundw
      case rel => exact ⟨k - 1, y, by go_num, by omega, rfl, hy0, hy1, hb.trans (b3.mono hb.size)⟩
      case measure => simp [intOf]; omega
    · obtain rfl : k = 0 := by omega
      go_wp2_with fail
      refine (more_int (-5) ⟨#[]⟩ 0 _ (by decide) rfl).mono ?_
      rintro e w3 ⟨rfl, b3⟩
      go_wp2_with fail
      refine (more_int 2147483654 ⟨#[]⟩ 2147483646 _ (by decide) rfl).mono ?_
      rintro e w4 ⟨rfl, b4⟩
      go_wp2_with fail
      refine (awake_any _).mono ?_
      rintro e w5 ⟨rfl, b5⟩
      go_wp2
      go_ret
      have c3 := hb.trans (b3.mono hb.size)
      have c4 := c3.trans (b4.mono c3.size)
      exact ⟨rfl, c4.trans (b5.mono c4.size)⟩
end Go.Proofs.Ytiikjemmeijbhaa
