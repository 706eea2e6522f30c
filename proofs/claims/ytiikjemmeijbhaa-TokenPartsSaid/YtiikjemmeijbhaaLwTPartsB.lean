/-
  TokenParts: its walks put together.
-/
import Derived.Test.YtiikjemmeijbhaaLwTParts
set_option linter.unusedVariables false
set_option linter.unusedSimpArgs false
namespace Go.Proofs.Ytiikjemmeijbhaa
open Go Go.RowKit

theorem tparts_law (s : ByteArray) (cut at' y : Int) (w : World) (hs : s.size ≤ maxLen) (hcut : (Lit.int .i64 cut).wf = true) (hat : (Lit.int .i64 at').wf = true) (hy : (Lit.int .u8 y).wf = true) :
    Calls Try.prog 4 #[.string s, .int .i64 cut, .int .i64 at', .int .u8 y] w fun e w' => e = .returned (.bool true) ∧ Below w.heap.size w w' := by
  have hs2 := hs
  unfold maxLen at hs2
  have hc2 := bounds_i64 hcut
  have ha2 := bounds_i64 hat
  have hy2 := bounds_u8 hy
  clear hcut hat hy
  by_cases hbig : 1000 < s.size
  · clear hs
    go_enter Try.func4, Try.ntmps4
    go_wp2_with (go_at_call 7; refine (awake_any _).mono ?_; rintro e w' ⟨rfl, b1⟩)
    go_ret
    exact ⟨rfl, b1⟩
  have hs1000 : s.size ≤ 1000 := by omega
  have hl : s.data.toList.length = s.size := (Lib.size_eq s).symm
  -- the cut
  have hk1 := Int.emod_nonneg cut (show ((s.size : Int) + 1) ≠ 0 by omega)
  have hk2 := Int.emod_lt_of_pos cut (show (0 : Int) < (s.size : Int) + 1 by omega)
  obtain ⟨k, hk⟩ : ∃ k : Nat, cut % ((s.size : Int) + 1) = (k : Nat) := ⟨(cut % ((s.size : Int) + 1)).toNat, by omega⟩
  have hks : k ≤ s.size := by omega
  obtain ⟨qa, hqa⟩ : ∃ x : ByteArray, x.data.toList = s.data.toList.take k := ⟨⟨(s.data.toList.take k).toArray⟩, rfl⟩
  obtain ⟨qb, hqb⟩ : ∃ x : ByteArray, x.data.toList = s.data.toList.drop k := ⟨⟨(s.data.toList.drop k).toArray⟩, rfl⟩
  have hqas : qa.size ≤ 1000 := by rw [Lib.size_eq, hqa, List.length_take]; omega
  have hqbs : qb.size ≤ 1000 := by rw [Lib.size_eq, hqb, List.length_drop]; omega
  have hsl1 : ∀ wx : World, (Instr.slice 9 (.string s) none (some (.int .i64 (k : Int))) none).run Try.prog wx = .ok (.string qa) wx := by
    intro wx
    rw [run_slice_string_h (P := Try.prog) (t := 9) (ht := Try.underlying9) (kh := .i64) (h := (k : Int)) (h0 := by omega) (h2 := by omega)]
    rw [Lib.extract_eq, mk_eq _ qa (by rw [hqa]; simp)]
  have hsl2 : ∀ wx : World, (Instr.slice 9 (.string s) (some (.int .i64 (k : Int))) none none).run Try.prog wx = .ok (.string qb) wx := by
    intro wx
    rw [run_slice_string_l (P := Try.prog) (t := 9) (ht := Try.underlying9) (kl := .i64) (l := (k : Int)) (h0 := by omega) (h1 := by omega)]
    rw [Lib.extract_eq, mk_eq _ qb (by rw [hqb, Int.toNat_natCast, List.take_of_length_le (by rw [List.length_drop]; omega)])]
  -- the places
  obtain ⟨n, hn⟩ : ∃ n, tgo 1 s.data.toList = n := ⟨_, rfl⟩
  have hnl : n < 2147483647 := by rw [← hn]; exact tgo_lt _ 1 (by omega)
  obtain ⟨j, hj⟩ : ∃ j, tgo 1 qa.data.toList = j := ⟨_, rfl⟩
  have hjl : j < 2147483647 := by rw [← hj]; exact tgo_lt _ 1 (by omega)
  have hjn : tgo j qb.data.toList = n := by rw [← hj, ← tgo_append, hqa, hqb, List.take_append_drop, hn]
  obtain ⟨q, hq⟩ : ∃ q : ByteArray, q.data.toList = be n 4 := ⟨⟨(be n 4).toArray⟩, rfl⟩
  have hqm : q.size ≤ maxLen := by rw [Lib.size_eq, hq, be_length]; decide
  have hAM : qa.size ≤ maxLen := by unfold maxLen; omega
  have hBM : qb.size ≤ maxLen := by unfold maxLen; omega
  have hTB : ((n : Nat) : Int) = (tgo (tcut (j : Nat)) qb.data.toList : Nat) := by rw [tcut_of j hjl, hjn]
  have hTe : ((n : Nat) : Int) = (tgo 1 s.data.toList : Nat) := by rw [hn]
  have hJe : ((j : Nat) : Int) = (tgo 1 qa.data.toList : Nat) := by rw [hj]
  have hQ : q.data.toList = be (tcut (n : Nat)) 4 := by rw [tcut_of n hnl, hq]
  have hQN : tnum q.data.toList = (((n : Nat) : Int).toNat, true) := by rw [Int.toNat_natCast, hq]; exact tnum_be n hnl
  by_cases hz : s.size = 0
  · exact tparts_none s qa qb q cut at' y (n : Nat) (j : Nat) (k : Nat) w hs1000 hs hAM hBM hqm hc2 ha2 hk (by omega) (by omega) (by omega) (by omega) hTe hJe hTB hQ hQN rfl hsl1 hsl2 (by rw [hz]; rfl)
  have hzb : ((s.size : Int) == 0) = false := by rw [beq_eq_false_iff_ne]; omega
  by_cases hy0 : y = 0
  · exact tparts_same s qa qb q cut at' y (n : Nat) (j : Nat) (k : Nat) w hs1000 hs hAM hBM hqm hc2 ha2 hk (by omega) (by omega) (by omega) (by omega) hTe hJe hTB hQ hQN rfl hsl1 hsl2 hzb hy0
  have hm1 := Int.emod_nonneg at' (show (s.size : Int) ≠ 0 by omega)
  have hm2 := Int.emod_lt_of_pos at' (show (0 : Int) < (s.size : Int) by omega)
  obtain ⟨m, hm⟩ : ∃ m : Nat, at' % (s.size : Int) = (m : Nat) := ⟨(at' % (s.size : Int)).toNat, by omega⟩
  have hms : m < s.size := by omega
  have hml : m < s.data.toList.length := by omega
  obtain ⟨b, hb⟩ : ∃ b : UInt8, y = (b.toNat : Nat) := ⟨UInt8.ofNat y.toNat, by rw [UInt8.toNat_ofNat']; omega⟩
  have hb0 : b ≠ 0 := by
    intro h
    rw [h] at hb
    exact hy0 hb
  have hyb : (((b.toNat : Nat) : Int) == 0) = false := by rw [beq_eq_false_iff_ne]; omega
  obtain ⟨p, hp⟩ : ∃ x : ByteArray, x.data.toList = s.data.toList.set m (s.data.toList[m] ^^^ b) := ⟨⟨(s.data.toList.set m (s.data.toList[m] ^^^ b)).toArray⟩, rfl⟩
  have hpm : p.size ≤ maxLen := by rw [Lib.size_eq, hp, List.length_set]; unfold maxLen; omega
  have hne : tgo 1 p.data.toList ≠ n := by
    rw [hp, ← hn]
    exact tgo_set 1 _ m hml _ (xor_other _ b hb0)
  exact tparts_turned s qa qb q cut at' y (n : Nat) (j : Nat) (k : Nat) w hs1000 hs hAM hBM hqm hc2 ha2 hk (by omega) (by omega) (by omega) (by omega) hTe hJe hTB hQ hQN rfl hsl1 hsl2
    p m (tgo 1 p.data.toList : Nat) b s.data.toList[m] (s.data.toList[m] ^^^ b) hzb (by omega) hb hyb hm hms hl rfl (bits_xor_u8_nat _ b) hp hpm rfl (by rw [bne_iff_ne]; omega)
end Go.Proofs.Ytiikjemmeijbhaa
