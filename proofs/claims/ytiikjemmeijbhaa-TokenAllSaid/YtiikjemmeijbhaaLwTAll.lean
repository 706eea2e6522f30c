/-
  The walk of TokenAll.
-/
import Derived.Test.YtiikjemmeijbhaaTr
set_option linter.unusedVariables false
set_option linter.unusedSimpArgs false
namespace Go.Proofs.Ytiikjemmeijbhaa
open Go Go.RowKit

theorem rof_int (s : ByteArray) (v : Int) (w : World) (hs : s.size ≤ maxLen) (h : v = (tgo 1 s.data.toList : Nat)) :
    Calls Try.prog 11 #[.string s] w fun e w' => e = .returned (.int .i64 v) ∧ w = w' := by
  rw [h]
  exact rof_any s w hs
theorem rmore_int (t : Int) (s : ByteArray) (v : Int) (w : World) (hs : s.size ≤ maxLen) (h : v = (tgo (tcut t) s.data.toList : Nat)) :
    Calls Try.prog 13 #[.int .i64 t, .string s] w fun e w' => e = .returned (.int .i64 v) ∧ w = w' := by
  rw [h]
  exact rmore_any t s w hs
theorem rbytes_as (t : Int) (q : ByteArray) (w : World) (h : q.data.toList = be (tcut t) 4) :
    Calls Try.prog 15 #[.int .i64 t] w fun e w' => e = .returned (.string q) ∧ Below w.heap.size w w' := by
  refine (rbytes_any t w).mono ?_
  rintro e w' ⟨s, he, hs, hb⟩
  exact ⟨by rw [he, ba_ext (hs.trans h.symm)], hb⟩
theorem rnumber_int (s : ByteArray) (v : Int) (n : Nat) (b : Bool) (w : World) (hs : s.size ≤ maxLen) (h : tnum s.data.toList = (n, b)) (hv : v = (n : Nat)) :
    Calls Try.prog 9 #[.string s] w fun e w' => e = .returned (.tuple #[.int .i64 v, .bool b]) ∧ Below w.heap.size w w' := by
  have := rnumber_any s w hs
  rw [h] at this
  rw [hv]
  exact this

set_option maxHeartbeats 4000000 in
set_option maxRecDepth 100000 in
theorem tall_law (s : ByteArray) (t : Int) (w : World) (hs : s.size ≤ maxLen) (ht : (Lit.int .i64 t).wf = true) :
    Calls Try.prog 3 #[.string s, .int .i64 t] w fun e w' => e = .returned (.bool true) ∧ Below w.heap.size w w' := by
  have HSM := Lib.hid hs
  unfold maxLen at hs
  have ht2 := bounds_i64 ht
  clear ht
  by_cases hbig : 2000 < s.size
  · go_enter Try.func3, Try.ntmps3
    go_wp2_with (go_at_call 7; refine (awake_any _).mono ?_; rintro e w' ⟨rfl, b1⟩)
    go_ret
    exact ⟨rfl, b1⟩
  have hs2 : s.size ≤ 2000 := by omega
  clear hs hbig
  have hbd : decide ((2000 : Int) < s.size) = false := by simp; omega
  obtain ⟨T, hT⟩ : ∃ T : Int, T = (tgo 1 s.data.toList : Nat) := ⟨_, rfl⟩
  obtain ⟨U, hU⟩ : ∃ U : Int, U = (tgo (tcut t) s.data.toList : Nat) := ⟨_, rfl⟩
  obtain ⟨q, hq⟩ : ∃ q : ByteArray, q.data.toList = be (tcut t) 4 := ⟨⟨(be (tcut t) 4).toArray⟩, rfl⟩
  obtain ⟨n, b, hnb⟩ : ∃ n b, tnum s.data.toList = (n, b) := ⟨_, _, rfl⟩
  obtain ⟨v, hv⟩ : ∃ v : Int, v = (n : Nat) := ⟨_, rfl⟩
  have t1 : (T == T) = true := by simp
  have t2 : (U == U) = true := by simp
  have t3 : (q.toList == q.toList) = true := by simp
  have t4 : (v == v) = true := by simp
  have HT := Lib.hid hT
  have HU := Lib.hid hU
  have HQ := Lib.hid hq
  have HN := Lib.hid hnb
  have HV := Lib.hid hv
  clear hT hU hq hnb hv
  cases b
  all_goals
    go_enter Try.func3, Try.ntmps3
    go_wp2_with fail
    refine (number_int s v n _ _ HSM.out HN.out HV.out).mono ?_
    rintro e w1 ⟨rfl, rfl⟩
    go_wp2_with fail
    refine (rnumber_int s v n _ _ HSM.out HN.out HV.out).mono ?_
    rintro e w1 ⟨rfl, b1⟩
    go_wp2_with fail
    refine (of_int s T _ HSM.out HT.out).mono ?_
    rintro e w2 ⟨rfl, b2⟩
    have c2 := b1.trans (b2.mono b1.size)
    go_wp2_with fail
    refine (rof_int s T _ HSM.out HT.out).mono ?_
    rintro e w3 ⟨rfl, rfl⟩
    go_wp2_with fail
    refine (more_int t s U _ HSM.out HU.out).mono ?_
    rintro e w3 ⟨rfl, b3⟩
    have c3 := c2.trans (b3.mono c2.size)
    go_wp2_with fail
    refine (rmore_int t s U _ HSM.out HU.out).mono ?_
    rintro e w4 ⟨rfl, rfl⟩
    go_wp2_with fail
    refine (bytes_as t q _ HQ.out).mono ?_
    rintro e w4 ⟨rfl, b4⟩
    have c4 := c3.trans (b4.mono c3.size)
    go_wp2_with fail
    refine (rbytes_as t q _ HQ.out).mono ?_
    rintro e w5 ⟨rfl, b5⟩
    have c5 := c4.trans (b5.mono c4.size)
    go_wp2_with fail
    refine (awake_any _).mono ?_
    rintro e w6 ⟨rfl, b6⟩
    have c6 := c5.trans (b6.mono c5.size)
    go_wp2
    go_ret
    exact ⟨rfl, c6⟩
end Go.Proofs.Ytiikjemmeijbhaa
