/-
  The walk of TokenNumbers.
-/
import Derived.Test.YtiikjemmeijbhaaTaw
set_option linter.unusedVariables false
set_option linter.unusedSimpArgs false
namespace Go.Proofs.Ytiikjemmeijbhaa
open Go Go.RowKit

theorem vl_four (a b c d : UInt8) : vl [a, b, c, d] = a.toNat * 16777216 + b.toNat * 65536 + c.toNat * 256 + d.toNat := by
  simp [vl, vlF]
  omega
/-- Four bytes that are no place begin with a high bit, or are the ring itself. -/
theorem four_high (s : ByteArray) (h : s.size = 4) (hv : 2147483647 ≤ vl s.data.toList) (hb : s[0].toNat < 128) : s = ⟨#[127, 255, 255, 255]⟩ := by
  apply ba_ext
  have hl : s.data.toList.length = 4 := by rw [← Lib.size_eq, h]
  have h0 : s.data.toList[0]'(by omega) = s[0] := rfl
  match hs : s.data.toList, hl with
  | [a, b, c, d], _ =>
    have ha : a = s[0] := by rw [← h0]; simp [hs]
    rw [hs, vl_four] at hv
    have := b.toNat_lt
    have := c.toNat_lt
    have := d.toNat_lt
    rw [← ha] at hb
    have e1 : a = 127 := UInt8.toNat_inj.1 (by show a.toNat = 127; omega)
    have e2 : b = 255 := UInt8.toNat_inj.1 (by show b.toNat = 255; omega)
    have e3 : c = 255 := UInt8.toNat_inj.1 (by show c.toNat = 255; omega)
    have e4 : d = 255 := UInt8.toNat_inj.1 (by show d.toNat = 255; omega)
    rw [e1, e2, e3, e4]

set_option maxHeartbeats 800000 in
set_option maxRecDepth 100000 in
theorem numbers_no (t : Int) (T : Nat) (q s : ByteArray) (w : World) (ht2 : -9223372036854775808 ≤ t ∧ t ≤ 9223372036854775807) (hbig : s.size ≤ 10) (HSM : Hid (s.size ≤ maxLen)) (hqs : q.size = 4) (hqb : ((q.size : Int) != 4) = false)
    (HQ : Hid (q.data.toList = be T 4)) (HQM : Hid (q.size ≤ maxLen)) (HQN : Hid (tnum q.data.toList = (T, true))) (HT : Hid (tcut t = T))
    (hc : (2147483646 < t ∧ T = 2147483646) ∨ (t < 0 ∧ T = 0) ∨ (0 ≤ t ∧ t ≤ 2147483646 ∧ t = (T : Int)))
    (HX : Hid (tnum s.data.toList = (0, false))) (t5 : ((s.size : Int) != 4) = true) :
    Calls Try.prog 6 #[.int .i64 t, .string s] w fun e w' => e = .returned (.bool true) ∧ Below w.heap.size w w' := by
  rcases hc with ⟨g1, rfl⟩ | ⟨g1, rfl⟩ | ⟨g1, g2, rfl⟩
  all_goals
    go_enter Try.func6, Try.ntmps6
    go_wp2_with fail
    refine (bytes_as _ q _ (by rw [HT.out]; exact HQ.out)).mono ?_
    rintro e w1 ⟨rfl, b1⟩
    go_wp2_with fail
    refine (number_as q _ true _ HQM.out HQN.out).mono ?_
    rintro e w2 ⟨rfl, rfl⟩
    go_wp2_with fail
    refine (number_as s _ false _ HSM.out HX.out).mono ?_
    rintro e w2 ⟨rfl, rfl⟩
    go_wp2_with fail
    refine (awake_any _).mono ?_
    rintro e w3 ⟨rfl, b3⟩
    go_wp2
    go_ret
    exact ⟨rfl, b1.trans (b3.mono b1.size)⟩

set_option maxHeartbeats 800000 in
set_option maxRecDepth 100000 in
theorem numbers_high (t : Int) (T : Nat) (q s : ByteArray) (w : World) (ht2 : -9223372036854775808 ≤ t ∧ t ≤ 9223372036854775807) (hbig : s.size ≤ 10) (HSM : Hid (s.size ≤ maxLen)) (hqs : q.size = 4) (hqb : ((q.size : Int) != 4) = false)
    (HQ : Hid (q.data.toList = be T 4)) (HQM : Hid (q.size ≤ maxLen)) (HQN : Hid (tnum q.data.toList = (T, true))) (HT : Hid (tcut t = T))
    (hc : (2147483646 < t ∧ T = 2147483646) ∨ (t < 0 ∧ T = 0) ∨ (0 ≤ t ∧ t ≤ 2147483646 ∧ t = (T : Int)))
    (HX : Hid (tnum s.data.toList = (0, false))) (t5 : ((s.size : Int) != 4) = false) (h40 : 0 < s.size) (h6 : 128 ≤ s[0].toNat) :
    Calls Try.prog 6 #[.int .i64 t, .string s] w fun e w' => e = .returned (.bool true) ∧ Below w.heap.size w w' := by
  have hsb := s[0].toNat_lt
  have t6 : decide ((128 : Int) ≤ (s[0].toNat : Int)) = true := by simp; omega
  clear h6
  rcases hc with ⟨g1, rfl⟩ | ⟨g1, rfl⟩ | ⟨g1, g2, rfl⟩
  all_goals
    go_enter Try.func6, Try.ntmps6
    go_wp2_with fail
    refine (bytes_as _ q _ (by rw [HT.out]; exact HQ.out)).mono ?_
    rintro e w1 ⟨rfl, b1⟩
    go_wp2_with fail
    refine (number_as q _ true _ HQM.out HQN.out).mono ?_
    rintro e w2 ⟨rfl, rfl⟩
    go_wp2_with fail
    refine (number_as s _ false _ HSM.out HX.out).mono ?_
    rintro e w2 ⟨rfl, rfl⟩
    go_wp2_with fail
    refine (awake_any _).mono ?_
    rintro e w3 ⟨rfl, b3⟩
    go_wp2
    go_ret
    exact ⟨rfl, b1.trans (b3.mono b1.size)⟩

set_option maxHeartbeats 800000 in
set_option maxRecDepth 100000 in
theorem numbers_ring (t : Int) (T : Nat) (q s : ByteArray) (w : World) (ht2 : -9223372036854775808 ≤ t ∧ t ≤ 9223372036854775807) (hbig : s.size ≤ 10) (HSM : Hid (s.size ≤ maxLen)) (hqs : q.size = 4) (hqb : ((q.size : Int) != 4) = false)
    (HQ : Hid (q.data.toList = be T 4)) (HQM : Hid (q.size ≤ maxLen)) (HQN : Hid (tnum q.data.toList = (T, true))) (HT : Hid (tcut t = T))
    (hc : (2147483646 < t ∧ T = 2147483646) ∨ (t < 0 ∧ T = 0) ∨ (0 ≤ t ∧ t ≤ 2147483646 ∧ t = (T : Int)))
    (HX : Hid (tnum s.data.toList = (0, false))) (h40 : 0 < s.size) (t5 : ((s.size : Int) != 4) = false) (t6 : decide ((128 : Int) ≤ (s[0].toNat : Int)) = false) (t7 : s.toList = [127, 255, 255, 255]) :
    Calls Try.prog 6 #[.int .i64 t, .string s] w fun e w' => e = .returned (.bool true) ∧ Below w.heap.size w w' := by
  have hsb := s[0].toNat_lt
  rcases hc with ⟨g1, rfl⟩ | ⟨g1, rfl⟩ | ⟨g1, g2, rfl⟩
  all_goals
    go_enter Try.func6, Try.ntmps6
    go_wp2_with fail
    refine (bytes_as _ q _ (by rw [HT.out]; exact HQ.out)).mono ?_
    rintro e w1 ⟨rfl, b1⟩
    go_wp2_with fail
    refine (number_as q _ true _ HQM.out HQN.out).mono ?_
    rintro e w2 ⟨rfl, rfl⟩
    go_wp2_with fail
    refine (number_as s _ false _ HSM.out HX.out).mono ?_
    rintro e w2 ⟨rfl, rfl⟩
    go_wp2_with fail
    refine (awake_any _).mono ?_
    rintro e w3 ⟨rfl, b3⟩
    go_wp2
    go_ret
    exact ⟨rfl, b1.trans (b3.mono b1.size)⟩

set_option maxHeartbeats 800000 in
set_option maxRecDepth 100000 in
theorem numbers_back (t : Int) (T : Nat) (q s : ByteArray) (w : World) (ht2 : -9223372036854775808 ≤ t ∧ t ≤ 9223372036854775807) (hbig : s.size ≤ 10) (HSM : Hid (s.size ≤ maxLen)) (hqs : q.size = 4) (hqb : ((q.size : Int) != 4) = false)
    (HQ : Hid (q.data.toList = be T 4)) (HQM : Hid (q.size ≤ maxLen)) (HQN : Hid (tnum q.data.toList = (T, true))) (HT : Hid (tcut t = T))
    (hc : (2147483646 < t ∧ T = 2147483646) ∨ (t < 0 ∧ T = 0) ∨ (0 ≤ t ∧ t ≤ 2147483646 ∧ t = (T : Int)))
    (x : Int) (HX : Hid (tnum s.data.toList = (x.toNat, true))) (hx0 : 0 ≤ x) (hx1 : x < 2147483647) (HXV : Hid (x = (x.toNat : Nat))) (HXC : Hid (tcut x = x.toNat)) (HXS : Hid (be x.toNat 4 = s.data.toList)) :
    Calls Try.prog 6 #[.int .i64 t, .string s] w fun e w' => e = .returned (.bool true) ∧ Below w.heap.size w w' := by
  rcases hc with ⟨g1, rfl⟩ | ⟨g1, rfl⟩ | ⟨g1, g2, rfl⟩
  all_goals
    go_enter Try.func6, Try.ntmps6
    go_wp2_with fail
    refine (bytes_as _ q _ (by rw [HT.out]; exact HQ.out)).mono ?_
    rintro e w1 ⟨rfl, b1⟩
    go_wp2_with fail
    refine (number_as q _ true _ HQM.out HQN.out).mono ?_
    rintro e w2 ⟨rfl, rfl⟩
    go_wp2_with fail
    refine (number_int s x _ true _ HSM.out HX.out HXV.out).mono ?_
    rintro e w2 ⟨rfl, rfl⟩
    go_wp2_with fail
    refine (bytes_as _ s _ (by rw [HXC.out]; exact HXS.out.symm)).mono ?_
    rintro e w2 ⟨rfl, b2⟩
    go_wp2_with fail
    refine (awake_any _).mono ?_
    rintro e w3 ⟨rfl, b3⟩
    go_wp2
    go_ret
    exact ⟨rfl, b1.trans ((b2.mono b1.size).trans (b3.mono (Nat.le_trans b1.size b2.size)))⟩


theorem numbers_law (t : Int) (s : ByteArray) (w : World) (ht : (Lit.int .i64 t).wf = true) (hs : s.size ≤ maxLen) :
    Calls Try.prog 6 #[.int .i64 t, .string s] w fun e w' => e = .returned (.bool true) ∧ Below w.heap.size w w' := by
  have hs2 := hs
  unfold maxLen at hs2
  have ht2 := bounds_i64 ht
  clear ht
  by_cases hbig : 10 < s.size
  · clear hs
    go_enter Try.func6, Try.ntmps6
    go_wp2_with (go_at_call 7; refine (awake_any _).mono ?_; rintro e w' ⟨rfl, b1⟩)
    go_ret
    exact ⟨rfl, b1⟩
  obtain ⟨T, hT⟩ : ∃ T, tcut t = T := ⟨_, rfl⟩
  have hTl : T < 2147483647 := by rw [← hT]; exact tcut_lt t
  obtain ⟨q, hq⟩ : ∃ q : ByteArray, q.data.toList = be T 4 := ⟨⟨(be T 4).toArray⟩, rfl⟩
  have hqs : q.size = 4 := by rw [Lib.size_eq, hq, be_length]
  have hqm : q.size ≤ maxLen := by rw [hqs]; decide
  have hqn : tnum q.data.toList = (T, true) := by rw [hq]; exact tnum_be T hTl
  have hqb : ((q.size : Int) != 4) = false := by rw [bne_eq_false_iff_eq]; omega
  have hc : (2147483646 < t ∧ T = 2147483646) ∨ (t < 0 ∧ T = 0) ∨ (0 ≤ t ∧ t ≤ 2147483646 ∧ t = (T : Int)) := by
    rw [← hT]
    by_cases h1 : 2147483646 < t
    · exact Or.inl ⟨h1, tcut_hi t (by omega)⟩
    by_cases h2 : t < 0
    · exact Or.inr (Or.inl ⟨h2, tcut_lo t (by omega)⟩)
    · exact Or.inr (Or.inr ⟨by omega, by omega, (tcut_in t (by omega) (by omega)).symm⟩)
  have hl : s.data.toList.length = s.size := (Lib.size_eq s).symm
  by_cases h4 : s.size = 4
  · have t5 : ((s.size : Int) != 4) = false := by rw [bne_eq_false_iff_eq]; omega
    have h40 : 0 < s.size := by omega
    by_cases hv : vl s.data.toList < 2147483647
    · have hx : tnum s.data.toList = (vl s.data.toList, true) := by
        unfold tnum
        rw [if_pos ⟨by omega, hv⟩]
      have hb := be_vl s.data.toList
      rw [hl, h4] at hb
      obtain ⟨n, hn⟩ : ∃ n, vl s.data.toList = n := ⟨_, rfl⟩
      rw [hn] at hv hx hb
      exact numbers_back t T q s w ht2 (by omega) hs hqs hqb hq hqm hqn hT hc (n : Nat) (by rw [Int.toNat_natCast]; exact hx) (by omega) (by omega) rfl (by rw [Int.toNat_natCast]; exact tcut_of n hv) (by rw [Int.toNat_natCast]; exact hb)
    · have hx : tnum s.data.toList = (0, false) := by
        unfold tnum
        rw [if_neg (by omega)]
      by_cases h6 : 128 ≤ s[0].toNat
      · exact numbers_high t T q s w ht2 (by omega) hs hqs hqb hq hqm hqn hT hc hx t5 h40 h6
      · have hse := four_high s h4 (by omega) (by omega)
        exact numbers_ring t T q s w ht2 (by omega) hs hqs hqb hq hqm hqn hT hc hx h40 t5 (by simp; omega) (by rw [hse, Lib.toList_data])
  · have t5 : ((s.size : Int) != 4) = true := by rw [bne_iff_ne]; omega
    have hx : tnum s.data.toList = (0, false) := by
      unfold tnum
      rw [if_neg (by omega)]
    exact numbers_no t T q s w ht2 (by omega) hs hqs hqb hq hqm hqn hT hc hx t5
end Go.Proofs.Ytiikjemmeijbhaa
