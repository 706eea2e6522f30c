/-
  The walk of OrderSizes.
-/
import Derived.Test.YtkahcblonfbdaaaOaw
set_option linter.unusedVariables false
namespace Go.Proofs.Ytkahcblonfbdaaa
open Go Go.RowKit

theorem nulls_take (s : ByteArray) (k : Nat) (h : k < s.size) : nulls (s.data.toList.take (k + 1)) = nulls (s.data.toList.take k) + if (s[k].toNat : Int) = 0 then 1 else 0 := by
  have hl : s.data.toList.length = s.size := by rw [Lib.size_eq]
  unfold nulls
  rw [List.take_succ_eq_append_getElem (by omega), List.countP_append]
  congr 1
  have e : s.data.toList[k] = s[k] := rfl
  rw [List.countP_singleton, e]
  by_cases h2 : s[k] = 0
  · rw [h2]; rfl
  · have h3 : ¬ (s[k].toNat : Int) = 0 := fun h => h2 (UInt8.toNat_inj.1 (by rw [show s[k].toNat = 0 from by omega]; rfl))
    rw [if_neg h3]
    simp [h2]
theorem shr_cast (v k : Nat) : (v : Int) / 2 ^ k = ((v / 2 ^ k : Nat) : Int) := by simp
theorem pow256 (k : Nat) : (2 : Nat) ^ (8 * k) = 256 ^ k := by rw [Nat.pow_mul]

set_option maxHeartbeats 4000000 in
set_option maxRecDepth 100000 in
theorem sizes_law (v bits' : Int) (s : ByteArray) (w : World) (hv : (Lit.int .u64 v).wf = true) (hbi : (Lit.int .i64 bits').wf = true) (hs : s.size ≤ maxLen) :
    Calls Try.prog 6 #[.int .u64 v, .int .i64 bits', .string s] w fun e w' => e = .returned (.bool true) ∧ Below w.heap.size w w' := by
  unfold maxLen at hs
  have hv2 := bounds_u64 hv
  have hbi2 := bounds_i64 hbi
  clear hv hbi
  obtain ⟨vn, rfl⟩ : ∃ vn : Nat, v = vn := ⟨v.toNat, by omega⟩
  have hvn : vn < 18446744073709551616 := by omega
  clear hv2
  by_cases hbig : 500 < s.size
  · go_enter Try.func6, Try.ntmps6
    go_wp2_with (go_at_call 8; refine (awake_any _).mono ?_; rintro e w' ⟨rfl, b1⟩)
    go_ret
    exact ⟨rfl, b1⟩
  have hbd : decide ((500 : Int) < s.size) = false := by simp; omega
  obtain ⟨kk, hkk⟩ : ∃ kk : Nat, bits' % 64 = kk := ⟨(bits' % 64).toNat, by omega⟩
  have hkk2 : kk ≤ 63 := by omega
  obtain ⟨x, hx⟩ : ∃ x : Nat, vn / 2 ^ kk = x := ⟨_, rfl⟩
  have hx2 : x < 18446744073709551616 := by rw [← hx]; exact Nat.lt_of_le_of_lt (Nat.div_le_self _ _) hvn
  have hx3 : (vn : Int) / 2 ^ kk = ((x : Nat) : Int) := by rw [shr_cast, hx]
  have HX := Lib.hid hx3
  have HK := Lib.hid hkk
  clear hx hx3 hkk
  obtain ⟨g1, g2, g3⟩ := nb_facts x hx2
  have hns := numL_length x
  have hts := txtL_length s.data.toList
  obtain ⟨k, hk⟩ : ∃ k, nb x = k := ⟨_, rfl⟩
  rw [hk] at g1 g2 g3 hns
  have HNS := Lib.hid hns
  have HTS := Lib.hid hts
  have HNB := Lib.hid hk
  have G2 := Lib.hid g2
  have G3 := Lib.hid g3
  clear hns hts hk g2 g3
  go_enter Try.func6, Try.ntmps6
  go_wp2_with fail
  refine (place_any bits' 64 _ (by omega) (by omega) hbi2).mono ?_
  rintro e w1 ⟨rfl, rfl⟩
  rw [HK.out]
  go_wp2_with fail
  rw [HX.out]
  refine (num_at none 0 0 x 0 _ [] _ rfl (Rd.nil _ _) (Nat.zero_le _) (Nat.le_refl _) (by simp [maxLen]) (by omega) hx2).mono ?_
  rintro e w1 ⟨A1, n1, c1, rfl, hl1, hn1, hc1, hA1, hr1, b1⟩
  rw [List.nil_append] at hl1
  obtain rfl : n1 = k + 1 := by rw [← hl1, HNS.out]
  clear hl1 hA1
  go_wp2
  go_loop [9, 10] (fun m i => ∃ j : Nat, j ≤ s.size ∧ i = .int .i64 j ∧ m = .int .i64 (nulls (s.data.toList.take j) : Nat)) (fun _ i => s.size - (intOf i).toNat)
  case atStart => exact ⟨0, Nat.zero_le _, rfl, rfl⟩
  case round =>
    obtain ⟨j, hj, rfl, rfl⟩ := hrel
    have hcl := nulls_le (s.data.toList.take j)
    have hcl2 : (s.data.toList.take j).length ≤ j := List.length_take_le _ _
    by_cases hlt : j < s.size
    · have hst := nulls_take s j hlt
      have HS := Lib.hid hst
      clear hst
      by_cases h39 : (s[j].toNat : Int) = 0
      · have hb : ((s[j].toNat : Int) == 0) = true := by simpa using h39
        have H39 := Lib.hid h39
        clear h39
        go_wp2
        go_round
        case rel => exact ⟨j + 1, by omega, by go_num, by rw [HS.out, if_pos H39.out]; go_num⟩
        case measure => simp [intOf]; omega
      · have hb : ((s[j].toNat : Int) == 0) = false := by simpa using h39
        have H39 := Lib.hid h39
        clear h39
        go_wp2
        go_round
        case rel => exact ⟨j + 1, by omega, by go_num, by rw [HS.out, if_neg H39.out]; go_num⟩
        case measure => simp [intOf]; omega
    · obtain rfl : j = s.size := by omega
      obtain ⟨m, hm⟩ : ∃ m : Nat, nulls (List.take s.size s.data.toList) = m := ⟨_, rfl⟩
      rw [hm] at hcl ⊢
      have hm2 : nulls s.data.toList = m := by rw [← hm, List.take_of_length_le (by rw [Lib.size_eq]; exact Nat.le_refl _)]
      have hm5 : m ≤ 500 := by omega
      have HM := Lib.hid hm2
      clear hm hm2 hcl hcl2
      have hkd : decide ((8 : Int) < k) = false := by simp; omega
      go_wp2_with fail
      refine (text_any none 0 0 0 [] s _ (Rd.nil _ _) (Nat.zero_le _) (Nat.le_refl _) (by simp [maxLen]) (by omega) (by omega)).mono ?_
      rintro e w2 ⟨A2, n2, c2, rfl, hl2, hn2, hc2, hA2, hr2, b2⟩
      rw [List.nil_append, HTS.out, HM.out, ← Lib.size_eq] at hl2
      subst hl2
      clear hr1 hr2 hA2
      obtain ⟨iv, hiv⟩ : ∃ iv : Int, wrap64 (vn : Int) = iv := ⟨_, rfl⟩
      have hiv2 : -9223372036854775808 ≤ iv ∧ iv ≤ 9223372036854775807 := by rw [← hiv]; unfold wrap64; omega
      have HIV := Lib.hid hiv
      clear hiv
      obtain ⟨hiv3, hiv4⟩ := hiv2
      have hz12 : w.heap.size ≤ w2.heap.size := Nat.le_trans b1.size b2.size
      have b12 : Below w.heap.size w w2 := b1.trans (b2.mono b1.size)
      clear b1 b2
      by_cases hx0 : x = 0
      · have hk0 : k = 0 := by rw [← HNB.out, hx0, nb_zero]
        have t1 : ((k : Int) == 0) = true := by rw [hk0]; rfl
        have t2 : ((x : Int) == 0) = true := by rw [hx0]; rfl
        have t3 : decide ((k : Int) < 0) = false := by simp
        have HX0 := Lib.hid hx0
        have HK0 := Lib.hid hk0
        clear hx0 hk0
        go_wp2_with fail
        rw [HIV.out]
        refine (int_any iv _ hiv3 hiv4).mono ?_
        rintro e w3 ⟨q, rfl, hq, b3⟩
        have hq8 : q.size = 8 := by rw [Lib.size_eq, hq, intL, be_length]
        have t4 : ((q.size : Int) != 8) = false := by rw [hq8]; rfl
        clear hq hq8
        go_wp2_with fail
        refine (awake_any _).mono ?_
        rintro e w4 ⟨rfl, b4⟩
        go_wp2
        go_ret
        exact ⟨rfl, b12.trans ((b3.trans (b4.mono b3.size)).mono hz12)⟩
      · obtain ⟨hk1, hkx⟩ := G3.out hx0
        have t1 : ((k : Int) == 0) = false := by simp; omega
        have t2 : decide ((0 : Int) < k) = true := by simp; omega
        have t3 : decide ((k : Int) < 0) = false := by simp
        have t5 : decide ((0 : Int) < (x : Int) / 2 ^ (8 * (k - 1))) = true := by
          rw [shr_cast, pow256]
          have : 0 < x / 256 ^ (k - 1) := Nat.div_pos hkx (Nat.pow_pos (by omega))
          simp only [decide_eq_true_eq]
          omega
        have t7 : ((x : Int) / 2 ^ (8 * k) == 0) = true := by
          rw [shr_cast, pow256, Nat.div_eq_of_lt G2.out]
          rfl
        have HX0 := Lib.hid hx0
        clear hx0 hkx
        by_cases hk8 : k = 8
        all_goals first
          | have t6 : ((k : Int) == 8) = true := by (rw [hk8]; rfl)
          | have t6 : ((k : Int) == 8) = false := by (simp; omega)
        all_goals
          have HK8 := Lib.hid hk8
          clear hk8
          go_wp2_with fail
          rw [HIV.out]
          refine (int_any iv _ hiv3 hiv4).mono ?_
          rintro e w3 ⟨q, rfl, hq, b3⟩
          have hq8 : q.size = 8 := by rw [Lib.size_eq, hq, intL, be_length]
          have t4 : ((q.size : Int) != 8) = false := by rw [hq8]; rfl
          clear hq hq8
          go_wp2_with fail
          refine (awake_any _).mono ?_
          rintro e w4 ⟨rfl, b4⟩
          go_wp2
          go_ret
          exact ⟨rfl, b12.trans ((b3.trans (b4.mono b3.size)).mono hz12)⟩
end Go.Proofs.Ytkahcblonfbdaaa
