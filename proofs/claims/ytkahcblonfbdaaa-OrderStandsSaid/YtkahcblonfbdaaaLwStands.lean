/-
  The walk of OrderStands.
-/
import Derived.Test.YtkahcblonfbdaaaLwLists
set_option linter.unusedVariables false
namespace Go.Proofs.Ytkahcblonfbdaaa
open Go Go.RowKit

set_option maxHeartbeats 4000000 in
set_option maxRecDepth 100000 in
theorem stands_big (v u m n : Int) (s t more other : ByteArray) (w : World) (ha : s.size ≤ 9223372036854775807) (hb : t.size ≤ 9223372036854775807) (hc : more.size ≤ 9223372036854775807) (hd : other.size ≤ 9223372036854775807) (h : 200 < s.size ∨ 200 < t.size ∨ 50 < more.size ∨ 50 < other.size) :
    Calls Try.prog 5 #[.int .u64 v, .int .u64 u, .string s, .string t, .int .i64 m, .int .i64 n, .string more, .string other] w fun e w' => e = .returned (.bool true) ∧ Below w.heap.size w w' := by
  by_cases h1 : (200 : Int) < s.size
  · go_enter Try.func5, Try.ntmps5
    go_wp2_with (go_at_call 8; refine (awake_any _).mono ?_; rintro e w' ⟨rfl, b1⟩)
    go_ret
    exact ⟨rfl, b1⟩
  by_cases h2 : (200 : Int) < t.size
  · go_enter Try.func5, Try.ntmps5
    go_wp2_with (go_at_call 8; refine (awake_any _).mono ?_; rintro e w' ⟨rfl, b1⟩)
    go_ret
    exact ⟨rfl, b1⟩
  by_cases h3 : (50 : Int) < more.size
  · go_enter Try.func5, Try.ntmps5
    go_wp2_with (go_at_call 8; refine (awake_any _).mono ?_; rintro e w' ⟨rfl, b1⟩)
    go_ret
    exact ⟨rfl, b1⟩
  have h4 : (50 : Int) < other.size := by omega
  go_enter Try.func5, Try.ntmps5
  go_wp2_with (go_at_call 8; refine (awake_any _).mono ?_; rintro e w' ⟨rfl, b1⟩)
  go_ret
  exact ⟨rfl, b1⟩

theorem lt_int (m n : Int) (h1 : -9223372036854775808 ≤ m) (h2 : m ≤ 9223372036854775807) (h3 : -9223372036854775808 ≤ n) (h4 : n ≤ 9223372036854775807) : intL m < intL n ↔ m < n := by
  unfold intL
  have e : (256 : Nat) ^ 8 = 18446744073709551616 := rfl
  rw [lt_be0 _ _ 8 (by omega) (by omega)]
  omega

set_option maxHeartbeats 8000000 in
set_option maxRecDepth 100000 in
theorem stands_law (v u : Int) (s t : ByteArray) (m n : Int) (more other : ByteArray) (w : World) (hv : (Lit.int .u64 v).wf = true) (hu : (Lit.int .u64 u).wf = true) (ha : s.size ≤ maxLen) (hb : t.size ≤ maxLen)
    (hm : (Lit.int .i64 m).wf = true) (hn : (Lit.int .i64 n).wf = true) (hc : more.size ≤ maxLen) (hd : other.size ≤ maxLen) :
    Calls Try.prog 5 #[.int .u64 v, .int .u64 u, .string s, .string t, .int .i64 m, .int .i64 n, .string more, .string other] w fun e w' => e = .returned (.bool true) ∧ Below w.heap.size w w' := by
  unfold maxLen at ha hb hc hd
  by_cases hbig : 200 < s.size ∨ 200 < t.size ∨ 50 < more.size ∨ 50 < other.size
  · exact stands_big v u m n s t more other w ha hb hc hd hbig
  have d1 : decide ((200 : Int) < s.size) = false := by simp; omega
  have d2 : decide ((200 : Int) < t.size) = false := by simp; omega
  have d3 : decide ((50 : Int) < more.size) = false := by simp; omega
  have d4 : decide ((50 : Int) < other.size) = false := by simp; omega
  have sa : s.size ≤ 200 := by omega
  have sb : t.size ≤ 200 := by omega
  have sc : more.size ≤ 50 := by omega
  have sd : other.size ≤ 50 := by omega
  clear hbig ha hb hc hd
  have hv2 := bounds_u64 hv
  have hu2 := bounds_u64 hu
  obtain ⟨hm1, hm2⟩ := bounds_i64 hm
  obtain ⟨hn1, hn2⟩ := bounds_i64 hn
  clear hv hu hm hn
  obtain ⟨vn, rfl⟩ : ∃ vn : Nat, v = vn := ⟨v.toNat, by omega⟩
  obtain ⟨un, rfl⟩ : ∃ un : Nat, u = un := ⟨u.toNat, by omega⟩
  have hvn : vn < 18446744073709551616 := by omega
  have hun : un < 18446744073709551616 := by omega
  clear hv2 hu2
  obtain ⟨a, hx⟩ : ∃ x : ByteArray, x.data.toList = [] ++ numL vn := ⟨⟨_⟩, rfl⟩
  obtain ⟨b, hy⟩ : ∃ x : ByteArray, x.data.toList = [] ++ numL un := ⟨⟨_⟩, rfl⟩
  obtain ⟨c, hz⟩ : ∃ x : ByteArray, x.data.toList = [] ++ txtL s.data.toList := ⟨⟨_⟩, rfl⟩
  obtain ⟨d, ht⟩ : ∃ x : ByteArray, x.data.toList = [] ++ txtL t.data.toList := ⟨⟨_⟩, rfl⟩
  have HA := Lib.hid hx
  have HB := Lib.hid hy
  have HC := Lib.hid hz
  have HD := Lib.hid ht
  clear hx hy hz ht
  go_enter Try.func5, Try.ntmps5
  go_upto_region 3 with fail
  go_cut [17, 18] (fun s9 s10 wx => s9 = .string a ∧ s10 = .string b ∧ Below w.heap.size w wx)
  case first =>
    go_region_with (first
      | (go_at_call_of 9 (Value.int IntKind.u64 ((vn : Nat) : Int))
         refine (num_any none 0 0 vn 0 [] _ (Rd.nil _ _) (Nat.zero_le _) (Nat.le_refl _) (by simp [maxLen]) (by omega) hvn).mono ?_
         rintro e w1 ⟨A1, n1, c1, rfl, hl1, hn1, hc1, hA1, hr1, b1⟩
         have HL1 := Lib.hid hl1
         clear hl1
         have k1 := cv_as hr1 c1 a HA.out)
      | (go_at_call_of 9 (Value.int IntKind.u64 ((un : Nat) : Int))
         refine (num_any none 0 0 un 0 [] _ (Rd.nil _ _) (Nat.zero_le _) (Nat.le_refl _) (by simp [maxLen]) (by omega) hun).mono ?_
         rintro e w2 ⟨A2, n2, c2, rfl, hl2, hn2, hc2, hA2, hr2, b2⟩
         have HL2 := Lib.hid hl2
         clear hl2
         have k2 := cv_as (hr1.below b2) c1 a HA.out
         have k3 := cv_as hr2 c2 b HB.out))
    all_goals
      go_wp2_with fail
      go_meet
      exact ⟨rfl, rfl, ((Below.refl w.heap.size w).drew).trans (b1.trans (b2.mono b1.size))⟩
  case rest =>
    obtain ⟨rfl, rfl, hb0⟩ := hcut
    obtain ⟨wa, hwa⟩ : ∃ wa, wc = wa := ⟨_, rfl⟩
    subst hwa
    go_upto_region 4 with fail
    go_cut [19, 20] (fun s9 s10 wx => s9 = .string c ∧ s10 = .string d ∧ Below w.heap.size w wx)
    case first =>
      go_region_with (first
        | (go_at_call_of 11 (Value.string s)
           refine (text_any none 0 0 0 [] s _ (Rd.nil _ _) (Nat.zero_le _) (Nat.le_refl _) (by simp [maxLen]) (by omega) (by omega)).mono ?_
           rintro e w1 ⟨A1, n1, c1, rfl, hl1, hn1, hc1, hA1, hr1, b1⟩
           have HL1 := Lib.hid hl1
           clear hl1
           have k1 := cv_as hr1 c1 c HC.out)
        | (go_at_call_of 11 (Value.string t)
           refine (text_any none 0 0 0 [] t _ (Rd.nil _ _) (Nat.zero_le _) (Nat.le_refl _) (by simp [maxLen]) (by omega) (by omega)).mono ?_
           rintro e w2 ⟨A2, n2, c2, rfl, hl2, hn2, hc2, hA2, hr2, b2⟩
           have HL2 := Lib.hid hl2
           clear hl2
           have k2 := cv_as (hr1.below b2) c1 c HC.out
           have k3 := cv_as hr2 c2 d HD.out))
      all_goals
        go_wp2_with fail
        go_meet
        exact ⟨rfl, rfl, (hb0.drew).trans ((b1.trans (b2.mono b1.size)).mono hb0.size)⟩
    case rest =>
      obtain ⟨rfl, rfl, hb1⟩ := hcut
      clear hb0
      have hx := HA.out
      have hy := HB.out
      have hz := HC.out
      have ht := HD.out
      rw [List.nil_append] at hx hy hz ht
      have f1 : Op.bytesLess a.toList b.toList = decide ((vn : Int) < un) := blB_eq (by rw [hx, hy, lt_num0 _ _ hvn hun, decide_eq_true_eq]; omega)
      have f2 : (a.toList == b.toList) = ((vn : Int) == un) := by
        rw [Bool.eq_iff_iff, eqB_iff, beq_iff_eq]
        constructor
        · intro h
          rw [h, hy] at hx
          have := (num_eq un vn hun hvn).1 hx
          omega
        · intro h
          exact ba_ext (by rw [hx, hy, show vn = un from by omega])
      have f3 : Op.bytesLess c.toList d.toList = Op.bytesLess s.toList t.toList := blB_eq (by rw [hz, ht, lt_txt0, blB_iff])
      have f4 : (c.toList == d.toList) = (s.toList == t.toList) := by
        rw [Bool.eq_iff_iff, eqB_iff, eqB_iff]
        constructor
        · intro h
          rw [h, ht] at hz
          exact (ba_ext ((txt_eq _ _).1 hz)).symm
        · intro h
          exact ba_ext (by rw [hz, ht, h])
      have la : a.size ≤ 9 := by rw [Lib.size_eq, hx, numL_length]; have := (nb_facts vn hvn).1; omega
      have lb : b.size ≤ 9 := by rw [Lib.size_eq, hy, numL_length]; have := (nb_facts un hun).1; omega
      have lc : c.size ≤ 500 := by
        rw [Lib.size_eq, hz, txtL_length]
        have h1 := nulls_le s.data.toList
        rw [← Lib.size_eq] at h1 ⊢
        omega
      have ld : d.size ≤ 500 := by
        rw [Lib.size_eq, ht, txtL_length]
        have h1 := nulls_le t.data.toList
        rw [← Lib.size_eq] at h1 ⊢
        omega
      obtain ⟨am, ham⟩ : ∃ x : ByteArray, a ++ more = x := ⟨_, rfl⟩
      obtain ⟨bo, hbo⟩ : ∃ x : ByteArray, b ++ other = x := ⟨_, rfl⟩
      obtain ⟨cm, hcm⟩ : ∃ x : ByteArray, c ++ more = x := ⟨_, rfl⟩
      obtain ⟨dx, hdx⟩ : ∃ x : ByteArray, d ++ other = x := ⟨_, rfl⟩
      have add1 : ∀ wx : World, (Op.stringOp .add a more).run Try.prog wx = .ok (.string am) wx := by
        intro wx; rw [run_string_add_sum wx a more (by omega), ham]
      have add2 : ∀ wx : World, (Op.stringOp .add b other).run Try.prog wx = .ok (.string bo) wx := by
        intro wx; rw [run_string_add_sum wx b other (by omega), hbo]
      have add3 : ∀ wx : World, (Op.stringOp .add c more).run Try.prog wx = .ok (.string cm) wx := by
        intro wx; rw [run_string_add_sum wx c more (by omega), hcm]
      have add4 : ∀ wx : World, (Op.stringOp .add d other).run Try.prog wx = .ok (.string dx) wx := by
        intro wx; rw [run_string_add_sum wx d other (by omega), hdx]
      have f6 : vn ≠ un → Op.bytesLess am.toList bo.toList = decide ((vn : Int) < un) := by
        intro h
        refine blB_eq ?_
        rw [← ham, ← hbo]
        simp only [ByteArray.data_append, Array.toList_append]
        rw [hx, hy, lt_num _ _ _ _ hvn hun, decide_eq_true_eq]
        omega
      have f7 : s ≠ t → Op.bytesLess cm.toList dx.toList = Op.bytesLess s.toList t.toList := by
        intro h
        refine blB_eq ?_
        rw [← hcm, ← hdx]
        simp only [ByteArray.data_append, Array.toList_append]
        rw [hz, ht, lt_txt, blB_iff]
        constructor
        · rintro (⟨h1, _⟩ | h1)
          · exact absurd (ba_ext h1) h
          · exact h1
        · exact Or.inr
      have lti := lt_int m n hm1 hm2 hn1 hn2
      have LTI := Lib.hid lti
      clear hx hy hz ht ham hbo hcm hdx lti
      by_cases hvu : vn = un
      all_goals first
        | have e1 : ((vn : Int) == un) = true := by (rw [hvu]; simp)
        | (have e1 : ((vn : Int) == un) = false := by (simp; omega)
           have g6 := f6 hvu)
      all_goals
        clear f6
        have HVU := Lib.hid hvu
        clear hvu
        by_cases hst : s = t
      all_goals first
        | have e2 : (s.toList == t.toList) = true := eqB_true hst
        | (have e2 : (s.toList == t.toList) = false := eqB_false hst
           have g7 := f7 hst)
      all_goals
        clear f7
        have HST := Lib.hid hst
        clear hst
        go_wp2_with fail
        refine (int_any m _ hm1 hm2).mono ?_
        rintro e w3 ⟨p, rfl, hp, b3⟩
        go_wp2_with fail
        refine (int_any n _ hn1 hn2).mono ?_
        rintro e w4 ⟨q, rfl, hq, b4⟩
        have f5 : Op.bytesLess p.toList q.toList = decide (m < n) := blB_eq (by rw [hp, hq, LTI.out, decide_eq_true_eq])
        clear hp hq
        go_wp2_with fail
        refine (awake_any _).mono ?_
        rintro e w5 ⟨rfl, b5⟩
        go_wp2
        go_ret
        exact ⟨rfl, hb1.trans (((b3.trans ((b4.trans (b5.mono b4.size)).mono b3.size)).mono hb1.size))⟩
end Go.Proofs.Ytkahcblonfbdaaa
