/-
  The walk of OrderBack.
-/
import Derived.Test.YtkahcblonfbdaaaLwLists
set_option linter.unusedVariables false
namespace Go.Proofs.Ytkahcblonfbdaaa
open Go Go.RowKit

theorem vl_be_lt (v n : Nat) (h : v < 256 ^ n) : vl (be v n) = v := by rw [vl_be, Nat.mod_eq_of_lt h]
theorem be_head (v n : Nat) (h1 : 256 ^ n ≤ v) (h2 : v < 256 ^ (n + 1)) : (be v (n + 1)).head? ≠ some 0 := by
  rw [be, List.head?_cons]
  intro e
  have e2 := congrArg UInt8.toNat (Option.some.inj e)
  rw [UInt8.toNat_ofNat', show (0 : UInt8).toNat = 0 from rfl] at e2
  have hp : 0 < 256 ^ n := Nat.pow_pos (by omega)
  have h3 : 0 < v / 256 ^ n := Nat.div_pos h1 hp
  have h4 : v / 256 ^ n < 256 := by
    rw [Nat.div_lt_iff_lt_mul hp, Nat.mul_comm, ← Nat.pow_succ]
    exact h2
  omega
theorem gnum_back (hd t : List UInt8) (x : Nat) (hx : x < 18446744073709551616) : gnum (hd ++ numL x ++ t) (hd.length : Nat) = (x, (((hd ++ numL x).length : Nat) : Int), 0) := by
  obtain ⟨a1, a2, a3⟩ := nb_facts x hx
  unfold gnum
  rw [if_neg (by rw [List.length_append, List.length_append]; omega), Int.toNat_natCast, List.append_assoc, List.drop_left, numL, List.cons_append]
  dsimp only
  have e : (UInt8.ofNat (nb x)).toNat = nb x := by rw [UInt8.toNat_ofNat']; omega
  rw [e, if_neg, if_neg, List.take_left' (be_length _ _), vl_be_lt x _ a2]
  · simp [be_length]
    omega
  · rw [List.length_append, be_length]; omega
  · rintro (h | ⟨h, h2⟩)
    · omega
    · obtain ⟨k, hk⟩ : ∃ k, nb x = k + 1 := ⟨nb x - 1, by omega⟩
      have hx0 : x ≠ 0 := by rintro rfl; rw [nb_zero] at h; omega
      obtain ⟨_, a5⟩ := a3 hx0
      rw [hk] at a2 a5 h2
      rw [Nat.add_sub_cancel] at a5
      refine be_head x k a5 a2 ?_
      rw [be, List.cons_append, List.head?_cons] at h2
      rw [be, List.head?_cons]
      exact h2
theorem gnum_cut (hd : List UInt8) (x k : Nat) (hx : x < 18446744073709551616) (hk : k < (numL x).length) : gnum ((hd ++ numL x).take (hd.length + k)) (hd.length : Nat) = (0, 0, 8) := by
  obtain ⟨a1, a2, a3⟩ := nb_facts x hx
  rw [List.take_length_add_append]
  rw [numL_length] at hk
  unfold gnum
  rw [if_neg (by rw [List.length_append]; omega), Int.toNat_natCast, List.drop_left, numL]
  cases k with
  | zero => rfl
  | succ k =>
    rw [List.take_succ_cons]
    dsimp only
    have e : (UInt8.ofNat (nb x)).toNat = nb x := by rw [UInt8.toNat_ofNat']; omega
    rw [e, if_neg, if_pos]
    · rw [List.length_take, be_length]; omega
    · rintro (h | ⟨h, h2⟩)
      · omega
      · obtain ⟨j, hj⟩ : ∃ k, nb x = k + 1 := ⟨nb x - 1, by omega⟩
        have hx0 : x ≠ 0 := by rintro rfl; rw [nb_zero] at h; omega
        obtain ⟨_, a5⟩ := a3 hx0
        rw [hj] at a2 a5 h2
        rw [Nat.add_sub_cancel] at a5
        refine be_head x j a5 a2 ?_
        cases k with
        | zero => rw [List.take_zero] at h2; cases h2
        | succ k =>
          rw [be, List.take_succ_cons, List.head?_cons] at h2
          rw [be, List.head?_cons]
          exact h2
theorem gtxt_back (hd s t : List UInt8) : gtxt (hd ++ txtL s ++ t) (hd.length : Nat) = (s, (((hd ++ txtL s).length : Nat) : Int), 0) := by
  rw [gtxt_ok _ _ (s, (txtL s).length) (by rw [List.length_append, List.length_append]; omega) (by rw [List.append_assoc, List.drop_left]; exact unesc_txt s t)]
  simp
theorem gtxt_cut (hd s : List UInt8) (k : Nat) (hk : k < (txtL s).length) : gtxt ((hd ++ txtL s).take (hd.length + k)) (hd.length : Nat) = ([], 0, 8) := by
  rw [List.take_length_add_append]
  exact gtxt_err _ _ 8 (by rw [List.length_append]; omega) (by rw [List.drop_left]; exact unesc_cut s k hk)
theorem int_back (v : Int) (h1 : -9223372036854775808 ≤ v) (h2 : v ≤ 9223372036854775807) : ((vl (intL v) : Nat) : Int) - 9223372036854775808 = v := by
  rw [intL, vl_be_lt _ 8 (by rw [show (256 : Nat) ^ 8 = 18446744073709551616 from rfl]; omega)]
  omega
set_option maxHeartbeats 8000000 in
set_option maxRecDepth 100000 in
theorem back_law (A0 : Option Addr) (n0 c0 : Nat) (l0 : List UInt8) (v bs : Int) (s : ByteArray) (at' : Int) (w : World) (hr0 : Rd w w.heap.size A0 n0 l0) (hn0 : n0 ≤ c0) (hc0 : c0 ≤ maxLen) (he0 : A0 = none → c0 = 0)
    (hv : (Lit.int .u64 v).wf = true) (hbs : (Lit.int .i64 bs).wf = true) (hs : s.size ≤ maxLen) (hat : (Lit.int .i64 at').wf = true) :
    Calls Try.prog 4 #[.slice A0 n0 c0, .int .u64 v, .int .i64 bs, .string s, .int .i64 at'] w fun e w' => e = .returned (.bool true) ∧ Below w.heap.size w w' := by
  unfold maxLen at hs
  have hc0' := hc0
  unfold maxLen at hc0'
  have hv2 := bounds_u64 hv
  have hbs2 := bounds_i64 hbs
  have hat2 := bounds_i64 hat
  clear hv hbs hat
  obtain ⟨vn, rfl⟩ : ∃ vn : Nat, v = vn := ⟨v.toNat, by omega⟩
  have hvn : vn < 18446744073709551616 := by omega
  clear hv2
  by_cases hbig : 100 < n0 ∨ 300 < s.size
  · by_cases h1 : (100 : Int) < n0
    · go_enter Try.func4, Try.ntmps4
      go_wp2_with (go_at_call 8; refine (awake_any _).mono ?_; rintro e w' ⟨rfl, b1⟩)
      go_ret
      exact ⟨rfl, b1⟩
    · have h2 : (300 : Int) < s.size := by omega
      go_enter Try.func4, Try.ntmps4
      go_wp2_with (go_at_call 8; refine (awake_any _).mono ?_; rintro e w' ⟨rfl, b1⟩)
      go_ret
      exact ⟨rfl, b1⟩
  have d1 : decide ((100 : Int) < n0) = false := by simp; omega
  have d2 : decide ((300 : Int) < s.size) = false := by simp; omega
  have sn : n0 ≤ 100 := by omega
  have ss : s.size ≤ 300 := by omega
  clear hbig hs
  obtain ⟨kk, hkk⟩ : ∃ kk : Nat, bs % 64 = kk := ⟨(bs % 64).toNat, by omega⟩
  have hkk2 : kk ≤ 63 := by omega
  obtain ⟨x, hx⟩ : ∃ x : Nat, vn / 2 ^ kk = x := ⟨_, rfl⟩
  have hx2 : x < 18446744073709551616 := by rw [← hx]; exact Nat.lt_of_le_of_lt (Nat.div_le_self _ _) hvn
  have hx3 : (vn : Int) / 2 ^ kk = ((x : Nat) : Int) := by
    rw [← hx]; simp
  have hl0 := hr0.1
  obtain ⟨iv, hiv⟩ : ∃ iv : Int, wrap64 (vn : Int) = iv := ⟨_, rfl⟩
  have hiv2 : -9223372036854775808 ≤ iv ∧ iv ≤ 9223372036854775807 := by rw [← hiv]; unfold wrap64; omega
  have hiv5 := int_back iv hiv2.1 hiv2.2
  obtain ⟨j, hj⟩ : ∃ j, (numL x).length = j := ⟨_, rfl⟩
  have hj1 : 1 ≤ j ∧ j ≤ 9 := by
    have := (nb_facts x hx2).1
    rw [numL_length] at hj
    omega
  obtain ⟨i, hi⟩ : ∃ i, (txtL s.data.toList).length = i := ⟨_, rfl⟩
  have hi1 : 2 ≤ i ∧ i ≤ 700 := by
    rw [txtL_length] at hi
    have h1 := nulls_le s.data.toList
    rw [← Lib.size_eq] at h1 hi
    omega
  have g1 := gnum_back l0 [7] x hx2
  have g2 : ∀ k, k < j → gnum ((l0 ++ numL x).take (n0 + k)) (n0 : Nat) = (0, 0, 8) := fun k h => by
    rw [← hl0]; exact gnum_cut l0 x k hx2 (by rw [hj]; exact h)
  have g3 := gtxt_back l0 s.data.toList [7]
  have g4 : ∀ k, k < i → gtxt ((l0 ++ txtL s.data.toList).take (n0 + k)) (n0 : Nat) = ([], 0, 8) := fun k h => by
    rw [← hl0]; exact gtxt_cut l0 s.data.toList k (by rw [hi]; exact h)
  rw [List.length_append, hl0, hj] at g1
  rw [List.length_append, hl0, hi] at g3
  obtain ⟨k1, hk1⟩ : ∃ k : Nat, at' % ((n0 : Int) + j - n0) = k := ⟨(at' % ((n0 : Int) + j - n0)).toNat, (Int.toNat_of_nonneg (Int.emod_nonneg _ (by omega))).symm⟩
  have hk1j : k1 < j := by have := Int.emod_lt_of_pos at' (show (0 : Int) < (n0 : Int) + j - n0 by omega); omega
  obtain ⟨k2, hk2⟩ : ∃ k : Nat, at' % ((n0 : Int) + i - n0) = k := ⟨(at' % ((n0 : Int) + i - n0)).toNat, (Int.toNat_of_nonneg (Int.emod_nonneg _ (by omega))).symm⟩
  have hk2i : k2 < i := by have := Int.emod_lt_of_pos at' (show (0 : Int) < (n0 : Int) + i - n0 by omega); omega
  have HK1 := Lib.hid hk1
  have HK2 := Lib.hid hk2
  clear hk1 hk2
  have G1 := Lib.hid g1
  have G2 := Lib.hid g2
  have G3 := Lib.hid g3
  have G4 := Lib.hid g4
  have HX := Lib.hid hx3
  have HK := Lib.hid hkk
  have HIV := Lib.hid hiv
  have HI5 := Lib.hid hiv5
  have HJ := Lib.hid hj
  have HI := Lib.hid hi
  have HL0 := Lib.hid hl0
  have HC0 := Lib.hid hc0
  have HE0 := Lib.hid he0
  clear g1 g2 g3 g4 hx hx3 hkk hiv hiv5 hj hi hl0 hc0 he0
  obtain ⟨hj1, hj2⟩ := hj1
  obtain ⟨hi1, hi2⟩ := hi1
  obtain ⟨hiv3, hiv4⟩ := hiv2
  go_enter Try.func4, Try.ntmps4
  go_wp2_with fail
  refine (place_any bs 64 _ (by omega) (by omega) hbs2).mono ?_
  rintro e w1 ⟨rfl, rfl⟩
  rw [HK.out]
  go_wp2_with (at_builtin; refine wpList_app rfl _ _ rfl w.heap.size (.slice none 0 0) 0 [] rfl (World.ownsRow_nil _ _ _ _) w.heap.size A0 n0 c0 l0 rfl hr0 (by omega) (Nat.le_refl _) ?_)
  intro v1 w1 ho1 hg1
  try simp only [Nat.zero_add, List.nil_append] at ho1
  have b1 : Below w.heap.size w w1 := (Below.refl _ _).grown hg1 (Nat.le_refl _) (fun g hg => by cases hg)
  obtain ⟨A1, c1, rfl, hn1, hc1, hA1, hr1⟩ := Rd.of_own ho1
  rw [HX.out]
  go_wp2_with fail
  refine (num_at A1 n0 c1 x _ _ l0 _ rfl hr1 (Nat.le_refl _) hn1 hc1 (by omega) hx2).mono ?_
  rintro e w2 ⟨A2, n2, c2, rfl, hl2, hn2, hc2, hA2, hr2, b2⟩
  rw [List.length_append, HL0.out, HJ.out] at hl2
  subst hl2
  have b2 := b1.trans (b2.mono b1.size)
  clear hr1 ho1 hg1 hA1
  go_wp2_with (at_builtin; refine wpList_app rfl _ _ rfl w.heap.size (.slice none 0 0) 0 [] rfl (World.ownsRow_nil _ _ _ _) w.heap.size A0 n0 c0 l0 rfl (hr0.below b2) (by omega) b2.size ?_)
  intro v3 w3 ho3 hg3
  try simp only [Nat.zero_add, List.nil_append] at ho3
  have b23 : Below w2.heap.size w2 w3 := (Below.refl _ _).grown hg3 (Nat.le_refl _) (fun g hg => by cases hg)
  obtain ⟨A3, c3, rfl, hn3, hc3, hA3, hr3⟩ := Rd.of_own ho3
  go_wp2_with fail
  refine (text_any A3 n0 c3 _ l0 s _ hr3 (Nat.le_refl _) hn3 hc3 (by omega) (by omega)).mono ?_
  rintro e w4 ⟨A4, n4, c4, rfl, hl4, hn4, hc4, hA4, hr4, b4⟩
  rw [List.length_append, HL0.out, HI.out] at hl4
  subst hl4
  have b24 : Below w2.heap.size w2 w4 := b23.trans (b4.mono b23.size)
  clear hr3 ho3 hg3 hA3 b4 b23
  have b4 : Below w.heap.size w w4 := b2.trans (b24.mono b2.size)
  have z4 := b4.size
  have z24 := b24.size
  -- the bytes of the number, and one behind them
  go_wp2_with (at_builtin; refine wpList_app rfl (.const (.slice none 0 0)) (.tmp 64) rfl w4.heap.size (.slice none 0 0) 0 [] rfl (World.ownsRow_nil _ _ _ _) w2.heap.size A2 (n0 + j) c2 (l0 ++ numL x) rfl (hr2.below b24) (by omega) (Nat.le_refl _) ?_)
  intro v5 w5 ho5 hg5
  try simp only [Nat.zero_add, List.nil_append] at ho5
  have b5 : Below w4.heap.size w4 w5 := (Below.refl _ _).grown hg5 (Nat.le_refl _) (fun g hg => by cases hg)
  have z5 := b5.size
  go_wp2_with (at_builtin; refine wpList_app rfl (.tmp 65) (.tmp 66) rfl w4.heap.size v5 (n0 + j) (l0 ++ numL x) rfl (ho5.alloc _) (w5.heap.size + 1) (some ⟨w5.heap.size, 0, none⟩) 1 1 [7] rfl (Rd.one _ _ _ rfl) (by omega) (by simp; omega) ?_)
  intro v6 w6 ho6 hg6
  have b6 : Below w4.heap.size w4 w6 := (b5.alloc z5 _).grown hg6 (by simp; omega) (fun g hg => (ho5.lt g hg).1)
  have z6 := b6.size
  obtain ⟨A6, c6, rfl, hn6, hc6, hA6, hr6⟩ := Rd.of_own ho6
  clear ho5 hg5 b5 z5 ho6 hg6
  go_wp2_with fail
  refine (getNum_as A6 (n0 + j + 1) c6 _ _ (n0 : Nat) x ((n0 + j : Nat) : Int) 0 _ G1.out (by simpa only [List.append_assoc] using hr6) hn6 hc6 (by omega)).mono ?_
  rintro e w7 ⟨rfl, rfl⟩
  clear hr6 hA6 hn6 hc6
  -- the bytes of the text, and one behind them
  go_wp2_with (at_builtin; refine wpList_app rfl (.const (.slice none 0 0)) (.tmp 75) rfl w4.heap.size (.slice none 0 0) 0 [] rfl (World.ownsRow_nil _ _ _ _) w4.heap.size A4 (n0 + i) c4 (l0 ++ txtL s.data.toList) rfl (hr4.below b6) (by omega) (by omega) ?_)
  intro v8 w8 ho8 hg8
  try simp only [Nat.zero_add, List.nil_append] at ho8
  have b8 : Below w4.heap.size w4 w8 := b6.grown hg8 z6 (fun g hg => by cases hg)
  have z8 := b8.size
  go_wp2_with (at_builtin; refine wpList_app rfl (.tmp 76) (.tmp 77) rfl w4.heap.size v8 (n0 + i) (l0 ++ txtL s.data.toList) rfl (ho8.alloc _) (w8.heap.size + 1) (some ⟨w8.heap.size, 0, none⟩) 1 1 [7] rfl (Rd.one _ _ _ rfl) (by omega) (by simp; omega) ?_)
  intro v9 w9 ho9 hg9
  have b9 : Below w4.heap.size w4 w9 := (b8.alloc z8 _).grown hg9 (by simp; omega) (fun g hg => (ho8.lt g hg).1)
  have z9 := b9.size
  obtain ⟨A9, c9, rfl, hn9, hc9, hA9, hr9⟩ := Rd.of_own ho9
  clear ho8 hg8 b8 z8 ho9 hg9 b6 z6
  go_wp2_with fail
  refine (getText_as A9 (n0 + i + 1) c9 _ _ (n0 : Nat) s _ ((n0 + i : Nat) : Int) 0 _ G3.out rfl (by simpa only [List.append_assoc] using hr9) (Nat.le_refl _) hn9 hc9 (by omega) hA9).mono ?_
  rintro e w10 ⟨rfl, b10⟩
  have b10 := b9.trans (b10.mono z9)
  clear hr9 hA9 hn9 hc9 b9 z9
  -- cut
  go_wp2_with fail
  refine (place_any at' _ _ (by omega) (by omega) hat2).mono ?_
  rintro e w11 ⟨rfl, rfl⟩
  rw [HK1.out]
  go_wp2_with fail
  refine (getNum_as A2 (n0 + k1) c2 _ _ (n0 : Nat) 0 0 8 _ (G2.out k1 hk1j) ((hr2.below (b24.trans (b10.mono z24))).pre (by omega)) (by omega) hc2 (by omega)).mono ?_
  rintro e w11 ⟨rfl, rfl⟩
  go_wp2_with fail
  refine (place_any at' _ _ (by omega) (by omega) hat2).mono ?_
  rintro e w11 ⟨rfl, rfl⟩
  rw [HK2.out]
  go_wp2_with fail
  refine (getText_as A4 (n0 + k2) c4 _ _ (n0 : Nat) ⟨#[]⟩ _ 0 8 _ (G4.out k2 hk2i) rfl ((hr4.below b10).pre (by omega)) b10.size (by omega) hc4 (by omega) hA4).mono ?_
  rintro e w11 ⟨rfl, b11⟩
  have b11 := b10.trans (b11.mono b10.size)
  clear hr2 hr4 hA2 hA4
  go_wp2_with fail
  rw [HIV.out]
  refine (int_any iv _ hiv3 hiv4).mono ?_
  rintro e w12 ⟨q, rfl, hq, b12⟩
  have b12 := b11.trans (b12.mono b11.size)
  have hq8 : q.size = 8 := by rw [Lib.size_eq, hq, intL, be_length]
  go_wp2_with fail
  refine (getInt_yes q _ hq8).mono ?_
  rintro e w13 ⟨rfl, b13⟩
  have b13 := b12.trans (b13.mono b12.size)
  rw [hq, HI5.out]
  clear hq hq8
  have e3 : (iv == wrap64 (vn : Int)) = true := by rw [HIV.out]; simp
  go_wp2_with fail
  refine (awake_any _).mono ?_
  rintro e w14 ⟨rfl, b14⟩
  go_wp2
  go_ret
  exact ⟨rfl, b4.trans ((b13.trans (b14.mono b13.size)).mono z4)⟩
end Go.Proofs.Ytkahcblonfbdaaa
