/-
  The walk of OrderAll.
-/
import Derived.Test.YtkahcblonfbdaaaRr4
import Derived.Test.YtkahcblonfbdaaaLwLists
import Derived.Test.YtkahcblonfbdaaaRgn
set_option linter.unusedVariables false
set_option linter.unusedSimpArgs false
namespace Go.Proofs.Ytkahcblonfbdaaa
open Go Go.RowKit

set_option maxHeartbeats 4000000 in
set_option maxRecDepth 100000 in
theorem all_big (A0 : Option Addr) (n0 c0 : Nat) (v : Int) (s : ByteArray) (n at' : Int) (w : World) (hn0 : n0 ≤ c0) (hc0 : c0 ≤ 9223372036854775807) (hs : s.size ≤ 9223372036854775807) (h : 500 < n0 ∨ 500 < s.size) :
    Calls Try.prog 3 #[.slice A0 n0 c0, .int .u64 v, .string s, .int .i64 n, .int .i64 at'] w fun e w' => e = .returned (.bool true) ∧ Below w.heap.size w w' := by
  by_cases h1 : (500 : Int) < n0
  · go_enter Try.func3, Try.ntmps3
    go_wp2_with (go_at_call 8; refine (awake_any _).mono ?_; rintro e w' ⟨rfl, b1⟩)
    go_ret
    exact ⟨rfl, b1⟩
  · have h2 : (500 : Int) < s.size := by omega
    go_enter Try.func3, Try.ntmps3
    go_wp2_with (go_at_call 8; refine (awake_any _).mono ?_; rintro e w' ⟨rfl, b1⟩)
    go_ret
    exact ⟨rfl, b1⟩

set_option maxHeartbeats 40000000 in
set_option maxRecDepth 100000 in
theorem all_law (A0 : Option Addr) (n0 c0 : Nat) (l0 : List UInt8) (v : Int) (s : ByteArray) (n at' : Int) (w : World) (hr0 : Rd w w.heap.size A0 n0 l0) (hn0 : n0 ≤ c0) (hc0 : c0 ≤ maxLen) (he0 : A0 = none → c0 = 0)
    (hv : (Lit.int .u64 v).wf = true) (hs : s.size ≤ maxLen) (hn : (Lit.int .i64 n).wf = true) (hat : (Lit.int .i64 at').wf = true) :
    Calls Try.prog 3 #[.slice A0 n0 c0, .int .u64 v, .string s, .int .i64 n, .int .i64 at'] w fun e w' => e = .returned (.bool true) ∧ Below w.heap.size w w' := by
  unfold maxLen at hs
  have hc0' := hc0
  unfold maxLen at hc0'
  have hv2 := bounds_u64 hv
  obtain ⟨hn1, hn2⟩ := bounds_i64 hn
  have hat2 := bounds_i64 hat
  clear hv hn hat
  by_cases hbig : 500 < n0 ∨ 500 < s.size
  · exact all_big A0 n0 c0 v s n at' w hn0 hc0' hs hbig
  have d1 : decide ((500 : Int) < n0) = false := by simp; omega
  have d2 : decide ((500 : Int) < s.size) = false := by simp; omega
  have sn : n0 ≤ 500 := by omega
  have ss : s.size ≤ 500 := by omega
  clear hbig hs
  obtain ⟨vn, rfl⟩ : ∃ vn : Nat, v = vn := ⟨v.toNat, by omega⟩
  have hvn : vn < 18446744073709551616 := by omega
  clear hv2
  have hl0 := hr0.1
  obtain ⟨bq, hbq⟩ : ∃ x : ByteArray, x.data.toList = l0 := ⟨⟨_⟩, rfl⟩
  obtain ⟨rq, hrq⟩ : ∃ x : ByteArray, x.data.toList = numL vn := ⟨⟨_⟩, rfl⟩
  obtain ⟨rt, hrt⟩ : ∃ x : ByteArray, x.data.toList = txtL s.data.toList := ⟨⟨_⟩, rfl⟩
  obtain ⟨nq, hnq⟩ : ∃ x : ByteArray, x.data.toList = intL n := ⟨⟨_⟩, rfl⟩
  obtain ⟨q1, hq1⟩ : ∃ x : ByteArray, bq ++ rq = x := ⟨_, rfl⟩
  obtain ⟨q2, hq2⟩ : ∃ x : ByteArray, bq ++ rt = x := ⟨_, rfl⟩
  have hbs : bq.size ≤ 500 := by rw [Lib.size_eq, hbq, hl0]; exact sn
  have hrs : rq.size ≤ 9 := by rw [Lib.size_eq, hrq, numL_length]; have := (nb_facts vn hvn).1; omega
  have hts : rt.size ≤ 1002 := by
    rw [Lib.size_eq, hrt, txtL_length]
    have h1 := nulls_le s.data.toList
    rw [← Lib.size_eq] at h1 ⊢
    omega
  have add1 : ∀ wx : World, (Op.stringOp .add bq rq).run Try.prog wx = .ok (.string q1) wx := by
    intro wx; rw [run_string_add_sum wx bq rq (by omega), hq1]
  have add2 : ∀ wx : World, (Op.stringOp .add bq rt).run Try.prog wx = .ok (.string q2) wx := by
    intro wx; rw [run_string_add_sum wx bq rt (by omega), hq2]
  have hq1l : q1.data.toList = l0 ++ numL vn := by rw [← hq1, ← hbq, ← hrq]; simp
  have hq2l : q2.data.toList = l0 ++ txtL s.data.toList := by rw [← hq2, ← hbq, ← hrt]; simp
  have HB := Lib.hid hbq
  have HRQ := Lib.hid hrq
  have HRT := Lib.hid hrt
  have HN := Lib.hid hnq
  have HQ1 := Lib.hid hq1l
  have HQ2 := Lib.hid hq2l
  have HL0 := Lib.hid hl0
  have HC0 := Lib.hid hc0
  have HE0 := Lib.hid he0
  clear hl0 hbq hrq hrt hnq hq1 hq2 hq1l hq2l hc0 he0
  go_enter Try.func3, Try.ntmps3
  go_wp2_with (at_builtin; refine wpList_app rfl (.const (.slice none 0 0)) (.tmp 37) rfl w.heap.size (.slice none 0 0) 0 [] rfl (World.ownsRow_nil _ _ _ _) w.heap.size A0 n0 c0 l0 rfl hr0 (by omega) (Nat.le_refl _) ?_)
  intro v1 w1 ho1 hg1
  try simp only [Nat.zero_add, List.nil_append] at ho1
  have b1 : Below w.heap.size w w1 := (Below.refl _ _).grown hg1 (Nat.le_refl _) (fun g hg => by cases hg)
  have z1 := b1.size
  go_wp2_with (at_builtin; refine wpList_app rfl (.tmp 38) (.tmp 39) rfl w.heap.size v1 n0 l0 rfl (ho1.alloc _) (w1.heap.size + 1) (some ⟨w1.heap.size, 0, none⟩) 1 1 [99] rfl (Rd.one _ _ _ rfl) (by omega) (by simp; omega) ?_)
  intro v2 w2 ho2 hg2
  have b2 : Below w.heap.size w w2 := (b1.alloc z1 _).grown hg2 (by simp; omega) (fun g hg => (ho1.lt g hg).1)
  have z2 := b2.size
  obtain ⟨A2, c2, rfl, hn2c, hc2, hA2, hr2⟩ := Rd.of_own ho2
  have hrc := hr2.pre (m := n0) (by omega)
  rw [List.take_append_of_le_length (by rw [HL0.out]; exact Nat.le_refl _), List.take_of_length_le (by rw [HL0.out]; exact Nat.le_refl _)] at hrc
  have hrb := hr0.below b2
  have hn2d : n0 ≤ c2 := by omega
  have hc2' := hc2
  unfold maxLen at hc2'
  have HC2 := Lib.hid hc2
  have HA2 := Lib.hid hA2
  have HA2' := HA2
  clear ho1 hg1 ho2 hg2 hr2 b1 z1 hr0 hc2 hA2
  go_upto_region 4 with fail
  go_cut [72] (fun s72 wx => s72 = .bool false ∧ Below w2.heap.size w2 wx)
  case first =>
    have kb0 := cv_since hrb z2 c0 bq HB.out
    refine wp_region_held_drew (S := fun w' => Since w2 w') (by kernel_rfl) ?_ (fun hHeld => ?_)
    · exact (Below.refl w2.heap.size w2).drew
    refine wpAnyH_take (i := 0) (v := ?_) rfl (by kernel_rfl) (by kernel_rfl) (by kernel_rfl) (fun _ _ _ h => h) (Or.inl ⟨by rfl, ?_⟩) (by assumption) ?_
    rotate_left
    · (intro wx hSw; (try dsimp only at hSw); go_simp; try with_reducible rfl)
    try simp only [Act.put, List.setIfInBounds_toArray, List.set_cons_zero, List.set_cons_succ]
    refine wpAnyH_take (i := 1) (v := ?_) rfl (by kernel_rfl) (by kernel_rfl) (by kernel_rfl) (fun _ _ _ h => h) (Or.inl ⟨by rfl, ?_⟩) (by assumption) ?_
    rotate_left
    · (intro wx hSw; (try dsimp only at hSw); go_simp; try with_reducible rfl)
    try simp only [Act.put, List.setIfInBounds_toArray, List.set_cons_zero, List.set_cons_succ]
    refine wpAnyH_take (i := 4) (v := ?_) rfl (by kernel_rfl) (by kernel_rfl) (by kernel_rfl) (fun _ _ _ h => h) (Or.inl ⟨by rfl, ?_⟩) (by assumption) ?_
    rotate_left
    · (intro wx hSw; (try dsimp only at hSw); go_simp; try with_reducible rfl)
    try simp only [Act.put, List.setIfInBounds_toArray, List.set_cons_zero, List.set_cons_succ]
    refine wpAnyH_take (i := 5) (v := ?_) rfl (by kernel_rfl) (by kernel_rfl) (by kernel_rfl) (fun _ _ _ h => h) (Or.inl ⟨by rfl, ?_⟩) (by assumption) ?_
    rotate_left
    · (intro wx hSw; (try dsimp only at hSw); go_simp; try with_reducible rfl)
    try simp only [Act.put, List.setIfInBounds_toArray, List.set_cons_zero, List.set_cons_succ]
    refine wpAnyH_take (i := 6) (v := ?_) rfl (by kernel_rfl) (by kernel_rfl) (by kernel_rfl) (fun _ _ _ h => h) (Or.inl ⟨by rfl, ?_⟩) (by assumption) ?_
    rotate_left
    · (intro wx hSw; (try dsimp only at hSw); go_simp; try with_reducible rfl)
    try simp only [Act.put, List.setIfInBounds_toArray, List.set_cons_zero, List.set_cons_succ]
    refine wpAnyH_ready (rs := [2]) (by kernel_rfl) (by simp) (AllReadyH.cons rfl (fun K hK => ?_) AllReadyH.nil)
    go_simp
    refine (num_any A2 n0 c2 vn w2.heap.size l0 _ (by exact hrc.drew) (by exact Nat.le_refl _) hn2d HC2.out (by omega) hvn).mono ?_
    rintro e w3 ⟨A3, n3, c3, rfl, hl3, hn3, hc3, hA3, hr3, b3⟩
    have HL3 := Lib.hid hl3
    clear hl3
    have s3 : Since w2 w3 := Since.on (show Since w2 w2.drew from (Below.refl w2.heap.size w2).drew) b3
    try go_wp2_with fail
    refine hK.out _ _ ?_ (fun hHeld => ?_)
    · exact s3
    clear hK K
    try simp only [Act.put, List.setIfInBounds_toArray, List.set_cons_zero, List.set_cons_succ]
    refine held_more (S' := fun w' => Since w3 w') (fun w' h => Since.on s3 h) _ _ _ _ ?_
    have hHeldw3 := Since.refl w3
    have k3 := cv_since hr3 (Nat.le_refl _) c3 q1 HQ1.out
    have kb3 := cv_since ((hrb.up z2).below s3) s3.size c0 bq HB.out
    refine wpAnyH_take (i := 3) (v := ?_) rfl (by kernel_rfl) (by kernel_rfl) (by kernel_rfl) (fun _ _ _ h => h) (Or.inl ⟨by rfl, ?_⟩) (by assumption) ?_
    rotate_left
    · (intro wx hSw; (try dsimp only at hSw); go_simp; try with_reducible rfl)
    try simp only [Act.put, List.setIfInBounds_toArray, List.set_cons_zero, List.set_cons_succ]
    refine wpAnyH_ready (rs := [7]) (by kernel_rfl) (by simp) (AllReadyH.cons rfl (fun K hK => ?_) AllReadyH.nil)
    go_simp
    refine (rnum_any vn _ hvn).mono ?_
    rintro e w4 ⟨x4, rfl, hx4, b4⟩
    obtain rfl := ba_ext (hx4.trans HRQ.out.symm)
    clear hx4
    try go_wp2_with fail
    refine hK.out _ _ ?_ (fun hHeld => ?_)
    · exact b4
    clear hK K
    try simp only [Act.put, List.setIfInBounds_toArray, List.set_cons_zero, List.set_cons_succ]
    have s4 := Since.on s3 b4
    have f1 : (q1.toList == q1.toList) = true := eqB_true rfl
    have f1b : (q1.toList != q1.toList) = false := by unfold bne; rw [f1]; rfl
    refine wpAnyH_take (i := 8) (v := ?_) rfl (by kernel_rfl) (by kernel_rfl) (by kernel_rfl) (fun _ _ _ h => h) (Or.inl ⟨by rfl, ?_⟩) (by assumption) ?_
    rotate_left
    · (intro wx hSw; (try dsimp only at hSw); go_simp; try with_reducible rfl)
    try simp only [Act.put, List.setIfInBounds_toArray, List.set_cons_zero, List.set_cons_succ]
    refine wpAnyH_take (i := 9) (v := ?_) rfl (by kernel_rfl) (by kernel_rfl) (by kernel_rfl) (fun _ _ _ h => h) (Or.inl ⟨by rfl, ?_⟩) (by assumption) ?_
    rotate_left
    · (intro wx hSw; (try dsimp only at hSw); go_simp; try with_reducible rfl)
    try simp only [Act.put, List.setIfInBounds_toArray, List.set_cons_zero, List.set_cons_succ]
    refine wpAnyH_take (i := 10) (v := ?_) rfl (by kernel_rfl) (by kernel_rfl) (by kernel_rfl) (fun _ _ _ h => h) (Or.inl ⟨by rfl, ?_⟩) (by assumption) ?_
    rotate_left
    · (intro wx hSw; (try dsimp only at hSw); go_simp; try with_reducible rfl)
    try simp only [Act.put, List.setIfInBounds_toArray, List.set_cons_zero, List.set_cons_succ]
    refine wpAnyH_take (i := 11) (v := ?_) rfl (by kernel_rfl) (by kernel_rfl) (by kernel_rfl) (fun _ _ _ h => h) (Or.inl ⟨by rfl, ?_⟩) (by assumption) ?_
    rotate_left
    · (intro wx hSw; (try dsimp only at hSw); go_simp; try with_reducible rfl)
    try simp only [Act.put, List.setIfInBounds_toArray, List.set_cons_zero, List.set_cons_succ]
    refine wpAnyH_take (i := 12) (v := ?_) rfl (by kernel_rfl) (by kernel_rfl) (by kernel_rfl) (fun _ _ _ h => h) (Or.inl ⟨by rfl, ?_⟩) (by assumption) ?_
    rotate_left
    · (intro wx hSw; (try dsimp only at hSw); go_simp; try with_reducible rfl)
    try simp only [Act.put, List.setIfInBounds_toArray, List.set_cons_zero, List.set_cons_succ]
    refine wpAnyH_take (i := 15) (v := ?_) rfl (by kernel_rfl) (by kernel_rfl) (by kernel_rfl) (fun _ _ _ h => h) (Or.inl ⟨by rfl, ?_⟩) (by assumption) ?_
    rotate_left
    · (intro wx hSw; (try dsimp only at hSw); go_simp; try with_reducible rfl)
    try simp only [Act.put, List.setIfInBounds_toArray, List.set_cons_zero, List.set_cons_succ]
    refine wpAnyH_take (i := 16) (v := ?_) rfl (by kernel_rfl) (by kernel_rfl) (by kernel_rfl) (fun _ _ _ h => h) (Or.inl ⟨by rfl, ?_⟩) (by assumption) ?_
    rotate_left
    · (intro wx hSw; (try dsimp only at hSw); go_simp; try with_reducible rfl)
    try simp only [Act.put, List.setIfInBounds_toArray, List.set_cons_zero, List.set_cons_succ]
    refine wpAnyH_take (i := 17) (v := ?_) rfl (by kernel_rfl) (by kernel_rfl) (by kernel_rfl) (fun _ _ _ h => h) (Or.inl ⟨by rfl, ?_⟩) (by assumption) ?_
    rotate_left
    · (intro wx hSw; (try dsimp only at hSw); go_simp; try with_reducible rfl)
    try simp only [Act.put, List.setIfInBounds_toArray, List.set_cons_zero, List.set_cons_succ]
    refine wpAnyH_ready (rs := [13]) (by kernel_rfl) (by simp) (AllReadyH.cons rfl (fun K hK => ?_) AllReadyH.nil)
    go_simp
    refine (text_any A2 n0 c2 w2.heap.size l0 s _ (hrc.below s4) s4.size hn2d HC2.out (by omega) (by omega)).mono ?_
    rintro e w5 ⟨A5, n5, c5, rfl, hl5, hn5, hc5, hA5, hr5, b5⟩
    have HL5 := Lib.hid hl5
    clear hl5
    have s5 : Since w3 w5 := Since.on b4 b5
    have s25 : Since w2 w5 := Since.on s3 s5
    try go_wp2_with fail
    refine hK.out _ _ ?_ (fun hHeld => ?_)
    · exact s5
    clear hK K
    try simp only [Act.put, List.setIfInBounds_toArray, List.set_cons_zero, List.set_cons_succ]
    refine held_more (S' := fun w' => Since w5 w') (fun w' h => Since.on s5 h) _ _ _ _ ?_
    have hHeldw5 := Since.refl w5
    have k5 := cv_since hr5 (Nat.le_refl _) c5 q2 HQ2.out
    refine wpAnyH_take (i := 14) (v := ?_) rfl (by kernel_rfl) (by kernel_rfl) (by kernel_rfl) (fun _ _ _ h => h) (Or.inl ⟨by rfl, ?_⟩) (by assumption) ?_
    rotate_left
    · (intro wx hSw; (try dsimp only at hSw); go_simp; try with_reducible rfl)
    try simp only [Act.put, List.setIfInBounds_toArray, List.set_cons_zero, List.set_cons_succ]
    refine wpAnyH_ready (rs := [18]) (by kernel_rfl) (by simp) (AllReadyH.cons rfl (fun K hK => ?_) AllReadyH.nil)
    go_simp
    refine (rtext_any s _ (by omega)).mono ?_
    rintro e w6 ⟨⟨x6, rfl, hx6⟩, rfl⟩
    obtain rfl := ba_ext (hx6.trans HRT.out.symm)
    clear hx6
    try go_wp2_with fail
    refine hK.out _ _ ?_ (fun hHeld => ?_)
    · exact Since.refl _
    clear hK K
    try simp only [Act.put, List.setIfInBounds_toArray, List.set_cons_zero, List.set_cons_succ]
    have f2 : (q2.toList == q2.toList) = true := eqB_true rfl
    have f2b : (q2.toList != q2.toList) = false := by unfold bne; rw [f2]; rfl
    refine wpAnyH_take (i := 19) (v := ?_) rfl (by kernel_rfl) (by kernel_rfl) (by kernel_rfl) (fun _ _ _ h => h) (Or.inl ⟨by rfl, ?_⟩) (by assumption) ?_
    rotate_left
    · (intro wx hSw; (try dsimp only at hSw); go_simp; try with_reducible rfl)
    try simp only [Act.put, List.setIfInBounds_toArray, List.set_cons_zero, List.set_cons_succ]
    refine wpAnyH_take (i := 20) (v := ?_) rfl (by kernel_rfl) (by kernel_rfl) (by kernel_rfl) (fun _ _ _ h => h) (Or.inl ⟨by rfl, ?_⟩) (by assumption) ?_
    rotate_left
    · (intro wx hSw; (try dsimp only at hSw); go_simp; try with_reducible rfl)
    try simp only [Act.put, List.setIfInBounds_toArray, List.set_cons_zero, List.set_cons_succ]
    refine wpAnyH_take (i := 21) (v := ?_) rfl (by kernel_rfl) (by kernel_rfl) (by kernel_rfl) (fun _ _ _ h => h) (Or.inl ⟨by rfl, ?_⟩) (by assumption) ?_
    rotate_left
    · (intro wx hSw; (try dsimp only at hSw); go_simp; try with_reducible rfl)
    try simp only [Act.put, List.setIfInBounds_toArray, List.set_cons_zero, List.set_cons_succ]
    refine wpAnyH_take (i := 22) (v := ?_) rfl (by kernel_rfl) (by kernel_rfl) (by kernel_rfl) (fun _ _ _ h => h) (Or.inl ⟨by rfl, ?_⟩) (by assumption) ?_
    rotate_left
    · (intro wx hSw; (try dsimp only at hSw); go_simp; try with_reducible rfl)
    try simp only [Act.put, List.setIfInBounds_toArray, List.set_cons_zero, List.set_cons_succ]
    refine wpAnyH_take (i := 23) (v := ?_) rfl (by kernel_rfl) (by kernel_rfl) (by kernel_rfl) (fun _ _ _ h => h) (Or.inl ⟨by rfl, ?_⟩) (by assumption) ?_
    rotate_left
    · (intro wx hSw; (try dsimp only at hSw); go_simp; try with_reducible rfl)
    try simp only [Act.put, List.setIfInBounds_toArray, List.set_cons_zero, List.set_cons_succ]
    refine wpAnyH_take (i := 25) (v := ?_) rfl (by kernel_rfl) (by kernel_rfl) (by kernel_rfl) (fun _ _ _ h => h) (Or.inl ⟨by rfl, ?_⟩) (by assumption) ?_
    rotate_left
    · (intro wx hSw; (try dsimp only at hSw); go_simp; try with_reducible rfl)
    try simp only [Act.put, List.setIfInBounds_toArray, List.set_cons_zero, List.set_cons_succ]
    refine wpAnyH_ready (rs := [24]) (by kernel_rfl) (by simp) (AllReadyH.cons rfl (fun K hK => ?_) AllReadyH.nil)
    go_simp
    refine (int_any n _ hn1 hn2).mono ?_
    rintro e w7 ⟨x7, rfl, hx7, b7⟩
    obtain rfl := ba_ext (hx7.trans HN.out.symm)
    clear hx7
    try go_wp2_with fail
    refine hK.out _ _ ?_ (fun hHeld => ?_)
    · exact b7
    clear hK K
    try simp only [Act.put, List.setIfInBounds_toArray, List.set_cons_zero, List.set_cons_succ]
    refine wpAnyH_ready (rs := [26]) (by kernel_rfl) (by simp) (AllReadyH.cons rfl (fun K hK => ?_) AllReadyH.nil)
    go_simp
    refine (rint_any n _ hn1 hn2).mono ?_
    rintro e w8 ⟨x8, rfl, hx8, b8⟩
    obtain rfl := ba_ext (hx8.trans HN.out.symm)
    clear hx8
    have s8 : Since w5 w8 := Since.on b7 b8
    have s28 : Since w2 w8 := Since.on s25 s8
    try go_wp2_with fail
    refine hK.out _ _ ?_ (fun hHeld => ?_)
    · exact s8
    clear hK K
    try simp only [Act.put, List.setIfInBounds_toArray, List.set_cons_zero, List.set_cons_succ]
    refine wpAnyH_take (i := 27) (v := ?_) rfl (by kernel_rfl) (by kernel_rfl) (by kernel_rfl) (fun _ _ _ h => h) (Or.inl ⟨by rfl, ?_⟩) (by assumption) ?_
    rotate_left
    · (intro wx hSw; (try dsimp only at hSw); go_simp; try with_reducible rfl)
    try simp only [Act.put, List.setIfInBounds_toArray, List.set_cons_zero, List.set_cons_succ]
    refine wpAnyH_take (i := 28) (v := ?_) rfl (by kernel_rfl) (by kernel_rfl) (by kernel_rfl) (fun _ _ _ h => h) (Or.inl ⟨by rfl, ?_⟩) (by assumption) ?_
    rotate_left
    · (intro wx hSw; (try dsimp only at hSw); go_simp; try with_reducible rfl)
    try simp only [Act.put, List.setIfInBounds_toArray, List.set_cons_zero, List.set_cons_succ]
    refine wpAnyH_done (by kernel_rfl) ?_ _
    simp only [Act.put, List.getElem_toArray, List.getElem_cons_succ, List.getElem_cons_zero, List.setIfInBounds_toArray, List.set_cons_zero, List.set_cons_succ]
    go_wp2_with fail
    go_meet
    exact ⟨rfl, s28⟩
  case rest =>
    obtain ⟨rfl, hb2⟩ := hcut
    have hrc2 := hrc.below hb2
    obtain ⟨gv, gi, ge, hg⟩ : ∃ a b c, gnum l0 at' = (a, b, c) := ⟨_, _, _, rfl⟩
    obtain ⟨tv, ti, te, ht⟩ : ∃ a b c, gtxt l0 at' = (a, b, c) := ⟨_, _, _, rfl⟩
    obtain ⟨tq, htq⟩ : ∃ x : ByteArray, x.data.toList = tv := ⟨⟨_⟩, rfl⟩
    have HG := Lib.hid hg
    have HT := Lib.hid ht
    have HTQ := Lib.hid htq
    clear hg ht htq
    have kb := cv_as ((hrb.up z2).below hb2) c0 bq HB.out
    go_wp2_with fail
    refine (getNum_as A2 n0 c2 _ l0 at' gv gi ge _ HG.out hrc2 hn2d HC2.out (by omega)).mono ?_
    rintro e w3 ⟨rfl, rfl⟩
    go_wp2_with fail
    refine (rgetNum_any bq at' _ (by omega)).mono ?_
    rintro e w3 ⟨rfl, rfl⟩
    rw [HB.out, HG.out]
    unfold numV
    dsimp only
    go_wp2_with fail
    refine (getText_as A2 n0 c2 _ l0 at' tq tv ti te _ HT.out HTQ.out hrc2 hb2.size hn2d HC2.out (by omega) HA2'.out).mono ?_
    rintro e w4 ⟨rfl, b4⟩
    have kb4 := cv_as (((hrb.up z2).below hb2).below (b4.mono hb2.size)) c0 bq HB.out
    have kc4 := cv_as (hrc2.below (b4.mono hb2.size)) c2 bq HB.out
    have b24 : Below w2.heap.size w2 w4 := hb2.trans (b4.mono hb2.size)
    go_wp2_with fail
    refine (rgetText_any bq at' _ (by omega)).mono ?_
    rintro e w5 ⟨⟨x5, rfl, hx5⟩, rfl⟩
    rw [HB.out, HT.out] at hx5
    obtain rfl := ba_ext (hx5.trans HTQ.out.symm)
    clear hx5
    rw [HB.out, HT.out]
    dsimp only
    by_cases hs8 : s.size = 8
    · obtain ⟨iv, hiv⟩ : ∃ iv : Int, (vl s.data.toList : Nat) - 9223372036854775808 = iv := ⟨_, rfl⟩
      have HIV := Lib.hid hiv
      clear hiv
      go_wp2_with fail
      refine (getInt_yes s _ hs8).mono ?_
      rintro e w6 ⟨rfl, b6⟩
      rw [HIV.out]
      have kb6 := cv_as ((((hrb.up z2).below hb2).below (b4.mono hb2.size)).below (b6.mono b24.size)) c0 bq HB.out
      have kc6 := cv_as ((hrc2.below (b4.mono hb2.size)).below (b6.mono b24.size)) c2 bq HB.out
      go_wp2_with fail
      refine (rgetInt_yes s _ hs8).mono ?_
      rintro e w7 ⟨rfl, rfl⟩
      rw [HIV.out]
      have HS8 := Lib.hid hs8
      clear hs8
      go_wp2_with fail
      refine (awake_any _).mono ?_
      rintro e w8 ⟨rfl, b8⟩
      go_wp2
      go_ret
      exact ⟨rfl, b2.trans ((b24.trans ((b6.trans (b8.mono b6.size)).mono b24.size)).mono z2)⟩
    · have hsm : s.size ≤ maxLen := by unfold maxLen; omega
      have HSM := Lib.hid hsm
      clear hsm
      go_wp2_with fail
      refine (getInt_no s _ hs8 HSM.out).mono ?_
      rintro e w6 ⟨rfl, b6⟩
      have kb6 := cv_as ((((hrb.up z2).below hb2).below (b4.mono hb2.size)).below (b6.mono b24.size)) c0 bq HB.out
      have kc6 := cv_as ((hrc2.below (b4.mono hb2.size)).below (b6.mono b24.size)) c2 bq HB.out
      go_wp2_with fail
      refine (rgetInt_no s _ hs8 HSM.out).mono ?_
      rintro e w7 ⟨rfl, rfl⟩
      have HS8 := Lib.hid hs8
      clear hs8
      go_wp2_with fail
      refine (awake_any _).mono ?_
      rintro e w8 ⟨rfl, b8⟩
      go_wp2
      go_ret
      exact ⟨rfl, b2.trans ((b24.trans ((b6.trans (b8.mono b6.size)).mono b24.size)).mono z2)⟩
end Go.Proofs.Ytkahcblonfbdaaa
