/-
  The walk of SegmentAll.
-/
import Derived.Test.YtcihgnkmikhboaaRs4
import Derived.Test.YtcihgnkmikhboaaOpnS
import Derived.Test.YtcihgnkmikhboaaRgn
set_option linter.unusedVariables false
set_option linter.unusedSimpArgs false
namespace Go.Proofs.Ytcihgnkmikhboaa
open Go Go.RowKit
attribute [local go_sem ↓] Go.wp_at_zero Go.wp_at_succ

theorem all_long (A : Option Addr) (n c : Nat) (s : ByteArray) (w : World) (hn : n ≤ c) (hc : c ≤ maxLen) (hs : s.size ≤ maxLen) (hbig : 2000 < n ∨ 2000 < s.size) :
    Calls Try.prog 3 #[.slice A n c, .string s] w fun e w' => e = .returned (.bool true) ∧ Below w.heap.size w w' := by
  unfold maxLen at hc hs
  by_cases h : 2000 < n
  · have d1 : decide ((2000 : Int) < n) = true := by simp; omega
    go_enter Try.func3, Try.ntmps3
    go_wp2_with (go_at_call 8; refine (awake_any _).mono ?_; rintro e w' ⟨rfl, b1⟩)
    go_ret
    exact ⟨rfl, b1⟩
  · have d1 : decide ((2000 : Int) < n) = false := by simp; omega
    have d2 : decide ((2000 : Int) < s.size) = true := by simp; omega
    go_enter Try.func3, Try.ntmps3
    go_wp2_with (go_at_call 8; refine (awake_any _).mono ?_; rintro e w' ⟨rfl, b1⟩)
    go_ret
    exact ⟨rfl, b1⟩

theorem keepB {W0 W w' : World} (b : Below W.heap.size W w') (h : Below W0.heap.size W0 W) : Below W0.heap.size W0 w' := h.trans (b.mono h.size)
theorem put_of {W0 W : World} {A : Option Addr} {n c : Nat} {l : List UInt8} {s : ByteArray} (h : Rd W0 W0.heap.size A n l) (hb : Below W0.heap.size W0 W) (hn : n ≤ c) (hc : c ≤ maxLen) (hsz : n ≤ 17592186044416) (hs : s.size ≤ 1099511627776) :
    Calls Try.prog 11 #[.slice A n c, .string s] W (GivesB W (l ++ put n s.data.toList)) :=
  put_any A n c _ l s W (h.below hb) hb.size hn hc hsz hs
theorem same_of {W0 W : World} {A A' : Option Addr} {n n' c c' : Nat} {l : List ByteArray} (h : RdS W0 W0.heap.size A n l) (h' : RdS W0 W0.heap.size A' n' l) (hb : Below W0.heap.size W0 W) (hn : n ≤ 1000000000000) (hn' : n' ≤ 1000000000000) :
    Calls Try.prog 13 #[.slice A n c, .slice A' n' c'] W fun e w' => e = .returned (.bool true) ∧ Below W.heap.size W w' := by
  have := same_any A A' n n' c c' _ _ l l W (h.below hb) (h'.below hb) hb.size hb.size hn hn'
  rw [decide_eq_true (rfl : l = l)] at this
  exact this
theorem keepD {W0 w' : World} (h : Below W0.heap.size W0 w') : Below W0.heap.size W0 w'.drew := h.drew

set_option maxHeartbeats 4000000 in
set_option maxRecDepth 100000 in
theorem all_law (A : Option Addr) (n c : Nat) (l : List UInt8) (s : ByteArray) (w : World) (hr : Rd w w.heap.size A n l) (hn : n ≤ c) (hc : c ≤ maxLen) (hA : A = none → c = 0) (hs : s.size ≤ maxLen) :
    Calls Try.prog 3 #[.slice A n c, .string s] w fun e w' => e = .returned (.bool true) ∧ Below w.heap.size w w' := by
  by_cases hbig : 2000 < n ∨ 2000 < s.size
  · exact all_long A n c s w hn hc hs hbig
  have hn2 : n ≤ 2000 := by omega
  have hs2 : s.size ≤ 2000 := by omega
  have d1 : decide ((2000 : Int) < n) = false := by simp; omega
  have d2 : decide ((2000 : Int) < s.size) = false := by simp; omega
  have hl := hr.1
  obtain ⟨sb, hsb⟩ : ∃ x : ByteArray, x.data.toList = l := ⟨⟨l.toArray⟩, rfl⟩
  have hsz : sb.size = n := by rw [Lib.size_eq, hsb, hl]
  have HSB := Lib.hid hsb
  have HL := Lib.hid hl
  have HCM := Lib.hid hc
  unfold maxLen at hc
  clear hbig hs hsb hl
  go_enter Try.func3, Try.ntmps3
  go_wp2_with (at_builtin; refine list_ex rfl (.const (.slice none 0 0)) (.tmp 19) _ _ rfl (.slice none 0 0) (.slice A n c) rfl rfl (run_appOwn w.heap.size (own_nil _ _) c hr ?s1 ?s2) ?_)
  case s1 => omega
  case s2 => exact Nat.le_refl _
  intro v1 w1 ho1 hg1
  have hb1 : Below w.heap.size w w1 := (Below.refl _ _).grown hg1 (Nat.le_refl _) (fun g hg => by cases hg)
  try simp only [Nat.zero_add, List.nil_append] at ho1
  have hz1 := hb1.size
  clear hg1
  go_wp2_with (at_builtin; refine list_ex rfl (.tmp 20) (.tmp 21) _ _ rfl v1 (.slice (some ⟨w1.heap.size, 0, none⟩) 1 1) rfl rfl (run_appOwn w.heap.size (ho1.alloc _) 1 (Rd.one w1 99 99 rfl) ?s3 ?s4) ?_)
  case s3 => omega
  case s4 => simp; omega
  intro v2 w2 ho2 hg2
  have hb2 := grown_own (hb1.alloc hz1 (.cells #[.int .u8 99] 5)) (ho1.alloc _) hg2
  obtain ⟨A1, c1, rfl, g1, g2, g3, g4⟩ := Rd.of_own ho2
  obtain ⟨hs1, hr1⟩ := sl_h g4 g1 g3 (n : Nat) n rfl (by omega)
  rw [List.take_left' HL.out] at hr1
  have hnc1 : n ≤ c1 := by omega
  have hb2z := hb2.size
  clear ho1 ho2 hg2 g4 g1
  go_wp2_with fail
  refine (scan_any A1 n c1 _ l _ hr1 (Nat.le_refl _) hnc1 g2 (by omega)).mono ?_
  rintro e w3 ⟨A3, n3, c3, M, rfl, b3, hr3, hn3, hc3, hA3, hans⟩
  have hb3 := hb2.trans (b3.mono hb2.size)
  have hrb := hr.below hb3
  have hcv := cv_as hrb c sb HSB.out
  have hr1b := hr1.on b3 b3.size
  clear hr1
  go_wp2_with fail
  refine (rscan_any sb _ (by omega)).mono ?_
  rintro e w4 ⟨A4, n4, c4, M2, rfl, b4, hr4, hn4, hc4, hA4, hans2⟩
  rw [HSB.out] at hans2
  obtain rfl : M2 = M := lists_inj (hans2.unique hans)
  obtain ⟨gd, hgd⟩ : ∃ gd, (puts 0 (lists M2)).length = gd := ⟨_, rfl⟩
  have hM : n3 ≤ 10000 := by
    have h5 := puts_count (lists M2) 0
    have h6 := hans.1.length_le
    rw [lists_length] at h5
    have := hr3.1
    have := HL.out
    omega
  have hM4 : n4 ≤ 10000 := by
    have := hr3.1
    have := hr4.1
    omega
  rw [hgd]
  have hb4 := hb3.trans (b4.mono hb3.size)
  have hr1c := hr1b.on b4 b4.size
  have hr3c := hr3.on b4 b4.size
  have hrc := hr.below hb4
  clear hcv hrb hr1b hr3 hans hans2 hgd
  have hpl := put_length_le n s.data.toList
  rw [← Lib.size_eq] at hpl
  obtain ⟨P, hP⟩ : ∃ P, put n s.data.toList = P := ⟨_, rfl⟩
  rw [hP] at hpl
  obtain ⟨pq, hpq⟩ : ∃ x : ByteArray, x.data.toList = P := ⟨⟨P.toArray⟩, rfl⟩
  have hpqz : pq.size ≤ 20000 := by rw [Lib.size_eq, hpq]; omega
  obtain ⟨t1, ht1⟩ : ∃ x : ByteArray, x.data.toList = l ++ P := ⟨⟨(l ++ P).toArray⟩, rfl⟩
  obtain ⟨t2, ht2⟩ : ∃ x : ByteArray, sb ++ pq = x := ⟨_, rfl⟩
  have hadd : ∀ wx : World, (Op.stringOp .add sb pq).run Try.prog wx = .ok (.string t2) wx := by
    intro wx; rw [run_string_add_sum wx sb pq (by omega), ht2]
  have et : (t1.toList == t2.toList) = true := eqB_true (ba_ext (by rw [ht1, ← ht2, ← hpq, ← HSB.out]; simp))
  obtain ⟨sc, hsc⟩ : ∃ x : ByteArray, x.data.toList = l := ⟨⟨l.toArray⟩, rfl⟩
  have ec : (sc.toList == sb.toList) = true := eqB_true (ba_ext (by rw [hsc, HSB.out]))
  have hpq2 : pq.data.toList = put n s.data.toList := by rw [hpq, hP]
  have HP := Lib.hid hP
  have HPQ := Lib.hid hpq2
  have HT1 := Lib.hid ht1
  have HSC := Lib.hid hsc
  have hn0 : n ≤ 17592186044416 := by omega
  have hs0 : s.size ≤ 1099511627776 := by omega
  have hn1 : n ≤ 1000000000000 := by omega
  have hs1' : s.size ≤ 1000000000000 := by omega
  have hM1 : n3 ≤ 1000000000000 := by omega
  have hM2 : n4 ≤ 1000000000000 := by omega
  have hb4z := hb4.size
  clear hP hpq ht1 ht2 hsc hpq2
  have kb0 := cv_since hrc hb4z c sb HSB.out
  have kc0 := cv_since hr1c (Nat.le_refl _) c1 sc HSC.out
  have s0 : Since w4 w4.drew := (Below.refl _ _).drew
  go_wp2_with fail
  refine wp_region_held_drew (S := fun w' => Since w4 w') (by kernel_rfl) ?_ (fun hHeld => ?_)
  · exact s0
  refine wpAnyH_take (i := 0) (v := ?_) rfl (by kernel_rfl) (by kernel_rfl) (by kernel_rfl) (fun _ _ _ h => h) (Or.inl ⟨by rfl, ?_⟩) (by assumption) ?_
  rotate_left
  · (intro wx hSw; (try dsimp only at hSw); go_simp; try with_reducible rfl)
  try simp only [Act.put, List.getElem_toArray, List.getElem_cons_succ, List.getElem_cons_zero, List.setIfInBounds_toArray, List.set_cons_zero, List.set_cons_succ]
  refine wpAnyH_take (i := 1) (v := ?_) rfl (by kernel_rfl) (by kernel_rfl) (by kernel_rfl) (fun _ _ _ h => h) (Or.inl ⟨by rfl, ?_⟩) (by assumption) ?_
  rotate_left
  · (intro wx hSw; (try dsimp only at hSw); go_simp; try with_reducible rfl)
  try simp only [Act.put, List.getElem_toArray, List.getElem_cons_succ, List.getElem_cons_zero, List.setIfInBounds_toArray, List.set_cons_zero, List.set_cons_succ]
  refine wpAnyH_take (i := 4) (v := ?_) rfl (by kernel_rfl) (by kernel_rfl) (by kernel_rfl) (fun _ _ _ h => h) (Or.inl ⟨by rfl, ?_⟩) (by assumption) ?_
  rotate_left
  · (intro wx hSw; (try dsimp only at hSw); go_simp; try with_reducible rfl)
  try simp only [Act.put, List.getElem_toArray, List.getElem_cons_succ, List.getElem_cons_zero, List.setIfInBounds_toArray, List.set_cons_zero, List.set_cons_succ]
  refine wpAnyH_take (i := 5) (v := ?_) rfl (by kernel_rfl) (by kernel_rfl) (by kernel_rfl) (fun _ _ _ h => h) (Or.inl ⟨by rfl, ?_⟩) (by assumption) ?_
  rotate_left
  · (intro wx hSw; (try dsimp only at hSw); go_simp; try with_reducible rfl)
  try simp only [Act.put, List.getElem_toArray, List.getElem_cons_succ, List.getElem_cons_zero, List.setIfInBounds_toArray, List.set_cons_zero, List.set_cons_succ]
  refine wpAnyH_take (i := 6) (v := ?_) rfl (by kernel_rfl) (by kernel_rfl) (by kernel_rfl) (fun _ _ _ h => h) (Or.inl ⟨by rfl, ?_⟩) (by assumption) ?_
  rotate_left
  · (intro wx hSw; (try dsimp only at hSw); go_simp; try with_reducible rfl)
  try simp only [Act.put, List.getElem_toArray, List.getElem_cons_succ, List.getElem_cons_zero, List.setIfInBounds_toArray, List.set_cons_zero, List.set_cons_succ]
  refine wpAnyH_take (i := 7) (v := ?_) rfl (by kernel_rfl) (by kernel_rfl) (by kernel_rfl) (fun _ _ _ h => h) (Or.inl ⟨by rfl, ?_⟩) (by assumption) ?_
  rotate_left
  · (intro wx hSw; (try dsimp only at hSw); go_simp; try with_reducible rfl)
  try simp only [Act.put, List.getElem_toArray, List.getElem_cons_succ, List.getElem_cons_zero, List.setIfInBounds_toArray, List.set_cons_zero, List.set_cons_succ]
  refine wpAnyH_take (i := 8) (v := ?_) rfl (by kernel_rfl) (by kernel_rfl) (by kernel_rfl) (fun _ _ _ h => h) (Or.inl ⟨by rfl, ?_⟩) (by assumption) ?_
  rotate_left
  · (intro wx hSw; (try dsimp only at hSw); go_simp; try with_reducible rfl)
  try simp only [Act.put, List.getElem_toArray, List.getElem_cons_succ, List.getElem_cons_zero, List.setIfInBounds_toArray, List.set_cons_zero, List.set_cons_succ]
  refine wpAnyH_ready (rs := [2]) (by kernel_rfl) (by simp) (AllReadyH.cons rfl (fun K hK => ?_) AllReadyH.nil)
  go_simp
  refine (put_any A1 n c1 w4.heap.size l s _ (by exact hr1c.drew) (by exact Nat.le_refl _) hnc1 g2 hn0 hs0).mono ?_
  rintro e w5 ⟨A5, n5, c5, rfl, hl5, hn5, hc5, hA5, hr5, b5⟩
  have hl5 := Lib.hid hl5
  have s5 : Since w4 w5 := Since.on s0 b5
  try go_wp2_with fail
  refine hK.out _ _ ?_ (fun hHeld => ?_)
  · exact s5
  clear hK K
  try simp only [Act.put, List.getElem_toArray, List.getElem_cons_succ, List.getElem_cons_zero, List.setIfInBounds_toArray, List.set_cons_zero, List.set_cons_succ]
  refine held_more (S' := fun w' => Since w5 w') (fun w' h => Since.on s5 h) _ _ _ _ ?_
  have hHeld5 := Since.refl w5
  have kp5 := cv_since hr5 (Nat.le_refl _) c5 t1 (by rw [HT1.out, HP.out])
  have kb5 := cv_since (hrc.below (s5.mono hb4z)) (Nat.le_trans hb4z s5.size) c sb HSB.out
  have kc5 := cv_since (hr1c.below s5) s5.size c1 sc HSC.out
  clear kb0 kc0
  refine wpAnyH_take (i := 3) (v := ?_) rfl (by kernel_rfl) (by kernel_rfl) (by kernel_rfl) (fun _ _ _ h => h) (Or.inl ⟨by rfl, ?_⟩) (by assumption) ?_
  rotate_left
  · (intro wx hSw; (try dsimp only at hSw); go_simp; try with_reducible rfl)
  try simp only [Act.put, List.getElem_toArray, List.getElem_cons_succ, List.getElem_cons_zero, List.setIfInBounds_toArray, List.set_cons_zero, List.set_cons_succ]
  refine wpAnyH_ready (rs := [9]) (by kernel_rfl) (by simp) (AllReadyH.cons rfl (fun K hK => ?_) AllReadyH.nil)
  go_simp
  refine (rput_as _ n s pq _ rfl hn1 hs1' HPQ.out).mono ?_
  rintro e w6 ⟨rfl, b6⟩
  try go_wp2_with fail
  refine hK.out _ _ ?_ (fun hHeld => ?_)
  · exact b6
  clear hK K
  try simp only [Act.put, List.getElem_toArray, List.getElem_cons_succ, List.getElem_cons_zero, List.setIfInBounds_toArray, List.set_cons_zero, List.set_cons_succ]
  have s6 : Since w5 w6 := b6
  refine wpAnyH_take (i := 10) (v := ?_) rfl (by kernel_rfl) (by kernel_rfl) (by kernel_rfl) (fun _ _ _ h => h) (Or.inl ⟨by rfl, ?_⟩) (by assumption) ?_
  rotate_left
  · (intro wx hSw; (try dsimp only at hSw); go_simp; try with_reducible rfl)
  try simp only [Act.put, List.getElem_toArray, List.getElem_cons_succ, List.getElem_cons_zero, List.setIfInBounds_toArray, List.set_cons_zero, List.set_cons_succ]
  refine wpAnyH_take (i := 11) (v := ?_) rfl (by kernel_rfl) (by kernel_rfl) (by kernel_rfl) (fun _ _ _ h => h) (Or.inl ⟨by rfl, ?_⟩) (by assumption) ?_
  rotate_left
  · (intro wx hSw; (try dsimp only at hSw); go_simp; try with_reducible rfl)
  try simp only [Act.put, List.getElem_toArray, List.getElem_cons_succ, List.getElem_cons_zero, List.setIfInBounds_toArray, List.set_cons_zero, List.set_cons_succ]
  refine wpAnyH_take (i := 12) (v := ?_) rfl (by kernel_rfl) (by kernel_rfl) (by kernel_rfl) (fun _ _ _ h => h) (Or.inl ⟨by rfl, ?_⟩) (by assumption) ?_
  rotate_left
  · (intro wx hSw; (try dsimp only at hSw); go_simp; try with_reducible rfl)
  try simp only [Act.put, List.getElem_toArray, List.getElem_cons_succ, List.getElem_cons_zero, List.setIfInBounds_toArray, List.set_cons_zero, List.set_cons_succ]
  refine wpAnyH_take (i := 13) (v := ?_) rfl (by kernel_rfl) (by kernel_rfl) (by kernel_rfl) (fun _ _ _ h => h) (Or.inl ⟨by rfl, ?_⟩) (by assumption) ?_
  rotate_left
  · (intro wx hSw; (try dsimp only at hSw); go_simp; try with_reducible rfl)
  try simp only [Act.put, List.getElem_toArray, List.getElem_cons_succ, List.getElem_cons_zero, List.setIfInBounds_toArray, List.set_cons_zero, List.set_cons_succ]
  refine wpAnyH_take (i := 14) (v := ?_) rfl (by kernel_rfl) (by kernel_rfl) (by kernel_rfl) (fun _ _ _ h => h) (Or.inl ⟨by rfl, ?_⟩) (by assumption) ?_
  rotate_left
  · (intro wx hSw; (try dsimp only at hSw); go_simp; try with_reducible rfl)
  try simp only [Act.put, List.getElem_toArray, List.getElem_cons_succ, List.getElem_cons_zero, List.setIfInBounds_toArray, List.set_cons_zero, List.set_cons_succ]
  refine wpAnyH_ready (rs := [15]) (by kernel_rfl) (by simp) (AllReadyH.cons rfl (fun K hK => ?_) AllReadyH.nil)
  go_simp
  refine (same_of hr3c hr4 (Since.on s5 s6) hM1 hM2).mono ?_
  rintro e w7 ⟨rfl, b7⟩
  have s7 : Since w5 w7 := Since.on s6 b7
  try go_wp2_with fail
  refine hK.out _ _ ?_ (fun hHeld => ?_)
  · exact s7
  clear hK K
  try simp only [Act.put, List.getElem_toArray, List.getElem_cons_succ, List.getElem_cons_zero, List.setIfInBounds_toArray, List.set_cons_zero, List.set_cons_succ]
  refine wpAnyH_take (i := 16) (v := ?_) rfl (by kernel_rfl) (by kernel_rfl) (by kernel_rfl) (fun _ _ _ h => h) (Or.inl ⟨by rfl, ?_⟩) (by assumption) ?_
  rotate_left
  · (intro wx hSw; (try dsimp only at hSw); go_simp; try with_reducible rfl)
  try simp only [Act.put, List.getElem_toArray, List.getElem_cons_succ, List.getElem_cons_zero, List.setIfInBounds_toArray, List.set_cons_zero, List.set_cons_succ]
  refine wpAnyH_take (i := 17) (v := ?_) rfl (by kernel_rfl) (by kernel_rfl) (by kernel_rfl) (fun _ _ _ h => h) (Or.inl ⟨by rfl, ?_⟩) (by assumption) ?_
  rotate_left
  · (intro wx hSw; (try dsimp only at hSw); go_simp; try with_reducible rfl)
  try simp only [Act.put, List.getElem_toArray, List.getElem_cons_succ, List.getElem_cons_zero, List.setIfInBounds_toArray, List.set_cons_zero, List.set_cons_succ]
  refine wpAnyH_take (i := 18) (v := ?_) rfl (by kernel_rfl) (by kernel_rfl) (by kernel_rfl) (fun _ _ _ h => h) (Or.inl ⟨by rfl, ?_⟩) (by assumption) ?_
  rotate_left
  · (intro wx hSw; (try dsimp only at hSw); go_simp; try with_reducible rfl)
  try simp only [Act.put, List.getElem_toArray, List.getElem_cons_succ, List.getElem_cons_zero, List.setIfInBounds_toArray, List.set_cons_zero, List.set_cons_succ]
  refine wpAnyH_take (i := 19) (v := ?_) rfl (by kernel_rfl) (by kernel_rfl) (by kernel_rfl) (fun _ _ _ h => h) (Or.inl ⟨by rfl, ?_⟩) (by assumption) ?_
  rotate_left
  · (intro wx hSw; (try dsimp only at hSw); go_simp; try with_reducible rfl)
  try simp only [Act.put, List.getElem_toArray, List.getElem_cons_succ, List.getElem_cons_zero, List.setIfInBounds_toArray, List.set_cons_zero, List.set_cons_succ]
  refine wpAnyH_take (i := 20) (v := ?_) rfl (by kernel_rfl) (by kernel_rfl) (by kernel_rfl) (fun _ _ _ h => h) (Or.inl ⟨by rfl, ?_⟩) (by assumption) ?_
  rotate_left
  · (intro wx hSw; (try dsimp only at hSw); go_simp; try with_reducible rfl)
  try simp only [Act.put, List.getElem_toArray, List.getElem_cons_succ, List.getElem_cons_zero, List.setIfInBounds_toArray, List.set_cons_zero, List.set_cons_succ]
  refine wpAnyH_take (i := 21) (v := ?_) rfl (by kernel_rfl) (by kernel_rfl) (by kernel_rfl) (fun _ _ _ h => h) (Or.inl ⟨by rfl, ?_⟩) (by assumption) ?_
  rotate_left
  · (intro wx hSw; (try dsimp only at hSw); go_simp; try with_reducible rfl)
  try simp only [Act.put, List.getElem_toArray, List.getElem_cons_succ, List.getElem_cons_zero, List.setIfInBounds_toArray, List.set_cons_zero, List.set_cons_succ]
  refine wpAnyH_take (i := 22) (v := ?_) rfl (by kernel_rfl) (by kernel_rfl) (by kernel_rfl) (fun _ _ _ h => h) (Or.inl ⟨by rfl, ?_⟩) (by assumption) ?_
  rotate_left
  · (intro wx hSw; (try dsimp only at hSw); go_simp; try with_reducible rfl)
  try simp only [Act.put, List.getElem_toArray, List.getElem_cons_succ, List.getElem_cons_zero, List.setIfInBounds_toArray, List.set_cons_zero, List.set_cons_succ]
  refine wpAnyH_take (i := 23) (v := ?_) rfl (by kernel_rfl) (by kernel_rfl) (by kernel_rfl) (fun _ _ _ h => h) (Or.inl ⟨by rfl, ?_⟩) (by assumption) ?_
  rotate_left
  · (intro wx hSw; (try dsimp only at hSw); go_simp; try with_reducible rfl)
  try simp only [Act.put, List.getElem_toArray, List.getElem_cons_succ, List.getElem_cons_zero, List.setIfInBounds_toArray, List.set_cons_zero, List.set_cons_succ]
  refine wpAnyH_take (i := 24) (v := ?_) rfl (by kernel_rfl) (by kernel_rfl) (by kernel_rfl) (fun _ _ _ h => h) (Or.inl ⟨by rfl, ?_⟩) (by assumption) ?_
  rotate_left
  · (intro wx hSw; (try dsimp only at hSw); go_simp; try with_reducible rfl)
  try simp only [Act.put, List.getElem_toArray, List.getElem_cons_succ, List.getElem_cons_zero, List.setIfInBounds_toArray, List.set_cons_zero, List.set_cons_succ]
  refine wpAnyH_take (i := 25) (v := ?_) rfl (by kernel_rfl) (by kernel_rfl) (by kernel_rfl) (fun _ _ _ h => h) (Or.inl ⟨by rfl, ?_⟩) (by assumption) ?_
  rotate_left
  · (intro wx hSw; (try dsimp only at hSw); go_simp; try with_reducible rfl)
  try simp only [Act.put, List.getElem_toArray, List.getElem_cons_succ, List.getElem_cons_zero, List.setIfInBounds_toArray, List.set_cons_zero, List.set_cons_succ]
  refine wpAnyH_take (i := 26) (v := ?_) rfl (by kernel_rfl) (by kernel_rfl) (by kernel_rfl) (fun _ _ _ h => h) (Or.inl ⟨by rfl, ?_⟩) (by assumption) ?_
  rotate_left
  · (intro wx hSw; (try dsimp only at hSw); go_simp; try with_reducible rfl)
  try simp only [Act.put, List.getElem_toArray, List.getElem_cons_succ, List.getElem_cons_zero, List.setIfInBounds_toArray, List.set_cons_zero, List.set_cons_succ]
  refine wpAnyH_take (i := 27) (v := ?_) rfl (by kernel_rfl) (by kernel_rfl) (by kernel_rfl) (fun _ _ _ h => h) (Or.inl ⟨by rfl, ?_⟩) (by assumption) ?_
  rotate_left
  · (intro wx hSw; (try dsimp only at hSw); go_simp; try with_reducible rfl)
  try simp only [Act.put, List.getElem_toArray, List.getElem_cons_succ, List.getElem_cons_zero, List.setIfInBounds_toArray, List.set_cons_zero, List.set_cons_succ]
  refine wpAnyH_take (i := 28) (v := ?_) rfl (by kernel_rfl) (by kernel_rfl) (by kernel_rfl) (fun _ _ _ h => h) (Or.inl ⟨by rfl, ?_⟩) (by assumption) ?_
  rotate_left
  · (intro wx hSw; (try dsimp only at hSw); go_simp; try with_reducible rfl)
  try simp only [Act.put, List.getElem_toArray, List.getElem_cons_succ, List.getElem_cons_zero, List.setIfInBounds_toArray, List.set_cons_zero, List.set_cons_succ]
  refine wpAnyH_take (i := 29) (v := ?_) rfl (by kernel_rfl) (by kernel_rfl) (by kernel_rfl) (fun _ _ _ h => h) (Or.inl ⟨by rfl, ?_⟩) (by assumption) ?_
  rotate_left
  · (intro wx hSw; (try dsimp only at hSw); go_simp; try with_reducible rfl)
  try simp only [Act.put, List.getElem_toArray, List.getElem_cons_succ, List.getElem_cons_zero, List.setIfInBounds_toArray, List.set_cons_zero, List.set_cons_succ]
  refine wpAnyH_ready (rs := [30]) (by kernel_rfl) (by simp) (AllReadyH.cons rfl (fun K hK => ?_) AllReadyH.nil)
  go_simp
  refine (awake_any _).mono ?_
  rintro e w8 ⟨rfl, b8⟩
  have s8 : Since w5 w8 := Since.on s7 b8
  try go_wp2_with fail
  refine hK.out _ _ ?_ (fun hHeld => ?_)
  · exact s8
  clear hK K
  try simp only [Act.put, List.getElem_toArray, List.getElem_cons_succ, List.getElem_cons_zero, List.setIfInBounds_toArray, List.set_cons_zero, List.set_cons_succ]
  refine wpAnyH_take (i := 31) (v := ?_) rfl (by kernel_rfl) (by kernel_rfl) (by kernel_rfl) (fun _ _ _ h => h) (Or.inl ⟨by rfl, ?_⟩) (by assumption) ?_
  rotate_left
  · (intro wx hSw; (try dsimp only at hSw); go_simp; try with_reducible rfl)
  try simp only [Act.put, List.getElem_toArray, List.getElem_cons_succ, List.getElem_cons_zero, List.setIfInBounds_toArray, List.set_cons_zero, List.set_cons_succ]
  refine wpAnyH_take (i := 32) (v := ?_) rfl (by kernel_rfl) (by kernel_rfl) (by kernel_rfl) (fun _ _ _ h => h) (Or.inl ⟨by rfl, ?_⟩) (by assumption) ?_
  rotate_left
  · (intro wx hSw; (try dsimp only at hSw); go_simp; try with_reducible rfl)
  try simp only [Act.put, List.getElem_toArray, List.getElem_cons_succ, List.getElem_cons_zero, List.setIfInBounds_toArray, List.set_cons_zero, List.set_cons_succ]
  refine wpAnyH_done (by kernel_rfl) ?_ _
  try simp only [Act.put, List.getElem_toArray, List.getElem_cons_succ, List.getElem_cons_zero, List.setIfInBounds_toArray, List.set_cons_zero, List.set_cons_succ]
  have hbf : Below w.heap.size w w8 := hb4.trans ((Since.on s5 s8).mono hb4z)
  go_wp2
  go_ret
  exact ⟨rfl, hbf⟩
end Go.Proofs.Ytcihgnkmikhboaa
