/-
  The walk of SegmentKinds.
-/
import Derived.Test.YtcihgnkmikhboaaLwSgSizes
set_option linter.unusedVariables false
set_option linter.unusedSimpArgs false
namespace Go.Proofs.Ytcihgnkmikhboaa
open Go Go.RowKit
attribute [local go_sem ↓] Go.wp_at_zero Go.wp_at_succ

theorem lay_front (r : Nat) (o : Bool) (c : List UInt8) (h0 : 0 < r) : ∃ e x, x.length ≤ r ∧ pc (pk o e) x <+: lay r o c := by
  by_cases h : c.length ≤ r
  · exact ⟨true, c, h, by rw [lay_short h]; exact List.prefix_rfl⟩
  · exact ⟨false, c.take r, by rw [List.length_take]; omega, by rw [lay_long h0 (by omega)]; exact List.prefix_append _ _⟩
/-- The first block left out. -/
theorem no_first (k : Nat) (hk : 122 < k) : Ans ((put 0 (List.replicate k 0)).drop 128) [] := by
  refine ⟨List.nil_prefix, fun b hb => ?_⟩
  have e : put 0 (List.replicate k 0) = pc (pk true false) ((List.replicate k 0).take 122) ++ lay 122 false ((List.replicate k 0).drop 122) := by
    unfold put
    rw [frm_of rfl]
    exact lay_long (by decide) (by rw [List.length_replicate]; exact hk)
  rw [e, List.drop_left' (by rw [pc_length, List.length_take, List.length_replicate]; omega)] at hb
  rw [List.nil_append, puts_one] at hb
  unfold put at hb
  rw [frm_of rfl] at hb
  obtain ⟨e1, x1, h1, f1⟩ := lay_front 122 false ((List.replicate k 0).drop 122) (by decide)
  obtain ⟨e2, x2, h2, f2⟩ := lay_front (rm 0) true b (by decide)
  have h3 := (rm_pos 0).2
  have := (pc_inj (by omega) (by omega) f1 (f2.trans hb)).1
  have := (pk_inj this).1
  cases this
theorem no_last (z : List UInt8) (m : Nat) (hm : m < (put 0 z).length) : Ans ((put 0 z).take m) [] := by
  have := Ans.torn [z] 0 m (by simp [puts]) (fun _ => by simpa [puts_one] using hm)
  rw [puts_one] at this
  exact this

def kL (n : Int) : Nat := (put 0 (List.replicate (200 + (n % 400).toNat) 0)).length
def kB (n : Int) : Nat := (kL n + 127) / 128
def kX (n wh : Int) : Nat := (wh % (kB n : Int)).toNat

set_option maxHeartbeats 20000000 in
set_option maxRecDepth 100000 in
theorem kinds_full (n wh : Int) (w : World) (hq : 128 * (kX n wh + 1) ≤ kL n) (hn : (Lit.int .i64 n).wf = true) (hw : (Lit.int .i64 wh).wf = true) :
    Calls Try.prog 7 #[.int .i64 n, .int .i64 wh] w fun e w' => e = .returned (.bool true) ∧ Below w.heap.size w w' := by
  have hn2 := bounds_i64 hn
  have hw2 := bounds_i64 hw
  clear hn hw
  obtain ⟨k0, hke⟩ : ∃ k : Nat, n % 400 = k := ⟨(n % 400).toNat, by omega⟩
  obtain ⟨k, hk0⟩ : ∃ k : Nat, 200 + k0 = k := ⟨_, rfl⟩
  have hkl : 200 ≤ k ∧ k ≤ 599 := by omega
  have hkI : (200 : Int) + (k0 : Nat) = (k : Nat) := by omega
  have HK := Lib.hid hke
  have hkw : (200 : Int) + n % 400 = (k : Nat) := by omega
  obtain ⟨z, hz⟩ : ∃ z : ByteArray, z.data.toList = List.replicate k 0 := ⟨⟨(List.replicate k 0).toArray⟩, rfl⟩
  have hzs : z.size = k := by rw [Lib.size_eq, hz, List.length_replicate]
  obtain ⟨cs, hmk, hrk, hcv, hcv2⟩ := zeros_text w k z hz (by omega)
  obtain ⟨P, hP⟩ : ∃ P, put 0 (List.replicate k 0) = P := ⟨_, rfl⟩
  obtain ⟨L, hL⟩ : ∃ L, P.length = L := ⟨_, rfl⟩
  have hL1 : 206 ≤ L ∧ L ≤ 100000 := by
    have h1 := put_length_more 0 (List.replicate k 0)
    have h2 := put_length_le 0 (List.replicate k 0)
    rw [hP, hL, List.length_replicate] at h1 h2
    omega
  obtain ⟨bl, hbl⟩ : ∃ bl : Nat, (L + 127) / 128 = bl := ⟨_, rfl⟩
  have hb2 : 2 ≤ bl ∧ bl ≤ 1000 := by omega
  have hblI : ((L : Int) + 128 - 1) / 128 = (bl : Nat) := by omega
  obtain ⟨x, hx⟩ : ∃ x : Nat, wh % (bl : Int) = x := ⟨(wh % (bl : Int)).toNat, by have := Int.emod_nonneg wh (show (bl : Int) ≠ 0 by omega); omega⟩
  have hx2 : x < bl := by have := Int.emod_lt_of_pos wh (show (0 : Int) < bl by omega); omega
  have hkL : kL n = L := by
    unfold kL
    rw [show (n % 400).toNat = k0 from by omega, hk0, hP, hL]
  have hkX : kX n wh = x := by
    unfold kX kB
    rw [hkL, hbl, hx]
    rfl
  rw [hkL, hkX] at hq
  clear hkL hkX
  have hfirst : x = 0 → Ans (P.take (128 * x) ++ P.drop (min (128 * (x + 1)) L)) [] := by
    rintro rfl
    have := no_first k (by omega)
    rw [hP] at this
    rw [show min (128 * (0 + 1)) L = 128 from by omega]
    simpa using this
  have hlast : x = bl - 1 → Ans (P.take (128 * x) ++ P.drop (min (128 * (x + 1)) L)) [] := by
    intro h
    have := no_last (List.replicate k 0) (128 * x) (by rw [hP, hL]; omega)
    rw [hP] at this
    rw [show min (128 * (x + 1)) L = L from by omega, List.drop_of_length_le (by omega), List.append_nil]
    exact this
  have HZ := Lib.hid hz
  have HP := Lib.hid hP
  have HL := Lib.hid hL
  have HX := Lib.hid hx
  have HBL := Lib.hid hbl
  have HF := Lib.hid hfirst
  have HLA := Lib.hid hlast
  clear hz hP hL hx hbl hfirst hlast hke hk0 hkw hrk
  go_enter Try.func7, Try.ntmps7
  go_wp2_with fail
  refine (place_any n 400 _ (by omega) (by omega) hn2).mono ?_
  rintro e w1 ⟨rfl, rfl⟩
  rw [HK.out]
  go_wp2_with fail
  refine (put_any none 0 0 0 [] z _ (Rd.nil _ _) (Nat.zero_le _) (Nat.le_refl _) (by unfold maxLen; omega) (by omega) (by omega)).mono ?_
  rintro e w2 ⟨A3, n3, c3, rfl, hl3, hn3, hc3, hA3, hr3, b3⟩
  rw [HZ.out, List.nil_append, HP.out] at hl3 hr3
  rw [HL.out] at hl3
  subst hl3
  have hx128 : 128 * x ≤ L := by have := HBL.out; omega
  obtain ⟨hs1, hr1⟩ := sl_h hr3 hn3 hA3 (128 * (x : Int)) (128 * x) (by omega) hx128
  go_wp2_with fail
  refine (place_any wh bl _ (by omega) (by omega) hw2).mono ?_
  rintro e w3 ⟨rfl, rfl⟩
  rw [HX.out]
  have hb3 : Below w.heap.size w w2 := ((Below.refl _ _).alloc (Nat.le_refl _) _).trans (b3.mono (by simp))
  go_wp2_with (at_builtin; refine list_ex rfl (.const (.slice none 0 0)) (.tmp 40) _ _ rfl (.slice none 0 0) (.slice A3 (128 * x) c3) rfl rfl (run_appOwn w.heap.size (own_nil _ _) c3 hr1 ?s1 ?s2) ?_)
  case s1 => omega
  case s2 => exact hb3.size
  intro v1 w4 ho1 hg1
  have hb4 := hb3.grown hg1 hb3.size (fun g hg => by cases hg)
  have hr4 : Rd w4 w4.heap.size A3 L P := hr3.on ((Below.refl _ _).grown hg1 (Nat.le_refl _) (fun g hg => by cases hg)) hg1.size
  try simp only [Nat.zero_add, List.nil_append] at ho1
  obtain ⟨m, hm⟩ : ∃ m, min (128 * (x + 1)) L = m := ⟨_, rfl⟩
  have hmv : m = 128 * (x + 1) := by rw [← hm]; omega
  have hmL : m ≤ L := by omega
  have HM := Lib.hid hm
  clear hm
  obtain ⟨A5, hs5, hr5⟩ := sl_l hr4 hn3 (128 * ((x : Int) + 1)) m (by omega) hmL
  have hsum4 : 128 * x + (L - m) ≤ 140737488355328 := by omega
  have hsum5 : 128 * x + (L - m) ≤ 200000 := by omega
  clear hmv
  go_wp2_with (at_builtin; refine list_ex rfl (.tmp 42) (.tmp 50) _ _ rfl v1 (.slice A5 (L - m) (c3 - m)) rfl rfl (run_appOwn w.heap.size ho1 (c3 - m) hr5 hsum4 hb4.size) ?_)
  intro v2 w5 ho2 hg2
  have hbc := grown_own hb4 ho1 hg2
  obtain ⟨A6, c6, rfl, g1, g2, g3, g4⟩ := Rd.of_own ho2
  obtain ⟨tt, htt⟩ : ∃ tt, 128 * x + (L - m) = tt := ⟨_, rfl⟩
  rw [htt] at g1 g4 hsum5 ho2 ⊢
  clear htt hsum4 ho2 hg2
  clear hs1 hs5 hr1 hr5 hr4 hr3 ho1 hg1
  go_wp2_with fail
  refine (scan_any A6 tt c6 _ _ _ g4 (Nat.le_refl _) g1 g2 (by omega)).mono ?_
  rintro e w6 ⟨A7, n7, c7, T, rfl, b7, hr7, hn7, hc7, hA7, hans⟩
  rw [← HM.out] at hans
  have hbf := hbc.trans (b7.mono hbc.size)
  obtain ⟨gd, hgd⟩ : ∃ gd, (puts 0 (lists T)).length = gd := ⟨_, rfl⟩
  rw [hgd]
  have hzero : n7 = 0 → gd = 0 := by
    intro h
    have h1 := hr7.1
    rw [h] at h1
    rw [← hgd, List.eq_nil_of_length_eq_zero h1]
    rfl
  by_cases hn70 : n7 = 0
  · have hgd0 := hzero hn70
    subst hn70
    subst hgd0
    clear hgd hans hr7 hzero
    go_wp2_with (go_at_call 8; refine (awake_any _).mono ?_; rintro e w7 ⟨rfl, b8⟩)
    go_ret
    exact ⟨rfl, hbf.trans (b8.mono hbf.size)⟩
  · have hmid : 0 < x ∧ x < bl - 1 := by
      have key : ∀ h : Ans (P.take (128 * x) ++ P.drop (min (128 * (x + 1)) L)) [], False := by
        intro h
        have h2 := hans.unique h
        have h3 := lists_length T
        rw [h2] at h3
        exact hn70 (by rw [← hr7.1, ← h3]; rfl)
      refine ⟨Nat.pos_of_ne_zero fun h => key (HF.out h), ?_⟩
      have : x ≠ bl - 1 := fun h => key (HLA.out h)
      omega
    obtain ⟨hm1, hm2⟩ := hmid
    have e1 : ((n7 : Int) == 0) = false := by rw [beq_eq_false_iff_ne]; omega
    have e2 : decide ((0 : Int) < (x : Nat)) = true := by simp; omega
    have e3 : decide ((x : Int) < (bl : Int) - 1) = true := by simp; omega
    clear hgd hans hr7 hzero
    go_wp2_with (go_at_call 8; refine (awake_any _).mono ?_; rintro e w7 ⟨rfl, b8⟩)
    go_ret
    exact ⟨rfl, hbf.trans (b8.mono hbf.size)⟩

set_option maxHeartbeats 20000000 in
set_option maxRecDepth 100000 in
theorem kinds_last (n wh : Int) (w : World) (hq : kL n < 128 * (kX n wh + 1)) (hn : (Lit.int .i64 n).wf = true) (hw : (Lit.int .i64 wh).wf = true) :
    Calls Try.prog 7 #[.int .i64 n, .int .i64 wh] w fun e w' => e = .returned (.bool true) ∧ Below w.heap.size w w' := by
  have hn2 := bounds_i64 hn
  have hw2 := bounds_i64 hw
  clear hn hw
  obtain ⟨k0, hke⟩ : ∃ k : Nat, n % 400 = k := ⟨(n % 400).toNat, by omega⟩
  obtain ⟨k, hk0⟩ : ∃ k : Nat, 200 + k0 = k := ⟨_, rfl⟩
  have hkl : 200 ≤ k ∧ k ≤ 599 := by omega
  have hkI : (200 : Int) + (k0 : Nat) = (k : Nat) := by omega
  have HK := Lib.hid hke
  have hkw : (200 : Int) + n % 400 = (k : Nat) := by omega
  obtain ⟨z, hz⟩ : ∃ z : ByteArray, z.data.toList = List.replicate k 0 := ⟨⟨(List.replicate k 0).toArray⟩, rfl⟩
  have hzs : z.size = k := by rw [Lib.size_eq, hz, List.length_replicate]
  obtain ⟨cs, hmk, hrk, hcv, hcv2⟩ := zeros_text w k z hz (by omega)
  obtain ⟨P, hP⟩ : ∃ P, put 0 (List.replicate k 0) = P := ⟨_, rfl⟩
  obtain ⟨L, hL⟩ : ∃ L, P.length = L := ⟨_, rfl⟩
  have hL1 : 206 ≤ L ∧ L ≤ 100000 := by
    have h1 := put_length_more 0 (List.replicate k 0)
    have h2 := put_length_le 0 (List.replicate k 0)
    rw [hP, hL, List.length_replicate] at h1 h2
    omega
  obtain ⟨bl, hbl⟩ : ∃ bl : Nat, (L + 127) / 128 = bl := ⟨_, rfl⟩
  have hb2 : 2 ≤ bl ∧ bl ≤ 1000 := by omega
  have hblI : ((L : Int) + 128 - 1) / 128 = (bl : Nat) := by omega
  obtain ⟨x, hx⟩ : ∃ x : Nat, wh % (bl : Int) = x := ⟨(wh % (bl : Int)).toNat, by have := Int.emod_nonneg wh (show (bl : Int) ≠ 0 by omega); omega⟩
  have hx2 : x < bl := by have := Int.emod_lt_of_pos wh (show (0 : Int) < bl by omega); omega
  have hkL : kL n = L := by
    unfold kL
    rw [show (n % 400).toNat = k0 from by omega, hk0, hP, hL]
  have hkX : kX n wh = x := by
    unfold kX kB
    rw [hkL, hbl, hx]
    rfl
  rw [hkL, hkX] at hq
  clear hkL hkX
  have hfirst : x = 0 → Ans (P.take (128 * x) ++ P.drop (min (128 * (x + 1)) L)) [] := by
    rintro rfl
    have := no_first k (by omega)
    rw [hP] at this
    rw [show min (128 * (0 + 1)) L = 128 from by omega]
    simpa using this
  have hlast : x = bl - 1 → Ans (P.take (128 * x) ++ P.drop (min (128 * (x + 1)) L)) [] := by
    intro h
    have := no_last (List.replicate k 0) (128 * x) (by rw [hP, hL]; omega)
    rw [hP] at this
    rw [show min (128 * (x + 1)) L = L from by omega, List.drop_of_length_le (by omega), List.append_nil]
    exact this
  have HZ := Lib.hid hz
  have HP := Lib.hid hP
  have HL := Lib.hid hL
  have HX := Lib.hid hx
  have HBL := Lib.hid hbl
  have HF := Lib.hid hfirst
  have HLA := Lib.hid hlast
  clear hz hP hL hx hbl hfirst hlast hke hk0 hkw hrk
  go_enter Try.func7, Try.ntmps7
  go_wp2_with fail
  refine (place_any n 400 _ (by omega) (by omega) hn2).mono ?_
  rintro e w1 ⟨rfl, rfl⟩
  rw [HK.out]
  go_wp2_with fail
  refine (put_any none 0 0 0 [] z _ (Rd.nil _ _) (Nat.zero_le _) (Nat.le_refl _) (by unfold maxLen; omega) (by omega) (by omega)).mono ?_
  rintro e w2 ⟨A3, n3, c3, rfl, hl3, hn3, hc3, hA3, hr3, b3⟩
  rw [HZ.out, List.nil_append, HP.out] at hl3 hr3
  rw [HL.out] at hl3
  subst hl3
  have hx128 : 128 * x ≤ L := by have := HBL.out; omega
  obtain ⟨hs1, hr1⟩ := sl_h hr3 hn3 hA3 (128 * (x : Int)) (128 * x) (by omega) hx128
  go_wp2_with fail
  refine (place_any wh bl _ (by omega) (by omega) hw2).mono ?_
  rintro e w3 ⟨rfl, rfl⟩
  rw [HX.out]
  have hb3 : Below w.heap.size w w2 := ((Below.refl _ _).alloc (Nat.le_refl _) _).trans (b3.mono (by simp))
  go_wp2_with (at_builtin; refine list_ex rfl (.const (.slice none 0 0)) (.tmp 40) _ _ rfl (.slice none 0 0) (.slice A3 (128 * x) c3) rfl rfl (run_appOwn w.heap.size (own_nil _ _) c3 hr1 ?s1 ?s2) ?_)
  case s1 => omega
  case s2 => exact hb3.size
  intro v1 w4 ho1 hg1
  have hb4 := hb3.grown hg1 hb3.size (fun g hg => by cases hg)
  have hr4 : Rd w4 w4.heap.size A3 L P := hr3.on ((Below.refl _ _).grown hg1 (Nat.le_refl _) (fun g hg => by cases hg)) hg1.size
  try simp only [Nat.zero_add, List.nil_append] at ho1
  obtain ⟨m, hm⟩ : ∃ m, min (128 * (x + 1)) L = m := ⟨_, rfl⟩
  have hmv : m = L := by rw [← hm]; omega
  have hmL : m ≤ L := by omega
  have HM := Lib.hid hm
  clear hm
  obtain ⟨A5, hs5, hr5⟩ := sl_l hr4 hn3 (L : Nat) m (by omega) hmL
  have hsum4 : 128 * x + (L - m) ≤ 140737488355328 := by omega
  have hsum5 : 128 * x + (L - m) ≤ 200000 := by omega
  clear hmv
  go_wp2_with (at_builtin; refine list_ex rfl (.tmp 42) (.tmp 50) _ _ rfl v1 (.slice A5 (L - m) (c3 - m)) rfl rfl (run_appOwn w.heap.size ho1 (c3 - m) hr5 hsum4 hb4.size) ?_)
  intro v2 w5 ho2 hg2
  have hbc := grown_own hb4 ho1 hg2
  obtain ⟨A6, c6, rfl, g1, g2, g3, g4⟩ := Rd.of_own ho2
  obtain ⟨tt, htt⟩ : ∃ tt, 128 * x + (L - m) = tt := ⟨_, rfl⟩
  rw [htt] at g1 g4 hsum5 ho2 ⊢
  clear htt hsum4 ho2 hg2
  clear hs1 hs5 hr1 hr5 hr4 hr3 ho1 hg1
  go_wp2_with fail
  refine (scan_any A6 tt c6 _ _ _ g4 (Nat.le_refl _) g1 g2 (by omega)).mono ?_
  rintro e w6 ⟨A7, n7, c7, T, rfl, b7, hr7, hn7, hc7, hA7, hans⟩
  rw [← HM.out] at hans
  have hbf := hbc.trans (b7.mono hbc.size)
  obtain ⟨gd, hgd⟩ : ∃ gd, (puts 0 (lists T)).length = gd := ⟨_, rfl⟩
  rw [hgd]
  have hzero : n7 = 0 → gd = 0 := by
    intro h
    have h1 := hr7.1
    rw [h] at h1
    rw [← hgd, List.eq_nil_of_length_eq_zero h1]
    rfl
  by_cases hn70 : n7 = 0
  · have hgd0 := hzero hn70
    subst hn70
    subst hgd0
    clear hgd hans hr7 hzero
    go_wp2_with (go_at_call 8; refine (awake_any _).mono ?_; rintro e w7 ⟨rfl, b8⟩)
    go_ret
    exact ⟨rfl, hbf.trans (b8.mono hbf.size)⟩
  · have hmid : 0 < x ∧ x < bl - 1 := by
      have key : ∀ h : Ans (P.take (128 * x) ++ P.drop (min (128 * (x + 1)) L)) [], False := by
        intro h
        have h2 := hans.unique h
        have h3 := lists_length T
        rw [h2] at h3
        exact hn70 (by rw [← hr7.1, ← h3]; rfl)
      refine ⟨Nat.pos_of_ne_zero fun h => key (HF.out h), ?_⟩
      have : x ≠ bl - 1 := fun h => key (HLA.out h)
      omega
    obtain ⟨hm1, hm2⟩ := hmid
    have e1 : ((n7 : Int) == 0) = false := by rw [beq_eq_false_iff_ne]; omega
    have e2 : decide ((0 : Int) < (x : Nat)) = true := by simp; omega
    have e3 : decide ((x : Int) < (bl : Int) - 1) = true := by simp; omega
    clear hgd hans hr7 hzero
    go_wp2_with (go_at_call 8; refine (awake_any _).mono ?_; rintro e w7 ⟨rfl, b8⟩)
    go_ret
    exact ⟨rfl, hbf.trans (b8.mono hbf.size)⟩

theorem kinds_law (n wh : Int) (w : World) (hn : (Lit.int .i64 n).wf = true) (hw : (Lit.int .i64 wh).wf = true) :
    Calls Try.prog 7 #[.int .i64 n, .int .i64 wh] w fun e w' => e = .returned (.bool true) ∧ Below w.heap.size w w' := by
  by_cases hq : 128 * (kX n wh + 1) ≤ kL n
  · exact kinds_full n wh w hq hn hw
  · exact kinds_last n wh w (by omega) hn hw
end Go.Proofs.Ytcihgnkmikhboaa
