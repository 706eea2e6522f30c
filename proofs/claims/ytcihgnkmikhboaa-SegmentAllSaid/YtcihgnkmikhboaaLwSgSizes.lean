/-
  The walk of SegmentSizes.
-/
import Derived.Test.YtcihgnkmikhboaaSga
import Derived.Deep.DeepCutAuto
set_option linter.unusedVariables false
set_option linter.unusedSimpArgs false
namespace Go.Proofs.Ytcihgnkmikhboaa
open Go Go.RowKit
attribute [local go_sem ↓] Go.wp_at_zero Go.wp_at_succ

theorem lay_length_more : ∀ (n : Nat) (c : List UInt8) (r : Nat) (o : Bool), c.length ≤ n → 0 < r → c.length + 6 ≤ (lay r o c).length
  | n, c, r, o, hn, h0 => by
    by_cases hc : c.length ≤ r
    · rw [lay_short hc, pc_length]; omega
    · rw [lay_long h0 (by omega), List.length_append, pc_length, List.length_take]
      match n, hn with
      | 0, hn => omega
      | n + 1, hn =>
        have := lay_length_more n (c.drop r) 122 false (by rw [List.length_drop]; omega) (by omega)
        rw [List.length_drop] at this
        omega
theorem put_length_more (p : Nat) (c : List UInt8) : c.length + 6 ≤ (put p c).length := by
  unfold put frm
  rw [List.length_append]
  have := lay_length_more c.length c (rm p) true (Nat.le_refl _) (rm_pos p).1
  omega

/-- How long what Put lays is: a piece at a time. -/
theorem frm_step (p : Nat) (o : Bool) (m : Nat) : (frm p o (List.replicate m 0)).length = gap p + 6 + (if m ≤ rm p then m else rm p + (frm (p + gap p + 6 + rm p) false (List.replicate (m - rm p) 0)).length) := by
  have h0 := rm_pos p
  unfold frm
  rw [List.length_append, List.length_replicate, Nat.add_assoc]
  congr 1
  split
  · rename_i h
    rw [lay_short (by rw [List.length_replicate]; exact h), pc_length, List.length_replicate]
  · rename_i h
    have hg : gap (p + gap p) = 0 := by
      unfold gap left
      split
      · rw [if_neg (by omega)]
      · rw [Nat.add_zero, if_neg (by assumption)]
    have hr : rm (p + gap p) = rm p := by
      unfold rm gap left
      split
      · rw [if_neg (by omega)]; omega
      · rw [Nat.add_zero, if_neg (by assumption)]
    have hn := (next_full hg).1
    rw [hr] at hn
    obtain ⟨g1, g2⟩ := at_full hn
    rw [lay_long h0.1 (by rw [List.length_replicate]; omega), List.length_append, pc_length, List.length_take, List.length_replicate, List.drop_replicate, g1, g2, List.length_append, List.length_replicate]
    omega

theorem own_nil (w : World) (B : Nat) : w.ownsRow B 5 1 (.slice none 0 0) 0 (Lib.byteCells []) := World.ownsRow_nil _ _ _ _
/-- A text of noughts. -/
theorem zeros_text (w : World) (k : Nat) (z : ByteArray) (hz : z.data.toList = List.replicate k 0) (hk : k ≤ 70368744177664) :
    ∃ cs : Array Value, (∀ wx : World, (Instr.makeSlice 22 (.int .i64 (k : Nat)) (.int .i64 (k : Nat))).run Try.prog wx = .ok (.slice (some ⟨wx.heap.size, 0, none⟩) k k) (wx.alloc (.cells cs 5))) ∧
      (∀ wx : World, Rd (wx.alloc (.cells cs 5)) (wx.heap.size + 1) (some ⟨wx.heap.size, 0, none⟩) k (List.replicate k 0)) ∧
      (∀ wx : World, (convert 22 9 (.slice (some ⟨wx.heap.size, 0, none⟩) k k)).run Try.prog (wx.alloc (.cells cs 5)) = .ok (.string z) (wx.alloc (.cells cs 5))) ∧
      (∀ wx : World, (convert 22 9 (.slice (some ⟨wx.heap.size, 0, none⟩) k k)).run Try.prog (wx.alloc (.cells cs 5)).drew = .ok (.string z) (wx.alloc (.cells cs 5)).drew) :=
  ⟨_, fun wx => run_makeB wx k hk, fun wx => made_rd wx k, fun wx => cv_as (made_rd wx k) k z hz, fun wx => cv_as (made_rd wx k).drew k z hz⟩

theorem one_text {k : Nat} {T : List ByteArray} (h : Ans (put 0 (List.replicate k 0)) (lists T)) : ∃ t, T = [t] ∧ t.size = k ∧ k < (puts 0 (lists T)).length := by
  have hT : lists T = [List.replicate k 0] := by
    refine h.unique ?_
    have := Ans.all [List.replicate k 0]
    rw [puts_one] at this
    exact this
  have hg := put_length_more 0 (List.replicate k 0)
  rw [List.length_replicate] at hg
  have hl := lists_length T
  rw [hT] at hl
  match T, hl with
  | [t], _ =>
    refine ⟨t, rfl, ?_, by rw [hT, puts_one]; omega⟩
    have : t.data.toList = List.replicate k 0 := by
      have h2 : [t.data.toList] = [List.replicate k 0] := hT
      injection h2
    rw [Lib.size_eq, this, List.length_replicate]

set_option maxHeartbeats 8000000 in
set_option maxRecDepth 100000 in
theorem sizes_law (hd n : Int) (w : World) (hh : (Lit.int .i64 hd).wf = true) (hn : (Lit.int .i64 n).wf = true) :
    Calls Try.prog 6 #[.int .i64 hd, .int .i64 n] w fun e w' => e = .returned (.bool true) ∧ Below w.heap.size w w' := by
  have hh2 := bounds_i64 hh
  have hn2 := bounds_i64 hn
  clear hh hn
  obtain ⟨h, hhe⟩ : ∃ h : Nat, hd % 300 = h := ⟨(hd % 300).toNat, by omega⟩
  obtain ⟨k, hke⟩ : ∃ k : Nat, n % 700 = k := ⟨(n % 700).toNat, by omega⟩
  have hhl : h ≤ 299 := by omega
  have hkl : k ≤ 699 := by omega
  have HH := Lib.hid hhe
  have HK := Lib.hid hke
  clear hhe hke
  obtain ⟨z, hz⟩ : ∃ z : ByteArray, z.data.toList = List.replicate k 0 := ⟨⟨(List.replicate k 0).toArray⟩, rfl⟩
  have hzs : z.size = k := by rw [Lib.size_eq, hz, List.length_replicate]
  obtain ⟨cs, hmk, hrk, hcv, hcv2⟩ := zeros_text w k z hz (by omega)
  obtain ⟨zh, hzh⟩ : ∃ z : ByteArray, z.data.toList = List.replicate h 0 := ⟨⟨(List.replicate h 0).toArray⟩, rfl⟩
  obtain ⟨ch, hmkh, hrh, hj1, hj2⟩ := zeros_text w h zh hzh (by omega)
  clear hj1 hj2
  have HZ := Lib.hid hz
  have HRK := Lib.hid hrk
  have HRH := Lib.hid hrh
  clear hz hrk hrh hzh
  go_enter Try.func6, Try.ntmps6
  go_wp2_with fail
  refine (place_any hd 300 _ (by omega) (by omega) hh2).mono ?_
  rintro e w1 ⟨rfl, rfl⟩
  rw [HH.out]
  go_wp2_with fail
  refine (place_any n 700 _ (by omega) (by omega) hn2).mono ?_
  rintro e w1 ⟨rfl, rfl⟩
  rw [HK.out]
  obtain ⟨tot, htot⟩ : ∃ tot : Nat, h + (put h (List.replicate k 0)).length = tot := ⟨_, rfl⟩
  have htl : tot ≤ 100000 := by
    have := put_length_le h (List.replicate k 0)
    rw [List.length_replicate] at this
    omega
  have HTOT := Lib.hid htot
  clear htot
  have FA : Rd ((w.alloc (.cells ch 5)).drew) (w.heap.size + 1) (some ⟨w.heap.size, 0, none⟩) h (List.replicate h 0) := (HRH.out w).drew
  have FB : Rd (((w.alloc (.cells ch 5)).alloc (.cells cs 5)).drew) (w.heap.size + 1) (some ⟨w.heap.size, 0, none⟩) h (List.replicate h 0) := ((HRH.out w).alloc (by simp) _).drew
  have FZ : Rd (((w.alloc (.cells ch 5)).alloc (.cells cs 5)).drew) (w.heap.size + 1 + 1) (some ⟨w.heap.size + 1, 0, none⟩) k (List.replicate k 0) := by
    have := (HRK.out (w.alloc (.cells ch 5))).drew
    simpa using this
  have KB := cv_as FZ k z HZ.out
  have hbA : Below w.heap.size w ((w.alloc (.cells ch 5)).drew) := ((Below.refl _ _).alloc (Nat.le_refl _) _).drew
  have hbB : Below w.heap.size w (((w.alloc (.cells ch 5)).alloc (.cells cs 5)).drew) := (((Below.refl _ _).alloc (Nat.le_refl _) _).alloc (by simp) _).drew
  go_upto_region 3 with fail
  go_cut [8] (fun s8 wx => (∃ A c, s8 = .slice A tot c) ∧ Below w.heap.size w wx)
  case first =>
    go_region_law (first
      | (refine step_ex rfl (.const (.slice none 0 0)) (.tmp 22) _ _ rfl (.slice none 0 0) (.slice (some ⟨w.heap.size, 0, none⟩) h h) (by simp [Act.eval, Act.put]) (by simp [Act.eval, Act.put]) (run_appOwn w.heap.size (own_nil _ _) h FA ?s1 ?s2) ?_
         case s1 => omega
         case s2 => exact hbA.size
         intro v1 wA ho1 hg1
         rw [Nat.zero_add, List.nil_append] at ho1
         have hbw := hbA.grown hg1 hbA.size (fun g hg => by cases hg)
         obtain ⟨A1, c1, rfl, q1, q2, q3, q4⟩ := Rd.of_own ho1
         have q5 := q4.alloc (Nat.le_refl _) (.cells cs 5)
         have hbx := hbw.alloc hbw.size (.cells cs 5))
      | (refine step_ex rfl (.const (.slice none 0 0)) (.tmp 22) _ _ rfl (.slice none 0 0) (.slice (some ⟨w.heap.size, 0, none⟩) h h) (by simp [Act.eval, Act.put]) (by simp [Act.eval, Act.put]) (run_appOwn w.heap.size (own_nil _ _) h FB ?s3 ?s4) ?_
         case s3 => omega
         case s4 => exact hbB.size
         intro v1 wA ho1 hg1
         rw [Nat.zero_add, List.nil_append] at ho1
         have hbw := hbB.grown hg1 hbB.size (fun g hg => by cases hg)
         obtain ⟨A1, c1, rfl, q1, q2, q3, q4⟩ := Rd.of_own ho1
         have q5 := q4
         have hbx := hbw
         have kz := cv_as (FZ.below ((Below.refl _ _).grown hg1 (by simp) (fun g hg => by cases hg))) k z HZ.out)
      | (go_simp; go_at_call 11; refine (put_any A1 h c1 _ _ z _ q5 (by simp) q1 q2 (by omega) (by omega)).mono ?_; rintro e w2 ⟨A2, n2, c2, rfl, hl2, hn2, hc2, hA2, hr2, b2⟩))
    all_goals
      have hbe := hbx.trans (b2.mono hbx.size)
      have ht2 : n2 = tot := by
        rw [← hl2, List.length_append, List.length_replicate, HZ.out, HTOT.out]
      subst ht2
      go_wp2_with fail
      go_meet
      exact ⟨⟨_, _, rfl⟩, hbe⟩
  case rest =>
    obtain ⟨⟨Ac, cc, rfl⟩, hb0⟩ := hcut
    clear FA FB FZ KB hbA hbB hmkh HRH
    have hstart : h + (frm h true (List.replicate k 0)).length = tot := HTOT.out
    have HST := Lib.hid hstart
    clear hstart
    go_wp2_with fail
    go_loop [9, 10, 11] (fun v9 v10 v11 => ∃ (p m c : Nat) (o : Bool), v9 = .int .i64 p ∧ v10 = .int .i64 m ∧ v11 = .int .i64 c ∧ m ≤ k ∧ p ≤ tot ∧ p + (frm p o (List.replicate m 0)).length = tot ∧ ((c = 0 ∧ m = k) ∨ (1 ≤ c ∧ p % 128 = 0 ∧ (c - 1) * 122 + m ≤ k ∧ 0 < m))) (fun _ v10 _ => (intOf v10).toNat)
    case atStart => exact ⟨h, k, 0, true, rfl, rfl, rfl, Nat.le_refl _, by have := HST.out; omega, HST.out, Or.inl ⟨rfl, rfl⟩⟩
    case round =>
      obtain ⟨p, m, c, o, rfl, rfl, rfl, hm, hp, hsum, hcc⟩ := hrel
      rw [frm_step] at hsum
      have hrm := rm_pos p
      obtain ⟨r, hr⟩ : ∃ r : Nat, p % 128 = r := ⟨_, rfl⟩
      have hr2 : r ≤ 127 := by omega
      have hmod : (p : Int) % 128 = (r : Nat) := by omega
      have hlf : left p = 128 - r := by unfold left; rw [hr]
      have hrI : 0 ≤ (r : Int) ∧ (r : Int) ≤ 127 := by omega
      have hc7 : c ≤ 7 := by omega
      by_cases hg : 128 - r < 7
      · have hgap : gap p = 128 - r := by unfold gap; rw [hlf, if_pos hg]
        have hrm2 : rm p = 122 := by unfold rm; rw [hlf, if_pos hg]
        rw [hgap, hrm2] at hsum
        rcases (show m < 122 ∨ m = 122 ∨ 122 < m from by omega) with hm1 | hm1 | hm1
        · rw [if_pos (by omega)] at hsum
          have hfin : (tot : Int) = (p : Int) + (128 - (r : Int)) + 6 + (m : Int) := by omega
          have t1 : ((tot : Int) != (p : Int) + (128 - (r : Int)) + 6 + (m : Int)) = false := by rw [bne_eq_false_iff_eq]; exact hfin
          have t0 : ((m : Int) - (m : Int) == 0) = true := by rw [beq_iff_eq]; omega
          have hcq : (c : Int) ≤ (k : Int) / 122 + 1 := by omega
          have t2 : decide ((1 : Int) + (k : Int) / 122 + 2 < (c : Int) + 1) = false := by simp; omega
          clear hfin hsum hr hgap hrm2 hrm hlf hcc hrI
          go_wp2_with fail
          refine (put_any none 0 0 0 [] z _ (Rd.nil _ _) (Nat.zero_le _) (Nat.le_refl _) (by unfold maxLen; omega) (by omega) (by omega)).mono ?_
          rintro e w2 ⟨A3, n3, c3, rfl, hl3, hn3, hc3, hA3, hr3, b3⟩
          rw [HZ.out, List.nil_append] at hl3 hr3
          have hn3l : n3 ≤ 100000 := by
            have := put_length_le 0 (List.replicate k 0)
            rw [hl3, List.length_replicate] at this
            omega
          have HL3 := Lib.hid hl3
          clear hl3
          go_wp2_with fail
          refine (scan_any A3 n3 c3 _ (put 0 (List.replicate k 0)) _ hr3 (Nat.le_refl _) hn3 hc3 (by omega)).mono ?_
          rintro e w3 ⟨A4, n4, c4, T, rfl, b4, hr4, hn4, hc4, hA4, hans⟩
          obtain ⟨t, rfl, htz, hgl⟩ := one_text hans
          obtain ⟨gd, hgd⟩ : ∃ gd, (puts 0 (lists [t])).length = gd := ⟨_, rfl⟩
          rw [hgd] at hgl ⊢
          have hn1 : 1 = n4 := hr4.1
          subst hn1
          obtain ⟨g4, o4, rfl, _, hc4'⟩ := hr4.at2 (j := 0) (by omega)
          have hcell := hc4' 0 (by simp)
          rw [Nat.add_zero] at hcell
          change w3.cell? ⟨g4, o4, none⟩ = some (.string t) at hcell
          have hbf : Below w.heap.size w w3 := (hb0.alloc hb0.size _).trans ((b3.mono (by have := hb0.size; simp; omega)).trans (b4.mono (by have := hb0.size; have := b3.size; simp at this; omega)))
          clear hc4' hr4 hr3 hans hgd
          go_wp2_with (go_at_call 8; refine (awake_any _).mono ?_; rintro e w4 ⟨rfl, b5⟩)
          go_ret
          exact ⟨rfl, hbf.trans (b5.mono hbf.size)⟩
        · rw [if_pos (by omega)] at hsum
          have hfin : (tot : Int) = (p : Int) + (128 - (r : Int)) + 6 + 122 := by omega
          have t1 : ((tot : Int) != (p : Int) + (128 - (r : Int)) + 6 + 122) = false := by rw [bne_eq_false_iff_eq]; exact hfin
          have t0 : ((m : Int) - 122 == 0) = true := by rw [beq_iff_eq]; omega
          have hcq : (c : Int) ≤ (k : Int) / 122 + 1 := by omega
          have t2 : decide ((1 : Int) + (k : Int) / 122 + 2 < (c : Int) + 1) = false := by simp; omega
          clear hfin hsum hr hgap hrm2 hrm hlf hcc hrI
          go_wp2_with fail
          refine (put_any none 0 0 0 [] z _ (Rd.nil _ _) (Nat.zero_le _) (Nat.le_refl _) (by unfold maxLen; omega) (by omega) (by omega)).mono ?_
          rintro e w2 ⟨A3, n3, c3, rfl, hl3, hn3, hc3, hA3, hr3, b3⟩
          rw [HZ.out, List.nil_append] at hl3 hr3
          have hn3l : n3 ≤ 100000 := by
            have := put_length_le 0 (List.replicate k 0)
            rw [hl3, List.length_replicate] at this
            omega
          have HL3 := Lib.hid hl3
          clear hl3
          go_wp2_with fail
          refine (scan_any A3 n3 c3 _ (put 0 (List.replicate k 0)) _ hr3 (Nat.le_refl _) hn3 hc3 (by omega)).mono ?_
          rintro e w3 ⟨A4, n4, c4, T, rfl, b4, hr4, hn4, hc4, hA4, hans⟩
          obtain ⟨t, rfl, htz, hgl⟩ := one_text hans
          obtain ⟨gd, hgd⟩ : ∃ gd, (puts 0 (lists [t])).length = gd := ⟨_, rfl⟩
          rw [hgd] at hgl ⊢
          have hn1 : 1 = n4 := hr4.1
          subst hn1
          obtain ⟨g4, o4, rfl, _, hc4'⟩ := hr4.at2 (j := 0) (by omega)
          have hcell := hc4' 0 (by simp)
          rw [Nat.add_zero] at hcell
          change w3.cell? ⟨g4, o4, none⟩ = some (.string t) at hcell
          have hbf : Below w.heap.size w w3 := (hb0.alloc hb0.size _).trans ((b3.mono (by have := hb0.size; simp; omega)).trans (b4.mono (by have := hb0.size; have := b3.size; simp at this; omega)))
          clear hc4' hr4 hr3 hans hgd
          go_wp2_with (go_at_call 8; refine (awake_any _).mono ?_; rintro e w4 ⟨rfl, b5⟩)
          go_ret
          exact ⟨rfl, hbf.trans (b5.mono hbf.size)⟩
        · rw [if_neg (by omega)] at hsum
          have t0 : ((m : Int) - 122 == 0) = false := by rw [beq_eq_false_iff_ne]; omega
          have hnx : (p + gap p + 6 + rm p) % 128 = 0 := by rw [hgap, hrm2]; omega
          have hpt : p + gap p + 6 + rm p ≤ tot := by rw [hgap, hrm2]; omega
          rw [← hgap, ← hrm2] at hsum
          have hms : m - rm p = m - 122 := by rw [hrm2]
          rw [hms] at hsum
          obtain ⟨p2, hp2⟩ : ∃ p2, p + gap p + 6 + rm p = p2 := ⟨_, rfl⟩
          have hsum2 : p2 + (frm p2 false (List.replicate (m - 122) 0)).length = tot := by
            rw [← hp2]
            rw [show p + gap p + 6 + rm p = p + gap p + 6 + rm p from rfl]
            omega
          have hp2I : (p2 : Int) = (p : Int) + (128 - (r : Int)) + 6 + 122 := by rw [← hp2, hgap, hrm2]; omega
          have hp2m : p2 % 128 = 0 := by rw [← hp2]; exact hnx
          have hp2t : p2 ≤ tot := by rw [← hp2]; exact hpt
          have hcn : 1 ≤ c + 1 ∧ (c + 1 - 1) * 122 + (m - 122) ≤ k ∧ 0 < m - 122 := by omega
          have HS := Lib.hid hsum2
          have HP := Lib.hid hp2I
          have HPM := Lib.hid hp2m
          have HCN := Lib.hid hcn
          clear hsum hsum2 hr hgap hrm2 hrm hlf hcc hrI hnx hpt hms hp2 hp2I hp2m hcn
          go_wp2
          go_round
          case rel => exact ⟨p2, m - 122, c + 1, false, by rw [HP.out], by go_num, by go_num, by omega, by omega, HS.out, Or.inr ⟨HCN.out.1, HPM.out, HCN.out.2.1, HCN.out.2.2⟩⟩
          case measure => simp [intOf]; omega
      · have hgap : gap p = 0 := by unfold gap; rw [hlf, if_neg hg]
        have hrm2 : rm p = 128 - r - 6 := by unfold rm; rw [hlf, if_neg hg]
        rw [hgap, hrm2] at hsum
        rcases (show m < 128 - r - 6 ∨ m = 128 - r - 6 ∨ 128 - r - 6 < m from by omega) with hm1 | hm1 | hm1
        · rw [if_pos (by omega)] at hsum
          have hfin : (tot : Int) = (p : Int) + 6 + (m : Int) := by omega
          have t1 : ((tot : Int) != (p : Int) + 6 + (m : Int)) = false := by rw [bne_eq_false_iff_eq]; exact hfin
          have t0 : ((m : Int) - (m : Int) == 0) = true := by rw [beq_iff_eq]; omega
          have hcq : (c : Int) ≤ (k : Int) / 122 + 1 := by omega
          have t2 : decide ((1 : Int) + (k : Int) / 122 + 2 < (c : Int) + 1) = false := by simp; omega
          clear hfin hsum hr hgap hrm2 hrm hlf hcc hrI
          go_wp2_with fail
          refine (put_any none 0 0 0 [] z _ (Rd.nil _ _) (Nat.zero_le _) (Nat.le_refl _) (by unfold maxLen; omega) (by omega) (by omega)).mono ?_
          rintro e w2 ⟨A3, n3, c3, rfl, hl3, hn3, hc3, hA3, hr3, b3⟩
          rw [HZ.out, List.nil_append] at hl3 hr3
          have hn3l : n3 ≤ 100000 := by
            have := put_length_le 0 (List.replicate k 0)
            rw [hl3, List.length_replicate] at this
            omega
          have HL3 := Lib.hid hl3
          clear hl3
          go_wp2_with fail
          refine (scan_any A3 n3 c3 _ (put 0 (List.replicate k 0)) _ hr3 (Nat.le_refl _) hn3 hc3 (by omega)).mono ?_
          rintro e w3 ⟨A4, n4, c4, T, rfl, b4, hr4, hn4, hc4, hA4, hans⟩
          obtain ⟨t, rfl, htz, hgl⟩ := one_text hans
          obtain ⟨gd, hgd⟩ : ∃ gd, (puts 0 (lists [t])).length = gd := ⟨_, rfl⟩
          rw [hgd] at hgl ⊢
          have hn1 : 1 = n4 := hr4.1
          subst hn1
          obtain ⟨g4, o4, rfl, _, hc4'⟩ := hr4.at2 (j := 0) (by omega)
          have hcell := hc4' 0 (by simp)
          rw [Nat.add_zero] at hcell
          change w3.cell? ⟨g4, o4, none⟩ = some (.string t) at hcell
          have hbf : Below w.heap.size w w3 := (hb0.alloc hb0.size _).trans ((b3.mono (by have := hb0.size; simp; omega)).trans (b4.mono (by have := hb0.size; have := b3.size; simp at this; omega)))
          clear hc4' hr4 hr3 hans hgd
          go_wp2_with (go_at_call 8; refine (awake_any _).mono ?_; rintro e w4 ⟨rfl, b5⟩)
          go_ret
          exact ⟨rfl, hbf.trans (b5.mono hbf.size)⟩
        · rw [if_pos (by omega)] at hsum
          have hfin : (tot : Int) = (p : Int) + 6 + (128 - (r : Int) - 6) := by omega
          have t1 : ((tot : Int) != (p : Int) + 6 + (128 - (r : Int) - 6)) = false := by rw [bne_eq_false_iff_eq]; exact hfin
          have t0 : ((m : Int) - (128 - (r : Int) - 6) == 0) = true := by rw [beq_iff_eq]; omega
          have hcq : (c : Int) ≤ (k : Int) / 122 + 1 := by omega
          have t2 : decide ((1 : Int) + (k : Int) / 122 + 2 < (c : Int) + 1) = false := by simp; omega
          clear hfin hsum hr hgap hrm2 hrm hlf hcc hrI
          go_wp2_with fail
          refine (put_any none 0 0 0 [] z _ (Rd.nil _ _) (Nat.zero_le _) (Nat.le_refl _) (by unfold maxLen; omega) (by omega) (by omega)).mono ?_
          rintro e w2 ⟨A3, n3, c3, rfl, hl3, hn3, hc3, hA3, hr3, b3⟩
          rw [HZ.out, List.nil_append] at hl3 hr3
          have hn3l : n3 ≤ 100000 := by
            have := put_length_le 0 (List.replicate k 0)
            rw [hl3, List.length_replicate] at this
            omega
          have HL3 := Lib.hid hl3
          clear hl3
          go_wp2_with fail
          refine (scan_any A3 n3 c3 _ (put 0 (List.replicate k 0)) _ hr3 (Nat.le_refl _) hn3 hc3 (by omega)).mono ?_
          rintro e w3 ⟨A4, n4, c4, T, rfl, b4, hr4, hn4, hc4, hA4, hans⟩
          obtain ⟨t, rfl, htz, hgl⟩ := one_text hans
          obtain ⟨gd, hgd⟩ : ∃ gd, (puts 0 (lists [t])).length = gd := ⟨_, rfl⟩
          rw [hgd] at hgl ⊢
          have hn1 : 1 = n4 := hr4.1
          subst hn1
          obtain ⟨g4, o4, rfl, _, hc4'⟩ := hr4.at2 (j := 0) (by omega)
          have hcell := hc4' 0 (by simp)
          rw [Nat.add_zero] at hcell
          change w3.cell? ⟨g4, o4, none⟩ = some (.string t) at hcell
          have hbf : Below w.heap.size w w3 := (hb0.alloc hb0.size _).trans ((b3.mono (by have := hb0.size; simp; omega)).trans (b4.mono (by have := hb0.size; have := b3.size; simp at this; omega)))
          clear hc4' hr4 hr3 hans hgd
          go_wp2_with (go_at_call 8; refine (awake_any _).mono ?_; rintro e w4 ⟨rfl, b5⟩)
          go_ret
          exact ⟨rfl, hbf.trans (b5.mono hbf.size)⟩
        · rw [if_neg (by omega)] at hsum
          have t0 : ((m : Int) - (128 - (r : Int) - 6) == 0) = false := by rw [beq_eq_false_iff_ne]; omega
          have hnx : (p + gap p + 6 + rm p) % 128 = 0 := by rw [hgap, hrm2]; omega
          have hpt : p + gap p + 6 + rm p ≤ tot := by rw [hgap, hrm2]; omega
          rw [← hgap, ← hrm2] at hsum
          have hms : m - rm p = m - (128 - r - 6) := by rw [hrm2]
          rw [hms] at hsum
          obtain ⟨p2, hp2⟩ : ∃ p2, p + gap p + 6 + rm p = p2 := ⟨_, rfl⟩
          have hsum2 : p2 + (frm p2 false (List.replicate (m - (128 - r - 6)) 0)).length = tot := by
            rw [← hp2]
            rw [show p + gap p + 6 + rm p = p + gap p + 6 + rm p from rfl]
            omega
          have hp2I : (p2 : Int) = (p : Int) + 6 + (128 - (r : Int) - 6) := by rw [← hp2, hgap, hrm2]; omega
          have hp2m : p2 % 128 = 0 := by rw [← hp2]; exact hnx
          have hp2t : p2 ≤ tot := by rw [← hp2]; exact hpt
          have hcn : 1 ≤ c + 1 ∧ (c + 1 - 1) * 122 + (m - (128 - r - 6)) ≤ k ∧ 0 < m - (128 - r - 6) := by omega
          have HS := Lib.hid hsum2
          have HP := Lib.hid hp2I
          have HPM := Lib.hid hp2m
          have HCN := Lib.hid hcn
          clear hsum hsum2 hr hgap hrm2 hrm hlf hcc hrI hnx hpt hms hp2 hp2I hp2m hcn
          go_wp2
          go_round
          case rel => exact ⟨p2, m - (128 - r - 6), c + 1, false, by rw [HP.out], by go_num, by go_num, by omega, by omega, HS.out, Or.inr ⟨HCN.out.1, HPM.out, HCN.out.2.1, HCN.out.2.2⟩⟩
          case measure => simp [intOf]; omega
end Go.Proofs.Ytcihgnkmikhboaa
