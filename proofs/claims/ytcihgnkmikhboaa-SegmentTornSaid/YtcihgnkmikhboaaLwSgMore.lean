/-
  The walk of SegmentMore.
-/
import Derived.Test.YtcihgnkmikhboaaLwSgSizes
import Derived.Test.YtcihgnkmikhboaaOpnS
set_option linter.unusedVariables false
set_option linter.unusedSimpArgs false
namespace Go.Proofs.Ytcihgnkmikhboaa
open Go Go.RowKit
attribute [local go_sem ↓] Go.wp_at_zero Go.wp_at_succ

theorem puts_take_step (T : List ByteArray) (k : Nat) (h : k < T.length) : puts 0 (lists (T.take (k + 1))) = puts 0 (lists (T.take k)) ++ put (puts 0 (lists (T.take k))).length T[k].data.toList := by
  rw [List.take_succ_eq_append_getElem h, lists_snoc, puts_snoc]

theorem more_long (A : Option Addr) (n c : Nat) (T : List ByteArray) (cut : Int) (s : ByteArray) (w : World) (hn : n ≤ c) (hc : c ≤ maxLen) (hs : s.size ≤ maxLen) (hbig : 12 < n ∨ 400 < s.size) :
    Calls Try.prog 5 #[.slice A n c, .int .i64 cut, .string s] w fun e w' => e = .returned (.bool true) ∧ Below w.heap.size w w' := by
  unfold maxLen at hc hs
  by_cases h : 12 < n
  · have d1 : decide ((12 : Int) < n) = true := by simp; omega
    go_enter Try.func5, Try.ntmps5
    go_wp2_with (go_at_call 8; refine (awake_any _).mono ?_; rintro e w' ⟨rfl, b1⟩)
    go_ret
    exact ⟨rfl, b1⟩
  · have d1 : decide ((12 : Int) < n) = false := by simp; omega
    have d2 : decide ((400 : Int) < s.size) = true := by simp; omega
    go_enter Try.func5, Try.ntmps5
    go_wp2_with (go_at_call 8; refine (awake_any _).mono ?_; rintro e w' ⟨rfl, b1⟩)
    go_ret
    exact ⟨rfl, b1⟩

set_option maxHeartbeats 8000000 in
set_option maxRecDepth 100000 in
theorem more_law (A : Option Addr) (n c : Nat) (T : List ByteArray) (cut : Int) (s : ByteArray) (w : World) (hr : RdS w w.heap.size A n T) (hn : n ≤ c) (hc : c ≤ maxLen) (hA : A = none → c = 0) (hT : ∀ t ∈ T, t.size ≤ maxLen) (hw : (Lit.int .i64 cut).wf = true) (hs : s.size ≤ maxLen) :
    Calls Try.prog 5 #[.slice A n c, .int .i64 cut, .string s] w fun e w' => e = .returned (.bool true) ∧ Below w.heap.size w w' := by
  by_cases hbig : 12 < n ∨ 400 < s.size
  · exact more_long A n c T cut s w hn hc hs hbig
  have hw2 := bounds_i64 hw
  have hn12 : n ≤ 12 := by omega
  have hs400 : s.size ≤ 400 := by omega
  have d1 : decide ((12 : Int) < n) = false := by simp; omega
  have d2 : decide ((400 : Int) < s.size) = false := by simp; omega
  have hTl := hr.1
  have HTL := Lib.hid hTl
  have HT := Lib.hid hT
  unfold maxLen at hc
  clear hbig hw hT hTl hs
  go_enter Try.func5, Try.ntmps5
  go_wp2
  go_loopw [7, 8] (fun v7 v8 wr => ∃ (k m c1 : Nat) (A1 : Option Addr), v8 = .int .i64 k ∧ v7 = .slice A1 m c1 ∧ k ≤ n ∧ m ≤ 3000 * k ∧ m ≤ c1 ∧ c1 ≤ maxLen ∧ (A1 = none → c1 = 0) ∧ Rd wr wr.heap.size A1 m (puts 0 (lists (T.take k))) ∧ Below w.heap.size w wr) (fun _ v8 _ => n - (intOf v8).toNat)
  case atStart => exact ⟨0, 0, 0, none, rfl, rfl, Nat.zero_le _, by omega, Nat.le_refl _, Nat.zero_le _, fun _ => rfl, Rd.nil _ _, Below.refl _ _⟩
  case round =>
    obtain ⟨k, m, c1, A1, rfl, rfl, hk, hm, hmc, hcm, hA1, hrb, hb⟩ := hrel
    have hz := hb.size
    by_cases hlt : k < n
    · obtain ⟨g, o, rfl, hg, hcell⟩ := (hr.below hb).at2 hlt
      have hkl : k < T.length := by rw [HTL.out]; exact hlt
      have hck := hcell k hkl
      have htk := HT.out T[k] (List.getElem_mem hkl)
      unfold maxLen at htk
      by_cases h400 : 400 < T[k].size
      · have d3 : decide ((400 : Int) < T[k].size) = true := by simp; omega
        clear hcell
        go_wp2_with (go_at_call 8; refine (awake_any _).mono ?_; rintro e w' ⟨rfl, b1⟩)
        go_ret
        exact ⟨rfl, hb.trans (b1.mono hz)⟩
      · have d3 : decide ((400 : Int) < T[k].size) = false := by simp; omega
        have hst := puts_take_step T k hkl
        have hml := hrb.1
        rw [hml] at hst
        have hpl := put_length_le m T[k].data.toList
        rw [← Lib.size_eq] at hpl
        have HST := Lib.hid hst
        have HPL := Lib.hid hpl
        clear hcell hst hml hpl
        go_wp2_with fail
        refine (put_any A1 m c1 _ _ T[k] _ hrb (Nat.le_refl _) hmc hcm (by omega) (by omega)).mono ?_
        rintro e w1 ⟨A2, m2, c2, rfl, hl2, hmc2, hcm2, hA2, hr2, b2⟩
        rw [← HST.out] at hl2 hr2
        have hm2 : m2 ≤ 3000 * (k + 1) := by
          have h1 := HPL.out
          rw [HST.out, List.length_append, hrb.1] at hl2
          omega
        have HL2 := Lib.hid hl2
        clear hl2
        go_wp2
        go_roundw
        case rel => exact ⟨k + 1, m2, c2, A2, by go_num, rfl, by omega, hm2, hmc2, hcm2, hA2, hr2, hb.trans (b2.mono hz)⟩
        case measure => simp [intOf]; omega
    · obtain rfl : k = n := by omega
      rw [List.take_of_length_le (by rw [HTL.out]; exact Nat.le_refl _)] at hrb
      have hml := hrb.1
      obtain ⟨S, hS⟩ : ∃ S, puts 0 (lists T) = S := ⟨_, rfl⟩
      rw [hS] at hrb hml
      obtain ⟨x, hx⟩ : ∃ x : Nat, cut % ((m : Int) + 1) = x := ⟨(cut % ((m : Int) + 1)).toNat, by have := Int.emod_nonneg cut (show (m : Int) + 1 ≠ 0 by omega); omega⟩
      have hxm : x ≤ m := by have := Int.emod_lt_of_pos cut (show (0 : Int) < (m : Int) + 1 by omega); omega
      obtain ⟨hs1, hr1⟩ := sl_h hrb hmc hA1 (x : Nat) x rfl hxm
      have HX := Lib.hid hx
      have HS := Lib.hid hS
      have HML := Lib.hid hml
      clear hx hS hml hrb
      go_wp2_with fail
      refine (place_any cut ((m : Int) + 1) _ (by omega) (by omega) hw2).mono ?_
      rintro e w1 ⟨rfl, rfl⟩
      rw [HX.out]
      go_wp2_with fail
      refine (scan_any A1 x c1 _ (S.take x) _ hr1 (Nat.le_refl _) (by omega) hcm (by omega)).mono ?_
      rintro e w2 ⟨A2, n2, c2, M, rfl, b2, hr2, hn2, hc2, hA2, hans⟩
      obtain ⟨gd, hgd⟩ : ∃ gd, (puts 0 (lists M)).length = gd := ⟨_, rfl⟩
      rw [hgd]
      have hgx : gd ≤ x := by
        have := hans.1.length_le
        rw [List.length_take] at this
        omega
      have hpre : (S.take x).take gd = puts 0 (lists M) := by
        have := List.prefix_iff_eq_take.1 hans.1
        rw [hgd] at this
        exact this.symm
      have hr1b := hr1.on b2 b2.size
      obtain ⟨hs2, hr3⟩ := sl_h hr1b (show x ≤ c1 by omega) hA1 (gd : Nat) gd rfl hgx
      rw [hpre] at hr3
      have hM12 : n2 ≤ 40000 := by
        have h1 := puts_count (lists M) 0
        rw [lists_length, hr2.1, hgd] at h1
        omega
      have HGD := Lib.hid hgd
      have HANS := Lib.hid hans
      have hb2 := hb.trans (b2.mono hz)
      have d4 : decide ((x : Int) < (gd : Nat)) = false := by simp; omega
      have d5 : decide ((gd : Int) < 0) = false := by simp
      clear hgd hans hpre hr1 hr1b
      go_wp2_with (at_builtin; refine list_ex rfl (.const (.slice none 0 0)) (.tmp 64) _ _ rfl (.slice none 0 0) (.slice A1 gd c1) rfl rfl (run_appOwn w.heap.size (own_nil _ _) c1 hr3 ?s1 ?s2) ?_)
      case s1 => omega
      case s2 => exact hb2.size
      intro v1 w3 ho1 hg1
      have hb3 := hb2.grown hg1 hb2.size (fun g hg => by cases hg)
      have b3 : Below w2.heap.size w2 w3 := (Below.refl _ _).grown hg1 (Nat.le_refl _) (fun g hg => by cases hg)
      try simp only [Nat.zero_add, List.nil_append] at ho1
      obtain ⟨A3, c3, rfl, g1, g2, g3, g4⟩ := Rd.of_own ho1
      have hr2b := hr2.on b3 b3.size
      clear ho1 hg1 hr3 hr2
      go_wp2_with fail
      refine (put_any A3 gd c3 _ _ s _ g4 (Nat.le_refl _) g1 g2 (by omega) (by omega)).mono ?_
      rintro e w4 ⟨A4, n4, c4, rfl, hl4, hn4, hc4, hA4, hr4, b4⟩
      have hps : puts 0 (lists M) ++ put gd s.data.toList = puts 0 (lists (M ++ [s])) := by
        rw [lists_snoc, puts_snoc, HGD.out]
      rw [hps] at hl4 hr4
      have hlen4 : n4 ≤ 60000 := by
        have := put_length_le gd s.data.toList
        rw [← hl4, ← hps, List.length_append, HGD.out]
        rw [← Lib.size_eq] at this
        omega
      have HPS := Lib.hid hps
      have HL4 := Lib.hid hl4
      clear hps hl4
      have hb4 := hb3.trans (b4.mono hb3.size)
      have hr2c := hr2b.on b4 b4.size
      clear hr2b
      go_wp2_with fail
      refine (scan_any A4 n4 c4 _ (puts 0 (lists (M ++ [s]))) _ hr4 (Nat.le_refl _) hn4 hc4 (by omega)).mono ?_
      rintro e w5 ⟨A5, n5, c5, N, rfl, b5, hr5, hn5, hc5, hA5, hans5⟩
      obtain rfl : N = M ++ [s] := lists_inj (hans5.unique (Ans.all _))
      have hb5 := hb4.trans (b5.mono hb4.size)
      have hr2d := hr2c.on b5 b5.size
      obtain ⟨ga, hga⟩ : ∃ ga, (puts 0 (lists (M ++ [s]))).length = ga := ⟨_, rfl⟩
      rw [hga]
      have hgalt : gd < ga := by
        have := frm_length_ge gd true s.data.toList
        have h2 := HPS.out
        rw [← hga, ← h2, List.length_append, HGD.out]
        unfold put
        omega
      have hn52 : n5 = n2 + 1 := by
        rw [← hr5.1, List.length_append, hr2d.1]
        rfl
      subst hn52
      obtain ⟨hs3, hr6⟩ := sl_hS hr5 hn5 hA5 (n2 : Nat) n2 rfl (by omega)
      rw [List.take_left' hr2d.1] at hr6
      have e1 : (((n2 + 1 : Nat) : Int) == (n2 : Int) + 1) = true := by rw [beq_iff_eq]; omega
      obtain ⟨g5, o5, rfl, hg5, hc5'⟩ := hr5.at2 (j := n2) (by omega)
      have hcell := hc5' n2 (by rw [hr5.1]; omega)
      have hlast : (M ++ [s])[n2]'(by rw [hr5.1]; omega) = s := by
        have h3 := hr2d.1
        rw [List.getElem_append_right (by omega)]
        simp [h3]
      obtain ⟨t, ht⟩ : ∃ t, (M ++ [s])[n2]'(by rw [hr5.1]; omega) = t := ⟨_, rfl⟩
      rw [ht] at hcell hlast
      have e2 : (t.toList == s.toList) = true := eqB_true hlast
      have e3 : decide ((gd : Int) < (ga : Nat)) = true := by simp; omega
      have HR6 := Lib.hid hr6
      have HR2 := Lib.hid hr2d
      clear hc5' hr5 hr2c hans5 hga ht hlast hr4 g4 hr6 hr2d
      go_wp2_with fail
      refine (same_any _ A2 n2 n2 c5 c2 _ _ M M _ HR6.out HR2.out (Nat.le_refl _) (Nat.le_refl _) (by omega) (by omega)).mono ?_
      rintro e w6 ⟨rfl, b6⟩
      rw [decide_eq_true (rfl : M = M)]
      have hcell6 : w6.cell? ⟨g5, o5 + n2, none⟩ = some (.string t) := (b6.cell (p := ⟨g5, o5 + n2, none⟩) hg5).trans hcell
      have hb6 := hb5.trans (b6.mono hb5.size)
      clear hcell
      go_wp2_with (go_at_call 8; refine (awake_any _).mono ?_; rintro e w7 ⟨rfl, b7⟩)
      go_ret
      exact ⟨rfl, hb6.trans (b7.mono hb6.size)⟩
end Go.Proofs.Ytcihgnkmikhboaa
