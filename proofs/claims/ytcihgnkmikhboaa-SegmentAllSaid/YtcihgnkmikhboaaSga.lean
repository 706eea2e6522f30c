/-
  The example of layer 4: awake; SameStrings.
-/
import Derived.Test.YtcihgnkmikhboaaSg6
set_option linter.unusedVariables false
set_option linter.unusedSimpArgs false
namespace Go.Proofs.Ytcihgnkmikhboaa
open Go Go.RowKit

theorem puts_one (b : List UInt8) : puts 0 [b] = put 0 b := by simp [puts]
theorem put_short {p : Nat} (hg : gap p = 0) {b : List UInt8} (hb : b.length ≤ rm p) : put p b = pc 1 b := by
  unfold put
  rw [frm_of hg, lay_short hb]
  rfl

theorem put_a : ∃ a b c d : UInt8, put 0 [97] = [1, 1, a, b, c, d, 97] := by
  have e : put 0 [97] = pc 1 [97] := put_short rfl (by decide)
  have hl := be_length (tgo 1 (hdr 1 [97] ++ [97])) 4
  obtain ⟨m, hm⟩ : ∃ m, be (tgo 1 (hdr 1 [97] ++ [97])) 4 = m := ⟨_, rfl⟩
  rw [hm] at hl
  match m, hl with
  | [a, b, c, d], _ =>
    refine ⟨a, b, c, d, ?_⟩
    rw [e, pc, mrk, hm]
    rfl

set_option maxHeartbeats 2000000 in
theorem awake_any (w : World) :
    Calls Try.prog 8 #[] w fun e w' => e = .returned (.bool true) ∧ Below w.heap.size w w' := by
  obtain ⟨xa, xb, xc, xd, hP⟩ := put_a
  obtain ⟨P, hPe⟩ : ∃ P, P = [1, 1, xa, xb, xc, xd, (97 : UInt8)] := ⟨_, rfl⟩
  rw [← hPe] at hP
  have hlen : P.length = 7 := by rw [hPe]; rfl
  have HP := Lib.hid hP
  have HPE := Lib.hid hPe
  have HLEN := Lib.hid hlen
  clear hP hPe hlen
  go_enter Try.func8, Try.ntmps8
  go_wp2_with fail
  refine (put_any none 0 0 0 [] ⟨#[97]⟩ _ (Rd.nil _ _) (Nat.zero_le _) (Nat.le_refl _) (by unfold maxLen; omega) (by omega) (by decide)).mono ?_
  rintro e w1 ⟨A, n, c, rfl, hl, hnc, hcm, hA, hr, b1⟩
  rw [show (⟨#[97]⟩ : ByteArray).data.toList = [97] from rfl, HP.out, List.nil_append] at hl hr
  rw [HLEN.out] at hl
  subst hl
  obtain ⟨g, o, rfl, hg, hc⟩ := hr.at2 (j := 0) (by omega)
  have HC := Lib.hid hc
  clear hc
  go_wp2_with fail
  refine (scan_any (some ⟨g, o, none⟩) 7 c _ P _ hr (Nat.le_refl _) hnc hcm (by omega)).mono ?_
  rintro e w2 ⟨A2, n2, c2, T, rfl, b2, hr2, hn2, hc2, hA2, hans⟩
  have hT : lists T = [[97]] := by
    refine hans.unique ?_
    have := Ans.all [[97]]
    rw [puts_one, HP.out] at this
    exact this
  have hgood : (puts 0 (lists T)).length = 7 := by rw [hT, puts_one, HP.out, HLEN.out]
  have hn1 : n2 = 1 := by rw [← hr2.1, ← lists_length, hT]; rfl
  have cell : ∀ i (h : i < 7), w2.cell? ⟨g, o + i, none⟩ = some (.int .u8 ((P[i]'(by rw [HLEN.out]; exact h)).toNat : Nat)) := by
    intro i h
    rw [b2.cell (p := ⟨g, o + i, none⟩) hg]
    exact HC.out i _
  have c0 : w2.cell? ⟨g, o, none⟩ = some (.int .u8 1) := by
    have := cell 0 (by omega)
    rw [Nat.add_zero] at this
    rw [this]
    congr 2
    simp [HPE.out]
  have c1 : w2.cell? ⟨g, o + 1, none⟩ = some (.int .u8 1) := by
    rw [cell 1 (by omega)]
    congr 2
    simp [HPE.out]
  have c6 : w2.cell? ⟨g, o + 6, none⟩ = some (.int .u8 97) := by
    rw [cell 6 (by omega)]
    congr 2
    simp [HPE.out]
  rw [hgood]
  subst hn1
  clear cell hgood hT hans hr hr2
  go_wp2
  go_ret
  exact ⟨rfl, b1.trans (b2.mono b1.size)⟩

set_option maxHeartbeats 2000000 in
theorem same_any (A A' : Option Addr) (n n' c c' B B' : Nat) (l l' : List ByteArray) (w : World) (h : RdS w B A n l) (h' : RdS w B' A' n' l') (hB : B ≤ w.heap.size) (hB' : B' ≤ w.heap.size) (hn : n ≤ 1000000000000) (hn' : n' ≤ 1000000000000) :
    Calls Try.prog 13 #[.slice A n c, .slice A' n' c'] w fun e w' => e = .returned (.bool (decide (l = l'))) ∧ Below w.heap.size w w' := by
  have hl := h.1
  have hl' := h'.1
  obtain ⟨v, hv⟩ : ∃ v : Bool, decide (l = l') = v := ⟨_, rfl⟩
  rw [hv]
  have HV := Lib.hid hv
  clear hv
  by_cases hne : n = n'
  · subst hne
    have HL := Lib.hid hl
    have HL' := Lib.hid hl'
    clear hl hl'
    go_enter Try.func13, Try.ntmps13
    go_wp2
    go_loopw [5] (fun i wr => ∃ k : Nat, k ≤ n ∧ i = .int .i64 k ∧ l.take k = l'.take k ∧ Below w.heap.size w wr) (fun i _ => n - (intOf i).toNat)
    case atStart => exact ⟨0, Nat.zero_le _, rfl, rfl, Below.refl _ _⟩
    case round =>
      obtain ⟨k, hk, rfl, hz, hb⟩ := hrel
      have HZ := Lib.hid hz
      clear hz
      by_cases hlt : k < n
      · have g1 := h.below (hb.mono hB)
        have g2 := h'.below (hb.mono hB')
        obtain ⟨g, o, rfl, _, hc⟩ := g1.at2 hlt
        obtain ⟨g', o', rfl, _, hc'⟩ := g2.at2 hlt
        have hkl : k < l.length := by rw [HL.out]; exact hlt
        have hkl' : k < l'.length := by rw [HL'.out]; exact hlt
        have hck := hc k hkl
        have hck' := hc' k hkl'
        have i1 : (k : Int) < n := by omega
        have i0 : (0 : Int) ≤ k := by omega
        by_cases h0 : l[k] = l'[k]
        · have hbb : (!(l[k].toList == l'[k].toList)) = false := by rw [eqB_true h0]; rfl
          have hz2 : l.take (k + 1) = l'.take (k + 1) := by
            rw [List.take_succ_eq_append_getElem hkl, List.take_succ_eq_append_getElem hkl', HZ.out, h0]
          have HZ2 := Lib.hid hz2
          clear hz2 h0 hc hc' h h' g1 g2
          go_wp2_with fail
          go_quiet (fail)
          go_wp2
          go_roundw
          case rel => exact ⟨k + 1, by omega, by go_num, HZ2.out, hb.trans ⟨rfl, rfl, rfl, Nat.le_refl _, fun _ _ => rfl⟩⟩
          case measure => simp [intOf]; omega
        · have hbb : (!(l[k].toList == l'[k].toList)) = true := by rw [eqB_false h0]; rfl
          have hf : v = false := by
            rw [← HV.out, decide_eq_false_iff_not]
            rintro rfl
            exact h0 rfl
          subst hf
          clear h0 hc hc' h h' g1 g2
          go_wp2_with fail
          go_quiet (fail)
          go_wp2
          go_ret
          exact ⟨rfl, hb.trans ⟨rfl, rfl, rfl, Nat.le_refl _, fun _ _ => rfl⟩⟩
      · obtain rfl : k = n := by omega
        have hf : v = true := by
          rw [← HV.out, decide_eq_true_iff]
          have := HZ.out
          rwa [List.take_of_length_le (by rw [HL.out]; exact Nat.le_refl _), List.take_of_length_le (by rw [HL'.out]; exact Nat.le_refl _)] at this
        subst hf
        go_wp2
        go_ret
        exact ⟨rfl, hb⟩
  · have hf : v = false := by
      rw [← HV.out, decide_eq_false_iff_not]
      rintro rfl
      exact hne (hl.symm.trans hl')
    subst hf
    have hb : ((n : Int) != n') = true := by rw [bne_iff_ne]; omega
    go_enter Try.func13, Try.ntmps13
    go_wp2
    go_ret
    exact ⟨rfl, Below.refl _ _⟩
end Go.Proofs.Ytcihgnkmikhboaa
