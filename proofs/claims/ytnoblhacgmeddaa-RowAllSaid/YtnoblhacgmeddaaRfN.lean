/-
  Contracts of the document's own answers of layer 1: Name, Fold, Quote, Unquote.
-/
import Derived.Test.YtnoblhacgmeddaaRfL
set_option linter.unusedVariables false
namespace Go.Proofs.Ytnoblhacgmeddaa
open Go Go.RowKit

theorem cpsF_bound (s : ByteArray) : ∀ f p c, c ∈ cpsF s f p → c.1 ≤ 2147483647 ∧ c.2.1 < s.size
  | 0, p, c, h => by simp [cpsF] at h
  | f + 1, p, c, h => by
    unfold cpsF at h
    by_cases hp : p < s.size
    · rw [if_pos hp] at h
      rcases List.mem_cons.1 h with h | h
      · rw [h]; exact ⟨decode_le s p, hp⟩
      · exact cpsF_bound s f _ c h
    · rw [if_neg hp] at h; cases h

theorem cpsF_pos (s : ByteArray) : ∀ f p k c, (cpsF s f p)[k]? = some c → p + k ≤ c.2.1 ∧ (k = 0 → c.2.1 = p)
  | 0, p, k, c, h => by simp [cpsF] at h
  | f + 1, p, k, c, h => by
    unfold cpsF at h
    by_cases hp : p < s.size
    · rw [if_pos hp] at h
      have hw := width_pos s p hp
      cases k with
      | zero => simp at h; subst h; simp
      | succ k =>
        have := cpsF_pos s f (p + (Utf8.decode s p).2) k c (by simpa using h)
        omega
    · rw [if_neg hp] at h; simp at h

set_option maxHeartbeats 3200000 in
set_option maxRecDepth 100000 in
theorem rname_any (s : ByteArray) (w : World) (hs : s.size ≤ 1099511627776) :
    Calls Try.prog 36 #[.string s] w fun e w' => e = .returned (.bool (nameB s)) ∧ Below w.heap.size w w' := by
  have hlen := cps_length s
  go_enter Try.func36, Try.ntmps36
  go_wp2_with fail
  refine (all_any s _ hs).mono ?_
  rintro e w1 ⟨v, rfl, ha, b1⟩
  obtain ⟨A, cap, rfl, hcap, hmax, hform⟩ := ha.form
  clear ha
  unfold maxLen at hmax
  have hw1 := b1.size
  go_wp2
  go_loopw [4] (fun i wr => ∃ k : Nat, k ≤ (cps s).length ∧ i = .int .i64 k ∧ Below w1.heap.size w1 wr ∧ ((cps s).take k).all nameCp = true) (fun i _ => (cps s).length - (intOf i).toNat)
  case atStart => exact ⟨0, Nat.zero_le _, rfl, Below.refl _ _, by simp⟩
  case round =>
    obtain ⟨k, hk, rfl, hbw, hall⟩ := hrel
    have HA := Lib.hid hall
    clear hall
    by_cases hlt : k < (cps s).length
    · obtain ⟨g, hA, hcell⟩ : ∃ g, A = some ⟨g, 0, none⟩ ∧ ∀ k c, (cps s)[k]? = some c → w1.cell? ⟨g, k * 4, none⟩ = some (.int .i32 (c.1 : Nat)) ∧ w1.cell? ⟨g, k * 4 + 1, none⟩ = some (.int .i64 (c.2.1 : Nat)) ∧ w1.cell? ⟨g, k * 4 + 2, none⟩ = some (.int .i64 (c.2.2 : Nat)) ∧ w1.cell? ⟨g, k * 4 + 3, none⟩ = some (.bool (rightB c)) := by
        rcases hform with h | h
        · rw [h] at hlt; simp at hlt
        · exact h
      clear hform
      subst hA
      obtain ⟨⟨r, p, wd⟩, hc⟩ : ∃ c, (cps s)[k]? = some c := ⟨_, List.getElem?_eq_getElem hlt⟩
      obtain ⟨hc0, hc1, hc2, hc3⟩ := hcell k _ hc
      have hr := (cpsF_bound s _ _ _ (List.mem_of_getElem? hc)).1
      have hpos := cpsF_pos s _ _ _ _ hc
      simp only at hc0 hc1 hc2 hr hpos
      have hgl : g < w1.heap.size := by
        rcases Nat.lt_or_ge g w1.heap.size with h | h
        · exact h
        · simp [World.cell?, Array.getElem?_eq_none h] at hc0
      have hst : ((cps s).take (k + 1)).all nameCp = nameCp (r, p, wd) := by
        rw [List.take_succ_eq_append_getElem hlt, List.all_append, HA.out, Bool.true_and]
        rw [List.getElem?_eq_getElem hlt] at hc
        injection hc with hc
        simp [hc]
      have hno : nameCp (r, p, wd) = false → nameB s = false := by
        intro h
        unfold nameB
        have : (cps s).all nameCp = false := by
          rw [List.all_eq_false]
          exact ⟨_, List.mem_of_getElem? hc, by rw [h]; decide⟩
        rw [this, Bool.and_false]
      have hne : nameCp (r, p, wd) = (letterB (r, p, wd) || (!(p == 0) && (decide ((48 : Int) ≤ (r : Int)) && decide ((r : Int) ≤ 57)))) := rfl
      have hpk : (p == 0) = ((k : Int) == 0) := by
        rw [Bool.eq_iff_iff]
        simp only [beq_iff_eq]
        constructor
        · intro h; omega
        · intro h; have := hpos.2 (by omega); omega
      rw [hpk] at hne
      have hd0 : wr.cell? ⟨g, k * 4, none⟩ = some (.int .i32 (r : Nat)) := (hbw.cell (p := ⟨g, k * 4, none⟩) hgl).trans hc0
      have hd1 : wr.cell? ⟨g, k * 4 + 1, none⟩ = some (.int .i64 (p : Nat)) := (hbw.cell (p := ⟨g, k * 4 + 1, none⟩) hgl).trans hc1
      have hd2 : wr.cell? ⟨g, k * 4 + 2, none⟩ = some (.int .i64 (wd : Nat)) := (hbw.cell (p := ⟨g, k * 4 + 2, none⟩) hgl).trans hc2
      have hd3 : wr.cell? ⟨g, k * 4 + 3, none⟩ = some (.bool (rightB (r, p, wd))) := (hbw.cell (p := ⟨g, k * 4 + 3, none⟩) hgl).trans hc3
      have HS := Lib.hid hst
      have HN := Lib.hid hno
      have HE := Lib.hid hne
      clear hcell hc hst hno hne hpk hpos hc0 hc1 hc2 hc3
      have hww := hbw.size
      go_wp2_with fail
      refine (rletter_any r p wd _ hr).mono ?_
      rintro e w2 ⟨rfl, b2⟩
      have hf0 : w2.cell? ⟨g, k * 4, none⟩ = some (.int .i32 (r : Nat)) := (b2.cell (p := ⟨g, k * 4, none⟩) (show g < wr.heap.size by omega)).trans hd0
      obtain ⟨lb, hlb⟩ : ∃ b, letterB (r, p, wd) = b := ⟨_, rfl⟩
      rw [hlb]
      have hE2 := HE.out
      rw [hlb] at hE2
      have HE2 := Lib.hid hE2
      clear hlb hE2
      cases lb with
      | true =>
        go_wp2
        go_roundw
        case rel => exact ⟨k + 1, by omega, by go_num, hbw.trans (b2.mono hww), by rw [HS.out, HE2.out]; rfl⟩
        case measure => simp [intOf]; omega
      | false =>
        by_cases h0 : k = 0
        · have hk0 : ((k : Int) == 0) = true := by simpa using h0
          have hf := HN.out (by rw [HE2.out, hk0]; rfl)
          have HF := Lib.hid hf
          clear hf h0
          go_wp2
          go_ret
          exact ⟨ret_bool HF.out.symm, b1.trans ((hbw.trans (b2.mono hww)).mono hw1)⟩
        · have hk0 : ((k : Int) == 0) = false := by simpa using h0
          by_cases h48 : (r : Int) < 48
          · have hf := HN.out (by rw [HE2.out, hk0, decide_eq_false (show ¬ (48 : Int) ≤ (r : Int) by omega)]; rfl)
            have HF := Lib.hid hf
            clear hf h0
            go_wp2
            go_ret
            exact ⟨ret_bool HF.out.symm, b1.trans ((hbw.trans (b2.mono hww)).mono hw1)⟩
          · by_cases h57 : (57 : Int) < (r : Int)
            · have hf := HN.out (by rw [HE2.out, hk0, decide_eq_false (show ¬ (r : Int) ≤ 57 by omega)]; simp)
              have HF := Lib.hid hf
              clear hf h0
              go_wp2
              go_ret
              exact ⟨ret_bool HF.out.symm, b1.trans ((hbw.trans (b2.mono hww)).mono hw1)⟩
            · have HK := Lib.hid hk0
              clear h0
              go_wp2
              go_roundw
              case rel => exact ⟨k + 1, by omega, by go_num, hbw.trans (b2.mono hww), by rw [HS.out, HE2.out, HK.out, decide_eq_true (show (48 : Int) ≤ (r : Int) by omega), decide_eq_true (show (r : Int) ≤ 57 by omega)]; rfl⟩
              case measure => simp [intOf]; omega
    · obtain rfl : k = (cps s).length := by omega
      have hv : nameB s = (decide (1 ≤ s.size) && decide (s.size ≤ 100)) := by
        have := HA.out
        rw [List.take_length] at this
        unfold nameB
        rw [this, Bool.and_true]
      have HV := Lib.hid hv
      clear hv
      by_cases h1 : (1 : Int) ≤ s.size
      · by_cases h2 : (s.size : Int) ≤ 100
        · go_wp2
          go_ret
          exact ⟨ret_bool (by rw [HV.out, decide_eq_true (show 1 ≤ s.size by omega), decide_eq_true (show s.size ≤ 100 by omega)]; rfl), b1.trans (hbw.mono hw1)⟩
        · go_wp2
          go_ret
          exact ⟨ret_bool (by rw [HV.out, decide_eq_false (show ¬ s.size ≤ 100 by omega), Bool.and_false]), b1.trans (hbw.mono hw1)⟩
      · go_wp2
        go_ret
        exact ⟨ret_bool (by rw [HV.out, decide_eq_false (show ¬ 1 ≤ s.size by omega), Bool.false_and]), b1.trans (hbw.mono hw1)⟩

end Go.Proofs.Ytnoblhacgmeddaa
