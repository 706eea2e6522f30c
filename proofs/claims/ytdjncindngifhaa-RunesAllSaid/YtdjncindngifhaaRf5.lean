/-
  Contracts of the document's own answers of layer 1 that read what All made: Count, Valid, At, Letter, Name.
-/
import Derived.Test.YtdjncindngifhaaRf4
import Derived.Deep.QuietTactic
import Derived.BigQuiet
set_option linter.unusedVariables false
namespace Go.Proofs.Ytdjncindngifhaa
open Go Go.RowKit

theorem flat_get : ∀ (l : List (Nat × Nat × Nat)) (k j : Nat) (c : Nat × Nat × Nat), l[k]? = some c → j < 4 → (l.flatMap rcells)[k * 4 + j]? = (rcells c)[j]?
  | [], k, j, c, h, _ => by simp at h
  | a :: l, 0, j, c, h, hj => by
    simp at h
    subst h
    rw [List.flatMap_cons, List.getElem?_append_left (by simp [rcells]; omega), Nat.zero_mul, Nat.zero_add]
  | a :: l, k + 1, j, c, h, hj => by
    rw [List.flatMap_cons, List.getElem?_append_right (by simp [rcells]; omega)]
    have : (k + 1) * 4 + j - (rcells a).length = k * 4 + j := by simp [rcells]; omega
    rw [this]
    exact flat_get l k j c (by simpa using h) hj

theorem IsAll.form {B : Nat} {v : Value} {l : List (Nat × Nat × Nat)} {w : World} (h : IsAll B v l w) :
    ∃ (A : Option Addr) (cap : Nat), v = .slice A l.length cap ∧ l.length ≤ cap ∧ cap ≤ maxLen ∧ (l = [] ∨ ∃ g, A = some ⟨g, 0, none⟩ ∧ ∀ k c, l[k]? = some c →
      w.cell? ⟨g, k * 4, none⟩ = some (.int .i32 (c.1 : Nat)) ∧ w.cell? ⟨g, k * 4 + 1, none⟩ = some (.int .i64 (c.2.1 : Nat)) ∧ w.cell? ⟨g, k * 4 + 2, none⟩ = some (.int .i64 (c.2.2 : Nat)) ∧ w.cell? ⟨g, k * 4 + 3, none⟩ = some (.bool (rightB c))) := by
  obtain ⟨h1, h2⟩ := h
  rcases h2 with ⟨rfl, h0⟩ | ⟨g, cap, cur, rfl, hg, hh, hn, hm, hs, ht⟩
  · exact ⟨none, 0, by rw [h0], by omega, by unfold maxLen; omega, .inl (List.eq_nil_of_length_eq_zero h0)⟩
  · refine ⟨_, cap, rfl, hn, hm, .inr ⟨g, rfl, fun k c hk => ?_⟩⟩
    have hkl : k < l.length := (List.getElem?_eq_some_iff.1 hk).1
    have key : ∀ j u, j < 4 → (rcells c)[j]? = some u → w.cell? ⟨g, k * 4 + j, none⟩ = some u := by
      intro j u hj hu
      rw [blk_cell hh, ← hu, ← flat_get l k j c hk hj, ← ht, List.getElem?_take, if_pos (by omega)]
      simp
    exact ⟨key 0 _ (by omega) rfl, key 1 _ (by omega) rfl, key 2 _ (by omega) rfl, key 3 _ (by omega) rfl⟩

set_option maxHeartbeats 800000 in
theorem rcount_any (s : ByteArray) (w : World) (hs : s.size ≤ 1099511627776) :
    Calls Try.prog 17 #[.string s] w fun e w' => e = .returned (.int .i64 ((cps s).length : Nat)) ∧ Below w.heap.size w w' := by
  go_enter Try.func17, Try.ntmps17
  go_wp2_with fail
  refine (all_any s _ hs).mono ?_
  rintro e w1 ⟨v, rfl, ha, b1⟩
  obtain ⟨A, cap, rfl, _, _, _⟩ := ha.form
  go_wp2
  go_ret
  exact ⟨rfl, b1⟩

set_option maxHeartbeats 1600000 in
set_option maxRecDepth 100000 in
theorem rvalid_any (s : ByteArray) (w : World) (hs : s.size ≤ 1099511627776) :
    Calls Try.prog 15 #[.string s] w fun e w' => e = .returned (.bool (validB s)) ∧ Below w.heap.size w w' := by
  have hlen := cps_length s
  go_enter Try.func15, Try.ntmps15
  go_wp2_with fail
  refine (all_any s _ hs).mono ?_
  rintro e w1 ⟨v, rfl, ha, b1⟩
  obtain ⟨A, cap, rfl, hcap, hmax, hform⟩ := ha.form
  clear ha
  unfold maxLen at hmax
  go_wp2
  go_loop [4] (fun i => ∃ k : Nat, k ≤ (cps s).length ∧ i = .int .i64 k ∧ ((cps s).take k).all rightB = true) (fun i => (cps s).length - (intOf i).toNat)
  case atStart => exact ⟨0, Nat.zero_le _, rfl, by simp⟩
  case round =>
    obtain ⟨k, hk, rfl, hall⟩ := hrel
    have HA := Lib.hid hall
    clear hall
    by_cases hlt : k < (cps s).length
    · obtain ⟨g, hA, hcell⟩ : ∃ g, A = some ⟨g, 0, none⟩ ∧ ∀ k c, (cps s)[k]? = some c → w1.cell? ⟨g, k * 4, none⟩ = some (.int .i32 (c.1 : Nat)) ∧ w1.cell? ⟨g, k * 4 + 1, none⟩ = some (.int .i64 (c.2.1 : Nat)) ∧ w1.cell? ⟨g, k * 4 + 2, none⟩ = some (.int .i64 (c.2.2 : Nat)) ∧ w1.cell? ⟨g, k * 4 + 3, none⟩ = some (.bool (rightB c)) := by
        rcases hform with h | h
        · rw [h] at hlt; simp at hlt
        · exact h
      clear hform
      subst hA
      obtain ⟨c, hc⟩ : ∃ c, (cps s)[k]? = some c := ⟨_, List.getElem?_eq_getElem hlt⟩
      obtain ⟨_, _, _, hc3⟩ := hcell k c hc
      have hst : ((cps s).take (k + 1)).all rightB = rightB c := by
        rw [List.take_succ_eq_append_getElem hlt, List.all_append, HA.out, Bool.true_and]
        rw [List.getElem?_eq_getElem hlt] at hc
        injection hc with hc
        simp [hc]
      have HC := Lib.hid hc
      have HS := Lib.hid hst
      clear hcell hc hst
      obtain ⟨rb, hrb⟩ : ∃ b, rightB c = b := ⟨_, rfl⟩
      rw [hrb] at hc3
      have HR := Lib.hid hrb
      clear hrb
      cases rb with
      | true =>
        go_wp2
        go_round
        case rel => exact ⟨k + 1, by omega, by go_num, by rw [HS.out, HR.out]⟩
        case measure => simp [intOf]; omega
      | false =>
        have hv : validB s = false := by
          unfold validB
          rw [List.all_eq_false]
          exact ⟨c, List.mem_of_getElem? HC.out, by rw [HR.out]; decide⟩
        have HV := Lib.hid hv
        clear hv
        go_wp2
        go_ret
        exact ⟨ret_bool HV.out.symm, b1⟩
    · obtain rfl : k = (cps s).length := by omega
      have hv : validB s = true := by
        have := HA.out
        rw [List.take_length] at this
        exact this
      have HV := Lib.hid hv
      clear hv
      go_wp2
      go_ret
      exact ⟨ret_bool HV.out.symm, b1⟩

set_option maxHeartbeats 1600000 in
set_option maxRecDepth 100000 in
theorem rat_any (s : ByteArray) (n : Int) (w : World) (hs : s.size ≤ 1099511627776) :
    Calls Try.prog 11 #[.string s, .int .i64 n] w fun e w' => e = .returned (atV (atL (cps s) n)) ∧ Below w.heap.size w w' := by
  have hlen := cps_length s
  by_cases hn : n < 0
  · have e0 : atL (cps s) n = none := by unfold atL; rw [if_pos hn]
    rw [e0]
    go_enter Try.func11, Try.ntmps11
    go_wp2_with fail
    refine (all_any s _ hs).mono ?_
    rintro e w1 ⟨v, rfl, ha, b1⟩
    obtain ⟨A, cap, rfl, hcap, hmax, hform⟩ := ha.form
    go_wp2
    exact bodyPost_ret (v := .tuple #[.int .i32 0, .int .i64 0, .bool false]) (by simp [results, Try.results11, go_sem]) rfl ⟨rfl, b1⟩
  obtain ⟨k, rfl⟩ := Int.eq_ofNat_of_zero_le (show 0 ≤ n by omega)
  have eN : atL (cps s) (k : Nat) = (cps s)[k]? := by unfold atL; rw [if_neg hn, Int.toNat_natCast]
  rw [eN]
  clear eN
  by_cases hlt : k < (cps s).length
  · obtain ⟨c, hc⟩ : ∃ c, (cps s)[k]? = some c := ⟨_, List.getElem?_eq_getElem hlt⟩
    rw [hc]
    go_enter Try.func11, Try.ntmps11
    go_wp2_with fail
    refine (all_any s _ hs).mono ?_
    rintro e w1 ⟨v, rfl, ha, b1⟩
    obtain ⟨A, cap, rfl, hcap, hmax, hform⟩ := ha.form
    obtain ⟨g, hA, hcell⟩ : ∃ g, A = some ⟨g, 0, none⟩ ∧ ∀ k c, (cps s)[k]? = some c → w1.cell? ⟨g, k * 4, none⟩ = some (.int .i32 (c.1 : Nat)) ∧ w1.cell? ⟨g, k * 4 + 1, none⟩ = some (.int .i64 (c.2.1 : Nat)) ∧ w1.cell? ⟨g, k * 4 + 2, none⟩ = some (.int .i64 (c.2.2 : Nat)) ∧ w1.cell? ⟨g, k * 4 + 3, none⟩ = some (.bool (rightB c)) := by
      rcases hform with h | h
      · rw [h] at hlt; simp at hlt
      · exact h
    obtain ⟨hc0, hc1, _, _⟩ := hcell k c hc
    have HC := Lib.hid hc
    clear hform hcell ha hc
    subst hA
    unfold maxLen at hmax
    have i0 : (0 : Int) ≤ (k : Int) := by omega
    have i1 : (k : Int) < ((cps s).length : Nat) := by omega
    have hd1 : decide (((cps s).length : Int) ≤ (k : Int)) = false := by simp; omega
    go_wp2
    go_quiet (fail)
    go_wp2
    exact bodyPost_ret (v := .tuple #[.int .i32 (c.1 : Nat), .int .i64 (c.2.1 : Nat), .bool true]) (by simp [results, Try.results11, go_sem]) rfl ⟨rfl, b1.trans ⟨rfl, rfl, rfl, Nat.le_refl _, fun _ _ => rfl⟩⟩
  · have e0 : (cps s)[k]? = none := List.getElem?_eq_none (by omega)
    rw [e0]
    clear e0
    go_enter Try.func11, Try.ntmps11
    go_wp2_with fail
    refine (all_any s _ hs).mono ?_
    rintro e w1 ⟨v, rfl, ha, b1⟩
    obtain ⟨A, cap, rfl, hcap, hmax, hform⟩ := ha.form
    clear ha hform
    go_wp2
    exact bodyPost_ret (v := .tuple #[.int .i32 0, .int .i64 0, .bool false]) (by simp [results, Try.results11, go_sem]) rfl ⟨rfl, b1⟩

/-- Letter, as the document's own answer asks it. -/
def rletter (c : Nat × Nat × Nat) : Bool := rightB c && ((decide (97 ≤ c.1) && decide (c.1 ≤ 122)) || c.1 == 95 || decide (128 ≤ c.1))
theorem rletter_eq (c : Nat × Nat × Nat) : rletter c = letterB c := by
  unfold rletter letterB
  by_cases h : 128 ≤ c.1
  · rw [decide_eq_true h, decide_eq_false (show ¬ c.1 ≤ 122 by omega), beq_eq_false_iff_ne.2 (show c.1 ≠ 95 by omega)]
    simp
  · have hr : rightB c = true := by unfold rightB; rw [beq_eq_false_iff_ne.2 (show c.1 ≠ 65533 by omega)]; rfl
    rw [hr, decide_eq_false h]
    simp

set_option maxHeartbeats 1600000 in
set_option maxRecDepth 100000 in
theorem rletter_any (r p wd : Nat) (w : World) (hr : r ≤ 2147483647) :
    Calls Try.prog 31 #[.agg #[.int .i32 (r : Nat), .int .i64 (p : Nat), .int .i64 (wd : Nat), .bool (rightB (r, p, wd))]] w fun e w' => e = .returned (.bool (letterB (r, p, wd))) ∧ Below w.heap.size w w' := by
  rw [← rletter_eq]
  obtain ⟨rb, hrb⟩ : ∃ b, rightB (r, p, wd) = b := ⟨_, rfl⟩
  have hl : rletter (r, p, wd) = (rb && ((decide (97 ≤ r) && decide (r ≤ 122)) || r == 95 || decide (128 ≤ r))) := by unfold rletter; rw [hrb]
  rw [hrb]
  have HL := Lib.hid hl
  clear hl hrb
  cases rb with
  | false =>
    go_enter Try.func31, Try.ntmps31
    go_wp2
    go_ret
    exact ⟨ret_bool (by rw [HL.out]; rfl), (Below.refl _ _).alloc (Nat.le_refl _) _⟩
  | true =>
    by_cases h128 : (128 : Int) ≤ (r : Int)
    · have f1 : ((r : Int) == 95) = false := by simp; omega
      have hv : rletter (r, p, wd) = true := by rw [HL.out, decide_eq_true (show 128 ≤ r by omega)]; simp
      have HV := Lib.hid hv
      clear hv
      go_enter Try.func31, Try.ntmps31
      go_wp2
      go_ret
      exact ⟨ret_bool HV.out.symm, (Below.refl _ _).alloc (Nat.le_refl _) _⟩
    by_cases h95 : r = 95
    · subst h95
      have hv : rletter (95, p, wd) = true := by rw [HL.out]; rfl
      have HV := Lib.hid hv
      clear hv
      have f1 : (((95 : Nat) : Int) == 95) = true := rfl
      go_enter Try.func31, Try.ntmps31
      go_wp2
      go_ret
      exact ⟨ret_bool HV.out.symm, (Below.refl _ _).alloc (Nat.le_refl _) _⟩
    have f1 : ((r : Int) == 95) = false := by simp; omega
    by_cases h97 : (97 : Int) ≤ (r : Int)
    · by_cases h122 : (r : Int) ≤ 122
      · have hv : rletter (r, p, wd) = true := by rw [HL.out, decide_eq_true (show 97 ≤ r by omega), decide_eq_true (show r ≤ 122 by omega)]; simp
        have HV := Lib.hid hv
        clear hv
        go_enter Try.func31, Try.ntmps31
        go_wp2
        go_ret
        exact ⟨ret_bool HV.out.symm, (Below.refl _ _).alloc (Nat.le_refl _) _⟩
      · have hv : rletter (r, p, wd) = false := by rw [HL.out, decide_eq_false (show ¬ r ≤ 122 by omega), beq_eq_false_iff_ne.2 h95, decide_eq_false (show ¬ 128 ≤ r by omega)]; simp
        have HV := Lib.hid hv
        clear hv
        go_enter Try.func31, Try.ntmps31
        go_wp2
        go_ret
        exact ⟨ret_bool HV.out.symm, (Below.refl _ _).alloc (Nat.le_refl _) _⟩
    · have hv : rletter (r, p, wd) = false := by rw [HL.out, decide_eq_false (show ¬ 97 ≤ r by omega), beq_eq_false_iff_ne.2 h95, decide_eq_false (show ¬ 128 ≤ r by omega)]; simp
      have HV := Lib.hid hv
      clear hv
      go_enter Try.func31, Try.ntmps31
      go_wp2
      go_ret
      exact ⟨ret_bool HV.out.symm, (Below.refl _ _).alloc (Nat.le_refl _) _⟩
end Go.Proofs.Ytdjncindngifhaa
