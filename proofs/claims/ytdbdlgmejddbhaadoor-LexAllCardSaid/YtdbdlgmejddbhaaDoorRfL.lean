/-
  Contracts of the document's own answers of layer 1 that read what All made: Count, Valid, At, Letter, Name.
-/
import Derived.Test.YtdbdlgmejddbhaaDoorRf4
import Derived.Deep.QuietTactic
import Derived.BigQuiet
set_option linter.unusedVariables false
namespace Go.Proofs.YtdbdlgmejddbhaaDoor
open Go Go.RowKit

theorem flat_get : ∀ (l : List (Nat × Nat × Nat)) (k j : Nat) (c : Nat × Nat × Nat), l[k]? = some c → j < 4 → (l.flatMap rcells)[k * 4 + j]? = (rcells c)[j]?
  | [], k, j, c, h, _ => by simp at h
  | a :: l, 0, j, c, h, hj => by
    simp at h
    subst h
    rw [List.flatMap_cons, List.getElem?_append_left (by simp [rcells]; omega), Nat.zero_mul, Nat.zero_add]
  | a :: l, k + 1, j, c, h, hj => by
    rw [List.flatMap_cons, List.getElem?_append_right (by simp [rcells]; omega)]
    have : (k + 1) * 4 + j - (rcells a).length = k * 4 + j := by simp [rcells]; omega
    rw [this]
    exact flat_get l k j c (by simpa using h) hj

theorem IsAll.form {B : Nat} {v : Value} {l : List (Nat × Nat × Nat)} {w : World} (h : IsAll B v l w) :
    ∃ (A : Option Addr) (cap : Nat), v = .slice A l.length cap ∧ l.length ≤ cap ∧ cap ≤ maxLen ∧ (l = [] ∨ ∃ g, A = some ⟨g, 0, none⟩ ∧ ∀ k c, l[k]? = some c →
      w.cell? ⟨g, k * 4, none⟩ = some (.int .i32 (c.1 : Nat)) ∧ w.cell? ⟨g, k * 4 + 1, none⟩ = some (.int .i64 (c.2.1 : Nat)) ∧ w.cell? ⟨g, k * 4 + 2, none⟩ = some (.int .i64 (c.2.2 : Nat)) ∧ w.cell? ⟨g, k * 4 + 3, none⟩ = some (.bool (rightB c))) := by
  obtain ⟨h1, h2⟩ := h
  rcases h2 with ⟨rfl, h0⟩ | ⟨g, cap, cur, rfl, hg, hh, hn, hm, hs, ht⟩
  · exact ⟨none, 0, by rw [h0], by omega, by unfold maxLen; omega, .inl (List.eq_nil_of_length_eq_zero h0)⟩
  · refine ⟨_, cap, rfl, hn, hm, .inr ⟨g, rfl, fun k c hk => ?_⟩⟩
    have hkl : k < l.length := (List.getElem?_eq_some_iff.1 hk).1
    have key : ∀ j u, j < 4 → (rcells c)[j]? = some u → w.cell? ⟨g, k * 4 + j, none⟩ = some u := by
      intro j u hj hu
      rw [blk_cell hh, ← hu, ← flat_get l k j c hk hj, ← ht, List.getElem?_take, if_pos (by omega)]
      simp
    exact ⟨key 0 _ (by omega) rfl, key 1 _ (by omega) rfl, key 2 _ (by omega) rfl, key 3 _ (by omega) rfl⟩

/-- Letter, as the document's own answer asks it. -/
def rletter (c : Nat × Nat × Nat) : Bool := rightB c && ((decide (97 ≤ c.1) && decide (c.1 ≤ 122)) || c.1 == 95 || decide (128 ≤ c.1))
theorem rletter_eq (c : Nat × Nat × Nat) : rletter c = letterB c := by
  unfold rletter letterB
  by_cases h : 128 ≤ c.1
  · rw [decide_eq_true h, decide_eq_false (show ¬ c.1 ≤ 122 by omega), beq_eq_false_iff_ne.2 (show c.1 ≠ 95 by omega)]
    simp
  · have hr : rightB c = true := by unfold rightB; rw [beq_eq_false_iff_ne.2 (show c.1 ≠ 65533 by omega)]; rfl
    rw [hr, decide_eq_false h]
    simp

set_option maxHeartbeats 1600000 in
set_option maxRecDepth 100000 in
theorem rletter_any (r p wd : Nat) (w : World) (hr : r ≤ 2147483647) :
    Calls Tryd.prog 48 #[.agg #[.int .i32 (r : Nat), .int .i64 (p : Nat), .int .i64 (wd : Nat), .bool (rightB (r, p, wd))]] w fun e w' => e = .returned (.bool (letterB (r, p, wd))) ∧ Below w.heap.size w w' := by
  rw [← rletter_eq]
  obtain ⟨rb, hrb⟩ : ∃ b, rightB (r, p, wd) = b := ⟨_, rfl⟩
  have hl : rletter (r, p, wd) = (rb && ((decide (97 ≤ r) && decide (r ≤ 122)) || r == 95 || decide (128 ≤ r))) := by unfold rletter; rw [hrb]
  rw [hrb]
  have HL := Lib.hid hl
  clear hl hrb
  cases rb with
  | false =>
    go_enter Tryd.func48, Tryd.ntmps48
    go_wp2
    go_ret
    exact ⟨ret_bool (by rw [HL.out]; rfl), (Below.refl _ _).alloc (Nat.le_refl _) _⟩
  | true =>
    by_cases h128 : (128 : Int) ≤ (r : Int)
    · have f1 : ((r : Int) == 95) = false := by simp; omega
      have hv : rletter (r, p, wd) = true := by rw [HL.out, decide_eq_true (show 128 ≤ r by omega)]; simp
      have HV := Lib.hid hv
      clear hv
      go_enter Tryd.func48, Tryd.ntmps48
      go_wp2
      go_ret
      exact ⟨ret_bool HV.out.symm, (Below.refl _ _).alloc (Nat.le_refl _) _⟩
    by_cases h95 : r = 95
    · subst h95
      have hv : rletter (95, p, wd) = true := by rw [HL.out]; rfl
      have HV := Lib.hid hv
      clear hv
      have f1 : (((95 : Nat) : Int) == 95) = true := rfl
      go_enter Tryd.func48, Tryd.ntmps48
      go_wp2
      go_ret
      exact ⟨ret_bool HV.out.symm, (Below.refl _ _).alloc (Nat.le_refl _) _⟩
    have f1 : ((r : Int) == 95) = false := by simp; omega
    by_cases h97 : (97 : Int) ≤ (r : Int)
    · by_cases h122 : (r : Int) ≤ 122
      · have hv : rletter (r, p, wd) = true := by rw [HL.out, decide_eq_true (show 97 ≤ r by omega), decide_eq_true (show r ≤ 122 by omega)]; simp
        have HV := Lib.hid hv
        clear hv
        go_enter Tryd.func48, Tryd.ntmps48
        go_wp2
        go_ret
        exact ⟨ret_bool HV.out.symm, (Below.refl _ _).alloc (Nat.le_refl _) _⟩
      · have hv : rletter (r, p, wd) = false := by rw [HL.out, decide_eq_false (show ¬ r ≤ 122 by omega), beq_eq_false_iff_ne.2 h95, decide_eq_false (show ¬ 128 ≤ r by omega)]; simp
        have HV := Lib.hid hv
        clear hv
        go_enter Tryd.func48, Tryd.ntmps48
        go_wp2
        go_ret
        exact ⟨ret_bool HV.out.symm, (Below.refl _ _).alloc (Nat.le_refl _) _⟩
    · have hv : rletter (r, p, wd) = false := by rw [HL.out, decide_eq_false (show ¬ 97 ≤ r by omega), beq_eq_false_iff_ne.2 h95, decide_eq_false (show ¬ 128 ≤ r by omega)]; simp
      have HV := Lib.hid hv
      clear hv
      go_enter Tryd.func48, Tryd.ntmps48
      go_wp2
      go_ret
      exact ⟨ret_bool HV.out.symm, (Below.refl _ _).alloc (Nat.le_refl _) _⟩
end Go.Proofs.YtdbdlgmejddbhaaDoor
