/-
  The document's own Same, Seen, Check of cells.
-/
import Derived.Test.YthfanonjokpflaaGreatCeA
import Derived.Test.YthfanonjokpflaaGreatCeOk
import Derived.Deep.DeepCutAuto
set_option linter.unusedVariables false
set_option linter.unusedSimpArgs false
namespace Go.Proofs.YthfanonjokpflaaGreat
open Go Go.RowKit

set_option maxHeartbeats 2000000 in
theorem rsame_any (s t : ByteArray) (d f : Bool) (a b e g : Int) (w : World) :
    Calls Tryz.prog 103 #[.agg #[.string s, .bool d, .int .i64 a, .int .i64 e], .agg #[.string t, .bool f, .int .i64 b, .int .i64 g]] w fun x w' => x = .returned (.bool (Ce.same ⟨s, d, a, e⟩ ⟨t, f, b, g⟩)) ∧ Below w.heap.size w w' := by
  obtain ⟨r, hr⟩ : ∃ r, Ce.same ⟨s, d, a, e⟩ ⟨t, f, b, g⟩ = r := ⟨_, rfl⟩
  rw [hr]
  have HR := Lib.hid hr
  clear hr
  have bz := Lib.hid (((Below.refl w.heap.size w).alloc (Nat.le_refl _) (.cells #[.string s, .bool d, .int .i64 a, .int .i64 e] 54)).alloc (by simp) (.cells #[.string t, .bool f, .int .i64 b, .int .i64 g] 54))
  cases h1 : (s.toList == t.toList)
  · have hv : r = false := by rw [← HR.out]; unfold Ce.same; rw [h1]; rfl
    subst hv
    go_enter Tryz.func103, Tryz.ntmps103
    go_wp2
    go_ret
    exact ⟨rfl, bz.out⟩
  · cases h2 : (d == f)
    · have hv : r = false := by rw [← HR.out]; unfold Ce.same; rw [h1, h2]; rfl
      subst hv
      go_enter Tryz.func103, Tryz.ntmps103
      go_wp2
      go_ret
      exact ⟨rfl, bz.out⟩
    · cases h3 : (a == b)
      · have hv : r = false := by rw [← HR.out]; unfold Ce.same; rw [h1, h2, h3]; rfl
        subst hv
        go_enter Tryz.func103, Tryz.ntmps103
        go_wp2
        go_ret
        exact ⟨rfl, bz.out⟩
      · cases h4 : (e == g)
        · have hv : r = false := by rw [← HR.out]; unfold Ce.same; rw [h1, h2, h3, h4]; rfl
          subst hv
          go_enter Tryz.func103, Tryz.ntmps103
          go_wp2
          go_ret
          exact ⟨rfl, bz.out⟩
        · have hv : r = true := by rw [← HR.out]; unfold Ce.same; rw [h1, h2, h3, h4]; rfl
          subst hv
          go_enter Tryz.func103, Tryz.ntmps103
          go_wp2
          go_ret
          exact ⟨rfl, bz.out⟩

theorem ok_ref (c : Ce) : c.ok = if c.a < 0 ∨ 1099511627776 < c.a then false else if c.a = 0 ∨ c.d = true then (c.s.toList == (⟨#[]⟩ : ByteArray).toList) && (c.e == 0 && (decide (0 < c.a) || !c.d)) else decide (c.s.size ≤ 100) && (decide (0 ≤ c.e) && decide (c.e ≤ 1099511627776)) := by
  unfold Ce.ok stm Ce.same
  by_cases h0 : c.a = 0
  · rw [if_pos h0, if_neg (by omega), if_pos (Or.inl h0), h0]
    cases c.d <;> simp [Bool.and_comm]
  · rw [if_neg h0]
    by_cases h1 : c.a < 0 ∨ 1099511627776 < c.a
    · rw [if_pos h1, if_pos]
      rcases h1 with h1 | h1
      · rw [decide_eq_false (show ¬ 0 ≤ c.a by omega)]; rfl
      · rw [decide_eq_false (show ¬ c.a ≤ 1099511627776 by omega), Bool.and_false]
    · rw [if_neg h1, if_neg]
      · cases hd : c.d
        · rw [if_neg (by decide), if_neg (by simp [h0])]
        · rw [if_pos rfl, if_pos (Or.inr rfl), decide_eq_true (show 0 < c.a by omega)]
          simp
      · rw [decide_eq_true (show 0 ≤ c.a by omega), decide_eq_true (show c.a ≤ 1099511627776 by omega)]
        decide

set_option maxHeartbeats 4000000 in
theorem rcheck_any (s : ByteArray) (d : Bool) (a e : Int) (w : World) (hs : s.size ≤ maxLen) :
    Calls Tryz.prog 92 #[.agg #[.string s, .bool d, .int .i64 a, .int .i64 e]] w fun x w' => x = .returned (.bool (Ce.ok ⟨s, d, a, e⟩)) ∧ Below w.heap.size w w' := by
  rw [ok_ref]
  have bz := Lib.hid ((Below.refl w.heap.size w).alloc (Nat.le_refl _) (.cells #[.string s, .bool d, .int .i64 a, .int .i64 e] 54))
  simp only
  by_cases h1 : a < 0
  · rw [if_pos (Or.inl h1)]
    go_enter Tryz.func92, Tryz.ntmps92
    go_wp2
    go_ret
    exact ⟨rfl, bz.out⟩
  by_cases h2 : 1099511627776 < a
  · rw [if_pos (Or.inr h2)]
    go_enter Tryz.func92, Tryz.ntmps92
    go_wp2
    go_ret
    exact ⟨rfl, bz.out⟩
  rw [if_neg (by omega)]
  by_cases h3 : a = 0
  · rw [if_pos (Or.inl h3)]
    subst h3
    have e0 : (⟨#[]⟩ : ByteArray).toList = [] := by rw [Lib.toList_data]
    rw [e0]
    obtain ⟨q, hq⟩ : ∃ q, (s.toList == []) = q := ⟨_, rfl⟩
    obtain ⟨p, hp⟩ : ∃ p, (e == 0) = p := ⟨_, rfl⟩
    rw [hq, hp]
    cases q
    · have hq2 : s.toList ≠ [] := fun h => by rw [h] at hq; exact absurd hq (by decide)
      go_enter Tryz.func92, Tryz.ntmps92
      go_wp2
      go_ret
      exact ⟨rfl, bz.out⟩
    · have hq2 : s.toList = [] := by simpa using hq
      cases p
      · go_enter Tryz.func92, Tryz.ntmps92
        go_wp2
        go_ret
        exact ⟨rfl, bz.out⟩
      · have hp2 : e = 0 := by simpa using hp
        subst hp2
        cases d
        · go_enter Tryz.func92, Tryz.ntmps92
          go_wp2
          go_ret
          exact ⟨rfl, bz.out⟩
        · go_enter Tryz.func92, Tryz.ntmps92
          go_wp2
          go_ret
          exact ⟨rfl, bz.out⟩
  · have h4 : (a == 0) = false := by rw [beq_eq_false_iff_ne]; exact h3
    have h5 : 0 < a := by omega
    cases d
    · rw [if_neg (by simp [h3])]
      by_cases k1 : s.size ≤ 100
      · have d3 : decide ((s.size : Int) ≤ 100) = true := by simp; omega
        rw [show decide (s.size ≤ 100) = true from decide_eq_true k1]
        by_cases k2 : 0 ≤ e
        · rw [show decide (0 ≤ e) = true from decide_eq_true k2]
          by_cases k3 : e ≤ 1099511627776
          · rw [show decide (e ≤ 1099511627776) = true from decide_eq_true k3]
            go_enter Tryz.func92, Tryz.ntmps92
            go_wp2
            go_ret
            exact ⟨rfl, bz.out⟩
          · rw [show decide (e ≤ 1099511627776) = false from decide_eq_false k3]
            go_enter Tryz.func92, Tryz.ntmps92
            go_wp2
            go_ret
            exact ⟨rfl, bz.out⟩
        · rw [show decide (0 ≤ e) = false from decide_eq_false k2]
          go_enter Tryz.func92, Tryz.ntmps92
          go_wp2
          go_ret
          exact ⟨rfl, bz.out⟩
      · have d3 : decide ((s.size : Int) ≤ 100) = false := by simp; omega
        rw [show decide (s.size ≤ 100) = false from decide_eq_false k1]
        go_enter Tryz.func92, Tryz.ntmps92
        go_wp2
        go_ret
        exact ⟨rfl, bz.out⟩
    · rw [if_pos (Or.inr rfl), show decide (0 < a) = true from decide_eq_true h5]
      have e0 : (⟨#[]⟩ : ByteArray).toList = [] := by rw [Lib.toList_data]
      rw [e0]
      obtain ⟨q, hq⟩ : ∃ q, (s.toList == []) = q := ⟨_, rfl⟩
      obtain ⟨p, hp⟩ : ∃ p, (e == 0) = p := ⟨_, rfl⟩
      rw [hq, hp]
      cases q
      · have hq2 : s.toList ≠ [] := fun h => by rw [h] at hq; exact absurd hq (by decide)
        go_enter Tryz.func92, Tryz.ntmps92
        go_wp2
        go_ret
        exact ⟨rfl, bz.out⟩
      · have hq2 : s.toList = [] := by simpa using hq
        cases p
        · go_enter Tryz.func92, Tryz.ntmps92
          go_wp2
          go_ret
          exact ⟨rfl, bz.out⟩
        · have hp2 : e = 0 := by simpa using hp
          subst hp2
          go_enter Tryz.func92, Tryz.ntmps92
          go_wp2
          go_ret
          exact ⟨rfl, bz.out⟩
end Go.Proofs.YthfanonjokpflaaGreat
