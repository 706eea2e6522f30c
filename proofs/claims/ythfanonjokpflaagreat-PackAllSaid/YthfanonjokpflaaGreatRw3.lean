/-
  The developers' Check of rows.
-/
import Derived.Test.YthfanonjokpflaaGreatRw1
import Derived.Test.YthfanonjokpflaaGreatRoB
import Derived.Test.YthfanonjokpflaaGreatRnN
import Derived.Test.YthfanonjokpflaaGreatCeK
import Derived.Laws.Cover1
set_option linter.unusedVariables false
set_option linter.unusedSimpArgs false
namespace Go.Proofs.YthfanonjokpflaaGreat
open Go Go.RowKit

theorem rwstamp_any (n : Int) (w : World) :
    Calls Tryz.prog 109 #[.int .i64 n] w fun x w' => x = .returned (.bool (stm n)) ∧ w = w' := by
  obtain ⟨r, hr⟩ : ∃ r : Bool, stm n = r := ⟨_, rfl⟩
  rw [hr]
  have HR := Lib.hid hr
  clear hr
  by_cases h0 : 0 ≤ n
  · have hv : decide (n ≤ 1099511627776) = r := by rw [← HR.out]; simp [stm, h0]
    subst hv
    go_enter Tryz.func109, Tryz.ntmps109
    go_wp2
    go_ret
    exact ⟨rfl, rfl⟩
  · have hv : r = false := by rw [← HR.out]; simp [stm, h0]
    subst hv
    go_enter Tryz.func109, Tryz.ntmps109
    go_wp2
    go_ret
    exact ⟨rfl, rfl⟩

set_option maxHeartbeats 1000000 in
theorem live_any (s : ByteArray) (d : Bool) (a e : Int) (w : World) (hs : s.size ≤ maxLen) :
    Calls Tryz.prog 108 #[.agg #[.string s, .bool d, .int .i64 a, .int .i64 e]] w fun x w' => x = .returned (.bool (liveB ⟨s, d, a, e⟩)) ∧ Below w.heap.size w w' := by
  obtain ⟨r, hr⟩ : ∃ r : Bool, liveB ⟨s, d, a, e⟩ = r := ⟨_, rfl⟩
  obtain ⟨u1, hu1⟩ : ∃ r : Bool, Ce.ok ⟨s, d, a, e⟩ = r := ⟨_, rfl⟩
  obtain ⟨u2, hu2⟩ : ∃ r : Bool, s.toList.isEmpty = r := ⟨_, rfl⟩
  rw [hr]
  unfold liveB at hr
  rw [hu1] at hr
  simp only at hr
  rw [hu2] at hr
  have HR := Lib.hid hr; have U1 := Lib.hid hu1
  have bz := Lib.hid ((Below.refl w.heap.size w).alloc (Nat.le_refl _) (.cells #[.string s, .bool d, .int .i64 a, .int .i64 e] 54))
  have pz := Lib.hid (CeAt.new w s d a e)
  clear hr hu1
  go_enter Tryz.func108, Tryz.ntmps108
  go_wp2_with fail
  refine (check_any _ _ _ _ _ hs).mono ?_
  rintro x w1 ⟨rfl, b1⟩
  rw [U1.out]
  obtain ⟨q0, q1, q2, q3⟩ := pz.out.below b1 (by simp)
  have B1 := Lib.hid (next bz.out b1)
  clear b1
  cases u1
  · have hv : r = false := by rw [← HR.out]; rfl
    subst hv
    go_wp2
    go_ret
    exact ⟨rfl, B1.out⟩
  · cases u2
    · have hv : r = false := by rw [← HR.out]; rfl
      subst hv
      go_wp2
      go_ret
      exact ⟨rfl, B1.out⟩
    · have hv : (!d) = r := by rw [← HR.out]; rfl
      subst hv
      go_wp2
      go_ret
      exact ⟨rfl, B1.out⟩

set_option maxHeartbeats 1000000 in
theorem col_any (m s : ByteArray) (d : Bool) (a e : Int) (w : World) (hm : m.size ≤ 1099511627776) (hs : s.size ≤ maxLen) :
    Calls Tryz.prog 119 #[.agg #[.string m, .string s, .bool d, .int .i64 a, .int .i64 e]] w fun x w' => x = .returned (.bool (colB (m, ⟨s, d, a, e⟩))) ∧ Below w.heap.size w w' := by
  obtain ⟨r, hr⟩ : ∃ r : Bool, colB (m, ⟨s, d, a, e⟩) = r := ⟨_, rfl⟩
  obtain ⟨u1, hu1⟩ : ∃ r : Bool, nameB m = r := ⟨_, rfl⟩
  obtain ⟨u2, hu2⟩ : ∃ r : Bool, Ce.ok ⟨s, d, a, e⟩ = r := ⟨_, rfl⟩
  rw [hr]
  unfold colB at hr
  simp only at hr
  rw [hu1, hu2] at hr
  have HR := Lib.hid hr; have U1 := Lib.hid hu1; have U2 := Lib.hid hu2
  have bz := Lib.hid ((Below.refl w.heap.size w).alloc (Nat.le_refl _) (.cells #[.string m, .string s, .bool d, .int .i64 a, .int .i64 e] 99))
  have hz := heap_alloc_new w (.cells #[.string m, .string s, .bool d, .int .i64 a, .int .i64 e] 99)
  have hall : ∀ w', Below (w.heap.size + 1) (w.alloc (.cells #[.string m, .string s, .bool d, .int .i64 a, .int .i64 e] 99)) w' → w'.cell? ⟨w.heap.size, 0, none⟩ = some (.string m) ∧ w'.cell? ⟨w.heap.size, 0 + 1, none⟩ = some (.string s) ∧ w'.cell? ⟨w.heap.size, 0 + 2, none⟩ = some (.bool d) ∧ w'.cell? ⟨w.heap.size, 0 + 3, none⟩ = some (.int .i64 a) ∧ w'.cell? ⟨w.heap.size, 0 + 4, none⟩ = some (.int .i64 e) := fun w' hb => by
    have hq := (hb.block w.heap.size (by omega)).trans hz
    exact ⟨cell_at hq rfl, cell_at hq rfl, cell_at hq rfl, cell_at hq rfl, cell_at hq rfl⟩
  have HALL := Lib.hid hall
  clear hr hu1 hu2 hz hall
  go_enter Tryz.func119, Tryz.ntmps119
  go_wp2_with fail
  refine (name_any _ _ hm).mono ?_
  rintro x w1 ⟨rfl, b1⟩
  rw [U1.out]
  obtain ⟨_, _, _, _, _⟩ := HALL.out _ (b1.mono (by simp))
  have B0 := Lib.hid b1
  have B1 := Lib.hid (next bz.out b1)
  clear b1
  cases u1
  · have hv : r = false := by rw [← HR.out]; rfl
    subst hv
    go_wp2
    go_ret
    exact ⟨rfl, B1.out⟩
  · go_wp2_with fail
    refine (check_any _ _ _ _ _ hs).mono ?_
    rintro x w2 ⟨rfl, b2⟩
    rw [U2.out]
    obtain ⟨_, _, _, _, _⟩ := HALL.out _ ((next B0.out b2).mono (by simp))
    have B2 := Lib.hid (next B1.out b2)
    clear b2
    cases u2
    · have hv : r = false := by rw [← HR.out]; rfl
      subst hv
      go_wp2
      go_ret
      exact ⟨rfl, B2.out⟩
    · have hv : decide (0 < a) = r := by rw [← HR.out]; simp; rfl
      subst hv
      go_wp2
      go_ret
      exact ⟨rfl, B2.out⟩
end Go.Proofs.YthfanonjokpflaaGreat
