/-
  Join, Seen, Same of cells.
-/
import Derived.Test.YtipkghchcacgiaaCe2
import Derived.Laws.IdiomStrings
import Derived.Laws.IdiomRangeMap
set_option linter.unusedVariables false
set_option linter.unusedSimpArgs false
namespace Go.Proofs.Ytipkghchcacgiaa
open Go Go.RowKit

/-- A cell of a block that is written out. -/
theorem cell_at {w : World} {g i : Nat} {cs : Array Value} {t : TypeId} (h : w.heap[g]? = some (.cells cs t (0, 0))) {v : Value} (hv : cs[i]? = some v) : w.cell? ⟨g, i, none⟩ = some v := by
  simp [World.cell?, h, hv]
theorem thawed_at {w : World} {g i : Nat} {cs : Array Value} {t : TypeId} (h : w.heap[g]? = some (.cells cs t (0, 0))) : w.frozen? ⟨g, i, none⟩ = false := by
  simp [World.frozen?, h]

set_option maxHeartbeats 2000000 in
theorem join_any (s t : ByteArray) (d f : Bool) (a b e g : Int) (w : World) :
    Calls Try.prog 11 #[.agg #[.string s, .bool d, .int .i64 a, .int .i64 e], .agg #[.string t, .bool f, .int .i64 b, .int .i64 g]] w fun x w' => x = .returned (Ce.join ⟨s, d, a, e⟩ ⟨t, f, b, g⟩).v ∧ Below w.heap.size w w' := by
  obtain ⟨r, hr⟩ : ∃ r, Ce.cmp ⟨s, d, a, e⟩ ⟨t, f, b, g⟩ = r := ⟨_, rfl⟩
  have hj : (Ce.join ⟨s, d, a, e⟩ ⟨t, f, b, g⟩) = if r < 0 then ⟨t, f, b, g⟩ else ⟨s, d, a, e⟩ := by unfold Ce.join; rw [hr]
  rw [hj]
  have HR := Lib.hid hr
  clear hj hr
  have p1 := ((CeAt.new w s d a e).alloc (by simp) (.cells #[.string t, .bool f, .int .i64 b, .int .i64 g] 23)).alloc (by simp; omega) (.cells #[.string ⟨#[]⟩, .bool false, .int .i64 0, .int .i64 0] 23)
  have p2 := (CeAt.new (w.alloc (.cells #[.string s, .bool d, .int .i64 a, .int .i64 e] 23)) t f b g).alloc (by simp) (.cells #[.string ⟨#[]⟩, .bool false, .int .i64 0, .int .i64 0] 23)
  have p3 := CeAt.new ((w.alloc (.cells #[.string s, .bool d, .int .i64 a, .int .i64 e] 23)).alloc (.cells #[.string t, .bool f, .int .i64 b, .int .i64 g] 23)) ⟨#[]⟩ false 0 0
  have hZ := heap_alloc_new ((w.alloc (.cells #[.string s, .bool d, .int .i64 a, .int .i64 e] 23)).alloc (.cells #[.string t, .bool f, .int .i64 b, .int .i64 g] 23)) (.cells #[.string ⟨#[]⟩, .bool false, .int .i64 0, .int .i64 0] 23)
  simp only [World.size_alloc] at p1 p2 p3 hZ
  have P1 := Lib.hid p1; have P2 := Lib.hid p2; have P3 := Lib.hid p3
  clear p1 p2 p3
  have BZ := Lib.hid ((((Below.refl w.heap.size w).alloc (Nat.le_refl _) (.cells #[.string s, .bool d, .int .i64 a, .int .i64 e] 23)).alloc (by simp) (.cells #[.string t, .bool f, .int .i64 b, .int .i64 g] 23)).alloc (by simp; omega) (.cells #[.string ⟨#[]⟩, .bool false, .int .i64 0, .int .i64 0] 23))
  by_cases h : r < 0
  · rw [if_pos h]
    go_enter Try.func11, Try.ntmps11
    go_wp2_with fail
    refine (cmp_any _ _ _ _ _ _ _ _ _).mono ?_
    rintro e w1 ⟨rfl, b1⟩
    rw [HR.out]
    obtain ⟨q0, q1, q2, q3⟩ := P2.out.below b1 (by simp)
    have kz := (b1.block (w.heap.size + 1 + 1) (by simp)).trans hZ
    obtain ⟨z0, z1, z2, z3⟩ := P3.out.below b1 (by simp)
    have y0 := thawed_at (i := 0) kz
    have y1 := thawed_at (i := 1) kz
    have y2 := thawed_at (i := 2) kz
    have y3 := thawed_at (i := 3) kz
    go_wp2
    refine bodyPost_ret (v := .agg #[.string t, .bool f, .int .i64 b, .int .i64 g]) (by simp [results, Try.results11, go_sem, z0, z1, z2, z3]) rfl ⟨rfl, ?_⟩
    exact ((((BZ.out.trans (b1.mono (by simp; omega))).setCell (by simp; omega) _).setCell (by simp; omega) _).setCell (by simp; omega) _).setCell (by simp; omega) _
  · rw [if_neg h]
    go_enter Try.func11, Try.ntmps11
    go_wp2_with fail
    refine (cmp_any _ _ _ _ _ _ _ _ _).mono ?_
    rintro e w1 ⟨rfl, b1⟩
    rw [HR.out]
    obtain ⟨q0, q1, q2, q3⟩ := P1.out.below b1 (by simp; omega)
    have kz := (b1.block (w.heap.size + 1 + 1) (by simp)).trans hZ
    obtain ⟨z0, z1, z2, z3⟩ := P3.out.below b1 (by simp)
    have y0 := thawed_at (i := 0) kz
    have y1 := thawed_at (i := 1) kz
    have y2 := thawed_at (i := 2) kz
    have y3 := thawed_at (i := 3) kz
    go_wp2
    refine bodyPost_ret (v := .agg #[.string s, .bool d, .int .i64 a, .int .i64 e]) (by simp [results, Try.results11, go_sem, z0, z1, z2, z3]) rfl ⟨rfl, ?_⟩
    exact ((((BZ.out.trans (b1.mono (by simp; omega))).setCell (by simp; omega) _).setCell (by simp; omega) _).setCell (by simp; omega) _).setCell (by simp; omega) _

/-- The model's own comparison of two cells. -/
theorem run_eqCe (s t : ByteArray) (d f : Bool) (a b e g : Int) (w : World) :
    (binOp .eql 23 (.agg #[.string s, .bool d, .int .i64 a, .int .i64 e]) (.agg #[.string t, .bool f, .int .i64 b, .int .i64 g])).run Try.prog w = .ok (.bool (Ce.same ⟨s, d, a, e⟩ ⟨t, f, b, g⟩)) w := by
  have u3 := Try.underlying3
  have u4 := Try.underlying4
  have u9 := Try.underlying9
  have a3 := Try.isAgg3
  have a4 := Try.isAgg4
  have a9 := Try.isAgg9
  have z3 := Try.sizeOf3
  have z4 := Try.sizeOf4
  have z9 := Try.sizeOf9
  have hS : Try.prog.underlying 23 = some (.struct (Try.prog.fieldsOf 23)) := by kernel_rfl
  have hp : Try.prog.stoodInHeld 23 = false := by kernel_rfl
  rw [run_eql_struct, show (10000 : Nat) = 9999 + 1 from rfl, run_equalIn_struct w 9999 23 _ _ hS hp]
  simp only [Program.fieldsOf, Try.underlying23]
  go_simp
  unfold Ce.same
  by_cases h1 : s.toList = t.toList <;> by_cases h2 : d = f <;> by_cases h3 : a = b <;> by_cases h4 : e = g <;> simp [h1, h2, h3, h4]

theorem same_any (s t : ByteArray) (d f : Bool) (a b e g : Int) (w : World) :
    Calls Try.prog 19 #[.agg #[.string s, .bool d, .int .i64 a, .int .i64 e], .agg #[.string t, .bool f, .int .i64 b, .int .i64 g]] w fun x w' => x = .returned (.bool (Ce.same ⟨s, d, a, e⟩ ⟨t, f, b, g⟩)) ∧ Below w.heap.size w w' := by
  have he := fun w => run_eqCe s t d f a b e g w
  have hm : Try.prog.eqGuardType Try.prog.depth 23 = false := by kernel_rfl
  have hg := fun (w : World) (x y : Operand) => run_eqGuard_agg (P := Try.prog) w .eql 23 x y #[.string s, .bool d, .int .i64 a, .int .i64 e] #[.string t, .bool f, .int .i64 b, .int .i64 g] hm
  have bz := Lib.hid (((Below.refl w.heap.size w).alloc (Nat.le_refl _) (.cells #[.string s, .bool d, .int .i64 a, .int .i64 e] 23)).alloc (by simp) (.cells #[.string t, .bool f, .int .i64 b, .int .i64 g] 23))
  clear hm
  go_enter Try.func19, Try.ntmps19
  go_wp2
  go_ret
  exact ⟨rfl, bz.out⟩

theorem stamp_any (n : Int) (w : World) :
    Calls Try.prog 22 #[.int .i64 n] w fun x w' => x = .returned (.bool (decide (0 ≤ n) && decide (n ≤ 1099511627776))) ∧ w = w' := by
  by_cases h : 0 ≤ n
  · go_enter Try.func22, Try.ntmps22
    go_wp2
    go_ret
    exact ⟨by simp [h], rfl⟩
  · go_enter Try.func22, Try.ntmps22
    go_wp2
    go_ret
    exact ⟨by rw [show decide (0 ≤ n) = false from decide_eq_false (by omega)]; rfl, rfl⟩

set_option maxHeartbeats 2000000 in
theorem seen_any (s : ByteArray) (d : Bool) (a e n : Int) (w : World) :
    Calls Try.prog 17 #[.agg #[.string s, .bool d, .int .i64 a, .int .i64 e], .int .i64 n] w fun x w' => x = .returned (.bool (Ce.seen ⟨s, d, a, e⟩ n)) ∧ Below w.heap.size w w' := by
  obtain ⟨r, hr⟩ : ∃ r, Ce.seen ⟨s, d, a, e⟩ n = r := ⟨_, rfl⟩
  rw [hr]
  have HR := Lib.hid hr
  clear hr
  have bz := Lib.hid ((Below.refl w.heap.size w).alloc (Nat.le_refl _) (.cells #[.string s, .bool d, .int .i64 a, .int .i64 e] 23))
  by_cases h1 : 0 < a
  · cases d
    · by_cases h2 : e = 0
      · have hb : (e == 0) = true := by rw [beq_iff_eq]; exact h2
        have hv : r = true := by rw [← HR.out]; simp [Ce.seen, h1, h2]
        subst hv
        subst h2
        go_enter Try.func17, Try.ntmps17
        go_wp2
        go_ret
        exact ⟨rfl, bz.out⟩
      · have hb : (e == 0) = false := by rw [beq_eq_false_iff_ne]; exact h2
        by_cases h3 : n < e
        · have hv : r = true := by rw [← HR.out]; simp [Ce.seen, h1, h2, h3]
          subst hv
          go_enter Try.func17, Try.ntmps17
          go_wp2
          go_ret
          exact ⟨rfl, bz.out⟩
        · have hv : r = false := by rw [← HR.out]; simp [Ce.seen, h1, h2]; omega
          subst hv
          go_enter Try.func17, Try.ntmps17
          go_wp2
          go_ret
          exact ⟨rfl, bz.out⟩
    · have hv : r = false := by rw [← HR.out]; simp [Ce.seen]
      subst hv
      go_enter Try.func17, Try.ntmps17
      go_wp2
      go_ret
      exact ⟨rfl, bz.out⟩
  · have hv : r = false := by rw [← HR.out]; simp [Ce.seen, h1]
    subst hv
    go_enter Try.func17, Try.ntmps17
    go_wp2
    go_ret
    exact ⟨rfl, bz.out⟩
end Go.Proofs.Ytipkghchcacgiaa
