/-
  Numbers taken one by one, however many are left: Next; a cell by numbers.
-/
import Derived.Test.YthfanonjokpflaaNx3
set_option linter.unusedVariables false
set_option linter.unusedSimpArgs false
namespace Go.Proofs.Ythfanonjokpflaa
open Go Go.RowKit Go.Joins

/-- Some numbers are left at block q, read from below B. -/
structure LQ (w : World) (q B : Nat) : Prop where
  ex : ∃ A n c l, LAt w q A n c ∧ RdZ w B A n l ∧ n ≤ c ∧ c ≤ maxLen ∧ ∀ x ∈ l, -9223372036854775808 ≤ x ∧ x ≤ 9223372036854775807
theorem LQ.lt {w : World} {q B : Nat} (h : LQ w q B) : q < w.heap.size := by
  obtain ⟨A, n, c, l, h, _⟩ := h.ex
  exact (Array.getElem?_eq_some_iff.1 h).1
theorem LQ.below {w w' : World} {q B : Nat} (h : LQ w q B) (hb : Below w.heap.size w w') (hB : B ≤ w.heap.size) : LQ w' q B := by
  have hq := h.lt
  obtain ⟨A, n, c, l, h1, h2, h3⟩ := h.ex
  exact ⟨A, n, c, l, (hb.block q hq).trans h1, h2.below (hb.mono hB), h3⟩
theorem LQ.drew {w : World} {q B : Nat} (h : LQ w q B) (hB : B ≤ w.heap.size) : LQ w.drew q B := h.below ((Below.refl _ _).drew) hB
theorem LQ.kept {w w' : World} {q B : Nat} {F : Nat → Prop} (h : LQ w q B) (hk : Kept F w w') (hF : ∀ k, F k → q < k) (hB : B ≤ q) : LQ w' q B := by
  have hq := h.lt
  obtain ⟨A, n, c, l, h1, h2, h3⟩ := h.ex
  refine ⟨A, n, c, l, (hk.block q hq fun hf => absurd (hF q hf) (by omega)).trans h1, h2.below (hk.below (fun k hf => by have := hF k hf; omega) (by omega)), h3⟩

theorem next_none (q c : Nat) (A : Option Addr) (k : Int) (w : World) (h : LAt w q A 0 c) :
    Calls Try.prog 64 #[.pointer (some ⟨q, 0, none⟩), .int .i64 k] w fun e w' => e = .returned (.int .i64 0) ∧ w' = w := by
  have b0 : w.cell? ⟨q, 0, none⟩ = some (.slice A 0 c) := cell_at h rfl
  clear h
  go_enter Try.func64, Try.ntmps64
  go_wp2
  go_ret
  exact ⟨rfl, rfl⟩
theorem next_gen (q B : Nat) (k : Int) (w : World) (h : LQ w q B) (hBq : B ≤ q) (hk1 : 1 ≤ k) (hk2 : k ≤ 4611686018427387904) :
    Calls Try.prog 64 #[.pointer (some ⟨q, 0, none⟩), .int .i64 k] w fun e w' => ∃ v, e = .returned (.int .i64 v) ∧ 0 ≤ v ∧ v < k ∧ LQ w' q B ∧ Kept (fun k => k = q) w w' := by
  have hq := h.lt
  obtain ⟨A, n, c, l, h1, h2, h3, h4, h5⟩ := h.ex
  cases l with
  | nil =>
    obtain rfl : n = 0 := h2.1.symm
    refine (next_none q c A k w h1).mono ?_
    rintro e w' ⟨rfl, rfl⟩
    exact ⟨0, rfl, Int.le_refl _, by omega, h, Kept.refl _ _⟩
  | cons x l =>
    refine (next_num q n c B A x k l w h1 h2 h3 h4 hk1 hk2 (h5 x (List.mem_cons_self ..))).mono ?_
    rintro e w' ⟨rfl, A', rfl, hr⟩
    have hkp : Kept (fun k => k = q) w (w.setCell ⟨q, 0, none⟩ (.slice A' (n - 1) (c - 1))) := Kept.setCell _ _ _ _ rfl
    exact ⟨x % k, rfl, Int.emod_nonneg _ (by omega), Int.emod_lt_of_pos _ (by omega), ⟨A', n - 1, c - 1, l, block_setCell (i := 0) h1 _, hr.below (hkp.below (fun k hk => by omega) (by omega)), by omega, by omega, fun y hy => h5 y (List.mem_cons_of_mem _ hy)⟩, hkp⟩

set_option maxHeartbeats 4000000 in
theorem cell_none (q c : Nat) (A : Option Addr) (w : World) (h : LAt w q A 0 c) :
    Calls Try.prog 83 #[.pointer (some ⟨q, 0, none⟩)] w fun e w' => e = .returned (.agg #[.string ⟨#[]⟩, .bool true, .int .i64 1, .int .i64 0]) ∧ Below w.heap.size w w' := by
  have hq : q < w.heap.size := (Array.getElem?_eq_some_iff.1 h).1
  have h1 : LAt (w.alloc (.cells #[.string ⟨#[]⟩, .bool false, .int .i64 0, .int .i64 0] 58)) q A 0 c := by unfold LAt; rw [((Below.refl w.heap.size w).alloc (Nat.le_refl _) _).block q hq]; exact h
  have hkz := heap_alloc_new w (.cells #[.string ⟨#[]⟩, .bool false, .int .i64 0, .int .i64 0] 58)
  have hb := (Below.refl w.heap.size w).alloc (Nat.le_refl _) (.cells #[.string ⟨#[]⟩, .bool false, .int .i64 0, .int .i64 0] 58)
  have H1 := Lib.hid h1
  obtain ⟨w1, hw1⟩ : ∃ w1, w1 = w.alloc (.cells #[.string ⟨#[]⟩, .bool false, .int .i64 0, .int .i64 0] 58) := ⟨_, rfl⟩
  rw [← hw1] at H1 hkz hb
  have hs1 : w1.heap.size = w.heap.size + 1 := by rw [hw1]; simp
  have m0 := block_setCell (i := 0) hkz (.string ⟨#[]⟩)
  have m1 := block_setCell (i := 1) m0 (.bool true)
  have m2 := block_setCell (i := 2) m1 (.int .i64 1)
  have m3 := block_setCell (i := 3) m2 (.int .i64 0)
  have M3 := Lib.hid m3
  have k0 := fun o => cell_at (i := 0) (at_new hkz o) rfl
  have k1 := fun o => cell_at (i := 1) (at_new m0 o) rfl
  have k2 := fun o => cell_at (i := 2) (at_new m1 o) rfl
  have k3 := fun o => cell_at (i := 3) (at_new m2 o) rfl
  have f0 := fun o => thawed_at (i := 0) (at_new hkz o)
  have f1 := fun o => thawed_at (i := 1) (at_new m0 o)
  have f2 := fun o => thawed_at (i := 2) (at_new m1 o)
  have f3 := fun o => thawed_at (i := 3) (at_new m2 o)
  have HB := Lib.hid hb
  clear m0 m1 m2 m3 hkz h h1 hb
  go_enter Try.func83, Try.ntmps83
  go_wp2_with fail
  rw [← hw1]
  clear hw1
  refine (next_none q c A 1048576 _ H1.out).mono ?_
  rintro e w2 ⟨rfl, rfl⟩
  go_wp2
  refine bodyPost_ret (v := .agg #[.string ⟨#[]⟩, .bool true, .int .i64 1, .int .i64 0]) (by simp [results, Try.results83, go_sem, cell_at (i := 0) (at_new M3.out _) rfl, cell_at (i := 1) (at_new M3.out _) rfl, cell_at (i := 2) (at_new M3.out _) rfl, cell_at (i := 3) (at_new M3.out _) rfl]) rfl ⟨rfl, ?_⟩
  have hs := hs1
  have hk4 := kept4 w2 w.heap.size (.string ⟨#[]⟩) (.bool true) (.int .i64 1) (.int .i64 0)
  exact HB.out.trans ((hk4 _).below (fun k hk => by omega) (by omega))
theorem cell_a (q n c B : Nat) (A : Option Addr) (x : Int) (l : List Int) (w : World) (h : LAt w q A n c) (hr : RdZ w B A n (x :: l)) (hnc : n ≤ c) (hc : c ≤ maxLen) (hBq : B ≤ q) (hx : -9223372036854775808 ≤ x ∧ x ≤ 9223372036854775807) :
    Calls Try.prog 83 #[.pointer (some ⟨q, 0, none⟩)] w fun e w' => ∃ (s : ByteArray) (d : Bool) (a b : Int), e = .returned (.agg #[.string s, .bool d, .int .i64 a, .int .i64 b]) ∧ (Ce.ok ⟨s, d, a, b⟩ = true ∧ s.size ≤ 1 ∧ 1 ≤ a) ∧ ∃ A', LAt w' q A' (n - 1) (c - 1) ∧ RdZ w' B A' (n - 1) l ∧ Kept (fun k => k = q) w w' := by
  have v0 : 0 ≤ x % 1048576 := Int.emod_nonneg _ (by decide)
  have v1 : x % 1048576 < 1048576 := Int.emod_lt_of_pos _ (by decide)
  obtain ⟨v, hv⟩ : ∃ v, x % 1048576 = v := ⟨_, rfl⟩
  rw [hv] at v0 v1
  have td : ∀ (m k : Int), 0 ≤ m → m < 1048576 → 1 ≤ k → 0 ≤ m.tdiv k ∧ m.tdiv k < 1048576 := fun m k h0 h1 hk => by
    rw [Int.tdiv_eq_ediv_of_nonneg h0]
    exact ⟨Int.ediv_nonneg h0 (by omega), Int.lt_of_le_of_lt (Int.ediv_le_self _ h0) h1⟩
  have tm : ∀ (m k : Int), 0 ≤ m → 1 ≤ k → 0 ≤ m.tmod k ∧ m.tmod k < k := fun m k h0 hk => by
    rw [Int.tmod_eq_emod_of_nonneg h0]
    exact ⟨Int.emod_nonneg _ (by omega), Int.emod_lt_of_pos _ (by omega)⟩
  obtain ⟨a0, a1⟩ := tm v 7 v0 (by omega)
  obtain ⟨p0, p1⟩ := td v 7 v0 v1 (by omega)
  by_cases hm : (v.tdiv 7).tmod 4 = 0
  · refine (cell_dead q n c B A x v _ _ _ l w h hr hnc hc hBq hx hv v0 v1 rfl a0 a1 rfl rfl hm p0 p1).mono ?_
    rintro e w' ⟨rfl, hw⟩
    refine ⟨_, _, _, _, rfl, ⟨?_, by decide, by omega⟩, hw⟩
    unfold Ce.ok stm
    simp only
    rw [if_neg (by omega), if_neg (by simp; omega)]
    exact same_self _
  · obtain ⟨y0, y1⟩ := td v 28 v0 v1 (by omega)
    obtain ⟨i0, i1⟩ := tm (v.tdiv 28) 3 y0 (by omega)
    obtain ⟨z0, z1⟩ := td v 84 v0 v1 (by omega)
    obtain ⟨u0, u1⟩ := td v 336 v0 v1 (by omega)
    obtain ⟨b0, b1⟩ := tm (v.tdiv 336) 10 u0 (by omega)
    obtain ⟨s, hs1, hs⟩ := xyz_at _ i0 i1
    refine (cell_alive q n c B A x v _ _ _ _ _ _ _ _ s l w h hr hnc hc hBq hx hv v0 v1 rfl a0 a1 rfl rfl (by rw [beq_eq_false_iff_ne]; exact hm) p0 p1 rfl y0 y1 rfl i0 i1 rfl z0 z1 rfl rfl u0 u1 _ _ rfl b0 b1 ⟨_, rfl, rfl⟩ hs).mono ?_
    rintro e w' ⟨rfl, hw⟩
    refine ⟨_, _, _, _, rfl, ⟨?_, by omega, by omega⟩, hw⟩
    unfold Ce.ok stm
    simp only
    rw [if_neg (by omega), if_neg (by simp; omega), if_neg (by decide), decide_eq_true (show s.size ≤ 100 by omega)]
    split <;> simp <;> omega
/-- A cell by numbers, however many are left. -/
theorem cell_gen (q B : Nat) (w : World) (h : LQ w q B) (hBq : B ≤ q) :
    Calls Try.prog 83 #[.pointer (some ⟨q, 0, none⟩)] w fun e w' => ∃ (s : ByteArray) (d : Bool) (a b : Int), e = .returned (.agg #[.string s, .bool d, .int .i64 a, .int .i64 b]) ∧ (Ce.ok ⟨s, d, a, b⟩ = true ∧ s.size ≤ 1 ∧ 1 ≤ a) ∧ LQ w' q B ∧ Kept (fun k => k = q) w w' := by
  have hq := h.lt
  obtain ⟨A, n, c, l, h1, h2, h3, h4, h5⟩ := h.ex
  cases l with
  | nil =>
    obtain rfl : n = 0 := h2.1.symm
    refine (cell_none q c A w h1).mono ?_
    rintro e w' ⟨rfl, hb⟩
    refine ⟨_, _, _, _, rfl, ⟨?_, by decide, by decide⟩, h.below hb (by omega), Kept.of_below hb _⟩
    unfold Ce.ok stm
    simp only
    rw [if_neg (by omega), if_neg (by simp)]
    exact same_self _
  | cons x l =>
    refine (cell_a q n c B A x l w h1 h2 h3 h4 hBq (h5 x (List.mem_cons_self ..))).mono ?_
    rintro e w' ⟨s, d, a, b, rfl, hok, A', h6, h7, h8⟩
    exact ⟨s, d, a, b, rfl, hok, ⟨A', _, _, l, h6, h7, by omega, by omega, fun y hy => h5 y (List.mem_cons_of_mem _ hy)⟩, h8⟩
end Go.Proofs.Ythfanonjokpflaa
