/-
  A cell by numbers.
-/
import Derived.Test.YthfanonjokpflaaNx
set_option linter.unusedVariables false
set_option linter.unusedSimpArgs false
namespace Go.Proofs.Ythfanonjokpflaa
open Go Go.RowKit Go.Joins

theorem at_new {W : World} {r : Nat} {cs : Array Value} {t : TypeId} (h : W.heap[r]? = some (.cells cs t (0, 0))) (o : Obj) : (W.alloc o).heap[r]? = some (.cells cs t (0, 0)) :=
  (((Below.refl W.heap.size W).alloc (Nat.le_refl _) o).block r (Array.getElem?_eq_some_iff.1 h).1).trans h

theorem nx_end {w w1 w5 : World} {q n c n' c' B : Nat} {A A' : Option Addr} {l : List Int} {Z : Obj} (hq : q < w.heap.size) (hB : B ≤ q) (h1 : LAt (w.alloc Z) q A n c) (hw1 : w1 = (w.alloc Z).setCell ⟨q, 0, none⟩ (.slice A' n' c')) (hr : RdZ (w.alloc Z) B A' n' l)
    (hk : Kept (fun k => k = w.heap.size) w1 w5) : LAt w5 q A' n' c' ∧ RdZ w5 B A' n' l ∧ Kept (fun k => k = q) w w5 := by
  have hl : LAt w1 q A' n' c' := by rw [hw1]; exact block_setCell (i := 0) h1 _
  have k1 : Kept (fun k => k = q) (w.alloc Z) w1 := by rw [hw1]; exact Kept.setCell _ _ _ _ rfl
  have hs1 : w1.heap.size = w.heap.size + 1 := by rw [hw1]; simp [World.setCell]
  refine ⟨(hk.block q (by omega) (by omega)).trans hl, (hr.below (k1.below (fun k hk => by omega) (by simp; omega))).below (hk.below (fun k hk => by omega) (by omega)), ?_⟩
  exact ((Kept.alloc _ w Z).trans k1 fun k hk => Or.inl hk).trans hk fun k hk => Or.inr (by omega)
theorem kept4 (w : World) (r : Nat) (v0 v1 v2 v3 : Value) (o : Obj) : Kept (fun k => k = r) w (((((w.setCell ⟨r, 0, none⟩ v0).setCell ⟨r, 1, none⟩ v1).setCell ⟨r, 2, none⟩ v2).setCell ⟨r, 3, none⟩ v3).alloc o) :=
  ((((Kept.setCell (fun k => k = r) w ⟨r, 0, none⟩ v0 rfl).trans (Kept.setCell (fun k => k = r) _ ⟨r, 1, none⟩ v1 rfl) fun _ h => Or.inl h).trans (Kept.setCell (fun k => k = r) _ ⟨r, 2, none⟩ v2 rfl) fun _ h => Or.inl h).trans (Kept.setCell (fun k => k = r) _ ⟨r, 3, none⟩ v3 rfl) fun _ h => Or.inl h).trans (Kept.alloc (fun k => k = r) _ o) fun _ h => Or.inl h

set_option maxHeartbeats 4000000 in
theorem cell_dead (q n c B : Nat) (A : Option Addr) (x v m a p : Int) (l : List Int) (w : World) (h : LAt w q A n c) (hr : RdZ w B A n (x :: l)) (hnc : n ≤ c) (hc : c ≤ maxLen) (hBq : B ≤ q) (hx : -9223372036854775808 ≤ x ∧ x ≤ 9223372036854775807)
    (hv : x % 1048576 = v) (v0 : 0 ≤ v) (v1 : v < 1048576) (ha : v.tmod 7 = a) (a0 : 0 ≤ a) (a1 : a < 7) (hp : v.tdiv 7 = p) (hm : p.tmod 4 = m) (hm0 : m = 0) (p0 : 0 ≤ p) (p1 : p < 1048576) :
    Calls Try.prog 83 #[.pointer (some ⟨q, 0, none⟩)] w fun e w' => e = .returned (.agg #[.string ⟨#[]⟩, .bool true, .int .i64 (1 + a), .int .i64 0]) ∧ ∃ A', LAt w' q A' (n - 1) (c - 1) ∧ RdZ w' B A' (n - 1) l ∧ Kept (fun k => k = q) w w' := by
  have hq : q < w.heap.size := (Array.getElem?_eq_some_iff.1 h).1
  subst hm0
  have h1 : LAt (w.alloc (.cells #[.string ⟨#[]⟩, .bool false, .int .i64 0, .int .i64 0] 58)) q A n c := by unfold LAt; rw [((Below.refl w.heap.size w).alloc (Nat.le_refl _) _).block q hq]; exact h
  have hr1 : RdZ (w.alloc (.cells #[.string ⟨#[]⟩, .bool false, .int .i64 0, .int .i64 0] 58)) B A n (x :: l) := hr.below ((Below.refl B w).alloc (by omega) _)
  have hz := heap_alloc_new w (.cells #[.string ⟨#[]⟩, .bool false, .int .i64 0, .int .i64 0] 58)
  have wp : wrap64 p = p := by unfold wrap64; omega
  have wr : IntKind.i64.wrap (1 + a) = 1 + a := by rw [IntKind.wrap_i64]; omega
  have HX := Lib.hid hx; have H1 := Lib.hid h1; have HR1 := Lib.hid hr1; have HV := Lib.hid hv; have HZ := Lib.hid hz
  clear h hr h1 hr1 hx hv hz
  go_enter Try.func83, Try.ntmps83
  go_wp2_with fail
  refine (next_num q n c B A x 1048576 l _ H1.out HR1.out hnc hc (by omega) (by omega) HX.out).mono ?_
  rintro e w1 ⟨rfl, A', hw1, hr2⟩
  rw [HV.out]
  have hs1 : w1.heap.size = w.heap.size + 1 := by rw [hw1]; simp [World.setCell]
  have hkz : w1.heap[w.heap.size]? = some (.cells #[.string ⟨#[]⟩, .bool false, .int .i64 0, .int .i64 0] 58) := by rw [hw1, Below.heap_setCell _ _ _ _ (show w.heap.size ≠ (⟨q, 0, none⟩ : Addr).block from by show w.heap.size ≠ q; omega)]; exact HZ.out
  have HK := Lib.hid hkz
  have HW := Lib.hid hw1
  have HR2 := Lib.hid hr2
  have m0 := block_setCell (i := 0) hkz (.string ⟨#[]⟩)
  have m1 := block_setCell (i := 1) m0 (.bool true)
  have m2 := block_setCell (i := 2) m1 (.int .i64 (1 + a))
  have m3 := block_setCell (i := 3) m2 (.int .i64 0)
  have M3 := Lib.hid m3
  have k0 := fun o => cell_at (i := 0) (at_new hkz o) rfl
  have k1 := fun o => cell_at (i := 1) (at_new m0 o) rfl
  have k2 := fun o => cell_at (i := 2) (at_new m1 o) rfl
  have k3 := fun o => cell_at (i := 3) (at_new m2 o) rfl
  have f0 := fun o => thawed_at (i := 0) (at_new hkz o)
  have f1 := fun o => thawed_at (i := 1) (at_new m0 o)
  have f2 := fun o => thawed_at (i := 2) (at_new m1 o)
  have f3 := fun o => thawed_at (i := 3) (at_new m2 o)
  clear m0 m1 m2 m3
  clear hkz hw1 hr2
  go_wp2
  refine bodyPost_ret (v := .agg #[.string ⟨#[]⟩, .bool true, .int .i64 (1 + a), .int .i64 0]) (by simp [results, Try.results83, go_sem, cell_at (i := 0) (at_new M3.out _) rfl, cell_at (i := 1) (at_new M3.out _) rfl, cell_at (i := 2) (at_new M3.out _) rfl, cell_at (i := 3) (at_new M3.out _) rfl]) rfl ⟨rfl, A', ?_⟩
  exact nx_end hq hBq H1.out HW.out HR2.out (kept4 _ _ _ _ _ _ _)
set_option maxHeartbeats 4000000 in
theorem cell_alive (q n c B : Nat) (A : Option Addr) (x v m a p y i z e u : Int) (s : ByteArray) (l : List Int) (w : World) (h : LAt w q A n c) (hr : RdZ w B A n (x :: l)) (hnc : n ≤ c) (hc : c ≤ maxLen) (hBq : B ≤ q) (hx : -9223372036854775808 ≤ x ∧ x ≤ 9223372036854775807)
    (hv : x % 1048576 = v) (v0 : 0 ≤ v) (v1 : v < 1048576) (ha : v.tmod 7 = a) (a0 : 0 ≤ a) (a1 : a < 7) (hp : v.tdiv 7 = p) (hm : p.tmod 4 = m) (hm0 : (m == 0) = false) (p0 : 0 ≤ p) (p1 : p < 1048576) (hy : v.tdiv 28 = y) (y0 : 0 ≤ y) (y1 : y < 1048576) (hi : y.tmod 3 = i) (i0 : 0 ≤ i) (i1 : i < 3) (hz : v.tdiv 84 = z) (z0 : 0 ≤ z) (z1 : z < 1048576) (he : z.tmod 4 = e) (hu : v.tdiv 336 = u) (u0 : 0 ≤ u) (u1 : u < 1048576) (b f : Int) (hb : u.tmod 10 = b) (b0 : 0 ≤ b) (b1 : b < 10) (heb : ∃ t, (e == 0) = t ∧ f = if t = true then 1 + b else 0)
    (hs : ∀ wx : World, (Instr.slice 9 (.string ⟨#[120, 121, 122]⟩) (some (.int .i64 i)) (some (.int .i64 (i + 1))) none).run Try.prog wx = .ok (.string s) wx) :
    Calls Try.prog 83 #[.pointer (some ⟨q, 0, none⟩)] w fun e w' => e = .returned (.agg #[.string s, .bool false, .int .i64 (1 + a), .int .i64 f]) ∧ ∃ A', LAt w' q A' (n - 1) (c - 1) ∧ RdZ w' B A' (n - 1) l ∧ Kept (fun k => k = q) w w' := by
  have hq : q < w.heap.size := (Array.getElem?_eq_some_iff.1 h).1
  obtain ⟨t, het, hf⟩ := heb
  have wy : wrap64 y = y := by unfold wrap64; omega
  have wz : wrap64 z = z := by unfold wrap64; omega
  have wu : wrap64 u = u := by unfold wrap64; omega
  have wi : IntKind.i64.wrap (i + 1) = i + 1 := by rw [IntKind.wrap_i64]; omega
  have wb : IntKind.i64.wrap (1 + b) = 1 + b := by rw [IntKind.wrap_i64]; omega
  have h1 : LAt (w.alloc (.cells #[.string ⟨#[]⟩, .bool false, .int .i64 0, .int .i64 0] 58)) q A n c := by unfold LAt; rw [((Below.refl w.heap.size w).alloc (Nat.le_refl _) _).block q hq]; exact h
  have hr1 : RdZ (w.alloc (.cells #[.string ⟨#[]⟩, .bool false, .int .i64 0, .int .i64 0] 58)) B A n (x :: l) := hr.below ((Below.refl B w).alloc (by omega) _)
  have hz := heap_alloc_new w (.cells #[.string ⟨#[]⟩, .bool false, .int .i64 0, .int .i64 0] 58)
  have wp : wrap64 p = p := by unfold wrap64; omega
  have wr : IntKind.i64.wrap (1 + a) = 1 + a := by rw [IntKind.wrap_i64]; omega
  have HX := Lib.hid hx; have H1 := Lib.hid h1; have HR1 := Lib.hid hr1; have HV := Lib.hid hv; have HZ := Lib.hid hz
  clear h hr h1 hr1 hx hv hz
  cases t
  · rw [if_neg (by decide)] at hf
    subst hf
    go_enter Try.func83, Try.ntmps83
    go_wp2_with fail
    refine (next_num q n c B A x 1048576 l _ H1.out HR1.out hnc hc (by omega) (by omega) HX.out).mono ?_
    rintro e w1 ⟨rfl, A', hw1, hr2⟩
    rw [HV.out]
    have hs1 : w1.heap.size = w.heap.size + 1 := by rw [hw1]; simp [World.setCell]
    have hkz : w1.heap[w.heap.size]? = some (.cells #[.string ⟨#[]⟩, .bool false, .int .i64 0, .int .i64 0] 58) := by rw [hw1, Below.heap_setCell _ _ _ _ (show w.heap.size ≠ (⟨q, 0, none⟩ : Addr).block from by show w.heap.size ≠ q; omega)]; exact HZ.out
    have HK := Lib.hid hkz
    have HW := Lib.hid hw1
    have HR2 := Lib.hid hr2
    have m0 := block_setCell (i := 0) hkz (.string s)
    have m1 := block_setCell (i := 1) m0 (.bool false)
    have m2 := block_setCell (i := 2) m1 (.int .i64 (1 + a))
    have m3 := block_setCell (i := 3) m2 (.int .i64 0)
    have M3 := Lib.hid m3
    have k0 := fun o => cell_at (i := 0) (at_new hkz o) rfl
    have k1 := fun o => cell_at (i := 1) (at_new m0 o) rfl
    have k2 := fun o => cell_at (i := 2) (at_new m1 o) rfl
    have k3 := fun o => cell_at (i := 3) (at_new m2 o) rfl
    have f0 := fun o => thawed_at (i := 0) (at_new hkz o)
    have f1 := fun o => thawed_at (i := 1) (at_new m0 o)
    have f2 := fun o => thawed_at (i := 2) (at_new m1 o)
    have f3 := fun o => thawed_at (i := 3) (at_new m2 o)
    clear m0 m1 m2 m3
    clear hkz hw1 hr2
    go_wp2
    refine bodyPost_ret (v := .agg #[.string s, .bool false, .int .i64 (1 + a), .int .i64 0]) (by simp [results, Try.results83, go_sem, cell_at (i := 0) (at_new M3.out _) rfl, cell_at (i := 1) (at_new M3.out _) rfl, cell_at (i := 2) (at_new M3.out _) rfl, cell_at (i := 3) (at_new M3.out _) rfl]) rfl ⟨rfl, A', ?_⟩
    exact nx_end hq hBq H1.out HW.out HR2.out (kept4 _ _ _ _ _ _ _)
  · rw [if_pos rfl] at hf
    subst hf
    go_enter Try.func83, Try.ntmps83
    go_wp2_with fail
    refine (next_num q n c B A x 1048576 l _ H1.out HR1.out hnc hc (by omega) (by omega) HX.out).mono ?_
    rintro e w1 ⟨rfl, A', hw1, hr2⟩
    rw [HV.out]
    have hs1 : w1.heap.size = w.heap.size + 1 := by rw [hw1]; simp [World.setCell]
    have hkz : w1.heap[w.heap.size]? = some (.cells #[.string ⟨#[]⟩, .bool false, .int .i64 0, .int .i64 0] 58) := by rw [hw1, Below.heap_setCell _ _ _ _ (show w.heap.size ≠ (⟨q, 0, none⟩ : Addr).block from by show w.heap.size ≠ q; omega)]; exact HZ.out
    have HK := Lib.hid hkz
    have HW := Lib.hid hw1
    have HR2 := Lib.hid hr2
    have m0 := block_setCell (i := 0) hkz (.string s)
    have m1 := block_setCell (i := 1) m0 (.bool false)
    have m2 := block_setCell (i := 2) m1 (.int .i64 (1 + a))
    have m3 := block_setCell (i := 3) m2 (.int .i64 (1 + b))
    have M3 := Lib.hid m3
    have k0 := fun o => cell_at (i := 0) (at_new hkz o) rfl
    have k1 := fun o => cell_at (i := 1) (at_new m0 o) rfl
    have k2 := fun o => cell_at (i := 2) (at_new m1 o) rfl
    have k3 := fun o => cell_at (i := 3) (at_new m2 o) rfl
    have f0 := fun o => thawed_at (i := 0) (at_new hkz o)
    have f1 := fun o => thawed_at (i := 1) (at_new m0 o)
    have f2 := fun o => thawed_at (i := 2) (at_new m1 o)
    have f3 := fun o => thawed_at (i := 3) (at_new m2 o)
    clear m0 m1 m2 m3
    clear hkz hw1 hr2
    go_wp2
    refine bodyPost_ret (v := .agg #[.string s, .bool false, .int .i64 (1 + a), .int .i64 (1 + b)]) (by simp [results, Try.results83, go_sem, cell_at (i := 0) (at_new M3.out _) rfl, cell_at (i := 1) (at_new M3.out _) rfl, cell_at (i := 2) (at_new M3.out _) rfl, cell_at (i := 3) (at_new M3.out _) rfl]) rfl ⟨rfl, A', ?_⟩
    exact nx_end hq hBq H1.out HW.out HR2.out (kept4 _ _ _ _ _ _ _)
end Go.Proofs.Ythfanonjokpflaa
