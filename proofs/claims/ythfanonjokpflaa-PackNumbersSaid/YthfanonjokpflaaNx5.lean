/-
  A row by numbers.
-/
import Derived.Test.YthfanonjokpflaaNx4
import Derived.Test.YthfanonjokpflaaRoB
import Derived.Test.YthfanonjokpflaaRoK
import Derived.Test.YthfanonjokpflaaCe5
import Derived.Deep.DeepCutAuto
import Derived.Test.YthfanonjokpflaaRgz
set_option linter.unusedVariables false
set_option linter.unusedSimpArgs false
namespace Go.Proofs.Ythfanonjokpflaa
open Go Go.RowKit Go.Joins

/-- The name of the column of a number. -/
def nm (t : Nat) : ByteArray := ⟨#[UInt8.ofNat (97 + t)]⟩
/-- Columns by numbers, with names below the one of t. -/
structure ColsTo (t : Nat) (l : Cols) : Prop where
  rise : Rise l
  all : ∀ x ∈ l, colB x = true ∧ x.1.size ≤ 1 ∧ x.2.s.size ≤ 1 ∧ nlt x.1 (nm t)
  len : l.length ≤ t
  nms : ∀ x ∈ l, ∃ i, i < t ∧ x.1 = nm i
theorem rise_snoc : ∀ {l : Cols} {x : ByteArray × Ce}, Rise l → (∀ y ∈ l, nlt y.1 x.1) → Rise (l ++ [x])
  | [], x, _, _ => ⟨fun y hy => (by cases hy), trivial⟩
  | z :: l, x, hr, h => ⟨fun y hy => by
      rcases List.mem_append.1 hy with h1 | h1
      · exact hr.1 y h1
      · rw [List.mem_singleton.1 h1]
        exact h z (List.mem_cons_self ..), rise_snoc hr.2 fun y hy => h y (List.mem_cons_of_mem _ hy)⟩
theorem ColsTo.nil (t : Nat) : ColsTo t [] := ⟨trivial, fun x hx => (by cases hx), Nat.zero_le _, fun x hx => (by cases hx)⟩
theorem ColsTo.next {t : Nat} {l : Cols} (h : ColsTo t l) (hn : nlt (nm t) (nm (t + 1))) : ColsTo (t + 1) l :=
  ⟨h.rise, fun x hx => by
    obtain ⟨h1, h2, h3, h4⟩ := h.all x hx
    exact ⟨h1, h2, h3, nlt_tr h4 hn⟩, Nat.le_succ_of_le h.len, fun x hx => by
    obtain ⟨i, hi, e⟩ := h.nms x hx
    exact ⟨i, by omega, e⟩⟩
theorem ColsTo.snoc {t : Nat} {l : Cols} (h : ColsTo t l) (hn : nlt (nm t) (nm (t + 1))) (hb : nameB (nm t) = true) {c : Ce} (hc : c.ok = true ∧ c.s.size ≤ 1 ∧ 1 ≤ c.a) : ColsTo (t + 1) (l ++ [(nm t, c)]) := by
  refine ⟨rise_snoc h.rise fun y hy => (h.all y hy).2.2.2, fun x hx => ?_, by have := h.len; simp; omega, fun x hx => (List.mem_append.1 hx).elim (fun h1 => (h.next hn).nms x h1) fun h1 => ⟨t, by omega, by rw [List.mem_singleton.1 h1]⟩⟩
  rcases List.mem_append.1 hx with h1 | h1
  · exact (h.next hn).all x h1
  · rw [List.mem_singleton.1 h1]
    refine ⟨?_, by show 1 ≤ 1; omega, hc.2.1, hn⟩
    unfold colB
    simp only
    rw [hb, hc.1, decide_eq_true hc.2.2]
    rfl
theorem nm_facts : (∀ t, t < 4 → nlt (nm t) (nm (t + 1)) ∧ nameB (nm t) = true) := by decide
theorem ColsTo.ok {t : Nat} {l : Cols} (h : ColsTo t l) : colsB l = true := colsB_of h.rise fun x hx => (h.all x hx).1

theorem own_lower {w : World} {b b' n size : Nat} {e : TypeId} {v : Value} {xs : List Value} (h : w.ownsRow b e size v n xs) (hb : b' ≤ b) : w.ownsRow b' e size v n xs := by
  refine ⟨h.1, ?_⟩
  rcases h.2 with ⟨rfl, rfl⟩ | ⟨g, cap, cur, rfl, h2, h3⟩
  · exact Or.inl ⟨rfl, rfl⟩
  · exact Or.inr ⟨g, cap, cur, rfl, by omega, h3⟩
/-- The row under way, at block r. -/
def RB (w : World) (r : Nat) (k : ByteArray) (a e g : Int) (A : Option Addr) (n c : Nat) : Prop := w.heap[r]? = some (.cells #[.string k, .string ⟨#[]⟩, .bool false, .int .i64 a, .int .i64 e, .int .i64 g, .int .i64 0, .slice A n c] 61 (0, 0))
theorem RB.cells {w : World} {r : Nat} {k : ByteArray} {a e g : Int} {A : Option Addr} {n c : Nat} (h : RB w r k a e g A n c) : RoAt w r k ⟨#[]⟩ false a e g 0 A n c :=
  ⟨cell_at h rfl, cell_at h rfl, cell_at h rfl, cell_at h rfl, cell_at h rfl, cell_at h rfl, cell_at h rfl, cell_at h rfl⟩

theorem names_any (w : World) :
    Calls Try.prog 82 #[] w fun x w' => x = .returned (.slice (some ⟨w.heap.size, 0, none⟩) 4 4) ∧ w' = w.alloc (.cells #[.string (nm 0), .string (nm 1), .string (nm 2), .string (nm 3)] 9) := by
  go_enter Try.func82, Try.ntmps82
  go_wp2
  go_ret
  exact ⟨rfl, rfl⟩
set_option maxRecDepth 8000 in
set_option maxHeartbeats 4000000 in
theorem row_gen (q B : Nat) (key : ByteArray) (w : World) (h : LQ w q B) (hBq : B ≤ q) :
    Calls Try.prog 65 #[.pointer (some ⟨q, 0, none⟩), .string key] w fun x w' => ∃ (a e g : Int) (l : Cols) (A : Option Addr) (c : Nat), x = .returned (.agg #[.string key, .string ⟨#[]⟩, .bool false, .int .i64 a, .int .i64 e, .int .i64 g, .int .i64 0, .slice A l.length c]) ∧ (0 ≤ a ∧ a ≤ 8 ∧ 0 ≤ e ∧ e ≤ 11 ∧ 0 ≤ g ∧ g ≤ 8 ∧ (a = 0 → e = 0)) ∧ ColsTo 4 l ∧ w'.ownsRow w.heap.size 90 5 (.slice A l.length c) l.length (kRow l) ∧ LQ w' q B ∧ Kept (fun k => k = q) w w' := by
  have hq := h.lt
  have hz0 := heap_alloc_new w (.cells #[.string ⟨#[]⟩, .string ⟨#[]⟩, .bool false, .int .i64 0, .int .i64 0, .int .i64 0, .int .i64 0, .slice none 0 0] 61)
  have hz1 := heap_alloc_new (w.alloc (.cells #[.string ⟨#[]⟩, .string ⟨#[]⟩, .bool false, .int .i64 0, .int .i64 0, .int .i64 0, .int .i64 0, .slice none 0 0] 61)) (.cells #[.string key, .string ⟨#[]⟩, .bool false, .int .i64 0, .int .i64 0, .int .i64 0, .int .i64 0, .slice none 0 0] 61)
  simp only [World.size_alloc] at hz1
  have hz0' := at_new hz0 (.cells #[.string key, .string ⟨#[]⟩, .bool false, .int .i64 0, .int .i64 0, .int .i64 0, .int .i64 0, .slice none 0 0] 61)
  have bz := ((Below.refl w.heap.size w).alloc (Nat.le_refl _) (.cells #[.string ⟨#[]⟩, .string ⟨#[]⟩, .bool false, .int .i64 0, .int .i64 0, .int .i64 0, .int .i64 0, .slice none 0 0] 61)).alloc (by simp) (.cells #[.string key, .string ⟨#[]⟩, .bool false, .int .i64 0, .int .i64 0, .int .i64 0, .int .i64 0, .slice none 0 0] 61)
  obtain ⟨U, hU⟩ : ∃ U, U = (w.alloc (.cells #[.string ⟨#[]⟩, .string ⟨#[]⟩, .bool false, .int .i64 0, .int .i64 0, .int .i64 0, .int .i64 0, .slice none 0 0] 61)).alloc (.cells #[.string key, .string ⟨#[]⟩, .bool false, .int .i64 0, .int .i64 0, .int .i64 0, .int .i64 0, .slice none 0 0] 61) := ⟨_, rfl⟩
  have hUs : U.heap.size = w.heap.size + 2 := by rw [hU]; simp
  rw [← hU] at hz0' hz1 bz
  have HL := Lib.hid (h.below bz (by omega)); have HZ0 := Lib.hid hz0'; have HZ1 := Lib.hid hz1; have BZ := Lib.hid bz; have HUS := Lib.hid hUs
  clear hz0 hz0' hz1 bz hUs h
  go_enter Try.func65, Try.ntmps65
  go_wp2_with fail
  rw [← hU]
  clear hU
  refine (next_gen q B 1048576 _ HL.out hBq (by omega) (by omega)).mono ?_
  rintro x w1 ⟨v, rfl, v0, v1, hl1, hk1⟩
  have hs1 := hk1.size
  have R1 : Hid (RB w1 (w.heap.size + 1) key 0 0 0 none 0 0) := Lib.hid ((hk1.block (w.heap.size + 1) (by have := HUS.out; omega) (by omega)).trans HZ1.out)
  have Z1 := Lib.hid ((hk1.block w.heap.size (by have := HUS.out; omega) (by omega)).trans HZ0.out)
  have K1 : Hid (Kept (fun k => k = q) w w1) := Lib.hid ((Kept.of_below BZ.out _).trans hk1 fun k hk => Or.inl hk)
  have L1 := Lib.hid hl1
  have td : ∀ (m k : Int), 0 ≤ m → m < 1048576 → 1 ≤ k → 0 ≤ m.tdiv k ∧ m.tdiv k < 1048576 := fun m k h0 h1 hk => by
    rw [Int.tdiv_eq_ediv_of_nonneg h0]
    exact ⟨Int.ediv_nonneg h0 (by omega), Int.lt_of_le_of_lt (Int.ediv_le_self _ h0) h1⟩
  have tm : ∀ (m k : Int), 0 ≤ m → 1 ≤ k → 0 ≤ m.tmod k ∧ m.tmod k < k := fun m k h0 hk => by
    rw [Int.tmod_eq_emod_of_nonneg h0]
    exact ⟨Int.emod_nonneg _ (by omega), Int.emod_lt_of_pos _ (by omega)⟩
  have TD := Lib.hid td; have TM := Lib.hid tm
  have V0 := Lib.hid v0; have V1 := Lib.hid v1
  have HS1 := Lib.hid hs1
  clear hl1 hk1 td tm hs1
  obtain ⟨m3, hm3⟩ : ∃ m, v.tmod 3 = m := ⟨_, rfl⟩
  have HM3 := Lib.hid hm3
  go_upto_if 14 with fail
  go_cut [] from 15 to 30 (fun wx => ∃ a e : Int, (0 ≤ a ∧ a ≤ 8 ∧ 0 ≤ e ∧ e ≤ 11 ∧ (a = 0 → e = 0)) ∧ RB wx (w.heap.size + 1) key a e 0 none 0 0 ∧ Kept (fun k => k = w.heap.size + 1) w1 wx)
  case first =>
    clear hm3
    by_cases h3 : 0 < m3
    · obtain ⟨p0, p1⟩ := TD.out v 3 V0.out V1.out (by omega)
      obtain ⟨a0, a1⟩ := TM.out (v.tdiv 3) 7 p0 (by omega)
      obtain ⟨y0, y1⟩ := TD.out v 21 V0.out V1.out (by omega)
      obtain ⟨z0, z1⟩ := TD.out v 84 V0.out V1.out (by omega)
      obtain ⟨b0, b1⟩ := TM.out (v.tdiv 84) 10 z0 (by omega)
      obtain ⟨p, hp⟩ : ∃ p, v.tdiv 3 = p := ⟨_, rfl⟩
      obtain ⟨y, hy⟩ : ∃ p, v.tdiv 21 = p := ⟨_, rfl⟩
      obtain ⟨z, hz⟩ : ∃ p, v.tdiv 84 = p := ⟨_, rfl⟩
      rw [hp] at p0 p1 a0 a1
      rw [hy] at y0 y1
      rw [hz] at z0 z1 b0 b1
      obtain ⟨a, ha⟩ : ∃ a, p.tmod 7 = a := ⟨_, rfl⟩
      obtain ⟨i, hi⟩ : ∃ i, y.tmod 4 = i := ⟨_, rfl⟩
      obtain ⟨b, hb⟩ : ∃ b, z.tmod 10 = b := ⟨_, rfl⟩
      rw [ha] at a0 a1
      rw [hb] at b0 b1
      have wp : wrap64 p = p := by unfold wrap64; omega
      have wy : wrap64 y = y := by unfold wrap64; omega
      have wz : wrap64 z = z := by unfold wrap64; omega
      have wa : IntKind.i64.wrap (1 + a) = 1 + a := by rw [IntKind.wrap_i64]; omega
      have wb : IntKind.i64.wrap (1 + b) = 1 + b := by rw [IntKind.wrap_i64]; omega
      have m0 := block_setCell (i := 1) R1.out (.string ⟨#[]⟩)
      have m1 := block_setCell (i := 2) m0 (.bool false)
      have m2 := block_setCell (i := 3) m1 (.int .i64 (1 + a))
      have m3' := block_setCell (i := 4) m2 (.int .i64 0)
      have m4 := block_setCell (i := 4) m3' (.int .i64 (1 + b))
      have M3 := Lib.hid m3'; have M4 := Lib.hid m4
      have k0 := cell_at (i := 1) R1.out rfl
      have k1 := cell_at (i := 2) m0 rfl
      have k2 := cell_at (i := 3) m1 rfl
      have k3 := cell_at (i := 4) m2 rfl
      have k4 := cell_at (i := 4) m3' rfl
      have f0 := thawed_at (i := 1) R1.out
      have f1 := thawed_at (i := 2) m0
      have f2 := thawed_at (i := 3) m1
      have f3 := thawed_at (i := 4) m2
      have f4 := thawed_at (i := 4) m3'
      clear m0 m1 m2 m3' m4
      by_cases h4 : i = 0
      · have hi2 : (i == 0) = true := by rw [beq_iff_eq]; exact h4
        clear h4
        go_wp2_with fail
        go_meet
        refine ⟨1 + a, 1 + b, by omega, M4.out, ?_⟩
        exact ((((Kept.setCell (fun k => k = w.heap.size + 1) w1 ⟨w.heap.size + 1, 1, none⟩ _ rfl).trans (Kept.setCell (fun k => k = w.heap.size + 1) _ ⟨w.heap.size + 1, 2, none⟩ _ rfl) fun _ h => Or.inl h).trans (Kept.setCell (fun k => k = w.heap.size + 1) _ ⟨w.heap.size + 1, 3, none⟩ _ rfl) fun _ h => Or.inl h).trans (Kept.setCell (fun k => k = w.heap.size + 1) _ ⟨w.heap.size + 1, 4, none⟩ _ rfl) fun _ h => Or.inl h).trans (Kept.setCell (fun k => k = w.heap.size + 1) _ ⟨w.heap.size + 1, 4, none⟩ _ rfl) fun _ h => Or.inl h
      · have hi2 : (i == 0) = false := by rw [beq_eq_false_iff_ne]; exact h4
        clear h4
        go_wp2_with fail
        go_meet
        refine ⟨1 + a, 0, by omega, M3.out, ?_⟩
        exact (((Kept.setCell (fun k => k = w.heap.size + 1) w1 ⟨w.heap.size + 1, 1, none⟩ _ rfl).trans (Kept.setCell (fun k => k = w.heap.size + 1) _ ⟨w.heap.size + 1, 2, none⟩ _ rfl) fun _ h => Or.inl h).trans (Kept.setCell (fun k => k = w.heap.size + 1) _ ⟨w.heap.size + 1, 3, none⟩ _ rfl) fun _ h => Or.inl h).trans (Kept.setCell (fun k => k = w.heap.size + 1) _ ⟨w.heap.size + 1, 4, none⟩ _ rfl) fun _ h => Or.inl h
    · go_wp2_with fail
      go_meet
      exact ⟨0, 0, by omega, R1.out, Kept.refl _ _⟩
  case rest =>
    obtain ⟨a, e, hae, hr2, hk2⟩ := hcut
    clear hm3 HM3
    generalize wc = w2 at hr2 hk2 ⊢
    have HAE := Lib.hid hae
    have R2 := Lib.hid hr2
    have K2 := Lib.hid hk2
    clear hae hr2 hk2
    obtain ⟨y0, y1⟩ := TD.out v 840 V0.out V1.out (by omega)
    obtain ⟨z0, z1⟩ := TD.out v 3360 V0.out V1.out (by omega)
    obtain ⟨b0, b1⟩ := TM.out (v.tdiv 3360) 8 z0 (by omega)
    obtain ⟨y, hy⟩ : ∃ p, v.tdiv 840 = p := ⟨_, rfl⟩
    obtain ⟨z, hz⟩ : ∃ p, v.tdiv 3360 = p := ⟨_, rfl⟩
    rw [hy] at y0 y1
    rw [hz] at z0 z1 b0 b1
    obtain ⟨i, hi⟩ : ∃ i, y.tmod 4 = i := ⟨_, rfl⟩
    obtain ⟨b, hb⟩ : ∃ b, z.tmod 8 = b := ⟨_, rfl⟩
    rw [hb] at b0 b1
    have wy : wrap64 y = y := by unfold wrap64; omega
    have wz : wrap64 z = z := by unfold wrap64; omega
    go_upto_if 34 with fail
    go_cut [] from 35 to 38 (fun wx => ∃ g : Int, (0 ≤ g ∧ g ≤ 8) ∧ RB wx (w.heap.size + 1) key a e g none 0 0 ∧ Kept (fun k => k = w.heap.size + 1) w2 wx)
    case first =>
      by_cases h4 : i = 0
      · have hi2 : (i == 0) = true := by rw [beq_iff_eq]; exact h4
        clear h4
        have m0 := block_setCell (i := 5) R2.out (.int .i64 b)
        have M0 := Lib.hid m0
        have k0 := cell_at (i := 5) R2.out rfl
        have f0 := thawed_at (i := 5) R2.out
        clear m0
        go_wp2_with fail
        go_meet
        exact ⟨b, by omega, M0.out, Kept.setCell (fun k => k = w.heap.size + 1) w2 ⟨w.heap.size + 1, 5, none⟩ _ rfl⟩
      · have hi2 : (i == 0) = false := by rw [beq_eq_false_iff_ne]; exact h4
        clear h4
        go_wp2_with fail
        go_meet
        exact ⟨0, by omega, R2.out, Kept.refl _ _⟩
    case rest =>
      obtain ⟨g, hg, hr3, hk3⟩ := hcut
      generalize wc = w3 at hr3 hk3 ⊢
      clear hy hz hi hb wy wz y0 y1 z0 z1 b0 b1
      have hk13 := K2.out.trans hk3 fun k hk => Or.inl hk
      have hs3 := hk13.size
      have hl3 : LQ w3 q B := L1.out.kept hk13 (fun k hk => by omega) hBq
      have hz3 := (hk13.block w.heap.size (by have := HUS.out; have := HS1.out; omega) (by omega)).trans Z1.out
      have hk3' : Kept (fun k => k = q) w w3 := K1.out.trans hk13 fun k hk => Or.inr (by omega)
      have HS3 := Lib.hid (show w.heap.size + 2 ≤ w3.heap.size by have := HUS.out; have := HS1.out; omega)
      have HG := Lib.hid hg; have R3 := Lib.hid hr3; have L3 := Lib.hid hl3; have Z3 := Lib.hid hz3; have K3 := Lib.hid hk3'
      clear hg hr3 hk3 hk13 hs3 hl3 hz3 hk3' K1 K2 L1 Z1 R1 R2 HS1 HUS BZ HZ0 HZ1
      go_wp2_with fail
      go_loopw [7] (fun i wr => ∃ (t : Nat) (ti : Int) (l : Cols) (A : Option Addr) (c : Nat), t ≤ 4 ∧ i = .int .i64 ti ∧ ti = (t : Int) ∧ ColsTo t l ∧ RB wr (w.heap.size + 1) key a e g A l.length c ∧ wr.ownsRow (w.heap.size + 2) 90 5 (.slice A l.length c) l.length (kRow l) ∧ LQ wr q B ∧ Kept (fun k => k = q) w wr ∧ w.heap.size + 2 ≤ wr.heap.size ∧ wr.heap[w.heap.size]? = some (.cells #[.string ⟨#[]⟩, .string ⟨#[]⟩, .bool false, .int .i64 0, .int .i64 0, .int .i64 0, .int .i64 0, .slice none 0 0] 61)) (fun i _ => 4 - (intOf i).toNat)
      case atStart => exact ⟨0, 0, [], none, 0, by omega, rfl, rfl, ColsTo.nil 0, R3.out, own_nilK _ _, L3.out, K3.out, HS3.out, Z3.out⟩
      case round =>
        obtain ⟨t, ti, l, A, c, ht, rfl, hti, hct, hrb, how, hlq, hkp, hsz, hz⟩ := hrel
        have CT := Lib.hid hct; have RBl := Lib.hid hrb; have OW := Lib.hid how; have LQ_ := Lib.hid hlq; have KP := Lib.hid hkp; have ZZ := Lib.hid hz; have SZ := Lib.hid hsz
        clear hct hrb how hlq hkp hz hsz
        by_cases h4 : t = 4
        · subst h4
          obtain rfl : ti = 4 := hti
          obtain ⟨p0, p1, p2, p3, p4, p5, p6, p7⟩ := RB.cells RBl.out
          have m0 := block_setCell (i := 0) ZZ.out (.string key)
          simp only [List.setIfInBounds_toArray, List.set_cons_zero, List.set_cons_succ] at m0
          have kc0 := cell_at (i := 0) ZZ.out rfl
          have f0 := thawed_at (i := 0) ZZ.out
          have m1 := block_setCell (i := 1) m0 (.string ⟨#[]⟩)
          simp only [List.setIfInBounds_toArray, List.set_cons_zero, List.set_cons_succ] at m1
          have kc1 := cell_at (i := 1) m0 rfl
          have f1 := thawed_at (i := 1) m0
          have m2 := block_setCell (i := 2) m1 (.bool false)
          simp only [List.setIfInBounds_toArray, List.set_cons_zero, List.set_cons_succ] at m2
          have kc2 := cell_at (i := 2) m1 rfl
          have f2 := thawed_at (i := 2) m1
          have m3 := block_setCell (i := 3) m2 (.int .i64 a)
          simp only [List.setIfInBounds_toArray, List.set_cons_zero, List.set_cons_succ] at m3
          have kc3 := cell_at (i := 3) m2 rfl
          have f3 := thawed_at (i := 3) m2
          have m4 := block_setCell (i := 4) m3 (.int .i64 e)
          simp only [List.setIfInBounds_toArray, List.set_cons_zero, List.set_cons_succ] at m4
          have kc4 := cell_at (i := 4) m3 rfl
          have f4 := thawed_at (i := 4) m3
          have m5 := block_setCell (i := 5) m4 (.int .i64 g)
          simp only [List.setIfInBounds_toArray, List.set_cons_zero, List.set_cons_succ] at m5
          have kc5 := cell_at (i := 5) m4 rfl
          have f5 := thawed_at (i := 5) m4
          have m6 := block_setCell (i := 6) m5 (.int .i64 0)
          simp only [List.setIfInBounds_toArray, List.set_cons_zero, List.set_cons_succ] at m6
          have kc6 := cell_at (i := 6) m5 rfl
          have f6 := thawed_at (i := 6) m5
          have m7 := block_setCell (i := 7) m6 (.slice A l.length c)
          simp only [List.setIfInBounds_toArray, List.set_cons_zero, List.set_cons_succ] at m7
          have kc7 := cell_at (i := 7) m6 rfl
          have f7 := thawed_at (i := 7) m6
          have M7 := Lib.hid m7
          have KF : Hid (Kept (fun k => k = w.heap.size) wr ((((((((wr.setCell ⟨w.heap.size, 0, none⟩ (.string key)).setCell ⟨w.heap.size, 1, none⟩ (.string ⟨#[]⟩)).setCell ⟨w.heap.size, 2, none⟩ (.bool false)).setCell ⟨w.heap.size, 3, none⟩ (.int .i64 a)).setCell ⟨w.heap.size, 4, none⟩ (.int .i64 e)).setCell ⟨w.heap.size, 5, none⟩ (.int .i64 g)).setCell ⟨w.heap.size, 6, none⟩ (.int .i64 0)).setCell ⟨w.heap.size, 7, none⟩ (.slice A l.length c))) := Lib.hid (((((((((Kept.refl (fun k => k = w.heap.size) wr).trans (Kept.setCell (fun k => k = w.heap.size) _ ⟨w.heap.size, 0, none⟩ (.string key) rfl) fun _ h => Or.inl h).trans (Kept.setCell (fun k => k = w.heap.size) _ ⟨w.heap.size, 1, none⟩ (.string ⟨#[]⟩) rfl) fun _ h => Or.inl h).trans (Kept.setCell (fun k => k = w.heap.size) _ ⟨w.heap.size, 2, none⟩ (.bool false) rfl) fun _ h => Or.inl h).trans (Kept.setCell (fun k => k = w.heap.size) _ ⟨w.heap.size, 3, none⟩ (.int .i64 a) rfl) fun _ h => Or.inl h).trans (Kept.setCell (fun k => k = w.heap.size) _ ⟨w.heap.size, 4, none⟩ (.int .i64 e) rfl) fun _ h => Or.inl h).trans (Kept.setCell (fun k => k = w.heap.size) _ ⟨w.heap.size, 5, none⟩ (.int .i64 g) rfl) fun _ h => Or.inl h).trans (Kept.setCell (fun k => k = w.heap.size) _ ⟨w.heap.size, 6, none⟩ (.int .i64 0) rfl) fun _ h => Or.inl h).trans (Kept.setCell (fun k => k = w.heap.size) _ ⟨w.heap.size, 7, none⟩ (.slice A l.length c) rfl) fun _ h => Or.inl h)
          clear m0 m1 m2 m3 m4 m5 m6 m7
          go_wp2
          generalize hw9 : ((((((((wr.setCell ⟨w.heap.size, 0, none⟩ (.string key)).setCell ⟨w.heap.size, 1, none⟩ (.string ⟨#[]⟩)).setCell ⟨w.heap.size, 2, none⟩ (.bool false)).setCell ⟨w.heap.size, 3, none⟩ (.int .i64 a)).setCell ⟨w.heap.size, 4, none⟩ (.int .i64 e)).setCell ⟨w.heap.size, 5, none⟩ (.int .i64 g)).setCell ⟨w.heap.size, 6, none⟩ (.int .i64 0)).setCell ⟨w.heap.size, 7, none⟩ (.slice A l.length c)) = w9 at KF M7 ⊢
          clear hw9 kc0 kc1 kc2 kc3 kc4 kc5 kc6 kc7 f0 f1 f2 f3 f4 f5 f6 f7
          have z0 := cell_at (i := 0) M7.out rfl
          have z1 := cell_at (i := 1) M7.out rfl
          have z2 := cell_at (i := 2) M7.out rfl
          have z3 := cell_at (i := 3) M7.out rfl
          have z4 := cell_at (i := 4) M7.out rfl
          have z5 := cell_at (i := 5) M7.out rfl
          have z6 := cell_at (i := 6) M7.out rfl
          have z7 := cell_at (i := 7) M7.out rfl
          have hown : w9.ownsRow w.heap.size 90 5 (.slice A l.length c) l.length (kRow l) := own_lower (own_kept OW.out fun k hk => KF.out.block k (own_block_lt OW.out k hk) (by have := (OW.out.lt k hk).1; omega)) (by omega)
          have HOWN := Lib.hid hown
          have hlq9 := LQ_.out.kept KF.out (fun k hk => by omega) hBq
          have hkp9 : Kept (fun k => k = q) w w9 := KP.out.trans KF.out fun k hk => Or.inr (by omega)
          have hct := CT.out
          have hae := HAE.out
          have hg9 := HG.out
          refine bodyPost_ret (v := .agg #[.string key, .string ⟨#[]⟩, .bool false, .int .i64 a, .int .i64 e, .int .i64 g, .int .i64 0, .slice A l.length c]) (by simp [results, Try.results65, go_sem, z0, z1, z2, z3, z4, z5, z6, z7]) rfl ⟨a, e, g, l, A, c, rfl, by omega, hct, HOWN.out, hlq9, hkp9⟩
        · have h3 : t = 0 ∨ t = 1 ∨ t = 2 ∨ t = 3 := by omega
          rcases h3 with rfl | rfl | rfl | rfl
          · obtain rfl : ti = 0 := hti
            go_wp2_with fail
            · refine wp_region_z (S := fun w' => RB w' (w.heap.size + 1) key a e g A l.length c) 12 (by kernel_rfl) ?_ (fun hHeld => ?_)
              · exact RBl.out
              refine wpAnyZ_take (i := 0) (v := ?_) rfl (by kernel_rfl) (by kernel_rfl) (by kernel_rfl) (by kernel_rfl) (fun _ _ _ h => h) (Or.inl ⟨by rfl, ?_⟩) (by assumption) ?_
              rotate_left
              · (intro wx hSw; (try dsimp only at hSw); go_simp; try with_reducible rfl)
              try simp only [Act.put, List.getElem_toArray, List.getElem_cons_succ, List.getElem_cons_zero, List.setIfInBounds_toArray, List.set_cons_zero, List.set_cons_succ]
              refine wpAnyZ_take (i := 1) (v := ?_) rfl (by kernel_rfl) (by kernel_rfl) (by kernel_rfl) (by kernel_rfl) (fun _ _ _ h => h) (Or.inl ⟨by rfl, ?_⟩) (by assumption) ?_
              rotate_left
              · (intro wx hSw; (try dsimp only at hSw); obtain ⟨_, _, _, _, _, _, _, _⟩ := RB.cells hSw; go_simp; try with_reducible rfl)
              try simp only [Act.put, List.getElem_toArray, List.getElem_cons_succ, List.getElem_cons_zero, List.setIfInBounds_toArray, List.set_cons_zero, List.set_cons_succ]
              refine wpAnyZ_take (i := 3) (v := ?_) rfl (by kernel_rfl) (by kernel_rfl) (by kernel_rfl) (by kernel_rfl) (fun _ _ _ h => h) (Or.inl ⟨by rfl, ?_⟩) (by assumption) ?_
              rotate_left
              · (intro wx hSw; (try dsimp only at hSw); go_simp; try with_reducible rfl)
              try simp only [Act.put, List.getElem_toArray, List.getElem_cons_succ, List.getElem_cons_zero, List.setIfInBounds_toArray, List.set_cons_zero, List.set_cons_succ]
              refine wpAnyZ_take (i := 6) (v := ?_) rfl (by kernel_rfl) (by kernel_rfl) (by kernel_rfl) (by kernel_rfl) (fun _ _ _ h => h) (Or.inl ⟨by rfl, ?_⟩) (by assumption) ?_
              rotate_left
              · (intro wx hSw; (try dsimp only at hSw); go_simp; try with_reducible rfl)
              try simp only [Act.put, List.getElem_toArray, List.getElem_cons_succ, List.getElem_cons_zero, List.setIfInBounds_toArray, List.set_cons_zero, List.set_cons_succ]
              refine wpAnyZ_one (i := 2) (by kernel_rfl) rfl (fun K hK => ?_)
              go_simp
              refine (names_any _).mono ?_
              rintro x v1 ⟨rfl, hv1⟩
              have hb1 : Below wr.heap.size wr v1 := by rw [hv1]; exact ((Below.refl _ _).drew).alloc (Nat.le_refl _) _
              have hn1 : v1.heap[wr.heap.size]? = some (.cells #[.string (nm 0), .string (nm 1), .string (nm 2), .string (nm 3)] 9 (0, 0)) := by rw [hv1]; exact heap_alloc_new wr.drew _
              have hs1 : v1.heap.size = wr.heap.size + 1 := by rw [hv1]; simp
              have HB1 := Lib.hid hb1; have HN1 := Lib.hid hn1; have HV1 := Lib.hid hs1; have LQ1 := Lib.hid (LQ_.out.below hb1 (by have := LQ_.out.lt; omega))
              clear hv1 hb1 hn1 hs1
              try go_wp2_with fail
              refine hK.out _ _ ?_ (fun hHeld => ?_)
              · first | exact (HB1.out.block (w.heap.size + 1) (by have := SZ.out; omega)).trans RBl.out | exact ⟨(KP2.out.block (w.heap.size + 1) (by have := SZ.out; have := HV1.out; omega) (by omega)).trans hHeld.1, (KP2.out.block wr.heap.size (by have := HV1.out; omega) (by have := SZ.out; omega)).trans hHeld.2⟩
              clear hK K
              try simp only [Act.put, List.getElem_toArray, List.getElem_cons_succ, List.getElem_cons_zero, List.setIfInBounds_toArray, List.set_cons_zero, List.set_cons_succ]
              refine held_upz (S' := fun w' => RB w' (w.heap.size + 1) key a e g A l.length c ∧ w'.heap[wr.heap.size]? = some (.cells #[.string (nm 0), .string (nm 1), .string (nm 2), .string (nm 3)] 9 (0, 0))) (fun _ h => h.1) _ _ _ _ ?_
              replace hHeld := And.intro hHeld HN1.out
              refine wpAnyZ_take (i := 4) (v := ?_) rfl (by kernel_rfl) (by kernel_rfl) (by kernel_rfl) (by kernel_rfl) (fun _ _ _ h => h) (Or.inl ⟨by rfl, ?_⟩) (by assumption) ?_
              rotate_left
              · (intro wx hSw; (try dsimp only at hSw); go_simp; try with_reducible rfl)
              try simp only [Act.put, List.getElem_toArray, List.getElem_cons_succ, List.getElem_cons_zero, List.setIfInBounds_toArray, List.set_cons_zero, List.set_cons_succ]
              refine wpAnyZ_take (i := 5) (v := ?_) rfl (by kernel_rfl) (by kernel_rfl) (by kernel_rfl) (by kernel_rfl) (fun _ _ _ h => h) (Or.inl ⟨by rfl, ?_⟩) (by assumption) ?_
              rotate_left
              · (intro wx hSw; (try dsimp only at hSw); have hn0 := cell_at (i := 0) hSw.2 rfl; have hn1 := cell_at (i := 1) hSw.2 rfl; have hn2 := cell_at (i := 2) hSw.2 rfl; have hn3 := cell_at (i := 3) hSw.2 rfl; go_simp; try with_reducible rfl)
              try simp only [Act.put, List.getElem_toArray, List.getElem_cons_succ, List.getElem_cons_zero, List.setIfInBounds_toArray, List.set_cons_zero, List.set_cons_succ]
              refine wpAnyZ_one (i := 7) (by kernel_rfl) rfl (fun K hK => ?_)
              go_simp
              refine (cell_gen q B _ LQ1.out hBq).mono ?_
              rintro x v2 ⟨s, d, ca, cb, rfl, hok, hlq2, hkp2⟩
              have HOK := Lib.hid hok; have LQ2 := Lib.hid hlq2; have KP2 := Lib.hid hkp2
              clear hok hlq2 hkp2
              try go_wp2_with fail
              refine hK.out _ _ ?_ (fun hHeld => ?_)
              · first | exact (HB1.out.block (w.heap.size + 1) (by have := SZ.out; omega)).trans RBl.out | exact ⟨(KP2.out.block (w.heap.size + 1) (by have := SZ.out; have := HV1.out; omega) (by omega)).trans hHeld.1, (KP2.out.block wr.heap.size (by have := HV1.out; omega) (by have := SZ.out; omega)).trans hHeld.2⟩
              clear hK K
              try simp only [Act.put, List.getElem_toArray, List.getElem_cons_succ, List.getElem_cons_zero, List.setIfInBounds_toArray, List.set_cons_zero, List.set_cons_succ]
              have hown2 := own_kept (own_below OW.out (HB1.out)) fun k hk => KP2.out.block k (own_block_lt (own_below OW.out (HB1.out)) k hk) (by have := (OW.out.lt k hk).1; omega)
              have OWN := Lib.hid (own_below hown2 ((Below.refl v2.heap.size v2).alloc (Nat.le_refl _) (.cells #[.string (nm 0), .string s, .bool d, .int .i64 ca, .int .i64 cb] 90)))
              have RD := Lib.hid (RdK.one v2 ((nm 0), ⟨s, d, ca, cb⟩) v2.heap.size rfl)
              clear hown2
              refine wpAnyZ_take (i := 8) (v := ?_) rfl (by kernel_rfl) (by kernel_rfl) (by kernel_rfl) (by kernel_rfl) (fun _ _ _ h => h) (Or.inl ⟨by rfl, ?_⟩) (by assumption) ?_
              rotate_left
              · (intro wx hSw; (try dsimp only at hSw); go_simp; try with_reducible rfl)
              try simp only [Act.put, List.getElem_toArray, List.getElem_cons_succ, List.getElem_cons_zero, List.setIfInBounds_toArray, List.set_cons_zero, List.set_cons_succ]
              refine wpAnyZ_one (i := 9) (by kernel_rfl) rfl (fun K hK => ?_)
              go_simp
              refine hK.out _ _ ?_ (fun hHeld => ?_)
              · exact ⟨at_new hHeld.1 _, at_new hHeld.2 _⟩
              clear hK K
              try simp only [Act.put, List.getElem_toArray, List.getElem_cons_succ, List.getElem_cons_zero, List.setIfInBounds_toArray, List.set_cons_zero, List.set_cons_succ]
              refine wpAnyZ_one (i := 10) (by kernel_rfl) rfl (fun K hK => ?_)
              refine step_ex rfl (.tmp 51) (.tmp 59) _ _ rfl (.slice A l.length c) (.slice (some ⟨v2.heap.size, 0, none⟩) 1 1) (by simp [Act.eval]) (by simp [Act.eval]) (run_appK (w.heap.size + 2) OWN.out RD.out ?s1 ?s2) ?_
              case s1 => have := CT.out.len; omega
              case s2 => have := SZ.out; have := HV1.out; have := KP2.out.size; simp; omega
              intro v3 w3 ho3 hg3
              obtain ⟨hg3, _⟩ := hg3
              obtain ⟨A3, c3, rfl, _⟩ := own_slice ho3
              have HO3 := Lib.hid ho3; have HG3 := Lib.hid hg3
              clear ho3 hg3
              refine hK.out _ _ ?_ (fun hHeld => ?_)
              · exact ⟨(HG3.out.block (w.heap.size + 1) (by have := SZ.out; have := HV1.out; have := KP2.out.size; simp; omega) (fun e => by have := (OWN.out.lt _ e.symm).1; omega)).trans hHeld.1, (HG3.out.block wr.heap.size (by have := HV1.out; have := KP2.out.size; simp; omega) (fun e => by have := (OW.out.lt _ e.symm).2; omega)).trans hHeld.2⟩
              clear hK K
              try simp only [Act.put, List.getElem_toArray, List.getElem_cons_succ, List.getElem_cons_zero, List.setIfInBounds_toArray, List.set_cons_zero, List.set_cons_succ]
              have k7 := cell_at (i := 7) hHeld.1 rfl
              have f7 := thawed_at (i := 7) hHeld.1
              have RB3 := Lib.hid hHeld.1
              refine wpAnyZ_take (i := 11) (v := ?_) rfl (by kernel_rfl) (by kernel_rfl) (by kernel_rfl) (by kernel_rfl) (fun _ _ _ h => h) (Or.inl ⟨by rfl, ?_⟩) (by assumption) ?_
              rotate_left
              · (intro wx hSw; (try dsimp only at hSw); go_simp; try with_reducible rfl)
              try simp only [Act.put, List.getElem_toArray, List.getElem_cons_succ, List.getElem_cons_zero, List.setIfInBounds_toArray, List.set_cons_zero, List.set_cons_succ]
              refine wpAnyZ_last (by kernel_rfl) rfl (fun K hK => ?_)
              go_simp
              refine hK.out _ _ ?_
              clear hK K
              try simp only [Act.put, List.getElem_toArray, List.getElem_cons_succ, List.getElem_cons_zero, List.setIfInBounds_toArray, List.set_cons_zero, List.set_cons_succ]
              refine wpAnyZ_done (by kernel_rfl) ?_ _
              have kA : Kept (fun k => w.heap.size + 1 ≤ k) v2 (w3.setCell ⟨w.heap.size + 1, 7, none⟩ (.slice A3 (l.length + 1) c3)) := ((Kept.alloc (fun k => w.heap.size + 1 ≤ k) v2 _).trans (Kept.of_grown (F := fun k => w.heap.size + 1 ≤ k) HG3.out (fun k hk => by have := (OWN.out.lt k hk).1; omega)) (fun k hk => Or.inl hk)).trans (Kept.setCell (fun k => w.heap.size + 1 ≤ k) w3 ⟨w.heap.size + 1, 7, none⟩ _ (Nat.le_refl _)) fun k hk => Or.inl hk
              have kB : Kept (fun k => k = q ∨ w.heap.size + 1 ≤ k) wr _ := ((Kept.of_below HB1.out (fun k => k = q ∨ w.heap.size + 1 ≤ k)).trans KP2.out (fun k hk => Or.inl (Or.inl hk))).trans kA (fun k hk => Or.inl (Or.inr hk))
              have hm7 := block_setCell (i := 7) RB3.out (.slice A3 (l.length + 1) c3)
              simp only [List.setIfInBounds_toArray, List.set_cons_zero, List.set_cons_succ] at hm7
              have hl9 : LQ _ q B := LQ2.out.kept kA (fun k hk => by omega) hBq
              have hz9 := (kB.block w.heap.size (by have := SZ.out; omega) (by omega)).trans ZZ.out
              have hk9 : Kept (fun k => k = q) w _ := KP.out.trans kB fun k hk => by omega
              have ho9 := own_kept HO3.out (w' := w3.setCell ⟨w.heap.size + 1, 7, none⟩ (.slice A3 (l.length + 1) c3)) fun g hg => Below.heap_setCell _ _ _ _ (by have := (HO3.out.lt g hg).1; show g ≠ w.heap.size + 1; omega)
              have hs9 := kB.size
              generalize w3.setCell ⟨w.heap.size + 1, 7, none⟩ (.slice A3 (l.length + 1) c3) = w9 at *
              have HM7 := Lib.hid hm7; have HL9 := Lib.hid hl9; have HZ9 := Lib.hid hz9; have HK9 := Lib.hid hk9; have HO9 := Lib.hid ho9
              clear kA kB hm7 hl9 hz9 hk9 ho9 k7 f7 hHeld
              go_wp2
              go_roundw
              case rel => exact ⟨0 + 1, 0 + 1, l ++ [(nm 0, ⟨s, d, ca, cb⟩)], A3, c3, by omega, rfl, rfl, CT.out.snoc (nm_facts 0 (by omega)).1 (nm_facts 0 (by omega)).2 HOK.out, by rw [List.length_append]; exact HM7.out, by rw [List.length_append]; exact HO9.out, HL9.out, HK9.out, by have := SZ.out; omega, HZ9.out⟩
              case measure => simp [intOf]
            · go_wp2
              go_roundw
              case rel => exact ⟨1, 1, l, A, c, by omega, rfl, rfl, CT.out.next (nm_facts 0 (by omega)).1, RBl.out, OW.out, LQ_.out, KP.out, SZ.out, ZZ.out⟩
              case measure => simp [intOf]
          · obtain rfl : ti = 1 := hti
            go_wp2_with fail
            · refine wp_region_z (S := fun w' => RB w' (w.heap.size + 1) key a e g A l.length c) 12 (by kernel_rfl) ?_ (fun hHeld => ?_)
              · exact RBl.out
              refine wpAnyZ_take (i := 0) (v := ?_) rfl (by kernel_rfl) (by kernel_rfl) (by kernel_rfl) (by kernel_rfl) (fun _ _ _ h => h) (Or.inl ⟨by rfl, ?_⟩) (by assumption) ?_
              rotate_left
              · (intro wx hSw; (try dsimp only at hSw); go_simp; try with_reducible rfl)
              try simp only [Act.put, List.getElem_toArray, List.getElem_cons_succ, List.getElem_cons_zero, List.setIfInBounds_toArray, List.set_cons_zero, List.set_cons_succ]
              refine wpAnyZ_take (i := 1) (v := ?_) rfl (by kernel_rfl) (by kernel_rfl) (by kernel_rfl) (by kernel_rfl) (fun _ _ _ h => h) (Or.inl ⟨by rfl, ?_⟩) (by assumption) ?_
              rotate_left
              · (intro wx hSw; (try dsimp only at hSw); obtain ⟨_, _, _, _, _, _, _, _⟩ := RB.cells hSw; go_simp; try with_reducible rfl)
              try simp only [Act.put, List.getElem_toArray, List.getElem_cons_succ, List.getElem_cons_zero, List.setIfInBounds_toArray, List.set_cons_zero, List.set_cons_succ]
              refine wpAnyZ_take (i := 3) (v := ?_) rfl (by kernel_rfl) (by kernel_rfl) (by kernel_rfl) (by kernel_rfl) (fun _ _ _ h => h) (Or.inl ⟨by rfl, ?_⟩) (by assumption) ?_
              rotate_left
              · (intro wx hSw; (try dsimp only at hSw); go_simp; try with_reducible rfl)
              try simp only [Act.put, List.getElem_toArray, List.getElem_cons_succ, List.getElem_cons_zero, List.setIfInBounds_toArray, List.set_cons_zero, List.set_cons_succ]
              refine wpAnyZ_take (i := 6) (v := ?_) rfl (by kernel_rfl) (by kernel_rfl) (by kernel_rfl) (by kernel_rfl) (fun _ _ _ h => h) (Or.inl ⟨by rfl, ?_⟩) (by assumption) ?_
              rotate_left
              · (intro wx hSw; (try dsimp only at hSw); go_simp; try with_reducible rfl)
              try simp only [Act.put, List.getElem_toArray, List.getElem_cons_succ, List.getElem_cons_zero, List.setIfInBounds_toArray, List.set_cons_zero, List.set_cons_succ]
              refine wpAnyZ_one (i := 2) (by kernel_rfl) rfl (fun K hK => ?_)
              go_simp
              refine (names_any _).mono ?_
              rintro x v1 ⟨rfl, hv1⟩
              have hb1 : Below wr.heap.size wr v1 := by rw [hv1]; exact ((Below.refl _ _).drew).alloc (Nat.le_refl _) _
              have hn1 : v1.heap[wr.heap.size]? = some (.cells #[.string (nm 0), .string (nm 1), .string (nm 2), .string (nm 3)] 9 (0, 0)) := by rw [hv1]; exact heap_alloc_new wr.drew _
              have hs1 : v1.heap.size = wr.heap.size + 1 := by rw [hv1]; simp
              have HB1 := Lib.hid hb1; have HN1 := Lib.hid hn1; have HV1 := Lib.hid hs1; have LQ1 := Lib.hid (LQ_.out.below hb1 (by have := LQ_.out.lt; omega))
              clear hv1 hb1 hn1 hs1
              try go_wp2_with fail
              refine hK.out _ _ ?_ (fun hHeld => ?_)
              · first | exact (HB1.out.block (w.heap.size + 1) (by have := SZ.out; omega)).trans RBl.out | exact ⟨(KP2.out.block (w.heap.size + 1) (by have := SZ.out; have := HV1.out; omega) (by omega)).trans hHeld.1, (KP2.out.block wr.heap.size (by have := HV1.out; omega) (by have := SZ.out; omega)).trans hHeld.2⟩
              clear hK K
              try simp only [Act.put, List.getElem_toArray, List.getElem_cons_succ, List.getElem_cons_zero, List.setIfInBounds_toArray, List.set_cons_zero, List.set_cons_succ]
              refine held_upz (S' := fun w' => RB w' (w.heap.size + 1) key a e g A l.length c ∧ w'.heap[wr.heap.size]? = some (.cells #[.string (nm 0), .string (nm 1), .string (nm 2), .string (nm 3)] 9 (0, 0))) (fun _ h => h.1) _ _ _ _ ?_
              replace hHeld := And.intro hHeld HN1.out
              refine wpAnyZ_take (i := 4) (v := ?_) rfl (by kernel_rfl) (by kernel_rfl) (by kernel_rfl) (by kernel_rfl) (fun _ _ _ h => h) (Or.inl ⟨by rfl, ?_⟩) (by assumption) ?_
              rotate_left
              · (intro wx hSw; (try dsimp only at hSw); go_simp; try with_reducible rfl)
              try simp only [Act.put, List.getElem_toArray, List.getElem_cons_succ, List.getElem_cons_zero, List.setIfInBounds_toArray, List.set_cons_zero, List.set_cons_succ]
              refine wpAnyZ_take (i := 5) (v := ?_) rfl (by kernel_rfl) (by kernel_rfl) (by kernel_rfl) (by kernel_rfl) (fun _ _ _ h => h) (Or.inl ⟨by rfl, ?_⟩) (by assumption) ?_
              rotate_left
              · (intro wx hSw; (try dsimp only at hSw); have hn0 := cell_at (i := 0) hSw.2 rfl; have hn1 := cell_at (i := 1) hSw.2 rfl; have hn2 := cell_at (i := 2) hSw.2 rfl; have hn3 := cell_at (i := 3) hSw.2 rfl; go_simp; try with_reducible rfl)
              try simp only [Act.put, List.getElem_toArray, List.getElem_cons_succ, List.getElem_cons_zero, List.setIfInBounds_toArray, List.set_cons_zero, List.set_cons_succ]
              refine wpAnyZ_one (i := 7) (by kernel_rfl) rfl (fun K hK => ?_)
              go_simp
              refine (cell_gen q B _ LQ1.out hBq).mono ?_
              rintro x v2 ⟨s, d, ca, cb, rfl, hok, hlq2, hkp2⟩
              have HOK := Lib.hid hok; have LQ2 := Lib.hid hlq2; have KP2 := Lib.hid hkp2
              clear hok hlq2 hkp2
              try go_wp2_with fail
              refine hK.out _ _ ?_ (fun hHeld => ?_)
              · first | exact (HB1.out.block (w.heap.size + 1) (by have := SZ.out; omega)).trans RBl.out | exact ⟨(KP2.out.block (w.heap.size + 1) (by have := SZ.out; have := HV1.out; omega) (by omega)).trans hHeld.1, (KP2.out.block wr.heap.size (by have := HV1.out; omega) (by have := SZ.out; omega)).trans hHeld.2⟩
              clear hK K
              try simp only [Act.put, List.getElem_toArray, List.getElem_cons_succ, List.getElem_cons_zero, List.setIfInBounds_toArray, List.set_cons_zero, List.set_cons_succ]
              have hown2 := own_kept (own_below OW.out (HB1.out)) fun k hk => KP2.out.block k (own_block_lt (own_below OW.out (HB1.out)) k hk) (by have := (OW.out.lt k hk).1; omega)
              have OWN := Lib.hid (own_below hown2 ((Below.refl v2.heap.size v2).alloc (Nat.le_refl _) (.cells #[.string (nm 1), .string s, .bool d, .int .i64 ca, .int .i64 cb] 90)))
              have RD := Lib.hid (RdK.one v2 ((nm 1), ⟨s, d, ca, cb⟩) v2.heap.size rfl)
              clear hown2
              refine wpAnyZ_take (i := 8) (v := ?_) rfl (by kernel_rfl) (by kernel_rfl) (by kernel_rfl) (by kernel_rfl) (fun _ _ _ h => h) (Or.inl ⟨by rfl, ?_⟩) (by assumption) ?_
              rotate_left
              · (intro wx hSw; (try dsimp only at hSw); go_simp; try with_reducible rfl)
              try simp only [Act.put, List.getElem_toArray, List.getElem_cons_succ, List.getElem_cons_zero, List.setIfInBounds_toArray, List.set_cons_zero, List.set_cons_succ]
              refine wpAnyZ_one (i := 9) (by kernel_rfl) rfl (fun K hK => ?_)
              go_simp
              refine hK.out _ _ ?_ (fun hHeld => ?_)
              · exact ⟨at_new hHeld.1 _, at_new hHeld.2 _⟩
              clear hK K
              try simp only [Act.put, List.getElem_toArray, List.getElem_cons_succ, List.getElem_cons_zero, List.setIfInBounds_toArray, List.set_cons_zero, List.set_cons_succ]
              refine wpAnyZ_one (i := 10) (by kernel_rfl) rfl (fun K hK => ?_)
              refine step_ex rfl (.tmp 51) (.tmp 59) _ _ rfl (.slice A l.length c) (.slice (some ⟨v2.heap.size, 0, none⟩) 1 1) (by simp [Act.eval]) (by simp [Act.eval]) (run_appK (w.heap.size + 2) OWN.out RD.out ?s1 ?s2) ?_
              case s1 => have := CT.out.len; omega
              case s2 => have := SZ.out; have := HV1.out; have := KP2.out.size; simp; omega
              intro v3 w3 ho3 hg3
              obtain ⟨hg3, _⟩ := hg3
              obtain ⟨A3, c3, rfl, _⟩ := own_slice ho3
              have HO3 := Lib.hid ho3; have HG3 := Lib.hid hg3
              clear ho3 hg3
              refine hK.out _ _ ?_ (fun hHeld => ?_)
              · exact ⟨(HG3.out.block (w.heap.size + 1) (by have := SZ.out; have := HV1.out; have := KP2.out.size; simp; omega) (fun e => by have := (OWN.out.lt _ e.symm).1; omega)).trans hHeld.1, (HG3.out.block wr.heap.size (by have := HV1.out; have := KP2.out.size; simp; omega) (fun e => by have := (OW.out.lt _ e.symm).2; omega)).trans hHeld.2⟩
              clear hK K
              try simp only [Act.put, List.getElem_toArray, List.getElem_cons_succ, List.getElem_cons_zero, List.setIfInBounds_toArray, List.set_cons_zero, List.set_cons_succ]
              have k7 := cell_at (i := 7) hHeld.1 rfl
              have f7 := thawed_at (i := 7) hHeld.1
              have RB3 := Lib.hid hHeld.1
              refine wpAnyZ_take (i := 11) (v := ?_) rfl (by kernel_rfl) (by kernel_rfl) (by kernel_rfl) (by kernel_rfl) (fun _ _ _ h => h) (Or.inl ⟨by rfl, ?_⟩) (by assumption) ?_
              rotate_left
              · (intro wx hSw; (try dsimp only at hSw); go_simp; try with_reducible rfl)
              try simp only [Act.put, List.getElem_toArray, List.getElem_cons_succ, List.getElem_cons_zero, List.setIfInBounds_toArray, List.set_cons_zero, List.set_cons_succ]
              refine wpAnyZ_last (by kernel_rfl) rfl (fun K hK => ?_)
              go_simp
              refine hK.out _ _ ?_
              clear hK K
              try simp only [Act.put, List.getElem_toArray, List.getElem_cons_succ, List.getElem_cons_zero, List.setIfInBounds_toArray, List.set_cons_zero, List.set_cons_succ]
              refine wpAnyZ_done (by kernel_rfl) ?_ _
              have kA : Kept (fun k => w.heap.size + 1 ≤ k) v2 (w3.setCell ⟨w.heap.size + 1, 7, none⟩ (.slice A3 (l.length + 1) c3)) := ((Kept.alloc (fun k => w.heap.size + 1 ≤ k) v2 _).trans (Kept.of_grown (F := fun k => w.heap.size + 1 ≤ k) HG3.out (fun k hk => by have := (OWN.out.lt k hk).1; omega)) (fun k hk => Or.inl hk)).trans (Kept.setCell (fun k => w.heap.size + 1 ≤ k) w3 ⟨w.heap.size + 1, 7, none⟩ _ (Nat.le_refl _)) fun k hk => Or.inl hk
              have kB : Kept (fun k => k = q ∨ w.heap.size + 1 ≤ k) wr _ := ((Kept.of_below HB1.out (fun k => k = q ∨ w.heap.size + 1 ≤ k)).trans KP2.out (fun k hk => Or.inl (Or.inl hk))).trans kA (fun k hk => Or.inl (Or.inr hk))
              have hm7 := block_setCell (i := 7) RB3.out (.slice A3 (l.length + 1) c3)
              simp only [List.setIfInBounds_toArray, List.set_cons_zero, List.set_cons_succ] at hm7
              have hl9 : LQ _ q B := LQ2.out.kept kA (fun k hk => by omega) hBq
              have hz9 := (kB.block w.heap.size (by have := SZ.out; omega) (by omega)).trans ZZ.out
              have hk9 : Kept (fun k => k = q) w _ := KP.out.trans kB fun k hk => by omega
              have ho9 := own_kept HO3.out (w' := w3.setCell ⟨w.heap.size + 1, 7, none⟩ (.slice A3 (l.length + 1) c3)) fun g hg => Below.heap_setCell _ _ _ _ (by have := (HO3.out.lt g hg).1; show g ≠ w.heap.size + 1; omega)
              have hs9 := kB.size
              generalize w3.setCell ⟨w.heap.size + 1, 7, none⟩ (.slice A3 (l.length + 1) c3) = w9 at *
              have HM7 := Lib.hid hm7; have HL9 := Lib.hid hl9; have HZ9 := Lib.hid hz9; have HK9 := Lib.hid hk9; have HO9 := Lib.hid ho9
              clear kA kB hm7 hl9 hz9 hk9 ho9 k7 f7 hHeld
              go_wp2
              go_roundw
              case rel => exact ⟨1 + 1, 1 + 1, l ++ [(nm 1, ⟨s, d, ca, cb⟩)], A3, c3, by omega, rfl, rfl, CT.out.snoc (nm_facts 1 (by omega)).1 (nm_facts 1 (by omega)).2 HOK.out, by rw [List.length_append]; exact HM7.out, by rw [List.length_append]; exact HO9.out, HL9.out, HK9.out, by have := SZ.out; omega, HZ9.out⟩
              case measure => simp [intOf]
            · go_wp2
              go_roundw
              case rel => exact ⟨2, 2, l, A, c, by omega, rfl, rfl, CT.out.next (nm_facts 1 (by omega)).1, RBl.out, OW.out, LQ_.out, KP.out, SZ.out, ZZ.out⟩
              case measure => simp [intOf]
          · obtain rfl : ti = 2 := hti
            go_wp2_with fail
            · refine wp_region_z (S := fun w' => RB w' (w.heap.size + 1) key a e g A l.length c) 12 (by kernel_rfl) ?_ (fun hHeld => ?_)
              · exact RBl.out
              refine wpAnyZ_take (i := 0) (v := ?_) rfl (by kernel_rfl) (by kernel_rfl) (by kernel_rfl) (by kernel_rfl) (fun _ _ _ h => h) (Or.inl ⟨by rfl, ?_⟩) (by assumption) ?_
              rotate_left
              · (intro wx hSw; (try dsimp only at hSw); go_simp; try with_reducible rfl)
              try simp only [Act.put, List.getElem_toArray, List.getElem_cons_succ, List.getElem_cons_zero, List.setIfInBounds_toArray, List.set_cons_zero, List.set_cons_succ]
              refine wpAnyZ_take (i := 1) (v := ?_) rfl (by kernel_rfl) (by kernel_rfl) (by kernel_rfl) (by kernel_rfl) (fun _ _ _ h => h) (Or.inl ⟨by rfl, ?_⟩) (by assumption) ?_
              rotate_left
              · (intro wx hSw; (try dsimp only at hSw); obtain ⟨_, _, _, _, _, _, _, _⟩ := RB.cells hSw; go_simp; try with_reducible rfl)
              try simp only [Act.put, List.getElem_toArray, List.getElem_cons_succ, List.getElem_cons_zero, List.setIfInBounds_toArray, List.set_cons_zero, List.set_cons_succ]
              refine wpAnyZ_take (i := 3) (v := ?_) rfl (by kernel_rfl) (by kernel_rfl) (by kernel_rfl) (by kernel_rfl) (fun _ _ _ h => h) (Or.inl ⟨by rfl, ?_⟩) (by assumption) ?_
              rotate_left
              · (intro wx hSw; (try dsimp only at hSw); go_simp; try with_reducible rfl)
              try simp only [Act.put, List.getElem_toArray, List.getElem_cons_succ, List.getElem_cons_zero, List.setIfInBounds_toArray, List.set_cons_zero, List.set_cons_succ]
              refine wpAnyZ_take (i := 6) (v := ?_) rfl (by kernel_rfl) (by kernel_rfl) (by kernel_rfl) (by kernel_rfl) (fun _ _ _ h => h) (Or.inl ⟨by rfl, ?_⟩) (by assumption) ?_
              rotate_left
              · (intro wx hSw; (try dsimp only at hSw); go_simp; try with_reducible rfl)
              try simp only [Act.put, List.getElem_toArray, List.getElem_cons_succ, List.getElem_cons_zero, List.setIfInBounds_toArray, List.set_cons_zero, List.set_cons_succ]
              refine wpAnyZ_one (i := 2) (by kernel_rfl) rfl (fun K hK => ?_)
              go_simp
              refine (names_any _).mono ?_
              rintro x v1 ⟨rfl, hv1⟩
              have hb1 : Below wr.heap.size wr v1 := by rw [hv1]; exact ((Below.refl _ _).drew).alloc (Nat.le_refl _) _
              have hn1 : v1.heap[wr.heap.size]? = some (.cells #[.string (nm 0), .string (nm 1), .string (nm 2), .string (nm 3)] 9 (0, 0)) := by rw [hv1]; exact heap_alloc_new wr.drew _
              have hs1 : v1.heap.size = wr.heap.size + 1 := by rw [hv1]; simp
              have HB1 := Lib.hid hb1; have HN1 := Lib.hid hn1; have HV1 := Lib.hid hs1; have LQ1 := Lib.hid (LQ_.out.below hb1 (by have := LQ_.out.lt; omega))
              clear hv1 hb1 hn1 hs1
              try go_wp2_with fail
              refine hK.out _ _ ?_ (fun hHeld => ?_)
              · first | exact (HB1.out.block (w.heap.size + 1) (by have := SZ.out; omega)).trans RBl.out | exact ⟨(KP2.out.block (w.heap.size + 1) (by have := SZ.out; have := HV1.out; omega) (by omega)).trans hHeld.1, (KP2.out.block wr.heap.size (by have := HV1.out; omega) (by have := SZ.out; omega)).trans hHeld.2⟩
              clear hK K
              try simp only [Act.put, List.getElem_toArray, List.getElem_cons_succ, List.getElem_cons_zero, List.setIfInBounds_toArray, List.set_cons_zero, List.set_cons_succ]
              refine held_upz (S' := fun w' => RB w' (w.heap.size + 1) key a e g A l.length c ∧ w'.heap[wr.heap.size]? = some (.cells #[.string (nm 0), .string (nm 1), .string (nm 2), .string (nm 3)] 9 (0, 0))) (fun _ h => h.1) _ _ _ _ ?_
              replace hHeld := And.intro hHeld HN1.out
              refine wpAnyZ_take (i := 4) (v := ?_) rfl (by kernel_rfl) (by kernel_rfl) (by kernel_rfl) (by kernel_rfl) (fun _ _ _ h => h) (Or.inl ⟨by rfl, ?_⟩) (by assumption) ?_
              rotate_left
              · (intro wx hSw; (try dsimp only at hSw); go_simp; try with_reducible rfl)
              try simp only [Act.put, List.getElem_toArray, List.getElem_cons_succ, List.getElem_cons_zero, List.setIfInBounds_toArray, List.set_cons_zero, List.set_cons_succ]
              refine wpAnyZ_take (i := 5) (v := ?_) rfl (by kernel_rfl) (by kernel_rfl) (by kernel_rfl) (by kernel_rfl) (fun _ _ _ h => h) (Or.inl ⟨by rfl, ?_⟩) (by assumption) ?_
              rotate_left
              · (intro wx hSw; (try dsimp only at hSw); have hn0 := cell_at (i := 0) hSw.2 rfl; have hn1 := cell_at (i := 1) hSw.2 rfl; have hn2 := cell_at (i := 2) hSw.2 rfl; have hn3 := cell_at (i := 3) hSw.2 rfl; go_simp; try with_reducible rfl)
              try simp only [Act.put, List.getElem_toArray, List.getElem_cons_succ, List.getElem_cons_zero, List.setIfInBounds_toArray, List.set_cons_zero, List.set_cons_succ]
              refine wpAnyZ_one (i := 7) (by kernel_rfl) rfl (fun K hK => ?_)
              go_simp
              refine (cell_gen q B _ LQ1.out hBq).mono ?_
              rintro x v2 ⟨s, d, ca, cb, rfl, hok, hlq2, hkp2⟩
              have HOK := Lib.hid hok; have LQ2 := Lib.hid hlq2; have KP2 := Lib.hid hkp2
              clear hok hlq2 hkp2
              try go_wp2_with fail
              refine hK.out _ _ ?_ (fun hHeld => ?_)
              · first | exact (HB1.out.block (w.heap.size + 1) (by have := SZ.out; omega)).trans RBl.out | exact ⟨(KP2.out.block (w.heap.size + 1) (by have := SZ.out; have := HV1.out; omega) (by omega)).trans hHeld.1, (KP2.out.block wr.heap.size (by have := HV1.out; omega) (by have := SZ.out; omega)).trans hHeld.2⟩
              clear hK K
              try simp only [Act.put, List.getElem_toArray, List.getElem_cons_succ, List.getElem_cons_zero, List.setIfInBounds_toArray, List.set_cons_zero, List.set_cons_succ]
              have hown2 := own_kept (own_below OW.out (HB1.out)) fun k hk => KP2.out.block k (own_block_lt (own_below OW.out (HB1.out)) k hk) (by have := (OW.out.lt k hk).1; omega)
              have OWN := Lib.hid (own_below hown2 ((Below.refl v2.heap.size v2).alloc (Nat.le_refl _) (.cells #[.string (nm 2), .string s, .bool d, .int .i64 ca, .int .i64 cb] 90)))
              have RD := Lib.hid (RdK.one v2 ((nm 2), ⟨s, d, ca, cb⟩) v2.heap.size rfl)
              clear hown2
              refine wpAnyZ_take (i := 8) (v := ?_) rfl (by kernel_rfl) (by kernel_rfl) (by kernel_rfl) (by kernel_rfl) (fun _ _ _ h => h) (Or.inl ⟨by rfl, ?_⟩) (by assumption) ?_
              rotate_left
              · (intro wx hSw; (try dsimp only at hSw); go_simp; try with_reducible rfl)
              try simp only [Act.put, List.getElem_toArray, List.getElem_cons_succ, List.getElem_cons_zero, List.setIfInBounds_toArray, List.set_cons_zero, List.set_cons_succ]
              refine wpAnyZ_one (i := 9) (by kernel_rfl) rfl (fun K hK => ?_)
              go_simp
              refine hK.out _ _ ?_ (fun hHeld => ?_)
              · exact ⟨at_new hHeld.1 _, at_new hHeld.2 _⟩
              clear hK K
              try simp only [Act.put, List.getElem_toArray, List.getElem_cons_succ, List.getElem_cons_zero, List.setIfInBounds_toArray, List.set_cons_zero, List.set_cons_succ]
              refine wpAnyZ_one (i := 10) (by kernel_rfl) rfl (fun K hK => ?_)
              refine step_ex rfl (.tmp 51) (.tmp 59) _ _ rfl (.slice A l.length c) (.slice (some ⟨v2.heap.size, 0, none⟩) 1 1) (by simp [Act.eval]) (by simp [Act.eval]) (run_appK (w.heap.size + 2) OWN.out RD.out ?s1 ?s2) ?_
              case s1 => have := CT.out.len; omega
              case s2 => have := SZ.out; have := HV1.out; have := KP2.out.size; simp; omega
              intro v3 w3 ho3 hg3
              obtain ⟨hg3, _⟩ := hg3
              obtain ⟨A3, c3, rfl, _⟩ := own_slice ho3
              have HO3 := Lib.hid ho3; have HG3 := Lib.hid hg3
              clear ho3 hg3
              refine hK.out _ _ ?_ (fun hHeld => ?_)
              · exact ⟨(HG3.out.block (w.heap.size + 1) (by have := SZ.out; have := HV1.out; have := KP2.out.size; simp; omega) (fun e => by have := (OWN.out.lt _ e.symm).1; omega)).trans hHeld.1, (HG3.out.block wr.heap.size (by have := HV1.out; have := KP2.out.size; simp; omega) (fun e => by have := (OW.out.lt _ e.symm).2; omega)).trans hHeld.2⟩
              clear hK K
              try simp only [Act.put, List.getElem_toArray, List.getElem_cons_succ, List.getElem_cons_zero, List.setIfInBounds_toArray, List.set_cons_zero, List.set_cons_succ]
              have k7 := cell_at (i := 7) hHeld.1 rfl
              have f7 := thawed_at (i := 7) hHeld.1
              have RB3 := Lib.hid hHeld.1
              refine wpAnyZ_take (i := 11) (v := ?_) rfl (by kernel_rfl) (by kernel_rfl) (by kernel_rfl) (by kernel_rfl) (fun _ _ _ h => h) (Or.inl ⟨by rfl, ?_⟩) (by assumption) ?_
              rotate_left
              · (intro wx hSw; (try dsimp only at hSw); go_simp; try with_reducible rfl)
              try simp only [Act.put, List.getElem_toArray, List.getElem_cons_succ, List.getElem_cons_zero, List.setIfInBounds_toArray, List.set_cons_zero, List.set_cons_succ]
              refine wpAnyZ_last (by kernel_rfl) rfl (fun K hK => ?_)
              go_simp
              refine hK.out _ _ ?_
              clear hK K
              try simp only [Act.put, List.getElem_toArray, List.getElem_cons_succ, List.getElem_cons_zero, List.setIfInBounds_toArray, List.set_cons_zero, List.set_cons_succ]
              refine wpAnyZ_done (by kernel_rfl) ?_ _
              have kA : Kept (fun k => w.heap.size + 1 ≤ k) v2 (w3.setCell ⟨w.heap.size + 1, 7, none⟩ (.slice A3 (l.length + 1) c3)) := ((Kept.alloc (fun k => w.heap.size + 1 ≤ k) v2 _).trans (Kept.of_grown (F := fun k => w.heap.size + 1 ≤ k) HG3.out (fun k hk => by have := (OWN.out.lt k hk).1; omega)) (fun k hk => Or.inl hk)).trans (Kept.setCell (fun k => w.heap.size + 1 ≤ k) w3 ⟨w.heap.size + 1, 7, none⟩ _ (Nat.le_refl _)) fun k hk => Or.inl hk
              have kB : Kept (fun k => k = q ∨ w.heap.size + 1 ≤ k) wr _ := ((Kept.of_below HB1.out (fun k => k = q ∨ w.heap.size + 1 ≤ k)).trans KP2.out (fun k hk => Or.inl (Or.inl hk))).trans kA (fun k hk => Or.inl (Or.inr hk))
              have hm7 := block_setCell (i := 7) RB3.out (.slice A3 (l.length + 1) c3)
              simp only [List.setIfInBounds_toArray, List.set_cons_zero, List.set_cons_succ] at hm7
              have hl9 : LQ _ q B := LQ2.out.kept kA (fun k hk => by omega) hBq
              have hz9 := (kB.block w.heap.size (by have := SZ.out; omega) (by omega)).trans ZZ.out
              have hk9 : Kept (fun k => k = q) w _ := KP.out.trans kB fun k hk => by omega
              have ho9 := own_kept HO3.out (w' := w3.setCell ⟨w.heap.size + 1, 7, none⟩ (.slice A3 (l.length + 1) c3)) fun g hg => Below.heap_setCell _ _ _ _ (by have := (HO3.out.lt g hg).1; show g ≠ w.heap.size + 1; omega)
              have hs9 := kB.size
              generalize w3.setCell ⟨w.heap.size + 1, 7, none⟩ (.slice A3 (l.length + 1) c3) = w9 at *
              have HM7 := Lib.hid hm7; have HL9 := Lib.hid hl9; have HZ9 := Lib.hid hz9; have HK9 := Lib.hid hk9; have HO9 := Lib.hid ho9
              clear kA kB hm7 hl9 hz9 hk9 ho9 k7 f7 hHeld
              go_wp2
              go_roundw
              case rel => exact ⟨2 + 1, 2 + 1, l ++ [(nm 2, ⟨s, d, ca, cb⟩)], A3, c3, by omega, rfl, rfl, CT.out.snoc (nm_facts 2 (by omega)).1 (nm_facts 2 (by omega)).2 HOK.out, by rw [List.length_append]; exact HM7.out, by rw [List.length_append]; exact HO9.out, HL9.out, HK9.out, by have := SZ.out; omega, HZ9.out⟩
              case measure => simp [intOf]
            · go_wp2
              go_roundw
              case rel => exact ⟨3, 3, l, A, c, by omega, rfl, rfl, CT.out.next (nm_facts 2 (by omega)).1, RBl.out, OW.out, LQ_.out, KP.out, SZ.out, ZZ.out⟩
              case measure => simp [intOf]
          · obtain rfl : ti = 3 := hti
            go_wp2_with fail
            · refine wp_region_z (S := fun w' => RB w' (w.heap.size + 1) key a e g A l.length c) 12 (by kernel_rfl) ?_ (fun hHeld => ?_)
              · exact RBl.out
              refine wpAnyZ_take (i := 0) (v := ?_) rfl (by kernel_rfl) (by kernel_rfl) (by kernel_rfl) (by kernel_rfl) (fun _ _ _ h => h) (Or.inl ⟨by rfl, ?_⟩) (by assumption) ?_
              rotate_left
              · (intro wx hSw; (try dsimp only at hSw); go_simp; try with_reducible rfl)
              try simp only [Act.put, List.getElem_toArray, List.getElem_cons_succ, List.getElem_cons_zero, List.setIfInBounds_toArray, List.set_cons_zero, List.set_cons_succ]
              refine wpAnyZ_take (i := 1) (v := ?_) rfl (by kernel_rfl) (by kernel_rfl) (by kernel_rfl) (by kernel_rfl) (fun _ _ _ h => h) (Or.inl ⟨by rfl, ?_⟩) (by assumption) ?_
              rotate_left
              · (intro wx hSw; (try dsimp only at hSw); obtain ⟨_, _, _, _, _, _, _, _⟩ := RB.cells hSw; go_simp; try with_reducible rfl)
              try simp only [Act.put, List.getElem_toArray, List.getElem_cons_succ, List.getElem_cons_zero, List.setIfInBounds_toArray, List.set_cons_zero, List.set_cons_succ]
              refine wpAnyZ_take (i := 3) (v := ?_) rfl (by kernel_rfl) (by kernel_rfl) (by kernel_rfl) (by kernel_rfl) (fun _ _ _ h => h) (Or.inl ⟨by rfl, ?_⟩) (by assumption) ?_
              rotate_left
              · (intro wx hSw; (try dsimp only at hSw); go_simp; try with_reducible rfl)
              try simp only [Act.put, List.getElem_toArray, List.getElem_cons_succ, List.getElem_cons_zero, List.setIfInBounds_toArray, List.set_cons_zero, List.set_cons_succ]
              refine wpAnyZ_take (i := 6) (v := ?_) rfl (by kernel_rfl) (by kernel_rfl) (by kernel_rfl) (by kernel_rfl) (fun _ _ _ h => h) (Or.inl ⟨by rfl, ?_⟩) (by assumption) ?_
              rotate_left
              · (intro wx hSw; (try dsimp only at hSw); go_simp; try with_reducible rfl)
              try simp only [Act.put, List.getElem_toArray, List.getElem_cons_succ, List.getElem_cons_zero, List.setIfInBounds_toArray, List.set_cons_zero, List.set_cons_succ]
              refine wpAnyZ_one (i := 2) (by kernel_rfl) rfl (fun K hK => ?_)
              go_simp
              refine (names_any _).mono ?_
              rintro x v1 ⟨rfl, hv1⟩
              have hb1 : Below wr.heap.size wr v1 := by rw [hv1]; exact ((Below.refl _ _).drew).alloc (Nat.le_refl _) _
              have hn1 : v1.heap[wr.heap.size]? = some (.cells #[.string (nm 0), .string (nm 1), .string (nm 2), .string (nm 3)] 9 (0, 0)) := by rw [hv1]; exact heap_alloc_new wr.drew _
              have hs1 : v1.heap.size = wr.heap.size + 1 := by rw [hv1]; simp
              have HB1 := Lib.hid hb1; have HN1 := Lib.hid hn1; have HV1 := Lib.hid hs1; have LQ1 := Lib.hid (LQ_.out.below hb1 (by have := LQ_.out.lt; omega))
              clear hv1 hb1 hn1 hs1
              try go_wp2_with fail
              refine hK.out _ _ ?_ (fun hHeld => ?_)
              · first | exact (HB1.out.block (w.heap.size + 1) (by have := SZ.out; omega)).trans RBl.out | exact ⟨(KP2.out.block (w.heap.size + 1) (by have := SZ.out; have := HV1.out; omega) (by omega)).trans hHeld.1, (KP2.out.block wr.heap.size (by have := HV1.out; omega) (by have := SZ.out; omega)).trans hHeld.2⟩
              clear hK K
              try simp only [Act.put, List.getElem_toArray, List.getElem_cons_succ, List.getElem_cons_zero, List.setIfInBounds_toArray, List.set_cons_zero, List.set_cons_succ]
              refine held_upz (S' := fun w' => RB w' (w.heap.size + 1) key a e g A l.length c ∧ w'.heap[wr.heap.size]? = some (.cells #[.string (nm 0), .string (nm 1), .string (nm 2), .string (nm 3)] 9 (0, 0))) (fun _ h => h.1) _ _ _ _ ?_
              replace hHeld := And.intro hHeld HN1.out
              refine wpAnyZ_take (i := 4) (v := ?_) rfl (by kernel_rfl) (by kernel_rfl) (by kernel_rfl) (by kernel_rfl) (fun _ _ _ h => h) (Or.inl ⟨by rfl, ?_⟩) (by assumption) ?_
              rotate_left
              · (intro wx hSw; (try dsimp only at hSw); go_simp; try with_reducible rfl)
              try simp only [Act.put, List.getElem_toArray, List.getElem_cons_succ, List.getElem_cons_zero, List.setIfInBounds_toArray, List.set_cons_zero, List.set_cons_succ]
              refine wpAnyZ_take (i := 5) (v := ?_) rfl (by kernel_rfl) (by kernel_rfl) (by kernel_rfl) (by kernel_rfl) (fun _ _ _ h => h) (Or.inl ⟨by rfl, ?_⟩) (by assumption) ?_
              rotate_left
              · (intro wx hSw; (try dsimp only at hSw); have hn0 := cell_at (i := 0) hSw.2 rfl; have hn1 := cell_at (i := 1) hSw.2 rfl; have hn2 := cell_at (i := 2) hSw.2 rfl; have hn3 := cell_at (i := 3) hSw.2 rfl; go_simp; try with_reducible rfl)
              try simp only [Act.put, List.getElem_toArray, List.getElem_cons_succ, List.getElem_cons_zero, List.setIfInBounds_toArray, List.set_cons_zero, List.set_cons_succ]
              refine wpAnyZ_one (i := 7) (by kernel_rfl) rfl (fun K hK => ?_)
              go_simp
              refine (cell_gen q B _ LQ1.out hBq).mono ?_
              rintro x v2 ⟨s, d, ca, cb, rfl, hok, hlq2, hkp2⟩
              have HOK := Lib.hid hok; have LQ2 := Lib.hid hlq2; have KP2 := Lib.hid hkp2
              clear hok hlq2 hkp2
              try go_wp2_with fail
              refine hK.out _ _ ?_ (fun hHeld => ?_)
              · first | exact (HB1.out.block (w.heap.size + 1) (by have := SZ.out; omega)).trans RBl.out | exact ⟨(KP2.out.block (w.heap.size + 1) (by have := SZ.out; have := HV1.out; omega) (by omega)).trans hHeld.1, (KP2.out.block wr.heap.size (by have := HV1.out; omega) (by have := SZ.out; omega)).trans hHeld.2⟩
              clear hK K
              try simp only [Act.put, List.getElem_toArray, List.getElem_cons_succ, List.getElem_cons_zero, List.setIfInBounds_toArray, List.set_cons_zero, List.set_cons_succ]
              have hown2 := own_kept (own_below OW.out (HB1.out)) fun k hk => KP2.out.block k (own_block_lt (own_below OW.out (HB1.out)) k hk) (by have := (OW.out.lt k hk).1; omega)
              have OWN := Lib.hid (own_below hown2 ((Below.refl v2.heap.size v2).alloc (Nat.le_refl _) (.cells #[.string (nm 3), .string s, .bool d, .int .i64 ca, .int .i64 cb] 90)))
              have RD := Lib.hid (RdK.one v2 ((nm 3), ⟨s, d, ca, cb⟩) v2.heap.size rfl)
              clear hown2
              refine wpAnyZ_take (i := 8) (v := ?_) rfl (by kernel_rfl) (by kernel_rfl) (by kernel_rfl) (by kernel_rfl) (fun _ _ _ h => h) (Or.inl ⟨by rfl, ?_⟩) (by assumption) ?_
              rotate_left
              · (intro wx hSw; (try dsimp only at hSw); go_simp; try with_reducible rfl)
              try simp only [Act.put, List.getElem_toArray, List.getElem_cons_succ, List.getElem_cons_zero, List.setIfInBounds_toArray, List.set_cons_zero, List.set_cons_succ]
              refine wpAnyZ_one (i := 9) (by kernel_rfl) rfl (fun K hK => ?_)
              go_simp
              refine hK.out _ _ ?_ (fun hHeld => ?_)
              · exact ⟨at_new hHeld.1 _, at_new hHeld.2 _⟩
              clear hK K
              try simp only [Act.put, List.getElem_toArray, List.getElem_cons_succ, List.getElem_cons_zero, List.setIfInBounds_toArray, List.set_cons_zero, List.set_cons_succ]
              refine wpAnyZ_one (i := 10) (by kernel_rfl) rfl (fun K hK => ?_)
              refine step_ex rfl (.tmp 51) (.tmp 59) _ _ rfl (.slice A l.length c) (.slice (some ⟨v2.heap.size, 0, none⟩) 1 1) (by simp [Act.eval]) (by simp [Act.eval]) (run_appK (w.heap.size + 2) OWN.out RD.out ?s1 ?s2) ?_
              case s1 => have := CT.out.len; omega
              case s2 => have := SZ.out; have := HV1.out; have := KP2.out.size; simp; omega
              intro v3 w3 ho3 hg3
              obtain ⟨hg3, _⟩ := hg3
              obtain ⟨A3, c3, rfl, _⟩ := own_slice ho3
              have HO3 := Lib.hid ho3; have HG3 := Lib.hid hg3
              clear ho3 hg3
              refine hK.out _ _ ?_ (fun hHeld => ?_)
              · exact ⟨(HG3.out.block (w.heap.size + 1) (by have := SZ.out; have := HV1.out; have := KP2.out.size; simp; omega) (fun e => by have := (OWN.out.lt _ e.symm).1; omega)).trans hHeld.1, (HG3.out.block wr.heap.size (by have := HV1.out; have := KP2.out.size; simp; omega) (fun e => by have := (OW.out.lt _ e.symm).2; omega)).trans hHeld.2⟩
              clear hK K
              try simp only [Act.put, List.getElem_toArray, List.getElem_cons_succ, List.getElem_cons_zero, List.setIfInBounds_toArray, List.set_cons_zero, List.set_cons_succ]
              have k7 := cell_at (i := 7) hHeld.1 rfl
              have f7 := thawed_at (i := 7) hHeld.1
              have RB3 := Lib.hid hHeld.1
              refine wpAnyZ_take (i := 11) (v := ?_) rfl (by kernel_rfl) (by kernel_rfl) (by kernel_rfl) (by kernel_rfl) (fun _ _ _ h => h) (Or.inl ⟨by rfl, ?_⟩) (by assumption) ?_
              rotate_left
              · (intro wx hSw; (try dsimp only at hSw); go_simp; try with_reducible rfl)
              try simp only [Act.put, List.getElem_toArray, List.getElem_cons_succ, List.getElem_cons_zero, List.setIfInBounds_toArray, List.set_cons_zero, List.set_cons_succ]
              refine wpAnyZ_last (by kernel_rfl) rfl (fun K hK => ?_)
              go_simp
              refine hK.out _ _ ?_
              clear hK K
              try simp only [Act.put, List.getElem_toArray, List.getElem_cons_succ, List.getElem_cons_zero, List.setIfInBounds_toArray, List.set_cons_zero, List.set_cons_succ]
              refine wpAnyZ_done (by kernel_rfl) ?_ _
              have kA : Kept (fun k => w.heap.size + 1 ≤ k) v2 (w3.setCell ⟨w.heap.size + 1, 7, none⟩ (.slice A3 (l.length + 1) c3)) := ((Kept.alloc (fun k => w.heap.size + 1 ≤ k) v2 _).trans (Kept.of_grown (F := fun k => w.heap.size + 1 ≤ k) HG3.out (fun k hk => by have := (OWN.out.lt k hk).1; omega)) (fun k hk => Or.inl hk)).trans (Kept.setCell (fun k => w.heap.size + 1 ≤ k) w3 ⟨w.heap.size + 1, 7, none⟩ _ (Nat.le_refl _)) fun k hk => Or.inl hk
              have kB : Kept (fun k => k = q ∨ w.heap.size + 1 ≤ k) wr _ := ((Kept.of_below HB1.out (fun k => k = q ∨ w.heap.size + 1 ≤ k)).trans KP2.out (fun k hk => Or.inl (Or.inl hk))).trans kA (fun k hk => Or.inl (Or.inr hk))
              have hm7 := block_setCell (i := 7) RB3.out (.slice A3 (l.length + 1) c3)
              simp only [List.setIfInBounds_toArray, List.set_cons_zero, List.set_cons_succ] at hm7
              have hl9 : LQ _ q B := LQ2.out.kept kA (fun k hk => by omega) hBq
              have hz9 := (kB.block w.heap.size (by have := SZ.out; omega) (by omega)).trans ZZ.out
              have hk9 : Kept (fun k => k = q) w _ := KP.out.trans kB fun k hk => by omega
              have ho9 := own_kept HO3.out (w' := w3.setCell ⟨w.heap.size + 1, 7, none⟩ (.slice A3 (l.length + 1) c3)) fun g hg => Below.heap_setCell _ _ _ _ (by have := (HO3.out.lt g hg).1; show g ≠ w.heap.size + 1; omega)
              have hs9 := kB.size
              generalize w3.setCell ⟨w.heap.size + 1, 7, none⟩ (.slice A3 (l.length + 1) c3) = w9 at *
              have HM7 := Lib.hid hm7; have HL9 := Lib.hid hl9; have HZ9 := Lib.hid hz9; have HK9 := Lib.hid hk9; have HO9 := Lib.hid ho9
              clear kA kB hm7 hl9 hz9 hk9 ho9 k7 f7 hHeld
              go_wp2
              go_roundw
              case rel => exact ⟨3 + 1, 3 + 1, l ++ [(nm 3, ⟨s, d, ca, cb⟩)], A3, c3, by omega, rfl, rfl, CT.out.snoc (nm_facts 3 (by omega)).1 (nm_facts 3 (by omega)).2 HOK.out, by rw [List.length_append]; exact HM7.out, by rw [List.length_append]; exact HO9.out, HL9.out, HK9.out, by have := SZ.out; omega, HZ9.out⟩
              case measure => simp [intOf]
            · go_wp2
              go_roundw
              case rel => exact ⟨4, 4, l, A, c, by omega, rfl, rfl, CT.out.next (nm_facts 3 (by omega)).1, RBl.out, OW.out, LQ_.out, KP.out, SZ.out, ZZ.out⟩
              case measure => simp [intOf]
end Go.Proofs.Ythfanonjokpflaa
