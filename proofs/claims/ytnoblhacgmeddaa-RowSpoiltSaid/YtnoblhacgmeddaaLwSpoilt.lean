/-
  RowSpoilt.
-/
import Derived.Test.YtnoblhacgmeddaaSp
import Derived.Test.YtnoblhacgmeddaaRoW
import Derived.Test.YtnoblhacgmeddaaSab
import Derived.Test.YtnoblhacgmeddaaPlc
import Derived.Deep.DeepCutAuto
import Derived.Deep.CutBlock
set_option linter.unusedVariables false
set_option linter.unusedSimpArgs false
namespace Go.Proofs.Ytnoblhacgmeddaa
open Go Go.RowKit Go.Joins

theorem sz0 : (⟨#[]⟩ : ByteArray).size ≤ maxLen := by unfold maxLen; decide
theorem sz1 : (⟨#[120]⟩ : ByteArray).size ≤ maxLen := by unfold maxLen; decide
/-- A row at block r that is none. -/
def Bad (w wx : World) (r : Nat) : Prop := ∃ (R : Ro) (A : Option Addr) (c B : Nat), RJ wx r R.key R.live.s R.live.d R.live.a R.live.e R.gone R.shade A R.cols.length c ∧ RoIn wx B R A c ∧ B ≤ wx.heap.size ∧ R.ok = false ∧ Few R.cols ∧ R.live.s.size ≤ maxLen ∧ R.cols.length ≤ 1000 ∧ Below w.heap.size w wx
theorem spoilt_long (A : Option Addr) (n c : Nat) (v1 v2 : Int) (w : World) (hn : 30 < n) :
    Calls Try.prog 7 #[.slice A n c, .int .i64 v1, .int .i64 v2] w fun e w' => e = .returned (.bool true) ∧ Below w.heap.size w w' := by
  have d0 : decide ((30 : Int) < (n : Nat)) = true := by simp; omega
  have d1 : decide (30 < n) = true := decide_eq_true hn
  go_enter Try.func7, Try.ntmps7
  go_wp2_with fail
  refine (awake_any _).mono ?_
  rintro x w1 ⟨rfl, b1⟩
  have B1 := Lib.hid b1
  clear b1
  go_wp2
  go_ret
  exact ⟨rfl, B1.out⟩

set_option maxRecDepth 8000 in
set_option maxHeartbeats 16000000 in
theorem spoilt_short (A : Option Addr) (n c : Nat) (l0 : List Int) (v1 v2 : Int) (w : World) (hr : RdZ w w.heap.size A n l0) (hnc : n ≤ c) (hc : c ≤ maxLen) (hx : ∀ x ∈ l0, (Lit.int .i64 x).wf = true) (h1 : (Lit.int .i64 v1).wf = true) (h2 : (Lit.int .i64 v2).wf = true) (hn : ¬ 30 < n) :
    Calls Try.prog 7 #[.slice A n c, .int .i64 v1, .int .i64 v2] w fun e w' => e = .returned (.bool true) ∧ Below w.heap.size w w' := by
  have d0 : decide ((30 : Int) < (n : Nat)) = false := by simp; omega
  have d1 : decide (30 < n) = false := decide_eq_false hn
  obtain ⟨p, hp, p0, p1⟩ : ∃ r : Int, v1 % 8 = r ∧ 0 ≤ r ∧ r < 8 := ⟨_, rfl, Int.emod_nonneg _ (by decide), Int.emod_lt_of_pos _ (by decide)⟩
  obtain ⟨s, hs, s0, s1⟩ : ∃ r : Int, v2 % 100 = r ∧ 0 ≤ r ∧ r < 100 := ⟨_, rfl, Int.emod_nonneg _ (by decide), Int.emod_lt_of_pos _ (by decide)⟩
  obtain ⟨k, hk⟩ : ∃ k, 1 + s = k := ⟨_, rfl⟩
  have wk : IntKind.i64.wrap (1 + s) = k := by rw [IntKind.wrap_i64]; omega
  have k0 : 1 ≤ k := by omega
  have k1 : k ≤ 100 := by omega
  have HP := Lib.hid hp; have HSv := Lib.hid hs; have WK := Lib.hid wk; have V1 := Lib.hid h1; have V2 := Lib.hid h2
  have hL : LAt (w.alloc (.cells #[.slice A n c] 44)) w.heap.size A n c := heap_alloc_new w _
  have hlq : LQ (w.alloc (.cells #[.slice A n c] 44)) w.heap.size w.heap.size := ⟨A, n, c, l0, hL, hr.below ((Below.refl w.heap.size w).alloc (Nat.le_refl _) _), hnc, hc, fun x h => bounds_i64 (hx x h)⟩
  have hb0 := (Below.refl w.heap.size w).alloc (Nat.le_refl _) (.cells #[.slice A n c] 44)
  have LQ0 := Lib.hid hlq; have B0 := Lib.hid hb0
  clear hp hs hk wk h1 h2 hL hlq hr hx hb0 hnc hc hn
  go_enter Try.func7, Try.ntmps7
  go_wp2_with fail
  refine (row_gen w.heap.size w.heap.size ⟨#[107]⟩ _ LQ0.out (Nat.le_refl _)).mono ?_
  rintro x w1 ⟨a, e, g, l, A2, c2, rfl, hnum, hcols, hown, hlq1, hkp⟩
  have NO := Lib.hid (⟨hnum, hcols⟩ : NumOk a e g l)
  have hb1 : Below w.heap.size w w1 := B0.out.trans (hkp.below (fun k hk => by omega) (by simp))
  have hrd : RoIn w1 w1.heap.size (rowN a e g l) A2 c2 := (own_roIn (R := rowN a e g l) hown).2
  have hz := heap_alloc_new w1 (.cells #[.string ⟨#[107]⟩, .string ⟨#[]⟩, .bool false, .int .i64 a, .int .i64 e, .int .i64 g, .int .i64 0, .slice A2 l.length c2] 26)
  have hb2 : Below w.heap.size w (w1.alloc (.cells #[.string ⟨#[107]⟩, .string ⟨#[]⟩, .bool false, .int .i64 a, .int .i64 e, .int .i64 g, .int .i64 0, .slice A2 l.length c2] 26)) := hb1.alloc hb1.size _
  have hrd2 := hrd.below ((Below.refl w1.heap.size w1).alloc (Nat.le_refl _) (.cells #[.string ⟨#[107]⟩, .string ⟨#[]⟩, .bool false, .int .i64 a, .int .i64 e, .int .i64 g, .int .i64 0, .slice A2 l.length c2] 26))
  obtain ⟨W2, hW2⟩ : ∃ W2, W2 = w1.alloc (.cells #[.string ⟨#[107]⟩, .string ⟨#[]⟩, .bool false, .int .i64 a, .int .i64 e, .int .i64 g, .int .i64 0, .slice A2 l.length c2] 26) := ⟨_, rfl⟩
  have hs2 : W2.heap.size = w1.heap.size + 1 := by rw [hW2]; simp
  rw [← hW2] at hz hb2 hrd2
  have hz : RJ W2 w1.heap.size ⟨#[107]⟩ ⟨#[]⟩ false a e g 0 A2 l.length c2 := hz
  obtain ⟨_, _, _, _, _, _, _, _⟩ := hz.cells
  have RD2 := Lib.hid hrd2; have HZ := Lib.hid hz; have B2 := Lib.hid hb2; have HS2 := Lib.hid hs2
  have hll : l.length ≤ 4 := hcols.len
  have HSB := Lib.hid hb1.size
  clear hnum hcols hown hlq1 hkp hb1 hrd hz hb2 hrd2 hs2
  go_wp2_with fail
  rw [← hW2]
  clear hW2
  refine (check_ro (rowN a e g l) A2 c2 w1.heap.size W2 RD2.out (by have := HS2.out; omega) (by show l.length ≤ 1000; omega) NO.out.few (by show (0 : Nat) ≤ maxLen; omega)).mono ?_
  rintro x w3 ⟨rfl, b3⟩
  rw [NO.out.ok]
  have hz3 : RJ w3 w1.heap.size ⟨#[107]⟩ ⟨#[]⟩ false a e g 0 A2 l.length c2 := (b3.block _ (by have := HS2.out; omega)).trans HZ.out
  have RD3 := Lib.hid (RD2.out.below (b3.mono (by have := HS2.out; omega))); have Z3 := Lib.hid hz3; have B3 := Lib.hid (B2.out.trans (b3.mono B2.out.size))
  have HS3 := Lib.hid (show w1.heap.size + 1 ≤ w3.heap.size by have := b3.size; have := HS2.out; omega)
  clear b3 hz3
  go_wp2_with fail
  refine (place_any v2 100 _ (by decide) (by decide) (bounds_i64 V2.out)).mono ?_
  rintro x w4 ⟨rfl, rfl⟩
  rw [HSv.out]
  have wk := WK.out
  go_wp2_with fail
  refine (place_any v1 8 _ (by decide) (by decide) (bounds_i64 V1.out)).mono ?_
  rintro x w4 ⟨rfl, rfl⟩
  rw [HP.out]
  clear wk
  go_upto_block 0 with fail
  go_cut [] from 27 to 79 (fun wx => Bad w wx w1.heap.size)
  case first =>
    have hcase : p = 0 ∨ p = 1 ∨ p = 2 ∨ p = 3 ∨ p = 4 ∨ p = 5 ∨ p = 6 ∨ p = 7 := by omega
    clear p0 p1
    rcases hcase with rfl | rfl | rfl | rfl | rfl | rfl | rfl | rfl
    · have q7 := cell_at (i := 7) Z3.out rfl
      have RDK := Lib.hid (show RdK w3 w1.heap.size A2 l.length l from RD3.out.rd)
      go_wp2_with (at_builtin; refine list_ex rfl (.const (.slice none 0 0)) (.tmp 35) _ _ rfl (.slice none 0 0) (.slice A2 l.length c2) rfl rfl (run_appK w3.heap.size (own_nilK _ _) RDK.out ?s1 ?s2) ?_)
      case s1 => omega
      case s2 => exact Nat.le_refl _
      intro v4 w4 ho4 hg4 _
      obtain ⟨A4, m4, c4, rfl, hc4⟩ := (⟨own_nilK _ _, Below.refl _ _⟩ : Cur w3 w3 (.slice none 0 0) []).appN ho4 hg4
      rw [List.nil_append] at hc4
      have hc5 := hc4.on ((Below.refl w4.heap.size w4).alloc (Nat.le_refl _) (.cells #[.string ⟨#[97]⟩, .string ⟨#[]⟩, .bool false, .int .i64 1, .int .i64 0, .string ⟨#[97]⟩, .string ⟨#[]⟩, .bool false, .int .i64 1, .int .i64 0] 51))
      have hrd5 := RdK.two w4 (⟨#[97]⟩, ⟨⟨#[]⟩, false, 1, 0⟩) (⟨#[97]⟩, ⟨⟨#[]⟩, false, 1, 0⟩)
      have C5 := Lib.hid hc5; have RD5 := Lib.hid hrd5
      have CC4 := Lib.hid hc4
      clear hc4 hc5 hrd5 q7
      go_wp2_with (at_builtin; refine list_ex rfl (.tmp 36) (.tmp 41) _ _ rfl (.slice A4 m4 c4) (.slice (some ⟨w4.heap.size, 0, none⟩) 2 2) rfl rfl (run_appK w3.heap.size C5.out.own RD5.out ?s3 ?s4) ?_)
      case s3 => omega
      case s4 => have := CC4.out.below.size; omega
      intro v6 w6 ho6 hg6 _
      obtain ⟨A6, m6, c6, rfl, hc6⟩ := C5.out.appN ho6 hg6
      have z6 : RJ w6 w1.heap.size ⟨#[107]⟩ ⟨#[]⟩ false a e g 0 A2 l.length c2 := (hc6.below.block _ (by have := HS3.out; omega)).trans Z3.out
      have q7 := cell_at (i := 7) z6 rfl
      have f7 := RJ.thawed z6 7
      have Z6 := Lib.hid z6; have C6 := Lib.hid hc6
      clear z6 hc6
      go_wp2_with fail
      go_meet
      have ho9 := own_kept C6.out.own (w' := w6.setCell ⟨w1.heap.size, 7, none⟩ (.slice A6 m6 c6)) fun g hg => Below.heap_setCell _ _ _ _ (own_ne C6.out.own Z6.out (by decide) g hg)
      have hr9 := RJ.set7 Z6.out A6 m6 c6
      have hb9 : Below w.heap.size w (w6.setCell ⟨w1.heap.size, 7, none⟩ (.slice A6 m6 c6)) := (B3.out.trans (C6.out.below.mono B3.out.size)).setCell (p := ⟨w1.heap.size, 7, none⟩) HSB.out _
      obtain ⟨hm9, hi9⟩ := own_roIn (R := ⟨⟨#[107]⟩, ⟨⟨#[]⟩, false, a, e⟩, g, 0, (l ++ [(⟨#[97]⟩, ⟨⟨#[]⟩, false, 1, 0⟩), (⟨#[97]⟩, ⟨⟨#[]⟩, false, 1, 0⟩)])⟩) ho9
      subst hm9
      exact ⟨⟨⟨#[107]⟩, ⟨⟨#[]⟩, false, a, e⟩, g, 0, (l ++ [(⟨#[97]⟩, ⟨⟨#[]⟩, false, 1, 0⟩), (⟨#[97]⟩, ⟨⟨#[]⟩, false, 1, 0⟩)])⟩, A6, c6, _, hr9, hi9, Nat.le_refl _, ok_cols (cols_twice _ _ _ rfl), (fun z hz => (List.mem_append.1 hz).elim (NO.out.few z) (fun h => by simp at h; rcases h with rfl | rfl <;> exact ⟨by decide, by unfold maxLen; decide⟩)), (by first | exact sz0 | exact sz1), (by simp; omega), hb9⟩
    · have q7 := fun o => cell_at (i := 7) (at_new Z3.out o) rfl
      have hc4 : Cur w3 (w3.alloc (.cells #[.string ⟨#[]⟩, .string ⟨#[]⟩, .bool false, .int .i64 1, .int .i64 0] 51)) (.slice (some ⟨w3.heap.size, 0, none⟩) 1 1) [(⟨#[]⟩, ⟨⟨#[]⟩, false, 1, 0⟩)] := ⟨own_one w3 (⟨#[]⟩, ⟨⟨#[]⟩, false, 1, 0⟩) _ (Nat.le_refl _), (Below.refl w3.heap.size w3).alloc (Nat.le_refl _) _⟩
      have RD5 := Lib.hid ((show RdK w3 w1.heap.size A2 l.length l from RD3.out.rd).below ((Below.refl w1.heap.size w3).alloc (by have := HS3.out; omega) (.cells #[.string ⟨#[]⟩, .string ⟨#[]⟩, .bool false, .int .i64 1, .int .i64 0] 51)))
      have C4 := Lib.hid hc4
      clear hc4
      go_wp2_with (at_builtin; refine list_ex rfl (.tmp 48) (.tmp 50) _ _ rfl (.slice (some ⟨w3.heap.size, 0, none⟩) 1 1) (.slice A2 l.length c2) rfl rfl (run_appK w3.heap.size C4.out.own RD5.out ?s3 ?s4) ?_)
      case s3 => simp only [List.length_singleton]; omega
      case s4 => exact C4.out.below.size
      intro v6 w6 ho6 hg6 _
      obtain ⟨A6, m6, c6, rfl, hc6⟩ := C4.out.appN ho6 hg6
      clear q7
      have z6 : RJ w6 w1.heap.size ⟨#[107]⟩ ⟨#[]⟩ false a e g 0 A2 l.length c2 := (hc6.below.block _ (by have := HS3.out; omega)).trans Z3.out
      have q7 := cell_at (i := 7) z6 rfl
      have f7 := RJ.thawed z6 7
      have Z6 := Lib.hid z6; have C6 := Lib.hid hc6
      clear z6 hc6
      go_wp2_with fail
      go_meet
      have ho9 := own_kept C6.out.own (w' := w6.setCell ⟨w1.heap.size, 7, none⟩ (.slice A6 m6 c6)) fun g hg => Below.heap_setCell _ _ _ _ (own_ne C6.out.own Z6.out (by decide) g hg)
      have hr9 := RJ.set7 Z6.out A6 m6 c6
      have hb9 : Below w.heap.size w (w6.setCell ⟨w1.heap.size, 7, none⟩ (.slice A6 m6 c6)) := (B3.out.trans (C6.out.below.mono B3.out.size)).setCell (p := ⟨w1.heap.size, 7, none⟩) HSB.out _
      obtain ⟨hm9, hi9⟩ := own_roIn (R := ⟨⟨#[107]⟩, ⟨⟨#[]⟩, false, a, e⟩, g, 0, ((⟨#[]⟩, ⟨⟨#[]⟩, false, 1, 0⟩) :: l)⟩) ho9
      subst hm9
      exact ⟨⟨⟨#[107]⟩, ⟨⟨#[]⟩, false, a, e⟩, g, 0, ((⟨#[]⟩, ⟨⟨#[]⟩, false, 1, 0⟩) :: l)⟩, A6, c6, _, hr9, hi9, Nat.le_refl _, ok_cols (cols_first _ _ (by decide)), (fun z hz => (List.mem_cons.1 hz).elim (fun h => by subst h; exact ⟨by decide, by unfold maxLen; decide⟩) (NO.out.few z)), (by first | exact sz0 | exact sz1), (by simp; omega), hb9⟩
    · have q7 := cell_at (i := 7) Z3.out rfl
      have RDK := Lib.hid (show RdK w3 w1.heap.size A2 l.length l from RD3.out.rd)
      go_wp2_with (at_builtin; refine list_ex rfl (.const (.slice none 0 0)) (.tmp 56) _ _ rfl (.slice none 0 0) (.slice A2 l.length c2) rfl rfl (run_appK w3.heap.size (own_nilK _ _) RDK.out ?s1 ?s2) ?_)
      case s1 => omega
      case s2 => exact Nat.le_refl _
      intro v4 w4 ho4 hg4 _
      obtain ⟨A4, m4, c4, rfl, hc4⟩ := (⟨own_nilK _ _, Below.refl _ _⟩ : Cur w3 w3 (.slice none 0 0) []).appN ho4 hg4
      rw [List.nil_append] at hc4
      have hc5 := hc4.on ((Below.refl w4.heap.size w4).alloc (Nat.le_refl _) (.cells #[.string ⟨#[122]⟩, .string ⟨#[]⟩, .bool false, .int .i64 0, .int .i64 0] 51))
      have hrd5 := RdK.one w4 (⟨#[122]⟩, ⟨⟨#[]⟩, false, 0, 0⟩) w4.heap.size rfl
      have C5 := Lib.hid hc5; have RD5 := Lib.hid hrd5
      have CC4 := Lib.hid hc4
      clear hc4 hc5 hrd5 q7
      go_wp2_with (at_builtin; refine list_ex rfl (.tmp 57) (.tmp 59) _ _ rfl (.slice A4 m4 c4) (.slice (some ⟨w4.heap.size, 0, none⟩) 1 1) rfl rfl (run_appK w3.heap.size C5.out.own RD5.out ?s3 ?s4) ?_)
      case s3 => omega
      case s4 => have := CC4.out.below.size; omega
      intro v6 w6 ho6 hg6 _
      obtain ⟨A6, m6, c6, rfl, hc6⟩ := C5.out.appN ho6 hg6
      have z6 : RJ w6 w1.heap.size ⟨#[107]⟩ ⟨#[]⟩ false a e g 0 A2 l.length c2 := (hc6.below.block _ (by have := HS3.out; omega)).trans Z3.out
      have q7 := cell_at (i := 7) z6 rfl
      have f7 := RJ.thawed z6 7
      have Z6 := Lib.hid z6; have C6 := Lib.hid hc6
      clear z6 hc6
      go_wp2_with fail
      go_meet
      have ho9 := own_kept C6.out.own (w' := w6.setCell ⟨w1.heap.size, 7, none⟩ (.slice A6 m6 c6)) fun g hg => Below.heap_setCell _ _ _ _ (own_ne C6.out.own Z6.out (by decide) g hg)
      have hr9 := RJ.set7 Z6.out A6 m6 c6
      have hb9 : Below w.heap.size w (w6.setCell ⟨w1.heap.size, 7, none⟩ (.slice A6 m6 c6)) := (B3.out.trans (C6.out.below.mono B3.out.size)).setCell (p := ⟨w1.heap.size, 7, none⟩) HSB.out _
      obtain ⟨hm9, hi9⟩ := own_roIn (R := ⟨⟨#[107]⟩, ⟨⟨#[]⟩, false, a, e⟩, g, 0, (l ++ [(⟨#[122]⟩, ⟨⟨#[]⟩, false, 0, 0⟩)])⟩) ho9
      subst hm9
      exact ⟨⟨⟨#[107]⟩, ⟨⟨#[]⟩, false, a, e⟩, g, 0, (l ++ [(⟨#[122]⟩, ⟨⟨#[]⟩, false, 0, 0⟩)])⟩, A6, c6, _, hr9, hi9, Nat.le_refl _, ok_cols (cols_last _ _ (by unfold colB; simp)), (fun z hz => (List.mem_append.1 hz).elim (NO.out.few z) (fun h => by simp at h; subst h; exact ⟨by decide, by unfold maxLen; decide⟩)), (by first | exact sz0 | exact sz1), (by simp; omega), hb9⟩
    · have m0 := block_setCell (i := 1) Z3.out (.string ⟨#[120]⟩)
      have m1 := block_setCell (i := 2) m0 (.bool false)
      have m2 := block_setCell (i := 3) m1 (.int .i64 5)
      have m3 := block_setCell (i := 4) m2 (.int .i64 0)
      simp only [List.setIfInBounds_toArray, List.set_cons_zero, List.set_cons_succ] at m0 m1 m2 m3
      have q0 := cell_at (i := 1) Z3.out rfl
      have q1 := cell_at (i := 2) m0 rfl
      have q2 := cell_at (i := 3) m1 rfl
      have q3 := cell_at (i := 4) m2 rfl
      have f0 := thawed_at (i := 1) Z3.out
      have f1 := thawed_at (i := 2) m0
      have f2 := thawed_at (i := 3) m1
      have f3 := thawed_at (i := 4) m2
      have M3 := Lib.hid m3
      have hb9 : Below w1.heap.size w3 ((((w3.setCell ⟨w1.heap.size, 1, none⟩ (.string ⟨#[120]⟩)).setCell ⟨w1.heap.size, 2, none⟩ (.bool false)).setCell ⟨w1.heap.size, 3, none⟩ (.int .i64 5)).setCell ⟨w1.heap.size, 4, none⟩ (.int .i64 0)) := ((((Below.refl w1.heap.size w3).setCell (p := ⟨w1.heap.size, 1, none⟩) (Nat.le_refl _) _).setCell (p := ⟨w1.heap.size, 2, none⟩) (Nat.le_refl _) _).setCell (p := ⟨w1.heap.size, 3, none⟩) (Nat.le_refl _) _).setCell (p := ⟨w1.heap.size, 4, none⟩) (Nat.le_refl _) _
      have HB9 := Lib.hid hb9
      clear m0 m1 m2 m3 hb9
      go_wp2_with fail
      go_meet
      have hi9 := RD3.out.below HB9.out
      exact ⟨⟨⟨#[107]⟩, ⟨⟨#[120]⟩, false, 5, 0⟩, g, 0, l⟩, A2, c2, w1.heap.size, M3.out, ⟨hi9.rd, hi9.cap⟩, by have := HB9.out.size; have := HS3.out; omega, ok_live (by unfold liveB; simp [Lib.toList_data]), NO.out.few, (by first | exact sz0 | exact sz1), (show l.length ≤ 1000 by omega), B3.out.trans (HB9.out.mono HSB.out)⟩
    · have m0 := block_setCell (i := 1) Z3.out (.string ⟨#[]⟩)
      have m1 := block_setCell (i := 2) m0 (.bool true)
      have m2 := block_setCell (i := 3) m1 (.int .i64 5)
      have m3 := block_setCell (i := 4) m2 (.int .i64 0)
      simp only [List.setIfInBounds_toArray, List.set_cons_zero, List.set_cons_succ] at m0 m1 m2 m3
      have q0 := cell_at (i := 1) Z3.out rfl
      have q1 := cell_at (i := 2) m0 rfl
      have q2 := cell_at (i := 3) m1 rfl
      have q3 := cell_at (i := 4) m2 rfl
      have f0 := thawed_at (i := 1) Z3.out
      have f1 := thawed_at (i := 2) m0
      have f2 := thawed_at (i := 3) m1
      have f3 := thawed_at (i := 4) m2
      have M3 := Lib.hid m3
      have hb9 : Below w1.heap.size w3 ((((w3.setCell ⟨w1.heap.size, 1, none⟩ (.string ⟨#[]⟩)).setCell ⟨w1.heap.size, 2, none⟩ (.bool true)).setCell ⟨w1.heap.size, 3, none⟩ (.int .i64 5)).setCell ⟨w1.heap.size, 4, none⟩ (.int .i64 0)) := ((((Below.refl w1.heap.size w3).setCell (p := ⟨w1.heap.size, 1, none⟩) (Nat.le_refl _) _).setCell (p := ⟨w1.heap.size, 2, none⟩) (Nat.le_refl _) _).setCell (p := ⟨w1.heap.size, 3, none⟩) (Nat.le_refl _) _).setCell (p := ⟨w1.heap.size, 4, none⟩) (Nat.le_refl _) _
      have HB9 := Lib.hid hb9
      clear m0 m1 m2 m3 hb9
      go_wp2_with fail
      go_meet
      have hi9 := RD3.out.below HB9.out
      exact ⟨⟨⟨#[107]⟩, ⟨⟨#[]⟩, true, 5, 0⟩, g, 0, l⟩, A2, c2, w1.heap.size, M3.out, ⟨hi9.rd, hi9.cap⟩, by have := HB9.out.size; have := HS3.out; omega, ok_live (by unfold liveB; simp [Lib.toList_data]), NO.out.few, (by first | exact sz0 | exact sz1), (show l.length ≤ 1000 by omega), B3.out.trans (HB9.out.mono HSB.out)⟩
    · have wn : IntKind.i64.wrap (-k) = -k := by rw [IntKind.wrap_i64]; omega
      have wn2 : wrap64 (-k) = -k := by unfold wrap64; omega
      have m0 := block_setCell (i := 5) Z3.out (.int .i64 (-k))
      simp only [List.setIfInBounds_toArray, List.set_cons_zero, List.set_cons_succ] at m0
      have q0 := cell_at (i := 5) Z3.out rfl
      have f0 := thawed_at (i := 5) Z3.out
      have M0 := Lib.hid m0
      have hb9 : Below w1.heap.size w3 (w3.setCell ⟨w1.heap.size, 5, none⟩ (.int .i64 (-k))) := (Below.refl w1.heap.size w3).setCell (p := ⟨w1.heap.size, 5, none⟩) (Nat.le_refl _) _
      have HB9 := Lib.hid hb9
      clear m0 hb9
      go_wp2_with fail
      go_meet
      have hi9 := RD3.out.below HB9.out
      exact ⟨⟨⟨#[107]⟩, ⟨⟨#[]⟩, false, a, e⟩, (-k), 0, l⟩, A2, c2, w1.heap.size, M0.out, ⟨hi9.rd, hi9.cap⟩, by have := HB9.out.size; have := HS3.out; omega, (ok_gone (by unfold stm; rw [decide_eq_false (show ¬ (0 ≤ -k) by omega)]; rfl)), NO.out.few, (by first | exact sz0 | exact sz1), (show l.length ≤ 1000 by omega), B3.out.trans (HB9.out.mono HSB.out)⟩
    · have wn : IntKind.i64.wrap (1099511627776 + k) = 1099511627776 + k := by rw [IntKind.wrap_i64]; omega
      have wn2 : wrap64 (1099511627776 + k) = 1099511627776 + k := by unfold wrap64; omega
      have m0 := block_setCell (i := 6) Z3.out (.int .i64 (1099511627776 + k))
      simp only [List.setIfInBounds_toArray, List.set_cons_zero, List.set_cons_succ] at m0
      have q0 := cell_at (i := 6) Z3.out rfl
      have f0 := thawed_at (i := 6) Z3.out
      have M0 := Lib.hid m0
      have hb9 : Below w1.heap.size w3 (w3.setCell ⟨w1.heap.size, 6, none⟩ (.int .i64 (1099511627776 + k))) := (Below.refl w1.heap.size w3).setCell (p := ⟨w1.heap.size, 6, none⟩) (Nat.le_refl _) _
      have HB9 := Lib.hid hb9
      clear m0 hb9
      go_wp2_with fail
      go_meet
      have hi9 := RD3.out.below HB9.out
      exact ⟨⟨⟨#[107]⟩, ⟨⟨#[]⟩, false, a, e⟩, g, (1099511627776 + k), l⟩, A2, c2, w1.heap.size, M0.out, ⟨hi9.rd, hi9.cap⟩, by have := HB9.out.size; have := HS3.out; omega, (ok_shade (by unfold stm; rw [decide_eq_false (show ¬ (1099511627776 + k ≤ 1099511627776) by omega), Bool.and_false])), NO.out.few, (by first | exact sz0 | exact sz1), (show l.length ≤ 1000 by omega), B3.out.trans (HB9.out.mono HSB.out)⟩
    · obtain ⟨x, hx⟩ : ∃ x, 400 + k = x := ⟨_, rfl⟩
      have wx : IntKind.i64.wrap (400 + k) = x := by rw [IntKind.wrap_i64]; omega
      have wx2 : wrap64 (400 + k) = x := by unfold wrap64; omega
      obtain ⟨N, hN⟩ : ∃ N : Nat, (N : Int) = x := ⟨x.toNat, by omega⟩
      obtain ⟨big, hbig⟩ : ∃ big : ByteArray, (⟨(List.replicate N 0).toArray⟩ : ByteArray) = big := ⟨_, rfl⟩
      have hbs : big.size = N := by rw [← hbig, Lib.size_eq]; simp
      obtain ⟨CS, hCS⟩ : ∃ CS, madeCells (Value.int .u8 0).cells (N * 1) = CS := ⟨_, rfl⟩
      have hmk : ∀ wx : World, (Instr.makeSlice 53 (.int .i64 x) (.int .i64 x)).run Try.prog wx = .ok (.slice (some ⟨wx.heap.size, 0, none⟩) N N) (wx.alloc (.cells CS 5)) := fun wx => by
        have h := run_makeB wx N (by omega)
        rw [hN, hCS] at h
        exact h
      have hcv : ∀ wx : World, (convert 53 9 (.slice (some ⟨wx.heap.size, 0, none⟩) N N)).run Try.prog (wx.alloc (.cells CS 5)) = .ok (.string big) (wx.alloc (.cells CS 5)) := fun wx => by
        rw [← hbig, ← hCS]
        exact cv_string (made_rd wx N) N
      have HBS := Lib.hid hbs; have HNN := Lib.hid hN; have HX := Lib.hid hx
      clear hbs hN hx hbig hCS
      have z4 : RJ (w3.alloc (.cells CS 5)) w1.heap.size ⟨#[107]⟩ ⟨#[]⟩ false a e g 0 A2 l.length c2 := at_new Z3.out _
      have q0 := cell_at (i := 0) z4 rfl
      have f0 := thawed_at (i := 0) z4
      have m0 := block_setCell (i := 0) z4 (.string big)
      simp only [List.setIfInBounds_toArray, List.set_cons_zero, List.set_cons_succ] at m0
      have M0 := Lib.hid m0
      have hb9 : Below w1.heap.size w3 ((w3.alloc (.cells CS 5)).setCell ⟨w1.heap.size, 0, none⟩ (.string big)) := ((Below.refl w1.heap.size w3).alloc (by have := HS3.out; omega) (.cells CS 5)).setCell (p := ⟨w1.heap.size, 0, none⟩) (Nat.le_refl _) _
      have HB9 := Lib.hid hb9
      clear m0 hb9 z4
      go_wp2_with fail
      go_meet
      have hi9 := RD3.out.below HB9.out
      exact ⟨⟨big, ⟨⟨#[]⟩, false, a, e⟩, g, 0, l⟩, A2, c2, w1.heap.size, M0.out, ⟨hi9.rd, hi9.cap⟩, by have := HB9.out.size; have := HS3.out; omega, ok_key (show 400 < big.size by have := HBS.out; have := HNN.out; have := HX.out; omega), NO.out.few, (by first | exact sz0 | exact sz1), (show l.length ≤ 1000 by omega), B3.out.trans (HB9.out.mono HSB.out)⟩
  case rest =>
    obtain ⟨R, A9, c9, B9, hrj, hin, hB9, hbad, hfew, hlive, hlen, hbel⟩ := hcut
    have h9 := RJ.cells hrj
    have IN9 := Lib.hid hin; have FEW9 := Lib.hid hfew; have BAD9 := Lib.hid hbad; have BEL9 := Lib.hid hbel
    obtain ⟨_, _, _, _, _, _, _, _⟩ := h9
    clear hin hfew hbad hbel hrj
    go_wp2_with fail
    refine (check_ro R A9 c9 B9 _ IN9.out hB9 hlen FEW9.out hlive).mono ?_
    rintro x w8 ⟨rfl, b8⟩
    rw [BAD9.out]
    have B8 := Lib.hid (BEL9.out.trans (b8.mono BEL9.out.size))
    clear b8
    go_wp2_with fail
    refine (awake_any _).mono ?_
    rintro x w9 ⟨rfl, b9⟩
    have B9' := Lib.hid (B8.out.trans (b9.mono B8.out.size))
    clear b9
    go_wp2
    go_ret
    exact ⟨rfl, B9'.out⟩
theorem spoilt_law (A : Option Addr) (n c : Nat) (l : List Int) (v1 v2 : Int) (w : World) (hr : RdZ w w.heap.size A n l) (hnc : n ≤ c) (hc : c ≤ maxLen) (hx : ∀ x ∈ l, (Lit.int .i64 x).wf = true) (h1 : (Lit.int .i64 v1).wf = true) (h2 : (Lit.int .i64 v2).wf = true) :
    Calls Try.prog 7 #[.slice A n c, .int .i64 v1, .int .i64 v2] w fun e w' => e = .returned (.bool true) ∧ Below w.heap.size w w' := by
  by_cases h : 30 < n
  · exact spoilt_long A n c v1 v2 w h
  · exact spoilt_short A n c l v1 v2 w hr hnc hc hx h1 h2 h
end Go.Proofs.Ytnoblhacgmeddaa
