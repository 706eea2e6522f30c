/-
  RowNumbers.
-/
import Derived.Test.YtnoblhacgmeddaaSp
import Derived.Test.YtnoblhacgmeddaaRoW
import Derived.Test.YtnoblhacgmeddaaRo3
import Derived.Test.YtnoblhacgmeddaaRoU
import Derived.Test.YtnoblhacgmeddaaRc3
import Derived.Test.YtnoblhacgmeddaaRgg
import Derived.Test.YtnoblhacgmeddaaPlc
import Derived.Deep.DeepCutAuto
import Derived.Deep.CutBlock
set_option linter.unusedVariables false
set_option linter.unusedSimpArgs false
namespace Go.Proofs.Ytnoblhacgmeddaa
open Go Go.RowKit Go.Joins

theorem join_ge (p q : Ce) : p.a ≤ (p.join q).a ∧ q.a ≤ (p.join q).a := by
  have h := join_le p q
  have low : ∀ x y : Ce, x.cmp y ≤ 0 → x.a ≤ y.a := fun x y hxy => by
    unfold Ce.cmp lexI icmp at hxy
    by_cases h1 : x.a < y.a
    · omega
    · by_cases h2 : y.a < x.a
      · rw [if_neg h1, if_pos h2, if_neg (by decide)] at hxy
        exact absurd hxy (by decide)
      · omega
  exact ⟨low _ _ h.1, low _ _ h.2⟩
theorem join_ok {R R' : Ro} (h : R.ok = true) (h' : R'.ok = true) (hl : R.cols.length + R'.cols.length ≤ 8) : (R.join R').ok = true := by
  have u := up_of_ok h
  have u' := up_of_ok h'
  have hlen := len_join R R'
  unfold Ro.ok at h h' ⊢
  simp only [Bool.and_eq_true, decide_eq_true_iff] at h h' ⊢
  obtain ⟨k1, k2, k3, k4, k5, k6⟩ := h
  obtain ⟨k1', k2', k3', k4', k5', k6'⟩ := h'
  have stm_max : ∀ {x y : Int}, stm x = true → stm y = true → stm (max x y) = true := fun {x y} hx hy => by
    rcases Int.le_total x y with h | h
    · rwa [Int.max_eq_right h]
    · rwa [Int.max_eq_left h]
  refine ⟨k1, ?_, stm_max k3 k3', stm_max k4 k4', by omega, ?_⟩
  · show liveB (R.live.join R'.live) = true
    rcases join_or R.live R'.live with e | e <;> rw [e] <;> assumption
  · refine colsB_of (mrg_rise u.rise) (mrg_all (p := fun x => colB x = true) (fun n c d hc hd => ?_) (fun x hx => ?_) fun x hx => ?_)
    · rcases join_or d c with e | e <;> rw [e] <;> assumption
    · obtain ⟨j, hj, rfl⟩ := List.mem_iff_getElem.1 hx
      exact colsB_each k6 hj
    · obtain ⟨j, hj, rfl⟩ := List.mem_iff_getElem.1 hx
      exact colsB_each k6' hj
theorem nm_at (t : Nat) (ht : t < 4) : (#[Value.string (nm 0), Value.string (nm 1), Value.string (nm 2), Value.string (nm 3)] : Array Value)[t]? = some (.string (nm t)) := by
  match t, ht with
  | 0, _ => rfl
  | 1, _ => rfl
  | 2, _ => rfl
  | 3, _ => rfl

/-- A cell's block. -/
def CB (w : World) (q : Nat) (s : ByteArray) (d : Bool) (a e : Int) : Prop := w.heap[q]? = some (.cells #[.string s, .bool d, .int .i64 a, .int .i64 e] 23 (0, 0))
theorem CB.set {w : World} {q : Nat} {s : ByteArray} {d : Bool} {a e : Int} (h : CB w q s d a e) (s' : ByteArray) (d' : Bool) (a' e' : Int) :
    CB ((((w.setCell ⟨q, 0, none⟩ (.string s')).setCell ⟨q, 1, none⟩ (.bool d')).setCell ⟨q, 2, none⟩ (.int .i64 a')).setCell ⟨q, 3, none⟩ (.int .i64 e')) q s' d' a' e' := by
  have m := block_setCell (i := 3) (block_setCell (i := 2) (block_setCell (i := 1) (block_setCell (i := 0) h (.string s')) (.bool d')) (.int .i64 a')) (.int .i64 e')
  simp only [List.setIfInBounds_toArray, List.set_cons_zero, List.set_cons_succ] at m
  exact m
theorem four_heap (w : World) (q : Nat) (v0 v1 v2 v3 : Value) (j : Nat) (hj : j ≠ q) :
    ((((w.setCell ⟨q, 0, none⟩ v0).setCell ⟨q, 1, none⟩ v1).setCell ⟨q, 2, none⟩ v2).setCell ⟨q, 3, none⟩ v3).heap[j]? = w.heap[j]? := by
  iterate 4 rw [Below.heap_setCell _ _ _ _ hj]
theorem four_size (w : World) (q : Nat) (v0 v1 v2 v3 : Value) : ((((w.setCell ⟨q, 0, none⟩ v0).setCell ⟨q, 1, none⟩ v1).setCell ⟨q, 2, none⟩ v2).setCell ⟨q, 3, none⟩ v3).heap.size = w.heap.size := by simp [World.setCell]
theorem four_below {B : Nat} {w0 w : World} (h : Below B w0 w) (q : Nat) (hq : B ≤ q) (v0 v1 v2 v3 : Value) :
    Below B w0 ((((w.setCell ⟨q, 0, none⟩ v0).setCell ⟨q, 1, none⟩ v1).setCell ⟨q, 2, none⟩ v2).setCell ⟨q, 3, none⟩ v3) :=
  (((h.setCell (p := ⟨q, 0, none⟩) hq v0).setCell (p := ⟨q, 1, none⟩) hq v1).setCell (p := ⟨q, 2, none⟩) hq v2).setCell (p := ⟨q, 3, none⟩) hq v3

theorem numbers_long (A : Option Addr) (n c : Nat) (v1 v2 : Int) (w : World) (hn : 60 < n) :
    Calls Try.prog 5 #[.slice A n c, .int .i64 v1, .int .i64 v2] w fun e w' => e = .returned (.bool true) ∧ Below w.heap.size w w' := by
  have d0 : decide ((60 : Int) < (n : Nat)) = true := by simp; omega
  have d1 : decide (60 < n) = true := decide_eq_true hn
  go_enter Try.func5, Try.ntmps5
  go_wp2_with fail
  refine (awake_any _).mono ?_
  rintro x w1 ⟨rfl, b1⟩
  have B1 := Lib.hid b1
  clear b1
  go_wp2
  go_ret
  exact ⟨rfl, B1.out⟩

set_option maxRecDepth 10000 in
set_option maxHeartbeats 16000000 in
theorem numbers_short (A : Option Addr) (n c : Nat) (l0 : List Int) (v1 v2 : Int) (w : World) (hr : RdZ w w.heap.size A n l0) (hnc : n ≤ c) (hc : c ≤ maxLen) (hx : ∀ x ∈ l0, (Lit.int .i64 x).wf = true) (h1 : (Lit.int .i64 v1).wf = true) (h2 : (Lit.int .i64 v2).wf = true) (hn : ¬ 60 < n) :
    Calls Try.prog 5 #[.slice A n c, .int .i64 v1, .int .i64 v2] w fun e w' => e = .returned (.bool true) ∧ Below w.heap.size w w' := by
  have d0 : decide ((60 : Int) < (n : Nat)) = false := by simp; omega
  have d1 : decide (60 < n) = false := decide_eq_false hn
  obtain ⟨t, ht, t0, t1⟩ : ∃ r : Int, v1 % 14 = r ∧ 0 ≤ r ∧ r < 14 := ⟨_, rfl, Int.emod_nonneg _ (by decide), Int.emod_lt_of_pos _ (by decide)⟩
  obtain ⟨g, hg, g0, g1⟩ : ∃ r : Int, v2 % 9 = r ∧ 0 ≤ r ∧ r < 9 := ⟨_, rfl, Int.emod_nonneg _ (by decide), Int.emod_lt_of_pos _ (by decide)⟩
  have HT := Lib.hid ht; have HG := Lib.hid hg; have V1 := Lib.hid h1; have V2 := Lib.hid h2
  have hL : LAt (w.alloc (.cells #[.slice A n c] 44)) w.heap.size A n c := heap_alloc_new w _
  have hlq : LQ (w.alloc (.cells #[.slice A n c] 44)) w.heap.size w.heap.size := ⟨A, n, c, l0, hL, hr.below ((Below.refl w.heap.size w).alloc (Nat.le_refl _) _), hnc, hc, fun x h => bounds_i64 (hx x h)⟩
  have hb0 := (Below.refl w.heap.size w).alloc (Nat.le_refl _) (.cells #[.slice A n c] 44)
  have LQ0 := Lib.hid hlq; have B0 := Lib.hid hb0
  clear ht hg h1 h2 hL hlq hr hx hb0 hnc hc hn
  go_enter Try.func5, Try.ntmps5
  go_wp2_with fail
  refine (row_gen w.heap.size w.heap.size ⟨#[107]⟩ _ LQ0.out (Nat.le_refl _)).mono ?_
  rintro x w1 ⟨a1, e1, g1', l1, A1, c1, rfl, hnum1, hcols1, hown1, hlq1, hkp1⟩
  have N1 := Lib.hid (⟨hnum1, hcols1⟩ : NumOk a1 e1 g1' l1)
  have B1 := Lib.hid (B0.out.trans (hkp1.below (fun k hk => by omega) (by simp)))
  have O1 := Lib.hid hown1; have LQ1 := Lib.hid hlq1
  simp only [World.size_alloc] at O1
  have HS1 := Lib.hid (show w.heap.size + 1 ≤ w1.heap.size by have := hkp1.size; simp at this; omega)
  clear hnum1 hcols1 hown1 hlq1 hkp1
  go_wp2_with fail
  refine (row_gen w.heap.size w.heap.size ⟨#[107]⟩ _ LQ1.out (Nat.le_refl _)).mono ?_
  rintro x w2 ⟨a2, e2, g2, l2, A2, c2, rfl, hnum2, hcols2, hown2, hlq2, hkp2⟩
  have N2 := Lib.hid (⟨hnum2, hcols2⟩ : NumOk a2 e2 g2 l2)
  have O12 := Lib.hid (own_kept O1.out fun k hk => hkp2.block k (own_block_lt O1.out k hk) (by have := (O1.out.lt k hk).1; omega))
  have B2 := Lib.hid (B1.out.trans (hkp2.below (fun k hk => by omega) (by have := HS1.out; omega)))
  have O2 := Lib.hid hown2; have LQ2 := Lib.hid hlq2
  have HS2 := Lib.hid (show w.heap.size + 1 ≤ w1.heap.size ∧ w1.heap.size ≤ w2.heap.size from ⟨HS1.out, hkp2.size⟩)
  clear hnum2 hcols2 hown2 hlq2 hkp2 O1 HS1
  go_wp2_with fail
  refine (row_gen w.heap.size w.heap.size ⟨#[107]⟩ _ LQ2.out (Nat.le_refl _)).mono ?_
  rintro x w3 ⟨a3, e3, g3, l3, A3, c3, rfl, hnum3, hcols3, hown3, hlq3, hkp3⟩
  have N3 := Lib.hid (⟨hnum3, hcols3⟩ : NumOk a3 e3 g3 l3)
  have O13 := own_kept O12.out fun k hk => hkp3.block k (own_block_lt O12.out k hk) (by have := (O12.out.lt k hk).1; omega)
  have O23 := own_kept O2.out fun k hk => hkp3.block k (own_block_lt O2.out k hk) (by have := (O2.out.lt k hk).1; have := HS2.out; omega)
  have B3 := Lib.hid (B2.out.trans (hkp3.below (fun k hk => by omega) (by have := HS2.out; omega)))
  have I1 := Lib.hid (own_roIn (R := rowN a1 e1 g1' l1) O13).2
  have I2 := Lib.hid (own_roIn (R := rowN a2 e2 g2 l2) O23).2
  have I3 := Lib.hid (own_roIn (R := rowN a3 e3 g3 l3) hown3).2
  clear hnum3 hcols3 hown3 hlq3 hkp3 O12 O13 O23 O2 LQ0 LQ1 LQ2 B0 B1 B2
  have bz := (((Below.refl w3.heap.size w3).alloc (Nat.le_refl _) (.cells #[.string ⟨#[107]⟩, .string ⟨#[]⟩, .bool false, .int .i64 a1, .int .i64 e1, .int .i64 g1', .int .i64 0, .slice A1 l1.length c1] 26)).alloc (by simp) (.cells #[.string ⟨#[107]⟩, .string ⟨#[]⟩, .bool false, .int .i64 a2, .int .i64 e2, .int .i64 g2, .int .i64 0, .slice A2 l2.length c2] 26)).alloc (by (simp <;> omega)) (.cells #[.string ⟨#[107]⟩, .string ⟨#[]⟩, .bool false, .int .i64 a3, .int .i64 e3, .int .i64 g3, .int .i64 0, .slice A3 l3.length c3] 26)
  have za := new_at (new_at (heap_alloc_new w3 (.cells #[.string ⟨#[107]⟩, .string ⟨#[]⟩, .bool false, .int .i64 a1, .int .i64 e1, .int .i64 g1', .int .i64 0, .slice A1 l1.length c1] 26)) (.cells #[.string ⟨#[107]⟩, .string ⟨#[]⟩, .bool false, .int .i64 a2, .int .i64 e2, .int .i64 g2, .int .i64 0, .slice A2 l2.length c2] 26)) (.cells #[.string ⟨#[107]⟩, .string ⟨#[]⟩, .bool false, .int .i64 a3, .int .i64 e3, .int .i64 g3, .int .i64 0, .slice A3 l3.length c3] 26)
  have zb := new_at (heap_alloc_new (w3.alloc (.cells #[.string ⟨#[107]⟩, .string ⟨#[]⟩, .bool false, .int .i64 a1, .int .i64 e1, .int .i64 g1', .int .i64 0, .slice A1 l1.length c1] 26)) (.cells #[.string ⟨#[107]⟩, .string ⟨#[]⟩, .bool false, .int .i64 a2, .int .i64 e2, .int .i64 g2, .int .i64 0, .slice A2 l2.length c2] 26)) (.cells #[.string ⟨#[107]⟩, .string ⟨#[]⟩, .bool false, .int .i64 a3, .int .i64 e3, .int .i64 g3, .int .i64 0, .slice A3 l3.length c3] 26)
  have zc := heap_alloc_new ((w3.alloc (.cells #[.string ⟨#[107]⟩, .string ⟨#[]⟩, .bool false, .int .i64 a1, .int .i64 e1, .int .i64 g1', .int .i64 0, .slice A1 l1.length c1] 26)).alloc (.cells #[.string ⟨#[107]⟩, .string ⟨#[]⟩, .bool false, .int .i64 a2, .int .i64 e2, .int .i64 g2, .int .i64 0, .slice A2 l2.length c2] 26)) (.cells #[.string ⟨#[107]⟩, .string ⟨#[]⟩, .bool false, .int .i64 a3, .int .i64 e3, .int .i64 g3, .int .i64 0, .slice A3 l3.length c3] 26)
  simp only [World.size_alloc] at zb zc
  obtain ⟨U, hU⟩ : ∃ U, U = ((w3.alloc (.cells #[.string ⟨#[107]⟩, .string ⟨#[]⟩, .bool false, .int .i64 a1, .int .i64 e1, .int .i64 g1', .int .i64 0, .slice A1 l1.length c1] 26)).alloc (.cells #[.string ⟨#[107]⟩, .string ⟨#[]⟩, .bool false, .int .i64 a2, .int .i64 e2, .int .i64 g2, .int .i64 0, .slice A2 l2.length c2] 26)).alloc (.cells #[.string ⟨#[107]⟩, .string ⟨#[]⟩, .bool false, .int .i64 a3, .int .i64 e3, .int .i64 g3, .int .i64 0, .slice A3 l3.length c3] 26) := ⟨_, rfl⟩
  have hUs : U.heap.size = w3.heap.size + 3 := by rw [hU]; simp
  rw [← hU] at bz za zb zc
  have ZA := Lib.hid (show RJ U w3.heap.size ⟨#[107]⟩ ⟨#[]⟩ false a1 e1 g1' 0 A1 l1.length c1 from za)
  have ZB := Lib.hid (show RJ U (w3.heap.size + 1) ⟨#[107]⟩ ⟨#[]⟩ false a2 e2 g2 0 A2 l2.length c2 from zb)
  have ZC := Lib.hid (show RJ U (w3.heap.size + 1 + 1) ⟨#[107]⟩ ⟨#[]⟩ false a3 e3 g3 0 A3 l3.length c3 from zc)
  have BU := Lib.hid bz; have HUS := Lib.hid hUs
  have hl1 : l1.length ≤ 4 := N1.out.cols.len
  have hl2 : l2.length ≤ 4 := N2.out.cols.len
  have hl3 : l3.length ≤ 4 := N3.out.cols.len
  obtain ⟨X, hX⟩ : ∃ X, (rowN a1 e1 g1' l1).join (rowN a2 e2 g2 l2) = X := ⟨_, rfl⟩
  obtain ⟨Y1, hY1⟩ : ∃ X, (rowN a3 e3 g3 l3).join (rowN a2 e2 g2 l2) = X := ⟨_, rfl⟩
  obtain ⟨Y2, hY2⟩ : ∃ Y, (rowN a3 e3 g3 l3).join X = Y := ⟨_, rfl⟩
  have hxl : X.cols.length ≤ 8 := by have := len_join (rowN a1 e1 g1' l1) (rowN a2 e2 g2 l2); rw [hX] at this; exact Nat.le_trans this (show l1.length + l2.length ≤ 8 by omega)
  have hyl1 : Y1.cols.length ≤ 8 := by have := len_join (rowN a3 e3 g3 l3) (rowN a2 e2 g2 l2); rw [hY1] at this; exact Nat.le_trans this (show l3.length + l2.length ≤ 8 by omega)
  have hyl2 : Y2.cols.length ≤ 12 := by have := len_join (rowN a3 e3 g3 l3) X; rw [hY2] at this; exact Nat.le_trans this (show l3.length + X.cols.length ≤ 12 by omega)
  have LEN := Lib.hid (show l1.length ≤ 4 ∧ l2.length ≤ 4 ∧ l3.length ≤ 4 ∧ (rowN a1 e1 g1' l1).cols.length ≤ 4 ∧ (rowN a2 e2 g2 l2).cols.length ≤ 4 ∧ (rowN a3 e3 g3 l3).cols.length ≤ 4 ∧ X.cols.length ≤ 8 ∧ Y1.cols.length ≤ 8 ∧ Y2.cols.length ≤ 12 from ⟨hl1, hl2, hl3, hl1, hl2, hl3, hxl, hyl1, hyl2⟩)
  have UA := Lib.hid N1.out.up; have UB := Lib.hid N2.out.up; have UC := Lib.hid N3.out.up
  have hux : X.Up := by rw [← hX]; exact UA.out.join UB.out
  have huy : Y1.Up := by rw [← hY1]; exact UC.out.join UB.out
  have UX := Lib.hid hux; have UY := Lib.hid huy
  have J1 := Lib.hid hX; have J2 := Lib.hid hY1; have J4 := Lib.hid hY2
  have J1' := Lib.hid (show (rowN a2 e2 g2 l2).join (rowN a1 e1 g1' l1) = X by rw [← hX]; exact ro_comm rfl UB.out UA.out)
  have J3 := Lib.hid (show Y1.join (rowN a1 e1 g1' l1) = Y2 by rw [← hY2, ← J1'.out, ← hY1]; exact ro_assoc UC.out UB.out UA.out)
  have OKX := Lib.hid (show X.ok = true by rw [← hX]; exact join_ok N1.out.ok N2.out.ok (show l1.length + l2.length ≤ 8 by omega))
  have FEWX := Lib.hid (show Few X.cols by rw [← hX]; exact few_join N1.out.few N2.out.few)
  have LIVX := Lib.hid (show X.live.s.size ≤ maxLen from Nat.le_trans (show X.live.s.size ≤ 0 by rw [← hX]; exact live_join _ _ (Nat.le_refl _) (Nat.le_refl _)) (Nat.zero_le _))
  have SX := Lib.hid ((rosame_iff X X).2 rfl); have SY := Lib.hid ((rosame_iff Y2 Y2).2 rfl)
  clear bz za zb zc hUs hl1 hl2 hl3 hX hY1 hY2 hxl hyl1 hyl2 hux huy
  go_wp2_with fail
  rw [← hU]
  clear hU
  refine (join_ro (rowN a1 e1 g1' l1) (rowN a2 e2 g2 l2) X A1 A2 c1 c2 w3.heap.size w3.heap.size U (I1.out.below BU.out) (I2.out.below BU.out) (by have := HUS.out; omega) (by have := HUS.out; omega) (by have := LEN.out; omega) UA.out UB.out J1.out).mono ?_
  rintro x v4 ⟨A4, c4, rfl, hcur4⟩
  unfold Ro.val
  have z9 := heap_alloc_new v4 (.cells #[.string X.key, .string X.live.s, .bool X.live.d, .int .i64 X.live.a, .int .i64 X.live.e, .int .i64 X.gone, .int .i64 X.shade, .slice A4 X.cols.length c4] 26)
  have hb4 := hcur4.below
  have hb9 : Below U.heap.size U (v4.alloc (.cells #[.string X.key, .string X.live.s, .bool X.live.d, .int .i64 X.live.a, .int .i64 X.live.e, .int .i64 X.gone, .int .i64 X.shade, .slice A4 X.cols.length c4] 26)) := hb4.alloc hb4.size _
  have hi9 := hcur4.roIn.below ((Below.refl v4.heap.size v4).alloc (Nat.le_refl _) (.cells #[.string X.key, .string X.live.s, .bool X.live.d, .int .i64 X.live.a, .int .i64 X.live.e, .int .i64 X.gone, .int .i64 X.shade, .slice A4 X.cols.length c4] 26))
  have hs4 := hb4.size
  obtain ⟨W5, hW5⟩ : ∃ W, W = v4.alloc (.cells #[.string X.key, .string X.live.s, .bool X.live.d, .int .i64 X.live.a, .int .i64 X.live.e, .int .i64 X.gone, .int .i64 X.shade, .slice A4 X.cols.length c4] 26) := ⟨_, rfl⟩
  have hs5 : W5.heap.size = v4.heap.size + 1 := by rw [hW5]; simp
  rw [← hW5] at z9 hb9 hi9
  have z9 : RJ W5 v4.heap.size X.key X.live.s X.live.d X.live.a X.live.e X.gone X.shade A4 X.cols.length c4 := z9
  have hall5 : ∀ w', Below W5.heap.size W5 w' → (w'.cell? ⟨w3.heap.size, 0, none⟩ = some (.string ⟨#[107]⟩) ∧ w'.cell? ⟨w3.heap.size, 1, none⟩ = some (.string ⟨#[]⟩) ∧ w'.cell? ⟨w3.heap.size, 2, none⟩ = some (.bool false) ∧ w'.cell? ⟨w3.heap.size, 3, none⟩ = some (.int .i64 a1) ∧ w'.cell? ⟨w3.heap.size, 4, none⟩ = some (.int .i64 e1) ∧ w'.cell? ⟨w3.heap.size, 5, none⟩ = some (.int .i64 g1') ∧ w'.cell? ⟨w3.heap.size, 6, none⟩ = some (.int .i64 0) ∧ w'.cell? ⟨w3.heap.size, 7, none⟩ = some (.slice A1 l1.length c1)) ∧ (w'.cell? ⟨w3.heap.size + 1, 0, none⟩ = some (.string ⟨#[107]⟩) ∧ w'.cell? ⟨w3.heap.size + 1, 1, none⟩ = some (.string ⟨#[]⟩) ∧ w'.cell? ⟨w3.heap.size + 1, 2, none⟩ = some (.bool false) ∧ w'.cell? ⟨w3.heap.size + 1, 3, none⟩ = some (.int .i64 a2) ∧ w'.cell? ⟨w3.heap.size + 1, 4, none⟩ = some (.int .i64 e2) ∧ w'.cell? ⟨w3.heap.size + 1, 5, none⟩ = some (.int .i64 g2) ∧ w'.cell? ⟨w3.heap.size + 1, 6, none⟩ = some (.int .i64 0) ∧ w'.cell? ⟨w3.heap.size + 1, 7, none⟩ = some (.slice A2 l2.length c2)) ∧ (w'.cell? ⟨w3.heap.size + 1 + 1, 0, none⟩ = some (.string ⟨#[107]⟩) ∧ w'.cell? ⟨w3.heap.size + 1 + 1, 1, none⟩ = some (.string ⟨#[]⟩) ∧ w'.cell? ⟨w3.heap.size + 1 + 1, 2, none⟩ = some (.bool false) ∧ w'.cell? ⟨w3.heap.size + 1 + 1, 3, none⟩ = some (.int .i64 a3) ∧ w'.cell? ⟨w3.heap.size + 1 + 1, 4, none⟩ = some (.int .i64 e3) ∧ w'.cell? ⟨w3.heap.size + 1 + 1, 5, none⟩ = some (.int .i64 g3) ∧ w'.cell? ⟨w3.heap.size + 1 + 1, 6, none⟩ = some (.int .i64 0) ∧ w'.cell? ⟨w3.heap.size + 1 + 1, 7, none⟩ = some (.slice A3 l3.length c3)) ∧ X.At w' v4.heap.size A4 c4 ∧ RoIn w' w3.heap.size (rowN a1 e1 g1' l1) A1 c1 ∧ RoIn w' w3.heap.size (rowN a2 e2 g2 l2) A2 c2 ∧ RoIn w' w3.heap.size (rowN a3 e3 g3 l3) A3 c3 ∧ RoIn w' v4.heap.size X A4 c4 := by
    intro w' hb
    have hus := HUS.out
    have hbu : Below U.heap.size U w' := hb9.trans (hb.mono (by omega))
    have hbw : Below w3.heap.size w3 w' := BU.out.trans (hbu.mono (by omega))
    exact ⟨ZA.out.cells.below hbu (by omega), ZB.out.cells.below hbu (by omega), ZC.out.cells.below hbu (by omega), z9.cells.below hb (by omega), I1.out.below hbw, I2.out.below hbw, I3.out.below hbw, hi9.below (hb.mono (by omega))⟩
  have HALL5 := Lib.hid hall5
  have HS5 := Lib.hid (show w3.heap.size + 3 ≤ W5.heap.size ∧ v4.heap.size ≤ W5.heap.size by have := HUS.out; omega)
  have B5 := Lib.hid (B3.out.trans ((BU.out.trans (hb9.mono (by have := HUS.out; omega))).mono B3.out.size))
  clear z9 hb4 hb9 hi9 hs4 hs5 hall5 hcur4 ZA ZB ZC BU HUS I1 I2 I3 B3
  go_wp2_with fail
  rw [← hW5]
  clear hW5
  refine wp_region_held_drew (S := fun w' => Below W5.heap.size W5 w') (by kernel_rfl) ?_ (fun hHeld => ?_)
  · exact (Below.refl _ _).drew
  refine wpAnyH_take (i := 0) (v := ?_) rfl (by kernel_rfl) (by kernel_rfl) (by kernel_rfl) (fun _ _ _ h => h) (Or.inl ⟨by rfl, ?_⟩) (by assumption) ?_
  rotate_left
  · (intro wx hSw; (try dsimp only at hSw); obtain ⟨⟨_, _, _, _, _, _, _, _⟩, ⟨_, _, _, _, _, _, _, _⟩, ⟨_, _, _, _, _, _, _, _⟩, ⟨_, _, _, _, _, _, _, _⟩, _⟩ := HALL5.out _ hSw; go_simp; try with_reducible rfl)
  try simp only [Act.put, List.getElem_toArray, List.getElem_cons_succ, List.getElem_cons_zero, List.setIfInBounds_toArray, List.set_cons_zero, List.set_cons_succ]
  refine wpAnyH_ready (rs := [1]) (by kernel_rfl) (by simp) (AllReadyH.cons rfl (fun K hK => ?_) AllReadyH.nil)
  go_simp
  obtain ⟨_, _, _, _, ja, jb, jc, jx⟩ := HALL5.out _ hHeld
  refine (check_ro X A4 c4 v4.heap.size W5.drew jx (by have := hHeld.size; have := HS5.out; omega) (by have := LEN.out; omega) FEWX.out LIVX.out).mono ?_
  rintro x u1 ⟨rfl, b9⟩
  rw [OKX.out]
  have BN := Lib.hid b9
  clear b9 ja jb jc jx
  try go_wp2_with fail
  refine hK.out _ _ ?_ (fun hHeld => ?_)
  · exact hHeld.trans (BN.out.mono hHeld.size)
  clear hK K
  try simp only [Act.put, List.getElem_toArray, List.getElem_cons_succ, List.getElem_cons_zero, List.setIfInBounds_toArray, List.set_cons_zero, List.set_cons_succ]
  refine wpAnyH_take (i := 2) (v := ?_) rfl (by kernel_rfl) (by kernel_rfl) (by kernel_rfl) (fun _ _ _ h => h) (Or.inl ⟨by rfl, ?_⟩) (by assumption) ?_
  rotate_left
  · (intro wx hSw; (try dsimp only at hSw); go_simp; try with_reducible rfl)
  try simp only [Act.put, List.getElem_toArray, List.getElem_cons_succ, List.getElem_cons_zero, List.setIfInBounds_toArray, List.set_cons_zero, List.set_cons_succ]
  refine wpAnyH_take (i := 3) (v := ?_) rfl (by kernel_rfl) (by kernel_rfl) (by kernel_rfl) (fun _ _ _ h => h) (Or.inl ⟨by rfl, ?_⟩) (by assumption) ?_
  rotate_left
  · (intro wx hSw; (try dsimp only at hSw); go_simp; try with_reducible rfl)
  try simp only [Act.put, List.getElem_toArray, List.getElem_cons_succ, List.getElem_cons_zero, List.setIfInBounds_toArray, List.set_cons_zero, List.set_cons_succ]
  refine wpAnyH_take (i := 4) (v := ?_) rfl (by kernel_rfl) (by kernel_rfl) (by kernel_rfl) (fun _ _ _ h => h) (Or.inl ⟨by rfl, ?_⟩) (by assumption) ?_
  rotate_left
  · (intro wx hSw; (try dsimp only at hSw); obtain ⟨⟨_, _, _, _, _, _, _, _⟩, ⟨_, _, _, _, _, _, _, _⟩, ⟨_, _, _, _, _, _, _, _⟩, ⟨_, _, _, _, _, _, _, _⟩, _⟩ := HALL5.out _ hSw; go_simp; try with_reducible rfl)
  try simp only [Act.put, List.getElem_toArray, List.getElem_cons_succ, List.getElem_cons_zero, List.setIfInBounds_toArray, List.set_cons_zero, List.set_cons_succ]
  refine wpAnyH_take (i := 5) (v := ?_) rfl (by kernel_rfl) (by kernel_rfl) (by kernel_rfl) (fun _ _ _ h => h) (Or.inl ⟨by rfl, ?_⟩) (by assumption) ?_
  rotate_left
  · (intro wx hSw; (try dsimp only at hSw); obtain ⟨⟨_, _, _, _, _, _, _, _⟩, ⟨_, _, _, _, _, _, _, _⟩, ⟨_, _, _, _, _, _, _, _⟩, ⟨_, _, _, _, _, _, _, _⟩, _⟩ := HALL5.out _ hSw; go_simp; try with_reducible rfl)
  try simp only [Act.put, List.getElem_toArray, List.getElem_cons_succ, List.getElem_cons_zero, List.setIfInBounds_toArray, List.set_cons_zero, List.set_cons_succ]
  refine wpAnyH_take (i := 6) (v := ?_) rfl (by kernel_rfl) (by kernel_rfl) (by kernel_rfl) (fun _ _ _ h => h) (Or.inl ⟨by rfl, ?_⟩) (by assumption) ?_
  rotate_left
  · (intro wx hSw; (try dsimp only at hSw); obtain ⟨⟨_, _, _, _, _, _, _, _⟩, ⟨_, _, _, _, _, _, _, _⟩, ⟨_, _, _, _, _, _, _, _⟩, ⟨_, _, _, _, _, _, _, _⟩, _⟩ := HALL5.out _ hSw; go_simp; try with_reducible rfl)
  try simp only [Act.put, List.getElem_toArray, List.getElem_cons_succ, List.getElem_cons_zero, List.setIfInBounds_toArray, List.set_cons_zero, List.set_cons_succ]
  refine wpAnyH_ready (rs := [7]) (by kernel_rfl) (by simp) (AllReadyH.cons rfl (fun K hK => ?_) AllReadyH.nil)
  go_simp
  obtain ⟨_, _, _, _, ja, jb, jc, jx⟩ := HALL5.out _ hHeld
  refine (join_ro (rowN a2 e2 g2 l2) (rowN a1 e1 g1' l1) X A2 A1 c2 c1 w3.heap.size w3.heap.size u1 jb ja (by have := hHeld.size; have := HS5.out; omega) (by have := hHeld.size; have := HS5.out; omega) (by have := LEN.out; omega) UB.out UA.out J1'.out).mono ?_
  rintro x u2 ⟨A12, c12, rfl, h1⟩
  have H2 := Lib.hid h1
  have BN := Lib.hid h1.below
  clear h1 ja jb jc jx
  try go_wp2_with fail
  refine hK.out _ _ ?_ (fun hHeld => ?_)
  · exact hHeld.trans (BN.out.mono hHeld.size)
  clear hK K
  try simp only [Act.put, List.getElem_toArray, List.getElem_cons_succ, List.getElem_cons_zero, List.setIfInBounds_toArray, List.set_cons_zero, List.set_cons_succ]
  refine wpAnyH_ready (rs := [8]) (by kernel_rfl) (by simp) (AllReadyH.cons rfl (fun K hK => ?_) AllReadyH.nil)
  go_simp
  obtain ⟨_, _, _, _, ja, jb, jc, jx⟩ := HALL5.out _ hHeld
  refine (same_ro X X A4 A12 c4 c12 v4.heap.size u2.heap.size u2 jx H2.out.roIn (by have := hHeld.size; have := HS5.out; omega) (by have := hHeld.size; have := HS5.out; omega) (by have := LEN.out; omega) (by have := LEN.out; omega)).mono ?_
  rintro x u3 ⟨rfl, b9⟩
  rw [SX.out]
  have BN := Lib.hid b9
  clear b9 ja jb jc jx
  try go_wp2_with fail
  refine hK.out _ _ ?_ (fun hHeld => ?_)
  · exact hHeld.trans (BN.out.mono hHeld.size)
  clear hK K
  try simp only [Act.put, List.getElem_toArray, List.getElem_cons_succ, List.getElem_cons_zero, List.setIfInBounds_toArray, List.set_cons_zero, List.set_cons_succ]
  refine wpAnyH_take (i := 9) (v := ?_) rfl (by kernel_rfl) (by kernel_rfl) (by kernel_rfl) (fun _ _ _ h => h) (Or.inl ⟨by rfl, ?_⟩) (by assumption) ?_
  rotate_left
  · (intro wx hSw; (try dsimp only at hSw); go_simp; try with_reducible rfl)
  try simp only [Act.put, List.getElem_toArray, List.getElem_cons_succ, List.getElem_cons_zero, List.setIfInBounds_toArray, List.set_cons_zero, List.set_cons_succ]
  refine wpAnyH_take (i := 10) (v := ?_) rfl (by kernel_rfl) (by kernel_rfl) (by kernel_rfl) (fun _ _ _ h => h) (Or.inl ⟨by rfl, ?_⟩) (by assumption) ?_
  rotate_left
  · (intro wx hSw; (try dsimp only at hSw); go_simp; try with_reducible rfl)
  try simp only [Act.put, List.getElem_toArray, List.getElem_cons_succ, List.getElem_cons_zero, List.setIfInBounds_toArray, List.set_cons_zero, List.set_cons_succ]
  refine wpAnyH_take (i := 11) (v := ?_) rfl (by kernel_rfl) (by kernel_rfl) (by kernel_rfl) (fun _ _ _ h => h) (Or.inl ⟨by rfl, ?_⟩) (by assumption) ?_
  rotate_left
  · (intro wx hSw; (try dsimp only at hSw); go_simp; try with_reducible rfl)
  try simp only [Act.put, List.getElem_toArray, List.getElem_cons_succ, List.getElem_cons_zero, List.setIfInBounds_toArray, List.set_cons_zero, List.set_cons_succ]
  refine wpAnyH_take (i := 12) (v := ?_) rfl (by kernel_rfl) (by kernel_rfl) (by kernel_rfl) (fun _ _ _ h => h) (Or.inl ⟨by rfl, ?_⟩) (by assumption) ?_
  rotate_left
  · (intro wx hSw; (try dsimp only at hSw); obtain ⟨⟨_, _, _, _, _, _, _, _⟩, ⟨_, _, _, _, _, _, _, _⟩, ⟨_, _, _, _, _, _, _, _⟩, ⟨_, _, _, _, _, _, _, _⟩, _⟩ := HALL5.out _ hSw; go_simp; try with_reducible rfl)
  try simp only [Act.put, List.getElem_toArray, List.getElem_cons_succ, List.getElem_cons_zero, List.setIfInBounds_toArray, List.set_cons_zero, List.set_cons_succ]
  refine wpAnyH_take (i := 13) (v := ?_) rfl (by kernel_rfl) (by kernel_rfl) (by kernel_rfl) (fun _ _ _ h => h) (Or.inl ⟨by rfl, ?_⟩) (by assumption) ?_
  rotate_left
  · (intro wx hSw; (try dsimp only at hSw); obtain ⟨⟨_, _, _, _, _, _, _, _⟩, ⟨_, _, _, _, _, _, _, _⟩, ⟨_, _, _, _, _, _, _, _⟩, ⟨_, _, _, _, _, _, _, _⟩, _⟩ := HALL5.out _ hSw; go_simp; try with_reducible rfl)
  try simp only [Act.put, List.getElem_toArray, List.getElem_cons_succ, List.getElem_cons_zero, List.setIfInBounds_toArray, List.set_cons_zero, List.set_cons_succ]
  refine wpAnyH_take (i := 15) (v := ?_) rfl (by kernel_rfl) (by kernel_rfl) (by kernel_rfl) (fun _ _ _ h => h) (Or.inl ⟨by rfl, ?_⟩) (by assumption) ?_
  rotate_left
  · (intro wx hSw; (try dsimp only at hSw); obtain ⟨⟨_, _, _, _, _, _, _, _⟩, ⟨_, _, _, _, _, _, _, _⟩, ⟨_, _, _, _, _, _, _, _⟩, ⟨_, _, _, _, _, _, _, _⟩, _⟩ := HALL5.out _ hSw; go_simp; try with_reducible rfl)
  try simp only [Act.put, List.getElem_toArray, List.getElem_cons_succ, List.getElem_cons_zero, List.setIfInBounds_toArray, List.set_cons_zero, List.set_cons_succ]
  refine wpAnyH_take (i := 17) (v := ?_) rfl (by kernel_rfl) (by kernel_rfl) (by kernel_rfl) (fun _ _ _ h => h) (Or.inl ⟨by rfl, ?_⟩) (by assumption) ?_
  rotate_left
  · (intro wx hSw; (try dsimp only at hSw); obtain ⟨⟨_, _, _, _, _, _, _, _⟩, ⟨_, _, _, _, _, _, _, _⟩, ⟨_, _, _, _, _, _, _, _⟩, ⟨_, _, _, _, _, _, _, _⟩, _⟩ := HALL5.out _ hSw; go_simp; try with_reducible rfl)
  try simp only [Act.put, List.getElem_toArray, List.getElem_cons_succ, List.getElem_cons_zero, List.setIfInBounds_toArray, List.set_cons_zero, List.set_cons_succ]
  refine wpAnyH_take (i := 18) (v := ?_) rfl (by kernel_rfl) (by kernel_rfl) (by kernel_rfl) (fun _ _ _ h => h) (Or.inl ⟨by rfl, ?_⟩) (by assumption) ?_
  rotate_left
  · (intro wx hSw; (try dsimp only at hSw); obtain ⟨⟨_, _, _, _, _, _, _, _⟩, ⟨_, _, _, _, _, _, _, _⟩, ⟨_, _, _, _, _, _, _, _⟩, ⟨_, _, _, _, _, _, _, _⟩, _⟩ := HALL5.out _ hSw; go_simp; try with_reducible rfl)
  try simp only [Act.put, List.getElem_toArray, List.getElem_cons_succ, List.getElem_cons_zero, List.setIfInBounds_toArray, List.set_cons_zero, List.set_cons_succ]
  refine wpAnyH_ready (rs := [14]) (by kernel_rfl) (by simp) (AllReadyH.cons rfl (fun K hK => ?_) AllReadyH.nil)
  go_simp
  obtain ⟨_, _, _, _, ja, jb, jc, jx⟩ := HALL5.out _ hHeld
  refine (join_ro (rowN a3 e3 g3 l3) (rowN a2 e2 g2 l2) Y1 A3 A2 c3 c2 w3.heap.size w3.heap.size u3 jc jb (by have := hHeld.size; have := HS5.out; omega) (by have := hHeld.size; have := HS5.out; omega) (by have := LEN.out; omega) UC.out UB.out J2.out).mono ?_
  rintro x u4 ⟨A14, c14, rfl, h1⟩
  have H4 := Lib.hid h1
  have BN := Lib.hid h1.below
  clear h1 ja jb jc jx
  try go_wp2_with fail
  refine hK.out _ _ ?_ (fun hHeld => ?_)
  · exact hHeld.trans (BN.out.mono hHeld.size)
  clear hK K
  try simp only [Act.put, List.getElem_toArray, List.getElem_cons_succ, List.getElem_cons_zero, List.setIfInBounds_toArray, List.set_cons_zero, List.set_cons_succ]
  refine wpAnyH_ready (rs := [16]) (by kernel_rfl) (by simp) (AllReadyH.cons rfl (fun K hK => ?_) AllReadyH.nil)
  go_simp
  obtain ⟨_, _, _, _, ja, jb, jc, jx⟩ := HALL5.out _ hHeld
  refine (join_ro Y1 (rowN a1 e1 g1' l1) Y2 A14 A1 c14 c1 u4.heap.size w3.heap.size u4 H4.out.roIn ja (by have := hHeld.size; have := HS5.out; omega) (by have := hHeld.size; have := HS5.out; omega) (by have := LEN.out; omega) UY.out UA.out J3.out).mono ?_
  rintro x u5 ⟨A15, c15, rfl, h1⟩
  have H5 := Lib.hid h1
  have BN := Lib.hid h1.below
  clear h1 ja jb jc jx
  try go_wp2_with fail
  refine hK.out _ _ ?_ (fun hHeld => ?_)
  · exact hHeld.trans (BN.out.mono hHeld.size)
  clear hK K
  try simp only [Act.put, List.getElem_toArray, List.getElem_cons_succ, List.getElem_cons_zero, List.setIfInBounds_toArray, List.set_cons_zero, List.set_cons_succ]
  refine wpAnyH_ready (rs := [19]) (by kernel_rfl) (by simp) (AllReadyH.cons rfl (fun K hK => ?_) AllReadyH.nil)
  go_simp
  obtain ⟨_, _, _, _, ja, jb, jc, jx⟩ := HALL5.out _ hHeld
  refine (join_ro (rowN a3 e3 g3 l3) X Y2 A3 A4 c3 c4 w3.heap.size v4.heap.size u5 jc jx (by have := hHeld.size; have := HS5.out; omega) (by have := hHeld.size; have := HS5.out; omega) (by have := LEN.out; omega) UC.out UX.out J4.out).mono ?_
  rintro x u6 ⟨A16, c16, rfl, h1⟩
  have H6 := Lib.hid h1
  have BN := Lib.hid h1.below
  clear h1 ja jb jc jx
  try go_wp2_with fail
  refine hK.out _ _ ?_ (fun hHeld => ?_)
  · exact hHeld.trans (BN.out.mono hHeld.size)
  clear hK K
  try simp only [Act.put, List.getElem_toArray, List.getElem_cons_succ, List.getElem_cons_zero, List.setIfInBounds_toArray, List.set_cons_zero, List.set_cons_succ]
  refine wpAnyH_ready (rs := [20]) (by kernel_rfl) (by simp) (AllReadyH.cons rfl (fun K hK => ?_) AllReadyH.nil)
  go_simp
  obtain ⟨_, _, _, _, ja, jb, jc, jx⟩ := HALL5.out _ hHeld
  refine (same_ro Y2 Y2 A15 A16 c15 c16 u6.heap.size u6.heap.size u6 ((H5.out.on H6.out.below).roIn) H6.out.roIn (by have := hHeld.size; have := HS5.out; omega) (by have := hHeld.size; have := HS5.out; omega) (by have := LEN.out; omega) (by have := LEN.out; omega)).mono ?_
  rintro x u7 ⟨rfl, b9⟩
  rw [SY.out]
  have BN := Lib.hid b9
  clear b9 ja jb jc jx
  try go_wp2_with fail
  refine hK.out _ _ ?_ (fun hHeld => ?_)
  · exact hHeld.trans (BN.out.mono hHeld.size)
  clear hK K
  try simp only [Act.put, List.getElem_toArray, List.getElem_cons_succ, List.getElem_cons_zero, List.setIfInBounds_toArray, List.set_cons_zero, List.set_cons_succ]
  refine wpAnyH_take (i := 21) (v := ?_) rfl (by kernel_rfl) (by kernel_rfl) (by kernel_rfl) (fun _ _ _ h => h) (Or.inl ⟨by rfl, ?_⟩) (by assumption) ?_
  rotate_left
  · (intro wx hSw; (try dsimp only at hSw); go_simp; try with_reducible rfl)
  try simp only [Act.put, List.getElem_toArray, List.getElem_cons_succ, List.getElem_cons_zero, List.setIfInBounds_toArray, List.set_cons_zero, List.set_cons_succ]
  refine wpAnyH_take (i := 22) (v := ?_) rfl (by kernel_rfl) (by kernel_rfl) (by kernel_rfl) (fun _ _ _ h => h) (Or.inl ⟨by rfl, ?_⟩) (by assumption) ?_
  rotate_left
  · (intro wx hSw; (try dsimp only at hSw); go_simp; try with_reducible rfl)
  try simp only [Act.put, List.getElem_toArray, List.getElem_cons_succ, List.getElem_cons_zero, List.setIfInBounds_toArray, List.set_cons_zero, List.set_cons_succ]
  refine wpAnyH_done (by kernel_rfl) ?_ _
  have B6 := Lib.hid hHeld
  clear hHeld
  go_wp2_with fail
  refine (place_any v2 9 _ (by decide) (by decide) (bounds_i64 V2.out)).mono ?_
  rintro x w9 ⟨rfl, rfl⟩
  rw [HG.out]
  go_wp2_with fail
  refine (names_any _).mono ?_
  rintro x W6 ⟨rfl, hW6⟩
  have hz6 : W6.heap[u7.heap.size]? = some (.cells #[.string (nm 0), .string (nm 1), .string (nm 2), .string (nm 3)] 9 (0, 0)) := by rw [hW6]; exact heap_alloc_new _ _
  have hb6 : Below W5.heap.size W5 W6 := by rw [hW6]; exact B6.out.alloc B6.out.size _
  have hs6 : W6.heap.size = u7.heap.size + 1 := by rw [hW6]; simp
  have hall6 : ∀ w', Below W6.heap.size W6 w' → (w'.cell? ⟨w3.heap.size, 0, none⟩ = some (.string ⟨#[107]⟩) ∧ w'.cell? ⟨w3.heap.size, 1, none⟩ = some (.string ⟨#[]⟩) ∧ w'.cell? ⟨w3.heap.size, 2, none⟩ = some (.bool false) ∧ w'.cell? ⟨w3.heap.size, 3, none⟩ = some (.int .i64 a1) ∧ w'.cell? ⟨w3.heap.size, 4, none⟩ = some (.int .i64 e1) ∧ w'.cell? ⟨w3.heap.size, 5, none⟩ = some (.int .i64 g1') ∧ w'.cell? ⟨w3.heap.size, 6, none⟩ = some (.int .i64 0) ∧ w'.cell? ⟨w3.heap.size, 7, none⟩ = some (.slice A1 l1.length c1)) ∧ (w'.cell? ⟨w3.heap.size + 1, 0, none⟩ = some (.string ⟨#[107]⟩) ∧ w'.cell? ⟨w3.heap.size + 1, 1, none⟩ = some (.string ⟨#[]⟩) ∧ w'.cell? ⟨w3.heap.size + 1, 2, none⟩ = some (.bool false) ∧ w'.cell? ⟨w3.heap.size + 1, 3, none⟩ = some (.int .i64 a2) ∧ w'.cell? ⟨w3.heap.size + 1, 4, none⟩ = some (.int .i64 e2) ∧ w'.cell? ⟨w3.heap.size + 1, 5, none⟩ = some (.int .i64 g2) ∧ w'.cell? ⟨w3.heap.size + 1, 6, none⟩ = some (.int .i64 0) ∧ w'.cell? ⟨w3.heap.size + 1, 7, none⟩ = some (.slice A2 l2.length c2)) ∧ X.At w' v4.heap.size A4 c4 ∧ RoIn w' w3.heap.size (rowN a1 e1 g1' l1) A1 c1 ∧ RoIn w' w3.heap.size (rowN a2 e2 g2 l2) A2 c2 ∧ RoIn w' v4.heap.size X A4 c4 ∧ w'.heap[u7.heap.size]? = some (.cells #[.string (nm 0), .string (nm 1), .string (nm 2), .string (nm 3)] 9 (0, 0)) := by
    intro w' hb
    obtain ⟨h1, h2, h3, h4, h5, h6, h7, h8⟩ := HALL5.out w' (hb6.trans (hb.mono hb6.size))
    exact ⟨h1, h2, h4, h5, h6, h8, (hb.block _ (by omega)).trans hz6⟩
  have HALL6 := Lib.hid hall6
  have HS6 := Lib.hid (show w3.heap.size + 3 ≤ W6.heap.size ∧ v4.heap.size ≤ W6.heap.size by have := HS5.out; have := hb6.size; omega)
  have BZ := Lib.hid (B5.out.trans (hb6.mono (by have := HS5.out; have := B5.out.size; omega)))
  obtain ⟨mx, hmx⟩ : ∃ m, max X.gone g = m := ⟨_, rfl⟩
  have hmx0 : 0 ≤ mx := by omega
  have MX := Lib.hid hmx; have MX0 := Lib.hid hmx0
  clear hz6 hb6 hs6 hall6 hW6 hmx hmx0 HALL5 HS5 B5 B6 FEWX LIVX OKX SX SY J1' J2 J3 J4 UC UY N3
  go_wp2_with fail
  go_loopw [64] (fun i wr => ∃ t : Nat, t ≤ 4 ∧ i = .int .i64 t ∧ Below W6.heap.size W6 wr) (fun i _ => 4 - (intOf i).toNat)
  case atStart => exact ⟨0, by omega, rfl, Below.refl _ _⟩
  case round =>
    obtain ⟨k, hk, rfl, hb⟩ := hrel
    have HB := Lib.hid hb
    clear hb
    by_cases hlt : k < 4
    · have i1 : (k : Int) < 4 := by omega
      have i0 : (0 : Int) ≤ k := by omega
      obtain ⟨⟨_, _, _, _, _, _, _, _⟩, ⟨_, _, _, _, _, _, _, _⟩, ⟨_, _, _, _, _, _, _, _⟩, ja, jb, jx, hnm⟩ := HALL6.out _ HB.out
      have hnk := cell_at hnm (nm_at k hlt)
      obtain ⟨m, hm⟩ : ∃ m, nm k = m := ⟨_, rfl⟩
      rw [hm] at hnk
      have JX := Lib.hid jx
      clear ja jb jx hnm hm
      obtain ⟨⟨es, ed, ea, ee⟩, he⟩ : ∃ E, getC X.cols m = E := ⟨_, rfl⟩
      obtain ⟨ok, hok⟩ : ∃ u, cntD mx ⟨es, ed, ea, ee⟩ = u := ⟨_, rfl⟩
      obtain ⟨⟨ds, dd, da, de⟩, hd⟩ : ∃ D, bestD mx ⟨es, ed, ea, ee⟩ = D := ⟨_, rfl⟩
      have HE := Lib.hid he; have HOK := Lib.hid hok; have HD := Lib.hid hd
      have BX := Lib.hid (show (bestD mx (getC X.cols m)).v = .agg #[.string ds, .bool dd, .int .i64 da, .int .i64 de] by rw [he, hd]; rfl)
      have CX := Lib.hid (show cntD mx (getC X.cols m) = ok by rw [he]; exact hok)
      clear he hok hd
      go_wp2_with fail
      refine (best_ro X A4 c4 v4.heap.size g m wr JX.out (by have := HB.out.size; have := HS6.out; omega) (by have := LEN.out; omega)).mono ?_
      rintro x v5 ⟨rfl, b5⟩
      rw [MX.out, BX.out, CX.out]
      have hb5 := (HB.out.trans (b5.mono HB.out.size)).alloc (HB.out.trans (b5.mono HB.out.size)).size (.cells #[.string ds, .bool dd, .int .i64 da, .int .i64 de] 23)
      have hz5 := heap_alloc_new v5 (.cells #[.string ds, .bool dd, .int .i64 da, .int .i64 de] 23)
      have hs5 : W6.heap.size ≤ v5.heap.size := (HB.out.trans (b5.mono HB.out.size)).size
      obtain ⟨W7, hW7⟩ : ∃ W, W = v5.alloc (.cells #[.string ds, .bool dd, .int .i64 da, .int .i64 de] 23) := ⟨_, rfl⟩
      have hs7 : W7.heap.size = v5.heap.size + 1 := by rw [hW7]; simp
      rw [← hW7] at hb5 hz5
      have hall7 : ∀ w', Below W7.heap.size W7 w' → (w'.cell? ⟨w3.heap.size, 0, none⟩ = some (.string ⟨#[107]⟩) ∧ w'.cell? ⟨w3.heap.size, 1, none⟩ = some (.string ⟨#[]⟩) ∧ w'.cell? ⟨w3.heap.size, 2, none⟩ = some (.bool false) ∧ w'.cell? ⟨w3.heap.size, 3, none⟩ = some (.int .i64 a1) ∧ w'.cell? ⟨w3.heap.size, 4, none⟩ = some (.int .i64 e1) ∧ w'.cell? ⟨w3.heap.size, 5, none⟩ = some (.int .i64 g1') ∧ w'.cell? ⟨w3.heap.size, 6, none⟩ = some (.int .i64 0) ∧ w'.cell? ⟨w3.heap.size, 7, none⟩ = some (.slice A1 l1.length c1)) ∧ (w'.cell? ⟨w3.heap.size + 1, 0, none⟩ = some (.string ⟨#[107]⟩) ∧ w'.cell? ⟨w3.heap.size + 1, 1, none⟩ = some (.string ⟨#[]⟩) ∧ w'.cell? ⟨w3.heap.size + 1, 2, none⟩ = some (.bool false) ∧ w'.cell? ⟨w3.heap.size + 1, 3, none⟩ = some (.int .i64 a2) ∧ w'.cell? ⟨w3.heap.size + 1, 4, none⟩ = some (.int .i64 e2) ∧ w'.cell? ⟨w3.heap.size + 1, 5, none⟩ = some (.int .i64 g2) ∧ w'.cell? ⟨w3.heap.size + 1, 6, none⟩ = some (.int .i64 0) ∧ w'.cell? ⟨w3.heap.size + 1, 7, none⟩ = some (.slice A2 l2.length c2)) ∧ X.At w' v4.heap.size A4 c4 ∧ RoIn w' w3.heap.size (rowN a1 e1 g1' l1) A1 c1 ∧ RoIn w' w3.heap.size (rowN a2 e2 g2 l2) A2 c2 ∧ RoIn w' v4.heap.size X A4 c4 ∧ w'.cell? ⟨v5.heap.size, 0, none⟩ = some (.string ds) ∧ w'.cell? ⟨v5.heap.size, 1, none⟩ = some (.bool dd) ∧ w'.cell? ⟨v5.heap.size, 2, none⟩ = some (.int .i64 da) ∧ w'.cell? ⟨v5.heap.size, 3, none⟩ = some (.int .i64 de) := by
        intro w' hb
        obtain ⟨h1, h2, h3, h4, h5, h6, _⟩ := HALL6.out w' (hb5.trans (hb.mono (by omega)))
        have q5 := (hb.block v5.heap.size (by omega)).trans hz5
        exact ⟨h1, h2, h3, h4, h5, h6, cell_at q5 rfl, cell_at q5 rfl, cell_at q5 rfl, cell_at q5 rfl⟩
      have HALL7 := Lib.hid hall7
      have HS7 := Lib.hid (show w3.heap.size + 3 ≤ W7.heap.size ∧ v4.heap.size ≤ W7.heap.size by have := HS6.out; omega)
      have B7 := Lib.hid hb5
      clear b5 hb5 hz5 hs5 hs7 hall7 BX CX JX HB hnk
      go_upto_region 13 with fail
      rw [← hW7]
      clear hW7
      go_cut [94] from 75 to 93 (fun s94 wx => s94 = .bool false ∧ Below W7.heap.size W7 wx)
      case first =>
        cases ok
        · have hd := HD.out
          unfold bestD at hd
          rw [HOK.out, if_neg (by decide)] at hd
          injection hd with e1 e2 e3 e4
          subst e1; subst e2; subst e3; subst e4
          refine wp_region_held_drew (S := fun w' => Below W7.heap.size W7 w') (by kernel_rfl) ?_ (fun hHeld => ?_)
          · exact (Below.refl _ _).drew
          refine wpAnyH_take (i := 0) (v := ?_) rfl (by kernel_rfl) (by kernel_rfl) (by kernel_rfl) (fun _ _ _ h => h) (Or.inl ⟨by rfl, ?_⟩) (by assumption) ?_
          rotate_left
          · (intro wx hSw; (try dsimp only at hSw); go_simp; try with_reducible rfl)
          try simp only [Act.put, List.getElem_toArray, List.getElem_cons_succ, List.getElem_cons_zero, List.setIfInBounds_toArray, List.set_cons_zero, List.set_cons_succ]
          refine wpAnyH_take (i := 1) (v := ?_) rfl (by kernel_rfl) (by kernel_rfl) (by kernel_rfl) (fun _ _ _ h => h) (Or.inl ⟨by rfl, ?_⟩) (by assumption) ?_
          rotate_left
          · (intro wx hSw; (try dsimp only at hSw); go_simp; try with_reducible rfl)
          try simp only [Act.put, List.getElem_toArray, List.getElem_cons_succ, List.getElem_cons_zero, List.setIfInBounds_toArray, List.set_cons_zero, List.set_cons_succ]
          refine wpAnyH_take (i := 2) (v := ?_) rfl (by kernel_rfl) (by kernel_rfl) (by kernel_rfl) (fun _ _ _ h => h) (Or.inl ⟨by rfl, ?_⟩) (by assumption) ?_
          rotate_left
          · (intro wx hSw; (try dsimp only at hSw); obtain ⟨_, _, ⟨_, _, _, _, _, _, _, _⟩, _, _, _, _, _, _, _⟩ := HALL7.out _ hSw; go_simp; try with_reducible rfl)
          try simp only [Act.put, List.getElem_toArray, List.getElem_cons_succ, List.getElem_cons_zero, List.setIfInBounds_toArray, List.set_cons_zero, List.set_cons_succ]
          refine wpAnyH_take (i := 3) (v := ?_) rfl (by kernel_rfl) (by kernel_rfl) (by kernel_rfl) (fun _ _ _ h => h) (Or.inl ⟨by rfl, ?_⟩) (by assumption) ?_
          rotate_left
          · (intro wx hSw; (try dsimp only at hSw); go_simp; try with_reducible rfl)
          try simp only [Act.put, List.getElem_toArray, List.getElem_cons_succ, List.getElem_cons_zero, List.setIfInBounds_toArray, List.set_cons_zero, List.set_cons_succ]
          refine wpAnyH_take (i := 4) (v := ?_) rfl (by kernel_rfl) (by kernel_rfl) (by kernel_rfl) (fun _ _ _ h => h) (Or.inl ⟨by rfl, ?_⟩) (by assumption) ?_
          rotate_left
          · (intro wx hSw; (try dsimp only at hSw); go_simp; try with_reducible rfl)
          try simp only [Act.put, List.getElem_toArray, List.getElem_cons_succ, List.getElem_cons_zero, List.setIfInBounds_toArray, List.set_cons_zero, List.set_cons_succ]
          refine wpAnyH_take (i := 5) (v := ?_) rfl (by kernel_rfl) (by kernel_rfl) (by kernel_rfl) (fun _ _ _ h => h) (Or.inl ⟨by rfl, ?_⟩) (by assumption) ?_
          rotate_left
          · (intro wx hSw; (try dsimp only at hSw); go_simp; try with_reducible rfl)
          try simp only [Act.put, List.getElem_toArray, List.getElem_cons_succ, List.getElem_cons_zero, List.setIfInBounds_toArray, List.set_cons_zero, List.set_cons_succ]
          refine wpAnyH_take (i := 6) (v := ?_) rfl (by kernel_rfl) (by kernel_rfl) (by kernel_rfl) (fun _ _ _ h => h) (Or.inl ⟨by rfl, ?_⟩) (by assumption) ?_
          rotate_left
          · (intro wx hSw; (try dsimp only at hSw); go_simp; try with_reducible rfl)
          try simp only [Act.put, List.getElem_toArray, List.getElem_cons_succ, List.getElem_cons_zero, List.setIfInBounds_toArray, List.set_cons_zero, List.set_cons_succ]
          refine wpAnyH_take (i := 7) (v := ?_) rfl (by kernel_rfl) (by kernel_rfl) (by kernel_rfl) (fun _ _ _ h => h) (Or.inl ⟨by rfl, ?_⟩) (by assumption) ?_
          rotate_left
          · (intro wx hSw; (try dsimp only at hSw); go_simp; try with_reducible rfl)
          try simp only [Act.put, List.getElem_toArray, List.getElem_cons_succ, List.getElem_cons_zero, List.setIfInBounds_toArray, List.set_cons_zero, List.set_cons_succ]
          refine wpAnyH_take (i := 8) (v := undef) rfl (by kernel_rfl) (by kernel_rfl) (by kernel_rfl) (fun _ _ _ h => h) (Or.inr ⟨by rfl, rfl⟩) (by assumption) ?_
          try simp only [Act.put, List.getElem_toArray, List.getElem_cons_succ, List.getElem_cons_zero, List.setIfInBounds_toArray, List.set_cons_zero, List.set_cons_succ]
          refine wpAnyH_take (i := 9) (v := undef) rfl (by kernel_rfl) (by kernel_rfl) (by kernel_rfl) (fun _ _ _ h => h) (Or.inr ⟨by rfl, rfl⟩) (by assumption) ?_
          try simp only [Act.put, List.getElem_toArray, List.getElem_cons_succ, List.getElem_cons_zero, List.setIfInBounds_toArray, List.set_cons_zero, List.set_cons_succ]
          refine wpAnyH_take (i := 10) (v := undef) rfl (by kernel_rfl) (by kernel_rfl) (by kernel_rfl) (fun _ _ _ h => h) (Or.inr ⟨by rfl, rfl⟩) (by assumption) ?_
          try simp only [Act.put, List.getElem_toArray, List.getElem_cons_succ, List.getElem_cons_zero, List.setIfInBounds_toArray, List.set_cons_zero, List.set_cons_succ]
          refine wpAnyH_take (i := 11) (v := undef) rfl (by kernel_rfl) (by kernel_rfl) (by kernel_rfl) (fun _ _ _ h => h) (Or.inr ⟨by rfl, rfl⟩) (by assumption) ?_
          try simp only [Act.put, List.getElem_toArray, List.getElem_cons_succ, List.getElem_cons_zero, List.setIfInBounds_toArray, List.set_cons_zero, List.set_cons_succ]
          refine wpAnyH_take (i := 12) (v := undef) rfl (by kernel_rfl) (by kernel_rfl) (by kernel_rfl) (fun _ _ _ h => h) (Or.inr ⟨by rfl, rfl⟩) (by assumption) ?_
          try simp only [Act.put, List.getElem_toArray, List.getElem_cons_succ, List.getElem_cons_zero, List.setIfInBounds_toArray, List.set_cons_zero, List.set_cons_succ]
          refine wpAnyH_take (i := 13) (v := undef) rfl (by kernel_rfl) (by kernel_rfl) (by kernel_rfl) (fun _ _ _ h => h) (Or.inr ⟨by rfl, rfl⟩) (by assumption) ?_
          try simp only [Act.put, List.getElem_toArray, List.getElem_cons_succ, List.getElem_cons_zero, List.setIfInBounds_toArray, List.set_cons_zero, List.set_cons_succ]
          refine wpAnyH_take (i := 14) (v := undef) rfl (by kernel_rfl) (by kernel_rfl) (by kernel_rfl) (fun _ _ _ h => h) (Or.inr ⟨by rfl, rfl⟩) (by assumption) ?_
          try simp only [Act.put, List.getElem_toArray, List.getElem_cons_succ, List.getElem_cons_zero, List.setIfInBounds_toArray, List.set_cons_zero, List.set_cons_succ]
          refine wpAnyH_take (i := 15) (v := undef) rfl (by kernel_rfl) (by kernel_rfl) (by kernel_rfl) (fun _ _ _ h => h) (Or.inr ⟨by rfl, rfl⟩) (by assumption) ?_
          try simp only [Act.put, List.getElem_toArray, List.getElem_cons_succ, List.getElem_cons_zero, List.setIfInBounds_toArray, List.set_cons_zero, List.set_cons_succ]
          refine wpAnyH_take (i := 16) (v := undef) rfl (by kernel_rfl) (by kernel_rfl) (by kernel_rfl) (fun _ _ _ h => h) (Or.inr ⟨by rfl, rfl⟩) (by assumption) ?_
          try simp only [Act.put, List.getElem_toArray, List.getElem_cons_succ, List.getElem_cons_zero, List.setIfInBounds_toArray, List.set_cons_zero, List.set_cons_succ]
          refine wpAnyH_take (i := 17) (v := undef) rfl (by kernel_rfl) (by kernel_rfl) (by kernel_rfl) (fun _ _ _ h => h) (Or.inr ⟨by rfl, rfl⟩) (by assumption) ?_
          try simp only [Act.put, List.getElem_toArray, List.getElem_cons_succ, List.getElem_cons_zero, List.setIfInBounds_toArray, List.set_cons_zero, List.set_cons_succ]
          refine wpAnyH_take (i := 18) (v := ?_) rfl (by kernel_rfl) (by kernel_rfl) (by kernel_rfl) (fun _ _ _ h => h) (Or.inl ⟨by rfl, ?_⟩) (by assumption) ?_
          rotate_left
          · (intro wx hSw; (try dsimp only at hSw); go_simp; try with_reducible rfl)
          try simp only [Act.put, List.getElem_toArray, List.getElem_cons_succ, List.getElem_cons_zero, List.setIfInBounds_toArray, List.set_cons_zero, List.set_cons_succ]
          refine wpAnyH_take (i := 19) (v := ?_) rfl (by kernel_rfl) (by kernel_rfl) (by kernel_rfl) (fun _ _ _ h => h) (Or.inl ⟨by rfl, ?_⟩) (by assumption) ?_
          rotate_left
          · (intro wx hSw; (try dsimp only at hSw); go_simp; try with_reducible rfl)
          try simp only [Act.put, List.getElem_toArray, List.getElem_cons_succ, List.getElem_cons_zero, List.setIfInBounds_toArray, List.set_cons_zero, List.set_cons_succ]
          refine wpAnyH_done (by kernel_rfl) ?_ _
          go_wp2_with fail
          go_meet
          exact ⟨rfl, hHeld⟩
        · have hd := HD.out
          unfold bestD at hd
          rw [HOK.out, if_pos rfl] at hd
          injection hd with e1 e2 e3 e4
          subst e1; subst e2; subst e3; subst e4
          have hc := HOK.out
          unfold cntD at hc
          simp only [Bool.and_eq_true, Bool.not_eq_true', decide_eq_true_iff] at hc
          obtain ⟨e5, hgt⟩ := hc
          subst e5
          have p1 : decide ((0 : Int) < ea) = true := decide_eq_true (by have := MX0.out; omega)
          have p2 : decide (ea ≤ mx) = false := decide_eq_false (by omega)
          refine wp_region_held_drew (S := fun w' => Below W7.heap.size W7 w') (by kernel_rfl) ?_ (fun hHeld => ?_)
          · exact (Below.refl _ _).drew
          refine wpAnyH_take (i := 0) (v := ?_) rfl (by kernel_rfl) (by kernel_rfl) (by kernel_rfl) (fun _ _ _ h => h) (Or.inl ⟨by rfl, ?_⟩) (by assumption) ?_
          rotate_left
          · (intro wx hSw; (try dsimp only at hSw); go_simp; try with_reducible rfl)
          try simp only [Act.put, List.getElem_toArray, List.getElem_cons_succ, List.getElem_cons_zero, List.setIfInBounds_toArray, List.set_cons_zero, List.set_cons_succ]
          refine wpAnyH_take (i := 1) (v := ?_) rfl (by kernel_rfl) (by kernel_rfl) (by kernel_rfl) (fun _ _ _ h => h) (Or.inl ⟨by rfl, ?_⟩) (by assumption) ?_
          rotate_left
          · (intro wx hSw; (try dsimp only at hSw); go_simp; try with_reducible rfl)
          try simp only [Act.put, List.getElem_toArray, List.getElem_cons_succ, List.getElem_cons_zero, List.setIfInBounds_toArray, List.set_cons_zero, List.set_cons_succ]
          refine wpAnyH_take (i := 2) (v := ?_) rfl (by kernel_rfl) (by kernel_rfl) (by kernel_rfl) (fun _ _ _ h => h) (Or.inl ⟨by rfl, ?_⟩) (by assumption) ?_
          rotate_left
          · (intro wx hSw; (try dsimp only at hSw); obtain ⟨_, _, ⟨_, _, _, _, _, _, _, _⟩, _, _, _, _, _, _, _⟩ := HALL7.out _ hSw; go_simp; try with_reducible rfl)
          try simp only [Act.put, List.getElem_toArray, List.getElem_cons_succ, List.getElem_cons_zero, List.setIfInBounds_toArray, List.set_cons_zero, List.set_cons_succ]
          refine wpAnyH_take (i := 3) (v := ?_) rfl (by kernel_rfl) (by kernel_rfl) (by kernel_rfl) (fun _ _ _ h => h) (Or.inl ⟨by rfl, ?_⟩) (by assumption) ?_
          rotate_left
          · (intro wx hSw; (try dsimp only at hSw); go_simp; try with_reducible rfl)
          try simp only [Act.put, List.getElem_toArray, List.getElem_cons_succ, List.getElem_cons_zero, List.setIfInBounds_toArray, List.set_cons_zero, List.set_cons_succ]
          refine wpAnyH_take (i := 4) (v := ?_) rfl (by kernel_rfl) (by kernel_rfl) (by kernel_rfl) (fun _ _ _ h => h) (Or.inl ⟨by rfl, ?_⟩) (by assumption) ?_
          rotate_left
          · (intro wx hSw; (try dsimp only at hSw); go_simp; try with_reducible rfl)
          try simp only [Act.put, List.getElem_toArray, List.getElem_cons_succ, List.getElem_cons_zero, List.setIfInBounds_toArray, List.set_cons_zero, List.set_cons_succ]
          refine wpAnyH_take (i := 5) (v := ?_) rfl (by kernel_rfl) (by kernel_rfl) (by kernel_rfl) (fun _ _ _ h => h) (Or.inl ⟨by rfl, ?_⟩) (by assumption) ?_
          rotate_left
          · (intro wx hSw; (try dsimp only at hSw); go_simp; try with_reducible rfl)
          try simp only [Act.put, List.getElem_toArray, List.getElem_cons_succ, List.getElem_cons_zero, List.setIfInBounds_toArray, List.set_cons_zero, List.set_cons_succ]
          refine wpAnyH_take (i := 6) (v := ?_) rfl (by kernel_rfl) (by kernel_rfl) (by kernel_rfl) (fun _ _ _ h => h) (Or.inl ⟨by rfl, ?_⟩) (by assumption) ?_
          rotate_left
          · (intro wx hSw; (try dsimp only at hSw); go_simp; try with_reducible rfl)
          try simp only [Act.put, List.getElem_toArray, List.getElem_cons_succ, List.getElem_cons_zero, List.setIfInBounds_toArray, List.set_cons_zero, List.set_cons_succ]
          refine wpAnyH_take (i := 7) (v := ?_) rfl (by kernel_rfl) (by kernel_rfl) (by kernel_rfl) (fun _ _ _ h => h) (Or.inl ⟨by rfl, ?_⟩) (by assumption) ?_
          rotate_left
          · (intro wx hSw; (try dsimp only at hSw); go_simp; try with_reducible rfl)
          try simp only [Act.put, List.getElem_toArray, List.getElem_cons_succ, List.getElem_cons_zero, List.setIfInBounds_toArray, List.set_cons_zero, List.set_cons_succ]
          refine wpAnyH_take (i := 8) (v := ?_) rfl (by kernel_rfl) (by kernel_rfl) (by kernel_rfl) (fun _ _ _ h => h) (Or.inl ⟨by rfl, ?_⟩) (by assumption) ?_
          rotate_left
          · (intro wx hSw; (try dsimp only at hSw); go_simp; try with_reducible rfl)
          try simp only [Act.put, List.getElem_toArray, List.getElem_cons_succ, List.getElem_cons_zero, List.setIfInBounds_toArray, List.set_cons_zero, List.set_cons_succ]
          refine wpAnyH_take (i := 9) (v := ?_) rfl (by kernel_rfl) (by kernel_rfl) (by kernel_rfl) (fun _ _ _ h => h) (Or.inl ⟨by rfl, ?_⟩) (by assumption) ?_
          rotate_left
          · (intro wx hSw; (try dsimp only at hSw); obtain ⟨_, _, ⟨_, _, _, _, _, _, _, _⟩, _, _, _, _, _, _, _⟩ := HALL7.out _ hSw; go_simp; try with_reducible rfl)
          try simp only [Act.put, List.getElem_toArray, List.getElem_cons_succ, List.getElem_cons_zero, List.setIfInBounds_toArray, List.set_cons_zero, List.set_cons_succ]
          refine wpAnyH_take (i := 10) (v := ?_) rfl (by kernel_rfl) (by kernel_rfl) (by kernel_rfl) (fun _ _ _ h => h) (Or.inl ⟨by rfl, ?_⟩) (by assumption) ?_
          rotate_left
          · (intro wx hSw; (try dsimp only at hSw); obtain ⟨_, _, ⟨_, _, _, _, _, _, _, _⟩, _, _, _, _, _, _, _⟩ := HALL7.out _ hSw; go_simp; try with_reducible rfl)
          try simp only [Act.put, List.getElem_toArray, List.getElem_cons_succ, List.getElem_cons_zero, List.setIfInBounds_toArray, List.set_cons_zero, List.set_cons_succ]
          refine wpAnyH_take (i := 11) (v := ?_) rfl (by kernel_rfl) (by kernel_rfl) (by kernel_rfl) (fun _ _ _ h => h) (Or.inl ⟨by rfl, ?_⟩) (by assumption) ?_
          rotate_left
          · (intro wx hSw; (try dsimp only at hSw); go_simp; try with_reducible rfl)
          try simp only [Act.put, List.getElem_toArray, List.getElem_cons_succ, List.getElem_cons_zero, List.setIfInBounds_toArray, List.set_cons_zero, List.set_cons_succ]
          refine wpAnyH_ready (rs := [12]) (by kernel_rfl) (by simp) (AllReadyH.cons rfl (fun K hK => ?_) AllReadyH.nil)
          go_simp
          refine (gone_ro X A4 c4 g W7.drew).mono ?_
          rintro x u8 ⟨rfl, b9⟩
          rw [MX.out]
          have BN := Lib.hid b9
          clear b9
          try go_wp2_with fail
          refine hK.out _ _ ?_ (fun hHeld => ?_)
          · exact hHeld.trans (BN.out.mono hHeld.size)
          clear hK K
          try simp only [Act.put, List.getElem_toArray, List.getElem_cons_succ, List.getElem_cons_zero, List.setIfInBounds_toArray, List.set_cons_zero, List.set_cons_succ]
          refine wpAnyH_take (i := 13) (v := ?_) rfl (by kernel_rfl) (by kernel_rfl) (by kernel_rfl) (fun _ _ _ h => h) (Or.inl ⟨by rfl, ?_⟩) (by assumption) ?_
          rotate_left
          · (intro wx hSw; (try dsimp only at hSw); go_simp; try with_reducible rfl)
          try simp only [Act.put, List.getElem_toArray, List.getElem_cons_succ, List.getElem_cons_zero, List.setIfInBounds_toArray, List.set_cons_zero, List.set_cons_succ]
          refine wpAnyH_take (i := 14) (v := ?_) rfl (by kernel_rfl) (by kernel_rfl) (by kernel_rfl) (fun _ _ _ h => h) (Or.inl ⟨by rfl, ?_⟩) (by assumption) ?_
          rotate_left
          · (intro wx hSw; (try dsimp only at hSw); go_simp; try with_reducible rfl)
          try simp only [Act.put, List.getElem_toArray, List.getElem_cons_succ, List.getElem_cons_zero, List.setIfInBounds_toArray, List.set_cons_zero, List.set_cons_succ]
          refine wpAnyH_take (i := 15) (v := ?_) rfl (by kernel_rfl) (by kernel_rfl) (by kernel_rfl) (fun _ _ _ h => h) (Or.inl ⟨by rfl, ?_⟩) (by assumption) ?_
          rotate_left
          · (intro wx hSw; (try dsimp only at hSw); go_simp; try with_reducible rfl)
          try simp only [Act.put, List.getElem_toArray, List.getElem_cons_succ, List.getElem_cons_zero, List.setIfInBounds_toArray, List.set_cons_zero, List.set_cons_succ]
          refine wpAnyH_take (i := 16) (v := ?_) rfl (by kernel_rfl) (by kernel_rfl) (by kernel_rfl) (fun _ _ _ h => h) (Or.inl ⟨by rfl, ?_⟩) (by assumption) ?_
          rotate_left
          · (intro wx hSw; (try dsimp only at hSw); obtain ⟨_, _, ⟨_, _, _, _, _, _, _, _⟩, _, _, _, _, _, _, _⟩ := HALL7.out _ hSw; go_simp; try with_reducible rfl)
          try simp only [Act.put, List.getElem_toArray, List.getElem_cons_succ, List.getElem_cons_zero, List.setIfInBounds_toArray, List.set_cons_zero, List.set_cons_succ]
          refine wpAnyH_take (i := 17) (v := ?_) rfl (by kernel_rfl) (by kernel_rfl) (by kernel_rfl) (fun _ _ _ h => h) (Or.inl ⟨by rfl, ?_⟩) (by assumption) ?_
          rotate_left
          · (intro wx hSw; (try dsimp only at hSw); go_simp; try with_reducible rfl)
          try simp only [Act.put, List.getElem_toArray, List.getElem_cons_succ, List.getElem_cons_zero, List.setIfInBounds_toArray, List.set_cons_zero, List.set_cons_succ]
          refine wpAnyH_take (i := 18) (v := ?_) rfl (by kernel_rfl) (by kernel_rfl) (by kernel_rfl) (fun _ _ _ h => h) (Or.inl ⟨by rfl, ?_⟩) (by assumption) ?_
          rotate_left
          · (intro wx hSw; (try dsimp only at hSw); go_simp; try with_reducible rfl)
          try simp only [Act.put, List.getElem_toArray, List.getElem_cons_succ, List.getElem_cons_zero, List.setIfInBounds_toArray, List.set_cons_zero, List.set_cons_succ]
          refine wpAnyH_take (i := 19) (v := ?_) rfl (by kernel_rfl) (by kernel_rfl) (by kernel_rfl) (fun _ _ _ h => h) (Or.inl ⟨by rfl, ?_⟩) (by assumption) ?_
          rotate_left
          · (intro wx hSw; (try dsimp only at hSw); go_simp; try with_reducible rfl)
          try simp only [Act.put, List.getElem_toArray, List.getElem_cons_succ, List.getElem_cons_zero, List.setIfInBounds_toArray, List.set_cons_zero, List.set_cons_succ]
          refine wpAnyH_done (by kernel_rfl) ?_ _
          go_wp2_with fail
          go_meet
          exact ⟨rfl, hHeld⟩
      case rest =>
        obtain ⟨rfl, hbc⟩ := hcut
        have BC := Lib.hid hbc
        clear hbc HOK HD
        obtain ⟨⟨ps, pd, pa, pe⟩, hp⟩ : ∃ P, getC l1 m = P := ⟨_, rfl⟩
        obtain ⟨⟨qs, qd, qa, qe⟩, hq⟩ : ∃ P, getC l2 m = P := ⟨_, rfl⟩
        have hjoin : (⟨es, ed, ea, ee⟩ : Ce) = Ce.join ⟨ps, pd, pa, pe⟩ ⟨qs, qd, qa, qe⟩ := by
          rw [← HE.out, ← hp, ← hq, ← J1.out]
          exact getC_mrg UA.out.rise UA.out.full UB.out.rise UB.out.full m
        have GP := Lib.hid (show (getC (rowN a1 e1 g1' l1).cols m).v = .agg #[.string ps, .bool pd, .int .i64 pa, .int .i64 pe] from by rw [show getC (rowN a1 e1 g1' l1).cols m = _ from hp]; rfl)
        have GQ := Lib.hid (show (getC (rowN a2 e2 g2 l2).cols m).v = .agg #[.string qs, .bool qd, .int .i64 qa, .int .i64 qe] from by rw [show getC (rowN a2 e2 g2 l2).cols m = _ from hq]; rfl)
        have GE := Lib.hid (show (getC X.cols m).v = .agg #[.string es, .bool ed, .int .i64 ea, .int .i64 ee] from by rw [HE.out]; rfl)
        have HJ := Lib.hid hjoin
        clear hp hq hjoin HE
        go_upto_region 15 with fail
        go_cut [17, 18, 19] from 95 to 103 (fun s17 s18 s19 wx => ∃ q1 q2 q3, s17 = .pointer (some ⟨q1, 0, none⟩) ∧ s18 = .pointer (some ⟨q2, 0, none⟩) ∧ s19 = .pointer (some ⟨q3, 0, none⟩) ∧ CB wx q1 ps pd pa pe ∧ CB wx q2 qs qd qa qe ∧ CB wx q3 es ed ea ee ∧ Below W7.heap.size W7 wx)
        case first =>
          refine wp_region_g (by kernel_rfl) ?_
          refine wpAnyG_take (i := 0) (v := ?_) rfl (by kernel_rfl) (by kernel_rfl) (by kernel_rfl) (by kernel_rfl) (fun _ _ _ h => h) (gives_value (by rfl) ?_) ?_
          rotate_left
          · (intro wx hSw; obtain ⟨⟨_, _, _, _, _, _, _, _⟩, ⟨_, _, _, _, _, _, _, _⟩, ⟨_, _, _, _, _, _, _, _⟩, _⟩ := HALL7.out _ (BC.out.trans (Below.mono (show Below wc.heap.size wc wx from hSw) BC.out.size)); go_simp; try with_reducible rfl)
          try simp only [Act.put, List.getElem_toArray, List.getElem_cons_succ, List.getElem_cons_zero, List.setIfInBounds_toArray, List.set_cons_zero, List.set_cons_succ]
          refine wpAnyG_take (i := 1) (v := ?_) rfl (by kernel_rfl) (by kernel_rfl) (by kernel_rfl) (by kernel_rfl) (fun _ _ _ h => h) (gives_value (by rfl) ?_) ?_
          rotate_left
          · (intro wx hSw; go_simp; try with_reducible rfl)
          try simp only [Act.put, List.getElem_toArray, List.getElem_cons_succ, List.getElem_cons_zero, List.setIfInBounds_toArray, List.set_cons_zero, List.set_cons_succ]
          refine wpAnyG_take (i := 2) (v := (.agg #[.string ps, .bool pd, .int .i64 pa, .int .i64 pe])) rfl (by kernel_rfl) (by kernel_rfl) (by kernel_rfl) (by kernel_rfl) (fun _ _ _ h => h) (gives_call 21 #[Ro.val (rowN a1 e1 g1' l1) A1 c1, .string m] (by rfl) ?_ ?_) ?_
          · (intro wx hSw; unfold Ro.val; (try unfold rowN); go_simp; try with_reducible rfl)
          · intro wx hSw
            obtain ⟨_, _, _, ja, jb, jx, _⟩ := HALL7.out _ (BC.out.trans (Below.mono (show Below wc.heap.size wc wx from hSw) BC.out.size))
            have hsx : wc.heap.size ≤ wx.heap.size := Below.size (show Below wc.heap.size wc wx from hSw)
            refine (cell_ro (rowN a1 e1 g1' l1) A1 c1 w3.heap.size m wx ja (by have := BC.out.size; have := HS7.out; omega) (by have := LEN.out; omega)).mono ?_
            rintro x w9 ⟨rfl, b9⟩
            exact ⟨by rw [GP.out], b9⟩
          try simp only [Act.put, List.getElem_toArray, List.getElem_cons_succ, List.getElem_cons_zero, List.setIfInBounds_toArray, List.set_cons_zero, List.set_cons_succ]
          refine wpAnyG_take (i := 3) (v := ?_) rfl (by kernel_rfl) (by kernel_rfl) (by kernel_rfl) (by kernel_rfl) (fun _ _ _ h => h) (gives_value (by rfl) ?_) ?_
          rotate_left
          · (intro wx hSw; obtain ⟨⟨_, _, _, _, _, _, _, _⟩, ⟨_, _, _, _, _, _, _, _⟩, ⟨_, _, _, _, _, _, _, _⟩, _⟩ := HALL7.out _ (BC.out.trans (Below.mono (show Below wc.heap.size wc wx from hSw) BC.out.size)); go_simp; try with_reducible rfl)
          try simp only [Act.put, List.getElem_toArray, List.getElem_cons_succ, List.getElem_cons_zero, List.setIfInBounds_toArray, List.set_cons_zero, List.set_cons_succ]
          refine wpAnyG_take (i := 4) (v := ?_) rfl (by kernel_rfl) (by kernel_rfl) (by kernel_rfl) (by kernel_rfl) (fun _ _ _ h => h) (gives_value (by rfl) ?_) ?_
          rotate_left
          · (intro wx hSw; go_simp; try with_reducible rfl)
          try simp only [Act.put, List.getElem_toArray, List.getElem_cons_succ, List.getElem_cons_zero, List.setIfInBounds_toArray, List.set_cons_zero, List.set_cons_succ]
          refine wpAnyG_take (i := 5) (v := (.agg #[.string qs, .bool qd, .int .i64 qa, .int .i64 qe])) rfl (by kernel_rfl) (by kernel_rfl) (by kernel_rfl) (by kernel_rfl) (fun _ _ _ h => h) (gives_call 21 #[Ro.val (rowN a2 e2 g2 l2) A2 c2, .string m] (by rfl) ?_ ?_) ?_
          · (intro wx hSw; unfold Ro.val; (try unfold rowN); go_simp; try with_reducible rfl)
          · intro wx hSw
            obtain ⟨_, _, _, ja, jb, jx, _⟩ := HALL7.out _ (BC.out.trans (Below.mono (show Below wc.heap.size wc wx from hSw) BC.out.size))
            have hsx : wc.heap.size ≤ wx.heap.size := Below.size (show Below wc.heap.size wc wx from hSw)
            refine (cell_ro (rowN a2 e2 g2 l2) A2 c2 w3.heap.size m wx jb (by have := BC.out.size; have := HS7.out; omega) (by have := LEN.out; omega)).mono ?_
            rintro x w9 ⟨rfl, b9⟩
            exact ⟨by rw [GQ.out], b9⟩
          try simp only [Act.put, List.getElem_toArray, List.getElem_cons_succ, List.getElem_cons_zero, List.setIfInBounds_toArray, List.set_cons_zero, List.set_cons_succ]
          refine wpAnyG_take (i := 6) (v := ?_) rfl (by kernel_rfl) (by kernel_rfl) (by kernel_rfl) (by kernel_rfl) (fun _ _ _ h => h) (gives_value (by rfl) ?_) ?_
          rotate_left
          · (intro wx hSw; obtain ⟨⟨_, _, _, _, _, _, _, _⟩, ⟨_, _, _, _, _, _, _, _⟩, ⟨_, _, _, _, _, _, _, _⟩, _⟩ := HALL7.out _ (BC.out.trans (Below.mono (show Below wc.heap.size wc wx from hSw) BC.out.size)); go_simp; try with_reducible rfl)
          try simp only [Act.put, List.getElem_toArray, List.getElem_cons_succ, List.getElem_cons_zero, List.setIfInBounds_toArray, List.set_cons_zero, List.set_cons_succ]
          refine wpAnyG_take (i := 7) (v := ?_) rfl (by kernel_rfl) (by kernel_rfl) (by kernel_rfl) (by kernel_rfl) (fun _ _ _ h => h) (gives_value (by rfl) ?_) ?_
          rotate_left
          · (intro wx hSw; go_simp; try with_reducible rfl)
          try simp only [Act.put, List.getElem_toArray, List.getElem_cons_succ, List.getElem_cons_zero, List.setIfInBounds_toArray, List.set_cons_zero, List.set_cons_succ]
          refine wpAnyG_take (i := 8) (v := (.agg #[.string es, .bool ed, .int .i64 ea, .int .i64 ee])) rfl (by kernel_rfl) (by kernel_rfl) (by kernel_rfl) (by kernel_rfl) (fun _ _ _ h => h) (gives_call 21 #[Ro.val X A4 c4, .string m] (by rfl) ?_ ?_) ?_
          · (intro wx hSw; unfold Ro.val; (try unfold rowN); go_simp; try with_reducible rfl)
          · intro wx hSw
            obtain ⟨_, _, _, ja, jb, jx, _⟩ := HALL7.out _ (BC.out.trans (Below.mono (show Below wc.heap.size wc wx from hSw) BC.out.size))
            have hsx : wc.heap.size ≤ wx.heap.size := Below.size (show Below wc.heap.size wc wx from hSw)
            refine (cell_ro X A4 c4 v4.heap.size m wx jx (by have := BC.out.size; have := HS7.out; omega) (by have := LEN.out; omega)).mono ?_
            rintro x w9 ⟨rfl, b9⟩
            exact ⟨by rw [GE.out], b9⟩
          try simp only [Act.put, List.getElem_toArray, List.getElem_cons_succ, List.getElem_cons_zero, List.setIfInBounds_toArray, List.set_cons_zero, List.set_cons_succ]
          intro y0 hy0
          have hy0 : Below wc.heap.size wc y0 := hy0
          have hq0 := hy0.size
          refine wpAnyG_ready (rs := [9, 10, 11]) (by kernel_rfl) (by simp) (AllG.cons rfl (fun K hK => ?_) (AllG.cons rfl (fun K hK => ?_) (AllG.cons rfl (fun K hK => ?_) AllG.nil)))
          · go_simp
            refine hK.out _ _ ?_ (fun y1 hb1 => ?_)
            · exact hy0.alloc hq0 _
            clear hK K
            try simp only [Act.put, List.getElem_toArray, List.getElem_cons_succ, List.getElem_cons_zero, List.setIfInBounds_toArray, List.set_cons_zero, List.set_cons_succ]
            have hs1 : y0.heap.size < y1.heap.size := by have := hb1.size; simp at this; omega
            have z9 : CB y1 y0.heap.size ⟨#[]⟩ false 0 0 := (hb1.block _ (by simp)).trans (heap_alloc_new y0 (.cells #[.string ⟨#[]⟩, .bool false, .int .i64 0, .int .i64 0] 23))
            have hy1 := (hy0.alloc hq0 (.cells #[.string ⟨#[]⟩, .bool false, .int .i64 0, .int .i64 0] 23)).trans (hb1.mono (hy0.alloc hq0 (.cells #[.string ⟨#[]⟩, .bool false, .int .i64 0, .int .i64 0] 23)).size)
            have hq1 := hy1.size
            clear hb1
            refine wpAnyG_ready (rs := [10, 11]) (by kernel_rfl) (by simp) (AllG.cons rfl (fun K hK => ?_) (AllG.cons rfl (fun K hK => ?_) AllG.nil))
            · go_simp
              refine hK.out _ _ ?_ (fun y2 hb2 => ?_)
              · exact hy1.alloc hq1 _
              clear hK K
              try simp only [Act.put, List.getElem_toArray, List.getElem_cons_succ, List.getElem_cons_zero, List.setIfInBounds_toArray, List.set_cons_zero, List.set_cons_succ]
              have hs2 : y1.heap.size < y2.heap.size := by have := hb2.size; simp at this; omega
              have z9 := (hb2.block _ (Array.getElem?_eq_some_iff.1 (new_at z9 (.cells #[.string ⟨#[]⟩, .bool false, .int .i64 0, .int .i64 0] 23))).1).trans (new_at z9 (.cells #[.string ⟨#[]⟩, .bool false, .int .i64 0, .int .i64 0] 23))
              have z10 : CB y2 y1.heap.size ⟨#[]⟩ false 0 0 := (hb2.block _ (by simp)).trans (heap_alloc_new y1 (.cells #[.string ⟨#[]⟩, .bool false, .int .i64 0, .int .i64 0] 23))
              have hy2 := (hy1.alloc hq1 (.cells #[.string ⟨#[]⟩, .bool false, .int .i64 0, .int .i64 0] 23)).trans (hb2.mono (hy1.alloc hq1 (.cells #[.string ⟨#[]⟩, .bool false, .int .i64 0, .int .i64 0] 23)).size)
              have hq2 := hy2.size
              clear hb2
              refine wpAnyG_ready (rs := [11]) (by kernel_rfl) (by simp) (AllG.cons rfl (fun K hK => ?_) AllG.nil)
              · go_simp
                refine hK.out _ _ ?_ (fun y3 hb3 => ?_)
                · exact hy2.alloc hq2 _
                clear hK K
                try simp only [Act.put, List.getElem_toArray, List.getElem_cons_succ, List.getElem_cons_zero, List.setIfInBounds_toArray, List.set_cons_zero, List.set_cons_succ]
                have hs3 : y2.heap.size < y3.heap.size := by have := hb3.size; simp at this; omega
                have z9 := (hb3.block _ (Array.getElem?_eq_some_iff.1 (new_at z9 (.cells #[.string ⟨#[]⟩, .bool false, .int .i64 0, .int .i64 0] 23))).1).trans (new_at z9 (.cells #[.string ⟨#[]⟩, .bool false, .int .i64 0, .int .i64 0] 23))
                have z10 := (hb3.block _ (Array.getElem?_eq_some_iff.1 (new_at z10 (.cells #[.string ⟨#[]⟩, .bool false, .int .i64 0, .int .i64 0] 23))).1).trans (new_at z10 (.cells #[.string ⟨#[]⟩, .bool false, .int .i64 0, .int .i64 0] 23))
                have z11 : CB y3 y2.heap.size ⟨#[]⟩ false 0 0 := (hb3.block _ (by simp)).trans (heap_alloc_new y2 (.cells #[.string ⟨#[]⟩, .bool false, .int .i64 0, .int .i64 0] 23))
                have hy3 := (hy2.alloc hq2 (.cells #[.string ⟨#[]⟩, .bool false, .int .i64 0, .int .i64 0] 23)).trans (hb3.mono (hy2.alloc hq2 (.cells #[.string ⟨#[]⟩, .bool false, .int .i64 0, .int .i64 0] 23)).size)
                have hq3 := hy3.size
                clear hb3
                refine wpAnyG_ready (rs := [12]) (by kernel_rfl) (by simp) (AllG.cons rfl (fun K hK => ?_) AllG.nil)
                have m0 := block_setCell (i := 0) z9 (.string ps)
                have m1 := block_setCell (i := 1) m0 (.bool pd)
                have m2 := block_setCell (i := 2) m1 (.int .i64 pa)
                simp only [List.setIfInBounds_toArray, List.set_cons_zero, List.set_cons_succ] at m0 m1 m2
                have k0 := cell_at (i := 0) z9 rfl
                have k1 := cell_at (i := 1) m0 rfl
                have k2 := cell_at (i := 2) m1 rfl
                have k3 := cell_at (i := 3) m2 rfl
                have f0 := thawed_at (i := 0) z9
                have f1 := thawed_at (i := 1) m0
                have f2 := thawed_at (i := 2) m1
                have f3 := thawed_at (i := 3) m2
                clear m0 m1 m2
                go_simp
                refine hK.out _ _ ?_ (fun y4 hb4 => ?_)
                · exact four_below hy3 _ (by omega) _ _ _ _
                clear hK K k0 k1 k2 k3 f0 f1 f2 f3
                try simp only [Act.put, List.getElem_toArray, List.getElem_cons_succ, List.getElem_cons_zero, List.setIfInBounds_toArray, List.set_cons_zero, List.set_cons_succ]
                have hw4 := CB.set z9 ps pd pa pe
                have z10 := (hb4.block _ (by rw [four_size]; exact (Array.getElem?_eq_some_iff.1 z10).1)).trans ((four_heap _ _ _ _ _ _ _ (by omega)).trans z10)
                have z11 := (hb4.block _ (by rw [four_size]; exact (Array.getElem?_eq_some_iff.1 z11).1)).trans ((four_heap _ _ _ _ _ _ _ (by omega)).trans z11)
                have z9 : CB y4 y0.heap.size ps pd pa pe := (hb4.block _ (Array.getElem?_eq_some_iff.1 hw4).1).trans hw4
                have hy4 := (four_below hy3 _ (by omega) _ _ _ _).trans (hb4.mono (four_below hy3 y0.heap.size (by omega) (.string ps) (.bool pd) (.int .i64 pa) (.int .i64 pe)).size)
                clear hb4 hw4
                refine wpAnyG_ready (rs := [13]) (by kernel_rfl) (by simp) (AllG.cons rfl (fun K hK => ?_) AllG.nil)
                have m0 := block_setCell (i := 0) z10 (.string qs)
                have m1 := block_setCell (i := 1) m0 (.bool qd)
                have m2 := block_setCell (i := 2) m1 (.int .i64 qa)
                simp only [List.setIfInBounds_toArray, List.set_cons_zero, List.set_cons_succ] at m0 m1 m2
                have k0 := cell_at (i := 0) z10 rfl
                have k1 := cell_at (i := 1) m0 rfl
                have k2 := cell_at (i := 2) m1 rfl
                have k3 := cell_at (i := 3) m2 rfl
                have f0 := thawed_at (i := 0) z10
                have f1 := thawed_at (i := 1) m0
                have f2 := thawed_at (i := 2) m1
                have f3 := thawed_at (i := 3) m2
                clear m0 m1 m2
                go_simp
                refine hK.out _ _ ?_ (fun y5 hb5 => ?_)
                · exact four_below hy4 _ (by omega) _ _ _ _
                clear hK K k0 k1 k2 k3 f0 f1 f2 f3
                try simp only [Act.put, List.getElem_toArray, List.getElem_cons_succ, List.getElem_cons_zero, List.setIfInBounds_toArray, List.set_cons_zero, List.set_cons_succ]
                have hw5 := CB.set z10 qs qd qa qe
                have z9 := (hb5.block _ (by rw [four_size]; exact (Array.getElem?_eq_some_iff.1 z9).1)).trans ((four_heap _ _ _ _ _ _ _ (by omega)).trans z9)
                have z11 := (hb5.block _ (by rw [four_size]; exact (Array.getElem?_eq_some_iff.1 z11).1)).trans ((four_heap _ _ _ _ _ _ _ (by omega)).trans z11)
                have z10 : CB y5 y1.heap.size qs qd qa qe := (hb5.block _ (Array.getElem?_eq_some_iff.1 hw5).1).trans hw5
                have hy5 := (four_below hy4 _ (by omega) _ _ _ _).trans (hb5.mono (four_below hy4 y1.heap.size (by omega) (.string qs) (.bool qd) (.int .i64 qa) (.int .i64 qe)).size)
                clear hb5 hw5
                refine wpAnyG_ready (rs := [14]) (by kernel_rfl) (by simp) (AllG.cons rfl (fun K hK => ?_) AllG.nil)
                have m0 := block_setCell (i := 0) z11 (.string es)
                have m1 := block_setCell (i := 1) m0 (.bool ed)
                have m2 := block_setCell (i := 2) m1 (.int .i64 ea)
                simp only [List.setIfInBounds_toArray, List.set_cons_zero, List.set_cons_succ] at m0 m1 m2
                have k0 := cell_at (i := 0) z11 rfl
                have k1 := cell_at (i := 1) m0 rfl
                have k2 := cell_at (i := 2) m1 rfl
                have k3 := cell_at (i := 3) m2 rfl
                have f0 := thawed_at (i := 0) z11
                have f1 := thawed_at (i := 1) m0
                have f2 := thawed_at (i := 2) m1
                have f3 := thawed_at (i := 3) m2
                clear m0 m1 m2
                go_simp
                refine hK.out _ _ ?_ (fun y6 hb6 => ?_)
                · exact four_below hy5 _ (by omega) _ _ _ _
                clear hK K k0 k1 k2 k3 f0 f1 f2 f3
                try simp only [Act.put, List.getElem_toArray, List.getElem_cons_succ, List.getElem_cons_zero, List.setIfInBounds_toArray, List.set_cons_zero, List.set_cons_succ]
                have hw6 := CB.set z11 es ed ea ee
                have z9 := (hb6.block _ (by rw [four_size]; exact (Array.getElem?_eq_some_iff.1 z9).1)).trans ((four_heap _ _ _ _ _ _ _ (by omega)).trans z9)
                have z10 := (hb6.block _ (by rw [four_size]; exact (Array.getElem?_eq_some_iff.1 z10).1)).trans ((four_heap _ _ _ _ _ _ _ (by omega)).trans z10)
                have z11 : CB y6 y2.heap.size es ed ea ee := (hb6.block _ (Array.getElem?_eq_some_iff.1 hw6).1).trans hw6
                have hy6 := (four_below hy5 _ (by omega) _ _ _ _).trans (hb6.mono (four_below hy5 y2.heap.size (by omega) (.string es) (.bool ed) (.int .i64 ea) (.int .i64 ee)).size)
                clear hb6 hw6
                refine wpAnyG_done (by kernel_rfl) ?_ _
                go_wp2_with fail
                go_meet
                exact ⟨_, _, _, rfl, rfl, rfl, z9, z10, z11, BC.out.trans (hy6.mono BC.out.size)⟩
            · go_simp
              refine hK.out _ _ ?_ (fun y2 hb2 => ?_)
              · exact hy1.alloc hq1 _
              clear hK K
              try simp only [Act.put, List.getElem_toArray, List.getElem_cons_succ, List.getElem_cons_zero, List.setIfInBounds_toArray, List.set_cons_zero, List.set_cons_succ]
              have hs2 : y1.heap.size < y2.heap.size := by have := hb2.size; simp at this; omega
              have z9 := (hb2.block _ (Array.getElem?_eq_some_iff.1 (new_at z9 (.cells #[.string ⟨#[]⟩, .bool false, .int .i64 0, .int .i64 0] 23))).1).trans (new_at z9 (.cells #[.string ⟨#[]⟩, .bool false, .int .i64 0, .int .i64 0] 23))
              have z11 : CB y2 y1.heap.size ⟨#[]⟩ false 0 0 := (hb2.block _ (by simp)).trans (heap_alloc_new y1 (.cells #[.string ⟨#[]⟩, .bool false, .int .i64 0, .int .i64 0] 23))
              have hy2 := (hy1.alloc hq1 (.cells #[.string ⟨#[]⟩, .bool false, .int .i64 0, .int .i64 0] 23)).trans (hb2.mono (hy1.alloc hq1 (.cells #[.string ⟨#[]⟩, .bool false, .int .i64 0, .int .i64 0] 23)).size)
              have hq2 := hy2.size
              clear hb2
              refine wpAnyG_ready (rs := [10]) (by kernel_rfl) (by simp) (AllG.cons rfl (fun K hK => ?_) AllG.nil)
              · go_simp
                refine hK.out _ _ ?_ (fun y3 hb3 => ?_)
                · exact hy2.alloc hq2 _
                clear hK K
                try simp only [Act.put, List.getElem_toArray, List.getElem_cons_succ, List.getElem_cons_zero, List.setIfInBounds_toArray, List.set_cons_zero, List.set_cons_succ]
                have hs3 : y2.heap.size < y3.heap.size := by have := hb3.size; simp at this; omega
                have z9 := (hb3.block _ (Array.getElem?_eq_some_iff.1 (new_at z9 (.cells #[.string ⟨#[]⟩, .bool false, .int .i64 0, .int .i64 0] 23))).1).trans (new_at z9 (.cells #[.string ⟨#[]⟩, .bool false, .int .i64 0, .int .i64 0] 23))
                have z11 := (hb3.block _ (Array.getElem?_eq_some_iff.1 (new_at z11 (.cells #[.string ⟨#[]⟩, .bool false, .int .i64 0, .int .i64 0] 23))).1).trans (new_at z11 (.cells #[.string ⟨#[]⟩, .bool false, .int .i64 0, .int .i64 0] 23))
                have z10 : CB y3 y2.heap.size ⟨#[]⟩ false 0 0 := (hb3.block _ (by simp)).trans (heap_alloc_new y2 (.cells #[.string ⟨#[]⟩, .bool false, .int .i64 0, .int .i64 0] 23))
                have hy3 := (hy2.alloc hq2 (.cells #[.string ⟨#[]⟩, .bool false, .int .i64 0, .int .i64 0] 23)).trans (hb3.mono (hy2.alloc hq2 (.cells #[.string ⟨#[]⟩, .bool false, .int .i64 0, .int .i64 0] 23)).size)
                have hq3 := hy3.size
                clear hb3
                refine wpAnyG_ready (rs := [12]) (by kernel_rfl) (by simp) (AllG.cons rfl (fun K hK => ?_) AllG.nil)
                have m0 := block_setCell (i := 0) z9 (.string ps)
                have m1 := block_setCell (i := 1) m0 (.bool pd)
                have m2 := block_setCell (i := 2) m1 (.int .i64 pa)
                simp only [List.setIfInBounds_toArray, List.set_cons_zero, List.set_cons_succ] at m0 m1 m2
                have k0 := cell_at (i := 0) z9 rfl
                have k1 := cell_at (i := 1) m0 rfl
                have k2 := cell_at (i := 2) m1 rfl
                have k3 := cell_at (i := 3) m2 rfl
                have f0 := thawed_at (i := 0) z9
                have f1 := thawed_at (i := 1) m0
                have f2 := thawed_at (i := 2) m1
                have f3 := thawed_at (i := 3) m2
                clear m0 m1 m2
                go_simp
                refine hK.out _ _ ?_ (fun y4 hb4 => ?_)
                · exact four_below hy3 _ (by omega) _ _ _ _
                clear hK K k0 k1 k2 k3 f0 f1 f2 f3
                try simp only [Act.put, List.getElem_toArray, List.getElem_cons_succ, List.getElem_cons_zero, List.setIfInBounds_toArray, List.set_cons_zero, List.set_cons_succ]
                have hw4 := CB.set z9 ps pd pa pe
                have z11 := (hb4.block _ (by rw [four_size]; exact (Array.getElem?_eq_some_iff.1 z11).1)).trans ((four_heap _ _ _ _ _ _ _ (by omega)).trans z11)
                have z10 := (hb4.block _ (by rw [four_size]; exact (Array.getElem?_eq_some_iff.1 z10).1)).trans ((four_heap _ _ _ _ _ _ _ (by omega)).trans z10)
                have z9 : CB y4 y0.heap.size ps pd pa pe := (hb4.block _ (Array.getElem?_eq_some_iff.1 hw4).1).trans hw4
                have hy4 := (four_below hy3 _ (by omega) _ _ _ _).trans (hb4.mono (four_below hy3 y0.heap.size (by omega) (.string ps) (.bool pd) (.int .i64 pa) (.int .i64 pe)).size)
                clear hb4 hw4
                refine wpAnyG_ready (rs := [13]) (by kernel_rfl) (by simp) (AllG.cons rfl (fun K hK => ?_) AllG.nil)
                have m0 := block_setCell (i := 0) z10 (.string qs)
                have m1 := block_setCell (i := 1) m0 (.bool qd)
                have m2 := block_setCell (i := 2) m1 (.int .i64 qa)
                simp only [List.setIfInBounds_toArray, List.set_cons_zero, List.set_cons_succ] at m0 m1 m2
                have k0 := cell_at (i := 0) z10 rfl
                have k1 := cell_at (i := 1) m0 rfl
                have k2 := cell_at (i := 2) m1 rfl
                have k3 := cell_at (i := 3) m2 rfl
                have f0 := thawed_at (i := 0) z10
                have f1 := thawed_at (i := 1) m0
                have f2 := thawed_at (i := 2) m1
                have f3 := thawed_at (i := 3) m2
                clear m0 m1 m2
                go_simp
                refine hK.out _ _ ?_ (fun y5 hb5 => ?_)
                · exact four_below hy4 _ (by omega) _ _ _ _
                clear hK K k0 k1 k2 k3 f0 f1 f2 f3
                try simp only [Act.put, List.getElem_toArray, List.getElem_cons_succ, List.getElem_cons_zero, List.setIfInBounds_toArray, List.set_cons_zero, List.set_cons_succ]
                have hw5 := CB.set z10 qs qd qa qe
                have z9 := (hb5.block _ (by rw [four_size]; exact (Array.getElem?_eq_some_iff.1 z9).1)).trans ((four_heap _ _ _ _ _ _ _ (by omega)).trans z9)
                have z11 := (hb5.block _ (by rw [four_size]; exact (Array.getElem?_eq_some_iff.1 z11).1)).trans ((four_heap _ _ _ _ _ _ _ (by omega)).trans z11)
                have z10 : CB y5 y2.heap.size qs qd qa qe := (hb5.block _ (Array.getElem?_eq_some_iff.1 hw5).1).trans hw5
                have hy5 := (four_below hy4 _ (by omega) _ _ _ _).trans (hb5.mono (four_below hy4 y2.heap.size (by omega) (.string qs) (.bool qd) (.int .i64 qa) (.int .i64 qe)).size)
                clear hb5 hw5
                refine wpAnyG_ready (rs := [14]) (by kernel_rfl) (by simp) (AllG.cons rfl (fun K hK => ?_) AllG.nil)
                have m0 := block_setCell (i := 0) z11 (.string es)
                have m1 := block_setCell (i := 1) m0 (.bool ed)
                have m2 := block_setCell (i := 2) m1 (.int .i64 ea)
                simp only [List.setIfInBounds_toArray, List.set_cons_zero, List.set_cons_succ] at m0 m1 m2
                have k0 := cell_at (i := 0) z11 rfl
                have k1 := cell_at (i := 1) m0 rfl
                have k2 := cell_at (i := 2) m1 rfl
                have k3 := cell_at (i := 3) m2 rfl
                have f0 := thawed_at (i := 0) z11
                have f1 := thawed_at (i := 1) m0
                have f2 := thawed_at (i := 2) m1
                have f3 := thawed_at (i := 3) m2
                clear m0 m1 m2
                go_simp
                refine hK.out _ _ ?_ (fun y6 hb6 => ?_)
                · exact four_below hy5 _ (by omega) _ _ _ _
                clear hK K k0 k1 k2 k3 f0 f1 f2 f3
                try simp only [Act.put, List.getElem_toArray, List.getElem_cons_succ, List.getElem_cons_zero, List.setIfInBounds_toArray, List.set_cons_zero, List.set_cons_succ]
                have hw6 := CB.set z11 es ed ea ee
                have z9 := (hb6.block _ (by rw [four_size]; exact (Array.getElem?_eq_some_iff.1 z9).1)).trans ((four_heap _ _ _ _ _ _ _ (by omega)).trans z9)
                have z10 := (hb6.block _ (by rw [four_size]; exact (Array.getElem?_eq_some_iff.1 z10).1)).trans ((four_heap _ _ _ _ _ _ _ (by omega)).trans z10)
                have z11 : CB y6 y1.heap.size es ed ea ee := (hb6.block _ (Array.getElem?_eq_some_iff.1 hw6).1).trans hw6
                have hy6 := (four_below hy5 _ (by omega) _ _ _ _).trans (hb6.mono (four_below hy5 y1.heap.size (by omega) (.string es) (.bool ed) (.int .i64 ea) (.int .i64 ee)).size)
                clear hb6 hw6
                refine wpAnyG_done (by kernel_rfl) ?_ _
                go_wp2_with fail
                go_meet
                exact ⟨_, _, _, rfl, rfl, rfl, z9, z10, z11, BC.out.trans (hy6.mono BC.out.size)⟩
          · go_simp
            refine hK.out _ _ ?_ (fun y1 hb1 => ?_)
            · exact hy0.alloc hq0 _
            clear hK K
            try simp only [Act.put, List.getElem_toArray, List.getElem_cons_succ, List.getElem_cons_zero, List.setIfInBounds_toArray, List.set_cons_zero, List.set_cons_succ]
            have hs1 : y0.heap.size < y1.heap.size := by have := hb1.size; simp at this; omega
            have z10 : CB y1 y0.heap.size ⟨#[]⟩ false 0 0 := (hb1.block _ (by simp)).trans (heap_alloc_new y0 (.cells #[.string ⟨#[]⟩, .bool false, .int .i64 0, .int .i64 0] 23))
            have hy1 := (hy0.alloc hq0 (.cells #[.string ⟨#[]⟩, .bool false, .int .i64 0, .int .i64 0] 23)).trans (hb1.mono (hy0.alloc hq0 (.cells #[.string ⟨#[]⟩, .bool false, .int .i64 0, .int .i64 0] 23)).size)
            have hq1 := hy1.size
            clear hb1
            refine wpAnyG_ready (rs := [9, 11]) (by kernel_rfl) (by simp) (AllG.cons rfl (fun K hK => ?_) (AllG.cons rfl (fun K hK => ?_) AllG.nil))
            · go_simp
              refine hK.out _ _ ?_ (fun y2 hb2 => ?_)
              · exact hy1.alloc hq1 _
              clear hK K
              try simp only [Act.put, List.getElem_toArray, List.getElem_cons_succ, List.getElem_cons_zero, List.setIfInBounds_toArray, List.set_cons_zero, List.set_cons_succ]
              have hs2 : y1.heap.size < y2.heap.size := by have := hb2.size; simp at this; omega
              have z10 := (hb2.block _ (Array.getElem?_eq_some_iff.1 (new_at z10 (.cells #[.string ⟨#[]⟩, .bool false, .int .i64 0, .int .i64 0] 23))).1).trans (new_at z10 (.cells #[.string ⟨#[]⟩, .bool false, .int .i64 0, .int .i64 0] 23))
              have z9 : CB y2 y1.heap.size ⟨#[]⟩ false 0 0 := (hb2.block _ (by simp)).trans (heap_alloc_new y1 (.cells #[.string ⟨#[]⟩, .bool false, .int .i64 0, .int .i64 0] 23))
              have hy2 := (hy1.alloc hq1 (.cells #[.string ⟨#[]⟩, .bool false, .int .i64 0, .int .i64 0] 23)).trans (hb2.mono (hy1.alloc hq1 (.cells #[.string ⟨#[]⟩, .bool false, .int .i64 0, .int .i64 0] 23)).size)
              have hq2 := hy2.size
              clear hb2
              refine wpAnyG_ready (rs := [11]) (by kernel_rfl) (by simp) (AllG.cons rfl (fun K hK => ?_) AllG.nil)
              · go_simp
                refine hK.out _ _ ?_ (fun y3 hb3 => ?_)
                · exact hy2.alloc hq2 _
                clear hK K
                try simp only [Act.put, List.getElem_toArray, List.getElem_cons_succ, List.getElem_cons_zero, List.setIfInBounds_toArray, List.set_cons_zero, List.set_cons_succ]
                have hs3 : y2.heap.size < y3.heap.size := by have := hb3.size; simp at this; omega
                have z10 := (hb3.block _ (Array.getElem?_eq_some_iff.1 (new_at z10 (.cells #[.string ⟨#[]⟩, .bool false, .int .i64 0, .int .i64 0] 23))).1).trans (new_at z10 (.cells #[.string ⟨#[]⟩, .bool false, .int .i64 0, .int .i64 0] 23))
                have z9 := (hb3.block _ (Array.getElem?_eq_some_iff.1 (new_at z9 (.cells #[.string ⟨#[]⟩, .bool false, .int .i64 0, .int .i64 0] 23))).1).trans (new_at z9 (.cells #[.string ⟨#[]⟩, .bool false, .int .i64 0, .int .i64 0] 23))
                have z11 : CB y3 y2.heap.size ⟨#[]⟩ false 0 0 := (hb3.block _ (by simp)).trans (heap_alloc_new y2 (.cells #[.string ⟨#[]⟩, .bool false, .int .i64 0, .int .i64 0] 23))
                have hy3 := (hy2.alloc hq2 (.cells #[.string ⟨#[]⟩, .bool false, .int .i64 0, .int .i64 0] 23)).trans (hb3.mono (hy2.alloc hq2 (.cells #[.string ⟨#[]⟩, .bool false, .int .i64 0, .int .i64 0] 23)).size)
                have hq3 := hy3.size
                clear hb3
                refine wpAnyG_ready (rs := [12]) (by kernel_rfl) (by simp) (AllG.cons rfl (fun K hK => ?_) AllG.nil)
                have m0 := block_setCell (i := 0) z9 (.string ps)
                have m1 := block_setCell (i := 1) m0 (.bool pd)
                have m2 := block_setCell (i := 2) m1 (.int .i64 pa)
                simp only [List.setIfInBounds_toArray, List.set_cons_zero, List.set_cons_succ] at m0 m1 m2
                have k0 := cell_at (i := 0) z9 rfl
                have k1 := cell_at (i := 1) m0 rfl
                have k2 := cell_at (i := 2) m1 rfl
                have k3 := cell_at (i := 3) m2 rfl
                have f0 := thawed_at (i := 0) z9
                have f1 := thawed_at (i := 1) m0
                have f2 := thawed_at (i := 2) m1
                have f3 := thawed_at (i := 3) m2
                clear m0 m1 m2
                go_simp
                refine hK.out _ _ ?_ (fun y4 hb4 => ?_)
                · exact four_below hy3 _ (by omega) _ _ _ _
                clear hK K k0 k1 k2 k3 f0 f1 f2 f3
                try simp only [Act.put, List.getElem_toArray, List.getElem_cons_succ, List.getElem_cons_zero, List.setIfInBounds_toArray, List.set_cons_zero, List.set_cons_succ]
                have hw4 := CB.set z9 ps pd pa pe
                have z10 := (hb4.block _ (by rw [four_size]; exact (Array.getElem?_eq_some_iff.1 z10).1)).trans ((four_heap _ _ _ _ _ _ _ (by omega)).trans z10)
                have z11 := (hb4.block _ (by rw [four_size]; exact (Array.getElem?_eq_some_iff.1 z11).1)).trans ((four_heap _ _ _ _ _ _ _ (by omega)).trans z11)
                have z9 : CB y4 y1.heap.size ps pd pa pe := (hb4.block _ (Array.getElem?_eq_some_iff.1 hw4).1).trans hw4
                have hy4 := (four_below hy3 _ (by omega) _ _ _ _).trans (hb4.mono (four_below hy3 y1.heap.size (by omega) (.string ps) (.bool pd) (.int .i64 pa) (.int .i64 pe)).size)
                clear hb4 hw4
                refine wpAnyG_ready (rs := [13]) (by kernel_rfl) (by simp) (AllG.cons rfl (fun K hK => ?_) AllG.nil)
                have m0 := block_setCell (i := 0) z10 (.string qs)
                have m1 := block_setCell (i := 1) m0 (.bool qd)
                have m2 := block_setCell (i := 2) m1 (.int .i64 qa)
                simp only [List.setIfInBounds_toArray, List.set_cons_zero, List.set_cons_succ] at m0 m1 m2
                have k0 := cell_at (i := 0) z10 rfl
                have k1 := cell_at (i := 1) m0 rfl
                have k2 := cell_at (i := 2) m1 rfl
                have k3 := cell_at (i := 3) m2 rfl
                have f0 := thawed_at (i := 0) z10
                have f1 := thawed_at (i := 1) m0
                have f2 := thawed_at (i := 2) m1
                have f3 := thawed_at (i := 3) m2
                clear m0 m1 m2
                go_simp
                refine hK.out _ _ ?_ (fun y5 hb5 => ?_)
                · exact four_below hy4 _ (by omega) _ _ _ _
                clear hK K k0 k1 k2 k3 f0 f1 f2 f3
                try simp only [Act.put, List.getElem_toArray, List.getElem_cons_succ, List.getElem_cons_zero, List.setIfInBounds_toArray, List.set_cons_zero, List.set_cons_succ]
                have hw5 := CB.set z10 qs qd qa qe
                have z9 := (hb5.block _ (by rw [four_size]; exact (Array.getElem?_eq_some_iff.1 z9).1)).trans ((four_heap _ _ _ _ _ _ _ (by omega)).trans z9)
                have z11 := (hb5.block _ (by rw [four_size]; exact (Array.getElem?_eq_some_iff.1 z11).1)).trans ((four_heap _ _ _ _ _ _ _ (by omega)).trans z11)
                have z10 : CB y5 y0.heap.size qs qd qa qe := (hb5.block _ (Array.getElem?_eq_some_iff.1 hw5).1).trans hw5
                have hy5 := (four_below hy4 _ (by omega) _ _ _ _).trans (hb5.mono (four_below hy4 y0.heap.size (by omega) (.string qs) (.bool qd) (.int .i64 qa) (.int .i64 qe)).size)
                clear hb5 hw5
                refine wpAnyG_ready (rs := [14]) (by kernel_rfl) (by simp) (AllG.cons rfl (fun K hK => ?_) AllG.nil)
                have m0 := block_setCell (i := 0) z11 (.string es)
                have m1 := block_setCell (i := 1) m0 (.bool ed)
                have m2 := block_setCell (i := 2) m1 (.int .i64 ea)
                simp only [List.setIfInBounds_toArray, List.set_cons_zero, List.set_cons_succ] at m0 m1 m2
                have k0 := cell_at (i := 0) z11 rfl
                have k1 := cell_at (i := 1) m0 rfl
                have k2 := cell_at (i := 2) m1 rfl
                have k3 := cell_at (i := 3) m2 rfl
                have f0 := thawed_at (i := 0) z11
                have f1 := thawed_at (i := 1) m0
                have f2 := thawed_at (i := 2) m1
                have f3 := thawed_at (i := 3) m2
                clear m0 m1 m2
                go_simp
                refine hK.out _ _ ?_ (fun y6 hb6 => ?_)
                · exact four_below hy5 _ (by omega) _ _ _ _
                clear hK K k0 k1 k2 k3 f0 f1 f2 f3
                try simp only [Act.put, List.getElem_toArray, List.getElem_cons_succ, List.getElem_cons_zero, List.setIfInBounds_toArray, List.set_cons_zero, List.set_cons_succ]
                have hw6 := CB.set z11 es ed ea ee
                have z10 := (hb6.block _ (by rw [four_size]; exact (Array.getElem?_eq_some_iff.1 z10).1)).trans ((four_heap _ _ _ _ _ _ _ (by omega)).trans z10)
                have z9 := (hb6.block _ (by rw [four_size]; exact (Array.getElem?_eq_some_iff.1 z9).1)).trans ((four_heap _ _ _ _ _ _ _ (by omega)).trans z9)
                have z11 : CB y6 y2.heap.size es ed ea ee := (hb6.block _ (Array.getElem?_eq_some_iff.1 hw6).1).trans hw6
                have hy6 := (four_below hy5 _ (by omega) _ _ _ _).trans (hb6.mono (four_below hy5 y2.heap.size (by omega) (.string es) (.bool ed) (.int .i64 ea) (.int .i64 ee)).size)
                clear hb6 hw6
                refine wpAnyG_done (by kernel_rfl) ?_ _
                go_wp2_with fail
                go_meet
                exact ⟨_, _, _, rfl, rfl, rfl, z9, z10, z11, BC.out.trans (hy6.mono BC.out.size)⟩
            · go_simp
              refine hK.out _ _ ?_ (fun y2 hb2 => ?_)
              · exact hy1.alloc hq1 _
              clear hK K
              try simp only [Act.put, List.getElem_toArray, List.getElem_cons_succ, List.getElem_cons_zero, List.setIfInBounds_toArray, List.set_cons_zero, List.set_cons_succ]
              have hs2 : y1.heap.size < y2.heap.size := by have := hb2.size; simp at this; omega
              have z10 := (hb2.block _ (Array.getElem?_eq_some_iff.1 (new_at z10 (.cells #[.string ⟨#[]⟩, .bool false, .int .i64 0, .int .i64 0] 23))).1).trans (new_at z10 (.cells #[.string ⟨#[]⟩, .bool false, .int .i64 0, .int .i64 0] 23))
              have z11 : CB y2 y1.heap.size ⟨#[]⟩ false 0 0 := (hb2.block _ (by simp)).trans (heap_alloc_new y1 (.cells #[.string ⟨#[]⟩, .bool false, .int .i64 0, .int .i64 0] 23))
              have hy2 := (hy1.alloc hq1 (.cells #[.string ⟨#[]⟩, .bool false, .int .i64 0, .int .i64 0] 23)).trans (hb2.mono (hy1.alloc hq1 (.cells #[.string ⟨#[]⟩, .bool false, .int .i64 0, .int .i64 0] 23)).size)
              have hq2 := hy2.size
              clear hb2
              refine wpAnyG_ready (rs := [9]) (by kernel_rfl) (by simp) (AllG.cons rfl (fun K hK => ?_) AllG.nil)
              · go_simp
                refine hK.out _ _ ?_ (fun y3 hb3 => ?_)
                · exact hy2.alloc hq2 _
                clear hK K
                try simp only [Act.put, List.getElem_toArray, List.getElem_cons_succ, List.getElem_cons_zero, List.setIfInBounds_toArray, List.set_cons_zero, List.set_cons_succ]
                have hs3 : y2.heap.size < y3.heap.size := by have := hb3.size; simp at this; omega
                have z10 := (hb3.block _ (Array.getElem?_eq_some_iff.1 (new_at z10 (.cells #[.string ⟨#[]⟩, .bool false, .int .i64 0, .int .i64 0] 23))).1).trans (new_at z10 (.cells #[.string ⟨#[]⟩, .bool false, .int .i64 0, .int .i64 0] 23))
                have z11 := (hb3.block _ (Array.getElem?_eq_some_iff.1 (new_at z11 (.cells #[.string ⟨#[]⟩, .bool false, .int .i64 0, .int .i64 0] 23))).1).trans (new_at z11 (.cells #[.string ⟨#[]⟩, .bool false, .int .i64 0, .int .i64 0] 23))
                have z9 : CB y3 y2.heap.size ⟨#[]⟩ false 0 0 := (hb3.block _ (by simp)).trans (heap_alloc_new y2 (.cells #[.string ⟨#[]⟩, .bool false, .int .i64 0, .int .i64 0] 23))
                have hy3 := (hy2.alloc hq2 (.cells #[.string ⟨#[]⟩, .bool false, .int .i64 0, .int .i64 0] 23)).trans (hb3.mono (hy2.alloc hq2 (.cells #[.string ⟨#[]⟩, .bool false, .int .i64 0, .int .i64 0] 23)).size)
                have hq3 := hy3.size
                clear hb3
                refine wpAnyG_ready (rs := [12]) (by kernel_rfl) (by simp) (AllG.cons rfl (fun K hK => ?_) AllG.nil)
                have m0 := block_setCell (i := 0) z9 (.string ps)
                have m1 := block_setCell (i := 1) m0 (.bool pd)
                have m2 := block_setCell (i := 2) m1 (.int .i64 pa)
                simp only [List.setIfInBounds_toArray, List.set_cons_zero, List.set_cons_succ] at m0 m1 m2
                have k0 := cell_at (i := 0) z9 rfl
                have k1 := cell_at (i := 1) m0 rfl
                have k2 := cell_at (i := 2) m1 rfl
                have k3 := cell_at (i := 3) m2 rfl
                have f0 := thawed_at (i := 0) z9
                have f1 := thawed_at (i := 1) m0
                have f2 := thawed_at (i := 2) m1
                have f3 := thawed_at (i := 3) m2
                clear m0 m1 m2
                go_simp
                refine hK.out _ _ ?_ (fun y4 hb4 => ?_)
                · exact four_below hy3 _ (by omega) _ _ _ _
                clear hK K k0 k1 k2 k3 f0 f1 f2 f3
                try simp only [Act.put, List.getElem_toArray, List.getElem_cons_succ, List.getElem_cons_zero, List.setIfInBounds_toArray, List.set_cons_zero, List.set_cons_succ]
                have hw4 := CB.set z9 ps pd pa pe
                have z10 := (hb4.block _ (by rw [four_size]; exact (Array.getElem?_eq_some_iff.1 z10).1)).trans ((four_heap _ _ _ _ _ _ _ (by omega)).trans z10)
                have z11 := (hb4.block _ (by rw [four_size]; exact (Array.getElem?_eq_some_iff.1 z11).1)).trans ((four_heap _ _ _ _ _ _ _ (by omega)).trans z11)
                have z9 : CB y4 y2.heap.size ps pd pa pe := (hb4.block _ (Array.getElem?_eq_some_iff.1 hw4).1).trans hw4
                have hy4 := (four_below hy3 _ (by omega) _ _ _ _).trans (hb4.mono (four_below hy3 y2.heap.size (by omega) (.string ps) (.bool pd) (.int .i64 pa) (.int .i64 pe)).size)
                clear hb4 hw4
                refine wpAnyG_ready (rs := [13]) (by kernel_rfl) (by simp) (AllG.cons rfl (fun K hK => ?_) AllG.nil)
                have m0 := block_setCell (i := 0) z10 (.string qs)
                have m1 := block_setCell (i := 1) m0 (.bool qd)
                have m2 := block_setCell (i := 2) m1 (.int .i64 qa)
                simp only [List.setIfInBounds_toArray, List.set_cons_zero, List.set_cons_succ] at m0 m1 m2
                have k0 := cell_at (i := 0) z10 rfl
                have k1 := cell_at (i := 1) m0 rfl
                have k2 := cell_at (i := 2) m1 rfl
                have k3 := cell_at (i := 3) m2 rfl
                have f0 := thawed_at (i := 0) z10
                have f1 := thawed_at (i := 1) m0
                have f2 := thawed_at (i := 2) m1
                have f3 := thawed_at (i := 3) m2
                clear m0 m1 m2
                go_simp
                refine hK.out _ _ ?_ (fun y5 hb5 => ?_)
                · exact four_below hy4 _ (by omega) _ _ _ _
                clear hK K k0 k1 k2 k3 f0 f1 f2 f3
                try simp only [Act.put, List.getElem_toArray, List.getElem_cons_succ, List.getElem_cons_zero, List.setIfInBounds_toArray, List.set_cons_zero, List.set_cons_succ]
                have hw5 := CB.set z10 qs qd qa qe
                have z11 := (hb5.block _ (by rw [four_size]; exact (Array.getElem?_eq_some_iff.1 z11).1)).trans ((four_heap _ _ _ _ _ _ _ (by omega)).trans z11)
                have z9 := (hb5.block _ (by rw [four_size]; exact (Array.getElem?_eq_some_iff.1 z9).1)).trans ((four_heap _ _ _ _ _ _ _ (by omega)).trans z9)
                have z10 : CB y5 y0.heap.size qs qd qa qe := (hb5.block _ (Array.getElem?_eq_some_iff.1 hw5).1).trans hw5
                have hy5 := (four_below hy4 _ (by omega) _ _ _ _).trans (hb5.mono (four_below hy4 y0.heap.size (by omega) (.string qs) (.bool qd) (.int .i64 qa) (.int .i64 qe)).size)
                clear hb5 hw5
                refine wpAnyG_ready (rs := [14]) (by kernel_rfl) (by simp) (AllG.cons rfl (fun K hK => ?_) AllG.nil)
                have m0 := block_setCell (i := 0) z11 (.string es)
                have m1 := block_setCell (i := 1) m0 (.bool ed)
                have m2 := block_setCell (i := 2) m1 (.int .i64 ea)
                simp only [List.setIfInBounds_toArray, List.set_cons_zero, List.set_cons_succ] at m0 m1 m2
                have k0 := cell_at (i := 0) z11 rfl
                have k1 := cell_at (i := 1) m0 rfl
                have k2 := cell_at (i := 2) m1 rfl
                have k3 := cell_at (i := 3) m2 rfl
                have f0 := thawed_at (i := 0) z11
                have f1 := thawed_at (i := 1) m0
                have f2 := thawed_at (i := 2) m1
                have f3 := thawed_at (i := 3) m2
                clear m0 m1 m2
                go_simp
                refine hK.out _ _ ?_ (fun y6 hb6 => ?_)
                · exact four_below hy5 _ (by omega) _ _ _ _
                clear hK K k0 k1 k2 k3 f0 f1 f2 f3
                try simp only [Act.put, List.getElem_toArray, List.getElem_cons_succ, List.getElem_cons_zero, List.setIfInBounds_toArray, List.set_cons_zero, List.set_cons_succ]
                have hw6 := CB.set z11 es ed ea ee
                have z10 := (hb6.block _ (by rw [four_size]; exact (Array.getElem?_eq_some_iff.1 z10).1)).trans ((four_heap _ _ _ _ _ _ _ (by omega)).trans z10)
                have z9 := (hb6.block _ (by rw [four_size]; exact (Array.getElem?_eq_some_iff.1 z9).1)).trans ((four_heap _ _ _ _ _ _ _ (by omega)).trans z9)
                have z11 : CB y6 y1.heap.size es ed ea ee := (hb6.block _ (Array.getElem?_eq_some_iff.1 hw6).1).trans hw6
                have hy6 := (four_below hy5 _ (by omega) _ _ _ _).trans (hb6.mono (four_below hy5 y1.heap.size (by omega) (.string es) (.bool ed) (.int .i64 ea) (.int .i64 ee)).size)
                clear hb6 hw6
                refine wpAnyG_done (by kernel_rfl) ?_ _
                go_wp2_with fail
                go_meet
                exact ⟨_, _, _, rfl, rfl, rfl, z9, z10, z11, BC.out.trans (hy6.mono BC.out.size)⟩
          · go_simp
            refine hK.out _ _ ?_ (fun y1 hb1 => ?_)
            · exact hy0.alloc hq0 _
            clear hK K
            try simp only [Act.put, List.getElem_toArray, List.getElem_cons_succ, List.getElem_cons_zero, List.setIfInBounds_toArray, List.set_cons_zero, List.set_cons_succ]
            have hs1 : y0.heap.size < y1.heap.size := by have := hb1.size; simp at this; omega
            have z11 : CB y1 y0.heap.size ⟨#[]⟩ false 0 0 := (hb1.block _ (by simp)).trans (heap_alloc_new y0 (.cells #[.string ⟨#[]⟩, .bool false, .int .i64 0, .int .i64 0] 23))
            have hy1 := (hy0.alloc hq0 (.cells #[.string ⟨#[]⟩, .bool false, .int .i64 0, .int .i64 0] 23)).trans (hb1.mono (hy0.alloc hq0 (.cells #[.string ⟨#[]⟩, .bool false, .int .i64 0, .int .i64 0] 23)).size)
            have hq1 := hy1.size
            clear hb1
            refine wpAnyG_ready (rs := [9, 10]) (by kernel_rfl) (by simp) (AllG.cons rfl (fun K hK => ?_) (AllG.cons rfl (fun K hK => ?_) AllG.nil))
            · go_simp
              refine hK.out _ _ ?_ (fun y2 hb2 => ?_)
              · exact hy1.alloc hq1 _
              clear hK K
              try simp only [Act.put, List.getElem_toArray, List.getElem_cons_succ, List.getElem_cons_zero, List.setIfInBounds_toArray, List.set_cons_zero, List.set_cons_succ]
              have hs2 : y1.heap.size < y2.heap.size := by have := hb2.size; simp at this; omega
              have z11 := (hb2.block _ (Array.getElem?_eq_some_iff.1 (new_at z11 (.cells #[.string ⟨#[]⟩, .bool false, .int .i64 0, .int .i64 0] 23))).1).trans (new_at z11 (.cells #[.string ⟨#[]⟩, .bool false, .int .i64 0, .int .i64 0] 23))
              have z9 : CB y2 y1.heap.size ⟨#[]⟩ false 0 0 := (hb2.block _ (by simp)).trans (heap_alloc_new y1 (.cells #[.string ⟨#[]⟩, .bool false, .int .i64 0, .int .i64 0] 23))
              have hy2 := (hy1.alloc hq1 (.cells #[.string ⟨#[]⟩, .bool false, .int .i64 0, .int .i64 0] 23)).trans (hb2.mono (hy1.alloc hq1 (.cells #[.string ⟨#[]⟩, .bool false, .int .i64 0, .int .i64 0] 23)).size)
              have hq2 := hy2.size
              clear hb2
              refine wpAnyG_ready (rs := [10]) (by kernel_rfl) (by simp) (AllG.cons rfl (fun K hK => ?_) AllG.nil)
              · go_simp
                refine hK.out _ _ ?_ (fun y3 hb3 => ?_)
                · exact hy2.alloc hq2 _
                clear hK K
                try simp only [Act.put, List.getElem_toArray, List.getElem_cons_succ, List.getElem_cons_zero, List.setIfInBounds_toArray, List.set_cons_zero, List.set_cons_succ]
                have hs3 : y2.heap.size < y3.heap.size := by have := hb3.size; simp at this; omega
                have z11 := (hb3.block _ (Array.getElem?_eq_some_iff.1 (new_at z11 (.cells #[.string ⟨#[]⟩, .bool false, .int .i64 0, .int .i64 0] 23))).1).trans (new_at z11 (.cells #[.string ⟨#[]⟩, .bool false, .int .i64 0, .int .i64 0] 23))
                have z9 := (hb3.block _ (Array.getElem?_eq_some_iff.1 (new_at z9 (.cells #[.string ⟨#[]⟩, .bool false, .int .i64 0, .int .i64 0] 23))).1).trans (new_at z9 (.cells #[.string ⟨#[]⟩, .bool false, .int .i64 0, .int .i64 0] 23))
                have z10 : CB y3 y2.heap.size ⟨#[]⟩ false 0 0 := (hb3.block _ (by simp)).trans (heap_alloc_new y2 (.cells #[.string ⟨#[]⟩, .bool false, .int .i64 0, .int .i64 0] 23))
                have hy3 := (hy2.alloc hq2 (.cells #[.string ⟨#[]⟩, .bool false, .int .i64 0, .int .i64 0] 23)).trans (hb3.mono (hy2.alloc hq2 (.cells #[.string ⟨#[]⟩, .bool false, .int .i64 0, .int .i64 0] 23)).size)
                have hq3 := hy3.size
                clear hb3
                refine wpAnyG_ready (rs := [12]) (by kernel_rfl) (by simp) (AllG.cons rfl (fun K hK => ?_) AllG.nil)
                have m0 := block_setCell (i := 0) z9 (.string ps)
                have m1 := block_setCell (i := 1) m0 (.bool pd)
                have m2 := block_setCell (i := 2) m1 (.int .i64 pa)
                simp only [List.setIfInBounds_toArray, List.set_cons_zero, List.set_cons_succ] at m0 m1 m2
                have k0 := cell_at (i := 0) z9 rfl
                have k1 := cell_at (i := 1) m0 rfl
                have k2 := cell_at (i := 2) m1 rfl
                have k3 := cell_at (i := 3) m2 rfl
                have f0 := thawed_at (i := 0) z9
                have f1 := thawed_at (i := 1) m0
                have f2 := thawed_at (i := 2) m1
                have f3 := thawed_at (i := 3) m2
                clear m0 m1 m2
                go_simp
                refine hK.out _ _ ?_ (fun y4 hb4 => ?_)
                · exact four_below hy3 _ (by omega) _ _ _ _
                clear hK K k0 k1 k2 k3 f0 f1 f2 f3
                try simp only [Act.put, List.getElem_toArray, List.getElem_cons_succ, List.getElem_cons_zero, List.setIfInBounds_toArray, List.set_cons_zero, List.set_cons_succ]
                have hw4 := CB.set z9 ps pd pa pe
                have z11 := (hb4.block _ (by rw [four_size]; exact (Array.getElem?_eq_some_iff.1 z11).1)).trans ((four_heap _ _ _ _ _ _ _ (by omega)).trans z11)
                have z10 := (hb4.block _ (by rw [four_size]; exact (Array.getElem?_eq_some_iff.1 z10).1)).trans ((four_heap _ _ _ _ _ _ _ (by omega)).trans z10)
                have z9 : CB y4 y1.heap.size ps pd pa pe := (hb4.block _ (Array.getElem?_eq_some_iff.1 hw4).1).trans hw4
                have hy4 := (four_below hy3 _ (by omega) _ _ _ _).trans (hb4.mono (four_below hy3 y1.heap.size (by omega) (.string ps) (.bool pd) (.int .i64 pa) (.int .i64 pe)).size)
                clear hb4 hw4
                refine wpAnyG_ready (rs := [13]) (by kernel_rfl) (by simp) (AllG.cons rfl (fun K hK => ?_) AllG.nil)
                have m0 := block_setCell (i := 0) z10 (.string qs)
                have m1 := block_setCell (i := 1) m0 (.bool qd)
                have m2 := block_setCell (i := 2) m1 (.int .i64 qa)
                simp only [List.setIfInBounds_toArray, List.set_cons_zero, List.set_cons_succ] at m0 m1 m2
                have k0 := cell_at (i := 0) z10 rfl
                have k1 := cell_at (i := 1) m0 rfl
                have k2 := cell_at (i := 2) m1 rfl
                have k3 := cell_at (i := 3) m2 rfl
                have f0 := thawed_at (i := 0) z10
                have f1 := thawed_at (i := 1) m0
                have f2 := thawed_at (i := 2) m1
                have f3 := thawed_at (i := 3) m2
                clear m0 m1 m2
                go_simp
                refine hK.out _ _ ?_ (fun y5 hb5 => ?_)
                · exact four_below hy4 _ (by omega) _ _ _ _
                clear hK K k0 k1 k2 k3 f0 f1 f2 f3
                try simp only [Act.put, List.getElem_toArray, List.getElem_cons_succ, List.getElem_cons_zero, List.setIfInBounds_toArray, List.set_cons_zero, List.set_cons_succ]
                have hw5 := CB.set z10 qs qd qa qe
                have z11 := (hb5.block _ (by rw [four_size]; exact (Array.getElem?_eq_some_iff.1 z11).1)).trans ((four_heap _ _ _ _ _ _ _ (by omega)).trans z11)
                have z9 := (hb5.block _ (by rw [four_size]; exact (Array.getElem?_eq_some_iff.1 z9).1)).trans ((four_heap _ _ _ _ _ _ _ (by omega)).trans z9)
                have z10 : CB y5 y2.heap.size qs qd qa qe := (hb5.block _ (Array.getElem?_eq_some_iff.1 hw5).1).trans hw5
                have hy5 := (four_below hy4 _ (by omega) _ _ _ _).trans (hb5.mono (four_below hy4 y2.heap.size (by omega) (.string qs) (.bool qd) (.int .i64 qa) (.int .i64 qe)).size)
                clear hb5 hw5
                refine wpAnyG_ready (rs := [14]) (by kernel_rfl) (by simp) (AllG.cons rfl (fun K hK => ?_) AllG.nil)
                have m0 := block_setCell (i := 0) z11 (.string es)
                have m1 := block_setCell (i := 1) m0 (.bool ed)
                have m2 := block_setCell (i := 2) m1 (.int .i64 ea)
                simp only [List.setIfInBounds_toArray, List.set_cons_zero, List.set_cons_succ] at m0 m1 m2
                have k0 := cell_at (i := 0) z11 rfl
                have k1 := cell_at (i := 1) m0 rfl
                have k2 := cell_at (i := 2) m1 rfl
                have k3 := cell_at (i := 3) m2 rfl
                have f0 := thawed_at (i := 0) z11
                have f1 := thawed_at (i := 1) m0
                have f2 := thawed_at (i := 2) m1
                have f3 := thawed_at (i := 3) m2
                clear m0 m1 m2
                go_simp
                refine hK.out _ _ ?_ (fun y6 hb6 => ?_)
                · exact four_below hy5 _ (by omega) _ _ _ _
                clear hK K k0 k1 k2 k3 f0 f1 f2 f3
                try simp only [Act.put, List.getElem_toArray, List.getElem_cons_succ, List.getElem_cons_zero, List.setIfInBounds_toArray, List.set_cons_zero, List.set_cons_succ]
                have hw6 := CB.set z11 es ed ea ee
                have z9 := (hb6.block _ (by rw [four_size]; exact (Array.getElem?_eq_some_iff.1 z9).1)).trans ((four_heap _ _ _ _ _ _ _ (by omega)).trans z9)
                have z10 := (hb6.block _ (by rw [four_size]; exact (Array.getElem?_eq_some_iff.1 z10).1)).trans ((four_heap _ _ _ _ _ _ _ (by omega)).trans z10)
                have z11 : CB y6 y0.heap.size es ed ea ee := (hb6.block _ (Array.getElem?_eq_some_iff.1 hw6).1).trans hw6
                have hy6 := (four_below hy5 _ (by omega) _ _ _ _).trans (hb6.mono (four_below hy5 y0.heap.size (by omega) (.string es) (.bool ed) (.int .i64 ea) (.int .i64 ee)).size)
                clear hb6 hw6
                refine wpAnyG_done (by kernel_rfl) ?_ _
                go_wp2_with fail
                go_meet
                exact ⟨_, _, _, rfl, rfl, rfl, z9, z10, z11, BC.out.trans (hy6.mono BC.out.size)⟩
            · go_simp
              refine hK.out _ _ ?_ (fun y2 hb2 => ?_)
              · exact hy1.alloc hq1 _
              clear hK K
              try simp only [Act.put, List.getElem_toArray, List.getElem_cons_succ, List.getElem_cons_zero, List.setIfInBounds_toArray, List.set_cons_zero, List.set_cons_succ]
              have hs2 : y1.heap.size < y2.heap.size := by have := hb2.size; simp at this; omega
              have z11 := (hb2.block _ (Array.getElem?_eq_some_iff.1 (new_at z11 (.cells #[.string ⟨#[]⟩, .bool false, .int .i64 0, .int .i64 0] 23))).1).trans (new_at z11 (.cells #[.string ⟨#[]⟩, .bool false, .int .i64 0, .int .i64 0] 23))
              have z10 : CB y2 y1.heap.size ⟨#[]⟩ false 0 0 := (hb2.block _ (by simp)).trans (heap_alloc_new y1 (.cells #[.string ⟨#[]⟩, .bool false, .int .i64 0, .int .i64 0] 23))
              have hy2 := (hy1.alloc hq1 (.cells #[.string ⟨#[]⟩, .bool false, .int .i64 0, .int .i64 0] 23)).trans (hb2.mono (hy1.alloc hq1 (.cells #[.string ⟨#[]⟩, .bool false, .int .i64 0, .int .i64 0] 23)).size)
              have hq2 := hy2.size
              clear hb2
              refine wpAnyG_ready (rs := [9]) (by kernel_rfl) (by simp) (AllG.cons rfl (fun K hK => ?_) AllG.nil)
              · go_simp
                refine hK.out _ _ ?_ (fun y3 hb3 => ?_)
                · exact hy2.alloc hq2 _
                clear hK K
                try simp only [Act.put, List.getElem_toArray, List.getElem_cons_succ, List.getElem_cons_zero, List.setIfInBounds_toArray, List.set_cons_zero, List.set_cons_succ]
                have hs3 : y2.heap.size < y3.heap.size := by have := hb3.size; simp at this; omega
                have z11 := (hb3.block _ (Array.getElem?_eq_some_iff.1 (new_at z11 (.cells #[.string ⟨#[]⟩, .bool false, .int .i64 0, .int .i64 0] 23))).1).trans (new_at z11 (.cells #[.string ⟨#[]⟩, .bool false, .int .i64 0, .int .i64 0] 23))
                have z10 := (hb3.block _ (Array.getElem?_eq_some_iff.1 (new_at z10 (.cells #[.string ⟨#[]⟩, .bool false, .int .i64 0, .int .i64 0] 23))).1).trans (new_at z10 (.cells #[.string ⟨#[]⟩, .bool false, .int .i64 0, .int .i64 0] 23))
                have z9 : CB y3 y2.heap.size ⟨#[]⟩ false 0 0 := (hb3.block _ (by simp)).trans (heap_alloc_new y2 (.cells #[.string ⟨#[]⟩, .bool false, .int .i64 0, .int .i64 0] 23))
                have hy3 := (hy2.alloc hq2 (.cells #[.string ⟨#[]⟩, .bool false, .int .i64 0, .int .i64 0] 23)).trans (hb3.mono (hy2.alloc hq2 (.cells #[.string ⟨#[]⟩, .bool false, .int .i64 0, .int .i64 0] 23)).size)
                have hq3 := hy3.size
                clear hb3
                refine wpAnyG_ready (rs := [12]) (by kernel_rfl) (by simp) (AllG.cons rfl (fun K hK => ?_) AllG.nil)
                have m0 := block_setCell (i := 0) z9 (.string ps)
                have m1 := block_setCell (i := 1) m0 (.bool pd)
                have m2 := block_setCell (i := 2) m1 (.int .i64 pa)
                simp only [List.setIfInBounds_toArray, List.set_cons_zero, List.set_cons_succ] at m0 m1 m2
                have k0 := cell_at (i := 0) z9 rfl
                have k1 := cell_at (i := 1) m0 rfl
                have k2 := cell_at (i := 2) m1 rfl
                have k3 := cell_at (i := 3) m2 rfl
                have f0 := thawed_at (i := 0) z9
                have f1 := thawed_at (i := 1) m0
                have f2 := thawed_at (i := 2) m1
                have f3 := thawed_at (i := 3) m2
                clear m0 m1 m2
                go_simp
                refine hK.out _ _ ?_ (fun y4 hb4 => ?_)
                · exact four_below hy3 _ (by omega) _ _ _ _
                clear hK K k0 k1 k2 k3 f0 f1 f2 f3
                try simp only [Act.put, List.getElem_toArray, List.getElem_cons_succ, List.getElem_cons_zero, List.setIfInBounds_toArray, List.set_cons_zero, List.set_cons_succ]
                have hw4 := CB.set z9 ps pd pa pe
                have z11 := (hb4.block _ (by rw [four_size]; exact (Array.getElem?_eq_some_iff.1 z11).1)).trans ((four_heap _ _ _ _ _ _ _ (by omega)).trans z11)
                have z10 := (hb4.block _ (by rw [four_size]; exact (Array.getElem?_eq_some_iff.1 z10).1)).trans ((four_heap _ _ _ _ _ _ _ (by omega)).trans z10)
                have z9 : CB y4 y2.heap.size ps pd pa pe := (hb4.block _ (Array.getElem?_eq_some_iff.1 hw4).1).trans hw4
                have hy4 := (four_below hy3 _ (by omega) _ _ _ _).trans (hb4.mono (four_below hy3 y2.heap.size (by omega) (.string ps) (.bool pd) (.int .i64 pa) (.int .i64 pe)).size)
                clear hb4 hw4
                refine wpAnyG_ready (rs := [13]) (by kernel_rfl) (by simp) (AllG.cons rfl (fun K hK => ?_) AllG.nil)
                have m0 := block_setCell (i := 0) z10 (.string qs)
                have m1 := block_setCell (i := 1) m0 (.bool qd)
                have m2 := block_setCell (i := 2) m1 (.int .i64 qa)
                simp only [List.setIfInBounds_toArray, List.set_cons_zero, List.set_cons_succ] at m0 m1 m2
                have k0 := cell_at (i := 0) z10 rfl
                have k1 := cell_at (i := 1) m0 rfl
                have k2 := cell_at (i := 2) m1 rfl
                have k3 := cell_at (i := 3) m2 rfl
                have f0 := thawed_at (i := 0) z10
                have f1 := thawed_at (i := 1) m0
                have f2 := thawed_at (i := 2) m1
                have f3 := thawed_at (i := 3) m2
                clear m0 m1 m2
                go_simp
                refine hK.out _ _ ?_ (fun y5 hb5 => ?_)
                · exact four_below hy4 _ (by omega) _ _ _ _
                clear hK K k0 k1 k2 k3 f0 f1 f2 f3
                try simp only [Act.put, List.getElem_toArray, List.getElem_cons_succ, List.getElem_cons_zero, List.setIfInBounds_toArray, List.set_cons_zero, List.set_cons_succ]
                have hw5 := CB.set z10 qs qd qa qe
                have z11 := (hb5.block _ (by rw [four_size]; exact (Array.getElem?_eq_some_iff.1 z11).1)).trans ((four_heap _ _ _ _ _ _ _ (by omega)).trans z11)
                have z9 := (hb5.block _ (by rw [four_size]; exact (Array.getElem?_eq_some_iff.1 z9).1)).trans ((four_heap _ _ _ _ _ _ _ (by omega)).trans z9)
                have z10 : CB y5 y1.heap.size qs qd qa qe := (hb5.block _ (Array.getElem?_eq_some_iff.1 hw5).1).trans hw5
                have hy5 := (four_below hy4 _ (by omega) _ _ _ _).trans (hb5.mono (four_below hy4 y1.heap.size (by omega) (.string qs) (.bool qd) (.int .i64 qa) (.int .i64 qe)).size)
                clear hb5 hw5
                refine wpAnyG_ready (rs := [14]) (by kernel_rfl) (by simp) (AllG.cons rfl (fun K hK => ?_) AllG.nil)
                have m0 := block_setCell (i := 0) z11 (.string es)
                have m1 := block_setCell (i := 1) m0 (.bool ed)
                have m2 := block_setCell (i := 2) m1 (.int .i64 ea)
                simp only [List.setIfInBounds_toArray, List.set_cons_zero, List.set_cons_succ] at m0 m1 m2
                have k0 := cell_at (i := 0) z11 rfl
                have k1 := cell_at (i := 1) m0 rfl
                have k2 := cell_at (i := 2) m1 rfl
                have k3 := cell_at (i := 3) m2 rfl
                have f0 := thawed_at (i := 0) z11
                have f1 := thawed_at (i := 1) m0
                have f2 := thawed_at (i := 2) m1
                have f3 := thawed_at (i := 3) m2
                clear m0 m1 m2
                go_simp
                refine hK.out _ _ ?_ (fun y6 hb6 => ?_)
                · exact four_below hy5 _ (by omega) _ _ _ _
                clear hK K k0 k1 k2 k3 f0 f1 f2 f3
                try simp only [Act.put, List.getElem_toArray, List.getElem_cons_succ, List.getElem_cons_zero, List.setIfInBounds_toArray, List.set_cons_zero, List.set_cons_succ]
                have hw6 := CB.set z11 es ed ea ee
                have z10 := (hb6.block _ (by rw [four_size]; exact (Array.getElem?_eq_some_iff.1 z10).1)).trans ((four_heap _ _ _ _ _ _ _ (by omega)).trans z10)
                have z9 := (hb6.block _ (by rw [four_size]; exact (Array.getElem?_eq_some_iff.1 z9).1)).trans ((four_heap _ _ _ _ _ _ _ (by omega)).trans z9)
                have z11 : CB y6 y0.heap.size es ed ea ee := (hb6.block _ (Array.getElem?_eq_some_iff.1 hw6).1).trans hw6
                have hy6 := (four_below hy5 _ (by omega) _ _ _ _).trans (hb6.mono (four_below hy5 y0.heap.size (by omega) (.string es) (.bool ed) (.int .i64 ea) (.int .i64 ee)).size)
                clear hb6 hw6
                refine wpAnyG_done (by kernel_rfl) ?_ _
                go_wp2_with fail
                go_meet
                exact ⟨_, _, _, rfl, rfl, rfl, z9, z10, z11, BC.out.trans (hy6.mono BC.out.size)⟩
        case rest =>
          obtain ⟨q1, q2, q3, rfl, rfl, rfl, hz1, hz2, hz3, hb8⟩ := hcut
          have Z1 := Lib.hid hz1; have Z2 := Lib.hid hz2; have Z3 := Lib.hid hz3; have B8 := Lib.hid hb8
          clear hz1 hz2 hz3 hb8 BC GP GQ GE
          have hge := join_ge ⟨ps, pd, pa, pe⟩ ⟨qs, qd, qa, qe⟩
          rw [← HJ.out] at hge
          simp only at hge
          obtain ⟨hge1, hge2⟩ := hge
          have x1 : decide (ea < pa) = false := decide_eq_false (by omega)
          have x2 : decide (ea < qa) = false := decide_eq_false (by omega)
          obtain ⟨u, hu⟩ : ∃ u, Ce.same ⟨es, ed, ea, ee⟩ ⟨ps, pd, pa, pe⟩ = u := ⟨_, rfl⟩
          have HU := Lib.hid hu
          have hor := join_or ⟨ps, pd, pa, pe⟩ ⟨qs, qd, qa, qe⟩
          rw [← HJ.out] at hor
          have S2 := Lib.hid (show u = true ∨ Ce.same ⟨es, ed, ea, ee⟩ ⟨qs, qd, qa, qe⟩ = true from hor.elim (fun h => Or.inl (hu ▸ same_eq h)) (fun h => Or.inr (same_eq h)))
          clear hu hor
          have k10 := cell_at (i := 0) Z1.out rfl
          have k11 := cell_at (i := 1) Z1.out rfl
          have k12 := cell_at (i := 2) Z1.out rfl
          have k13 := cell_at (i := 3) Z1.out rfl
          have k22 := cell_at (i := 2) Z2.out rfl
          have k30 := cell_at (i := 0) Z3.out rfl
          have k31 := cell_at (i := 1) Z3.out rfl
          have k32 := cell_at (i := 2) Z3.out rfl
          have k33 := cell_at (i := 3) Z3.out rfl
          go_wp2_with fail
          refine (rsame_any _ _ _ _ _ _ _ _ _).mono ?_
          rintro x w9 ⟨rfl, b9⟩
          rw [HU.out]
          have hz2 := (b9.block q2 (Array.getElem?_eq_some_iff.1 Z2.out).1).trans Z2.out
          have hz3 := (b9.block q3 (Array.getElem?_eq_some_iff.1 Z3.out).1).trans Z3.out
          have Z2' := Lib.hid hz2; have Z3' := Lib.hid hz3
          have B9 := Lib.hid (B8.out.trans (b9.mono B8.out.size))
          clear hz2 hz3 b9 k10 k11 k12 k13 k22 k30 k31 k32 k33
          cases u
          · have S3 := Lib.hid (S2.out.resolve_left (by decide))
            have k20 := cell_at (i := 0) Z2'.out rfl
            have k21 := cell_at (i := 1) Z2'.out rfl
            have k22 := cell_at (i := 2) Z2'.out rfl
            have k23 := cell_at (i := 3) Z2'.out rfl
            have k30 := cell_at (i := 0) Z3'.out rfl
            have k31 := cell_at (i := 1) Z3'.out rfl
            have k32 := cell_at (i := 2) Z3'.out rfl
            have k33 := cell_at (i := 3) Z3'.out rfl
            go_wp2_with fail
            refine (rsame_any _ _ _ _ _ _ _ _ _).mono ?_
            rintro x w10 ⟨rfl, b10⟩
            rw [S3.out]
            have B10 := Lib.hid (B7.out.trans ((B9.out.trans (b10.mono B9.out.size)).mono B7.out.size))
            clear b10 k20 k21 k22 k23 k30 k31 k32 k33
            go_wp2
            go_roundw
            case rel => exact ⟨k + 1, by omega, by go_num, B10.out⟩
            case measure => simp [intOf]; omega
          · have B10 := Lib.hid (B7.out.trans (B9.out.mono B7.out.size))
            go_wp2
            go_roundw
            case rel => exact ⟨k + 1, by omega, by go_num, B10.out⟩
            case measure => simp [intOf]; omega
    · obtain rfl : k = 4 := by omega
      obtain ⟨_, _, ⟨_, _, _, _, _, _, _, _⟩, _, _, jx, _⟩ := HALL6.out _ HB.out
      have JX := Lib.hid jx
      clear jx
      obtain ⟨C, hC⟩ : ∃ C, seenD mx t X.cols = C := ⟨_, rfl⟩
      obtain ⟨lv, hlv⟩ : ∃ u, (X.live.seen t && decide (max mx X.shade < X.live.a)) = u := ⟨_, rfl⟩
      have HC := Lib.hid hC
      have I1 := Lib.hid (show isD X.live X.gone X.shade g t X.cols true = lv by unfold isD; rw [MX.out, hlv]; simp)
      have I0 := Lib.hid (show isD X.live X.gone X.shade g t X.cols false = (lv || decide (0 < C.length)) by unfold isD; rw [MX.out, hlv, hC]; simp)
      have hcl : C.length ≤ 8 := by rw [← hC]; exact Nat.le_trans (List.length_filter_le _ _) (by have := LEN.out; omega)
      obtain ⟨cn, hcn⟩ : ∃ u, C.length = u := ⟨_, rfl⟩
      have HCN := Lib.hid hcn
      clear hC hlv hcl hcn
      have dk : decide ((4 : Int) < 4) = false := by decide
      go_wp2_with fail
      refine (place_any v1 14 _ (by decide) (by decide) (bounds_i64 V1.out)).mono ?_
      rintro x w9 ⟨rfl, rfl⟩
      rw [HT.out]
      go_wp2_with fail
      refine (is_ro X A4 c4 v4.heap.size g t false _ JX.out (by have := HB.out.size; have := HS6.out; omega) (by have := LEN.out; omega)).mono ?_
      rintro x y9 ⟨rfl, b9⟩
      rw [I0.out]
      have hb9 := HB.out.trans (b9.mono HB.out.size)
      clear HB b9 JX
      have HB := Lib.hid hb9
      clear hb9
      obtain ⟨_, _, ⟨_, _, _, _, _, _, _, _⟩, _, _, jx, _⟩ := HALL6.out _ HB.out
      have JX := Lib.hid jx
      clear jx
      rw [HCN.out]
      cases lv
      · by_cases hc0 : cn = 0
        · subst hc0
          go_wp2_with fail
          refine (is_ro X A4 c4 v4.heap.size g t true _ JX.out (by have := HB.out.size; have := HS6.out; omega) (by have := LEN.out; omega)).mono ?_
          rintro x y9 ⟨rfl, b9⟩
          rw [I1.out]
          have hb9 := HB.out.trans (b9.mono HB.out.size)
          clear HB b9 JX
          have HB := Lib.hid hb9
          clear hb9
          obtain ⟨_, _, ⟨_, _, _, _, _, _, _, _⟩, _, _, jx, _⟩ := HALL6.out _ HB.out
          have JX := Lib.hid jx
          clear jx
          go_wp2_with fail
          refine (seen_ro X A4 c4 v4.heap.size g t _ JX.out (by have := HB.out.size; have := HS6.out; omega) (by have := LEN.out; omega)).mono ?_
          rintro x y9 ⟨sv, rfl, hcur⟩
          rw [MX.out, HC.out] at hcur
          obtain ⟨A9, c9, rfl, _⟩ := hcur.slice
          rw [HCN.out]
          have b9 := hcur.below
          clear hcur
          have hb9 := HB.out.trans (b9.mono HB.out.size)
          clear HB b9 JX
          have HB := Lib.hid hb9
          clear hb9
          obtain ⟨_, _, ⟨_, _, _, _, _, _, _, _⟩, _, _, jx, _⟩ := HALL6.out _ HB.out
          have JX := Lib.hid jx
          clear jx
          go_wp2_with fail
          refine (awake_any _).mono ?_
          rintro x y9 ⟨rfl, b9⟩
          have h9 := Lib.hid (BZ.out.trans ((HB.out.trans (b9.mono HB.out.size)).mono BZ.out.size))
          clear b9
          go_wp2
          go_ret
          exact ⟨rfl, h9.out⟩
        · have n1 : decide (0 < cn) = true := decide_eq_true (by omega)
          have n2 : ((cn : Int) == 0) = false := by rw [beq_eq_false_iff_ne]; omega
          rw [n1]
          go_wp2_with fail
          refine (seen_ro X A4 c4 v4.heap.size g t _ JX.out (by have := HB.out.size; have := HS6.out; omega) (by have := LEN.out; omega)).mono ?_
          rintro x y9 ⟨sv, rfl, hcur⟩
          rw [MX.out, HC.out] at hcur
          obtain ⟨A9, c9, rfl, _⟩ := hcur.slice
          rw [HCN.out]
          have b9 := hcur.below
          clear hcur
          have hb9 := HB.out.trans (b9.mono HB.out.size)
          clear HB b9 JX
          have HB := Lib.hid hb9
          clear hb9
          obtain ⟨_, _, ⟨_, _, _, _, _, _, _, _⟩, _, _, jx, _⟩ := HALL6.out _ HB.out
          have JX := Lib.hid jx
          clear jx
          go_wp2_with fail
          refine (is_ro X A4 c4 v4.heap.size g t false _ JX.out (by have := HB.out.size; have := HS6.out; omega) (by have := LEN.out; omega)).mono ?_
          rintro x y9 ⟨rfl, b9⟩
          rw [I0.out]
          have hb9 := HB.out.trans (b9.mono HB.out.size)
          clear HB b9 JX
          have HB := Lib.hid hb9
          clear hb9
          obtain ⟨_, _, ⟨_, _, _, _, _, _, _, _⟩, _, _, jx, _⟩ := HALL6.out _ HB.out
          have JX := Lib.hid jx
          clear jx
          rw [HCN.out, n1]
          go_wp2_with fail
          refine (awake_any _).mono ?_
          rintro x y9 ⟨rfl, b9⟩
          have h9 := Lib.hid (BZ.out.trans ((HB.out.trans (b9.mono HB.out.size)).mono BZ.out.size))
          clear b9
          go_wp2
          go_ret
          exact ⟨rfl, h9.out⟩
      · by_cases hc0 : cn = 0
        · subst hc0
          go_wp2_with fail
          refine (seen_ro X A4 c4 v4.heap.size g t _ JX.out (by have := HB.out.size; have := HS6.out; omega) (by have := LEN.out; omega)).mono ?_
          rintro x y9 ⟨sv, rfl, hcur⟩
          rw [MX.out, HC.out] at hcur
          obtain ⟨A9, c9, rfl, _⟩ := hcur.slice
          rw [HCN.out]
          have b9 := hcur.below
          clear hcur
          have hb9 := HB.out.trans (b9.mono HB.out.size)
          clear HB b9 JX
          have HB := Lib.hid hb9
          clear hb9
          obtain ⟨_, _, ⟨_, _, _, _, _, _, _, _⟩, _, _, jx, _⟩ := HALL6.out _ HB.out
          have JX := Lib.hid jx
          clear jx
          go_wp2_with fail
          refine (awake_any _).mono ?_
          rintro x y9 ⟨rfl, b9⟩
          have h9 := Lib.hid (BZ.out.trans ((HB.out.trans (b9.mono HB.out.size)).mono BZ.out.size))
          clear b9
          go_wp2
          go_ret
          exact ⟨rfl, h9.out⟩
        · have n1 : decide (0 < cn) = true := decide_eq_true (by omega)
          have n2 : ((cn : Int) == 0) = false := by rw [beq_eq_false_iff_ne]; omega
          go_wp2_with fail
          refine (seen_ro X A4 c4 v4.heap.size g t _ JX.out (by have := HB.out.size; have := HS6.out; omega) (by have := LEN.out; omega)).mono ?_
          rintro x y9 ⟨sv, rfl, hcur⟩
          rw [MX.out, HC.out] at hcur
          obtain ⟨A9, c9, rfl, _⟩ := hcur.slice
          rw [HCN.out]
          have b9 := hcur.below
          clear hcur
          have hb9 := HB.out.trans (b9.mono HB.out.size)
          clear HB b9 JX
          have HB := Lib.hid hb9
          clear hb9
          obtain ⟨_, _, ⟨_, _, _, _, _, _, _, _⟩, _, _, jx, _⟩ := HALL6.out _ HB.out
          have JX := Lib.hid jx
          clear jx
          go_wp2_with fail
          refine (is_ro X A4 c4 v4.heap.size g t false _ JX.out (by have := HB.out.size; have := HS6.out; omega) (by have := LEN.out; omega)).mono ?_
          rintro x y9 ⟨rfl, b9⟩
          rw [I0.out]
          have hb9 := HB.out.trans (b9.mono HB.out.size)
          clear HB b9 JX
          have HB := Lib.hid hb9
          clear hb9
          obtain ⟨_, _, ⟨_, _, _, _, _, _, _, _⟩, _, _, jx, _⟩ := HALL6.out _ HB.out
          have JX := Lib.hid jx
          clear jx
          rw [HCN.out, n1]
          go_wp2_with fail
          refine (awake_any _).mono ?_
          rintro x y9 ⟨rfl, b9⟩
          have h9 := Lib.hid (BZ.out.trans ((HB.out.trans (b9.mono HB.out.size)).mono BZ.out.size))
          clear b9
          go_wp2
          go_ret
          exact ⟨rfl, h9.out⟩
theorem numbers_law (A : Option Addr) (n c : Nat) (l : List Int) (v1 v2 : Int) (w : World) (hr : RdZ w w.heap.size A n l) (hnc : n ≤ c) (hc : c ≤ maxLen) (hx : ∀ x ∈ l, (Lit.int .i64 x).wf = true) (h1 : (Lit.int .i64 v1).wf = true) (h2 : (Lit.int .i64 v2).wf = true) :
    Calls Try.prog 5 #[.slice A n c, .int .i64 v1, .int .i64 v2] w fun e w' => e = .returned (.bool true) ∧ Below w.heap.size w w' := by
  by_cases h : 60 < n
  · exact numbers_long A n c v1 v2 w h
  · exact numbers_short A n c l v1 v2 w hr hnc hc hx h1 h2 h
end Go.Proofs.Ytnoblhacgmeddaa
