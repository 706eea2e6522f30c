/-
  RowShades.
-/
import Derived.Test.YtnoblhacgmeddaaRoW
import Derived.Deep.DeepCutAuto
set_option linter.unusedVariables false
set_option linter.unusedSimpArgs false
namespace Go.Proofs.Ytnoblhacgmeddaa
open Go Go.RowKit

set_option maxRecDepth 8000 in
set_option maxHeartbeats 4000000 in
theorem call_shades (v0 v1 v2 v3 v4 v5 : Int) (w : World) (h0 : (Lit.int .i64 v0).wf = true) (h1 : (Lit.int .i64 v1).wf = true) (h2 : (Lit.int .i64 v2).wf = true) (h3 : (Lit.int .i64 v3).wf = true) (h4 : (Lit.int .i64 v4).wf = true) (h5 : (Lit.int .i64 v5).wf = true) :
    Calls Try.prog 6 #[.int .i64 v0, .int .i64 v1, .int .i64 v2, .int .i64 v3, .int .i64 v4, .int .i64 v5] w fun e w' => e = .returned (.bool true) ∧ Below w.heap.size w w' := by
  have md : ∀ v : Int, ∃ r : Int, v % 9 = r ∧ 0 ≤ r ∧ r < 9 := fun v => ⟨_, rfl, Int.emod_nonneg _ (by decide), Int.emod_lt_of_pos _ (by decide)⟩
  obtain ⟨l0, e0, l00, l01⟩ := md v0
  obtain ⟨g, e1, g0, g1⟩ := md v1
  obtain ⟨s, e2, s0, s1⟩ := md v2
  obtain ⟨p, e3, p0, p1⟩ := md v3
  obtain ⟨c0, e4, c00, c01⟩ := md v4
  obtain ⟨t, e5, t0, t1⟩ := md v5
  obtain ⟨l, hl⟩ : ∃ l, 1 + l0 = l := ⟨_, rfl⟩
  obtain ⟨c, hc⟩ : ∃ c, 1 + c0 = c := ⟨_, rfl⟩
  have wl : IntKind.i64.wrap (1 + l0) = l := by rw [IntKind.wrap_i64]; omega
  have wl2 : wrap64 (1 + l0) = l := by unfold wrap64; omega
  have wc : IntKind.i64.wrap (1 + c0) = c := by rw [IntKind.wrap_i64]; omega
  have wc2 : wrap64 (1 + c0) = c := by unfold wrap64; omega
  have E0 := Lib.hid e0; have E1 := Lib.hid e1; have E2 := Lib.hid e2; have E3 := Lib.hid e3; have E4 := Lib.hid e4; have E5 := Lib.hid e5
  have H0 := Lib.hid h0; have H1 := Lib.hid h1; have H2 := Lib.hid h2; have H3 := Lib.hid h3; have H4 := Lib.hid h4; have H5 := Lib.hid h5
  have BND := Lib.hid (show 1 ≤ l ∧ l ≤ 9 ∧ 0 ≤ g ∧ 0 ≤ s ∧ 0 ≤ p ∧ 1 ≤ c ∧ 0 ≤ t from by omega)
  clear md e0 e1 e2 e3 e4 e5 h0 h1 h2 h3 h4 h5 hl hc
  have hall := one_row w (⟨#[97]⟩, ⟨⟨#[120]⟩, false, c, 0⟩) ⟨#[107]⟩ ⟨#[]⟩ false l 5 g s
  have bz := ((Below.refl w.heap.size w).alloc (Nat.le_refl _) (.cells #[.string ⟨#[97]⟩, .string ⟨#[120]⟩, .bool false, .int .i64 c, .int .i64 0] 51)).alloc (by simp) (.cells #[.string ⟨#[107]⟩, .string ⟨#[]⟩, .bool false, .int .i64 l, .int .i64 5, .int .i64 g, .int .i64 s, .slice (some ⟨w.heap.size, 0, none⟩) 1 1] 26)
  obtain ⟨V, hV⟩ : ∃ V, V = (w.alloc (.cells #[.string ⟨#[97]⟩, .string ⟨#[120]⟩, .bool false, .int .i64 c, .int .i64 0] 51)).alloc (.cells #[.string ⟨#[107]⟩, .string ⟨#[]⟩, .bool false, .int .i64 l, .int .i64 5, .int .i64 g, .int .i64 s, .slice (some ⟨w.heap.size, 0, none⟩) 1 1] 26) := ⟨_, rfl⟩
  have hVs : V.heap.size = w.heap.size + 2 := by rw [hV]; simp
  simp only at hall
  rw [← hV] at hall bz
  have HALL := Lib.hid hall; have BZ := Lib.hid bz; have HVS := Lib.hid hVs
  clear hall bz hVs
  -- what holds, as two Booleans
  obtain ⟨is, his⟩ : ∃ b, (decide (g < l) && (decide (p < l) && (decide (s < l) && decide (t < 5)))) = b := ⟨_, rfl⟩
  obtain ⟨has, hhas⟩ : ∃ b, (decide (g < c) && decide (p < c)) = b := ⟨_, rfl⟩
  have IS := Lib.hid his; have HAS := Lib.hid hhas
  clear his hhas
  have hga : getC [(⟨#[97]⟩, ⟨⟨#[120]⟩, false, c, 0⟩)] ⟨#[97]⟩ = ⟨⟨#[120]⟩, false, c, 0⟩ := getC_head _ _ _
  have hgb : getC [(⟨#[97]⟩, ⟨⟨#[120]⟩, false, c, 0⟩)] ⟨#[98]⟩ = noC := getC_next _ _ (by decide)
  have hb := BND.out
  have C1 := Lib.hid (show cntD (max g p) (getC [(⟨#[97]⟩, ⟨⟨#[120]⟩, false, c, 0⟩)] ⟨#[97]⟩) = has by
    rw [hga, ← HAS.out, Bool.eq_iff_iff]; simp [cntD]; omega)
  have C2 := Lib.hid (show cntD (max g p) (getC [(⟨#[97]⟩, ⟨⟨#[120]⟩, false, c, 0⟩)] ⟨#[98]⟩) = false by
    rw [hgb]; unfold cntD noC; simp only; rw [decide_eq_false (show ¬ (max g p < 0) by omega)]; rfl)
  have hseen : seenD (max g p) t [((⟨#[97]⟩ : ByteArray), (⟨⟨#[120]⟩, false, c, 0⟩ : Ce))] = if has = true then [(⟨#[97]⟩, ⟨⟨#[120]⟩, false, c, 0⟩)] else [] := by
    have h1 := C1.out
    rw [hga] at h1
    have h2 : Ce.seen ⟨⟨#[120]⟩, false, c, 0⟩ t = true := by simp [Ce.seen]; omega
    unfold seenD
    rw [filter_one]
    simp only
    rw [h1, h2, Bool.and_true]
  have hlive : (Ce.seen ⟨⟨#[]⟩, false, l, 5⟩ t && decide (max (max g p) s < l)) = is := by
    rw [← IS.out, Bool.eq_iff_iff]; simp [Ce.seen]; omega
  have I1 := Lib.hid (show isD ⟨⟨#[]⟩, false, l, 5⟩ g s p t [((⟨#[97]⟩ : ByteArray), (⟨⟨#[120]⟩, false, c, 0⟩ : Ce))] true = is by
    unfold isD; simp only; rw [hlive]; simp)
  have I2 := Lib.hid (show isD ⟨⟨#[]⟩, false, l, 5⟩ g s p t [((⟨#[97]⟩ : ByteArray), (⟨⟨#[120]⟩, false, c, 0⟩ : Ce))] false = (is || has) by
    unfold isD; simp only; rw [hlive, hseen]; cases has <;> simp)
  have hlen : (seenD (max g p) t [((⟨#[97]⟩ : ByteArray), (⟨⟨#[120]⟩, false, c, 0⟩ : Ce))]).length = if has = true then 1 else 0 := by rw [hseen]; cases has <;> rfl
  have HLEN := Lib.hid hlen
  obtain ⟨⟨xs1, xd1, xa1, xe1⟩, hx1⟩ : ∃ x, bestD (max g p) (getC [(⟨#[97]⟩, ⟨⟨#[120]⟩, false, c, 0⟩)] ⟨#[97]⟩) = x := ⟨_, rfl⟩
  obtain ⟨⟨xs2, xd2, xa2, xe2⟩, hx2⟩ : ∃ x, bestD (max g p) (getC [(⟨#[97]⟩, ⟨⟨#[120]⟩, false, c, 0⟩)] ⟨#[98]⟩) = x := ⟨_, rfl⟩
  have X1 := Lib.hid (congrArg Ce.v hx1); have X2 := Lib.hid (congrArg Ce.v hx2)
  simp only [Ce.v] at X1 X2
  clear hga hgb hb hseen hlive hlen hx1 hx2
  go_enter Try.func6, Try.ntmps6
  go_wp2_with fail
  refine (place_any v0 9 _ (by decide) (by decide) (bounds_i64 H0.out)).mono ?_
  rintro e w1 ⟨rfl, rfl⟩
  rw [E0.out]
  go_wp2_with fail
  refine (place_any v1 9 _ (by decide) (by decide) (bounds_i64 H1.out)).mono ?_
  rintro e w1 ⟨rfl, rfl⟩
  rw [E1.out]
  go_wp2_with fail
  refine (place_any v2 9 _ (by decide) (by decide) (bounds_i64 H2.out)).mono ?_
  rintro e w1 ⟨rfl, rfl⟩
  rw [E2.out]
  go_wp2_with fail
  refine (place_any v3 9 _ (by decide) (by decide) (bounds_i64 H3.out)).mono ?_
  rintro e w1 ⟨rfl, rfl⟩
  rw [E3.out]
  go_wp2_with fail
  refine (place_any v4 9 _ (by decide) (by decide) (bounds_i64 H4.out)).mono ?_
  rintro e w1 ⟨rfl, rfl⟩
  rw [E4.out]
  go_wp2_with fail
  rw [← hV]
  clear hV
  refine (place_any v5 9 _ (by decide) (by decide) (bounds_i64 H5.out)).mono ?_
  rintro e w1 ⟨rfl, rfl⟩
  rw [E5.out]
  go_upto_region 4 with fail
  go_cut [20] (fun s20 wx => s20 = .bool is ∧ wx = V)
  case first =>
    clear wl wl2 wc wc2 l00 l01 c00 c01 g0 g1 s0 s1 p0 p1 t0 t1
    go_wp2_with fail
    all_goals go_meet
    all_goals exact ⟨by rw [← IS.out]; (simp_all <;> omega), rfl⟩
  case rest =>
    obtain ⟨rfl, hwc⟩ := hcut
    rw [hwc]
    clear hwc
    clear wl wl2 wc wc2 l00 l01 c00 c01 g0 g1 s0 s1 p0 p1 t0 t1
    go_upto_region 5 with fail
    go_cut [21] (fun s21 wx => s21 = .bool has ∧ wx = V)
    case first =>
      go_wp2_with fail
      all_goals go_meet
      all_goals exact ⟨by rw [← HAS.out]; (simp_all <;> omega), rfl⟩
    case rest =>
      obtain ⟨rfl, hwc⟩ := hcut
      rw [hwc]
      clear hwc
      have h0 := HALL.out _ (Below.refl _ _)
      obtain ⟨⟨_, _, _, _, _, _, _, _⟩, hr0⟩ := h0
      have HR0 := Lib.hid hr0
      clear hr0
      go_wp2_with fail
      refine (best_any _ _ _ _ _ _ _ _ _ _ _ (w.heap.size + 1) _ _ _ HR0.out (by rw [HVS.out]; omega) (by decide)).mono ?_
      rintro x w1 ⟨rfl, b1⟩
      unfold Ce.v
      rw [X1.out, C1.out]
      have hb1 := b1.alloc b1.size (.cells #[.string xs1, .bool xd1, .int .i64 xa1, .int .i64 xe1] 23)
      obtain ⟨⟨_, _, _, _, _, _, _, _⟩, hr1⟩ := HALL.out _ (hb1.mono (by rw [HVS.out]; exact Nat.le_refl _))
      have HR1 := Lib.hid hr1; have HB1 := Lib.hid hb1
      clear b1 hr1 hb1
      go_wp2_with fail
      refine (best_any _ _ _ _ _ _ _ _ _ _ _ (w.heap.size + 1) _ _ _ HR1.out (by have := HB1.out.size; rw [HVS.out] at this; omega) (by decide)).mono ?_
      rintro x w2 ⟨rfl, b2⟩
      unfold Ce.v
      rw [X2.out, C2.out]
      have hb2 := next HB1.out (b2.alloc b2.size (.cells #[.string xs2, .bool xd2, .int .i64 xa2, .int .i64 xe2] 23))
      obtain ⟨⟨_, _, _, _, _, _, _, _⟩, hr2⟩ := HALL.out _ (hb2.mono (by rw [HVS.out]; exact Nat.le_refl _))
      have HR2 := Lib.hid hr2; have HB2 := Lib.hid hb2
      clear b2 hr2 hb2
      go_wp2_with fail
      refine (isrow_any _ _ _ _ _ _ _ _ _ _ _ _ _ (w.heap.size + 1) _ _ HR2.out (by have := HB2.out.size; rw [HVS.out] at this; omega) (by decide)).mono ?_
      rintro x w3 ⟨rfl, b3⟩
      rw [I1.out]
      have hb3 := next HB2.out b3
      obtain ⟨⟨_, _, _, _, _, _, _, _⟩, hr3⟩ := HALL.out _ (hb3.mono (by rw [HVS.out]; exact Nat.le_refl _))
      have HR3 := Lib.hid hr3; have HB3 := Lib.hid hb3
      clear b3 hr3 hb3
      cases is <;> cases has
      all_goals
        go_wp2_with fail
        refine (isrow_any _ _ _ _ _ _ _ _ _ _ _ _ _ (w.heap.size + 1) _ _ HR3.out (by have := HB3.out.size; rw [HVS.out] at this; omega) (by decide)).mono ?_
        rintro x w4 ⟨rfl, b4⟩
        rw [I2.out]
        have hb4 := next HB3.out b4
        obtain ⟨⟨_, _, _, _, _, _, _, _⟩, hr4⟩ := HALL.out _ (hb4.mono (by rw [HVS.out]; exact Nat.le_refl _))
        have HR4 := Lib.hid hr4; have HB4 := Lib.hid hb4
        clear b4 hr4 hb4
        go_wp2_with fail
        refine (seenrow_any _ _ _ _ _ _ _ _ _ _ _ _ (w.heap.size + 1) _ _ HR4.out (by have := HB4.out.size; rw [HVS.out] at this; omega) (by decide)).mono ?_
        rintro x w5 ⟨v, rfl, hcur⟩
        obtain ⟨A1, c1, rfl, _⟩ := hcur.slice
        rw [HLEN.out]
        have hb5 := next HB4.out hcur.below
        obtain ⟨⟨_, _, _, _, _, _, _, _⟩, hr5⟩ := HALL.out _ (hb5.mono (by rw [HVS.out]; exact Nat.le_refl _))
        have HR5 := Lib.hid hr5; have HB5 := Lib.hid hb5
        clear hcur hr5 hb5
        go_wp2_with fail
        refine (gone_any _ _ _ _ _ _ _ _ _ _ _ _).mono ?_
        rintro x w6 ⟨rfl, b6⟩
        have hb6 := next HB5.out b6
        have HB6 := Lib.hid hb6
        clear b6 hb6
        go_wp2_with fail
        refine (awake_any _).mono ?_
        rintro x w7 ⟨rfl, b7⟩
        have hb7 := Lib.hid (next BZ.out (next HB6.out b7))
        clear b7
        go_wp2
        go_ret
        exact ⟨rfl, hb7.out⟩
end Go.Proofs.Ytnoblhacgmeddaa
