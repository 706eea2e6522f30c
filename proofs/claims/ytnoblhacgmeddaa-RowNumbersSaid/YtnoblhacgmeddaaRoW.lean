/-
  The example of layer 7: awake.
-/
import Derived.Test.YtnoblhacgmeddaaRw5
import Derived.Test.YtnoblhacgmeddaaRw2
set_option linter.unusedVariables false
set_option linter.unusedSimpArgs false
namespace Go.Proofs.Ytnoblhacgmeddaa
open Go Go.RowKit

theorem nameB_a : nameB ⟨#[97]⟩ = true := by decide
/-- A row that was just built of one column. -/
theorem one_row (w : World) (x : ByteArray × Ce) (k s : ByteArray) (d : Bool) (a e g h : Int) : ∀ w', Below (w.heap.size + 2) ((w.alloc (.cells #[.string x.1, .string x.2.s, .bool x.2.d, .int .i64 x.2.a, .int .i64 x.2.e] 51)).alloc (.cells #[.string k, .string s, .bool d, .int .i64 a, .int .i64 e, .int .i64 g, .int .i64 h, .slice (some ⟨w.heap.size, 0, none⟩) 1 1] 26)) w' →
    (w'.cell? ⟨(w.heap.size + 1), 0, none⟩ = some (.string k) ∧ w'.cell? ⟨(w.heap.size + 1), 1, none⟩ = some (.string s) ∧ w'.cell? ⟨(w.heap.size + 1), 2, none⟩ = some (.bool d) ∧ w'.cell? ⟨(w.heap.size + 1), 3, none⟩ = some (.int .i64 a) ∧ w'.cell? ⟨(w.heap.size + 1), 4, none⟩ = some (.int .i64 e) ∧ w'.cell? ⟨(w.heap.size + 1), 5, none⟩ = some (.int .i64 g) ∧ w'.cell? ⟨(w.heap.size + 1), 6, none⟩ = some (.int .i64 h) ∧ w'.cell? ⟨(w.heap.size + 1), 7, none⟩ = some (.slice (some ⟨w.heap.size, 0, none⟩) 1 1)) ∧ RdK w' (w.heap.size + 1) (some ⟨w.heap.size, 0, none⟩) 1 [x] := by
  intro w' hb
  have h1 := (RdK.one w x w.heap.size rfl).below ((Below.refl (w.heap.size + 1) _).alloc (by simp) (.cells #[.string k, .string s, .bool d, .int .i64 a, .int .i64 e, .int .i64 g, .int .i64 h, .slice (some ⟨w.heap.size, 0, none⟩) 1 1] 26))
  have h2 := RoAt.new (w.alloc (.cells #[.string x.1, .string x.2.s, .bool x.2.d, .int .i64 x.2.a, .int .i64 x.2.e] 51)) k s d a e g h (some ⟨w.heap.size, 0, none⟩) 1 1
  simp only [World.size_alloc] at h2
  exact ⟨h2.below hb (by omega), h1.below (hb.mono (by omega))⟩
theorem ok_none : Ce.ok ⟨⟨#[]⟩, false, 0, 0⟩ = true := by unfold Ce.ok; rw [if_pos rfl]; exact same_self _
theorem ok_x5 : Ce.ok ⟨⟨#[120]⟩, false, 5, 0⟩ = true := by unfold Ce.ok stm; decide
theorem live_none : liveB ⟨⟨#[]⟩, false, 0, 0⟩ = true := by unfold liveB; rw [ok_none, Lib.toList_data]; rfl
theorem ok_awake : Ro.ok ⟨⟨#[107]⟩, ⟨⟨#[]⟩, false, 0, 0⟩, 5, 0, [(⟨#[97]⟩, ⟨⟨#[120]⟩, false, 5, 0⟩)]⟩ = true := by
  unfold Ro.ok
  simp only
  rw [live_none, colsB_of (l := [(⟨#[97]⟩, ⟨⟨#[120]⟩, false, 5, 0⟩)]) ⟨fun y hy => (by cases hy), trivial⟩ (fun x hx => by rw [List.mem_singleton.1 hx]; unfold colB; simp only; rw [nameB_a, ok_x5]; decide)]
  decide
set_option maxHeartbeats 2000000 in
theorem awake_any (w : World) :
    Calls Try.prog 9 #[] w fun x w' => x = .returned (.bool true) ∧ Below w.heap.size w w' := by
  have hg : getC [(⟨#[97]⟩, ⟨⟨#[120]⟩, false, 5, 0⟩)] ⟨#[97]⟩ = ⟨⟨#[120]⟩, false, 5, 0⟩ := getC_head _ _ _
  have B1 := Lib.hid (show (bestD (max 5 0) (getC [(⟨#[97]⟩, ⟨⟨#[120]⟩, false, 5, 0⟩)] ⟨#[97]⟩)).v = .agg #[.string ⟨#[]⟩, .bool false, .int .i64 0, .int .i64 0] by rw [hg]; rfl)
  have C1 := Lib.hid (show cntD (max 5 0) (getC [(⟨#[97]⟩, ⟨⟨#[120]⟩, false, 5, 0⟩)] ⟨#[97]⟩) = false by rw [hg]; rfl)
  have B2 := Lib.hid (show (bestD (max 0 4) (getC [(⟨#[97]⟩, ⟨⟨#[120]⟩, false, 5, 0⟩)] ⟨#[97]⟩)).v = .agg #[.string ⟨#[120]⟩, .bool false, .int .i64 5, .int .i64 0] by rw [hg]; rfl)
  have C2 := Lib.hid (show cntD (max 0 4) (getC [(⟨#[97]⟩, ⟨⟨#[120]⟩, false, 5, 0⟩)] ⟨#[97]⟩) = true by rw [hg]; rfl)
  have K1 := Lib.hid (show Ro.ok ⟨⟨#[107]⟩, ⟨⟨#[]⟩, false, 0, 0⟩, 5, 0, [(⟨#[97]⟩, ⟨⟨#[120]⟩, false, 5, 0⟩)]⟩ = true from ok_awake)
  have F1 := Lib.hid (show Few [((⟨#[97]⟩ : ByteArray), (⟨⟨#[120]⟩, false, 5, 0⟩ : Ce))] from fun x hx => by rw [List.mem_singleton.1 hx]; exact ⟨by decide, by unfold maxLen; decide⟩)
  have hall := one_row w (⟨#[97]⟩, ⟨⟨#[120]⟩, false, 5, 0⟩) ⟨#[107]⟩ ⟨#[]⟩ false 0 0 5 0
  have bz := ((Below.refl w.heap.size w).alloc (Nat.le_refl _) (.cells #[.string ⟨#[97]⟩, .string ⟨#[120]⟩, .bool false, .int .i64 5, .int .i64 0] 51)).alloc (by simp) (.cells #[.string ⟨#[107]⟩, .string ⟨#[]⟩, .bool false, .int .i64 0, .int .i64 0, .int .i64 5, .int .i64 0, .slice (some ⟨w.heap.size, 0, none⟩) 1 1] 26)
  obtain ⟨V, hV⟩ : ∃ V, V = (w.alloc (.cells #[.string ⟨#[97]⟩, .string ⟨#[120]⟩, .bool false, .int .i64 5, .int .i64 0] 51)).alloc (.cells #[.string ⟨#[107]⟩, .string ⟨#[]⟩, .bool false, .int .i64 0, .int .i64 0, .int .i64 5, .int .i64 0, .slice (some ⟨w.heap.size, 0, none⟩) 1 1] 26) := ⟨_, rfl⟩
  have hVs : V.heap.size = w.heap.size + 2 := by rw [hV]; simp
  simp only at hall
  rw [← hV] at hall bz
  have HALL := Lib.hid hall; have BZ := Lib.hid bz; have HVS := Lib.hid hVs
  clear hall hg bz hVs
  go_enter Try.func9, Try.ntmps9
  go_wp2_with fail
  rw [← hV]
  clear hV
  refine (best_any _ _ _ _ _ _ _ _ _ _ _ (w.heap.size + 1) _ _ _ (HALL.out _ (Below.refl _ _)).2 (by rw [HVS.out]; omega) (by decide)).mono ?_
  rintro x w1 ⟨rfl, b1⟩
  rw [B1.out, C1.out]
  have hb1 := b1.alloc b1.size (.cells #[.string ⟨#[]⟩, .bool false, .int .i64 0, .int .i64 0] 23)
  have h1 := HALL.out _ (hb1.mono (by rw [HVS.out]; exact Nat.le_refl _))
  obtain ⟨⟨_, _, _, _, _, _, _, _⟩, hr1⟩ := h1
  have HR1 := Lib.hid hr1; have HB1 := Lib.hid hb1
  clear b1 hr1 hb1
  go_wp2_with fail
  refine (best_any _ _ _ _ _ _ _ _ _ _ _ (w.heap.size + 1) _ _ _ HR1.out (by have := HB1.out.size; rw [HVS.out] at this; omega) (by decide)).mono ?_
  rintro x w2 ⟨rfl, b2⟩
  rw [B2.out, C2.out]
  have hb2 := next HB1.out (b2.alloc b2.size (.cells #[.string ⟨#[120]⟩, .bool false, .int .i64 5, .int .i64 0] 23))
  have h2 := HALL.out _ (hb2.mono (by rw [HVS.out]; exact Nat.le_refl _))
  obtain ⟨⟨_, _, _, _, _, _, _, _⟩, hr2⟩ := h2
  have HR2 := Lib.hid hr2; have HB2 := Lib.hid hb2
  clear b2 hr2 hb2
  go_wp2_with fail
  refine (checkrow_any _ _ _ _ _ _ _ _ _ _ (w.heap.size + 1) _ _ HR2.out (by have := HB2.out.size; rw [HVS.out] at this; omega) (by decide) F1.out (by unfold maxLen; decide)).mono ?_
  rintro x w3 ⟨rfl, b3⟩
  rw [K1.out]
  have hb3 := next HB2.out b3
  have h3 := HALL.out _ (hb3.mono (by rw [HVS.out]; exact Nat.le_refl _))
  obtain ⟨⟨_, _, _, _, _, _, _, _⟩, _⟩ := h3
  have HB3 := Lib.hid hb3
  clear b3 hb3
  go_wp2_with fail
  refine (gone_any _ _ _ _ _ _ _ _ _ _ _ _).mono ?_
  rintro x w4 ⟨rfl, b4⟩
  have hb4 := Lib.hid (next BZ.out (next HB3.out b4))
  clear b4
  go_wp2
  go_ret
  exact ⟨rfl, hb4.out⟩
end Go.Proofs.Ytnoblhacgmeddaa
