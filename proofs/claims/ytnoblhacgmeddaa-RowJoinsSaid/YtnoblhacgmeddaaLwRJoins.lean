/-
  RowJoins.
-/
import Derived.Test.YtnoblhacgmeddaaRoR
import Derived.Test.YtnoblhacgmeddaaRoW
set_option linter.unusedVariables false
set_option linter.unusedSimpArgs false
namespace Go.Proofs.Ytnoblhacgmeddaa
open Go Go.RowKit Go.Joins

set_option maxRecDepth 8000 in
set_option maxHeartbeats 16000000 in
theorem call_rjoins (a b c : Ro) (Aa Ab Ac : Option Addr) (ca cb cc : Nat) (w : World) (ia : RoIn w w.heap.size a Aa ca) (ib : RoIn w w.heap.size b Ab cb) (ic : RoIn w w.heap.size c Ac cc) :
    Calls Try.prog 4 #[a.val Aa ca, b.val Ab cb, c.val Ac cc] w fun e w' => e = .returned (.bool true) ∧ Below w.heap.size w w' := by
  unfold Ro.val
  obtain ⟨fa, hfa⟩ : ∃ u, fewB a = u := ⟨_, rfl⟩
  obtain ⟨fb, hfb⟩ : ∃ u, fewB b = u := ⟨_, rfl⟩
  obtain ⟨fc, hfc⟩ : ∃ u, fewB c = u := ⟨_, rfl⟩
  obtain ⟨ka, hka⟩ : ∃ u, a.ok = u := ⟨_, rfl⟩
  obtain ⟨kb, hkb⟩ : ∃ u, b.ok = u := ⟨_, rfl⟩
  obtain ⟨kc, hkc⟩ : ∃ u, c.ok = u := ⟨_, rfl⟩
  have Fa := Lib.hid hfa; have Fb := Lib.hid hfb; have Fc := Lib.hid hfc; have Ka := Lib.hid hka; have Kb := Lib.hid hkb; have Kc := Lib.hid hkc
  have bz := (((Below.refl w.heap.size w).alloc (Nat.le_refl _) (.cells #[.string a.key, .string a.live.s, .bool a.live.d, .int .i64 a.live.a, .int .i64 a.live.e, .int .i64 a.gone, .int .i64 a.shade, .slice Aa a.cols.length ca] 26)).alloc (by simp) (.cells #[.string b.key, .string b.live.s, .bool b.live.d, .int .i64 b.live.a, .int .i64 b.live.e, .int .i64 b.gone, .int .i64 b.shade, .slice Ab b.cols.length cb] 26)).alloc (by (simp <;> omega)) (.cells #[.string c.key, .string c.live.s, .bool c.live.d, .int .i64 c.live.a, .int .i64 c.live.e, .int .i64 c.gone, .int .i64 c.shade, .slice Ac c.cols.length cc] 26)
  have za : RJ _ w.heap.size a.key a.live.s a.live.d a.live.a a.live.e a.gone a.shade Aa a.cols.length ca := new_at (new_at (heap_alloc_new w (.cells #[.string a.key, .string a.live.s, .bool a.live.d, .int .i64 a.live.a, .int .i64 a.live.e, .int .i64 a.gone, .int .i64 a.shade, .slice Aa a.cols.length ca] 26)) (.cells #[.string b.key, .string b.live.s, .bool b.live.d, .int .i64 b.live.a, .int .i64 b.live.e, .int .i64 b.gone, .int .i64 b.shade, .slice Ab b.cols.length cb] 26)) (.cells #[.string c.key, .string c.live.s, .bool c.live.d, .int .i64 c.live.a, .int .i64 c.live.e, .int .i64 c.gone, .int .i64 c.shade, .slice Ac c.cols.length cc] 26)
  have zb := new_at (heap_alloc_new (w.alloc (.cells #[.string a.key, .string a.live.s, .bool a.live.d, .int .i64 a.live.a, .int .i64 a.live.e, .int .i64 a.gone, .int .i64 a.shade, .slice Aa a.cols.length ca] 26)) (.cells #[.string b.key, .string b.live.s, .bool b.live.d, .int .i64 b.live.a, .int .i64 b.live.e, .int .i64 b.gone, .int .i64 b.shade, .slice Ab b.cols.length cb] 26)) (.cells #[.string c.key, .string c.live.s, .bool c.live.d, .int .i64 c.live.a, .int .i64 c.live.e, .int .i64 c.gone, .int .i64 c.shade, .slice Ac c.cols.length cc] 26)
  have zc := heap_alloc_new ((w.alloc (.cells #[.string a.key, .string a.live.s, .bool a.live.d, .int .i64 a.live.a, .int .i64 a.live.e, .int .i64 a.gone, .int .i64 a.shade, .slice Aa a.cols.length ca] 26)).alloc (.cells #[.string b.key, .string b.live.s, .bool b.live.d, .int .i64 b.live.a, .int .i64 b.live.e, .int .i64 b.gone, .int .i64 b.shade, .slice Ab b.cols.length cb] 26)) (.cells #[.string c.key, .string c.live.s, .bool c.live.d, .int .i64 c.live.a, .int .i64 c.live.e, .int .i64 c.gone, .int .i64 c.shade, .slice Ac c.cols.length cc] 26)
  simp only [World.size_alloc] at zb zc
  obtain ⟨U, hU⟩ : ∃ U, U = ((w.alloc (.cells #[.string a.key, .string a.live.s, .bool a.live.d, .int .i64 a.live.a, .int .i64 a.live.e, .int .i64 a.gone, .int .i64 a.shade, .slice Aa a.cols.length ca] 26)).alloc (.cells #[.string b.key, .string b.live.s, .bool b.live.d, .int .i64 b.live.a, .int .i64 b.live.e, .int .i64 b.gone, .int .i64 b.shade, .slice Ab b.cols.length cb] 26)).alloc (.cells #[.string c.key, .string c.live.s, .bool c.live.d, .int .i64 c.live.a, .int .i64 c.live.e, .int .i64 c.gone, .int .i64 c.shade, .slice Ac c.cols.length cc] 26) := ⟨_, rfl⟩
  have hUs : U.heap.size = w.heap.size + 3 := by rw [hU]; simp
  rw [← hU] at bz za zb zc
  have zb : RJ U (w.heap.size + 1) b.key b.live.s b.live.d b.live.a b.live.e b.gone b.shade Ab b.cols.length cb := zb
  have zc : RJ U (w.heap.size + 1 + 1) c.key c.live.s c.live.d c.live.a c.live.e c.gone c.shade Ac c.cols.length cc := zc
  have hall : ∀ w', Below U.heap.size U w' → a.At w' w.heap.size Aa ca ∧ b.At w' (w.heap.size + 1) Ab cb ∧ c.At w' (w.heap.size + 1 + 1) Ac cc ∧ RoIn w' w.heap.size a Aa ca ∧ RoIn w' w.heap.size b Ab cb ∧ RoIn w' w.heap.size c Ac cc := fun w' hb =>
    ⟨za.cells.below hb (by omega), zb.cells.below hb (by omega), zc.cells.below hb (by omega), (ia.below bz).below (hb.mono (by omega)), (ib.below bz).below (hb.mono (by omega)), (ic.below bz).below (hb.mono (by omega))⟩
  have HALL := Lib.hid hall; have BZ := Lib.hid bz; have HUS := Lib.hid hUs; have ZA := Lib.hid za; have ZB := Lib.hid zb; have ZC := Lib.hid zc
  have HB := Lib.hid (Below.refl U.heap.size U)
  clear hfa hfb hfc hka hkb hkc bz za zb zc hUs hall ia ib ic
  obtain ⟨⟨_, _, _, _, _, _, _, _⟩, ⟨_, _, _, _, _, _, _, _⟩, ⟨_, _, _, _, _, _, _, _⟩, _⟩ := HALL.out _ HB.out
  go_enter Try.func4, Try.ntmps4
  go_wp2_with fail
  rw [← hU]
  clear hU
  refine (fewrow_ro a Aa ca w.heap.size _ (HALL.out _ HB.out).2.2.2.1 (by have := HB.out.size; have := HUS.out; omega)).mono ?_
  rintro x v1 ⟨rfl, b1⟩
  rw [Fa.out]
  have hb1 := HB.out.trans (b1.mono HB.out.size)
  clear HB b1
  have HB := Lib.hid hb1
  clear hb1
  obtain ⟨⟨_, _, _, _, _, _, _, _⟩, ⟨_, _, _, _, _, _, _, _⟩, ⟨_, _, _, _, _, _, _, _⟩, _⟩ := HALL.out _ HB.out
  cases fa
  · go_wp2_with fail
    refine (awake_any _).mono ?_
    rintro x v9 ⟨rfl, b9⟩
    have h9 := Lib.hid (next BZ.out (HB.out.trans (b9.mono HB.out.size)))
    clear b9
    go_wp2
    go_ret
    exact ⟨rfl, h9.out⟩
  have Ga := Lib.hid (few_of Fa.out)
  go_wp2_with fail
  refine (fewrow_ro b Ab cb w.heap.size _ (HALL.out _ HB.out).2.2.2.2.1 (by have := HB.out.size; have := HUS.out; omega)).mono ?_
  rintro x v2 ⟨rfl, b2⟩
  rw [Fb.out]
  have hb2 := HB.out.trans (b2.mono HB.out.size)
  clear HB b2
  have HB := Lib.hid hb2
  clear hb2
  obtain ⟨⟨_, _, _, _, _, _, _, _⟩, ⟨_, _, _, _, _, _, _, _⟩, ⟨_, _, _, _, _, _, _, _⟩, _⟩ := HALL.out _ HB.out
  cases fb
  · go_wp2_with fail
    refine (awake_any _).mono ?_
    rintro x v9 ⟨rfl, b9⟩
    have h9 := Lib.hid (next BZ.out (HB.out.trans (b9.mono HB.out.size)))
    clear b9
    go_wp2
    go_ret
    exact ⟨rfl, h9.out⟩
  have Gb := Lib.hid (few_of Fb.out)
  go_wp2_with fail
  refine (fewrow_ro c Ac cc w.heap.size _ (HALL.out _ HB.out).2.2.2.2.2 (by have := HB.out.size; have := HUS.out; omega)).mono ?_
  rintro x v3 ⟨rfl, b3⟩
  rw [Fc.out]
  have hb3 := HB.out.trans (b3.mono HB.out.size)
  clear HB b3
  have HB := Lib.hid hb3
  clear hb3
  obtain ⟨⟨_, _, _, _, _, _, _, _⟩, ⟨_, _, _, _, _, _, _, _⟩, ⟨_, _, _, _, _, _, _, _⟩, _⟩ := HALL.out _ HB.out
  cases fc
  · go_wp2_with fail
    refine (awake_any _).mono ?_
    rintro x v9 ⟨rfl, b9⟩
    have h9 := Lib.hid (next BZ.out (HB.out.trans (b9.mono HB.out.size)))
    clear b9
    go_wp2
    go_ret
    exact ⟨rfl, h9.out⟩
  have Gc := Lib.hid (few_of Fc.out)
  go_wp2_with fail
  refine (check_ro a Aa ca w.heap.size _ (HALL.out _ HB.out).2.2.2.1 (by have := HB.out.size; have := HUS.out; omega) (by have := Ga.out.len; omega) Ga.out.few (by have := Ga.out.live; unfold maxLen; omega)).mono ?_
  rintro x v4 ⟨rfl, b4⟩
  rw [Ka.out]
  have hb4 := HB.out.trans (b4.mono HB.out.size)
  clear HB b4
  have HB := Lib.hid hb4
  clear hb4
  obtain ⟨⟨_, _, _, _, _, _, _, _⟩, ⟨_, _, _, _, _, _, _, _⟩, ⟨_, _, _, _, _, _, _, _⟩, _⟩ := HALL.out _ HB.out
  cases ka
  · go_wp2_with fail
    refine (awake_any _).mono ?_
    rintro x v9 ⟨rfl, b9⟩
    have h9 := Lib.hid (next BZ.out (HB.out.trans (b9.mono HB.out.size)))
    clear b9
    go_wp2
    go_ret
    exact ⟨rfl, h9.out⟩
  go_wp2_with fail
  refine (check_ro b Ab cb w.heap.size _ (HALL.out _ HB.out).2.2.2.2.1 (by have := HB.out.size; have := HUS.out; omega) (by have := Gb.out.len; omega) Gb.out.few (by have := Gb.out.live; unfold maxLen; omega)).mono ?_
  rintro x v5 ⟨rfl, b5⟩
  rw [Kb.out]
  have hb5 := HB.out.trans (b5.mono HB.out.size)
  clear HB b5
  have HB := Lib.hid hb5
  clear hb5
  obtain ⟨⟨_, _, _, _, _, _, _, _⟩, ⟨_, _, _, _, _, _, _, _⟩, ⟨_, _, _, _, _, _, _, _⟩, _⟩ := HALL.out _ HB.out
  cases kb
  · go_wp2_with fail
    refine (awake_any _).mono ?_
    rintro x v9 ⟨rfl, b9⟩
    have h9 := Lib.hid (next BZ.out (HB.out.trans (b9.mono HB.out.size)))
    clear b9
    go_wp2
    go_ret
    exact ⟨rfl, h9.out⟩
  go_wp2_with fail
  refine (check_ro c Ac cc w.heap.size _ (HALL.out _ HB.out).2.2.2.2.2 (by have := HB.out.size; have := HUS.out; omega) (by have := Gc.out.len; omega) Gc.out.few (by have := Gc.out.live; unfold maxLen; omega)).mono ?_
  rintro x v6 ⟨rfl, b6⟩
  rw [Kc.out]
  have hb6 := HB.out.trans (b6.mono HB.out.size)
  clear HB b6
  have HB := Lib.hid hb6
  clear hb6
  obtain ⟨⟨_, _, _, _, _, _, _, _⟩, ⟨_, _, _, _, _, _, _, _⟩, ⟨_, _, _, _, _, _, _, _⟩, _⟩ := HALL.out _ HB.out
  cases kc
  · go_wp2_with fail
    refine (awake_any _).mono ?_
    rintro x v9 ⟨rfl, b9⟩
    have h9 := Lib.hid (next BZ.out (HB.out.trans (b9.mono HB.out.size)))
    clear b9
    go_wp2
    go_ret
    exact ⟨rfl, h9.out⟩
  have Ua := Lib.hid (up_of_ok Ka.out); have Ub := Lib.hid (up_of_ok Kb.out); have Uc := Lib.hid (up_of_ok Kc.out)
  have zb6 : RJ v6 (w.heap.size + 1) b.key b.live.s b.live.d b.live.a b.live.e b.gone b.shade Ab b.cols.length cb := (HB.out.block (w.heap.size + 1) (by have := HUS.out; omega)).trans ZB.out
  have zc6 : RJ v6 (w.heap.size + 1 + 1) c.key c.live.s c.live.d c.live.a c.live.e c.gone c.shade Ac c.cols.length cc := (HB.out.block (w.heap.size + 1 + 1) (by have := HUS.out; omega)).trans ZC.out
  have ZB6 := Lib.hid zb6; have ZC6 := Lib.hid zc6
  have f1 := RJ.thawed zb6 0
  have f2 := RJ.thawed zc6 0
  clear zb6 zc6
  go_wp2_with fail
  go_region
  have zb7 : RJ (v6.setCell ⟨w.heap.size + 1, 0, none⟩ (.string a.key)) (w.heap.size + 1) a.key b.live.s b.live.d b.live.a b.live.e b.gone b.shade Ab b.cols.length cb := by
    have m := block_setCell (i := 0) ZB6.out (.string a.key)
    simp only [List.setIfInBounds_toArray, List.set_cons_zero, List.set_cons_succ] at m
    exact m
  have zc7 : RJ (v6.setCell ⟨w.heap.size + 1, 0, none⟩ (.string a.key)) (w.heap.size + 1 + 1) c.key c.live.s c.live.d c.live.a c.live.e c.gone c.shade Ac c.cols.length cc := (Below.heap_setCell _ _ _ _ (by show w.heap.size + 1 + 1 ≠ w.heap.size + 1; omega)).trans ZC6.out
  have zc8 : RJ ((v6.setCell ⟨w.heap.size + 1, 0, none⟩ (.string a.key)).setCell ⟨w.heap.size + 1 + 1, 0, none⟩ (.string a.key)) (w.heap.size + 1 + 1) a.key c.live.s c.live.d c.live.a c.live.e c.gone c.shade Ac c.cols.length cc := by
    have m := block_setCell (i := 0) zc7 (.string a.key)
    simp only [List.setIfInBounds_toArray, List.set_cons_zero, List.set_cons_succ] at m
    exact m
  have zb8 : RJ ((v6.setCell ⟨w.heap.size + 1, 0, none⟩ (.string a.key)).setCell ⟨w.heap.size + 1 + 1, 0, none⟩ (.string a.key)) (w.heap.size + 1) a.key b.live.s b.live.d b.live.a b.live.e b.gone b.shade Ab b.cols.length cb := (Below.heap_setCell _ _ _ _ (by show w.heap.size + 1 ≠ w.heap.size + 1 + 1; omega)).trans zb7
  have hb8 : Below (w.heap.size + 1) U ((v6.setCell ⟨w.heap.size + 1, 0, none⟩ (.string a.key)).setCell ⟨w.heap.size + 1 + 1, 0, none⟩ (.string a.key)) := ((HB.out.mono (show w.heap.size + 1 ≤ U.heap.size by have := HUS.out; omega)).setCell (p := ⟨w.heap.size + 1, 0, none⟩) (Nat.le_refl _) _).setCell (p := ⟨w.heap.size + 1 + 1, 0, none⟩) (show w.heap.size + 1 ≤ w.heap.size + 1 + 1 by omega) _
  have hs8 := hb8.size
  obtain ⟨b', hb'⟩ : ∃ b' : Ro, b' = ⟨a.key, b.live, b.gone, b.shade, b.cols⟩ := ⟨_, rfl⟩
  obtain ⟨c', hc'⟩ : ∃ c' : Ro, c' = ⟨a.key, c.live, c.gone, c.shade, c.cols⟩ := ⟨_, rfl⟩
  obtain ⟨W8, hW8⟩ : ∃ W8, W8 = ((v6.setCell ⟨w.heap.size + 1, 0, none⟩ (.string a.key)).setCell ⟨w.heap.size + 1 + 1, 0, none⟩ (.string a.key)).drew := ⟨_, rfl⟩
  rw [← hW8]
  have hb8' : Below (w.heap.size + 1) U W8 := by rw [hW8]; exact hb8.drew
  have hs8' : U.heap.size ≤ W8.heap.size := hb8'.size
  have zb8' : RJ W8 (w.heap.size + 1) b'.key b'.live.s b'.live.d b'.live.a b'.live.e b'.gone b'.shade Ab b'.cols.length cb := by rw [hb', hW8]; exact zb8
  have zc8' : RJ W8 (w.heap.size + 1 + 1) c'.key c'.live.s c'.live.d c'.live.a c'.live.e c'.gone c'.shade Ac c'.cols.length cc := by rw [hc', hW8]; exact zc8
  have hall2 : ∀ w', Below W8.heap.size W8 w' → a.At w' w.heap.size Aa ca ∧ b'.At w' (w.heap.size + 1) Ab cb ∧ c'.At w' (w.heap.size + 1 + 1) Ac cc ∧ RoIn w' w.heap.size a Aa ca ∧ RoIn w' w.heap.size b' Ab cb ∧ RoIn w' w.heap.size c' Ac cc := by
    intro w' hb
    have hus := HUS.out
    have hb0 : Below (w.heap.size + 1) U w' := hb8'.trans (hb.mono (by omega))
    obtain ⟨ia, ib, ic⟩ := (HALL.out U (Below.refl _ _)).2.2.2
    refine ⟨ZA.out.cells.below hb0 (by omega), RJ.cells ((hb.block _ (by omega)).trans zb8'), RJ.cells ((hb.block _ (by omega)).trans zc8'), ia.below (hb0.mono (by omega)), ?_, ?_⟩
    · rw [hb']; exact ⟨(ib.below (hb0.mono (by omega))).rd, ib.cap⟩
    · rw [hc']; exact ⟨(ic.below (hb0.mono (by omega))).rd, ic.cap⟩
  have hbz8 : Below w.heap.size w W8 := BZ.out.trans (hb8'.mono (by omega))
  have hub : b'.Up := by rw [hb']; exact ⟨Ub.out.rise, Ub.out.full⟩
  have huc : c'.Up := by rw [hc']; exact ⟨Uc.out.rise, Uc.out.full⟩
  have hgb : b'.cols.length ≤ 20 ∧ Few b'.cols ∧ b'.live.s.size ≤ 1000 := by rw [hb']; exact ⟨Gb.out.len, Gb.out.few, Gb.out.live⟩
  have hgc : c'.cols.length ≤ 20 ∧ Few c'.cols ∧ c'.live.s.size ≤ 1000 := by rw [hc']; exact ⟨Gc.out.len, Gc.out.few, Gc.out.live⟩
  have hkab : a.key = b'.key := by rw [hb']
  obtain ⟨X1, hX1⟩ : ∃ X, a.join b' = X := ⟨_, rfl⟩
  obtain ⟨X2, hX2⟩ : ∃ X, X1.join c' = X := ⟨_, rfl⟩
  obtain ⟨X3, hX3⟩ : ∃ X, b'.join c' = X := ⟨_, rfl⟩
  have hub1 : X1.Up := by rw [← hX1]; exact Ua.out.join hub
  have hub3 : X3.Up := by rw [← hX3]; exact hub.join huc
  have hl1 : X1.cols.length ≤ 40 := by have := len_join a b'; rw [hX1] at this; have := Ga.out.len; omega
  have hl2 : X2.cols.length ≤ 60 := by have := len_join X1 c'; rw [hX2] at this; omega
  have hl3 : X3.cols.length ≤ 40 := by have := len_join b' c'; rw [hX3] at this; omega
  have FEW2 := Lib.hid (show Few X2.cols by rw [← hX2, ← hX1]; exact few_join (few_join Ga.out.few hgb.2.1) hgc.2.1)
  have LIV2 := Lib.hid (show X2.live.s.size ≤ maxLen from Nat.le_trans (show X2.live.s.size ≤ 1000 by rw [← hX2, ← hX1]; exact live_join _ _ (live_join _ _ Ga.out.live hgb.2.2) hgc.2.2) (by unfold maxLen; decide))
  have J1 := Lib.hid hX1; have J2 := Lib.hid hX2; have J3 := Lib.hid hX3
  have J1' := Lib.hid (show b'.join a = X1 by rw [← hX1]; exact (ro_comm hkab Ua.out hub).symm)
  have J4 := Lib.hid (show a.join X3 = X2 by rw [← hX2, ← hX3, ← hX1]; exact (ro_assoc Ua.out hub huc).symm)
  have J5 := Lib.hid (show X1.join b' = X1 by rw [← hX1]; exact ro_in Ua.out hub)
  have J6 := Lib.hid (show a.join a = a from ro_self Ua.out)
  have S1 := Lib.hid ((rosame_iff X1 X1).2 rfl); have S2 := Lib.hid ((rosame_iff X2 X2).2 rfl); have S3 := Lib.hid ((rosame_iff a a).2 rfl)
  obtain ⟨kx, hkx⟩ : ∃ u, X2.ok = u := ⟨_, rfl⟩
  have KX := Lib.hid hkx
  have LEN := Lib.hid (show a.cols.length ≤ 20 ∧ b'.cols.length ≤ 20 ∧ c'.cols.length ≤ 20 ∧ X1.cols.length ≤ 40 ∧ X2.cols.length ≤ 60 ∧ X3.cols.length ≤ 40 from ⟨Ga.out.len, hgb.1, hgc.1, hl1, hl2, hl3⟩)
  have UB := Lib.hid hub; have UC := Lib.hid huc; have U1 := Lib.hid hub1; have U3 := Lib.hid hub3
  have HALL2 := Lib.hid hall2
  have BZ8 := Lib.hid hbz8
  have HS8 := Lib.hid (show w.heap.size + 3 ≤ W8.heap.size by have := HUS.out; omega)
  clear hkx hX1 hX2 hX3 hub1 hub3 hl1 hl2 hl3 hgb hgc hkab hub huc hbz8 hall2 zb8' zc8' zb8 zc8 zb7 zc7 hs8 hs8' hb8 hb8' hW8 hb' hc' f1 f2 HB ZA ZB ZC ZB6 ZC6 BZ HALL Fa Fb Fc Ka Kb Kc
  have BZ := BZ8
  go_wp2_with fail
  refine wp_region_held_drew (S := fun w' => Below W8.heap.size W8 w') (by kernel_rfl) ?_ (fun hHeld => ?_)
  · exact (Below.refl _ _).drew
  refine wpAnyH_take (i := 0) (v := ?_) rfl (by kernel_rfl) (by kernel_rfl) (by kernel_rfl) (fun _ _ _ h => h) (Or.inl ⟨by rfl, ?_⟩) (by assumption) ?_
  rotate_left
  · (intro wx hSw; (try dsimp only at hSw); obtain ⟨⟨_, _, _, _, _, _, _, _⟩, ⟨_, _, _, _, _, _, _, _⟩, ⟨_, _, _, _, _, _, _, _⟩, _⟩ := HALL2.out _ hSw; go_simp; try with_reducible rfl)
  try simp only [Act.put, List.getElem_toArray, List.getElem_cons_succ, List.getElem_cons_zero, List.setIfInBounds_toArray, List.set_cons_zero, List.set_cons_succ]
  refine wpAnyH_take (i := 1) (v := ?_) rfl (by kernel_rfl) (by kernel_rfl) (by kernel_rfl) (fun _ _ _ h => h) (Or.inl ⟨by rfl, ?_⟩) (by assumption) ?_
  rotate_left
  · (intro wx hSw; (try dsimp only at hSw); obtain ⟨⟨_, _, _, _, _, _, _, _⟩, ⟨_, _, _, _, _, _, _, _⟩, ⟨_, _, _, _, _, _, _, _⟩, _⟩ := HALL2.out _ hSw; go_simp; try with_reducible rfl)
  try simp only [Act.put, List.getElem_toArray, List.getElem_cons_succ, List.getElem_cons_zero, List.setIfInBounds_toArray, List.set_cons_zero, List.set_cons_succ]
  refine wpAnyH_take (i := 3) (v := ?_) rfl (by kernel_rfl) (by kernel_rfl) (by kernel_rfl) (fun _ _ _ h => h) (Or.inl ⟨by rfl, ?_⟩) (by assumption) ?_
  rotate_left
  · (intro wx hSw; (try dsimp only at hSw); obtain ⟨⟨_, _, _, _, _, _, _, _⟩, ⟨_, _, _, _, _, _, _, _⟩, ⟨_, _, _, _, _, _, _, _⟩, _⟩ := HALL2.out _ hSw; go_simp; try with_reducible rfl)
  try simp only [Act.put, List.getElem_toArray, List.getElem_cons_succ, List.getElem_cons_zero, List.setIfInBounds_toArray, List.set_cons_zero, List.set_cons_succ]
  refine wpAnyH_ready (rs := [2]) (by kernel_rfl) (by simp) (AllReadyH.cons rfl (fun K hK => ?_) AllReadyH.nil)
  go_simp
  obtain ⟨_, _, _, ja, jb, jc⟩ := HALL2.out _ hHeld
  refine (rjoin_ro a b' X1 Aa Ab ca cb w.heap.size w.heap.size W8.drew ja jb (by have := HS8.out; show w.heap.size ≤ W8.heap.size; omega) (by have := HS8.out; show w.heap.size ≤ W8.heap.size; omega) (by have := LEN.out; omega) J1.out).mono ?_
  rintro x v1 ⟨A1, c1, rfl, h1⟩
  have H1 := Lib.hid h1
  have BN := Lib.hid h1.below
  clear h1 ja jb jc
  try go_wp2_with fail
  refine hK.out _ _ ?_ (fun hHeld => ?_)
  · exact hHeld.trans (BN.out.mono hHeld.size)
  clear hK K
  try simp only [Act.put, List.getElem_toArray, List.getElem_cons_succ, List.getElem_cons_zero, List.setIfInBounds_toArray, List.set_cons_zero, List.set_cons_succ]
  refine wpAnyH_ready (rs := [4]) (by kernel_rfl) (by simp) (AllReadyH.cons rfl (fun K hK => ?_) AllReadyH.nil)
  go_simp
  obtain ⟨_, _, _, ja, jb, jc⟩ := HALL2.out _ hHeld
  refine (rjoin_ro X1 c' X2 A1 Ac c1 cc v1.heap.size w.heap.size v1 H1.out.roIn jc (Nat.le_refl _) (by have := hHeld.size; have := HS8.out; omega) (by have := LEN.out; omega) J2.out).mono ?_
  rintro x v2 ⟨A2, c2, rfl, h1⟩
  have H2 := Lib.hid h1
  have BN := Lib.hid h1.below
  clear h1 ja jb jc
  try go_wp2_with fail
  refine hK.out _ _ ?_ (fun hHeld => ?_)
  · exact hHeld.trans (BN.out.mono hHeld.size)
  clear hK K
  try simp only [Act.put, List.getElem_toArray, List.getElem_cons_succ, List.getElem_cons_zero, List.setIfInBounds_toArray, List.set_cons_zero, List.set_cons_succ]
  refine wpAnyH_ready (rs := [5]) (by kernel_rfl) (by simp) (AllReadyH.cons rfl (fun K hK => ?_) AllReadyH.nil)
  go_simp
  refine (rcheck_ro X2 A2 c2 v2.heap.size v2 H2.out.roIn (Nat.le_refl _) (by have := LEN.out; omega) FEW2.out LIV2.out).mono ?_
  rintro x v3 ⟨rfl, b3⟩
  rw [KX.out]
  have BN := Lib.hid b3
  clear b3
  try go_wp2_with fail
  refine hK.out _ _ ?_ (fun hHeld => ?_)
  · exact hHeld.trans (BN.out.mono hHeld.size)
  clear hK K
  try simp only [Act.put, List.getElem_toArray, List.getElem_cons_succ, List.getElem_cons_zero, List.setIfInBounds_toArray, List.set_cons_zero, List.set_cons_succ]
  refine wpAnyH_take (i := 6) (v := ?_) rfl (by kernel_rfl) (by kernel_rfl) (by kernel_rfl) (fun _ _ _ h => h) (Or.inl ⟨by rfl, ?_⟩) (by assumption) ?_
  rotate_left
  · (intro wx hSw; (try dsimp only at hSw); go_simp; try with_reducible rfl)
  try simp only [Act.put, List.getElem_toArray, List.getElem_cons_succ, List.getElem_cons_zero, List.setIfInBounds_toArray, List.set_cons_zero, List.set_cons_succ]
  refine wpAnyH_done (by kernel_rfl) ?_ _
  have HB := Lib.hid hHeld
  clear hHeld
  cases kx
  · go_wp2_with fail
    refine (awake_any _).mono ?_
    rintro x v9 ⟨rfl, b9⟩
    have h9 := Lib.hid (next BZ.out (HB.out.trans (b9.mono HB.out.size)))
    clear b9
    go_wp2
    go_ret
    exact ⟨rfl, h9.out⟩
  obtain ⟨⟨_, _, _, _, _, _, _, _⟩, ⟨_, _, _, _, _, _, _, _⟩, ⟨_, _, _, _, _, _, _, _⟩, ja, jb, jc⟩ := HALL2.out _ HB.out
  have JA := Lib.hid ja; have JB := Lib.hid jb
  clear ja jb jc
  go_wp2_with fail
  refine (join_ro a b' X1 Aa Ab ca cb w.heap.size w.heap.size v3 JA.out JB.out (by have := HB.out.size; have := HS8.out; omega) (by have := HB.out.size; have := HS8.out; omega) (by have := LEN.out; omega) Ua.out UB.out J1.out).mono ?_
  rintro x v4 ⟨A4, c4, rfl, hcur4⟩
  unfold Ro.val
  have z9 := heap_alloc_new v4 (.cells #[.string X1.key, .string X1.live.s, .bool X1.live.d, .int .i64 X1.live.a, .int .i64 X1.live.e, .int .i64 X1.gone, .int .i64 X1.shade, .slice A4 X1.cols.length c4] 26)
  have hb9 : Below W8.heap.size W8 (v4.alloc (.cells #[.string X1.key, .string X1.live.s, .bool X1.live.d, .int .i64 X1.live.a, .int .i64 X1.live.e, .int .i64 X1.gone, .int .i64 X1.shade, .slice A4 X1.cols.length c4] 26)) := (HB.out.trans (hcur4.below.mono HB.out.size)).alloc (HB.out.trans (hcur4.below.mono HB.out.size)).size _
  have hi9 := hcur4.roIn.below ((Below.refl v4.heap.size v4).alloc (Nat.le_refl _) (.cells #[.string X1.key, .string X1.live.s, .bool X1.live.d, .int .i64 X1.live.a, .int .i64 X1.live.e, .int .i64 X1.gone, .int .i64 X1.shade, .slice A4 X1.cols.length c4] 26))
  have hs4 : W8.heap.size ≤ v4.heap.size := (HB.out.trans (hcur4.below.mono HB.out.size)).size
  obtain ⟨W9, hW9⟩ : ∃ W9, W9 = v4.alloc (.cells #[.string X1.key, .string X1.live.s, .bool X1.live.d, .int .i64 X1.live.a, .int .i64 X1.live.e, .int .i64 X1.gone, .int .i64 X1.shade, .slice A4 X1.cols.length c4] 26) := ⟨_, rfl⟩
  have hs9 : W9.heap.size = v4.heap.size + 1 := by rw [hW9]; simp
  rw [← hW9] at z9 hb9 hi9
  have z9 : RJ W9 v4.heap.size X1.key X1.live.s X1.live.d X1.live.a X1.live.e X1.gone X1.shade A4 X1.cols.length c4 := z9
  have hall3 : ∀ w', Below W9.heap.size W9 w' → a.At w' w.heap.size Aa ca ∧ b'.At w' (w.heap.size + 1) Ab cb ∧ c'.At w' (w.heap.size + 1 + 1) Ac cc ∧ X1.At w' v4.heap.size A4 c4 ∧ RoIn w' w.heap.size a Aa ca ∧ RoIn w' w.heap.size b' Ab cb ∧ RoIn w' w.heap.size c' Ac cc ∧ RoIn w' v4.heap.size X1 A4 c4 := by
    intro w' hb
    obtain ⟨h1, h2, h3, h4, h5, h6⟩ := HALL2.out w' (hb9.trans (hb.mono (by omega)))
    exact ⟨h1, h2, h3, z9.cells.below hb (by omega), h4, h5, h6, hi9.below (hb.mono (by omega))⟩
  have HALL3 := Lib.hid hall3
  have HS9 := Lib.hid (show w.heap.size + 3 ≤ W9.heap.size ∧ v4.heap.size ≤ W9.heap.size by have := HS8.out; omega)
  have HB9 := Lib.hid (BZ.out.trans (hb9.mono (by have := HS8.out; omega)))
  clear z9 hb9 hi9 hs4 hs9 hall3 hcur4 HB
  go_wp2_with fail
  rw [← hW9]
  clear hW9
  refine wp_region_held_drew (S := fun w' => Below W9.heap.size W9 w') (by kernel_rfl) ?_ (fun hHeld => ?_)
  · exact (Below.refl _ _).drew
  refine wpAnyH_take (i := 0) (v := ?_) rfl (by kernel_rfl) (by kernel_rfl) (by kernel_rfl) (fun _ _ _ h => h) (Or.inl ⟨by rfl, ?_⟩) (by assumption) ?_
  rotate_left
  · (intro wx hSw; (try dsimp only at hSw); obtain ⟨⟨_, _, _, _, _, _, _, _⟩, ⟨_, _, _, _, _, _, _, _⟩, ⟨_, _, _, _, _, _, _, _⟩, ⟨_, _, _, _, _, _, _, _⟩, _⟩ := HALL3.out _ hSw; go_simp; try with_reducible rfl)
  try simp only [Act.put, List.getElem_toArray, List.getElem_cons_succ, List.getElem_cons_zero, List.setIfInBounds_toArray, List.set_cons_zero, List.set_cons_succ]
  refine wpAnyH_take (i := 1) (v := ?_) rfl (by kernel_rfl) (by kernel_rfl) (by kernel_rfl) (fun _ _ _ h => h) (Or.inl ⟨by rfl, ?_⟩) (by assumption) ?_
  rotate_left
  · (intro wx hSw; (try dsimp only at hSw); obtain ⟨⟨_, _, _, _, _, _, _, _⟩, ⟨_, _, _, _, _, _, _, _⟩, ⟨_, _, _, _, _, _, _, _⟩, ⟨_, _, _, _, _, _, _, _⟩, _⟩ := HALL3.out _ hSw; go_simp; try with_reducible rfl)
  try simp only [Act.put, List.getElem_toArray, List.getElem_cons_succ, List.getElem_cons_zero, List.setIfInBounds_toArray, List.set_cons_zero, List.set_cons_succ]
  refine wpAnyH_take (i := 2) (v := ?_) rfl (by kernel_rfl) (by kernel_rfl) (by kernel_rfl) (fun _ _ _ h => h) (Or.inl ⟨by rfl, ?_⟩) (by assumption) ?_
  rotate_left
  · (intro wx hSw; (try dsimp only at hSw); obtain ⟨⟨_, _, _, _, _, _, _, _⟩, ⟨_, _, _, _, _, _, _, _⟩, ⟨_, _, _, _, _, _, _, _⟩, ⟨_, _, _, _, _, _, _, _⟩, _⟩ := HALL3.out _ hSw; go_simp; try with_reducible rfl)
  try simp only [Act.put, List.getElem_toArray, List.getElem_cons_succ, List.getElem_cons_zero, List.setIfInBounds_toArray, List.set_cons_zero, List.set_cons_succ]
  refine wpAnyH_ready (rs := [3]) (by kernel_rfl) (by simp) (AllReadyH.cons rfl (fun K hK => ?_) AllReadyH.nil)
  go_simp
  obtain ⟨_, _, _, _, ja, jb, jc, jx⟩ := HALL3.out _ hHeld
  refine (join_ro b' a X1 Ab Aa cb ca w.heap.size w.heap.size W9.drew jb ja (by have := hHeld.size; have := HS9.out; omega) (by have := hHeld.size; have := HS9.out; omega) (by have := LEN.out; omega) UB.out Ua.out J1'.out).mono ?_
  rintro x u1 ⟨A11, c11, rfl, h1⟩
  have H1 := Lib.hid h1
  have BN := Lib.hid h1.below
  clear h1 ja jb jc jx
  try go_wp2_with fail
  refine hK.out _ _ ?_ (fun hHeld => ?_)
  · exact hHeld.trans (BN.out.mono hHeld.size)
  clear hK K
  try simp only [Act.put, List.getElem_toArray, List.getElem_cons_succ, List.getElem_cons_zero, List.setIfInBounds_toArray, List.set_cons_zero, List.set_cons_succ]
  refine wpAnyH_ready (rs := [4]) (by kernel_rfl) (by simp) (AllReadyH.cons rfl (fun K hK => ?_) AllReadyH.nil)
  go_simp
  obtain ⟨_, _, _, _, ja, jb, jc, jx⟩ := HALL3.out _ hHeld
  refine (same_ro X1 X1 A4 A11 c4 c11 v4.heap.size u1.heap.size u1 jx H1.out.roIn (by have := hHeld.size; have := HS9.out; omega) (by have := hHeld.size; have := HS9.out; omega) (by have := LEN.out; omega) (by have := LEN.out; omega)).mono ?_
  rintro x u2 ⟨rfl, b9⟩
  rw [S1.out]
  have BN := Lib.hid b9
  clear b9 ja jb jc jx
  try go_wp2_with fail
  refine hK.out _ _ ?_ (fun hHeld => ?_)
  · exact hHeld.trans (BN.out.mono hHeld.size)
  clear hK K
  try simp only [Act.put, List.getElem_toArray, List.getElem_cons_succ, List.getElem_cons_zero, List.setIfInBounds_toArray, List.set_cons_zero, List.set_cons_succ]
  refine wpAnyH_take (i := 5) (v := ?_) rfl (by kernel_rfl) (by kernel_rfl) (by kernel_rfl) (fun _ _ _ h => h) (Or.inl ⟨by rfl, ?_⟩) (by assumption) ?_
  rotate_left
  · (intro wx hSw; (try dsimp only at hSw); go_simp; try with_reducible rfl)
  try simp only [Act.put, List.getElem_toArray, List.getElem_cons_succ, List.getElem_cons_zero, List.setIfInBounds_toArray, List.set_cons_zero, List.set_cons_succ]
  refine wpAnyH_take (i := 6) (v := ?_) rfl (by kernel_rfl) (by kernel_rfl) (by kernel_rfl) (fun _ _ _ h => h) (Or.inl ⟨by rfl, ?_⟩) (by assumption) ?_
  rotate_left
  · (intro wx hSw; (try dsimp only at hSw); obtain ⟨⟨_, _, _, _, _, _, _, _⟩, ⟨_, _, _, _, _, _, _, _⟩, ⟨_, _, _, _, _, _, _, _⟩, ⟨_, _, _, _, _, _, _, _⟩, _⟩ := HALL3.out _ hSw; go_simp; try with_reducible rfl)
  try simp only [Act.put, List.getElem_toArray, List.getElem_cons_succ, List.getElem_cons_zero, List.setIfInBounds_toArray, List.set_cons_zero, List.set_cons_succ]
  refine wpAnyH_take (i := 7) (v := ?_) rfl (by kernel_rfl) (by kernel_rfl) (by kernel_rfl) (fun _ _ _ h => h) (Or.inl ⟨by rfl, ?_⟩) (by assumption) ?_
  rotate_left
  · (intro wx hSw; (try dsimp only at hSw); obtain ⟨⟨_, _, _, _, _, _, _, _⟩, ⟨_, _, _, _, _, _, _, _⟩, ⟨_, _, _, _, _, _, _, _⟩, ⟨_, _, _, _, _, _, _, _⟩, _⟩ := HALL3.out _ hSw; go_simp; try with_reducible rfl)
  try simp only [Act.put, List.getElem_toArray, List.getElem_cons_succ, List.getElem_cons_zero, List.setIfInBounds_toArray, List.set_cons_zero, List.set_cons_succ]
  refine wpAnyH_take (i := 9) (v := ?_) rfl (by kernel_rfl) (by kernel_rfl) (by kernel_rfl) (fun _ _ _ h => h) (Or.inl ⟨by rfl, ?_⟩) (by assumption) ?_
  rotate_left
  · (intro wx hSw; (try dsimp only at hSw); obtain ⟨⟨_, _, _, _, _, _, _, _⟩, ⟨_, _, _, _, _, _, _, _⟩, ⟨_, _, _, _, _, _, _, _⟩, ⟨_, _, _, _, _, _, _, _⟩, _⟩ := HALL3.out _ hSw; go_simp; try with_reducible rfl)
  try simp only [Act.put, List.getElem_toArray, List.getElem_cons_succ, List.getElem_cons_zero, List.setIfInBounds_toArray, List.set_cons_zero, List.set_cons_succ]
  refine wpAnyH_take (i := 10) (v := ?_) rfl (by kernel_rfl) (by kernel_rfl) (by kernel_rfl) (fun _ _ _ h => h) (Or.inl ⟨by rfl, ?_⟩) (by assumption) ?_
  rotate_left
  · (intro wx hSw; (try dsimp only at hSw); obtain ⟨⟨_, _, _, _, _, _, _, _⟩, ⟨_, _, _, _, _, _, _, _⟩, ⟨_, _, _, _, _, _, _, _⟩, ⟨_, _, _, _, _, _, _, _⟩, _⟩ := HALL3.out _ hSw; go_simp; try with_reducible rfl)
  try simp only [Act.put, List.getElem_toArray, List.getElem_cons_succ, List.getElem_cons_zero, List.setIfInBounds_toArray, List.set_cons_zero, List.set_cons_succ]
  refine wpAnyH_take (i := 11) (v := ?_) rfl (by kernel_rfl) (by kernel_rfl) (by kernel_rfl) (fun _ _ _ h => h) (Or.inl ⟨by rfl, ?_⟩) (by assumption) ?_
  rotate_left
  · (intro wx hSw; (try dsimp only at hSw); obtain ⟨⟨_, _, _, _, _, _, _, _⟩, ⟨_, _, _, _, _, _, _, _⟩, ⟨_, _, _, _, _, _, _, _⟩, ⟨_, _, _, _, _, _, _, _⟩, _⟩ := HALL3.out _ hSw; go_simp; try with_reducible rfl)
  try simp only [Act.put, List.getElem_toArray, List.getElem_cons_succ, List.getElem_cons_zero, List.setIfInBounds_toArray, List.set_cons_zero, List.set_cons_succ]
  refine wpAnyH_ready (rs := [8]) (by kernel_rfl) (by simp) (AllReadyH.cons rfl (fun K hK => ?_) AllReadyH.nil)
  go_simp
  obtain ⟨_, _, _, _, ja, jb, jc, jx⟩ := HALL3.out _ hHeld
  refine (join_ro X1 c' X2 A4 Ac c4 cc v4.heap.size w.heap.size u2 jx jc (by have := hHeld.size; have := HS9.out; omega) (by have := hHeld.size; have := HS9.out; omega) (by have := LEN.out; omega) U1.out UC.out J2.out).mono ?_
  rintro x u3 ⟨A13, c13, rfl, h1⟩
  have H3 := Lib.hid h1
  have BN := Lib.hid h1.below
  clear h1 ja jb jc jx
  try go_wp2_with fail
  refine hK.out _ _ ?_ (fun hHeld => ?_)
  · exact hHeld.trans (BN.out.mono hHeld.size)
  clear hK K
  try simp only [Act.put, List.getElem_toArray, List.getElem_cons_succ, List.getElem_cons_zero, List.setIfInBounds_toArray, List.set_cons_zero, List.set_cons_succ]
  refine wpAnyH_ready (rs := [12]) (by kernel_rfl) (by simp) (AllReadyH.cons rfl (fun K hK => ?_) AllReadyH.nil)
  go_simp
  obtain ⟨_, _, _, _, ja, jb, jc, jx⟩ := HALL3.out _ hHeld
  refine (join_ro b' c' X3 Ab Ac cb cc w.heap.size w.heap.size u3 jb jc (by have := hHeld.size; have := HS9.out; omega) (by have := hHeld.size; have := HS9.out; omega) (by have := LEN.out; omega) UB.out UC.out J3.out).mono ?_
  rintro x u4 ⟨A14, c14, rfl, h1⟩
  have H4 := Lib.hid h1
  have BN := Lib.hid h1.below
  clear h1 ja jb jc jx
  try go_wp2_with fail
  refine hK.out _ _ ?_ (fun hHeld => ?_)
  · exact hHeld.trans (BN.out.mono hHeld.size)
  clear hK K
  try simp only [Act.put, List.getElem_toArray, List.getElem_cons_succ, List.getElem_cons_zero, List.setIfInBounds_toArray, List.set_cons_zero, List.set_cons_succ]
  refine wpAnyH_ready (rs := [13]) (by kernel_rfl) (by simp) (AllReadyH.cons rfl (fun K hK => ?_) AllReadyH.nil)
  go_simp
  obtain ⟨_, _, _, _, ja, jb, jc, jx⟩ := HALL3.out _ hHeld
  refine (join_ro a X3 X2 Aa A14 ca c14 w.heap.size u4.heap.size u4 ja H4.out.roIn (by have := hHeld.size; have := HS9.out; omega) (by have := hHeld.size; have := HS9.out; omega) (by have := LEN.out; omega) Ua.out U3.out J4.out).mono ?_
  rintro x u5 ⟨A15, c15, rfl, h1⟩
  have H5 := Lib.hid h1
  have BN := Lib.hid h1.below
  clear h1 ja jb jc jx
  try go_wp2_with fail
  refine hK.out _ _ ?_ (fun hHeld => ?_)
  · exact hHeld.trans (BN.out.mono hHeld.size)
  clear hK K
  try simp only [Act.put, List.getElem_toArray, List.getElem_cons_succ, List.getElem_cons_zero, List.setIfInBounds_toArray, List.set_cons_zero, List.set_cons_succ]
  refine wpAnyH_ready (rs := [14]) (by kernel_rfl) (by simp) (AllReadyH.cons rfl (fun K hK => ?_) AllReadyH.nil)
  go_simp
  obtain ⟨_, _, _, _, ja, jb, jc, jx⟩ := HALL3.out _ hHeld
  refine (same_ro X2 X2 A13 A15 c13 c15 u5.heap.size u5.heap.size u5 ((H3.out.on (next H4.out.below H5.out.below)).roIn) H5.out.roIn (by have := hHeld.size; have := HS9.out; omega) (by have := hHeld.size; have := HS9.out; omega) (by have := LEN.out; omega) (by have := LEN.out; omega)).mono ?_
  rintro x u6 ⟨rfl, b9⟩
  rw [S2.out]
  have BN := Lib.hid b9
  clear b9 ja jb jc jx
  try go_wp2_with fail
  refine hK.out _ _ ?_ (fun hHeld => ?_)
  · exact hHeld.trans (BN.out.mono hHeld.size)
  clear hK K
  try simp only [Act.put, List.getElem_toArray, List.getElem_cons_succ, List.getElem_cons_zero, List.setIfInBounds_toArray, List.set_cons_zero, List.set_cons_succ]
  refine wpAnyH_take (i := 15) (v := ?_) rfl (by kernel_rfl) (by kernel_rfl) (by kernel_rfl) (fun _ _ _ h => h) (Or.inl ⟨by rfl, ?_⟩) (by assumption) ?_
  rotate_left
  · (intro wx hSw; (try dsimp only at hSw); go_simp; try with_reducible rfl)
  try simp only [Act.put, List.getElem_toArray, List.getElem_cons_succ, List.getElem_cons_zero, List.setIfInBounds_toArray, List.set_cons_zero, List.set_cons_succ]
  refine wpAnyH_take (i := 16) (v := ?_) rfl (by kernel_rfl) (by kernel_rfl) (by kernel_rfl) (fun _ _ _ h => h) (Or.inl ⟨by rfl, ?_⟩) (by assumption) ?_
  rotate_left
  · (intro wx hSw; (try dsimp only at hSw); go_simp; try with_reducible rfl)
  try simp only [Act.put, List.getElem_toArray, List.getElem_cons_succ, List.getElem_cons_zero, List.setIfInBounds_toArray, List.set_cons_zero, List.set_cons_succ]
  refine wpAnyH_take (i := 17) (v := ?_) rfl (by kernel_rfl) (by kernel_rfl) (by kernel_rfl) (fun _ _ _ h => h) (Or.inl ⟨by rfl, ?_⟩) (by assumption) ?_
  rotate_left
  · (intro wx hSw; (try dsimp only at hSw); obtain ⟨⟨_, _, _, _, _, _, _, _⟩, ⟨_, _, _, _, _, _, _, _⟩, ⟨_, _, _, _, _, _, _, _⟩, ⟨_, _, _, _, _, _, _, _⟩, _⟩ := HALL3.out _ hSw; go_simp; try with_reducible rfl)
  try simp only [Act.put, List.getElem_toArray, List.getElem_cons_succ, List.getElem_cons_zero, List.setIfInBounds_toArray, List.set_cons_zero, List.set_cons_succ]
  refine wpAnyH_take (i := 18) (v := ?_) rfl (by kernel_rfl) (by kernel_rfl) (by kernel_rfl) (fun _ _ _ h => h) (Or.inl ⟨by rfl, ?_⟩) (by assumption) ?_
  rotate_left
  · (intro wx hSw; (try dsimp only at hSw); obtain ⟨⟨_, _, _, _, _, _, _, _⟩, ⟨_, _, _, _, _, _, _, _⟩, ⟨_, _, _, _, _, _, _, _⟩, ⟨_, _, _, _, _, _, _, _⟩, _⟩ := HALL3.out _ hSw; go_simp; try with_reducible rfl)
  try simp only [Act.put, List.getElem_toArray, List.getElem_cons_succ, List.getElem_cons_zero, List.setIfInBounds_toArray, List.set_cons_zero, List.set_cons_succ]
  refine wpAnyH_take (i := 20) (v := ?_) rfl (by kernel_rfl) (by kernel_rfl) (by kernel_rfl) (fun _ _ _ h => h) (Or.inl ⟨by rfl, ?_⟩) (by assumption) ?_
  rotate_left
  · (intro wx hSw; (try dsimp only at hSw); obtain ⟨⟨_, _, _, _, _, _, _, _⟩, ⟨_, _, _, _, _, _, _, _⟩, ⟨_, _, _, _, _, _, _, _⟩, ⟨_, _, _, _, _, _, _, _⟩, _⟩ := HALL3.out _ hSw; go_simp; try with_reducible rfl)
  try simp only [Act.put, List.getElem_toArray, List.getElem_cons_succ, List.getElem_cons_zero, List.setIfInBounds_toArray, List.set_cons_zero, List.set_cons_succ]
  refine wpAnyH_ready (rs := [19]) (by kernel_rfl) (by simp) (AllReadyH.cons rfl (fun K hK => ?_) AllReadyH.nil)
  go_simp
  obtain ⟨_, _, _, _, ja, jb, jc, jx⟩ := HALL3.out _ hHeld
  refine (join_ro X1 b' X1 A4 Ab c4 cb v4.heap.size w.heap.size u6 jx jb (by have := hHeld.size; have := HS9.out; omega) (by have := hHeld.size; have := HS9.out; omega) (by have := LEN.out; omega) U1.out UB.out J5.out).mono ?_
  rintro x u7 ⟨A17, c17, rfl, h1⟩
  have H7 := Lib.hid h1
  have BN := Lib.hid h1.below
  clear h1 ja jb jc jx
  try go_wp2_with fail
  refine hK.out _ _ ?_ (fun hHeld => ?_)
  · exact hHeld.trans (BN.out.mono hHeld.size)
  clear hK K
  try simp only [Act.put, List.getElem_toArray, List.getElem_cons_succ, List.getElem_cons_zero, List.setIfInBounds_toArray, List.set_cons_zero, List.set_cons_succ]
  refine wpAnyH_ready (rs := [21]) (by kernel_rfl) (by simp) (AllReadyH.cons rfl (fun K hK => ?_) AllReadyH.nil)
  go_simp
  obtain ⟨_, _, _, _, ja, jb, jc, jx⟩ := HALL3.out _ hHeld
  refine (same_ro X1 X1 A17 A4 c17 c4 u7.heap.size v4.heap.size u7 H7.out.roIn jx (by have := hHeld.size; have := HS9.out; omega) (by have := hHeld.size; have := HS9.out; omega) (by have := LEN.out; omega) (by have := LEN.out; omega)).mono ?_
  rintro x u8 ⟨rfl, b9⟩
  rw [S1.out]
  have BN := Lib.hid b9
  clear b9 ja jb jc jx
  try go_wp2_with fail
  refine hK.out _ _ ?_ (fun hHeld => ?_)
  · exact hHeld.trans (BN.out.mono hHeld.size)
  clear hK K
  try simp only [Act.put, List.getElem_toArray, List.getElem_cons_succ, List.getElem_cons_zero, List.setIfInBounds_toArray, List.set_cons_zero, List.set_cons_succ]
  refine wpAnyH_take (i := 22) (v := ?_) rfl (by kernel_rfl) (by kernel_rfl) (by kernel_rfl) (fun _ _ _ h => h) (Or.inl ⟨by rfl, ?_⟩) (by assumption) ?_
  rotate_left
  · (intro wx hSw; (try dsimp only at hSw); go_simp; try with_reducible rfl)
  try simp only [Act.put, List.getElem_toArray, List.getElem_cons_succ, List.getElem_cons_zero, List.setIfInBounds_toArray, List.set_cons_zero, List.set_cons_succ]
  refine wpAnyH_take (i := 23) (v := ?_) rfl (by kernel_rfl) (by kernel_rfl) (by kernel_rfl) (fun _ _ _ h => h) (Or.inl ⟨by rfl, ?_⟩) (by assumption) ?_
  rotate_left
  · (intro wx hSw; (try dsimp only at hSw); go_simp; try with_reducible rfl)
  try simp only [Act.put, List.getElem_toArray, List.getElem_cons_succ, List.getElem_cons_zero, List.setIfInBounds_toArray, List.set_cons_zero, List.set_cons_succ]
  refine wpAnyH_take (i := 24) (v := ?_) rfl (by kernel_rfl) (by kernel_rfl) (by kernel_rfl) (fun _ _ _ h => h) (Or.inl ⟨by rfl, ?_⟩) (by assumption) ?_
  rotate_left
  · (intro wx hSw; (try dsimp only at hSw); obtain ⟨⟨_, _, _, _, _, _, _, _⟩, ⟨_, _, _, _, _, _, _, _⟩, ⟨_, _, _, _, _, _, _, _⟩, ⟨_, _, _, _, _, _, _, _⟩, _⟩ := HALL3.out _ hSw; go_simp; try with_reducible rfl)
  try simp only [Act.put, List.getElem_toArray, List.getElem_cons_succ, List.getElem_cons_zero, List.setIfInBounds_toArray, List.set_cons_zero, List.set_cons_succ]
  refine wpAnyH_take (i := 25) (v := ?_) rfl (by kernel_rfl) (by kernel_rfl) (by kernel_rfl) (fun _ _ _ h => h) (Or.inl ⟨by rfl, ?_⟩) (by assumption) ?_
  rotate_left
  · (intro wx hSw; (try dsimp only at hSw); obtain ⟨⟨_, _, _, _, _, _, _, _⟩, ⟨_, _, _, _, _, _, _, _⟩, ⟨_, _, _, _, _, _, _, _⟩, ⟨_, _, _, _, _, _, _, _⟩, _⟩ := HALL3.out _ hSw; go_simp; try with_reducible rfl)
  try simp only [Act.put, List.getElem_toArray, List.getElem_cons_succ, List.getElem_cons_zero, List.setIfInBounds_toArray, List.set_cons_zero, List.set_cons_succ]
  refine wpAnyH_take (i := 27) (v := ?_) rfl (by kernel_rfl) (by kernel_rfl) (by kernel_rfl) (fun _ _ _ h => h) (Or.inl ⟨by rfl, ?_⟩) (by assumption) ?_
  rotate_left
  · (intro wx hSw; (try dsimp only at hSw); obtain ⟨⟨_, _, _, _, _, _, _, _⟩, ⟨_, _, _, _, _, _, _, _⟩, ⟨_, _, _, _, _, _, _, _⟩, ⟨_, _, _, _, _, _, _, _⟩, _⟩ := HALL3.out _ hSw; go_simp; try with_reducible rfl)
  try simp only [Act.put, List.getElem_toArray, List.getElem_cons_succ, List.getElem_cons_zero, List.setIfInBounds_toArray, List.set_cons_zero, List.set_cons_succ]
  refine wpAnyH_ready (rs := [26]) (by kernel_rfl) (by simp) (AllReadyH.cons rfl (fun K hK => ?_) AllReadyH.nil)
  go_simp
  obtain ⟨_, _, _, _, ja, jb, jc, jx⟩ := HALL3.out _ hHeld
  refine (join_ro a a a Aa Aa ca ca w.heap.size w.heap.size u8 ja ja (by have := hHeld.size; have := HS9.out; omega) (by have := hHeld.size; have := HS9.out; omega) (by have := LEN.out; omega) Ua.out Ua.out J6.out).mono ?_
  rintro x u9 ⟨A19, c19, rfl, h1⟩
  have H9 := Lib.hid h1
  have BN := Lib.hid h1.below
  clear h1 ja jb jc jx
  try go_wp2_with fail
  refine hK.out _ _ ?_ (fun hHeld => ?_)
  · exact hHeld.trans (BN.out.mono hHeld.size)
  clear hK K
  try simp only [Act.put, List.getElem_toArray, List.getElem_cons_succ, List.getElem_cons_zero, List.setIfInBounds_toArray, List.set_cons_zero, List.set_cons_succ]
  refine wpAnyH_ready (rs := [28]) (by kernel_rfl) (by simp) (AllReadyH.cons rfl (fun K hK => ?_) AllReadyH.nil)
  go_simp
  obtain ⟨_, _, _, _, ja, jb, jc, jx⟩ := HALL3.out _ hHeld
  refine (same_ro a a A19 Aa c19 ca u9.heap.size w.heap.size u9 H9.out.roIn ja (by have := hHeld.size; have := HS9.out; omega) (by have := hHeld.size; have := HS9.out; omega) (by have := LEN.out; omega) (by have := LEN.out; omega)).mono ?_
  rintro x u10 ⟨rfl, b9⟩
  rw [S3.out]
  have BN := Lib.hid b9
  clear b9 ja jb jc jx
  try go_wp2_with fail
  refine hK.out _ _ ?_ (fun hHeld => ?_)
  · exact hHeld.trans (BN.out.mono hHeld.size)
  clear hK K
  try simp only [Act.put, List.getElem_toArray, List.getElem_cons_succ, List.getElem_cons_zero, List.setIfInBounds_toArray, List.set_cons_zero, List.set_cons_succ]
  refine wpAnyH_take (i := 29) (v := ?_) rfl (by kernel_rfl) (by kernel_rfl) (by kernel_rfl) (fun _ _ _ h => h) (Or.inl ⟨by rfl, ?_⟩) (by assumption) ?_
  rotate_left
  · (intro wx hSw; (try dsimp only at hSw); go_simp; try with_reducible rfl)
  try simp only [Act.put, List.getElem_toArray, List.getElem_cons_succ, List.getElem_cons_zero, List.setIfInBounds_toArray, List.set_cons_zero, List.set_cons_succ]
  refine wpAnyH_take (i := 30) (v := ?_) rfl (by kernel_rfl) (by kernel_rfl) (by kernel_rfl) (fun _ _ _ h => h) (Or.inl ⟨by rfl, ?_⟩) (by assumption) ?_
  rotate_left
  · (intro wx hSw; (try dsimp only at hSw); go_simp; try with_reducible rfl)
  try simp only [Act.put, List.getElem_toArray, List.getElem_cons_succ, List.getElem_cons_zero, List.setIfInBounds_toArray, List.set_cons_zero, List.set_cons_succ]
  refine wpAnyH_ready (rs := [31]) (by kernel_rfl) (by simp) (AllReadyH.cons rfl (fun K hK => ?_) AllReadyH.nil)
  go_simp
  refine (awake_any _).mono ?_
  rintro x u11 ⟨rfl, b9⟩
  have BN := Lib.hid b9
  clear b9
  try go_wp2_with fail
  refine hK.out _ _ ?_ (fun hHeld => ?_)
  · exact hHeld.trans (BN.out.mono hHeld.size)
  clear hK K
  try simp only [Act.put, List.getElem_toArray, List.getElem_cons_succ, List.getElem_cons_zero, List.setIfInBounds_toArray, List.set_cons_zero, List.set_cons_succ]
  refine wpAnyH_take (i := 32) (v := ?_) rfl (by kernel_rfl) (by kernel_rfl) (by kernel_rfl) (fun _ _ _ h => h) (Or.inl ⟨by rfl, ?_⟩) (by assumption) ?_
  rotate_left
  · (intro wx hSw; (try dsimp only at hSw); go_simp; try with_reducible rfl)
  try simp only [Act.put, List.getElem_toArray, List.getElem_cons_succ, List.getElem_cons_zero, List.setIfInBounds_toArray, List.set_cons_zero, List.set_cons_succ]
  refine wpAnyH_take (i := 33) (v := ?_) rfl (by kernel_rfl) (by kernel_rfl) (by kernel_rfl) (fun _ _ _ h => h) (Or.inl ⟨by rfl, ?_⟩) (by assumption) ?_
  rotate_left
  · (intro wx hSw; (try dsimp only at hSw); go_simp; try with_reducible rfl)
  try simp only [Act.put, List.getElem_toArray, List.getElem_cons_succ, List.getElem_cons_zero, List.setIfInBounds_toArray, List.set_cons_zero, List.set_cons_succ]
  refine wpAnyH_done (by kernel_rfl) ?_ _
  have h9 := Lib.hid (HB9.out.trans (hHeld.mono (by have := HS9.out; omega)))
  clear hHeld
  go_wp2
  go_ret
  exact ⟨rfl, h9.out⟩
end Go.Proofs.Ytnoblhacgmeddaa
