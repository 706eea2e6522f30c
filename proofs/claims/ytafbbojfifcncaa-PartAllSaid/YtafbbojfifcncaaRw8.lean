/-
  The developers' Join of rows.
-/
import Derived.Test.YtafbbojfifcncaaTkl
import Derived.Test.YtafbbojfifcncaaRw7
import Derived.Test.YtafbbojfifcncaaRw5
set_option linter.unusedVariables false
set_option linter.unusedSimpArgs false
namespace Go.Proofs.Ytafbbojfifcncaa
open Go Go.RowKit Go.Joins

set_option maxHeartbeats 4000000 in
theorem joinrow_any (k s k' s' : ByteArray) (d d' : Bool) (a e g h a' e' g' h' : Int) (A A' : Option Addr) (n c n' c' B B' : Nat) (l l' : Cols) (w : World) (hr : RdK w B A n l) (hr' : RdK w B' A' n' l') (hB : B ≤ w.heap.size) (hB' : B' ≤ w.heap.size) (hnc : n ≤ c) (hnc' : n' ≤ c') (hn : n + n' ≤ 1000) (rl : Rise l) (fl : Full l) (rl' : Rise l') (fl' : Full l') :
    Calls Try.prog 37 #[.agg #[.string k, .string s, .bool d, .int .i64 a, .int .i64 e, .int .i64 g, .int .i64 h, .slice A n c], .agg #[.string k', .string s', .bool d', .int .i64 a', .int .i64 e', .int .i64 g', .int .i64 h', .slice A' n' c']] w fun x w' => ∃ js jd ja je Aj cj, Ce.join ⟨s, d, a, e⟩ ⟨s', d', a', e'⟩ = ⟨js, jd, ja, je⟩ ∧ x = .returned (.agg #[.string k, .string js, .bool jd, .int .i64 ja, .int .i64 je, .int .i64 (max g g'), .int .i64 (max h h'), .slice Aj (mrg l l').length cj]) ∧ Cur w w' (.slice Aj (mrg l l').length cj) (mrg l l') := by
  obtain ⟨⟨js, jd, ja, je⟩, hj⟩ : ∃ c, Ce.join ⟨s, d, a, e⟩ ⟨s', d', a', e'⟩ = c := ⟨_, rfl⟩
  have J1 := Lib.hid (congrArg Ce.v hj)
  unfold Ce.v at J1
  have HJ := Lib.hid hj
  obtain ⟨mg, hmg⟩ : ∃ m, max g g' = m := ⟨_, rfl⟩
  obtain ⟨mh, hmh⟩ : ∃ m, max h h' = m := ⟨_, rfl⟩
  rw [hmg, hmh]
  have bz := (((Below.refl w.heap.size w).alloc (Nat.le_refl _) (.cells #[.string k, .string s, .bool d, .int .i64 a, .int .i64 e, .int .i64 g, .int .i64 h, .slice A n c] 36)).alloc (by simp) (.cells #[.string k', .string s', .bool d', .int .i64 a', .int .i64 e', .int .i64 g', .int .i64 h', .slice A' n' c'] 36)).alloc (by (simp <;> omega)) (.cells #[.string ⟨#[]⟩, .string ⟨#[]⟩, .bool false, .int .i64 0, .int .i64 0, .int .i64 0, .int .i64 0, .slice none 0 0] 36)
  have ro := (RoAt.new w k s d a e g h A n c).below (((Below.refl (w.heap.size + 1) _).alloc (by simp) (.cells #[.string k', .string s', .bool d', .int .i64 a', .int .i64 e', .int .i64 g', .int .i64 h', .slice A' n' c'] 36)).alloc (by (simp <;> omega)) (.cells #[.string ⟨#[]⟩, .string ⟨#[]⟩, .bool false, .int .i64 0, .int .i64 0, .int .i64 0, .int .i64 0, .slice none 0 0] 36)) (by omega)
  have ro' := (RoAt.new (w.alloc (.cells #[.string k, .string s, .bool d, .int .i64 a, .int .i64 e, .int .i64 g, .int .i64 h, .slice A n c] 36)) k' s' d' a' e' g' h' A' n' c').below ((Below.refl (w.heap.size + 2) _).alloc (by simp) (.cells #[.string ⟨#[]⟩, .string ⟨#[]⟩, .bool false, .int .i64 0, .int .i64 0, .int .i64 0, .int .i64 0, .slice none 0 0] 36)) (by simp)
  simp only [World.size_alloc] at ro'
  have hz := heap_alloc_new ((w.alloc (.cells #[.string k, .string s, .bool d, .int .i64 a, .int .i64 e, .int .i64 g, .int .i64 h, .slice A n c] 36)).alloc (.cells #[.string k', .string s', .bool d', .int .i64 a', .int .i64 e', .int .i64 g', .int .i64 h', .slice A' n' c'] 36)) (.cells #[.string ⟨#[]⟩, .string ⟨#[]⟩, .bool false, .int .i64 0, .int .i64 0, .int .i64 0, .int .i64 0, .slice none 0 0] 36)
  simp only [World.size_alloc] at hz
  obtain ⟨U, hU⟩ : ∃ U, U = ((w.alloc (.cells #[.string k, .string s, .bool d, .int .i64 a, .int .i64 e, .int .i64 g, .int .i64 h, .slice A n c] 36)).alloc (.cells #[.string k', .string s', .bool d', .int .i64 a', .int .i64 e', .int .i64 g', .int .i64 h', .slice A' n' c'] 36)).alloc (.cells #[.string ⟨#[]⟩, .string ⟨#[]⟩, .bool false, .int .i64 0, .int .i64 0, .int .i64 0, .int .i64 0, .slice none 0 0] 36) := ⟨_, rfl⟩
  have hUs : U.heap.size = w.heap.size + 3 := by rw [hU]; simp
  rw [← hU] at bz ro ro' hz
  have hall : ∀ w', Below (w.heap.size + 2) U w' → (w'.cell? ⟨w.heap.size, 0, none⟩ = some (.string k) ∧ w'.cell? ⟨w.heap.size, 1, none⟩ = some (.string s) ∧ w'.cell? ⟨w.heap.size, 2, none⟩ = some (.bool d) ∧ w'.cell? ⟨w.heap.size, 3, none⟩ = some (.int .i64 a) ∧ w'.cell? ⟨w.heap.size, 4, none⟩ = some (.int .i64 e) ∧ w'.cell? ⟨w.heap.size, 5, none⟩ = some (.int .i64 g) ∧ w'.cell? ⟨w.heap.size, 6, none⟩ = some (.int .i64 h) ∧ w'.cell? ⟨w.heap.size, 7, none⟩ = some (.slice A n c)) ∧ (w'.cell? ⟨w.heap.size + 1, 0, none⟩ = some (.string k') ∧ w'.cell? ⟨w.heap.size + 1, 1, none⟩ = some (.string s') ∧ w'.cell? ⟨w.heap.size + 1, 2, none⟩ = some (.bool d') ∧ w'.cell? ⟨w.heap.size + 1, 3, none⟩ = some (.int .i64 a') ∧ w'.cell? ⟨w.heap.size + 1, 4, none⟩ = some (.int .i64 e') ∧ w'.cell? ⟨w.heap.size + 1, 5, none⟩ = some (.int .i64 g') ∧ w'.cell? ⟨w.heap.size + 1, 6, none⟩ = some (.int .i64 h') ∧ w'.cell? ⟨w.heap.size + 1, 7, none⟩ = some (.slice A' n' c')) ∧ RdK w' B A n l ∧ RdK w' B' A' n' l' := fun w' hb =>
    ⟨ro.below hb (by omega), ro'.below hb (by omega), (hr.below (bz.mono hB)).below (hb.mono (by omega)), (hr'.below (bz.mono hB')).below (hb.mono (by omega))⟩
  have HALL := Lib.hid hall; have BZ := Lib.hid bz; have HUS := Lib.hid hUs; have HZ := Lib.hid hz; have HB := Lib.hid hB; have HB' := Lib.hid hB'; have MG := Lib.hid hmg; have MH := Lib.hid hmh
  clear hj hmg hmh bz ro ro' hz hUs hall hr hr' hB hB'
  have HLE := Lib.hid (show w.heap.size + 2 ≤ w.heap.size + 1 + 1 by omega)
  have HLE2 := Lib.hid (show w.heap.size ≤ w.heap.size + 1 + 1 by omega)
  have mg1 := MG.out
  have mh1 := MH.out
  go_enter Try.func37, Try.ntmps37
  go_wp2_with fail
  rw [← hU]
  clear hU
  refine wp_region_held_drew (S := fun w' => Below (w.heap.size + 2) U w') (by kernel_rfl) ?_ (fun hHeld => ?_)
  · exact (Below.refl _ _).drew
  refine takesH [0, 1, 2, 3, 4, 5, 7, 8, 9, 10, 11, 12, 13, 14, 15, 16, 17, 18, 19, 20] ?_
  repeat
    refine takesH_one (v := ?_) ?_ ?_
    rotate_left
    · first | (refine Or.inr ⟨by rfl, ?_⟩; with_reducible rfl) | (refine Or.inl ⟨by rfl, ?_⟩; intro wx hSw; (try dsimp only at hSw); first | (go_simp; first | done | with_reducible rfl) | (obtain ⟨⟨_, _, _, _, _, _, _, _⟩, ⟨_, _, _, _, _, _, _, _⟩, _⟩ := HALL.out _ hSw; go_simp; first | done | with_reducible rfl))
    try simp only [Act.put, List.getElem_toArray, List.getElem_cons_succ, List.getElem_cons_zero, List.setIfInBounds_toArray, List.set_cons_zero, List.set_cons_succ]
  refine takesH_nil ?_
  refine wpAnyH_ready (rs := [6]) (by kernel_rfl) (by simp) (AllReadyH.cons rfl (fun K hK => ?_) AllReadyH.nil)
  go_simp
  refine (join_any _ _ _ _ _ _ _ _ _).mono ?_
  rintro x v1 ⟨rfl, b1⟩
  unfold Ce.v
  rw [J1.out]
  have c1 := Lib.hid (next (w := U) (w1 := U.drew) ((Below.refl _ _).drew) b1)
  clear b1
  try go_wp2_with fail
  refine hK.out _ _ ?_ (fun hHeld => ?_)
  · first | exact (b2.out.mono (by have := HUS.out; omega)) | exact (c1.out.mono (by have := HUS.out; omega))
  clear hK K
  try simp only [Act.put, List.getElem_toArray, List.getElem_cons_succ, List.getElem_cons_zero, List.setIfInBounds_toArray, List.set_cons_zero, List.set_cons_succ]
  refine wpAnyH_ready (rs := [21]) (by kernel_rfl) (by simp) (AllReadyH.cons rfl (fun K hK => ?_) AllReadyH.nil)
  go_simp
  obtain ⟨_, hk1, hk2⟩ := (HALL.out _ (c1.out.mono (by have := HUS.out; omega))).2
  refine (merge_any A A' n n' c c' B B' l l' v1 hk1 hk2 (by have := c1.out.size; have := HUS.out; have := HB.out; omega) (by have := c1.out.size; have := HUS.out; have := HB'.out; omega) hnc hnc' hn).mono ?_
  rintro x v2 ⟨mv, rfl, hcur⟩
  rw [runC_mrg rl fl rl' fl'] at hcur
  obtain ⟨A2, c2, rfl, _⟩ := hcur.slice
  have HCUR := Lib.hid hcur
  have b2 := Lib.hid (next c1.out hcur.below)
  have T2 : v2.heap[w.heap.size + 1 + 1]? = _ := (b2.out.block (w.heap.size + 1 + 1) (by have := HUS.out; omega)).trans HZ.out
  have T3 := Lib.hid T2
  have k0 := cell_at (i := 0) T2 rfl
  have k1 := cell_at (i := 1) T2 rfl
  have k2 := cell_at (i := 2) T2 rfl
  have k3 := cell_at (i := 3) T2 rfl
  have k4 := cell_at (i := 4) T2 rfl
  have k5 := cell_at (i := 5) T2 rfl
  have k6 := cell_at (i := 6) T2 rfl
  have k7 := cell_at (i := 7) T2 rfl
  have f0 := thawed_at (i := 0) T2
  have f1 := thawed_at (i := 1) T2
  have f2 := thawed_at (i := 2) T2
  have f3 := thawed_at (i := 3) T2
  have f4 := thawed_at (i := 4) T2
  have f5 := thawed_at (i := 5) T2
  have f6 := thawed_at (i := 6) T2
  have f7 := thawed_at (i := 7) T2
  clear T2 hcur hk1 hk2
  try go_wp2_with fail
  refine hK.out _ _ ?_ (fun hHeld => ?_)
  · first | exact (b2.out.mono (by have := HUS.out; omega)) | exact (c1.out.mono (by have := HUS.out; omega))
  clear hK K
  try simp only [Act.put, List.getElem_toArray, List.getElem_cons_succ, List.getElem_cons_zero, List.setIfInBounds_toArray, List.set_cons_zero, List.set_cons_succ]
  refine takesH [22] ?_
  repeat
    refine takesH_one (v := ?_) ?_ ?_
    rotate_left
    · first | (refine Or.inr ⟨by rfl, ?_⟩; with_reducible rfl) | (refine Or.inl ⟨by rfl, ?_⟩; intro wx hSw; (try dsimp only at hSw); first | (go_simp; first | done | with_reducible rfl))
    try simp only [Act.put, List.getElem_toArray, List.getElem_cons_succ, List.getElem_cons_zero, List.setIfInBounds_toArray, List.set_cons_zero, List.set_cons_succ]
  refine takesH_nil ?_
  refine wpAnyH_ready (rs := [23]) (by kernel_rfl) (by simp) (AllReadyH.cons rfl (fun K hK => ?_) AllReadyH.nil)
  go_simp
  refine hK.out _ _ ?_ (fun hHeld => ?_)
  · exact (((((((((b2.out.mono (by have := HUS.out; omega)).setCell HLE.out _).setCell HLE.out _).setCell HLE.out _).setCell HLE.out _).setCell HLE.out _).setCell HLE.out _).setCell HLE.out _).setCell HLE.out _)
  clear hK K
  try simp only [Act.put, List.getElem_toArray, List.getElem_cons_succ, List.getElem_cons_zero, List.setIfInBounds_toArray, List.set_cons_zero, List.set_cons_succ]
  refine wpAnyH_done (by kernel_rfl) ?_ _
  have BL := Lib.hid (((((((((next BZ.out b2.out).setCell (p := ⟨w.heap.size + 1 + 1, 0, none⟩) HLE2.out (.string k)).setCell (p := ⟨w.heap.size + 1 + 1, 1, none⟩) HLE2.out (.string js)).setCell (p := ⟨w.heap.size + 1 + 1, 2, none⟩) HLE2.out (.bool jd)).setCell (p := ⟨w.heap.size + 1 + 1, 3, none⟩) HLE2.out (.int .i64 ja)).setCell (p := ⟨w.heap.size + 1 + 1, 4, none⟩) HLE2.out (.int .i64 je)).setCell (p := ⟨w.heap.size + 1 + 1, 5, none⟩) HLE2.out (.int .i64 mg)).setCell (p := ⟨w.heap.size + 1 + 1, 6, none⟩) HLE2.out (.int .i64 mh)).setCell (p := ⟨w.heap.size + 1 + 1, 7, none⟩) HLE2.out (.slice A2 (mrg l l').length c2))
  have M8 := Lib.hid (block_setCell (i := 7) (block_setCell (i := 6) (block_setCell (i := 5) (block_setCell (i := 4) (block_setCell (i := 3) (block_setCell (i := 2) (block_setCell (i := 1) (block_setCell (i := 0) T3.out (.string k)) (.string js)) (.bool jd)) (.int .i64 ja)) (.int .i64 je)) (.int .i64 mg)) (.int .i64 mh)) (.slice A2 (mrg l l').length c2))
  obtain ⟨w9, hw9⟩ : ∃ w9, w9 = ((((((((v2.setCell ⟨w.heap.size + 1 + 1, 0, none⟩ (.string k)).setCell ⟨w.heap.size + 1 + 1, 1, none⟩ (.string js)).setCell ⟨w.heap.size + 1 + 1, 2, none⟩ (.bool jd)).setCell ⟨w.heap.size + 1 + 1, 3, none⟩ (.int .i64 ja)).setCell ⟨w.heap.size + 1 + 1, 4, none⟩ (.int .i64 je)).setCell ⟨w.heap.size + 1 + 1, 5, none⟩ (.int .i64 mg)).setCell ⟨w.heap.size + 1 + 1, 6, none⟩ (.int .i64 mh)).setCell ⟨w.heap.size + 1 + 1, 7, none⟩ (.slice A2 (mrg l l').length c2)) := ⟨_, rfl⟩
  rw [← hw9] at BL M8 ⊢
  have hk9 : ∀ j, j ≠ w.heap.size + 1 + 1 → w9.heap[j]? = v2.heap[j]? := fun j hj => by
    rw [hw9]
    iterate 8 rw [Below.heap_setCell _ _ _ _ hj]
  have HK9 := Lib.hid hk9
  clear hw9 hk9 k0 k1 k2 k3 k4 k5 k6 k7 f0 f1 f2 f3 f4 f5 f6 f7
  have m9 := M8.out
  simp only [List.setIfInBounds_toArray, List.set_cons_zero, List.set_cons_succ] at m9
  have z0 := cell_at (i := 0) m9 rfl
  have z1 := cell_at (i := 1) m9 rfl
  have z2 := cell_at (i := 2) m9 rfl
  have z3 := cell_at (i := 3) m9 rfl
  have z4 := cell_at (i := 4) m9 rfl
  have z5 := cell_at (i := 5) m9 rfl
  have z6 := cell_at (i := 6) m9 rfl
  have z7 := cell_at (i := 7) m9 rfl
  clear m9
  have hs1 : w.heap.size + 3 ≤ v1.heap.size := by have := c1.out.size; have := HUS.out; omega
  have ho1 := HCUR.out.own
  have ho2 : w9.ownsRow v1.heap.size 66 5 (.slice A2 (mrg l l').length c2) (mrg l l').length (kRow (mrg l l')) := own_kept ho1 fun g hg => HK9.out g (by
    have h1 := (ho1.lt g hg).1
    omega)
  have hown := own_base ho2 (b' := w.heap.size) (by omega)
  clear ho1 ho2
  have HOWN := Lib.hid hown
  clear hown
  go_wp2
  refine bodyPost_ret (v := .agg #[.string k, .string js, .bool jd, .int .i64 ja, .int .i64 je, .int .i64 mg, .int .i64 mh, .slice A2 (mrg l l').length c2]) (by simp [results, Try.results37, go_sem, z0, z1, z2, z3, z4, z5, z6, z7]) rfl ⟨js, jd, ja, je, A2, c2, HJ.out, rfl, HOWN.out, BL.out⟩
end Go.Proofs.Ytafbbojfifcncaa
