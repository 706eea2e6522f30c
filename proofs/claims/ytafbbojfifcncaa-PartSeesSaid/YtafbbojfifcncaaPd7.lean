/-
  The developers' Copy, Join of partitions.
-/
import Derived.Test.YtafbbojfifcncaaPm
import Derived.Test.YtafbbojfifcncaaPc2
import Derived.Test.YtafbbojfifcncaaPd3
import Derived.Test.YtafbbojfifcncaaPa
set_option linter.unusedVariables false
set_option linter.unusedSimpArgs false
namespace Go.Proofs.Ytafbbojfifcncaa
open Go Go.RowKit

theorem set3_block {w : World} {q : Nat} {v0 v1 v2 : Value} (h : w.heap[q]? = some (.cells #[v0, v1, v2] 24 (0, 0))) (u0 u1 u2 : Value) :
    (((w.setCell ⟨q, 0, none⟩ u0).setCell ⟨q, 1, none⟩ u1).setCell ⟨q, 2, none⟩ u2).heap[q]? = some (.cells #[u0, u1, u2] 24 (0, 0)) := by
  have h0 := Joins.block_setCell (i := 0) h u0
  simp only [List.setIfInBounds_toArray, List.set_cons_zero, List.set_cons_succ] at h0
  have h1 := Joins.block_setCell (i := 1) h0 u1
  simp only [List.setIfInBounds_toArray, List.set_cons_zero, List.set_cons_succ] at h1
  have h2 := Joins.block_setCell (i := 2) h1 u2
  simpa only [List.setIfInBounds_toArray, List.set_cons_zero, List.set_cons_succ] using h2
theorem kept_set3 {w : World} (q : Nat) (u0 u1 u2 : Value) : Kept (fun k => k = q) w (((w.setCell ⟨q, 0, none⟩ u0).setCell ⟨q, 1, none⟩ u1).setCell ⟨q, 2, none⟩ u2) :=
  (((Kept.refl (fun k => k = q) w).trans (Kept.setCell (fun k => k = q) _ ⟨q, 0, none⟩ u0 rfl) fun _ h => Or.inl h).trans (Kept.setCell (fun k => k = q) _ ⟨q, 1, none⟩ u1 rfl) fun _ h => Or.inl h).trans (Kept.setCell (fun k => k = q) _ ⟨q, 2, none⟩ u2 rfl) fun _ h => Or.inl h
theorem part_setrows {w : World} {r : Nat} {v0 v1 v2 : Value} (hr : w.heap[r]? = some (.cells #[v0, v1, v2] 24 (0, 0))) (u : Value) : (w.setCell ⟨r, 2, none⟩ u).heap[r]? = some (.cells #[v0, v1, u] 24 (0, 0)) := by
  have m := Joins.block_setCell (i := 2) hr u
  simp only [List.setIfInBounds_toArray, List.set_cons_zero, List.set_cons_succ] at m
  exact m
set_option maxRecDepth 8000 in
set_option maxHeartbeats 4000000 in
theorem pcopy_any (k : ByteArray) (g : Int) (A : Option Addr) (n c B : Nat) (L : List RA) (w : World) (h : Lies w B A n c L) (hB : B ≤ w.heap.size) (hn : n ≤ 1000000) (hf : ∀ x ∈ L, x.ro.cols.length ≤ 1000) :
    Calls Try.prog 14 #[.agg #[.string k, .int .i64 g, .slice A n c]] w fun e w' => ∃ M A' n' c', e = .returned (.agg #[.string k, .int .i64 g, .slice A' n' c']) ∧ ros M = ros L ∧ Fresh w w' (.slice A' n' c') M := by
  have bz := ((Below.refl w.heap.size w).alloc (Nat.le_refl _) (.cells #[.string k, .int .i64 g, .slice A n c] 24)).alloc (by simp) (.cells #[.string ⟨#[]⟩, .int .i64 0, .slice none 0 0] 24)
  have hz0 := new_at (heap_alloc_new w (.cells #[.string k, .int .i64 g, .slice A n c] 24)) (.cells #[.string ⟨#[]⟩, .int .i64 0, .slice none 0 0] 24)
  have hz1 := heap_alloc_new (w.alloc (.cells #[.string k, .int .i64 g, .slice A n c] 24)) (.cells #[.string ⟨#[]⟩, .int .i64 0, .slice none 0 0] 24)
  simp only [World.size_alloc] at hz1
  obtain ⟨V, hV⟩ : ∃ V, V = (w.alloc (.cells #[.string k, .int .i64 g, .slice A n c] 24)).alloc (.cells #[.string ⟨#[]⟩, .int .i64 0, .slice none 0 0] 24) := ⟨_, rfl⟩
  have hVs : V.heap.size = w.heap.size + 2 := by rw [hV]; simp
  rw [← hV] at bz hz0 hz1
  have HH := Lib.hid (h.below (bz.mono hB)); have HF := Lib.hid hf; have BZ := Lib.hid bz; have HZ0 := Lib.hid hz0; have HZ1 := Lib.hid hz1; have HVS := Lib.hid hVs
  obtain ⟨_, _, _⟩ := PtAt.of hz0
  clear h hf bz hz0 hz1 hVs
  go_enter Try.func14, Try.ntmps14
  go_wp2_with fail
  rw [← hV]
  clear hV
  go_wp2_with fail
  refine (copyrows_any A n c B L _ HH.out (by have := HVS.out; omega) hn HF.out).mono ?_
  rintro e w1 ⟨v, M, rfl, hM, hfr⟩
  obtain ⟨A', n', c', rfl⟩ : ∃ A' n' c', v = .slice A' n' c' := by
    obtain ⟨A', c', e, _⟩ := own_slice hfr.cur.own
    exact ⟨A', _, c', e⟩
  have hm0 := (hfr.below.block w.heap.size (by have := HVS.out; omega)).trans HZ0.out
  have hm1 := (hfr.below.block (w.heap.size + 1) (by have := HVS.out; omega)).trans HZ1.out
  have k2 := cell_at (i := 2) hm0 rfl
  have f2 := thawed_at (i := 2) hm0
  have m3 := part_setrows hm0 (.slice A' n' c')
  have n3 := (Below.heap_setCell w1 ⟨w.heap.size, 2, none⟩ (.slice A' n' c') (w.heap.size + 1) (by simp)).trans hm1
  have r0 := cell_at (i := 0) m3 rfl
  have r1 := cell_at (i := 1) m3 rfl
  have r2 := cell_at (i := 2) m3 rfl
  have z0 := cell_at (i := 0) n3 rfl
  have z1 := cell_at (i := 1) n3 rfl
  have z2 := cell_at (i := 2) n3 rfl
  have y0 := thawed_at (i := 0) n3
  have y1 := thawed_at (i := 1) n3
  have y2 := thawed_at (i := 2) n3
  have m9 := set3_block n3 (.string k) (.int .i64 g) (.slice A' n' c')
  have k9 := (Kept.setCell (fun k => k = w.heap.size ∨ k = w.heap.size + 1) w1 ⟨w.heap.size, 2, none⟩ (.slice A' n' c') (Or.inl rfl)).trans (kept_set3 (w.heap.size + 1) (.string k) (.int .i64 g) (.slice A' n' c')) fun k hk => Or.inl (Or.inr hk)
  have hfr9 := (hfr.lower BZ.out).kept k9 (e := 24) (fun k hk => by
    rcases hk with rfl | rfl
    · exact ⟨Nat.le_refl _, _, hm0⟩
    · exact ⟨by omega, _, hm1⟩) (by decide) (by decide)
  have HFR := Lib.hid hfr9; have HM := Lib.hid hM
  clear hfr hfr9 hM k9 m3 n3 hm0 hm1
  go_wp2
  generalize hw9 : ((((w1.setCell ⟨w.heap.size, 2, none⟩ (.slice A' n' c')).setCell ⟨w.heap.size + 1, 0, none⟩ (.string k)).setCell ⟨w.heap.size + 1, 1, none⟩ (.int .i64 g)).setCell ⟨w.heap.size + 1, 2, none⟩ (.slice A' n' c')) = w9 at m9 HFR ⊢
  clear hw9 r0 r1 r2 z0 z1 z2 y0 y1 y2 k2 f2
  have q0 := cell_at (i := 0) m9 rfl
  have q1 := cell_at (i := 1) m9 rfl
  have q2 := cell_at (i := 2) m9 rfl
  refine bodyPost_ret (v := .agg #[.string k, .int .i64 g, .slice A' n' c']) (by simp [results, Try.results14, go_sem, q0, q1, q2]) rfl ⟨M, A', n', c', rfl, HM.out, HFR.out⟩

/-- No row of what is joined has more columns than the two together. -/
theorem mrg_cols {l k : List Ro} (hr : RiseR l) (hr' : RiseR k) {T : Nat} (h0 : ∀ a ∈ l, a.cols.length ≤ T) (h1 : ∀ b ∈ k, b.cols.length ≤ T) (h : ∀ a ∈ l, ∀ b ∈ k, a.cols.length + b.cols.length ≤ T) : ∀ x ∈ mrgR l k, x.cols.length ≤ T := fun x hx => by
  have e := getK_mem (mrgK_rise JR.key_ (k := k) hr) hx
  rw [getK_mrg JR.key_ hr hr'] at e
  cases e1 : getK Ro.key l x.key with
  | none =>
    rw [e1] at e
    exact h1 x (getK_some e).1
  | some a =>
    cases e2 : getK Ro.key k x.key with
    | none =>
      rw [e1, e2] at e
      injection e with e
      rw [← e]
      exact h0 a (getK_some e1).1
    | some b =>
      rw [e1, e2] at e
      injection e with e
      rw [← e]
      exact Nat.le_trans (len_join a b) (h a (getK_some e1).1 b (getK_some e2).1)
theorem mem_ros {L : List RA} {r : Ro} (h : r ∈ ros L) : ∃ x ∈ L, x.ro = r := List.mem_map.1 h
set_option maxRecDepth 8000 in
set_option maxHeartbeats 8000000 in
/-- Two partitions joined: it, where there is room. -/
theorem pjoin_fits (k k' : ByteArray) (g g' : Int) (A A' : Option Addr) (n n' c c' B B' : Nat) (L K : List RA) (w : World) (h : Lies w B A n c L) (h' : Lies w B' A' n' c' K) (hB : B ≤ w.heap.size) (hB' : B' ≤ w.heap.size) (hn : n + n' ≤ 1000)
    (hu : (Pa.mk k g (ros L)).Up) (hu' : (Pa.mk k' g' (ros K)).Up) (ht : tot L + tot K ≤ 1000) (X : List Ro) (hX : mrgR (ros L) (ros K) = X) (hif : X.length ≤ 100) :
    Calls Try.prog 15 #[.agg #[.string k, .int .i64 g, .slice A n c], .agg #[.string k', .int .i64 g', .slice A' n' c']] w fun e w' => ∃ M A2 n2 c2, e = .returned (.tuple #[.agg #[.string k, .int .i64 (max g g'), .slice A2 n2 c2], .bool true]) ∧ ros M = X ∧ Fresh w w' (.slice A2 n2 c2) M := by
  have bz := (((Below.refl w.heap.size w).alloc (Nat.le_refl _) (.cells #[.string k, .int .i64 g, .slice A n c] 24)).alloc (by simp) (.cells #[.string k', .int .i64 g', .slice A' n' c'] 24)).alloc (by simp; omega) (.cells #[.string ⟨#[]⟩, .int .i64 0, .slice none 0 0] 24)
  have hz0 := new_at (new_at (heap_alloc_new w (.cells #[.string k, .int .i64 g, .slice A n c] 24)) (.cells #[.string k', .int .i64 g', .slice A' n' c'] 24)) (.cells #[.string ⟨#[]⟩, .int .i64 0, .slice none 0 0] 24)
  have hz1 := new_at (heap_alloc_new (w.alloc (.cells #[.string k, .int .i64 g, .slice A n c] 24)) (.cells #[.string k', .int .i64 g', .slice A' n' c'] 24)) (.cells #[.string ⟨#[]⟩, .int .i64 0, .slice none 0 0] 24)
  have hz2 := heap_alloc_new ((w.alloc (.cells #[.string k, .int .i64 g, .slice A n c] 24)).alloc (.cells #[.string k', .int .i64 g', .slice A' n' c'] 24)) (.cells #[.string ⟨#[]⟩, .int .i64 0, .slice none 0 0] 24)
  simp only [World.size_alloc] at hz1 hz2
  obtain ⟨V, hV⟩ : ∃ V, V = ((w.alloc (.cells #[.string k, .int .i64 g, .slice A n c] 24)).alloc (.cells #[.string k', .int .i64 g', .slice A' n' c'] 24)).alloc (.cells #[.string ⟨#[]⟩, .int .i64 0, .slice none 0 0] 24) := ⟨_, rfl⟩
  have hVs : V.heap.size = w.heap.size + 3 := by rw [hV]; simp
  rw [← hV] at bz hz0 hz1 hz2
  have hua : ∀ x ∈ L, x.ro.Up := fun x hx => hu.up x.ro (List.mem_map.2 ⟨x, hx, rfl⟩)
  have hub : ∀ x ∈ K, x.ro.Up := fun x hx => hu'.up x.ro (List.mem_map.2 ⟨x, hx, rfl⟩)
  have hXr : runK Ro.key Ro.join [] (ros L) (ros K) = X := by rw [← hX]; exact runK_mrg JR hu.rise hu.up hu'.rise hu'.up
  have hmf : ∀ r ∈ X, r.cols.length ≤ 1000 := by
    rw [← hX]
    refine mrg_cols hu.rise hu'.rise (fun a ha => ?_) (fun b hb => ?_) fun a ha b hb => ?_
    · obtain ⟨x, hx, rfl⟩ := mem_ros ha
      have := tot_mem hx; omega
    · obtain ⟨x, hx, rfl⟩ := mem_ros hb
      have := tot_mem hx; omega
    · obtain ⟨x, hx, rfl⟩ := mem_ros ha
      obtain ⟨y, hy, rfl⟩ := mem_ros hb
      have := tot_mem hx; have := tot_mem hy; omega
  have HMF0 := Lib.hid hmf
  clear hmf
  have hXl : X.length ≤ 1000 := by
    have h1 := mrgK_length (key := Ro.key) (jn := Ro.join) (ros K) (ros L)
    have h2 : X.length ≤ (ros L).length + (ros K).length := by rw [← hX]; exact h1
    have h3 := h.len; have h4 := h'.len
    rw [List.length_map, List.length_map] at h2
    omega
  have HH := Lib.hid (h.below (bz.mono hB)); have HH' := Lib.hid (h'.below (bz.mono hB')); have BZ := Lib.hid bz; have HZ0 := Lib.hid hz0; have HZ1 := Lib.hid hz1; have HZ2 := Lib.hid hz2; have HVS := Lib.hid hVs
  have HU := Lib.hid hua; have HU' := Lib.hid hub; have HT := Lib.hid ht; have HX := Lib.hid hXr; have HXL := Lib.hid hXl
  obtain ⟨_, _, _⟩ := PtAt.of hz0
  obtain ⟨_, _, _⟩ := PtAt.of hz1
  clear h h' bz hz0 hz1 hz2 hVs hu hu' hua hub ht hX hXr hXl
  go_enter Try.func15, Try.ntmps15
  go_wp2_with fail
  rw [← hV]
  clear hV
  go_wp2_with fail
  refine (mergeR_any A A' n n' c c' B B' L K _ HH.out HH'.out (by have := HVS.out; omega) (by have := HVS.out; omega) hn HU.out HU'.out HT.out).mono ?_
  rintro e w1 ⟨v, M, rfl, hM, hown⟩
  rw [HX.out] at hM
  obtain ⟨A1, c1, rfl, _, _, _, hlm⟩ := hown.slice
  have hlx : M.length = X.length := by rw [← hM, List.length_map]
  obtain ⟨m, hm⟩ : ∃ m, M.length = m := ⟨_, rfl⟩
  rw [hm] at hown hlm hlx ⊢
  have hp1 := And.intro ((hown.below.block w.heap.size (by have := HVS.out; omega)).trans HZ0.out) ((hown.below.block (w.heap.size + 1) (by have := HVS.out; omega)).trans HZ1.out)
  have hq1 := (hown.below.block (w.heap.size + 2) (by have := HVS.out; omega)).trans HZ2.out
  have HBW := Lib.hid (next BZ.out hown.below); have HS1 := Lib.hid (show w.heap.size + 3 ≤ w1.heap.size by have := hown.below.size; have := HVS.out; omega)
  have HM := Lib.hid hM; have HLM := Lib.hid hlm; have HP1 := Lib.hid hp1; have HQ1 := Lib.hid hq1; have HLX := Lib.hid hlx
  have HM1 := Lib.hid (show m ≤ 1000000 by have := HXL.out; omega)
  have d0 : decide ((100 : Int) < (m : Nat)) = false := by simp; omega
  have d1 : decide (100 < m) = false := by simp; omega
  have HMF : Hid (∀ x ∈ M, x.ro.cols.length ≤ 1000) := Lib.hid fun x hx => HMF0.out x.ro (by rw [← hM]; exact List.mem_map.2 ⟨x, hx, rfl⟩)
  clear hif hM hown hlm hlx hm hp1 hq1
  go_wp2_with fail
  refine wp_region_held_drew (S := fun w' => w'.heap[w.heap.size]? = some (.cells #[.string k, .int .i64 g, .slice A n c] 24) ∧ w'.heap[w.heap.size + 1]? = some (.cells #[.string k', .int .i64 g', .slice A' n' c'] 24)) (by kernel_rfl) ?_ (fun hHeld => ?_)
  · exact HP1.out
  refine wpAnyH_take (i := 0) (v := ?_) rfl (by kernel_rfl) (by kernel_rfl) (by kernel_rfl) (fun _ _ _ h => h) (Or.inl ⟨by rfl, ?_⟩) (by assumption) ?_
  rotate_left
  · (intro wx hSw; (try dsimp only at hSw); go_simp; try with_reducible rfl)
  try simp only [Act.put, List.getElem_toArray, List.getElem_cons_succ, List.getElem_cons_zero, List.setIfInBounds_toArray, List.set_cons_zero, List.set_cons_succ]
  refine wpAnyH_take (i := 1) (v := ?_) rfl (by kernel_rfl) (by kernel_rfl) (by kernel_rfl) (fun _ _ _ h => h) (Or.inl ⟨by rfl, ?_⟩) (by assumption) ?_
  rotate_left
  · (intro wx hSw; (try dsimp only at hSw); obtain ⟨_, _, _⟩ := PtAt.of hSw.1; obtain ⟨_, _, _⟩ := PtAt.of hSw.2; go_simp; try with_reducible rfl)
  try simp only [Act.put, List.getElem_toArray, List.getElem_cons_succ, List.getElem_cons_zero, List.setIfInBounds_toArray, List.set_cons_zero, List.set_cons_succ]
  refine wpAnyH_take (i := 2) (v := ?_) rfl (by kernel_rfl) (by kernel_rfl) (by kernel_rfl) (fun _ _ _ h => h) (Or.inl ⟨by rfl, ?_⟩) (by assumption) ?_
  rotate_left
  · (intro wx hSw; (try dsimp only at hSw); go_simp; try with_reducible rfl)
  try simp only [Act.put, List.getElem_toArray, List.getElem_cons_succ, List.getElem_cons_zero, List.setIfInBounds_toArray, List.set_cons_zero, List.set_cons_succ]
  refine wpAnyH_take (i := 3) (v := ?_) rfl (by kernel_rfl) (by kernel_rfl) (by kernel_rfl) (fun _ _ _ h => h) (Or.inl ⟨by rfl, ?_⟩) (by assumption) ?_
  rotate_left
  · (intro wx hSw; (try dsimp only at hSw); obtain ⟨_, _, _⟩ := PtAt.of hSw.1; obtain ⟨_, _, _⟩ := PtAt.of hSw.2; go_simp; try with_reducible rfl)
  try simp only [Act.put, List.getElem_toArray, List.getElem_cons_succ, List.getElem_cons_zero, List.setIfInBounds_toArray, List.set_cons_zero, List.set_cons_succ]
  refine wpAnyH_take (i := 4) (v := ?_) rfl (by kernel_rfl) (by kernel_rfl) (by kernel_rfl) (fun _ _ _ h => h) (Or.inl ⟨by rfl, ?_⟩) (by assumption) ?_
  rotate_left
  · (intro wx hSw; (try dsimp only at hSw); go_simp; try with_reducible rfl)
  try simp only [Act.put, List.getElem_toArray, List.getElem_cons_succ, List.getElem_cons_zero, List.setIfInBounds_toArray, List.set_cons_zero, List.set_cons_succ]
  refine wpAnyH_take (i := 5) (v := ?_) rfl (by kernel_rfl) (by kernel_rfl) (by kernel_rfl) (fun _ _ _ h => h) (Or.inl ⟨by rfl, ?_⟩) (by assumption) ?_
  rotate_left
  · (intro wx hSw; (try dsimp only at hSw); obtain ⟨_, _, _⟩ := PtAt.of hSw.1; obtain ⟨_, _, _⟩ := PtAt.of hSw.2; go_simp; try with_reducible rfl)
  try simp only [Act.put, List.getElem_toArray, List.getElem_cons_succ, List.getElem_cons_zero, List.setIfInBounds_toArray, List.set_cons_zero, List.set_cons_succ]
  refine wpAnyH_take (i := 6) (v := ?_) rfl (by kernel_rfl) (by kernel_rfl) (by kernel_rfl) (fun _ _ _ h => h) (Or.inl ⟨by rfl, ?_⟩) (by assumption) ?_
  rotate_left
  · (intro wx hSw; (try dsimp only at hSw); go_simp; try with_reducible rfl)
  try simp only [Act.put, List.getElem_toArray, List.getElem_cons_succ, List.getElem_cons_zero, List.setIfInBounds_toArray, List.set_cons_zero, List.set_cons_succ]
  refine wpAnyH_take (i := 7) (v := ?_) rfl (by kernel_rfl) (by kernel_rfl) (by kernel_rfl) (fun _ _ _ h => h) (Or.inl ⟨by rfl, ?_⟩) (by assumption) ?_
  rotate_left
  · (intro wx hSw; (try dsimp only at hSw); go_simp; try with_reducible rfl)
  try simp only [Act.put, List.getElem_toArray, List.getElem_cons_succ, List.getElem_cons_zero, List.setIfInBounds_toArray, List.set_cons_zero, List.set_cons_succ]
  refine wpAnyH_ready (rs := [8]) (by kernel_rfl) (by simp) (AllReadyH.cons rfl (fun K hK => ?_) AllReadyH.nil)
  go_simp
  refine (copyrows_any A1 m c1 w1.heap.size M _ (HLM.out.below (Below.refl _ _).drew) (Nat.le_refl _) HM1.out HMF.out).mono ?_
  rintro e w2 ⟨v, M2, rfl, hM2, hfr⟩
  obtain ⟨A2, m2, c2, rfl⟩ : ∃ A' n' c', v = .slice A' n' c' := by
    obtain ⟨A', c', e, _⟩ := own_slice hfr.cur.own
    exact ⟨A', _, c', e⟩
  have hb2 := next (w := w1) (w1 := w1.drew) ((Below.refl w1.heap.size w1).drew) hfr.below
  have hp2 := And.intro ((hb2.block w.heap.size (by have := HS1.out; omega)).trans HP1.out.1) ((hb2.block (w.heap.size + 1) (by have := HS1.out; omega)).trans HP1.out.2)
  have hq2 := (hb2.block (w.heap.size + 2) (by have := HS1.out; omega)).trans HQ1.out
  have z0 := cell_at (i := 0) hq2 rfl
  have z1 := cell_at (i := 1) hq2 rfl
  have z2 := cell_at (i := 2) hq2 rfl
  have y0 := thawed_at (i := 0) hq2
  have y1 := thawed_at (i := 1) hq2
  have y2 := thawed_at (i := 2) hq2
  have m9 := set3_block (q := w.heap.size + 1 + 1) hq2 (.string k) (.int .i64 (max g g')) (.slice A2 m2 c2)
  have k9 := kept_set3 (w := w2) (w.heap.size + 1 + 1) (.string k) (.int .i64 (max g g')) (.slice A2 m2 c2)
  have hfr9 := (hfr.lower (w := w) (next HBW.out ((Below.refl w1.heap.size w1).drew))).kept k9 (e := 24) (fun j hj => by subst hj; exact ⟨by omega, _, hq2⟩) (by decide) (by decide)
  have HP2 := Lib.hid hp2
  have HP9 := Lib.hid (And.intro ((k9.block w.heap.size (Array.getElem?_eq_some_iff.1 hp2.1).1 (by omega)).trans hp2.1) ((k9.block (w.heap.size + 1) (Array.getElem?_eq_some_iff.1 hp2.2).1 (by omega)).trans hp2.2))
  have HM9 := Lib.hid m9
  have HFR := Lib.hid hfr9
  have HR2 := Lib.hid hM2
  clear hfr hfr9 hM2 hb2 hp2 hq2 m9 k9
  try go_wp2_with fail
  refine hK.out _ _ ?_ (fun hHeld => ?_)
  · exact HP2.out
  clear hK K
  try simp only [Act.put, List.getElem_toArray, List.getElem_cons_succ, List.getElem_cons_zero, List.setIfInBounds_toArray, List.set_cons_zero, List.set_cons_succ]
  refine wpAnyH_take (i := 9) (v := ?_) rfl (by kernel_rfl) (by kernel_rfl) (by kernel_rfl) (fun _ _ _ h => h) (Or.inl ⟨by rfl, ?_⟩) (by assumption) ?_
  rotate_left
  · (intro wx hSw; (try dsimp only at hSw); go_simp; try with_reducible rfl)
  try simp only [Act.put, List.getElem_toArray, List.getElem_cons_succ, List.getElem_cons_zero, List.setIfInBounds_toArray, List.set_cons_zero, List.set_cons_succ]
  refine wpAnyH_ready (rs := [10]) (by kernel_rfl) (by simp) (AllReadyH.cons rfl (fun K hK => ?_) AllReadyH.nil)
  go_simp
  refine hK.out _ _ ?_ (fun hHeld => ?_)
  · exact HP9.out
  clear hK K
  try simp only [Act.put, List.getElem_toArray, List.getElem_cons_succ, List.getElem_cons_zero, List.setIfInBounds_toArray, List.set_cons_zero, List.set_cons_succ]
  refine wpAnyH_take (i := 11) (v := ?_) rfl (by kernel_rfl) (by kernel_rfl) (by kernel_rfl) (fun _ _ _ h => h) (Or.inl ⟨by rfl, ?_⟩) (by assumption) ?_
  rotate_left
  · (intro wx hSw; (try dsimp only at hSw); go_simp; try with_reducible rfl)
  try simp only [Act.put, List.getElem_toArray, List.getElem_cons_succ, List.getElem_cons_zero, List.setIfInBounds_toArray, List.set_cons_zero, List.set_cons_succ]
  refine wpAnyH_done (by kernel_rfl) ?_ _
  generalize hw9 : (((w2.setCell ⟨w.heap.size + 1 + 1, 0, none⟩ (.string k)).setCell ⟨w.heap.size + 1 + 1, 1, none⟩ (.int .i64 (max g g'))).setCell ⟨w.heap.size + 1 + 1, 2, none⟩ (.slice A2 m2 c2)) = w9 at HM9 HFR HP9 hHeld ⊢
  clear hw9 z0 z1 z2 y0 y1 y2
  go_wp2
  have q0 := cell_at (i := 0) HM9.out rfl
  have q1 := cell_at (i := 1) HM9.out rfl
  have q2 := cell_at (i := 2) HM9.out rfl
  refine bodyPost_ret (v := .tuple #[.agg #[.string k, .int .i64 (max g g'), .slice A2 m2 c2], .bool true]) ?_ rfl ?_
  · simp [results, Try.results15, go_sem, q0, q1, q2]
  · exact ⟨M2, A2, m2, c2, rfl, HR2.out.trans HM.out, HFR.out⟩
set_option maxRecDepth 8000 in
set_option maxHeartbeats 8000000 in
/-- Two partitions joined: nothing, where there is no room. -/
theorem pjoin_over (k k' : ByteArray) (g g' : Int) (A A' : Option Addr) (n n' c c' B B' : Nat) (L K : List RA) (w : World) (h : Lies w B A n c L) (h' : Lies w B' A' n' c' K) (hB : B ≤ w.heap.size) (hB' : B' ≤ w.heap.size) (hn : n + n' ≤ 1000)
    (hu : (Pa.mk k g (ros L)).Up) (hu' : (Pa.mk k' g' (ros K)).Up) (ht : tot L + tot K ≤ 1000) (X : List Ro) (hX : mrgR (ros L) (ros K) = X) (hif : 100 < X.length) :
    Calls Try.prog 15 #[.agg #[.string k, .int .i64 g, .slice A n c], .agg #[.string k', .int .i64 g', .slice A' n' c']] w fun e w' => e = .returned (.tuple #[.agg #[.string ⟨#[]⟩, .int .i64 0, .slice none 0 0], .bool false]) ∧ Below w.heap.size w w' := by
  have bz := (((Below.refl w.heap.size w).alloc (Nat.le_refl _) (.cells #[.string k, .int .i64 g, .slice A n c] 24)).alloc (by simp) (.cells #[.string k', .int .i64 g', .slice A' n' c'] 24)).alloc (by simp; omega) (.cells #[.string ⟨#[]⟩, .int .i64 0, .slice none 0 0] 24)
  have hz0 := new_at (new_at (heap_alloc_new w (.cells #[.string k, .int .i64 g, .slice A n c] 24)) (.cells #[.string k', .int .i64 g', .slice A' n' c'] 24)) (.cells #[.string ⟨#[]⟩, .int .i64 0, .slice none 0 0] 24)
  have hz1 := new_at (heap_alloc_new (w.alloc (.cells #[.string k, .int .i64 g, .slice A n c] 24)) (.cells #[.string k', .int .i64 g', .slice A' n' c'] 24)) (.cells #[.string ⟨#[]⟩, .int .i64 0, .slice none 0 0] 24)
  have hz2 := heap_alloc_new ((w.alloc (.cells #[.string k, .int .i64 g, .slice A n c] 24)).alloc (.cells #[.string k', .int .i64 g', .slice A' n' c'] 24)) (.cells #[.string ⟨#[]⟩, .int .i64 0, .slice none 0 0] 24)
  simp only [World.size_alloc] at hz1 hz2
  obtain ⟨V, hV⟩ : ∃ V, V = ((w.alloc (.cells #[.string k, .int .i64 g, .slice A n c] 24)).alloc (.cells #[.string k', .int .i64 g', .slice A' n' c'] 24)).alloc (.cells #[.string ⟨#[]⟩, .int .i64 0, .slice none 0 0] 24) := ⟨_, rfl⟩
  have hVs : V.heap.size = w.heap.size + 3 := by rw [hV]; simp
  rw [← hV] at bz hz0 hz1 hz2
  have hua : ∀ x ∈ L, x.ro.Up := fun x hx => hu.up x.ro (List.mem_map.2 ⟨x, hx, rfl⟩)
  have hub : ∀ x ∈ K, x.ro.Up := fun x hx => hu'.up x.ro (List.mem_map.2 ⟨x, hx, rfl⟩)
  have hXr : runK Ro.key Ro.join [] (ros L) (ros K) = X := by rw [← hX]; exact runK_mrg JR hu.rise hu.up hu'.rise hu'.up
  have hXl : X.length ≤ 1000 := by
    have h1 := mrgK_length (key := Ro.key) (jn := Ro.join) (ros K) (ros L)
    have h2 : X.length ≤ (ros L).length + (ros K).length := by rw [← hX]; exact h1
    have h3 := h.len; have h4 := h'.len
    rw [List.length_map, List.length_map] at h2
    omega
  have HH := Lib.hid (h.below (bz.mono hB)); have HH' := Lib.hid (h'.below (bz.mono hB')); have BZ := Lib.hid bz; have HZ0 := Lib.hid hz0; have HZ1 := Lib.hid hz1; have HZ2 := Lib.hid hz2; have HVS := Lib.hid hVs
  have HU := Lib.hid hua; have HU' := Lib.hid hub; have HT := Lib.hid ht; have HX := Lib.hid hXr; have HXL := Lib.hid hXl
  obtain ⟨_, _, _⟩ := PtAt.of hz0
  obtain ⟨_, _, _⟩ := PtAt.of hz1
  clear h h' bz hz0 hz1 hz2 hVs hu hu' hua hub ht hX hXr hXl
  go_enter Try.func15, Try.ntmps15
  go_wp2_with fail
  rw [← hV]
  clear hV
  go_wp2_with fail
  refine (mergeR_any A A' n n' c c' B B' L K _ HH.out HH'.out (by have := HVS.out; omega) (by have := HVS.out; omega) hn HU.out HU'.out HT.out).mono ?_
  rintro e w1 ⟨v, M, rfl, hM, hown⟩
  rw [HX.out] at hM
  obtain ⟨A1, c1, rfl, _, _, _, hlm⟩ := hown.slice
  have hlx : M.length = X.length := by rw [← hM, List.length_map]
  obtain ⟨m, hm⟩ : ∃ m, M.length = m := ⟨_, rfl⟩
  rw [hm] at hown hlm hlx ⊢
  have hp1 := And.intro ((hown.below.block w.heap.size (by have := HVS.out; omega)).trans HZ0.out) ((hown.below.block (w.heap.size + 1) (by have := HVS.out; omega)).trans HZ1.out)
  have hq1 := (hown.below.block (w.heap.size + 2) (by have := HVS.out; omega)).trans HZ2.out
  have HBW := Lib.hid (next BZ.out hown.below); have HS1 := Lib.hid (show w.heap.size + 3 ≤ w1.heap.size by have := hown.below.size; have := HVS.out; omega)
  have HM := Lib.hid hM; have HLM := Lib.hid hlm; have HP1 := Lib.hid hp1; have HQ1 := Lib.hid hq1; have HLX := Lib.hid hlx
  have HM1 := Lib.hid (show m ≤ 1000000 by have := HXL.out; omega)
  have d0 : decide ((100 : Int) < (m : Nat)) = true := by simp; omega
  have d1 : decide (100 < m) = true := by simp; omega
  have z0 := cell_at (i := 0) hq1 rfl
  have z1 := cell_at (i := 1) hq1 rfl
  have z2 := cell_at (i := 2) hq1 rfl
  have y0 := thawed_at (i := 0) hq1
  have y1 := thawed_at (i := 1) hq1
  have y2 := thawed_at (i := 2) hq1
  have m9 := set3_block (q := w.heap.size + 1 + 1) hq1 (.string ⟨#[]⟩) (.int .i64 0) (.slice none 0 0)
  have k9 := kept_set3 (w := w1) (w.heap.size + 1 + 1) (.string ⟨#[]⟩) (.int .i64 0) (.slice none 0 0)
  have HB9 := Lib.hid (HBW.out.trans (k9.below (B := w.heap.size) (fun k hk => by omega) (by have := HBW.out.size; omega)))
  clear hif hM hown hlm hlx hm hp1 hq1 k9
  go_wp2
  generalize hw9 : (((w1.setCell ⟨w.heap.size + 1 + 1, 0, none⟩ (.string ⟨#[]⟩)).setCell ⟨w.heap.size + 1 + 1, 1, none⟩ (.int .i64 0)).setCell ⟨w.heap.size + 1 + 1, 2, none⟩ (.slice none 0 0)) = w9 at m9 HB9 ⊢
  clear hw9 z0 z1 z2 y0 y1 y2
  have q0 := cell_at (i := 0) m9 rfl
  have q1 := cell_at (i := 1) m9 rfl
  have q2 := cell_at (i := 2) m9 rfl
  refine bodyPost_ret (v := .tuple #[.agg #[.string ⟨#[]⟩, .int .i64 0, .slice none 0 0], .bool false]) ?_ rfl ?_
  · simp [results, Try.results15, go_sem, q0, q1, q2]
  · exact ⟨rfl, HB9.out⟩
end Go.Proofs.Ytafbbojfifcncaa
