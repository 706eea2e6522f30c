/-
  A whole number's eight bytes, as the document's own answer of chapter 2 gives them (for the laws by numbers of chapters that don't reach the rest of chapter 2).
-/
import Derived.Test.YtafbbojfifcncaaTkl
import Derived.Test.YtafbbojfifcncaaLawPAllA
import Derived.Test.YtafbbojfifcncaaPc2
import Derived.Test.YtafbbojfifcncaaPd3
import Derived.Test.YtafbbojfifcncaaPa
import Derived.Test.YtafbbojfifcncaaPk
import Derived.Test.YtafbbojfifcncaaRo2
import Derived.Deep.RegionHeld3
import Derived.Test.YtafbbojfifcncaaPd4
import Derived.Test.YtafbbojfifcncaaPd1
import Derived.Test.YtafbbojfifcncaaRo4
import Derived.Test.YtafbbojfifcncaaRc3
import Derived.Test.YtafbbojfifcncaaRw7
import Derived.Test.YtafbbojfifcncaaRoB
import Derived.Deep.DeepCutAuto
import Derived.Deep.RegionLaw
import Derived.Deep.CutBlock
import Derived.Lib.BitFns
import Derived.Lib.ItoaNum
import Derived.Test.YtafbbojfifcncaaProg
import Derived.WalkKit
import Derived.BigCall
import Derived.Lib.Hide
import Derived.ArgAppend
import Derived.Deep.AppendLies
import Derived.Lib.UnsafeStr
import Derived.Lib.BufferWrite
import Derived.Laws.IdiomStrings
import Derived.Laws.BytesArg
import Derived.Test.YtafbbojfifcncaaPlc
import Derived.Laws.Bits64
import Derived.LoopTactic
import Derived.Outline
import Derived.WalkSpells
set_option linter.unusedVariables false
set_option linter.unusedSimpArgs false
namespace Go.Proofs.Ytafbbojfifcncaa
open Go Go.RowKit

theorem set3_block {w : World} {q : Nat} {v0 v1 v2 : Value} (h : w.heap[q]? = some (.cells #[v0, v1, v2] 24 (0, 0))) (u0 u1 u2 : Value) :
    (((w.setCell ⟨q, 0, none⟩ u0).setCell ⟨q, 1, none⟩ u1).setCell ⟨q, 2, none⟩ u2).heap[q]? = some (.cells #[u0, u1, u2] 24 (0, 0)) := by
  have h0 := Joins.block_setCell (i := 0) h u0
  simp only [List.setIfInBounds_toArray, List.set_cons_zero, List.set_cons_succ] at h0
  have h1 := Joins.block_setCell (i := 1) h0 u1
  simp only [List.setIfInBounds_toArray, List.set_cons_zero, List.set_cons_succ] at h1
  have h2 := Joins.block_setCell (i := 2) h1 u2
  simpa only [List.setIfInBounds_toArray, List.set_cons_zero, List.set_cons_succ] using h2
theorem kept_set3 {w : World} (q : Nat) (u0 u1 u2 : Value) : Kept (fun k => k = q) w (((w.setCell ⟨q, 0, none⟩ u0).setCell ⟨q, 1, none⟩ u1).setCell ⟨q, 2, none⟩ u2) :=
  (((Kept.refl (fun k => k = q) w).trans (Kept.setCell (fun k => k = q) _ ⟨q, 0, none⟩ u0 rfl) fun _ h => Or.inl h).trans (Kept.setCell (fun k => k = q) _ ⟨q, 1, none⟩ u1 rfl) fun _ h => Or.inl h).trans (Kept.setCell (fun k => k = q) _ ⟨q, 2, none⟩ u2 rfl) fun _ h => Or.inl h
theorem part_setrows {w : World} {r : Nat} {v0 v1 v2 : Value} (hr : w.heap[r]? = some (.cells #[v0, v1, v2] 24 (0, 0))) (u : Value) : (w.setCell ⟨r, 2, none⟩ u).heap[r]? = some (.cells #[v0, v1, u] 24 (0, 0)) := by
  have m := Joins.block_setCell (i := 2) hr u
  simp only [List.setIfInBounds_toArray, List.set_cons_zero, List.set_cons_succ] at m
  exact m
set_option maxRecDepth 8000 in
set_option maxHeartbeats 4000000 in
theorem pcopy_any (k : ByteArray) (g : Int) (A : Option Addr) (n c B : Nat) (L : List RA) (w : World) (h : Lies w B A n c L) (hB : B ≤ w.heap.size) (hn : n ≤ 1000000) (hf : ∀ x ∈ L, x.ro.cols.length ≤ 1000) :
    Calls Try.prog 14 #[.agg #[.string k, .int .i64 g, .slice A n c]] w fun e w' => ∃ M A' n' c', e = .returned (.agg #[.string k, .int .i64 g, .slice A' n' c']) ∧ ros M = ros L ∧ Fresh w w' (.slice A' n' c') M := by
  have bz := ((Below.refl w.heap.size w).alloc (Nat.le_refl _) (.cells #[.string k, .int .i64 g, .slice A n c] 24)).alloc (by simp) (.cells #[.string ⟨#[]⟩, .int .i64 0, .slice none 0 0] 24)
  have hz0 := new_at (heap_alloc_new w (.cells #[.string k, .int .i64 g, .slice A n c] 24)) (.cells #[.string ⟨#[]⟩, .int .i64 0, .slice none 0 0] 24)
  have hz1 := heap_alloc_new (w.alloc (.cells #[.string k, .int .i64 g, .slice A n c] 24)) (.cells #[.string ⟨#[]⟩, .int .i64 0, .slice none 0 0] 24)
  simp only [World.size_alloc] at hz1
  obtain ⟨V, hV⟩ : ∃ V, V = (w.alloc (.cells #[.string k, .int .i64 g, .slice A n c] 24)).alloc (.cells #[.string ⟨#[]⟩, .int .i64 0, .slice none 0 0] 24) := ⟨_, rfl⟩
  have hVs : V.heap.size = w.heap.size + 2 := by rw [hV]; simp
  rw [← hV] at bz hz0 hz1
  have HH := Lib.hid (h.below (bz.mono hB)); have HF := Lib.hid hf; have BZ := Lib.hid bz; have HZ0 := Lib.hid hz0; have HZ1 := Lib.hid hz1; have HVS := Lib.hid hVs
  obtain ⟨_, _, _⟩ := PtAt.of hz0
  clear h hf bz hz0 hz1 hVs
  go_enter Try.func14, Try.ntmps14
  go_wp2_with fail
  rw [← hV]
  clear hV
  go_wp2_with fail
  refine (copyrows_any A n c B L _ HH.out (by have := HVS.out; omega) hn HF.out).mono ?_
  rintro e w1 ⟨v, M, rfl, hM, hfr⟩
  obtain ⟨A', n', c', rfl⟩ : ∃ A' n' c', v = .slice A' n' c' := by
    obtain ⟨A', c', e, _⟩ := own_slice hfr.cur.own
    exact ⟨A', _, c', e⟩
  have hm0 := (hfr.below.block w.heap.size (by have := HVS.out; omega)).trans HZ0.out
  have hm1 := (hfr.below.block (w.heap.size + 1) (by have := HVS.out; omega)).trans HZ1.out
  have k2 := cell_at (i := 2) hm0 rfl
  have f2 := thawed_at (i := 2) hm0
  have m3 := part_setrows hm0 (.slice A' n' c')
  have n3 := (Below.heap_setCell w1 ⟨w.heap.size, 2, none⟩ (.slice A' n' c') (w.heap.size + 1) (by simp)).trans hm1
  have r0 := cell_at (i := 0) m3 rfl
  have r1 := cell_at (i := 1) m3 rfl
  have r2 := cell_at (i := 2) m3 rfl
  have z0 := cell_at (i := 0) n3 rfl
  have z1 := cell_at (i := 1) n3 rfl
  have z2 := cell_at (i := 2) n3 rfl
  have y0 := thawed_at (i := 0) n3
  have y1 := thawed_at (i := 1) n3
  have y2 := thawed_at (i := 2) n3
  have m9 := set3_block n3 (.string k) (.int .i64 g) (.slice A' n' c')
  have k9 := (Kept.setCell (fun k => k = w.heap.size ∨ k = w.heap.size + 1) w1 ⟨w.heap.size, 2, none⟩ (.slice A' n' c') (Or.inl rfl)).trans (kept_set3 (w.heap.size + 1) (.string k) (.int .i64 g) (.slice A' n' c')) fun k hk => Or.inl (Or.inr hk)
  have hfr9 := (hfr.lower BZ.out).kept k9 (e := 24) (fun k hk => by
    rcases hk with rfl | rfl
    · exact ⟨Nat.le_refl _, _, hm0⟩
    · exact ⟨by omega, _, hm1⟩) (by decide) (by decide)
  have HFR := Lib.hid hfr9; have HM := Lib.hid hM
  clear hfr hfr9 hM k9 m3 n3 hm0 hm1
  go_wp2
  generalize hw9 : ((((w1.setCell ⟨w.heap.size, 2, none⟩ (.slice A' n' c')).setCell ⟨w.heap.size + 1, 0, none⟩ (.string k)).setCell ⟨w.heap.size + 1, 1, none⟩ (.int .i64 g)).setCell ⟨w.heap.size + 1, 2, none⟩ (.slice A' n' c')) = w9 at m9 HFR ⊢
  clear hw9 r0 r1 r2 z0 z1 z2 y0 y1 y2 k2 f2
  have q0 := cell_at (i := 0) m9 rfl
  have q1 := cell_at (i := 1) m9 rfl
  have q2 := cell_at (i := 2) m9 rfl
  refine bodyPost_ret (v := .agg #[.string k, .int .i64 g, .slice A' n' c']) (by simp [results, Try.results14, go_sem, q0, q1, q2]) rfl ⟨M, A', n', c', rfl, HM.out, HFR.out⟩

/-- No row of what is joined has more columns than the two together. -/
theorem mrg_cols {l k : List Ro} (hr : RiseR l) (hr' : RiseR k) {T : Nat} (h0 : ∀ a ∈ l, a.cols.length ≤ T) (h1 : ∀ b ∈ k, b.cols.length ≤ T) (h : ∀ a ∈ l, ∀ b ∈ k, a.cols.length + b.cols.length ≤ T) : ∀ x ∈ mrgR l k, x.cols.length ≤ T := fun x hx => by
  have e := getK_mem (mrgK_rise JR.key_ (k := k) hr) hx
  rw [getK_mrg JR.key_ hr hr'] at e
  cases e1 : getK Ro.key l x.key with
  | none =>
    rw [e1] at e
    exact h1 x (getK_some e).1
  | some a =>
    cases e2 : getK Ro.key k x.key with
    | none =>
      rw [e1, e2] at e
      injection e with e
      rw [← e]
      exact h0 a (getK_some e1).1
    | some b =>
      rw [e1, e2] at e
      injection e with e
      rw [← e]
      exact Nat.le_trans (len_join a b) (h a (getK_some e1).1 b (getK_some e2).1)
theorem mem_ros {L : List RA} {r : Ro} (h : r ∈ ros L) : ∃ x ∈ L, x.ro = r := List.mem_map.1 h
set_option maxRecDepth 8000 in
set_option maxHeartbeats 8000000 in
/-- Two partitions joined: it, where there is room. -/
theorem pjoin_fits (k k' : ByteArray) (g g' : Int) (A A' : Option Addr) (n n' c c' B B' : Nat) (L K : List RA) (w : World) (h : Lies w B A n c L) (h' : Lies w B' A' n' c' K) (hB : B ≤ w.heap.size) (hB' : B' ≤ w.heap.size) (hn : n + n' ≤ 1000)
    (hu : (Pa.mk k g (ros L)).Up) (hu' : (Pa.mk k' g' (ros K)).Up) (ht : tot L + tot K ≤ 1000) (X : List Ro) (hX : mrgR (ros L) (ros K) = X) (hif : X.length ≤ 100) :
    Calls Try.prog 15 #[.agg #[.string k, .int .i64 g, .slice A n c], .agg #[.string k', .int .i64 g', .slice A' n' c']] w fun e w' => ∃ M A2 n2 c2, e = .returned (.tuple #[.agg #[.string k, .int .i64 (max g g'), .slice A2 n2 c2], .bool true]) ∧ ros M = X ∧ Fresh w w' (.slice A2 n2 c2) M := by
  have bz := (((Below.refl w.heap.size w).alloc (Nat.le_refl _) (.cells #[.string k, .int .i64 g, .slice A n c] 24)).alloc (by simp) (.cells #[.string k', .int .i64 g', .slice A' n' c'] 24)).alloc (by simp; omega) (.cells #[.string ⟨#[]⟩, .int .i64 0, .slice none 0 0] 24)
  have hz0 := new_at (new_at (heap_alloc_new w (.cells #[.string k, .int .i64 g, .slice A n c] 24)) (.cells #[.string k', .int .i64 g', .slice A' n' c'] 24)) (.cells #[.string ⟨#[]⟩, .int .i64 0, .slice none 0 0] 24)
  have hz1 := new_at (heap_alloc_new (w.alloc (.cells #[.string k, .int .i64 g, .slice A n c] 24)) (.cells #[.string k', .int .i64 g', .slice A' n' c'] 24)) (.cells #[.string ⟨#[]⟩, .int .i64 0, .slice none 0 0] 24)
  have hz2 := heap_alloc_new ((w.alloc (.cells #[.string k, .int .i64 g, .slice A n c] 24)).alloc (.cells #[.string k', .int .i64 g', .slice A' n' c'] 24)) (.cells #[.string ⟨#[]⟩, .int .i64 0, .slice none 0 0] 24)
  simp only [World.size_alloc] at hz1 hz2
  obtain ⟨V, hV⟩ : ∃ V, V = ((w.alloc (.cells #[.string k, .int .i64 g, .slice A n c] 24)).alloc (.cells #[.string k', .int .i64 g', .slice A' n' c'] 24)).alloc (.cells #[.string ⟨#[]⟩, .int .i64 0, .slice none 0 0] 24) := ⟨_, rfl⟩
  have hVs : V.heap.size = w.heap.size + 3 := by rw [hV]; simp
  rw [← hV] at bz hz0 hz1 hz2
  have hua : ∀ x ∈ L, x.ro.Up := fun x hx => hu.up x.ro (List.mem_map.2 ⟨x, hx, rfl⟩)
  have hub : ∀ x ∈ K, x.ro.Up := fun x hx => hu'.up x.ro (List.mem_map.2 ⟨x, hx, rfl⟩)
  have hXr : runK Ro.key Ro.join [] (ros L) (ros K) = X := by rw [← hX]; exact runK_mrg JR hu.rise hu.up hu'.rise hu'.up
  have hmf : ∀ r ∈ X, r.cols.length ≤ 1000 := by
    rw [← hX]
    refine mrg_cols hu.rise hu'.rise (fun a ha => ?_) (fun b hb => ?_) fun a ha b hb => ?_
    · obtain ⟨x, hx, rfl⟩ := mem_ros ha
      have := tot_mem hx; omega
    · obtain ⟨x, hx, rfl⟩ := mem_ros hb
      have := tot_mem hx; omega
    · obtain ⟨x, hx, rfl⟩ := mem_ros ha
      obtain ⟨y, hy, rfl⟩ := mem_ros hb
      have := tot_mem hx; have := tot_mem hy; omega
  have HMF0 := Lib.hid hmf
  clear hmf
  have hXl : X.length ≤ 1000 := by
    have h1 := mrgK_length (key := Ro.key) (jn := Ro.join) (ros K) (ros L)
    have h2 : X.length ≤ (ros L).length + (ros K).length := by rw [← hX]; exact h1
    have h3 := h.len; have h4 := h'.len
    rw [List.length_map, List.length_map] at h2
    omega
  have HH := Lib.hid (h.below (bz.mono hB)); have HH' := Lib.hid (h'.below (bz.mono hB')); have BZ := Lib.hid bz; have HZ0 := Lib.hid hz0; have HZ1 := Lib.hid hz1; have HZ2 := Lib.hid hz2; have HVS := Lib.hid hVs
  have HU := Lib.hid hua; have HU' := Lib.hid hub; have HT := Lib.hid ht; have HX := Lib.hid hXr; have HXL := Lib.hid hXl
  obtain ⟨_, _, _⟩ := PtAt.of hz0
  obtain ⟨_, _, _⟩ := PtAt.of hz1
  clear h h' bz hz0 hz1 hz2 hVs hu hu' hua hub ht hX hXr hXl
  go_enter Try.func15, Try.ntmps15
  go_wp2_with fail
  rw [← hV]
  clear hV
  go_wp2_with fail
  refine (mergeR_any A A' n n' c c' B B' L K _ HH.out HH'.out (by have := HVS.out; omega) (by have := HVS.out; omega) hn HU.out HU'.out HT.out).mono ?_
  rintro e w1 ⟨v, M, rfl, hM, hown⟩
  rw [HX.out] at hM
  obtain ⟨A1, c1, rfl, _, _, _, hlm⟩ := hown.slice
  have hlx : M.length = X.length := by rw [← hM, List.length_map]
  obtain ⟨m, hm⟩ : ∃ m, M.length = m := ⟨_, rfl⟩
  rw [hm] at hown hlm hlx ⊢
  have hp1 := And.intro ((hown.below.block w.heap.size (by have := HVS.out; omega)).trans HZ0.out) ((hown.below.block (w.heap.size + 1) (by have := HVS.out; omega)).trans HZ1.out)
  have hq1 := (hown.below.block (w.heap.size + 2) (by have := HVS.out; omega)).trans HZ2.out
  have HBW := Lib.hid (next BZ.out hown.below); have HS1 := Lib.hid (show w.heap.size + 3 ≤ w1.heap.size by have := hown.below.size; have := HVS.out; omega)
  have HM := Lib.hid hM; have HLM := Lib.hid hlm; have HP1 := Lib.hid hp1; have HQ1 := Lib.hid hq1; have HLX := Lib.hid hlx
  have HM1 := Lib.hid (show m ≤ 1000000 by have := HXL.out; omega)
  have d0 : decide ((100 : Int) < (m : Nat)) = false := by simp; omega
  have d1 : decide (100 < m) = false := by simp; omega
  have HMF : Hid (∀ x ∈ M, x.ro.cols.length ≤ 1000) := Lib.hid fun x hx => HMF0.out x.ro (by rw [← hM]; exact List.mem_map.2 ⟨x, hx, rfl⟩)
  clear hif hM hown hlm hlx hm hp1 hq1
  go_wp2_with fail
  refine wp_region_held_drew (S := fun w' => w'.heap[w.heap.size]? = some (.cells #[.string k, .int .i64 g, .slice A n c] 24) ∧ w'.heap[w.heap.size + 1]? = some (.cells #[.string k', .int .i64 g', .slice A' n' c'] 24)) (by kernel_rfl) ?_ (fun hHeld => ?_)
  · exact HP1.out
  refine takesH [0, 1, 2, 3, 4, 5, 6, 7] ?_
  repeat
    refine takesH_one (v := ?_) ?_ ?_
    rotate_left
    · first | (refine Or.inr ⟨by rfl, ?_⟩; with_reducible rfl) | (refine Or.inl ⟨by rfl, ?_⟩; intro wx hSw; (try dsimp only at hSw); first | (go_simp; first | done | with_reducible rfl) | (obtain ⟨_, _, _⟩ := PtAt.of hSw.1; obtain ⟨_, _, _⟩ := PtAt.of hSw.2; go_simp; first | done | with_reducible rfl))
    try simp only [Act.put, List.getElem_toArray, List.getElem_cons_succ, List.getElem_cons_zero, List.setIfInBounds_toArray, List.set_cons_zero, List.set_cons_succ]
  refine takesH_nil ?_
  refine wpAnyH_ready (rs := [8]) (by kernel_rfl) (by simp) (AllReadyH.cons rfl (fun K hK => ?_) AllReadyH.nil)
  go_simp
  refine (copyrows_any A1 m c1 w1.heap.size M _ (HLM.out.below (Below.refl _ _).drew) (Nat.le_refl _) HM1.out HMF.out).mono ?_
  rintro e w2 ⟨v, M2, rfl, hM2, hfr⟩
  obtain ⟨A2, m2, c2, rfl⟩ : ∃ A' n' c', v = .slice A' n' c' := by
    obtain ⟨A', c', e, _⟩ := own_slice hfr.cur.own
    exact ⟨A', _, c', e⟩
  have hb2 := next (w := w1) (w1 := w1.drew) ((Below.refl w1.heap.size w1).drew) hfr.below
  have hp2 := And.intro ((hb2.block w.heap.size (by have := HS1.out; omega)).trans HP1.out.1) ((hb2.block (w.heap.size + 1) (by have := HS1.out; omega)).trans HP1.out.2)
  have hq2 := (hb2.block (w.heap.size + 2) (by have := HS1.out; omega)).trans HQ1.out
  have z0 := cell_at (i := 0) hq2 rfl
  have z1 := cell_at (i := 1) hq2 rfl
  have z2 := cell_at (i := 2) hq2 rfl
  have y0 := thawed_at (i := 0) hq2
  have y1 := thawed_at (i := 1) hq2
  have y2 := thawed_at (i := 2) hq2
  have m9 := set3_block (q := w.heap.size + 1 + 1) hq2 (.string k) (.int .i64 (max g g')) (.slice A2 m2 c2)
  have k9 := kept_set3 (w := w2) (w.heap.size + 1 + 1) (.string k) (.int .i64 (max g g')) (.slice A2 m2 c2)
  have hfr9 := (hfr.lower (w := w) (next HBW.out ((Below.refl w1.heap.size w1).drew))).kept k9 (e := 24) (fun j hj => by subst hj; exact ⟨by omega, _, hq2⟩) (by decide) (by decide)
  have HP2 := Lib.hid hp2
  have HP9 := Lib.hid (And.intro ((k9.block w.heap.size (Array.getElem?_eq_some_iff.1 hp2.1).1 (by omega)).trans hp2.1) ((k9.block (w.heap.size + 1) (Array.getElem?_eq_some_iff.1 hp2.2).1 (by omega)).trans hp2.2))
  have HM9 := Lib.hid m9
  have HFR := Lib.hid hfr9
  have HR2 := Lib.hid hM2
  clear hfr hfr9 hM2 hb2 hp2 hq2 m9 k9
  try go_wp2_with fail
  refine hK.out _ _ ?_ (fun hHeld => ?_)
  · exact HP2.out
  clear hK K
  try simp only [Act.put, List.getElem_toArray, List.getElem_cons_succ, List.getElem_cons_zero, List.setIfInBounds_toArray, List.set_cons_zero, List.set_cons_succ]
  refine takesH [9] ?_
  repeat
    refine takesH_one (v := ?_) ?_ ?_
    rotate_left
    · first | (refine Or.inr ⟨by rfl, ?_⟩; with_reducible rfl) | (refine Or.inl ⟨by rfl, ?_⟩; intro wx hSw; (try dsimp only at hSw); first | (go_simp; first | done | with_reducible rfl))
    try simp only [Act.put, List.getElem_toArray, List.getElem_cons_succ, List.getElem_cons_zero, List.setIfInBounds_toArray, List.set_cons_zero, List.set_cons_succ]
  refine takesH_nil ?_
  refine wpAnyH_ready (rs := [10]) (by kernel_rfl) (by simp) (AllReadyH.cons rfl (fun K hK => ?_) AllReadyH.nil)
  go_simp
  refine hK.out _ _ ?_ (fun hHeld => ?_)
  · exact HP9.out
  clear hK K
  try simp only [Act.put, List.getElem_toArray, List.getElem_cons_succ, List.getElem_cons_zero, List.setIfInBounds_toArray, List.set_cons_zero, List.set_cons_succ]
  refine takesH [11] ?_
  repeat
    refine takesH_one (v := ?_) ?_ ?_
    rotate_left
    · first | (refine Or.inr ⟨by rfl, ?_⟩; with_reducible rfl) | (refine Or.inl ⟨by rfl, ?_⟩; intro wx hSw; (try dsimp only at hSw); first | (go_simp; first | done | with_reducible rfl))
    try simp only [Act.put, List.getElem_toArray, List.getElem_cons_succ, List.getElem_cons_zero, List.setIfInBounds_toArray, List.set_cons_zero, List.set_cons_succ]
  refine takesH_nil ?_
  refine wpAnyH_done (by kernel_rfl) ?_ _
  generalize hw9 : (((w2.setCell ⟨w.heap.size + 1 + 1, 0, none⟩ (.string k)).setCell ⟨w.heap.size + 1 + 1, 1, none⟩ (.int .i64 (max g g'))).setCell ⟨w.heap.size + 1 + 1, 2, none⟩ (.slice A2 m2 c2)) = w9 at HM9 HFR HP9 hHeld ⊢
  clear hw9 z0 z1 z2 y0 y1 y2
  go_wp2
  have q0 := cell_at (i := 0) HM9.out rfl
  have q1 := cell_at (i := 1) HM9.out rfl
  have q2 := cell_at (i := 2) HM9.out rfl
  refine bodyPost_ret (v := .tuple #[.agg #[.string k, .int .i64 (max g g'), .slice A2 m2 c2], .bool true]) ?_ rfl ?_
  · simp [results, Try.results15, go_sem, q0, q1, q2]
  · exact ⟨M2, A2, m2, c2, rfl, HR2.out.trans HM.out, HFR.out⟩
set_option maxRecDepth 8000 in
set_option maxHeartbeats 8000000 in
/-- Two partitions joined: nothing, where there is no room. -/
theorem pjoin_over (k k' : ByteArray) (g g' : Int) (A A' : Option Addr) (n n' c c' B B' : Nat) (L K : List RA) (w : World) (h : Lies w B A n c L) (h' : Lies w B' A' n' c' K) (hB : B ≤ w.heap.size) (hB' : B' ≤ w.heap.size) (hn : n + n' ≤ 1000)
    (hu : (Pa.mk k g (ros L)).Up) (hu' : (Pa.mk k' g' (ros K)).Up) (ht : tot L + tot K ≤ 1000) (X : List Ro) (hX : mrgR (ros L) (ros K) = X) (hif : 100 < X.length) :
    Calls Try.prog 15 #[.agg #[.string k, .int .i64 g, .slice A n c], .agg #[.string k', .int .i64 g', .slice A' n' c']] w fun e w' => e = .returned (.tuple #[.agg #[.string ⟨#[]⟩, .int .i64 0, .slice none 0 0], .bool false]) ∧ Below w.heap.size w w' := by
  have bz := (((Below.refl w.heap.size w).alloc (Nat.le_refl _) (.cells #[.string k, .int .i64 g, .slice A n c] 24)).alloc (by simp) (.cells #[.string k', .int .i64 g', .slice A' n' c'] 24)).alloc (by simp; omega) (.cells #[.string ⟨#[]⟩, .int .i64 0, .slice none 0 0] 24)
  have hz0 := new_at (new_at (heap_alloc_new w (.cells #[.string k, .int .i64 g, .slice A n c] 24)) (.cells #[.string k', .int .i64 g', .slice A' n' c'] 24)) (.cells #[.string ⟨#[]⟩, .int .i64 0, .slice none 0 0] 24)
  have hz1 := new_at (heap_alloc_new (w.alloc (.cells #[.string k, .int .i64 g, .slice A n c] 24)) (.cells #[.string k', .int .i64 g', .slice A' n' c'] 24)) (.cells #[.string ⟨#[]⟩, .int .i64 0, .slice none 0 0] 24)
  have hz2 := heap_alloc_new ((w.alloc (.cells #[.string k, .int .i64 g, .slice A n c] 24)).alloc (.cells #[.string k', .int .i64 g', .slice A' n' c'] 24)) (.cells #[.string ⟨#[]⟩, .int .i64 0, .slice none 0 0] 24)
  simp only [World.size_alloc] at hz1 hz2
  obtain ⟨V, hV⟩ : ∃ V, V = ((w.alloc (.cells #[.string k, .int .i64 g, .slice A n c] 24)).alloc (.cells #[.string k', .int .i64 g', .slice A' n' c'] 24)).alloc (.cells #[.string ⟨#[]⟩, .int .i64 0, .slice none 0 0] 24) := ⟨_, rfl⟩
  have hVs : V.heap.size = w.heap.size + 3 := by rw [hV]; simp
  rw [← hV] at bz hz0 hz1 hz2
  have hua : ∀ x ∈ L, x.ro.Up := fun x hx => hu.up x.ro (List.mem_map.2 ⟨x, hx, rfl⟩)
  have hub : ∀ x ∈ K, x.ro.Up := fun x hx => hu'.up x.ro (List.mem_map.2 ⟨x, hx, rfl⟩)
  have hXr : runK Ro.key Ro.join [] (ros L) (ros K) = X := by rw [← hX]; exact runK_mrg JR hu.rise hu.up hu'.rise hu'.up
  have hXl : X.length ≤ 1000 := by
    have h1 := mrgK_length (key := Ro.key) (jn := Ro.join) (ros K) (ros L)
    have h2 : X.length ≤ (ros L).length + (ros K).length := by rw [← hX]; exact h1
    have h3 := h.len; have h4 := h'.len
    rw [List.length_map, List.length_map] at h2
    omega
  have HH := Lib.hid (h.below (bz.mono hB)); have HH' := Lib.hid (h'.below (bz.mono hB')); have BZ := Lib.hid bz; have HZ0 := Lib.hid hz0; have HZ1 := Lib.hid hz1; have HZ2 := Lib.hid hz2; have HVS := Lib.hid hVs
  have HU := Lib.hid hua; have HU' := Lib.hid hub; have HT := Lib.hid ht; have HX := Lib.hid hXr; have HXL := Lib.hid hXl
  obtain ⟨_, _, _⟩ := PtAt.of hz0
  obtain ⟨_, _, _⟩ := PtAt.of hz1
  clear h h' bz hz0 hz1 hz2 hVs hu hu' hua hub ht hX hXr hXl
  go_enter Try.func15, Try.ntmps15
  go_wp2_with fail
  rw [← hV]
  clear hV
  go_wp2_with fail
  refine (mergeR_any A A' n n' c c' B B' L K _ HH.out HH'.out (by have := HVS.out; omega) (by have := HVS.out; omega) hn HU.out HU'.out HT.out).mono ?_
  rintro e w1 ⟨v, M, rfl, hM, hown⟩
  rw [HX.out] at hM
  obtain ⟨A1, c1, rfl, _, _, _, hlm⟩ := hown.slice
  have hlx : M.length = X.length := by rw [← hM, List.length_map]
  obtain ⟨m, hm⟩ : ∃ m, M.length = m := ⟨_, rfl⟩
  rw [hm] at hown hlm hlx ⊢
  have hp1 := And.intro ((hown.below.block w.heap.size (by have := HVS.out; omega)).trans HZ0.out) ((hown.below.block (w.heap.size + 1) (by have := HVS.out; omega)).trans HZ1.out)
  have hq1 := (hown.below.block (w.heap.size + 2) (by have := HVS.out; omega)).trans HZ2.out
  have HBW := Lib.hid (next BZ.out hown.below); have HS1 := Lib.hid (show w.heap.size + 3 ≤ w1.heap.size by have := hown.below.size; have := HVS.out; omega)
  have HM := Lib.hid hM; have HLM := Lib.hid hlm; have HP1 := Lib.hid hp1; have HQ1 := Lib.hid hq1; have HLX := Lib.hid hlx
  have HM1 := Lib.hid (show m ≤ 1000000 by have := HXL.out; omega)
  have d0 : decide ((100 : Int) < (m : Nat)) = true := by simp; omega
  have d1 : decide (100 < m) = true := by simp; omega
  have z0 := cell_at (i := 0) hq1 rfl
  have z1 := cell_at (i := 1) hq1 rfl
  have z2 := cell_at (i := 2) hq1 rfl
  have y0 := thawed_at (i := 0) hq1
  have y1 := thawed_at (i := 1) hq1
  have y2 := thawed_at (i := 2) hq1
  have m9 := set3_block (q := w.heap.size + 1 + 1) hq1 (.string ⟨#[]⟩) (.int .i64 0) (.slice none 0 0)
  have k9 := kept_set3 (w := w1) (w.heap.size + 1 + 1) (.string ⟨#[]⟩) (.int .i64 0) (.slice none 0 0)
  have HB9 := Lib.hid (HBW.out.trans (k9.below (B := w.heap.size) (fun k hk => by omega) (by have := HBW.out.size; omega)))
  clear hif hM hown hlm hlx hm hp1 hq1 k9
  go_wp2
  generalize hw9 : (((w1.setCell ⟨w.heap.size + 1 + 1, 0, none⟩ (.string ⟨#[]⟩)).setCell ⟨w.heap.size + 1 + 1, 1, none⟩ (.int .i64 0)).setCell ⟨w.heap.size + 1 + 1, 2, none⟩ (.slice none 0 0)) = w9 at m9 HB9 ⊢
  clear hw9 z0 z1 z2 y0 y1 y2
  have q0 := cell_at (i := 0) m9 rfl
  have q1 := cell_at (i := 1) m9 rfl
  have q2 := cell_at (i := 2) m9 rfl
  refine bodyPost_ret (v := .tuple #[.agg #[.string ⟨#[]⟩, .int .i64 0, .slice none 0 0], .bool false]) ?_ rfl ?_
  · simp [results, Try.results15, go_sem, q0, q1, q2]
  · exact ⟨rfl, HB9.out⟩
end Go.Proofs.Ytafbbojfifcncaa
set_option linter.unusedVariables false
set_option linter.unusedSimpArgs false
namespace Go.Proofs.Ytafbbojfifcncaa
open Go Go.RowKit

structure FewP (n : Nat) (L : List RA) : Prop where
  len : n ≤ 30
  few : FewR L
  cols : ∀ x ∈ L, x.ro.cols.length ≤ 20
theorem few_part {k : ByteArray} {n : Nat} {L : List RA} (h : fewPB k 30 (ros L) = true) (hl : L.length = n) : FewP n L := by
  unfold fewPB at h
  simp only [Bool.and_eq_true, decide_eq_true_iff, List.all_eq_true] at h
  obtain ⟨h1, h2, h3⟩ := h
  have hf : ∀ x ∈ L, x.ro.IsFew := fun x hx => few_of (h3 x.ro (List.mem_map.2 ⟨x, hx, rfl⟩))
  refine ⟨by rw [List.length_map] at h2; omega, fun x hx => ⟨(hf x hx).few, ?_, ?_⟩, fun x hx => (hf x hx).len⟩
  · have := (hf x hx).live; unfold maxLen; omega
  · have := (hf x hx).len; omega
structure OkP (k : ByteArray) (g : Int) (L : List RA) : Prop where
  up : (Pa.mk k g (ros L)).Up
  rows : ∀ x ∈ L, Rise x.ro.cols ∧ 0 ≤ x.ro.gone
  cols : ∀ x ∈ L, x.ro.cols.length ≤ 8
theorem ok_part {k : ByteArray} {g : Int} {L : List RA} (h : Pa.ok ⟨k, g, ros L⟩ = true) : OkP k g L := by
  have h1 := rowsB_each (Pa.ok_of h).2.2.2
  have hr : ∀ x ∈ L, x.ro.ok = true := fun x hx => h1 x.ro (List.mem_map.2 ⟨x, hx, rfl⟩)
  refine ⟨Pa.ok_up h, fun x hx => ⟨(up_of_ok (hr x hx)).rise, ?_⟩, fun x hx => ?_⟩
  · have h2 := hr x hx
    unfold Ro.ok stm at h2
    simp only [Bool.and_eq_true, decide_eq_true_iff] at h2
    exact h2.2.2.1.1
  · have h2 := hr x hx
    unfold Ro.ok at h2
    simp only [Bool.and_eq_true, decide_eq_true_iff] at h2
    exact h2.2.2.2.2.1
theorem len_ros {M L : List RA} (h : ros M = ros L) : M.length = L.length := by
  have := congrArg List.length h
  rwa [List.length_map, List.length_map] at this
theorem all_ros {M : List RA} {X : List Ro} {b : Nat} (h : ros M = X) (hb : ∀ r ∈ X, r.cols.length ≤ b) : ∀ x ∈ M, x.ro.cols.length ≤ b := fun x hx => hb x.ro (by rw [← h]; exact List.mem_map.2 ⟨x, hx, rfl⟩)
theorem cols_ros {L : List RA} {b : Nat} (hb : ∀ x ∈ L, x.ro.cols.length ≤ b) : ∀ r ∈ ros L, r.cols.length ≤ b := fun r hr => by
  obtain ⟨x, hx, rfl⟩ := List.mem_map.1 hr
  exact hb x hx
theorem tot_few {M : List RA} {b : Nat} (h : ∀ x ∈ M, x.ro.cols.length ≤ b) : tot M ≤ M.length * b := by
  induction M with
  | nil => exact Nat.zero_le _
  | cons x M ih =>
    rw [tot_cons, List.length_cons, Nat.add_mul]
    have h1 := h x (List.mem_cons_self ..)
    have h2 := ih fun y hy => h y (List.mem_cons_of_mem _ hy)
    omega
theorem seen_cols {g t : Int} {st : Bool} {l : Rows} {b : Nat} (h : ∀ r ∈ l, r.cols.length ≤ b) : ∀ y ∈ seenR g t st l, y.cols.length ≤ b := fun y hy => by
  unfold seenR at hy
  obtain ⟨r, hr, rfl⟩ := List.mem_map.1 hy
  exact Nat.le_trans (List.length_filter_le ..) (h r (List.mem_filter.1 hr).1)
theorem rowOf_cols {l : Rows} {k : ByteArray} {b : Nat} (h : ∀ r ∈ l, r.cols.length ≤ b) : (rowOf l k).cols.length ≤ b := by
  unfold rowOf
  cases e : getK Ro.key l k with
  | none => exact Nat.zero_le _
  | some x => exact h x (getK_some e).1
theorem mrg_few {La Lb : List RA} {ka kb : ByteArray} {ga gb : Int} (ha : OkP ka ga La) (hb : OkP kb gb Lb) : ∀ r ∈ mrgR (ros La) (ros Lb), r.cols.length ≤ 16 :=
  mrg_cols ha.up.rise hb.up.rise (fun a h => Nat.le_trans (cols_ros ha.cols a h) (by omega)) (fun b h => Nat.le_trans (cols_ros hb.cols b h) (by omega)) fun a h b h' => by
    have := cols_ros ha.cols a h; have := cols_ros hb.cols b h'; omega
theorem up_of_ros {k : ByteArray} {g : Int} {L M : List RA} (h : (Pa.mk k g (ros L)).Up) (e : ros M = ros L) : (Pa.mk k g (ros M)).Up := by rw [e]; exact h
theorem lies_one (v : World) (z : RA) {B : Nat} (h : RaIn v B z) (hB : B ≤ v.heap.size) : Lies (v.alloc (.cells #[.string z.ro.key, .string z.ro.live.s, .bool z.ro.live.d, .int .i64 z.ro.live.a, .int .i64 z.ro.live.e, .int .i64 z.ro.gone, .int .i64 z.ro.shade, .slice z.A z.ro.cols.length z.c] 36)) (v.alloc (.cells #[.string z.ro.key, .string z.ro.live.s, .bool z.ro.live.d, .int .i64 z.ro.live.a, .int .i64 z.ro.live.e, .int .i64 z.ro.gone, .int .i64 z.ro.shade, .slice z.A z.ro.cols.length z.c] 36)).heap.size (some ⟨v.heap.size, 0, none⟩) 1 1 [z] :=
  ⟨(RdR.laid v z).up (by simp), fun x hx => by rw [List.mem_singleton.1 hx]; exact (h.below ((Below.refl v.heap.size v).alloc (Nat.le_refl _) (.cells #[.string z.ro.key, .string z.ro.live.s, .bool z.ro.live.d, .int .i64 z.ro.live.a, .int .i64 z.ro.live.e, .int .i64 z.ro.gone, .int .i64 z.ro.shade, .slice z.A z.ro.cols.length z.c] 36) |>.mono hB)).up (by simp; omega), Nat.le_refl _⟩
theorem Lies.fresh {w w' : World} {B n c : Nat} {A : Option Addr} {L : List RA} (h : Lies w B A n c L) (hb : Below w.heap.size w w') (hB : B ≤ w.heap.size) : Lies w' w'.heap.size A n c L := (h.below (hb.mono hB)).up (Nat.le_trans hB hb.size)
end Go.Proofs.Ytafbbojfifcncaa
set_option linter.unusedVariables false
set_option linter.unusedSimpArgs false
namespace Go.Proofs.Ytafbbojfifcncaa
open Go Go.RowKit

theorem rsame_ra (x y : RA) (B B' : Nat) (w : World) (h : RaIn w B x) (h' : RaIn w B' y) (hB : B ≤ w.heap.size) (hB' : B' ≤ w.heap.size) (hn : x.ro.cols.length ≤ 1000) (hn' : y.ro.cols.length ≤ 1000) :
    Calls Try.prog 41 #[.agg #[.string x.ro.key, .string x.ro.live.s, .bool x.ro.live.d, .int .i64 x.ro.live.a, .int .i64 x.ro.live.e, .int .i64 x.ro.gone, .int .i64 x.ro.shade, .slice x.A x.ro.cols.length x.c], .agg #[.string y.ro.key, .string y.ro.live.s, .bool y.ro.live.d, .int .i64 y.ro.live.a, .int .i64 y.ro.live.e, .int .i64 y.ro.gone, .int .i64 y.ro.shade, .slice y.A y.ro.cols.length y.c]] w fun e w' => e = .returned (.bool (x.ro.same y.ro)) ∧ Below w.heap.size w w' :=
  rsamerow_any x.ro.key x.ro.live.s y.ro.key y.ro.live.s x.ro.live.d y.ro.live.d x.ro.live.a x.ro.live.e x.ro.gone x.ro.shade y.ro.live.a y.ro.live.e y.ro.gone y.ro.shade x.A y.A x.ro.cols.length x.c y.ro.cols.length y.c B B' x.ro.cols y.ro.cols w h.rd h'.rd hB hB' (by omega) (by omega)
set_option maxRecDepth 8000 in
set_option maxHeartbeats 4000000 in
theorem rsamerows_any (A A' : Option Addr) (n n' c c' B B' : Nat) (L M : List RA) (w : World) (h : Lies w B A n c L) (h' : Lies w B' A' n' c' M) (hB : B ≤ w.heap.size) (hB' : B' ≤ w.heap.size) (hn : n ≤ 1000000) (hn' : n' ≤ 1000000) (hf : ∀ x ∈ L, x.ro.cols.length ≤ 1000) (hf' : ∀ x ∈ M, x.ro.cols.length ≤ 1000) :
    Calls Try.prog 20 #[.slice A n c, .slice A' n' c'] w fun e w' => e = .returned (.bool (decide (ros L = ros M))) ∧ Below w.heap.size w w' := by
  have hl := h.len
  have hl' := h'.len
  obtain ⟨v, hv⟩ : ∃ v : Bool, decide (ros L = ros M) = v := ⟨_, rfl⟩
  rw [hv]
  have HV := Lib.hid hv
  clear hv
  by_cases hne : n = n'
  · subst hne
    have HL := Lib.hid hl
    have HL' := Lib.hid hl'
    have HH := Lib.hid h; have HH' := Lib.hid h'
    have HF := Lib.hid hf; have HF' := Lib.hid hf'
    clear hl hl' h h' hf hf'
    go_enter Try.func20, Try.ntmps20
    go_wp2
    go_loopw [5] (fun i wr => ∃ t : Nat, t ≤ n ∧ i = .int .i64 t ∧ ros (L.take t) = ros (M.take t) ∧ Below w.heap.size w wr) (fun i _ => n - (intOf i).toNat)
    case atStart => exact ⟨0, Nat.zero_le _, rfl, rfl, Below.refl _ _⟩
    case round =>
      obtain ⟨t, ht, rfl, hz, hb⟩ := hrel
      have HZ := Lib.hid hz; have HB := Lib.hid hb
      clear hz hb
      by_cases hlt : t < n
      · have i1 : (t : Int) < n := by omega
        have i0 : (0 : Int) ≤ t := by omega
        have htl : t < L.length := by rw [HL.out]; exact hlt
        have htl' : t < M.length := by rw [HL'.out]; exact hlt
        obtain ⟨g, o, rfl, hgb⟩ := HH.out.rd.ex (by omega)
        obtain ⟨g', o', rfl, hgb'⟩ := HH'.out.rd.ex (by omega)
        have hrow := (HH.out.below (HB.out.mono hB)).rd.row htl
        have hrow' := (HH'.out.below (HB.out.mono hB')).rd.row htl'
        have hin := (HH.out.below (HB.out.mono hB)).held L[t] (List.getElem_mem htl)
        have hin' := (HH'.out.below (HB.out.mono hB')).held M[t] (List.getElem_mem htl')
        have hcl := HF.out L[t] (List.getElem_mem htl)
        have hcl' := HF'.out M[t] (List.getElem_mem htl')
        have htk := ros_take htl
        have htk' := ros_take htl'
        have hne : L[t].ro ≠ M[t].ro → v = false := fun hh => by
          rw [← HV.out, decide_eq_false_iff_not]
          intro he
          refine hh ?_
          have h1 : (ros L)[t]? = (ros M)[t]? := by rw [he]
          rw [List.getElem?_map, List.getElem?_map, List.getElem?_eq_getElem htl, List.getElem?_eq_getElem htl'] at h1
          injection h1
        obtain ⟨x, hx⟩ : ∃ x, L[t] = x := ⟨_, rfl⟩
        obtain ⟨y, hy⟩ : ∃ y, M[t] = y := ⟨_, rfl⟩
        rw [hx] at hrow hin hcl htk hne
        rw [hy] at hrow' hin' hcl' htk' hne
        obtain ⟨u, hu⟩ : ∃ u, x.ro.same y.ro = u := ⟨_, rfl⟩
        have HRX := Lib.hid hrow; have HRY := Lib.hid hrow'; have HU := Lib.hid hu; have HTK := Lib.hid htk; have HTK' := Lib.hid htk'; have HNE := Lib.hid hne
        have HIN := Lib.hid hin; have HIN' := Lib.hid hin'; have HCL := Lib.hid hcl; have HCL' := Lib.hid hcl'
        have HGW : Hid (g < wr.heap.size) := Lib.hid (by have := HB.out.size; omega)
        have HGW' : Hid (g' < wr.heap.size) := Lib.hid (by have := HB.out.size; omega)
        have HUB : Hid (B ≤ wr.heap.size) := Lib.hid (Nat.le_trans hB HB.out.size)
        have HUB' : Hid (B' ≤ wr.heap.size) := Lib.hid (Nat.le_trans hB' HB.out.size)
        clear hrow hrow' hu htk htk' hne hin hin' hcl hcl' hx hy
        go_wp2_with fail
        refine wp_region_held_drew (S := fun w' => Below wr.heap.size wr w') (by kernel_rfl) ?_ (fun hHeld => ?_)
        · exact (Below.refl _ _).drew
        refine takesH [0, 1, 2, 3, 4, 5, 6, 7] ?_
        repeat
          refine takesH_one (v := ?_) ?_ ?_
          rotate_left
          · first | (refine Or.inr ⟨by rfl, ?_⟩; with_reducible rfl) | (refine Or.inl ⟨by rfl, ?_⟩; intro wx hSw; (try dsimp only at hSw); first | (go_simp; first | done | with_reducible rfl) | (obtain ⟨_, _, _, _, _, _, _, _⟩ := HRX.out.below hSw HGW.out; go_simp; first | done | with_reducible rfl) | (obtain ⟨_, _, _, _, _, _, _, _⟩ := HRY.out.below hSw HGW'.out; go_simp; first | done | with_reducible rfl))
          try simp only [Act.put, List.getElem_toArray, List.getElem_cons_succ, List.getElem_cons_zero, List.setIfInBounds_toArray, List.set_cons_zero, List.set_cons_succ]
        refine takesH_nil ?_
        refine wpAnyH_ready (rs := [8]) (by kernel_rfl) (by simp) (AllReadyH.cons rfl (fun K hK => ?_) AllReadyH.nil)
        go_simp
        refine (rsame_ra x y B B' _ (HIN.out.below (hHeld.mono HUB.out)) (HIN'.out.below (hHeld.mono HUB'.out)) (Nat.le_trans HUB.out hHeld.size) (Nat.le_trans HUB'.out hHeld.size) HCL.out HCL'.out).mono ?_
        rintro e w1 ⟨rfl, b1⟩
        rw [HU.out]
        try go_wp2_with fail
        refine hK.out _ _ ?_ (fun hHeld => ?_)
        · exact next hHeld b1
        clear hK K
        try simp only [Act.put, List.getElem_toArray, List.getElem_cons_succ, List.getElem_cons_zero, List.setIfInBounds_toArray, List.set_cons_zero, List.set_cons_succ]
        refine takesH [9] ?_
        repeat
          refine takesH_one (v := ?_) ?_ ?_
          rotate_left
          · first | (refine Or.inr ⟨by rfl, ?_⟩; with_reducible rfl) | (refine Or.inl ⟨by rfl, ?_⟩; intro wx hSw; (try dsimp only at hSw); first | (go_simp; first | done | with_reducible rfl))
          try simp only [Act.put, List.getElem_toArray, List.getElem_cons_succ, List.getElem_cons_zero, List.setIfInBounds_toArray, List.set_cons_zero, List.set_cons_succ]
        refine takesH_nil ?_
        refine wpAnyH_done (by kernel_rfl) ?_ _
        cases u
        · have hv0 : v = false := HNE.out fun he => by have := (rosame_iff _ _).2 he; rw [HU.out] at this; cases this
          subst hv0
          go_wp2
          go_ret
          exact ⟨rfl, next HB.out hHeld⟩
        · go_wp2
          go_roundw
          case rel => exact ⟨t + 1, by omega, by go_num, by rw [HTK.out, HTK'.out, HZ.out, (rosame_iff _ _).1 HU.out], next HB.out hHeld⟩
          case measure => simp [intOf]; omega
      · obtain rfl : t = n := by omega
        have hf : v = true := by
          rw [← HV.out, decide_eq_true_iff]
          have := HZ.out
          rwa [List.take_of_length_le (by rw [HL.out]; exact Nat.le_refl _), List.take_of_length_le (by rw [HL'.out]; exact Nat.le_refl _)] at this
        subst hf
        go_wp2
        go_ret
        exact ⟨rfl, HB.out⟩
  · have hf : v = false := by
      rw [← HV.out, decide_eq_false_iff_not]
      intro he
      have := congrArg List.length he
      rw [List.length_map, List.length_map, hl, hl'] at this
      exact hne this
    subst hf
    have hb : ((n : Int) != n') = true := by rw [bne_iff_ne]; omega
    go_enter Try.func20, Try.ntmps20
    go_wp2
    go_ret
    exact ⟨rfl, Below.refl _ _⟩
set_option maxRecDepth 8000 in
set_option maxHeartbeats 4000000 in
theorem rpsame_any (k k' : ByteArray) (g g' : Int) (A A' : Option Addr) (n n' c c' B B' : Nat) (L M : List RA) (w : World) (h : Lies w B A n c L) (h' : Lies w B' A' n' c' M) (hB : B ≤ w.heap.size) (hB' : B' ≤ w.heap.size) (hn : n ≤ 1000000) (hn' : n' ≤ 1000000) (hf : ∀ x ∈ L, x.ro.cols.length ≤ 1000) (hf' : ∀ x ∈ M, x.ro.cols.length ≤ 1000) :
    Calls Try.prog 13 #[.agg #[.string k, .int .i64 g, .slice A n c], .agg #[.string k', .int .i64 g', .slice A' n' c']] w fun e w' => e = .returned (.bool (psame k g (ros L) k' g' (ros M))) ∧ Below w.heap.size w w' := by
  obtain ⟨r, hrr⟩ : ∃ r, psame k g (ros L) k' g' (ros M) = r := ⟨_, rfl⟩
  rw [hrr]
  have bz := ((Below.refl w.heap.size w).alloc (Nat.le_refl _) (.cells #[.string k, .int .i64 g, .slice A n c] 24)).alloc (by simp) (.cells #[.string k', .int .i64 g', .slice A' n' c'] 24)
  have HL := Lib.hid (h.below (bz.mono hB)); have HL' := Lib.hid (h'.below (bz.mono hB')); have BZ := Lib.hid bz; have HR := Lib.hid hrr; have HF := Lib.hid hf; have HF' := Lib.hid hf'
  clear hrr bz h h' hf hf'
  unfold psame at HR
  cases h1 : (k.toList == k'.toList)
  · have hv : r = false := by rw [← HR.out, h1]; rfl
    subst hv
    go_enter Try.func13, Try.ntmps13
    go_wp2
    go_ret
    exact ⟨rfl, BZ.out⟩
  · cases h3 : (g == g')
    · have hv : r = false := by rw [← HR.out, h1, h3]; rfl
      subst hv
      go_enter Try.func13, Try.ntmps13
      go_wp2
      go_ret
      exact ⟨rfl, BZ.out⟩
    · have hv : decide (ros L = ros M) = r := by rw [← HR.out, h1, h3]; simp
      have HV := Lib.hid hv
      clear hv
      go_enter Try.func13, Try.ntmps13
      go_wp2_with fail
      refine (rsamerows_any A A' n n' c c' B B' L M _ HL.out HL'.out ?hb ?hb' hn hn' HF.out HF'.out).mono ?_
      case hb => simp; omega
      case hb' => simp; omega
      rintro e w2 ⟨rfl, b2⟩
      rw [HV.out]
      go_wp2
      go_ret
      exact ⟨rfl, next BZ.out b2⟩
end Go.Proofs.Ytafbbojfifcncaa
set_option linter.unusedVariables false
set_option linter.unusedSimpArgs false
namespace Go.Proofs.Ytafbbojfifcncaa
open Go Go.RowKit

/-- The greatest stamp. -/
def stampC (m : Int) (l : Cols) : Int := l.foldl (fun m c => max m c.2.a) m
def stampR (m : Int) (l : List Ro) : Int := l.foldl (fun m r => stampC (max (max (max m r.live.a) r.gone) r.shade) r.cols) m
theorem stampC_snoc (m : Int) (l : Cols) (x : ByteArray × Ce) : stampC m (l ++ [x]) = max (stampC m l) x.2.a := by
  unfold stampC
  rw [List.foldl_append]
  rfl
theorem stampR_snoc (m : Int) (l : List Ro) (r : Ro) : stampR m (l ++ [r]) = stampC (max (max (max (stampR m l) r.live.a) r.gone) r.shade) r.cols := by
  unfold stampR
  rw [List.foldl_append]
  rfl
theorem run_max4 (w : World) (a b c d : Int) : (Builtin.max_ #[3, 3, 3, 3] 3 #[.int .i64 a, .int .i64 b, .int .i64 c, .int .i64 d]).run Try.prog w = .ok (.int .i64 (max (max (max a b) c) d)) w := by
  simp [Builtin.max_, Builtin.max2, List.foldlM]
  omega
set_option maxRecDepth 8000 in
set_option maxHeartbeats 8000000 in
theorem pstampall_any (k : ByteArray) (g : Int) (A : Option Addr) (n c B : Nat) (L : List RA) (w : World) (h : Lies w B A n c L) (hB : B ≤ w.heap.size) (hn : n ≤ 1000000) (hf : ∀ x ∈ L, x.ro.cols.length ≤ 1000) :
    Calls Try.prog 23 #[.agg #[.string k, .int .i64 g, .slice A n c]] w fun e w' => e = .returned (.int .i64 (stampR g (ros L))) ∧ Below w.heap.size w w' := by
  have hl := h.len
  have bz := (Below.refl w.heap.size w).alloc (Nat.le_refl _) (.cells #[.string k, .int .i64 g, .slice A n c] 24)
  have hz0 := heap_alloc_new w (.cells #[.string k, .int .i64 g, .slice A n c] 24)
  obtain ⟨V, hV⟩ : ∃ V, V = w.alloc (.cells #[.string k, .int .i64 g, .slice A n c] 24) := ⟨_, rfl⟩
  have hVs : V.heap.size = w.heap.size + 1 := by rw [hV]; simp
  rw [← hV] at bz hz0
  have HL := Lib.hid hl; have HH := Lib.hid h; have HF := Lib.hid hf; have BZ := Lib.hid bz; have HVS := Lib.hid hVs
  obtain ⟨_, _, _⟩ := PtAt.of hz0
  clear hl h hf bz hz0 hVs
  go_enter Try.func23, Try.ntmps23
  go_wp2_with fail
  rw [← hV]
  clear hV
  go_wp2_with fail
  go_loopw [13, 3] (fun i v wr => ∃ (t : Nat), t ≤ n ∧ i = .int .i64 t ∧ v = .int .i64 (stampR g (ros (L.take t))) ∧ Below w.heap.size w wr) (fun i _ _ => n - (intOf i).toNat)
  case atStart => exact ⟨0, Nat.zero_le _, rfl, rfl, BZ.out⟩
  case round =>
    obtain ⟨t, ht, rfl, rfl, hb⟩ := hrel
    have HB := Lib.hid hb
    clear hb
    obtain ⟨s, hs⟩ : ∃ s, stampR g (ros (L.take t)) = s := ⟨_, rfl⟩
    rw [hs]
    have HS := Lib.hid hs
    clear hs
    by_cases hlt : t < n
    · have i1 : (t : Int) < n := by omega
      have i0 : (0 : Int) ≤ t := by omega
      have htl : t < L.length := by rw [HL.out]; exact hlt
      obtain ⟨g0, o0, rfl, hgb⟩ := HH.out.rd.ex (by omega)
      have hlies := HH.out.below (HB.out.mono hB)
      have hrow := hlies.rd.row htl
      have hin := hlies.held L[t] (List.getElem_mem htl)
      have hcl := HF.out L[t] (List.getElem_mem htl)
      have htk := ros_take htl
      obtain ⟨x, hx⟩ : ∃ x, L[t] = x := ⟨_, rfl⟩
      rw [hx] at hrow hin hcl htk
      have ha := (Below.refl wr.heap.size wr).alloc (Nat.le_refl _) (.cells #[.string x.ro.key, .string x.ro.live.s, .bool x.ro.live.d, .int .i64 x.ro.live.a, .int .i64 x.ro.live.e, .int .i64 x.ro.gone, .int .i64 x.ro.shade, .slice x.A x.ro.cols.length x.c] 36)
      have hin2 := hin.below (ha.mono (by have := HB.out.size; omega))
      have hbk := BlkAt.of (heap_alloc_new wr (.cells #[.string x.ro.key, .string x.ro.live.s, .bool x.ro.live.d, .int .i64 x.ro.live.a, .int .i64 x.ro.live.e, .int .i64 x.ro.gone, .int .i64 x.ro.shade, .slice x.A x.ro.cols.length x.c] 36))
      have hbu := HB.out.trans (ha.mono HB.out.size)
      obtain ⟨_, _, _, _, _, _, _, hr7⟩ := hrow
      obtain ⟨U, hU⟩ : ∃ U, U = wr.alloc (.cells #[.string x.ro.key, .string x.ro.live.s, .bool x.ro.live.d, .int .i64 x.ro.live.a, .int .i64 x.ro.live.e, .int .i64 x.ro.gone, .int .i64 x.ro.shade, .slice x.A x.ro.cols.length x.c] 36) := ⟨_, rfl⟩
      rw [← hU] at hin2 hbk hbu
      obtain ⟨q, hq⟩ : ∃ q, x.ro.cols.length = q := ⟨_, rfl⟩
      obtain ⟨Ax, hAx⟩ : ∃ Ax, x.A = Ax := ⟨_, rfl⟩
      have hrd := hin2.rd
      rw [hq] at hcl
      rw [hq, hAx] at hrd hU
      obtain ⟨_, _, _, _, _, _, _, hb7⟩ := hbk
      rw [hq, hAx] at hb7 hr7
      have hmx := fun wx : World => run_max4 wx s x.ro.live.a x.ro.gone x.ro.shade
      have HUB := Lib.hid (show B ≤ U.heap.size by have := hbu.size; omega)
      have HTK := Lib.hid htk; have HBU := Lib.hid hbu; have HRD := Lib.hid hrd; have HQ := Lib.hid hq
      clear hlies hin htk hx ha hin2 hbu hrd hq hAx
      obtain ⟨z, hz⟩ : ∃ z, max (max (max s x.ro.live.a) x.ro.gone) x.ro.shade = z := ⟨_, rfl⟩
      simp only [hz] at hmx
      have HZ := Lib.hid hz
      clear hz
      go_wp2_with fail
      rw [← hU]
      clear hU hmx
      go_loopw [29, 3] (fun i v wi => ∃ (u : Nat), u ≤ q ∧ i = .int .i64 u ∧ v = .int .i64 (stampC z (x.ro.cols.take u)) ∧ Below U.heap.size U wi) (fun i _ _ => q - (intOf i).toNat)
      case atStart => exact ⟨0, Nat.zero_le _, rfl, rfl, Below.refl _ _⟩
      case round =>
        obtain ⟨u, hu, rfl, rfl, hb2⟩ := hrel
        have HB2 := Lib.hid hb2
        clear hb2
        obtain ⟨y, hy⟩ : ∃ y, stampC z (x.ro.cols.take u) = y := ⟨_, rfl⟩
        rw [hy]
        have HY := Lib.hid hy
        clear hy
        by_cases hlu : u < q
        · have i3 : (u : Int) < q := by omega
          have i4 : (0 : Int) ≤ u := by omega
          have hul : u < x.ro.cols.length := by rw [HQ.out]; exact hlu
          obtain ⟨g1, o1, rfl, hgb1, hc⟩ := (HRD.out.below (HB2.out.mono HUB.out)).2 (by omega)
          obtain ⟨e0, e1, e2, e3, e4⟩ := hc u hul
          have htk2 : x.ro.cols.take (u + 1) = x.ro.cols.take u ++ [x.ro.cols[u]] := List.take_succ_eq_append_getElem hul
          obtain ⟨⟨cm, ⟨cs, cd, ca, ce⟩⟩, hcx⟩ : ∃ y, x.ro.cols[u] = y := ⟨_, rfl⟩
          rw [hcx] at e0 e1 e2 e3 e4 htk2
          simp only at e0 e1 e2 e3 e4
          have hac := HB2.out.alloc HB2.out.size (.cells #[.string cm, .string cs, .bool cd, .int .i64 ca, .int .i64 ce] 66)
          have HAC := Lib.hid hac; have HT2 := Lib.hid htk2
          clear hc hcx hac htk2
          go_wp2
          go_roundw
          case rel => exact ⟨u + 1, by omega, by go_num, by rw [HT2.out, stampC_snoc, HY.out], HAC.out⟩
          case measure => simp [intOf]; omega
        · obtain rfl : u = q := by omega
          have hv : y = stampR g (ros (L.take (t + 1))) := by rw [HTK.out, stampR_snoc, HS.out, HZ.out, ← HY.out, List.take_of_length_le (by rw [HQ.out]; exact Nat.le_refl _)]
          have HV := Lib.hid hv
          clear hv
          have hb3 := HBU.out.trans (HB2.out.mono HBU.out.size)
          have HB3 := Lib.hid hb3
          clear hb3
          go_wp2
          go_roundw
          case rel => exact ⟨t + 1, by omega, by go_num, by rw [HV.out], HB3.out⟩
          case measure => simp [intOf]; omega
    · obtain rfl : t = n := by omega
      have hv : stampR g (ros L) = s := by rw [← HS.out, List.take_of_length_le (by rw [HL.out]; exact Nat.le_refl _)]
      have HV := Lib.hid hv
      clear hv
      go_wp2
      go_ret
      refine ⟨?_, HB.out⟩
      rw [HV.out]
      rfl
end Go.Proofs.Ytafbbojfifcncaa
set_option linter.unusedVariables false
set_option linter.unusedSimpArgs false
namespace Go.Proofs.Ytafbbojfifcncaa
open Go Go.RowKit

set_option maxRecDepth 8000 in
set_option maxHeartbeats 8000000 in
theorem rpstamp_any (k : ByteArray) (g : Int) (A : Option Addr) (n c B : Nat) (L : List RA) (w : World) (h : Lies w B A n c L) (hB : B ≤ w.heap.size) (hn : n ≤ 1000000) (hf : ∀ x ∈ L, x.ro.cols.length ≤ 1000) :
    Calls Try.prog 24 #[.agg #[.string k, .int .i64 g, .slice A n c]] w fun e w' => e = .returned (.int .i64 (stampR g (ros L))) ∧ Below w.heap.size w w' := by
  have hl := h.len
  have bz := (Below.refl w.heap.size w).alloc (Nat.le_refl _) (.cells #[.string k, .int .i64 g, .slice A n c] 24)
  have hz0 := heap_alloc_new w (.cells #[.string k, .int .i64 g, .slice A n c] 24)
  obtain ⟨V, hV⟩ : ∃ V, V = w.alloc (.cells #[.string k, .int .i64 g, .slice A n c] 24) := ⟨_, rfl⟩
  have hVs : V.heap.size = w.heap.size + 1 := by rw [hV]; simp
  rw [← hV] at bz hz0
  have HL := Lib.hid hl; have HH := Lib.hid h; have HF := Lib.hid hf; have BZ := Lib.hid bz; have HVS := Lib.hid hVs; have HZ0 := Lib.hid hz0
  obtain ⟨_, _, _⟩ := PtAt.of hz0
  clear hl h hf bz hz0 hVs
  go_enter Try.func24, Try.ntmps24
  go_wp2_with fail
  rw [← hV]
  clear hV
  go_wp2_with fail
  go_loopw [4, 3] (fun i v wr => ∃ (t : Nat), t ≤ n ∧ i = .int .i64 t ∧ v = .int .i64 (stampR g (ros (L.take t))) ∧ Below V.heap.size V wr) (fun i _ _ => n - (intOf i).toNat)
  case atStart => exact ⟨0, Nat.zero_le _, rfl, rfl, Below.refl _ _⟩
  case round =>
    obtain ⟨t, ht, rfl, rfl, hb⟩ := hrel
    obtain ⟨_, _, _⟩ := PtAt.of ((hb.block w.heap.size (by have := HVS.out; omega)).trans HZ0.out)
    have HP := Lib.hid hb
    have HB := Lib.hid (next BZ.out hb)
    clear hb
    obtain ⟨s, hs⟩ : ∃ s, stampR g (ros (L.take t)) = s := ⟨_, rfl⟩
    rw [hs]
    have HS := Lib.hid hs
    clear hs
    by_cases hlt : t < n
    · have i1 : (t : Int) < n := by omega
      have i0 : (0 : Int) ≤ t := by omega
      have htl : t < L.length := by rw [HL.out]; exact hlt
      obtain ⟨g0, o0, rfl, hgb⟩ := HH.out.rd.ex (by omega)
      have hlies := HH.out.below (HB.out.mono hB)
      have hrow := hlies.rd.row htl
      have hin := hlies.held L[t] (List.getElem_mem htl)
      have hcl := HF.out L[t] (List.getElem_mem htl)
      have htk := ros_take htl
      obtain ⟨x, hx⟩ : ∃ x, L[t] = x := ⟨_, rfl⟩
      rw [hx] at hrow hin hcl htk
      have ha := (Below.refl wr.heap.size wr).alloc (Nat.le_refl _) (.cells #[.string x.ro.key, .string x.ro.live.s, .bool x.ro.live.d, .int .i64 x.ro.live.a, .int .i64 x.ro.live.e, .int .i64 x.ro.gone, .int .i64 x.ro.shade, .slice x.A x.ro.cols.length x.c] 36)
      have hin2 := hin.below (ha.mono (by have := HB.out.size; omega))
      have hbk := BlkAt.of (heap_alloc_new wr (.cells #[.string x.ro.key, .string x.ro.live.s, .bool x.ro.live.d, .int .i64 x.ro.live.a, .int .i64 x.ro.live.e, .int .i64 x.ro.gone, .int .i64 x.ro.shade, .slice x.A x.ro.cols.length x.c] 36))
      have hbu := HP.out.trans (ha.mono HP.out.size)
      obtain ⟨_, _, _, _, _, _, _, hr7⟩ := hrow
      obtain ⟨U, hU⟩ : ∃ U, U = wr.alloc (.cells #[.string x.ro.key, .string x.ro.live.s, .bool x.ro.live.d, .int .i64 x.ro.live.a, .int .i64 x.ro.live.e, .int .i64 x.ro.gone, .int .i64 x.ro.shade, .slice x.A x.ro.cols.length x.c] 36) := ⟨_, rfl⟩
      have hus : U.heap.size = wr.heap.size + 1 := by rw [hU]; simp
      have HUS := Lib.hid hus
      clear hus
      rw [← hU] at hin2 hbk hbu
      obtain ⟨q, hq⟩ : ∃ q, x.ro.cols.length = q := ⟨_, rfl⟩
      obtain ⟨Ax, hAx⟩ : ∃ Ax, x.A = Ax := ⟨_, rfl⟩
      have hrd := hin2.rd
      rw [hq] at hcl
      rw [hq, hAx] at hrd hU
      obtain ⟨_, _, _, _, _, _, _, hb7⟩ := hbk
      rw [hq, hAx] at hb7 hr7
      have HB7 := Lib.hid hb7
      have hmx := fun wx : World => run_max4 wx s x.ro.live.a x.ro.gone x.ro.shade
      have HUB := Lib.hid (show B ≤ U.heap.size by have := hbu.size; have := HVS.out; omega)
      have HTK := Lib.hid htk; have HBU := Lib.hid hbu; have HRD := Lib.hid hrd; have HQ := Lib.hid hq
      clear hlies hin htk hx ha hin2 hbu hrd hq hAx
      obtain ⟨z, hz⟩ : ∃ z, max (max (max s x.ro.live.a) x.ro.gone) x.ro.shade = z := ⟨_, rfl⟩
      simp only [hz] at hmx
      have HZ := Lib.hid hz
      clear hz
      go_wp2_with fail
      rw [← hU]
      clear hU hmx
      obtain ⟨VV, hVV⟩ : ∃ V, V = wr := ⟨_, rfl⟩
      subst hVV
      go_loopw [6, 3] (fun i v wi => ∃ (u : Nat), u ≤ q ∧ i = .int .i64 u ∧ v = .int .i64 (stampC z (x.ro.cols.take u)) ∧ Below U.heap.size U wi) (fun i _ _ => q - (intOf i).toNat)
      case atStart => exact ⟨0, Nat.zero_le _, rfl, rfl, Below.refl _ _⟩
      case round =>
        obtain ⟨u, hu, rfl, rfl, hb2⟩ := hrel
        have hk7 := (hb2.cell (p := ⟨VV.heap.size, 7, none⟩) (show VV.heap.size < U.heap.size by have := HUS.out; omega)).trans HB7.out
        have HB2 := Lib.hid hb2
        clear hb2
        obtain ⟨y, hy⟩ : ∃ y, stampC z (x.ro.cols.take u) = y := ⟨_, rfl⟩
        rw [hy]
        have HY := Lib.hid hy
        clear hy
        by_cases hlu : u < q
        · have i3 : (u : Int) < q := by omega
          have i4 : (0 : Int) ≤ u := by omega
          have hul : u < x.ro.cols.length := by rw [HQ.out]; exact hlu
          obtain ⟨g1, o1, rfl, hgb1, hc⟩ := (HRD.out.below (HB2.out.mono HUB.out)).2 (by omega)
          obtain ⟨e0, e1, e2, e3, e4⟩ := hc u hul
          have htk2 : x.ro.cols.take (u + 1) = x.ro.cols.take u ++ [x.ro.cols[u]] := List.take_succ_eq_append_getElem hul
          obtain ⟨⟨cm, ⟨cs, cd, ca, ce⟩⟩, hcx⟩ : ∃ y, x.ro.cols[u] = y := ⟨_, rfl⟩
          rw [hcx] at e0 e1 e2 e3 e4 htk2
          simp only at e0 e1 e2 e3 e4
          have HT2 := Lib.hid htk2
          clear hc hcx htk2
          go_wp2
          go_roundw
          case rel => exact ⟨u + 1, by omega, by go_num, by rw [HT2.out, stampC_snoc, HY.out], HB2.out⟩
          case measure => simp [intOf]; omega
        · obtain rfl : u = q := by omega
          have hv : y = stampR g (ros (L.take (t + 1))) := by rw [HTK.out, stampR_snoc, HS.out, HZ.out, ← HY.out, List.take_of_length_le (by rw [HQ.out]; exact Nat.le_refl _)]
          have HV := Lib.hid hv
          clear hv
          have hb3 := HBU.out.trans (HB2.out.mono HBU.out.size)
          have HB3 := Lib.hid hb3
          clear hb3
          go_wp2
          go_roundw
          case rel => exact ⟨t + 1, by omega, by go_num, by rw [HV.out], HB3.out⟩
          case measure => simp [intOf]; omega
    · obtain rfl : t = n := by omega
      have hv : stampR g (ros L) = s := by rw [← HS.out, List.take_of_length_le (by rw [HL.out]; exact Nat.le_refl _)]
      have HV := Lib.hid hv
      clear hv
      go_wp2
      go_ret
      refine ⟨?_, HB.out⟩
      rw [HV.out]
      rfl
end Go.Proofs.Ytafbbojfifcncaa
set_option linter.unusedVariables false
set_option linter.unusedSimpArgs false
namespace Go.Proofs.Ytafbbojfifcncaa
open Go Go.RowKit

set_option maxRecDepth 8000 in
set_option maxHeartbeats 4000000 in
theorem rprow_any (k key : ByteArray) (g : Int) (A : Option Addr) (n c B : Nat) (L : List RA) (w : World) (h : Lies w B A n c L) (hB : B ≤ w.heap.size) (hn : n ≤ 1000000) :
    Calls Try.prog 19 #[.agg #[.string k, .int .i64 g, .slice A n c], .string key] w fun e w' => ∃ z : RA, e = .returned (.tuple #[z.v, .bool (rowIs (ros L) key)]) ∧ z.ro = rowOf (ros L) key ∧ RaIn w' B z ∧ Below w.heap.size w w' := by
  have hl := h.len
  have bz := ((Below.refl w.heap.size w).alloc (Nat.le_refl _) (.cells #[.string k, .int .i64 g, .slice A n c] 24)).alloc (by simp) (.cells #[.string ⟨#[]⟩, .string ⟨#[]⟩, .bool false, .int .i64 0, .int .i64 0, .int .i64 0, .int .i64 0, .slice none 0 0] 36)
  have hz0 := new_at (heap_alloc_new w (.cells #[.string k, .int .i64 g, .slice A n c] 24)) (.cells #[.string ⟨#[]⟩, .string ⟨#[]⟩, .bool false, .int .i64 0, .int .i64 0, .int .i64 0, .int .i64 0, .slice none 0 0] 36)
  have hz1 := heap_alloc_new (w.alloc (.cells #[.string k, .int .i64 g, .slice A n c] 24)) (.cells #[.string ⟨#[]⟩, .string ⟨#[]⟩, .bool false, .int .i64 0, .int .i64 0, .int .i64 0, .int .i64 0, .slice none 0 0] 36)
  simp only [World.size_alloc] at hz1
  obtain ⟨V, hV⟩ : ∃ V, V = (w.alloc (.cells #[.string k, .int .i64 g, .slice A n c] 24)).alloc (.cells #[.string ⟨#[]⟩, .string ⟨#[]⟩, .bool false, .int .i64 0, .int .i64 0, .int .i64 0, .int .i64 0, .slice none 0 0] 36) := ⟨_, rfl⟩
  have hVs : V.heap.size = w.heap.size + 2 := by rw [hV]; simp
  rw [← hV] at bz hz0 hz1
  have HL := Lib.hid hl; have HH := Lib.hid (h.below (bz.mono hB)); have BZ := Lib.hid bz; have HZ0 := Lib.hid hz0; have HZ1 := Lib.hid hz1; have HVS := Lib.hid hVs
  clear hl h bz hz0 hz1 hVs
  go_enter Try.func19, Try.ntmps19
  go_wp2_with fail
  rw [← hV]
  clear hV
  go_wp2_with fail
  go_loopw [6] (fun i wr => ∃ t : Nat, t ≤ n ∧ i = .int .i64 t ∧ getK Ro.key (ros (L.drop t)) key = getK Ro.key (ros L) key ∧ wr = V) (fun i _ => n - (intOf i).toNat)
  case atStart => exact ⟨0, Nat.zero_le _, rfl, rfl, rfl⟩
  case round =>
    obtain ⟨t, ht, rfl, hg, rfl⟩ := hrel
    have HG := Lib.hid hg
    clear hg
    obtain ⟨_, _, _⟩ := PtAt.of HZ0.out
    by_cases hlt : t < n
    · have i1 : (t : Int) < n := by omega
      have i0 : (0 : Int) ≤ t := by omega
      have htl : t < L.length := by rw [HL.out]; exact hlt
      obtain ⟨g0, o0, rfl, hgb⟩ := HH.out.rd.ex (by omega)
      have hrow := HH.out.rd.row htl
      have hin := HH.out.held L[t] (List.getElem_mem htl)
      have hdr : ros (L.drop t) = L[t].ro :: ros (L.drop (t + 1)) := by rw [List.drop_eq_getElem_cons htl]; rfl
      obtain ⟨x, hx⟩ : ∃ x, L[t] = x := ⟨_, rfl⟩
      rw [hx] at hrow hin hdr
      obtain ⟨_, _, _, _, _, _, _, _⟩ := hrow
      have HIN := Lib.hid hin; have HDR := Lib.hid hdr
      clear hin hdr hx
      by_cases hk : x.ro.key = key
      · have e1 : (x.ro.key.toList == key.toList) = true := (eqB_iff _ _).2 hk
        have HK := Lib.hid hk
        have hq := HZ1.out
        have z0 := cell_at (i := 0) hq rfl
        have z1 := cell_at (i := 1) hq rfl
        have z2 := cell_at (i := 2) hq rfl
        have z3 := cell_at (i := 3) hq rfl
        have z4 := cell_at (i := 4) hq rfl
        have z5 := cell_at (i := 5) hq rfl
        have z6 := cell_at (i := 6) hq rfl
        have z7 := cell_at (i := 7) hq rfl
        have y0 := thawed_at (i := 0) hq
        have y1 := thawed_at (i := 1) hq
        have y2 := thawed_at (i := 2) hq
        have y3 := thawed_at (i := 3) hq
        have y4 := thawed_at (i := 4) hq
        have y5 := thawed_at (i := 5) hq
        have y6 := thawed_at (i := 6) hq
        have y7 := thawed_at (i := 7) hq
        have m9 := set8_block hq x
        have k9 := kept_set80 (w := wr) (w.heap.size + 1) x
        have hb9 := below_set80 BZ.out (q := w.heap.size + 1) (by omega) x
        have hi9 : RaIn (World.setCell (World.setCell (World.setCell (World.setCell (World.setCell (World.setCell (World.setCell (World.setCell wr ⟨w.heap.size + 1, 0, none⟩ (.string x.ro.key)) ⟨w.heap.size + 1, 1, none⟩ (.string x.ro.live.s)) ⟨w.heap.size + 1, 2, none⟩ (.bool x.ro.live.d)) ⟨w.heap.size + 1, 3, none⟩ (.int .i64 x.ro.live.a)) ⟨w.heap.size + 1, 4, none⟩ (.int .i64 x.ro.live.e)) ⟨w.heap.size + 1, 5, none⟩ (.int .i64 x.ro.gone)) ⟨w.heap.size + 1, 6, none⟩ (.int .i64 x.ro.shade)) ⟨w.heap.size + 1, 7, none⟩ (.slice x.A x.ro.cols.length x.c)) B x := HIN.out.below (below_set80 (Below.refl B wr) (q := w.heap.size + 1) (by omega) x)
        have HB9 := Lib.hid hb9; have HI9 := Lib.hid hi9
        clear hk hq hb9 hi9
        go_wp2
        generalize hw9 : (World.setCell (World.setCell (World.setCell (World.setCell (World.setCell (World.setCell (World.setCell (World.setCell wr ⟨w.heap.size + 1, 0, none⟩ (.string x.ro.key)) ⟨w.heap.size + 1, 1, none⟩ (.string x.ro.live.s)) ⟨w.heap.size + 1, 2, none⟩ (.bool x.ro.live.d)) ⟨w.heap.size + 1, 3, none⟩ (.int .i64 x.ro.live.a)) ⟨w.heap.size + 1, 4, none⟩ (.int .i64 x.ro.live.e)) ⟨w.heap.size + 1, 5, none⟩ (.int .i64 x.ro.gone)) ⟨w.heap.size + 1, 6, none⟩ (.int .i64 x.ro.shade)) ⟨w.heap.size + 1, 7, none⟩ (.slice x.A x.ro.cols.length x.c)) = w9 at m9 k9 HI9 HB9 ⊢
        clear hw9 z0 z1 z2 z3 z4 z5 z6 z7 y0 y1 y2 y3 y4 y5 y6 y7
        have q0 := cell_at (i := 0) m9 rfl
        have q1 := cell_at (i := 1) m9 rfl
        have q2 := cell_at (i := 2) m9 rfl
        have q3 := cell_at (i := 3) m9 rfl
        have q4 := cell_at (i := 4) m9 rfl
        have q5 := cell_at (i := 5) m9 rfl
        have q6 := cell_at (i := 6) m9 rfl
        have q7 := cell_at (i := 7) m9 rfl
        have hg1 : getK Ro.key (ros L) key = some x.ro := by rw [← HG.out, HDR.out]; exact if_pos HK.out
        have hR : rowOf (ros L) key = x.ro := by unfold rowOf; rw [hg1]; rfl
        have hI : rowIs (ros L) key = true := by unfold rowIs; rw [hg1]; rfl
        have HR := Lib.hid hR
        clear hR hg1
        refine bodyPost_ret (v := .tuple #[.agg #[.string x.ro.key, .string x.ro.live.s, .bool x.ro.live.d, .int .i64 x.ro.live.a, .int .i64 x.ro.live.e, .int .i64 x.ro.gone, .int .i64 x.ro.shade, .slice x.A x.ro.cols.length x.c], .bool true]) ?_ rfl ?_
        · simp [results, Try.results19, go_sem, q0, q1, q2, q3, q4, q5, q6, q7]
        · exact ⟨x, by rw [hI]; rfl, HR.out.symm, HI9.out, HB9.out⟩
      · have e1 : (x.ro.key.toList == key.toList) = false := by cases h : (x.ro.key.toList == key.toList) with | true => exact absurd ((eqB_iff _ _).1 h) hk | false => rfl
        have HK := Lib.hid hk
        clear hk
        go_wp2
        go_roundw
        case rel => exact ⟨t + 1, by omega, by go_num, by rw [← HG.out, HDR.out]; exact (if_neg HK.out).symm, by first | rfl | trivial⟩
        case measure => simp [intOf]; omega
    · obtain rfl : t = n := by omega
      have hq := HZ1.out
      have z0 := cell_at (i := 0) hq rfl
      have z1 := cell_at (i := 1) hq rfl
      have z2 := cell_at (i := 2) hq rfl
      have z3 := cell_at (i := 3) hq rfl
      have z4 := cell_at (i := 4) hq rfl
      have z5 := cell_at (i := 5) hq rfl
      have z6 := cell_at (i := 6) hq rfl
      have z7 := cell_at (i := 7) hq rfl
      have y0 := thawed_at (i := 0) hq
      have y1 := thawed_at (i := 1) hq
      have y2 := thawed_at (i := 2) hq
      have y3 := thawed_at (i := 3) hq
      have y4 := thawed_at (i := 4) hq
      have y5 := thawed_at (i := 5) hq
      have y6 := thawed_at (i := 6) hq
      have y7 := thawed_at (i := 7) hq
      have m9 := set8_block hq (bareA key)
      have HB9 := Lib.hid (below_set80 BZ.out (q := w.heap.size + 1) (by omega) (bareA key))
      unfold bareA Ro.bare at m9 HB9
      dsimp only [List.length_nil] at m9 HB9
      clear hq
      go_wp2
      have hg1 : getK Ro.key (ros L) key = none := by rw [← HG.out, List.drop_of_length_le (by rw [HL.out]; exact Nat.le_refl _)]; rfl
      have hR : rowOf (ros L) key = Ro.bare key := by unfold rowOf; rw [hg1]; rfl
      have hI : rowIs (ros L) key = false := by unfold rowIs; rw [hg1]; rfl
      have HR := Lib.hid hR
      have q0 := cell_at (i := 0) m9 rfl
      have q1 := cell_at (i := 1) m9 rfl
      have q2 := cell_at (i := 2) m9 rfl
      have q3 := cell_at (i := 3) m9 rfl
      have q4 := cell_at (i := 4) m9 rfl
      have q5 := cell_at (i := 5) m9 rfl
      have q6 := cell_at (i := 6) m9 rfl
      have q7 := cell_at (i := 7) m9 rfl
      clear hR hg1
      refine bodyPost_ret (v := .tuple #[.agg #[.string key, .string ⟨#[]⟩, .bool false, .int .i64 0, .int .i64 0, .int .i64 0, .int .i64 0, .slice none 0 0], .bool false]) ?_ rfl ?_
      · simp [results, Try.results19, go_sem, q0, q1, q2, q3, q4, q5, q6, q7]
      · exact ⟨bareA key, by rw [hI]; rfl, by rw [HR.out]; rfl, ⟨RdK.nil _ _ _, Nat.le_refl _⟩, HB9.out⟩
end Go.Proofs.Ytafbbojfifcncaa
set_option linter.unusedVariables false
set_option linter.unusedSimpArgs false
namespace Go.Proofs.Ytafbbojfifcncaa
open Go Go.RowKit

theorem rcheck_ra (x : RA) (B : Nat) (w : World) (h : RaIn w B x) (hB : B ≤ w.heap.size) (hf : Few x.ro.cols ∧ x.ro.live.s.size ≤ maxLen ∧ x.ro.cols.length ≤ 1000) :
    Calls Try.prog 31 #[.agg #[.string x.ro.key, .string x.ro.live.s, .bool x.ro.live.d, .int .i64 x.ro.live.a, .int .i64 x.ro.live.e, .int .i64 x.ro.gone, .int .i64 x.ro.shade, .slice x.A x.ro.cols.length x.c]] w fun e w' => e = .returned (.bool x.ro.ok) ∧ Below w.heap.size w w' :=
  rcheck_ro x.ro x.A x.c B w h hB hf.2.2 hf.1 hf.2.1
set_option maxRecDepth 8000 in
set_option maxHeartbeats 8000000 in
theorem rpcheck_any (k : ByteArray) (g : Int) (A : Option Addr) (n c B : Nat) (L : List RA) (w : World) (h : Lies w B A n c L) (hB : B ≤ w.heap.size) (hn : n ≤ 1000000000) (hf : FewR L) :
    Calls Try.prog 11 #[.agg #[.string k, .int .i64 g, .slice A n c]] w fun x w' => x = .returned (.bool (Pa.ok ⟨k, g, ros L⟩)) ∧ Below w.heap.size w w' := by
  obtain ⟨r, hrr⟩ : ∃ r, Pa.ok ⟨k, g, ros L⟩ = r := ⟨_, rfl⟩
  rw [hrr]
  unfold Pa.ok stm at hrr
  simp only at hrr
  rw [List.length_map, h.len] at hrr
  have hl := h.len
  have bz := (Below.refl w.heap.size w).alloc (Nat.le_refl _) (.cells #[.string k, .int .i64 g, .slice A n c] 24)
  have hz := heap_alloc_new w (.cells #[.string k, .int .i64 g, .slice A n c] 24)
  obtain ⟨V, hV⟩ : ∃ V, V = w.alloc (.cells #[.string k, .int .i64 g, .slice A n c] 24) := ⟨_, rfl⟩
  have hVs : V.heap.size = w.heap.size + 1 := by rw [hV]; simp
  rw [← hV] at bz hz
  have HL := Lib.hid hl; have HH := Lib.hid (h.below (bz.mono hB)); have HF := Lib.hid hf; have BZ := Lib.hid bz; have RR := Lib.hid hrr; have HZ := Lib.hid hz; have HVS := Lib.hid hVs
  obtain ⟨_, _, _⟩ := PtAt.of hz
  clear hrr bz hz h hf hl hVs
  go_enter Try.func11, Try.ntmps11
  by_cases h1 : k.size ≤ 100
  · have x1 : decide (100 < k.size) = false := decide_eq_false (by omega)
    have y1 : decide ((100 : Int) < ((k.size : Nat) : Int)) = false := decide_eq_false (by omega)
    by_cases h2 : 0 ≤ g
    · have x2 : decide (g < 0) = false := decide_eq_false (by omega)
      by_cases h3 : g ≤ 1099511627776
      · have x3 : decide (1099511627776 < g) = false := decide_eq_false (by omega)
        by_cases h4 : n ≤ 100
        · have x4 : decide (100 < n) = false := decide_eq_false (by omega)
          have y4 : decide ((100 : Int) < (n : Int)) = false := decide_eq_false (by omega)
          have hr2 : rowsB (ros L) = r := by rw [← RR.out, decide_eq_true h1, decide_eq_true h2, decide_eq_true h3, decide_eq_true h4]; rfl
          have HR := Lib.hid hr2
          clear hr2
          go_wp2_with fail
          rw [← hV]
          clear hV
          clear h1 h2 h3 x1 y1 x2 x3 x4 y4
          go_loopw [3] (fun i wr => ∃ t : Nat, t ≤ n ∧ i = .int .i64 t ∧ (List.range t).all (goodR (ros L)) = true ∧ Below V.heap.size V wr) (fun i _ => n - (intOf i).toNat)
          case atStart => exact ⟨0, Nat.zero_le _, rfl, rfl, Below.refl _ _⟩
          case round =>
            obtain ⟨t, ht, rfl, hg, hb⟩ := hrel
            have HG := Lib.hid hg; have HB := Lib.hid hb
            obtain ⟨_, _, _⟩ := PtAt.of ((hb.block w.heap.size (by have := HVS.out; omega)).trans HZ.out)
            clear hg hb
            by_cases hlt : t < n
            · have i1 : (t : Int) < n := by omega
              have i0 : (0 : Int) ≤ t := by omega
              have htl : t < L.length := by rw [HL.out]; exact hlt
              have htr : t < (ros L).length := by rw [List.length_map]; exact htl
              obtain ⟨g0, o0, rfl, hgB⟩ := HH.out.rd.ex (by omega)
              have hlies := HH.out.below (HB.out.mono (by have := HVS.out; omega))
              obtain ⟨x, hx⟩ : ∃ x, L[t] = x := ⟨_, rfl⟩
              have hrow := hlies.rd.row htl
              have hfm := HF.out L[t] (List.getElem_mem htl)
              have hin := hlies.held L[t] (List.getElem_mem htl)
              rw [hx] at hrow hfm hin
              have hws := HB.out.size
              have hgw : g0 < wr.heap.size := by have := HVS.out; omega
              obtain ⟨u1, hu1⟩ : ∃ u, x.ro.ok = u := ⟨_, rfl⟩
              have hrx : (ros L)[t] = x.ro := by rw [List.getElem_map, hx]
              have HUB : Hid (B ≤ wr.heap.size) := Lib.hid (by have := HVS.out; omega)
              have hpb := (HB.out.block w.heap.size (by have := HVS.out; omega)).trans HZ.out
              have U1 := Lib.hid hu1; have FM := Lib.hid hfm; have HX := Lib.hid hrx; have HIN := Lib.hid hin; have HROW := Lib.hid hrow; have HPB := Lib.hid hpb
              have HGW := Lib.hid hgw; have HPW := Lib.hid (Array.getElem?_eq_some_iff.1 hpb).1
              obtain ⟨_, _, _, _, _, _, _, _⟩ := hrow
              clear hu1 hfm hx hrx hin hpb hws hgw
              by_cases hz0 : t = 0
              · have hga : goodR (ros L) t = u1 := by
                  subst hz0
                  rw [goodR_zero htr, HX.out, U1.out]
                have j1 : decide ((0 : Int) < (t : Int)) = false := by simp; omega
                have j2 : decide (0 < t) = false := by simp; omega
                clear hz0
                have hall : ∀ w', Below wr.heap.size wr w' → PtAt w' w.heap.size k g (some ⟨g0, o0, none⟩) n c ∧ RowAt w' g0 (o0 + t * 8) x ∧ True := fun w' hb => ⟨PtAt.of ((hb.block w.heap.size HPW.out).trans HPB.out), HROW.out.below hb HGW.out, trivial⟩
                have HGA := Lib.hid hga; have HALL := Lib.hid hall
                clear hga hall
                go_wp2_with fail
                cases u1
                · refine wp_region_held_drew (S := fun w' => Below wr.heap.size wr w') (by kernel_rfl) ?_ (fun hHeld => ?_)
                  · exact (Below.refl _ _).drew
                  refine takesH [0, 1, 2, 3, 4] ?_
                  repeat
                    refine takesH_one (v := ?_) ?_ ?_
                    rotate_left
                    · first | (refine Or.inr ⟨by rfl, ?_⟩; with_reducible rfl) | (refine Or.inl ⟨by rfl, ?_⟩; intro wx hSw; (try dsimp only at hSw); first | (go_simp; first | done | with_reducible rfl) | (obtain ⟨⟨_, _, _⟩, ⟨_, _, _, _, _, _, _, _⟩, _⟩ := HALL.out _ hSw; go_simp; first | done | with_reducible rfl))
                    try simp only [Act.put, List.getElem_toArray, List.getElem_cons_succ, List.getElem_cons_zero, List.setIfInBounds_toArray, List.set_cons_zero, List.set_cons_succ]
                  refine takesH_nil ?_
                  refine wpAnyH_ready (rs := [5]) (by kernel_rfl) (by simp) (AllReadyH.cons rfl (fun K hK => ?_) AllReadyH.nil)
                  go_simp
                  refine (rcheck_ra x B _ (HIN.out.below (hHeld.mono HUB.out)) (Nat.le_trans HUB.out hHeld.size) FM.out).mono ?_
                  rintro e v1 ⟨rfl, b1⟩
                  rw [U1.out]
                  try go_wp2_with fail
                  refine hK.out _ _ ?_ (fun hHeld => ?_)
                  · exact next hHeld b1
                  clear hK K
                  try simp only [Act.put, List.getElem_toArray, List.getElem_cons_succ, List.getElem_cons_zero, List.setIfInBounds_toArray, List.set_cons_zero, List.set_cons_succ]
                  refine takesH [6, 7, 8, 9, 10, 11, 12, 13, 14, 15, 16, 17, 18, 19, 20, 21, 22, 23, 24, 25, 26] ?_
                  repeat
                    refine takesH_one (v := ?_) ?_ ?_
                    rotate_left
                    · first | (refine Or.inr ⟨by rfl, ?_⟩; with_reducible rfl) | (refine Or.inl ⟨by rfl, ?_⟩; intro wx hSw; (try dsimp only at hSw); first | (go_simp; first | done | with_reducible rfl))
                    try simp only [Act.put, List.getElem_toArray, List.getElem_cons_succ, List.getElem_cons_zero, List.setIfInBounds_toArray, List.set_cons_zero, List.set_cons_succ]
                  refine takesH_nil ?_
                  refine wpAnyH_done (by kernel_rfl) ?_ _
                  have hv : r = false := by rw [← HR.out]; exact goodsR_no htr HGA.out
                  subst hv
                  go_wp2
                  go_ret
                  exact ⟨rfl, next (next BZ.out HB.out) hHeld⟩
                · refine wp_region_held_drew (S := fun w' => Below wr.heap.size wr w') (by kernel_rfl) ?_ (fun hHeld => ?_)
                  · exact (Below.refl _ _).drew
                  refine takesH [0, 1, 2, 3, 4] ?_
                  repeat
                    refine takesH_one (v := ?_) ?_ ?_
                    rotate_left
                    · first | (refine Or.inr ⟨by rfl, ?_⟩; with_reducible rfl) | (refine Or.inl ⟨by rfl, ?_⟩; intro wx hSw; (try dsimp only at hSw); first | (go_simp; first | done | with_reducible rfl) | (obtain ⟨⟨_, _, _⟩, ⟨_, _, _, _, _, _, _, _⟩, _⟩ := HALL.out _ hSw; go_simp; first | done | with_reducible rfl))
                    try simp only [Act.put, List.getElem_toArray, List.getElem_cons_succ, List.getElem_cons_zero, List.setIfInBounds_toArray, List.set_cons_zero, List.set_cons_succ]
                  refine takesH_nil ?_
                  refine wpAnyH_ready (rs := [5]) (by kernel_rfl) (by simp) (AllReadyH.cons rfl (fun K hK => ?_) AllReadyH.nil)
                  go_simp
                  refine (rcheck_ra x B _ (HIN.out.below (hHeld.mono HUB.out)) (Nat.le_trans HUB.out hHeld.size) FM.out).mono ?_
                  rintro e v1 ⟨rfl, b1⟩
                  rw [U1.out]
                  try go_wp2_with fail
                  refine hK.out _ _ ?_ (fun hHeld => ?_)
                  · exact next hHeld b1
                  clear hK K
                  try simp only [Act.put, List.getElem_toArray, List.getElem_cons_succ, List.getElem_cons_zero, List.setIfInBounds_toArray, List.set_cons_zero, List.set_cons_succ]
                  refine takesH [6, 7, 8, 9, 10, 11, 12, 13, 14, 15, 16, 17, 18, 19, 20, 21, 22, 23, 24, 25, 26] ?_
                  repeat
                    refine takesH_one (v := ?_) ?_ ?_
                    rotate_left
                    · first | (refine Or.inr ⟨by rfl, ?_⟩; with_reducible rfl) | (refine Or.inl ⟨by rfl, ?_⟩; intro wx hSw; (try dsimp only at hSw); first | (go_simp; first | done | with_reducible rfl))
                    try simp only [Act.put, List.getElem_toArray, List.getElem_cons_succ, List.getElem_cons_zero, List.setIfInBounds_toArray, List.set_cons_zero, List.set_cons_succ]
                  refine takesH_nil ?_
                  refine wpAnyH_done (by kernel_rfl) ?_ _
                  go_wp2
                  go_roundw
                  case rel => exact ⟨t + 1, by omega, by go_num, goodsR_step HG.out HGA.out, next HB.out hHeld⟩
                  case measure => simp [intOf]; omega
              · obtain ⟨u, hu⟩ : ∃ u, u + 1 = t := ⟨t - 1, by omega⟩
                have hul : u < L.length := by omega
                have hsub : IntKind.i64.wrap ((t : Int) - 1) = (u : Int) := by rw [IntKind.wrap_i64]; omega
                have j1 : (u : Int) < n := by omega
                have j0 : (0 : Int) ≤ u := by omega
                have j2 : decide ((0 : Int) < (t : Int)) = true := by simp; omega
                have j3 : decide (0 < t) = true := by simp; omega
                have j4 : (0 : Int) < (t : Int) := by omega
                have j5 : 0 < t := by omega
                obtain ⟨y, hy⟩ : ∃ y, L[u] = y := ⟨_, rfl⟩
                have hcu2 := hlies.rd.row hul
                rw [hy] at hcu2
                have hga : goodR (ros L) t = (u1 && decide (nlt y.ro.key x.ro.key)) := by
                  subst hu
                  rw [goodR_succ htr, HX.out, U1.out, List.getElem_map, hy]
                have hall : ∀ w', Below wr.heap.size wr w' → PtAt w' w.heap.size k g (some ⟨g0, o0, none⟩) n c ∧ RowAt w' g0 (o0 + t * 8) x ∧ w'.cell? ⟨g0, o0 + u * 8, none⟩ = some (.string y.ro.key) := fun w' hb => ⟨PtAt.of ((hb.block w.heap.size HPW.out).trans HPB.out), HROW.out.below hb HGW.out, (hcu2.below hb HGW.out).1⟩
                have HGA := Lib.hid hga; have HY := Lib.hid hy; have HALL := Lib.hid hall; have HU := Lib.hid hu
                clear hga hy hall hcu2 hlies hu
                go_wp2_with fail
                cases u1
                · refine wp_region_held_drew (S := fun w' => Below wr.heap.size wr w') (by kernel_rfl) ?_ (fun hHeld => ?_)
                  · exact (Below.refl _ _).drew
                  refine takesH [0, 1, 2, 3, 4] ?_
                  repeat
                    refine takesH_one (v := ?_) ?_ ?_
                    rotate_left
                    · first | (refine Or.inr ⟨by rfl, ?_⟩; with_reducible rfl) | (refine Or.inl ⟨by rfl, ?_⟩; intro wx hSw; (try dsimp only at hSw); first | (go_simp; first | done | with_reducible rfl) | (obtain ⟨⟨_, _, _⟩, ⟨_, _, _, _, _, _, _, _⟩, _⟩ := HALL.out _ hSw; go_simp; first | done | with_reducible rfl))
                    try simp only [Act.put, List.getElem_toArray, List.getElem_cons_succ, List.getElem_cons_zero, List.setIfInBounds_toArray, List.set_cons_zero, List.set_cons_succ]
                  refine takesH_nil ?_
                  refine wpAnyH_ready (rs := [5]) (by kernel_rfl) (by simp) (AllReadyH.cons rfl (fun K hK => ?_) AllReadyH.nil)
                  go_simp
                  refine (rcheck_ra x B _ (HIN.out.below (hHeld.mono HUB.out)) (Nat.le_trans HUB.out hHeld.size) FM.out).mono ?_
                  rintro e v1 ⟨rfl, b1⟩
                  rw [U1.out]
                  try go_wp2_with fail
                  refine hK.out _ _ ?_ (fun hHeld => ?_)
                  · exact next hHeld b1
                  clear hK K
                  try simp only [Act.put, List.getElem_toArray, List.getElem_cons_succ, List.getElem_cons_zero, List.setIfInBounds_toArray, List.set_cons_zero, List.set_cons_succ]
                  refine takesH [6, 7, 8, 9, 10, 11, 12, 13, 14, 15, 16, 17, 18, 19, 20, 21, 22, 23, 24, 25, 26] ?_
                  repeat
                    refine takesH_one (v := ?_) ?_ ?_
                    rotate_left
                    · first | (refine Or.inr ⟨by rfl, ?_⟩; with_reducible rfl) | (refine Or.inl ⟨by rfl, ?_⟩; intro wx hSw; (try dsimp only at hSw); first | (go_simp; first | done | with_reducible rfl))
                    try simp only [Act.put, List.getElem_toArray, List.getElem_cons_succ, List.getElem_cons_zero, List.setIfInBounds_toArray, List.set_cons_zero, List.set_cons_succ]
                  refine takesH_nil ?_
                  refine wpAnyH_done (by kernel_rfl) ?_ _
                  have hv : r = false := by rw [← HR.out]; exact goodsR_no htr (by rw [HGA.out]; rfl)
                  subst hv
                  go_wp2
                  go_ret
                  exact ⟨rfl, next (next BZ.out HB.out) hHeld⟩
                · by_cases hp : nlt y.ro.key x.ro.key
                  · have hb1 : Op.bytesLess x.ro.key.toList y.ro.key.toList = false := blB_false fun h => nlt_irr _ (nlt_tr h hp)
                    have hb2 : (x.ro.key.toList == y.ro.key.toList) = false := by cases h : (x.ro.key.toList == y.ro.key.toList) with | true => exact absurd ((eqB_iff _ _).1 h).symm (nlt_ne hp) | false => rfl
                    have hga2 := HGA.out
                    rw [decide_eq_true hp] at hga2
                    have HG2 := Lib.hid hga2
                    clear hga2
                    refine wp_region_held_drew (S := fun w' => Below wr.heap.size wr w') (by kernel_rfl) ?_ (fun hHeld => ?_)
                    · exact (Below.refl _ _).drew
                    refine takesH [0, 1, 2, 3, 4] ?_
                    repeat
                      refine takesH_one (v := ?_) ?_ ?_
                      rotate_left
                      · first | (refine Or.inr ⟨by rfl, ?_⟩; with_reducible rfl) | (refine Or.inl ⟨by rfl, ?_⟩; intro wx hSw; (try dsimp only at hSw); first | (go_simp; first | done | with_reducible rfl) | (obtain ⟨⟨_, _, _⟩, ⟨_, _, _, _, _, _, _, _⟩, _⟩ := HALL.out _ hSw; go_simp; first | done | with_reducible rfl))
                      try simp only [Act.put, List.getElem_toArray, List.getElem_cons_succ, List.getElem_cons_zero, List.setIfInBounds_toArray, List.set_cons_zero, List.set_cons_succ]
                    refine takesH_nil ?_
                    refine wpAnyH_ready (rs := [5]) (by kernel_rfl) (by simp) (AllReadyH.cons rfl (fun K hK => ?_) AllReadyH.nil)
                    go_simp
                    refine (rcheck_ra x B _ (HIN.out.below (hHeld.mono HUB.out)) (Nat.le_trans HUB.out hHeld.size) FM.out).mono ?_
                    rintro e v1 ⟨rfl, b1⟩
                    rw [U1.out]
                    try go_wp2_with fail
                    refine hK.out _ _ ?_ (fun hHeld => ?_)
                    · exact next hHeld b1
                    clear hK K
                    try simp only [Act.put, List.getElem_toArray, List.getElem_cons_succ, List.getElem_cons_zero, List.setIfInBounds_toArray, List.set_cons_zero, List.set_cons_succ]
                    refine takesH [6, 7, 8, 9, 10, 11, 12, 13, 14, 15, 16, 17, 18, 19, 20, 21, 22, 23, 24, 25, 26] ?_
                    repeat
                      refine takesH_one (v := ?_) ?_ ?_
                      rotate_left
                      · first | (refine Or.inr ⟨by rfl, ?_⟩; with_reducible rfl) | (refine Or.inl ⟨by rfl, ?_⟩; intro wx hSw; (try dsimp only at hSw); first | (go_simp; first | done | with_reducible rfl) | (obtain ⟨⟨_, _, _⟩, ⟨_, _, _, _, _, _, _, _⟩, _⟩ := HALL.out _ hSw; go_simp; first | done | with_reducible rfl))
                      try simp only [Act.put, List.getElem_toArray, List.getElem_cons_succ, List.getElem_cons_zero, List.setIfInBounds_toArray, List.set_cons_zero, List.set_cons_succ]
                    refine takesH_nil ?_
                    refine wpAnyH_done (by kernel_rfl) ?_ _
                    go_wp2
                    go_roundw
                    case rel => exact ⟨t + 1, by omega, by go_num, goodsR_step HG.out HG2.out, next HB.out hHeld⟩
                    case measure => simp [intOf]; omega
                  · have hv : r = false := by rw [← HR.out]; exact goodsR_no htr (by rw [HGA.out, decide_eq_false hp]; rfl)
                    subst hv
                    rcases nlt_or x.ro.key y.ro.key with h7 | h7 | h7
                    · have hb1 : Op.bytesLess x.ro.key.toList y.ro.key.toList = true := blB_true h7
                      clear h7
                      refine wp_region_held_drew (S := fun w' => Below wr.heap.size wr w') (by kernel_rfl) ?_ (fun hHeld => ?_)
                      · exact (Below.refl _ _).drew
                      refine takesH [0, 1, 2, 3, 4] ?_
                      repeat
                        refine takesH_one (v := ?_) ?_ ?_
                        rotate_left
                        · first | (refine Or.inr ⟨by rfl, ?_⟩; with_reducible rfl) | (refine Or.inl ⟨by rfl, ?_⟩; intro wx hSw; (try dsimp only at hSw); first | (go_simp; first | done | with_reducible rfl) | (obtain ⟨⟨_, _, _⟩, ⟨_, _, _, _, _, _, _, _⟩, _⟩ := HALL.out _ hSw; go_simp; first | done | with_reducible rfl))
                        try simp only [Act.put, List.getElem_toArray, List.getElem_cons_succ, List.getElem_cons_zero, List.setIfInBounds_toArray, List.set_cons_zero, List.set_cons_succ]
                      refine takesH_nil ?_
                      refine wpAnyH_ready (rs := [5]) (by kernel_rfl) (by simp) (AllReadyH.cons rfl (fun K hK => ?_) AllReadyH.nil)
                      go_simp
                      refine (rcheck_ra x B _ (HIN.out.below (hHeld.mono HUB.out)) (Nat.le_trans HUB.out hHeld.size) FM.out).mono ?_
                      rintro e v1 ⟨rfl, b1⟩
                      rw [U1.out]
                      try go_wp2_with fail
                      refine hK.out _ _ ?_ (fun hHeld => ?_)
                      · exact next hHeld b1
                      clear hK K
                      try simp only [Act.put, List.getElem_toArray, List.getElem_cons_succ, List.getElem_cons_zero, List.setIfInBounds_toArray, List.set_cons_zero, List.set_cons_succ]
                      refine takesH [6, 7, 8, 9, 10, 11, 12, 13, 14, 15, 16, 17, 18, 19, 20, 21, 22, 23, 24, 25, 26] ?_
                      repeat
                        refine takesH_one (v := ?_) ?_ ?_
                        rotate_left
                        · first | (refine Or.inr ⟨by rfl, ?_⟩; with_reducible rfl) | (refine Or.inl ⟨by rfl, ?_⟩; intro wx hSw; (try dsimp only at hSw); first | (go_simp; first | done | with_reducible rfl) | (obtain ⟨⟨_, _, _⟩, ⟨_, _, _, _, _, _, _, _⟩, _⟩ := HALL.out _ hSw; go_simp; first | done | with_reducible rfl))
                        try simp only [Act.put, List.getElem_toArray, List.getElem_cons_succ, List.getElem_cons_zero, List.setIfInBounds_toArray, List.set_cons_zero, List.set_cons_succ]
                      refine takesH_nil ?_
                      refine wpAnyH_done (by kernel_rfl) ?_ _
                      go_wp2
                      go_ret
                      exact ⟨rfl, next (next BZ.out HB.out) hHeld⟩
                    · have hb1 : Op.bytesLess x.ro.key.toList x.ro.key.toList = false := blB_false fun h => nlt_irr _ h
                      rw [← h7] at HALL
                      clear h7 hp
                      have hb2 : (x.ro.key.toList == x.ro.key.toList) = true := by simp
                      refine wp_region_held_drew (S := fun w' => Below wr.heap.size wr w') (by kernel_rfl) ?_ (fun hHeld => ?_)
                      · exact (Below.refl _ _).drew
                      refine takesH [0, 1, 2, 3, 4] ?_
                      repeat
                        refine takesH_one (v := ?_) ?_ ?_
                        rotate_left
                        · first | (refine Or.inr ⟨by rfl, ?_⟩; with_reducible rfl) | (refine Or.inl ⟨by rfl, ?_⟩; intro wx hSw; (try dsimp only at hSw); first | (go_simp; first | done | with_reducible rfl) | (obtain ⟨⟨_, _, _⟩, ⟨_, _, _, _, _, _, _, _⟩, _⟩ := HALL.out _ hSw; go_simp; first | done | with_reducible rfl))
                        try simp only [Act.put, List.getElem_toArray, List.getElem_cons_succ, List.getElem_cons_zero, List.setIfInBounds_toArray, List.set_cons_zero, List.set_cons_succ]
                      refine takesH_nil ?_
                      refine wpAnyH_ready (rs := [5]) (by kernel_rfl) (by simp) (AllReadyH.cons rfl (fun K hK => ?_) AllReadyH.nil)
                      go_simp
                      refine (rcheck_ra x B _ (HIN.out.below (hHeld.mono HUB.out)) (Nat.le_trans HUB.out hHeld.size) FM.out).mono ?_
                      rintro e v1 ⟨rfl, b1⟩
                      rw [U1.out]
                      try go_wp2_with fail
                      refine hK.out _ _ ?_ (fun hHeld => ?_)
                      · exact next hHeld b1
                      clear hK K
                      try simp only [Act.put, List.getElem_toArray, List.getElem_cons_succ, List.getElem_cons_zero, List.setIfInBounds_toArray, List.set_cons_zero, List.set_cons_succ]
                      refine takesH [6, 7, 8, 9, 10, 11, 12, 13, 14, 15, 16, 17, 18, 19, 20, 21, 22, 23, 24, 25, 26] ?_
                      repeat
                        refine takesH_one (v := ?_) ?_ ?_
                        rotate_left
                        · first | (refine Or.inr ⟨by rfl, ?_⟩; with_reducible rfl) | (refine Or.inl ⟨by rfl, ?_⟩; intro wx hSw; (try dsimp only at hSw); first | (go_simp; first | done | with_reducible rfl) | (obtain ⟨⟨_, _, _⟩, ⟨_, _, _, _, _, _, _, _⟩, _⟩ := HALL.out _ hSw; go_simp; first | done | with_reducible rfl))
                        try simp only [Act.put, List.getElem_toArray, List.getElem_cons_succ, List.getElem_cons_zero, List.setIfInBounds_toArray, List.set_cons_zero, List.set_cons_succ]
                      refine takesH_nil ?_
                      refine wpAnyH_done (by kernel_rfl) ?_ _
                      go_wp2
                      go_ret
                      exact ⟨rfl, next (next BZ.out HB.out) hHeld⟩
                    · exact absurd h7 hp
            · obtain rfl : t = n := by omega
              have hv : r = true := by rw [← HR.out]; unfold rowsB; rw [List.length_map, HL.out]; exact HG.out
              subst hv
              go_wp2
              go_ret
              exact ⟨rfl, next BZ.out HB.out⟩
        · have x4 : decide (100 < n) = true := decide_eq_true (by omega)
          have y4 : decide ((100 : Int) < (n : Int)) = true := decide_eq_true (by omega)
          have hv : r = false := by rw [← RR.out, decide_eq_false h4]; simp
          subst hv
          subst hV
          go_wp2
          go_ret
          exact ⟨rfl, BZ.out⟩
      · have x3 : decide (1099511627776 < g) = true := decide_eq_true (by omega)
        have hv : r = false := by rw [← RR.out, decide_eq_false h3]; simp
        subst hv
        subst hV
        go_wp2
        go_ret
        exact ⟨rfl, BZ.out⟩
    · have x2 : decide (g < 0) = true := decide_eq_true (by omega)
      have hv : r = false := by rw [← RR.out, decide_eq_false h2]; simp
      subst hv
      subst hV
      go_wp2
      go_ret
      exact ⟨rfl, BZ.out⟩
  · have x1 : decide (100 < k.size) = true := decide_eq_true (by omega)
    have y1 : decide ((100 : Int) < ((k.size : Nat) : Int)) = true := decide_eq_true (by omega)
    have hv : r = false := by rw [← RR.out, decide_eq_false h1]; rfl
    subst hv
    subst hV
    go_wp2
    go_ret
    exact ⟨rfl, BZ.out⟩

end Go.Proofs.Ytafbbojfifcncaa
set_option linter.unusedVariables false
set_option linter.unusedSimpArgs false
namespace Go.Proofs.Ytafbbojfifcncaa
open Go Go.RowKit

theorem seen_rx (x : RA) (B : Nat) (p now : Int) (X : Cols) (hX : seenD (max x.ro.gone p) now x.ro.cols = X) (w : World) (h : RaIn w B x) (hB : B ≤ w.heap.size) (hn : x.ro.cols.length ≤ 1000) :
    Calls Try.prog 43 #[.agg #[.string x.ro.key, .string x.ro.live.s, .bool x.ro.live.d, .int .i64 x.ro.live.a, .int .i64 x.ro.live.e, .int .i64 x.ro.gone, .int .i64 x.ro.shade, .slice x.A x.ro.cols.length x.c], .int .i64 p, .int .i64 now] w fun e w' => ∃ A c, e = .returned (.slice A X.length c) ∧ Cur w w' (.slice A X.length c) X := by
  subst hX
  exact seen_ra x B p now w h hB hn
theorem take_ros (L : List RA) (t : Nat) : ros (L.take t) = (ros L).take t := List.map_take ..
/-- A partition's block and a row's. -/
def Two (w : World) (p : Nat) (k : ByteArray) (g : Int) (A : Option Addr) (n c : Nat) (q : Nat) (x : RA) : Prop := w.heap[p]? = some (.cells #[.string k, .int .i64 g, .slice A n c] 24) ∧ w.heap[q]? = some (.cells #[.string x.ro.key, .string x.ro.live.s, .bool x.ro.live.d, .int .i64 x.ro.live.a, .int .i64 x.ro.live.e, .int .i64 x.ro.gone, .int .i64 x.ro.shade, .slice x.A x.ro.cols.length x.c] 36)
theorem Two.on {w w' : World} {p q n c : Nat} {k : ByteArray} {g : Int} {A : Option Addr} {x : RA} (h : Two w p k g A n c q x) (hb : Below w.heap.size w w') : Two w' p k g A n c q x :=
  ⟨(hb.block p (Array.getElem?_eq_some_iff.1 h.1).1).trans h.1, (hb.block q (Array.getElem?_eq_some_iff.1 h.2).1).trans h.2⟩
theorem Two.grown {w w' : World} {p q n c : Nat} {k : ByteArray} {g : Int} {A : Option Addr} {x : RA} {b m : Nat} {v : Value} {xs : List Value} (h : Two w p k g A n c q x) (ho : w.ownsRow b 36 8 v m xs) (hg : w.grownBy w' v.ownBlock) (hq : v.ownBlock ≠ some q) : Two w' p k g A n c q x := by
  have hk := Kept.of_grown (F := fun k => v.ownBlock = some k) hg fun k hk => hk
  refine ⟨(hk.block p (Array.getElem?_eq_some_iff.1 h.1).1 fun hp => own_ne ho h.1 (by decide) p hp rfl).trans h.1, (hk.block q (Array.getElem?_eq_some_iff.1 h.2).1 hq).trans h.2⟩
set_option maxRecDepth 8000 in
set_option maxHeartbeats 8000000 in
theorem pseen_any (k : ByteArray) (g now : Int) (st : Bool) (A : Option Addr) (n c B : Nat) (L : List RA) (w : World) (h : Lies w B A n c L) (hB : B ≤ w.heap.size) (hn : n ≤ 1000) (hf : ∀ x ∈ L, x.ro.cols.length ≤ 1000) :
    Calls Try.prog 21 #[.agg #[.string k, .int .i64 g, .slice A n c], .int .i64 now, .bool st] w fun e w' => ∃ v M, e = .returned v ∧ ros M = seenR g now st (ros L) ∧ Own w w' v M := by
  have hl := h.len
  have bz := (Below.refl w.heap.size w).alloc (Nat.le_refl _) (.cells #[.string k, .int .i64 g, .slice A n c] 24)
  have hz0 := heap_alloc_new w (.cells #[.string k, .int .i64 g, .slice A n c] 24)
  obtain ⟨V, hV⟩ : ∃ V, V = w.alloc (.cells #[.string k, .int .i64 g, .slice A n c] 24) := ⟨_, rfl⟩
  have hVs : V.heap.size = w.heap.size + 1 := by rw [hV]; simp
  rw [← hV] at bz hz0
  have HL := Lib.hid hl; have HH := Lib.hid h; have HF := Lib.hid hf; have BZ := Lib.hid bz; have HZ0 := Lib.hid hz0; have HVS := Lib.hid hVs; have HN := Lib.hid hn
  obtain ⟨_, _, _⟩ := PtAt.of hz0
  clear hl h hf bz hz0 hVs
  go_enter Try.func21, Try.ntmps21
  go_wp2_with fail
  rw [← hV]
  clear hV
  go_wp2_with fail
  go_loopw [13, 7] (fun i v wr => ∃ (t : Nat) (M : List RA), t ≤ n ∧ i = .int .i64 t ∧ ros M = seenR g now st (ros (L.take t)) ∧ M.length ≤ t ∧ Own w wr v M ∧ wr.heap[w.heap.size]? = some (.cells #[.string k, .int .i64 g, .slice A n c] 24)) (fun i _ _ => n - (intOf i).toNat)
  case atStart => exact ⟨0, [], Nat.zero_le _, rfl, rfl, Nat.le_refl _, Own.nil BZ.out, HZ0.out⟩
  case round =>
    obtain ⟨t, M, ht, rfl, hm, hmt, ho, hz⟩ := hrel
    obtain ⟨A3, c3, rfl, _⟩ := ho.slice
    obtain ⟨m, hmm⟩ : ∃ m, M.length = m := ⟨_, rfl⟩
    rw [hmm] at ho hmt ⊢
    have HMR := Lib.hid hm; have HM := Lib.hid hmm; have HMT := Lib.hid hmt; have HO := Lib.hid ho; have HZ := Lib.hid hz
    have hvw : w.heap.size < wr.heap.size := (Array.getElem?_eq_some_iff.1 hz).1
    obtain ⟨_, _, _⟩ := PtAt.of hz
    clear hm hmm hmt ho hz
    by_cases hlt : t < n
    · have i1 : (t : Int) < n := by omega
      have i0 : (0 : Int) ≤ t := by omega
      have htl : t < L.length := by rw [HL.out]; exact hlt
      obtain ⟨g0, o0, rfl, hgb⟩ := HH.out.rd.ex (by omega)
      have hlies := HH.out.below (HO.out.below.mono hB)
      have hrow := hlies.rd.row htl
      have hin := hlies.held L[t] (List.getElem_mem htl)
      have hcl := HF.out L[t] (List.getElem_mem htl)
      have htk := ros_take htl
      obtain ⟨x, hx⟩ : ∃ x, L[t] = x := ⟨_, rfl⟩
      rw [hx] at hrow hin hcl htk
      have ha := (Below.refl wr.heap.size wr).alloc (Nat.le_refl _) (.cells #[.string x.ro.key, .string x.ro.live.s, .bool x.ro.live.d, .int .i64 x.ro.live.a, .int .i64 x.ro.live.e, .int .i64 x.ro.gone, .int .i64 x.ro.shade, .slice x.A x.ro.cols.length x.c] 36)
      have hin2 := hin.below (ha.mono (by have := HO.out.below.size; omega))
      have hbk := heap_alloc_new wr (.cells #[.string x.ro.key, .string x.ro.live.s, .bool x.ro.live.d, .int .i64 x.ro.live.a, .int .i64 x.ro.live.e, .int .i64 x.ro.gone, .int .i64 x.ro.shade, .slice x.A x.ro.cols.length x.c] 36)
      have hpt := (ha.block w.heap.size hvw).trans HZ.out
      have hou := HO.out.on ha
      obtain ⟨_, _, _, _, _, _, _, _⟩ := hrow
      obtain ⟨U, hU⟩ : ∃ U, U = wr.alloc (.cells #[.string x.ro.key, .string x.ro.live.s, .bool x.ro.live.d, .int .i64 x.ro.live.a, .int .i64 x.ro.live.e, .int .i64 x.ro.gone, .int .i64 x.ro.shade, .slice x.A x.ro.cols.length x.c] 36) := ⟨_, rfl⟩
      have hUs : U.heap.size = wr.heap.size + 1 := by rw [hU]; simp
      rw [← hU] at hin2 hbk hpt hou
      have hall : ∀ w', Below U.heap.size U w' → BlkAt w' wr.heap.size x ∧ PtAt w' w.heap.size k g (some ⟨g0, o0, none⟩) n c := fun w' hb =>
        ⟨BlkAt.of ((hb.block wr.heap.size (by omega)).trans hbk), PtAt.of ((hb.block w.heap.size (by omega)).trans hpt)⟩
      have hin3 : ∀ w', Below U.heap.size U w' → RaIn w' B x := fun w' hb => hin2.below (hb.mono (by have := HO.out.below.size; omega))
      have HTWO : Hid (Two U w.heap.size k g (some ⟨g0, o0, none⟩) n c wr.heap.size x) := Lib.hid ⟨hpt, hbk⟩
      have HOL := Lib.hid (own_block_lt HO.out.cur.own)
      have HIN := Lib.hid hin3; have HCL := Lib.hid hcl; have HTK := Lib.hid htk; have HOU := Lib.hid hou; have HALL := Lib.hid hall; have HPT := Lib.hid hpt
      have HUB := Lib.hid (show B ≤ U.heap.size by have := HO.out.below.size; omega)
      have HVB := Lib.hid (show w.heap.size ≤ U.heap.size by have := HO.out.below.size; omega)
      have HUL := Lib.hid (show w.heap.size < U.heap.size by omega)
      obtain ⟨⟨_, _, _, _, _, _, _, _⟩, _, _, _⟩ := hall U (Below.refl _ _)
      clear hlies hin hcl htk hx ha hin2 hbk hpt hou hUs hall hin3
      go_wp2_with fail
      rw [← hU]
      clear hU
      obtain ⟨u, hu⟩ : ∃ u, x.ro.isD g now st = u := ⟨_, rfl⟩
      have HU := Lib.hid hu
      clear hu
      go_wp2_with fail
      refine (is_ra x B g now st _ (HIN.out _ (Below.refl _ _)) HUB.out HCL.out).mono ?_
      rintro e w1 ⟨rfl, b1⟩
      rw [HU.out]
      have T1 : Hid (Two w1 w.heap.size k g (some ⟨g0, o0, none⟩) n c wr.heap.size x) := Lib.hid (HTWO.out.on b1)
      have B1 := Lib.hid b1; have HO1 := Lib.hid (HOU.out.on b1)
      clear b1
      cases u
      · have hz1 := (B1.out.block w.heap.size HUL.out).trans HPT.out
        have hs : ros M = seenR g now st (ros (L.take (t + 1))) := by rw [HTK.out, seenR_snoc, HU.out, HMR.out]; rfl
        have HS := Lib.hid hs; have HZ1 := Lib.hid hz1
        clear hs hz1
        go_wp2
        go_roundw
        case rel => exact ⟨t + 1, M, by omega, by go_num, HS.out, by rw [HM.out]; have := HMT.out; omega, by first | exact HM.out ▸ HO1.out | exact HO1.out, HZ1.out⟩
        case measure => simp [intOf]; omega
      · obtain ⟨X, hX⟩ : ∃ X, seenD (max x.ro.gone g) now x.ro.cols = X := ⟨_, rfl⟩
        have HX := Lib.hid hX
        clear hX
        go_wp2_with fail
        refine wp_region_held_drew (S := fun w' => Two w' w.heap.size k g (some ⟨g0, o0, none⟩) n c wr.heap.size x) (by kernel_rfl) ?_ (fun hHeld => ?_)
        · exact T1.out
        refine takesH [0, 1, 2, 3, 4, 5, 6, 7, 8] ?_
        repeat
          refine takesH_one (v := ?_) ?_ ?_
          rotate_left
          · first | (refine Or.inr ⟨by rfl, ?_⟩; with_reducible rfl) | (refine Or.inl ⟨by rfl, ?_⟩; intro wx hSw; (try dsimp only at hSw); first | (go_simp; first | done | with_reducible rfl) | (obtain ⟨_, _, _⟩ := PtAt.of hSw.1; obtain ⟨_, _, _, _, _, _, _, _⟩ := BlkAt.of hSw.2; go_simp; first | done | with_reducible rfl))
          try simp only [Act.put, List.getElem_toArray, List.getElem_cons_succ, List.getElem_cons_zero, List.setIfInBounds_toArray, List.set_cons_zero, List.set_cons_succ]
        refine takesH_nil ?_
        refine wpAnyH_ready (rs := [9]) (by kernel_rfl) (by simp) (AllReadyH.cons rfl (fun K hK => ?_) AllReadyH.nil)
        go_simp
        refine (seen_rx x B g now X HX.out _ ?hin ?hsz HCL.out).mono ?_
        case hin => exact HIN.out _ B1.out.drew
        case hsz => exact Nat.le_trans HUB.out B1.out.size
        rintro e v4 ⟨A4, c4, rfl, hc4⟩
        have hbv := next (w := w1) (w1 := w1.drew) ((Below.refl w1.heap.size w1).drew) hc4.below
        have C4 := Lib.hid (HO1.out.on hbv)
        have C5 := Lib.hid (C4.out.on ((Below.refl v4.heap.size v4).alloc (Nat.le_refl _) (.cells #[.string x.ro.key, .string x.ro.live.s, .bool x.ro.live.d, .int .i64 x.ro.live.a, .int .i64 x.ro.live.e, .int .i64 0, .int .i64 0, .slice A4 X.length c4] 36)))
        have RD := Lib.hid (RdR.laid v4 (⟨⟨x.ro.key, x.ro.live, 0, 0, X⟩, A4, c4⟩ : RA))
        have hsf : Safe w v4 (⟨⟨x.ro.key, x.ro.live, 0, 0, X⟩, A4, c4⟩ : RA) := Or.inr (own_base hc4.own HO1.out.below.size)
        have HSF := Lib.hid (hsf.on ((Below.refl v4.heap.size v4).alloc (Nat.le_refl _) (.cells #[.string x.ro.key, .string x.ro.live.s, .bool x.ro.live.d, .int .i64 x.ro.live.a, .int .i64 x.ro.live.e, .int .i64 0, .int .i64 0, .slice A4 X.length c4] 36)))
        have T4 := Lib.hid (T1.out.on hbv)
        have T5 := Lib.hid (T4.out.on ((Below.refl v4.heap.size v4).alloc (Nat.le_refl _) (.cells #[.string x.ro.key, .string x.ro.live.s, .bool x.ro.live.d, .int .i64 x.ro.live.a, .int .i64 x.ro.live.e, .int .i64 0, .int .i64 0, .slice A4 X.length c4] 36)))
        clear hbv hsf
        try go_wp2_with fail
        refine hK.out _ _ ?_ (fun hHeld => ?_)
        · exact T4.out
        clear hK K
        try simp only [Act.put, List.getElem_toArray, List.getElem_cons_succ, List.getElem_cons_zero, List.setIfInBounds_toArray, List.set_cons_zero, List.set_cons_succ]
        refine takesH [10] ?_
        repeat
          refine takesH_one (v := ?_) ?_ ?_
          rotate_left
          · first | (refine Or.inr ⟨by rfl, ?_⟩; with_reducible rfl) | (refine Or.inl ⟨by rfl, ?_⟩; intro wx hSw; (try dsimp only at hSw); first | (go_simp; first | done | with_reducible rfl))
          try simp only [Act.put, List.getElem_toArray, List.getElem_cons_succ, List.getElem_cons_zero, List.setIfInBounds_toArray, List.set_cons_zero, List.set_cons_succ]
        refine takesH_nil ?_
        refine wpAnyH_ready (rs := [11]) (by kernel_rfl) (by simp) (AllReadyH.cons rfl (fun K hK => ?_) AllReadyH.nil)
        go_simp
        refine hK.out _ _ ?_ (fun hHeld => ?_)
        · exact T5.out
        clear hK K
        try simp only [Act.put, List.getElem_toArray, List.getElem_cons_succ, List.getElem_cons_zero, List.setIfInBounds_toArray, List.set_cons_zero, List.set_cons_succ]
        refine wpAnyH_ready (rs := [12]) (by kernel_rfl) (by simp) (AllReadyH.cons rfl (fun K hK => ?_) AllReadyH.nil)
        refine step_ex rfl (.tmp 23) (.tmp 34) _ _ rfl (.slice A3 m c3) (.slice (some ⟨v4.heap.size, 0, none⟩) 1 1) (by simp [Act.eval]) (by simp [Act.eval]) (run_appR w.heap.size (HM.out ▸ C5.out.cur.own) RD.out ?s3 ?s4) ?_
        case s3 => have := HMT.out; have := HN.out; omega
        case s4 => exact C5.out.below.size
        intro v6 w6 ho6 hg6
        obtain ⟨hg6, _⟩ := hg6
        obtain ⟨A6, m6, c6, rfl, hm6, hc6⟩ := C5.out.app (k := [(⟨⟨x.ro.key, x.ro.live, 0, 0, X⟩, A4, c4⟩ : RA)]) (fun y hy => by rw [List.mem_singleton.1 hy]; exact HSF.out) ho6 hg6
        have C6 := Lib.hid hc6
        have T6 := Lib.hid (T5.out.grown C5.out.cur.own hg6 (fun h => Nat.lt_irrefl _ (HOL.out _ h)))
        clear ho6 hg6 hc6 hm6
        refine hK.out _ _ ?_ (fun hHeld => ?_)
        · exact T6.out
        clear hK K
        try simp only [Act.put, List.getElem_toArray, List.getElem_cons_succ, List.getElem_cons_zero, List.setIfInBounds_toArray, List.set_cons_zero, List.set_cons_succ]
        refine takesH [13] ?_
        repeat
          refine takesH_one (v := ?_) ?_ ?_
          rotate_left
          · first | (refine Or.inr ⟨by rfl, ?_⟩; with_reducible rfl) | (refine Or.inl ⟨by rfl, ?_⟩; intro wx hSw; (try dsimp only at hSw); first | (go_simp; first | done | with_reducible rfl))
          try simp only [Act.put, List.getElem_toArray, List.getElem_cons_succ, List.getElem_cons_zero, List.setIfInBounds_toArray, List.set_cons_zero, List.set_cons_succ]
        refine takesH_nil ?_
        refine wpAnyH_done (by kernel_rfl) ?_ _
        have hz1 := T6.out.1
        have hs : ros (M ++ [(⟨⟨x.ro.key, x.ro.live, 0, 0, X⟩, A4, c4⟩ : RA)]) = seenR g now st (ros (L.take (t + 1))) := by
          rw [HTK.out, seenR_snoc, HU.out, if_pos rfl, ← HMR.out, ← HX.out]
          simp [ros, Ro.seenD]
        have HS := Lib.hid hs; have HZ1 := Lib.hid hz1
        clear hs hz1
        go_wp2
        go_roundw
        case rel => exact ⟨t + 1, _, by omega, by go_num, HS.out, by rw [List.length_append, HM.out]; have := HMT.out; simp; omega, C6.out, HZ1.out⟩
        case measure => simp [intOf]; omega
    · obtain rfl : t = n := by omega
      have hs : ros M = seenR g now st (ros L) := by rw [HMR.out, List.take_of_length_le (by rw [HL.out]; exact Nat.le_refl _)]
      have HS := Lib.hid hs
      clear hs
      go_wp2
      go_ret
      first | exact ⟨_, M, rfl, HS.out, HM.out ▸ HO.out⟩ | exact ⟨_, M, rfl, HS.out, HO.out⟩ | exact ⟨_, rfl, M, HS.out, HO.out⟩
end Go.Proofs.Ytafbbojfifcncaa
set_option linter.unusedVariables false
set_option linter.unusedSimpArgs false
namespace Go.Proofs.Ytafbbojfifcncaa
open Go Go.RowKit Go.Joins

theorem filter_snoc {α : Type} (p : α → Bool) (l : List α) (x : α) : (l ++ [x]).filter p = l.filter p ++ (if p x = true then [x] else []) := by
  rw [List.filter_append, filter_one]
set_option maxHeartbeats 8000000 in
theorem rseenrow_any (k s : ByteArray) (d : Bool) (a e g h p now : Int) (A : Option Addr) (n c B : Nat) (l : Cols) (w : World) (hr : RdK w B A n l) (hB : B ≤ w.heap.size) (hn : n ≤ 1000) (hrise : Rise l) (h0 : 0 ≤ g) :
    Calls Try.prog 45 #[.agg #[.string k, .string s, .bool d, .int .i64 a, .int .i64 e, .int .i64 g, .int .i64 h, .slice A n c], .int .i64 p, .int .i64 now] w fun x w' => ∃ v, x = .returned v ∧ Cur w w' v (seenD (max g p) now l) := by
  obtain ⟨R, hR⟩ : ∃ R, seenD (max g p) now l = R := ⟨_, rfl⟩
  rw [hR]
  have hl := hr.1
  have hm0 : 0 ≤ max g p := by omega
  have bz := (Below.refl w.heap.size w).alloc (Nat.le_refl _) (.cells #[.string k, .string s, .bool d, .int .i64 a, .int .i64 e, .int .i64 g, .int .i64 h, .slice A n c] 36)
  have ro := RoAt.new w k s d a e g h A n c
  have BZ := Lib.hid bz; have RO_ := Lib.hid ro; have HR := Lib.hid hR; have HL := Lib.hid hl; have HRK := Lib.hid (hr.below (bz.mono hB)); have HRI := Lib.hid hrise; have HM0 := Lib.hid hm0
  clear bz ro hR hl hr hrise hm0
  obtain ⟨Z, hZ⟩ : ∃ U, U = w.alloc (.cells #[.string k, .string s, .bool d, .int .i64 a, .int .i64 e, .int .i64 g, .int .i64 h, .slice A n c] 36) := ⟨_, rfl⟩
  have hZs : Z.heap.size = w.heap.size + 1 := by rw [hZ]; simp
  rw [← hZ] at BZ RO_ HRK
  have HZS := Lib.hid hZs
  clear hZs
  go_enter Try.func45, Try.ntmps45
  go_wp2_with fail
  rw [← hZ]
  clear hZ
  go_loopw [7, 8] (fun v i wr => ∃ (t : Nat) (C : Cols), t ≤ n ∧ i = .int .i64 t ∧ seenD (max g p) now (l.take t) = C ∧ Cur Z wr v C) (fun _ i _ => n - (intOf i).toNat)
  case atStart => exact ⟨0, [], Nat.zero_le _, rfl, rfl, own_nilK _ _, Below.refl _ _⟩
  case round =>
    obtain ⟨t, C, ht, rfl, hC, hcur⟩ := hrel
    obtain ⟨A1, c1, rfl, h1a, h1b, h1c, h1d⟩ := hcur.slice
    have HC := Lib.hid hC; have HCU := Lib.hid hcur
    have hCl : C.length ≤ 1000 := by rw [← hC]; exact Nat.le_trans (List.length_filter_le _ _) (by rw [List.length_take, HL.out]; omega)
    have HCL := Lib.hid hCl
    obtain ⟨m1, hm1⟩ : ∃ m, C.length = m := ⟨_, rfl⟩
    have HM1 := Lib.hid hm1
    rw [hm1] at HCU ⊢
    clear hC hcur h1a h1b h1c h1d hCl hm1
    obtain ⟨_, _, _, _, _, _, _, _⟩ := RO_.out.below HCU.out.below (by have := HZS.out; omega)
    by_cases hlt : t < n
    · have i1 : (t : Int) < n := by omega
      have i0 : (0 : Int) ≤ t := by omega
      have htl : t < l.length := by rw [HL.out]; exact hlt
      have hws : w.heap.size + 1 ≤ wr.heap.size := by have := HCU.out.below.size; have := HZS.out; omega
      have hrd : ∀ w', Below wr.heap.size wr w' → RdK w' B A n l := fun w' hb => (HRK.out.below (HCU.out.below.mono (by have := HZS.out; omega))).below (hb.mono (by omega))
      obtain ⟨g0, o0, rfl, hg0, hc⟩ := (hrd wr (Below.refl _ _)).2 (by omega)
      have hct := hc t htl
      obtain ⟨⟨m, ⟨cs, cd, ca, ce⟩⟩, hx⟩ : ∃ x, l[t] = x := ⟨_, rfl⟩
      have hget : getC l m = ⟨cs, cd, ca, ce⟩ := by
        have := getC_mem HRI.out (List.getElem_mem htl)
        rw [hx] at this
        exact this
      rw [hx] at hct
      simp only at hct
      have hallz : ∀ w', Below Z.heap.size Z w' → (w'.cell? ⟨w.heap.size, 0, none⟩ = some (.string k) ∧ w'.cell? ⟨w.heap.size, 1, none⟩ = some (.string s) ∧ w'.cell? ⟨w.heap.size, 2, none⟩ = some (.bool d) ∧ w'.cell? ⟨w.heap.size, 3, none⟩ = some (.int .i64 a) ∧ w'.cell? ⟨w.heap.size, 4, none⟩ = some (.int .i64 e) ∧ w'.cell? ⟨w.heap.size, 5, none⟩ = some (.int .i64 g) ∧ w'.cell? ⟨w.heap.size, 6, none⟩ = some (.int .i64 h) ∧ w'.cell? ⟨w.heap.size, 7, none⟩ = some (.slice (some ⟨g0, o0, none⟩) n c)) ∧ w'.cell? ⟨g0, o0 + t * 5, none⟩ = some (.string m) ∧ w'.cell? ⟨g0, o0 + t * 5 + 1, none⟩ = some (.string cs) ∧ w'.cell? ⟨g0, o0 + t * 5 + 2, none⟩ = some (.bool cd) ∧ w'.cell? ⟨g0, o0 + t * 5 + 3, none⟩ = some (.int .i64 ca) ∧ w'.cell? ⟨g0, o0 + t * 5 + 4, none⟩ = some (.int .i64 ce) := fun w' hb => by
        obtain ⟨g1, o1, e1, hg1, hc1⟩ := (HRK.out.below (hb.mono (show B ≤ Z.heap.size by have := HZS.out; omega))).2 (by omega)
        injection e1 with e1
        injection e1 with e1 e2 _
        subst e1; subst e2
        have hc2 := hc1 t htl
        rw [hx] at hc2
        exact ⟨RO_.out.below hb (by have := HZS.out; omega), hc2⟩
      have HALLZ := Lib.hid hallz
      clear hallz
      have hall : ∀ w', Below wr.heap.size wr w' → (w'.cell? ⟨w.heap.size, 0, none⟩ = some (.string k) ∧ w'.cell? ⟨w.heap.size, 1, none⟩ = some (.string s) ∧ w'.cell? ⟨w.heap.size, 2, none⟩ = some (.bool d) ∧ w'.cell? ⟨w.heap.size, 3, none⟩ = some (.int .i64 a) ∧ w'.cell? ⟨w.heap.size, 4, none⟩ = some (.int .i64 e) ∧ w'.cell? ⟨w.heap.size, 5, none⟩ = some (.int .i64 g) ∧ w'.cell? ⟨w.heap.size, 6, none⟩ = some (.int .i64 h) ∧ w'.cell? ⟨w.heap.size, 7, none⟩ = some (.slice (some ⟨g0, o0, none⟩) n c)) ∧ w'.cell? ⟨g0, o0 + t * 5, none⟩ = some (.string m) ∧ w'.cell? ⟨g0, o0 + t * 5 + 1, none⟩ = some (.string cs) ∧ w'.cell? ⟨g0, o0 + t * 5 + 2, none⟩ = some (.bool cd) ∧ w'.cell? ⟨g0, o0 + t * 5 + 3, none⟩ = some (.int .i64 ca) ∧ w'.cell? ⟨g0, o0 + t * 5 + 4, none⟩ = some (.int .i64 ce) := fun w' hb => by
        obtain ⟨d0, d1, d2, d3, d4⟩ := hct
        have hgw : g0 < wr.heap.size := by omega
        exact ⟨(RO_.out.below HCU.out.below (by have := HZS.out; omega)).below hb (by omega), (hb.cell (p := ⟨g0, _, none⟩) hgw).trans d0, (hb.cell (p := ⟨g0, _, none⟩) hgw).trans d1, (hb.cell (p := ⟨g0, _, none⟩) hgw).trans d2, (hb.cell (p := ⟨g0, _, none⟩) hgw).trans d3, (hb.cell (p := ⟨g0, _, none⟩) hgw).trans d4⟩
      obtain ⟨ok, hok⟩ : ∃ u, cnt (max g p) ⟨cs, cd, ca, ce⟩ = u := ⟨_, rfl⟩
      obtain ⟨⟨xs, xd, xa, xe⟩, hbx⟩ : ∃ u, bestC (max g p) ⟨cs, cd, ca, ce⟩ = u := ⟨_, rfl⟩
      have BX := Lib.hid (show (bestC (max g p) (getC l m)).v = .agg #[.string xs, .bool xd, .int .i64 xa, .int .i64 xe] by rw [hget, hbx]; rfl)
      have CX := Lib.hid (show cnt (max g p) (getC l m) = ok by rw [hget]; exact hok)
      have htake : l.take (t + 1) = l.take t ++ [(m, ⟨cs, cd, ca, ce⟩)] := by rw [List.take_succ_eq_append_getElem htl, hx]
      have hnext : seenD (max g p) now (l.take (t + 1)) = C ++ (if (ok && Ce.seen ⟨cs, cd, ca, ce⟩ now) = true then [(m, ⟨cs, cd, ca, ce⟩)] else []) := by
        have h1 := HC.out
        unfold seenD at h1 ⊢
        rw [htake, filter_snoc, h1]
        simp only
        rw [cntD_eq HM0.out, hok]
      have HNEXT := Lib.hid hnext; have HALL := Lib.hid hall; have HRD := Lib.hid hrd; have HWS := Lib.hid hws; have HOK := Lib.hid hok; have HBX := Lib.hid hbx
      clear hnext htake hall hrd hws hok hbx hget hct hc hx
      go_wp2_with fail
      go_cut [9, 10] from 18 to 29 (fun s9 s10 wx => ∃ q, s9 = .pointer (some ⟨q, 0, none⟩) ∧ s10 = .bool ok ∧ wr.heap.size ≤ q ∧ wx.heap[q]? = some (.cells #[.string xs, .bool xd, .int .i64 xa, .int .i64 xe] 33) ∧ Below wr.heap.size wr wx)
      case first =>
        refine wp_region_held_drew (S := fun w' => Below wr.heap.size wr w') (by kernel_rfl) ?_ (fun hHeld => ?_)
        · exact (Below.refl _ _).drew
        refine takesH [0, 1, 2, 3, 4, 5, 6, 7] ?_
        repeat
          refine takesH_one (v := ?_) ?_ ?_
          rotate_left
          · first | (refine Or.inr ⟨by rfl, ?_⟩; with_reducible rfl) | (refine Or.inl ⟨by rfl, ?_⟩; intro wx hSw; (try dsimp only at hSw); first | (go_simp; first | done | with_reducible rfl) | (obtain ⟨⟨_, _, _, _, _, _, _, _⟩, _, _, _, _, _⟩ := HALL.out _ hSw; go_simp; first | done | with_reducible rfl))
          try simp only [Act.put, List.getElem_toArray, List.getElem_cons_succ, List.getElem_cons_zero, List.setIfInBounds_toArray, List.set_cons_zero, List.set_cons_succ]
        refine takesH_nil ?_
        refine wpAnyH_ready (rs := [8, 12]) (by kernel_rfl) (by simp) (AllReadyH.cons rfl (fun K hK => ?_) (AllReadyH.cons rfl (fun K hK => ?_) AllReadyH.nil))
        · go_simp
          refine (rbest_any _ _ _ _ _ _ _ _ _ n c B l _ _ (HRD.out _ hHeld) (by have := hHeld.size; have := HWS.out; omega) (by omega)).mono ?_
          rintro x v1 ⟨rfl, b1⟩
          rw [BX.out, CX.out]
          have CB1 := Lib.hid (hHeld.trans (b1.mono hHeld.size))
          clear b1
          try go_wp2_with fail
          refine hK.out _ _ ?_ (fun hHeld => ?_)
          · exact CB1.out
          clear hK K
          try simp only [Act.put, List.getElem_toArray, List.getElem_cons_succ, List.getElem_cons_zero, List.setIfInBounds_toArray, List.set_cons_zero, List.set_cons_succ]
          refine takesH [9, 10, 11] ?_
          repeat
            refine takesH_one (v := ?_) ?_ ?_
            rotate_left
            · first | (refine Or.inr ⟨by rfl, ?_⟩; with_reducible rfl) | (refine Or.inl ⟨by rfl, ?_⟩; intro wx hSw; (try dsimp only at hSw); first | (go_simp; first | done | with_reducible rfl))
            try simp only [Act.put, List.getElem_toArray, List.getElem_cons_succ, List.getElem_cons_zero, List.setIfInBounds_toArray, List.set_cons_zero, List.set_cons_succ]
          refine takesH_nil ?_
          refine wpAnyH_ready (rs := [12]) (by kernel_rfl) (by simp) (AllReadyH.cons rfl (fun K hK => ?_) AllReadyH.nil)
          go_simp
          have RZ := Lib.hid (heap_alloc_new v1 (.cells #[.string ⟨#[]⟩, .bool false, .int .i64 0, .int .i64 0] 33))
          have CBa : Below wr.heap.size wr (v1.alloc (.cells #[.string ⟨#[]⟩, .bool false, .int .i64 0, .int .i64 0] 33)) := hHeld.alloc hHeld.size _
          have HRR := Lib.hid (show wr.heap.size ≤ (v1).heap.size from hHeld.size)
          generalize v1.alloc (.cells #[.string ⟨#[]⟩, .bool false, .int .i64 0, .int .i64 0] 33) = wa at *
          refine hK.out _ _ ?_ (fun hHeld => ?_)
          · exact CBa
          clear hK K
          try simp only [Act.put, List.getElem_toArray, List.getElem_cons_succ, List.getElem_cons_zero, List.setIfInBounds_toArray, List.set_cons_zero, List.set_cons_succ]
          refine wpAnyH_ready (rs := [13]) (by kernel_rfl) (by simp) (AllReadyH.cons rfl (fun K hK => ?_) AllReadyH.nil)
          have mm0 := block_setCell (i := 0) RZ.out (.string xs)
          have mm1 := block_setCell (i := 1) mm0 (.bool xd)
          have mm2 := block_setCell (i := 2) mm1 (.int .i64 xa)
          have mm3 := block_setCell (i := 3) mm2 (.int .i64 xe)
          simp only [List.setIfInBounds_toArray, List.set_cons_zero, List.set_cons_succ] at mm0 mm1 mm2 mm3
          have q0 := cell_at (i := 0) RZ.out rfl
          have q1 := cell_at (i := 1) mm0 rfl
          have q2 := cell_at (i := 2) mm1 rfl
          have q3 := cell_at (i := 3) mm2 rfl
          have f0 := thawed_at (i := 0) RZ.out
          have f1 := thawed_at (i := 1) mm0
          have f2 := thawed_at (i := 2) mm1
          have f3 := thawed_at (i := 3) mm2
          have MM3 := Lib.hid mm3
          clear mm0 mm1 mm2 mm3
          go_simp
          refine hK.out _ _ ?_ (fun hHeld => ?_)
          · exact (((hHeld.setCell HRR.out _).setCell HRR.out _).setCell HRR.out _).setCell HRR.out _
          clear hK K
          try simp only [Act.put, List.getElem_toArray, List.getElem_cons_succ, List.getElem_cons_zero, List.setIfInBounds_toArray, List.set_cons_zero, List.set_cons_succ]
          clear q0 q1 q2 q3 f0 f1 f2 f3
          refine takesH [14] ?_
          repeat
            refine takesH_one (v := ?_) ?_ ?_
            rotate_left
            · first | (refine Or.inr ⟨by rfl, ?_⟩; with_reducible rfl) | (refine Or.inl ⟨by rfl, ?_⟩; intro wx hSw; (try dsimp only at hSw); first | (go_simp; first | done | with_reducible rfl))
            try simp only [Act.put, List.getElem_toArray, List.getElem_cons_succ, List.getElem_cons_zero, List.setIfInBounds_toArray, List.set_cons_zero, List.set_cons_succ]
          refine takesH_nil ?_
          refine wpAnyH_done (by kernel_rfl) ?_ _
          go_wp2_with fail
          go_meet
          exact ⟨_, rfl, rfl, HRR.out, MM3.out, hHeld⟩
        · go_simp
          have HRR := Lib.hid (show wr.heap.size ≤ (wr.drew).heap.size from hHeld.size)
          have RZ : Hid (((wr.alloc (.cells #[.string ⟨#[]⟩, .bool false, .int .i64 0, .int .i64 0] 33)).drew).heap[wr.heap.size]? = some ((.cells #[.string ⟨#[]⟩, .bool false, .int .i64 0, .int .i64 0] 33))) := Lib.hid (heap_alloc_new wr _)
          have CBa : Below wr.heap.size wr ((wr.alloc (.cells #[.string ⟨#[]⟩, .bool false, .int .i64 0, .int .i64 0] 33)).drew) := ((Below.refl wr.heap.size wr).alloc (Nat.le_refl _) _).drew
          generalize (wr.alloc (.cells #[.string ⟨#[]⟩, .bool false, .int .i64 0, .int .i64 0] 33)).drew = wa at *
          refine hK.out _ _ ?_ (fun hHeld => ?_)
          · exact CBa
          clear hK K
          try simp only [Act.put, List.getElem_toArray, List.getElem_cons_succ, List.getElem_cons_zero, List.setIfInBounds_toArray, List.set_cons_zero, List.set_cons_succ]
          refine wpAnyH_ready (rs := [8]) (by kernel_rfl) (by simp) (AllReadyH.cons rfl (fun K hK => ?_) AllReadyH.nil)
          go_simp
          refine (rbest_any _ _ _ _ _ _ _ _ _ n c B l _ _ (HRD.out _ hHeld) (by have := hHeld.size; have := HWS.out; omega) (by omega)).mono ?_
          rintro x v1 ⟨rfl, b1⟩
          rw [BX.out, CX.out]
          have CB1 := Lib.hid (hHeld.trans (b1.mono hHeld.size))
          have RZ := Lib.hid ((b1.block _ (Array.getElem?_eq_some_iff.1 RZ.out).1).trans RZ.out)
          clear b1
          try go_wp2_with fail
          refine hK.out _ _ ?_ (fun hHeld => ?_)
          · exact CB1.out
          clear hK K
          try simp only [Act.put, List.getElem_toArray, List.getElem_cons_succ, List.getElem_cons_zero, List.setIfInBounds_toArray, List.set_cons_zero, List.set_cons_succ]
          refine takesH [9, 10, 11] ?_
          repeat
            refine takesH_one (v := ?_) ?_ ?_
            rotate_left
            · first | (refine Or.inr ⟨by rfl, ?_⟩; with_reducible rfl) | (refine Or.inl ⟨by rfl, ?_⟩; intro wx hSw; (try dsimp only at hSw); first | (go_simp; first | done | with_reducible rfl))
            try simp only [Act.put, List.getElem_toArray, List.getElem_cons_succ, List.getElem_cons_zero, List.setIfInBounds_toArray, List.set_cons_zero, List.set_cons_succ]
          refine takesH_nil ?_
          refine wpAnyH_ready (rs := [13]) (by kernel_rfl) (by simp) (AllReadyH.cons rfl (fun K hK => ?_) AllReadyH.nil)
          have mm0 := block_setCell (i := 0) RZ.out (.string xs)
          have mm1 := block_setCell (i := 1) mm0 (.bool xd)
          have mm2 := block_setCell (i := 2) mm1 (.int .i64 xa)
          have mm3 := block_setCell (i := 3) mm2 (.int .i64 xe)
          simp only [List.setIfInBounds_toArray, List.set_cons_zero, List.set_cons_succ] at mm0 mm1 mm2 mm3
          have q0 := cell_at (i := 0) RZ.out rfl
          have q1 := cell_at (i := 1) mm0 rfl
          have q2 := cell_at (i := 2) mm1 rfl
          have q3 := cell_at (i := 3) mm2 rfl
          have f0 := thawed_at (i := 0) RZ.out
          have f1 := thawed_at (i := 1) mm0
          have f2 := thawed_at (i := 2) mm1
          have f3 := thawed_at (i := 3) mm2
          have MM3 := Lib.hid mm3
          clear mm0 mm1 mm2 mm3
          go_simp
          refine hK.out _ _ ?_ (fun hHeld => ?_)
          · exact (((hHeld.setCell HRR.out _).setCell HRR.out _).setCell HRR.out _).setCell HRR.out _
          clear hK K
          try simp only [Act.put, List.getElem_toArray, List.getElem_cons_succ, List.getElem_cons_zero, List.setIfInBounds_toArray, List.set_cons_zero, List.set_cons_succ]
          clear q0 q1 q2 q3 f0 f1 f2 f3
          refine takesH [14] ?_
          repeat
            refine takesH_one (v := ?_) ?_ ?_
            rotate_left
            · first | (refine Or.inr ⟨by rfl, ?_⟩; with_reducible rfl) | (refine Or.inl ⟨by rfl, ?_⟩; intro wx hSw; (try dsimp only at hSw); first | (go_simp; first | done | with_reducible rfl))
            try simp only [Act.put, List.getElem_toArray, List.getElem_cons_succ, List.getElem_cons_zero, List.setIfInBounds_toArray, List.set_cons_zero, List.set_cons_succ]
          refine takesH_nil ?_
          refine wpAnyH_done (by kernel_rfl) ?_ _
          go_wp2_with fail
          go_meet
          exact ⟨_, rfl, rfl, HRR.out, MM3.out, hHeld⟩
      case rest =>
        obtain ⟨q, rfl, rfl, hqw, hzq, hbq⟩ := hcut
        have hC1 := HCU.out.on hbq
        have ZQ := Lib.hid hzq; have BQ := Lib.hid hbq; have C2 := Lib.hid hC1
        clear hzq hbq hC1 BX CX
        have z0 := cell_at (i := 0) ZQ.out rfl
        have z1 := cell_at (i := 1) ZQ.out rfl
        have z2 := cell_at (i := 2) ZQ.out rfl
        have z3 := cell_at (i := 3) ZQ.out rfl
        cases ok
        · have hn2 : seenD (max g p) now (l.take (t + 1)) = C := by rw [HNEXT.out, Bool.false_and]; simp
          have HN2 := Lib.hid hn2
          clear hn2
          go_wp2
          go_roundw
          case rel => exact ⟨t + 1, C, by omega, by go_num, HN2.out, C2.out⟩
          case measure => simp [intOf]; omega
        · have hbx : bestC (max g p) ⟨cs, cd, ca, ce⟩ = ⟨cs, cd, ca, ce⟩ := if_pos HOK.out
          rw [HBX.out] at hbx
          injection hbx with e1 e2 e3 e4
          subst e1; subst e2; subst e3; subst e4
          obtain ⟨u, hu⟩ : ∃ u, Ce.seen ⟨xs, xd, xa, xe⟩ now = u := ⟨_, rfl⟩
          have HUU := Lib.hid hu
          clear hu
          go_wp2_with fail
          refine (rseen_any _ _ _ _ _ _).mono ?_
          rintro x w3 ⟨rfl, b3⟩
          rw [HUU.out]
          have C3 := Lib.hid (C2.out.on b3)
          have ZQ3 := Lib.hid ((b3.block q (Array.getElem?_eq_some_iff.1 ZQ.out).1).trans ZQ.out)
          clear b3 z0 z1 z2 z3
          cases u
          · have hn2 : seenD (max g p) now (l.take (t + 1)) = C := by rw [HNEXT.out, HUU.out]; simp
            have HN2 := Lib.hid hn2
            clear hn2
            go_wp2
            go_roundw
            case rel => exact ⟨t + 1, C, by omega, by go_num, HN2.out, C3.out⟩
            case measure => simp [intOf]; omega
          · have hn2 : seenD (max g p) now (l.take (t + 1)) = C ++ [(m, ⟨xs, xd, xa, xe⟩)] := by rw [HNEXT.out, HUU.out]; simp
            have HN2 := Lib.hid hn2
            have C5 := Lib.hid (C3.out.on (((Below.refl w3.heap.size w3).drew).alloc (Nat.le_refl _) (.cells #[.string m, .string xs, .bool xd, .int .i64 xa, .int .i64 xe] 66)))
            have RD := Lib.hid (RdK.one w3.drew (m, ⟨xs, xd, xa, xe⟩) w3.drew.heap.size rfl)
            clear hn2
            go_wp2_with fail
            refine wp_region_held_drew (S := fun w' => Below Z.heap.size Z w' ∧ w'.heap[q]? = some (.cells #[.string xs, .bool xd, .int .i64 xa, .int .i64 xe] 33)) (by kernel_rfl) ?_ (fun hHeld => ?_)
            · exact ⟨C3.out.below.drew, ZQ3.out⟩
            refine takesH [0, 1, 2, 3, 4, 5, 6, 7, 8] ?_
            repeat
              refine takesH_one (v := ?_) ?_ ?_
              rotate_left
              · first | (refine Or.inr ⟨by rfl, ?_⟩; with_reducible rfl) | (refine Or.inl ⟨by rfl, ?_⟩; intro wx hSw; (try dsimp only at hSw); first | (go_simp; first | done | with_reducible rfl) | (obtain ⟨⟨_, _, _, _, _, _, _, _⟩, _, _, _, _, _⟩ := HALLZ.out _ hSw.1; go_simp; first | done | with_reducible rfl) | (have z0 := cell_at (i := 0) hSw.2 rfl; have z1 := cell_at (i := 1) hSw.2 rfl; have z2 := cell_at (i := 2) hSw.2 rfl; have z3 := cell_at (i := 3) hSw.2 rfl; go_simp; first | done | with_reducible rfl))
              try simp only [Act.put, List.getElem_toArray, List.getElem_cons_succ, List.getElem_cons_zero, List.setIfInBounds_toArray, List.set_cons_zero, List.set_cons_succ]
            refine takesH_nil ?_
            refine wpAnyH_ready (rs := [9]) (by kernel_rfl) (by simp) (AllReadyH.cons rfl (fun K hK => ?_) AllReadyH.nil)
            go_simp
            refine hK.out _ _ ?_ (fun hHeld => ?_)
            · exact ⟨C5.out.below, new_at hHeld.2 _⟩
            clear hK K
            try simp only [Act.put, List.getElem_toArray, List.getElem_cons_succ, List.getElem_cons_zero, List.setIfInBounds_toArray, List.set_cons_zero, List.set_cons_succ]
            refine wpAnyH_ready (rs := [10]) (by kernel_rfl) (by simp) (AllReadyH.cons rfl (fun K hK => ?_) AllReadyH.nil)
            refine step_ex rfl (.tmp 36) (.tmp 45) _ _ rfl (.slice A1 m1 c1) (.slice (some ⟨w3.heap.size, 0, none⟩) 1 1) (by simp [Act.eval]) (by simp [Act.eval]) (run_appK Z.heap.size C5.out.own RD.out ?s3 ?s4) ?_
            case s3 => have := HCL.out; omega
            case s4 => exact C5.out.below.size
            intro v6 w6 ho6 hg6
            obtain ⟨hg6, _⟩ := hg6
            have hq6 := (hg6.block q (Array.getElem?_eq_some_iff.1 hHeld.2).1 (fun e => own_ne C5.out.own hHeld.2 (by decide) q e.symm rfl)).trans hHeld.2
            obtain ⟨A6, m6, c6, rfl, hc6⟩ := C5.out.appN ho6 hg6
            have C6 := Lib.hid hc6
            clear ho6 hg6 hc6
            refine hK.out _ _ ?_ (fun hHeld => ?_)
            · exact ⟨C6.out.below, hq6⟩
            clear hK K
            try simp only [Act.put, List.getElem_toArray, List.getElem_cons_succ, List.getElem_cons_zero, List.setIfInBounds_toArray, List.set_cons_zero, List.set_cons_succ]
            refine takesH [11] ?_
            repeat
              refine takesH_one (v := ?_) ?_ ?_
              rotate_left
              · first | (refine Or.inr ⟨by rfl, ?_⟩; with_reducible rfl) | (refine Or.inl ⟨by rfl, ?_⟩; intro wx hSw; (try dsimp only at hSw); first | (go_simp; first | done | with_reducible rfl))
              try simp only [Act.put, List.getElem_toArray, List.getElem_cons_succ, List.getElem_cons_zero, List.setIfInBounds_toArray, List.set_cons_zero, List.set_cons_succ]
            refine takesH_nil ?_
            refine wpAnyH_done (by kernel_rfl) ?_ _
            clear hq6 hHeld
            go_wp2
            go_roundw
            case rel =>
              obtain ⟨A7, c7, e7, _⟩ := C6.out.slice
              injection e7 with e7 e8 e9
              subst e8
              exact ⟨t + 1, _, by omega, by go_num, HN2.out, C6.out⟩
            case measure => simp [intOf]; omega
    · obtain rfl : t = n := by omega
      have d0 : decide ((t : Int) < (t : Int)) = false := by simp
      have hfin : C = R := by
        have h1 := HC.out
        rw [List.take_of_length_le (by rw [HL.out]; exact Nat.le_refl _), HR.out] at h1
        exact h1.symm
      go_wp2
      go_ret
      refine ⟨.slice A1 m1 c1, rfl, ?_⟩
      rw [← hfin]
      exact ⟨own_base HCU.out.own BZ.out.size, next BZ.out HCU.out.below⟩
set_option maxHeartbeats 4000000 in
theorem risrow_any (k s : ByteArray) (d : Bool) (a e g h p now : Int) (st : Bool) (A : Option Addr) (n c B : Nat) (l : Cols) (w : World) (hr : RdK w B A n l) (hB : B ≤ w.heap.size) (hn : n ≤ 1000) (hrise : Rise l) (h0 : 0 ≤ g) :
    Calls Try.prog 44 #[.agg #[.string k, .string s, .bool d, .int .i64 a, .int .i64 e, .int .i64 g, .int .i64 h, .slice A n c], .int .i64 p, .int .i64 now, .bool st] w fun x w' => x = .returned (.bool (isD ⟨s, d, a, e⟩ g h p now l st)) ∧ Below w.heap.size w w' := by
  obtain ⟨r, hrr⟩ : ∃ r, isD ⟨s, d, a, e⟩ g h p now l st = r := ⟨_, rfl⟩
  rw [hrr]
  obtain ⟨mx, hmx⟩ : ∃ m, max g p = m := ⟨_, rfl⟩
  obtain ⟨u1, hu1⟩ : ∃ u, Ce.seen ⟨s, d, a, e⟩ now = u := ⟨_, rfl⟩
  obtain ⟨u2, d2⟩ : ∃ u, decide (mx < a) = u := ⟨_, rfl⟩
  obtain ⟨u3, d3⟩ : ∃ u, decide (h < a) = u := ⟨_, rfl⟩
  obtain ⟨C, hC⟩ : ∃ C, seenD mx now l = C := ⟨_, rfl⟩
  have hmm : decide (max mx h < a) = (u2 && u3) := by
    rw [← d2, ← d3, Bool.eq_iff_iff, Bool.and_eq_true, decide_eq_true_iff, decide_eq_true_iff, decide_eq_true_iff]
    omega
  unfold isD at hrr
  rw [hu1, hmx] at hrr
  simp only at hrr
  rw [hmm, hC] at hrr
  have RR := Lib.hid hrr; have MX := Lib.hid hmx; have U1 := Lib.hid hu1; have HC := Lib.hid hC; have HRISE := Lib.hid hrise
  have bz := (Below.refl w.heap.size w).alloc (Nat.le_refl _) (.cells #[.string k, .string s, .bool d, .int .i64 a, .int .i64 e, .int .i64 g, .int .i64 h, .slice A n c] 36)
  have ro := RoAt.new w k s d a e g h A n c
  have BZ := Lib.hid bz; have RO_ := Lib.hid ro; have HR := Lib.hid (hr.below (bz.mono hB))
  clear bz hmx hr hrr hu1 hC ro hmm hrise
  obtain ⟨U, hU⟩ : ∃ U, U = w.alloc (.cells #[.string k, .string s, .bool d, .int .i64 a, .int .i64 e, .int .i64 g, .int .i64 h, .slice A n c] 36) := ⟨_, rfl⟩
  have hUs : U.heap.size = w.heap.size + 1 := by rw [hU]; simp
  rw [← hU] at BZ RO_ HR
  have hall : ∀ w', Below U.heap.size U w' → w'.cell? ⟨w.heap.size, 0, none⟩ = some (.string k) ∧ w'.cell? ⟨w.heap.size, 1, none⟩ = some (.string s) ∧ w'.cell? ⟨w.heap.size, 2, none⟩ = some (.bool d) ∧ w'.cell? ⟨w.heap.size, 3, none⟩ = some (.int .i64 a) ∧ w'.cell? ⟨w.heap.size, 4, none⟩ = some (.int .i64 e) ∧ w'.cell? ⟨w.heap.size, 5, none⟩ = some (.int .i64 g) ∧ w'.cell? ⟨w.heap.size, 6, none⟩ = some (.int .i64 h) ∧ w'.cell? ⟨w.heap.size, 7, none⟩ = some (.slice A n c) := fun w' hb => RO_.out.below hb (by omega)
  have HALL := Lib.hid hall; have HUS := Lib.hid hUs
  clear hall hUs
  go_enter Try.func44, Try.ntmps44
  go_wp2_with fail
  rw [← hU]
  clear hU
  cases u1
  · clear d2 d3
    refine wp_region_held_drew (S := fun w' => Below U.heap.size U w') (by kernel_rfl) ?_ (fun hHeld => ?_)
    · exact (Below.refl _ _).drew
    refine takesH [0, 1, 2] ?_
    repeat
      refine takesH_one (v := ?_) ?_ ?_
      rotate_left
      · first | (refine Or.inr ⟨by rfl, ?_⟩; with_reducible rfl) | (refine Or.inl ⟨by rfl, ?_⟩; intro wx hSw; (try dsimp only at hSw); first | (go_simp; first | done | with_reducible rfl) | (obtain ⟨_, _, _, _, _, _, _, _⟩ := HALL.out _ hSw; go_simp; first | done | with_reducible rfl))
      try simp only [Act.put, List.getElem_toArray, List.getElem_cons_succ, List.getElem_cons_zero, List.setIfInBounds_toArray, List.set_cons_zero, List.set_cons_succ]
    refine takesH_nil ?_
    refine wpAnyH_ready (rs := [3]) (by kernel_rfl) (by simp) (AllReadyH.cons rfl (fun K hK => ?_) AllReadyH.nil)
    go_simp
    refine (rseen_any _ _ _ _ _ _).mono ?_
    rintro x v1 ⟨rfl, b1⟩
    rw [U1.out]
    try go_wp2_with fail
    refine hK.out _ _ ?_ (fun hHeld => ?_)
    · exact next (by assumption) b1
    clear hK K
    try simp only [Act.put, List.getElem_toArray, List.getElem_cons_succ, List.getElem_cons_zero, List.setIfInBounds_toArray, List.set_cons_zero, List.set_cons_succ]
    refine takesH [4, 5, 6, 7, 8, 9, 10, 11, 12, 13, 14, 15, 16, 17, 18, 19, 20] ?_
    repeat
      refine takesH_one (v := ?_) ?_ ?_
      rotate_left
      · first | (refine Or.inr ⟨by rfl, ?_⟩; with_reducible rfl) | (refine Or.inl ⟨by rfl, ?_⟩; intro wx hSw; (try dsimp only at hSw); first | (go_simp; first | done | with_reducible rfl))
      try simp only [Act.put, List.getElem_toArray, List.getElem_cons_succ, List.getElem_cons_zero, List.setIfInBounds_toArray, List.set_cons_zero, List.set_cons_succ]
    refine takesH_nil ?_
    refine wpAnyH_done (by kernel_rfl) ?_ _
    obtain ⟨_, _, _, _, _, _, _, _⟩ := HALL.out _ hHeld
    have BL := Lib.hid (next BZ.out hHeld)
    have HRL := Lib.hid (HR.out.below (hHeld.mono (by have := HUS.out; omega)))
    cases st
    · go_wp2_with fail
      refine (rseenrow_any _ _ _ _ _ _ _ _ _ A n c B l _ HRL.out (by have := BL.out.size; omega) hn HRISE.out h0).mono ?_
      rintro x v5 ⟨v, rfl, hcur⟩
      rw [MX.out, HC.out] at hcur
      obtain ⟨A1, c1, rfl, _⟩ := hcur.slice
      have hv : decide (0 < C.length) = r := by rw [← RR.out]; simp
      have hvi : decide ((0 : Int) < (C.length : Nat)) = r := by rw [← hv]; simp
      have b5 := Lib.hid hcur.below
      clear hcur
      go_wp2
      go_ret
      exact ⟨rfl, next BL.out b5.out⟩
    · have hv : r = false := by rw [← RR.out]; simp
      subst hv
      go_wp2
      go_ret
      exact ⟨rfl, BL.out⟩
  · cases u2
    · refine wp_region_held_drew (S := fun w' => Below U.heap.size U w') (by kernel_rfl) ?_ (fun hHeld => ?_)
      · exact (Below.refl _ _).drew
      refine takesH [0, 1, 2] ?_
      repeat
        refine takesH_one (v := ?_) ?_ ?_
        rotate_left
        · first | (refine Or.inr ⟨by rfl, ?_⟩; with_reducible rfl) | (refine Or.inl ⟨by rfl, ?_⟩; intro wx hSw; (try dsimp only at hSw); first | (go_simp; first | done | with_reducible rfl) | (obtain ⟨_, _, _, _, _, _, _, _⟩ := HALL.out _ hSw; go_simp; first | done | with_reducible rfl))
        try simp only [Act.put, List.getElem_toArray, List.getElem_cons_succ, List.getElem_cons_zero, List.setIfInBounds_toArray, List.set_cons_zero, List.set_cons_succ]
      refine takesH_nil ?_
      refine wpAnyH_ready (rs := [3]) (by kernel_rfl) (by simp) (AllReadyH.cons rfl (fun K hK => ?_) AllReadyH.nil)
      go_simp
      refine (rseen_any _ _ _ _ _ _).mono ?_
      rintro x v1 ⟨rfl, b1⟩
      rw [U1.out]
      try go_wp2_with fail
      refine hK.out _ _ ?_ (fun hHeld => ?_)
      · exact next (by assumption) b1
      clear hK K
      try simp only [Act.put, List.getElem_toArray, List.getElem_cons_succ, List.getElem_cons_zero, List.setIfInBounds_toArray, List.set_cons_zero, List.set_cons_succ]
      refine takesH [4, 5, 6, 7, 8, 9] ?_
      repeat
        refine takesH_one (v := ?_) ?_ ?_
        rotate_left
        · first | (refine Or.inr ⟨by rfl, ?_⟩; with_reducible rfl) | (refine Or.inl ⟨by rfl, ?_⟩; intro wx hSw; (try dsimp only at hSw); first | (go_simp; first | done | with_reducible rfl) | (obtain ⟨_, _, _, _, _, _, _, _⟩ := HALL.out _ hSw; go_simp; first | done | with_reducible rfl))
        try simp only [Act.put, List.getElem_toArray, List.getElem_cons_succ, List.getElem_cons_zero, List.setIfInBounds_toArray, List.set_cons_zero, List.set_cons_succ]
      refine takesH_nil ?_
      refine wpAnyH_ready (rs := [10]) (by kernel_rfl) (by simp) (AllReadyH.cons rfl (fun K hK => ?_) AllReadyH.nil)
      go_simp
      refine (rgone_any _ _ _ _ _ _ _ _ _ _ _ _).mono ?_
      rintro x v2 ⟨rfl, b2⟩
      rw [MX.out]
      try go_wp2_with fail
      refine hK.out _ _ ?_ (fun hHeld => ?_)
      · exact next (by assumption) b2
      clear hK K
      try simp only [Act.put, List.getElem_toArray, List.getElem_cons_succ, List.getElem_cons_zero, List.setIfInBounds_toArray, List.set_cons_zero, List.set_cons_succ]
      refine takesH [11, 12, 13, 14, 15, 16, 17, 18, 19, 20] ?_
      repeat
        refine takesH_one (v := ?_) ?_ ?_
        rotate_left
        · first | (refine Or.inr ⟨by rfl, ?_⟩; with_reducible rfl) | (refine Or.inl ⟨by rfl, ?_⟩; intro wx hSw; (try dsimp only at hSw); first | (go_simp; first | done | with_reducible rfl))
        try simp only [Act.put, List.getElem_toArray, List.getElem_cons_succ, List.getElem_cons_zero, List.setIfInBounds_toArray, List.set_cons_zero, List.set_cons_succ]
      refine takesH_nil ?_
      refine wpAnyH_done (by kernel_rfl) ?_ _
      obtain ⟨_, _, _, _, _, _, _, _⟩ := HALL.out _ hHeld
      have BL := Lib.hid (next BZ.out hHeld)
      have HRL := Lib.hid (HR.out.below (hHeld.mono (by have := HUS.out; omega)))
      cases st
      · go_wp2_with fail
        refine (rseenrow_any _ _ _ _ _ _ _ _ _ A n c B l _ HRL.out (by have := BL.out.size; omega) hn HRISE.out h0).mono ?_
        rintro x v5 ⟨v, rfl, hcur⟩
        rw [MX.out, HC.out] at hcur
        obtain ⟨A1, c1, rfl, _⟩ := hcur.slice
        have hv : decide (0 < C.length) = r := by rw [← RR.out]; simp
        have hvi : decide ((0 : Int) < (C.length : Nat)) = r := by rw [← hv]; simp
        have b5 := Lib.hid hcur.below
        clear hcur
        go_wp2
        go_ret
        exact ⟨rfl, next BL.out b5.out⟩
      · have hv : r = false := by rw [← RR.out]; simp
        subst hv
        go_wp2
        go_ret
        exact ⟨rfl, BL.out⟩
    · cases u3
      · refine wp_region_held_drew (S := fun w' => Below U.heap.size U w') (by kernel_rfl) ?_ (fun hHeld => ?_)
        · exact (Below.refl _ _).drew
        refine takesH [0, 1, 2] ?_
        repeat
          refine takesH_one (v := ?_) ?_ ?_
          rotate_left
          · first | (refine Or.inr ⟨by rfl, ?_⟩; with_reducible rfl) | (refine Or.inl ⟨by rfl, ?_⟩; intro wx hSw; (try dsimp only at hSw); first | (go_simp; first | done | with_reducible rfl) | (obtain ⟨_, _, _, _, _, _, _, _⟩ := HALL.out _ hSw; go_simp; first | done | with_reducible rfl))
          try simp only [Act.put, List.getElem_toArray, List.getElem_cons_succ, List.getElem_cons_zero, List.setIfInBounds_toArray, List.set_cons_zero, List.set_cons_succ]
        refine takesH_nil ?_
        refine wpAnyH_ready (rs := [3]) (by kernel_rfl) (by simp) (AllReadyH.cons rfl (fun K hK => ?_) AllReadyH.nil)
        go_simp
        refine (rseen_any _ _ _ _ _ _).mono ?_
        rintro x v1 ⟨rfl, b1⟩
        rw [U1.out]
        try go_wp2_with fail
        refine hK.out _ _ ?_ (fun hHeld => ?_)
        · exact next (by assumption) b1
        clear hK K
        try simp only [Act.put, List.getElem_toArray, List.getElem_cons_succ, List.getElem_cons_zero, List.setIfInBounds_toArray, List.set_cons_zero, List.set_cons_succ]
        refine takesH [4, 5, 6, 7, 8, 9] ?_
        repeat
          refine takesH_one (v := ?_) ?_ ?_
          rotate_left
          · first | (refine Or.inr ⟨by rfl, ?_⟩; with_reducible rfl) | (refine Or.inl ⟨by rfl, ?_⟩; intro wx hSw; (try dsimp only at hSw); first | (go_simp; first | done | with_reducible rfl) | (obtain ⟨_, _, _, _, _, _, _, _⟩ := HALL.out _ hSw; go_simp; first | done | with_reducible rfl))
          try simp only [Act.put, List.getElem_toArray, List.getElem_cons_succ, List.getElem_cons_zero, List.setIfInBounds_toArray, List.set_cons_zero, List.set_cons_succ]
        refine takesH_nil ?_
        refine wpAnyH_ready (rs := [10]) (by kernel_rfl) (by simp) (AllReadyH.cons rfl (fun K hK => ?_) AllReadyH.nil)
        go_simp
        refine (rgone_any _ _ _ _ _ _ _ _ _ _ _ _).mono ?_
        rintro x v2 ⟨rfl, b2⟩
        rw [MX.out]
        try go_wp2_with fail
        refine hK.out _ _ ?_ (fun hHeld => ?_)
        · exact next (by assumption) b2
        clear hK K
        try simp only [Act.put, List.getElem_toArray, List.getElem_cons_succ, List.getElem_cons_zero, List.setIfInBounds_toArray, List.set_cons_zero, List.set_cons_succ]
        refine takesH [11, 12, 13, 14, 15, 16, 17, 18, 19, 20] ?_
        repeat
          refine takesH_one (v := ?_) ?_ ?_
          rotate_left
          · first | (refine Or.inr ⟨by rfl, ?_⟩; with_reducible rfl) | (refine Or.inl ⟨by rfl, ?_⟩; intro wx hSw; (try dsimp only at hSw); first | (go_simp; first | done | with_reducible rfl) | (obtain ⟨_, _, _, _, _, _, _, _⟩ := HALL.out _ hSw; go_simp; first | done | with_reducible rfl))
          try simp only [Act.put, List.getElem_toArray, List.getElem_cons_succ, List.getElem_cons_zero, List.setIfInBounds_toArray, List.set_cons_zero, List.set_cons_succ]
        refine takesH_nil ?_
        refine wpAnyH_done (by kernel_rfl) ?_ _
        obtain ⟨_, _, _, _, _, _, _, _⟩ := HALL.out _ hHeld
        have BL := Lib.hid (next BZ.out hHeld)
        have HRL := Lib.hid (HR.out.below (hHeld.mono (by have := HUS.out; omega)))
        cases st
        · go_wp2_with fail
          refine (rseenrow_any _ _ _ _ _ _ _ _ _ A n c B l _ HRL.out (by have := BL.out.size; omega) hn HRISE.out h0).mono ?_
          rintro x v5 ⟨v, rfl, hcur⟩
          rw [MX.out, HC.out] at hcur
          obtain ⟨A1, c1, rfl, _⟩ := hcur.slice
          have hv : decide (0 < C.length) = r := by rw [← RR.out]; simp
          have hvi : decide ((0 : Int) < (C.length : Nat)) = r := by rw [← hv]; simp
          have b5 := Lib.hid hcur.below
          clear hcur
          go_wp2
          go_ret
          exact ⟨rfl, next BL.out b5.out⟩
        · have hv : r = false := by rw [← RR.out]; simp
          subst hv
          go_wp2
          go_ret
          exact ⟨rfl, BL.out⟩
      · have hv : r = true := by rw [← RR.out]; rfl
        subst hv
        refine wp_region_held_drew (S := fun w' => Below U.heap.size U w') (by kernel_rfl) ?_ (fun hHeld => ?_)
        · exact (Below.refl _ _).drew
        refine takesH [0, 1, 2] ?_
        repeat
          refine takesH_one (v := ?_) ?_ ?_
          rotate_left
          · first | (refine Or.inr ⟨by rfl, ?_⟩; with_reducible rfl) | (refine Or.inl ⟨by rfl, ?_⟩; intro wx hSw; (try dsimp only at hSw); first | (go_simp; first | done | with_reducible rfl) | (obtain ⟨_, _, _, _, _, _, _, _⟩ := HALL.out _ hSw; go_simp; first | done | with_reducible rfl))
          try simp only [Act.put, List.getElem_toArray, List.getElem_cons_succ, List.getElem_cons_zero, List.setIfInBounds_toArray, List.set_cons_zero, List.set_cons_succ]
        refine takesH_nil ?_
        refine wpAnyH_ready (rs := [3]) (by kernel_rfl) (by simp) (AllReadyH.cons rfl (fun K hK => ?_) AllReadyH.nil)
        go_simp
        refine (rseen_any _ _ _ _ _ _).mono ?_
        rintro x v1 ⟨rfl, b1⟩
        rw [U1.out]
        try go_wp2_with fail
        refine hK.out _ _ ?_ (fun hHeld => ?_)
        · exact next (by assumption) b1
        clear hK K
        try simp only [Act.put, List.getElem_toArray, List.getElem_cons_succ, List.getElem_cons_zero, List.setIfInBounds_toArray, List.set_cons_zero, List.set_cons_succ]
        refine takesH [4, 5, 6, 7, 8, 9] ?_
        repeat
          refine takesH_one (v := ?_) ?_ ?_
          rotate_left
          · first | (refine Or.inr ⟨by rfl, ?_⟩; with_reducible rfl) | (refine Or.inl ⟨by rfl, ?_⟩; intro wx hSw; (try dsimp only at hSw); first | (go_simp; first | done | with_reducible rfl) | (obtain ⟨_, _, _, _, _, _, _, _⟩ := HALL.out _ hSw; go_simp; first | done | with_reducible rfl))
          try simp only [Act.put, List.getElem_toArray, List.getElem_cons_succ, List.getElem_cons_zero, List.setIfInBounds_toArray, List.set_cons_zero, List.set_cons_succ]
        refine takesH_nil ?_
        refine wpAnyH_ready (rs := [10]) (by kernel_rfl) (by simp) (AllReadyH.cons rfl (fun K hK => ?_) AllReadyH.nil)
        go_simp
        refine (rgone_any _ _ _ _ _ _ _ _ _ _ _ _).mono ?_
        rintro x v2 ⟨rfl, b2⟩
        rw [MX.out]
        try go_wp2_with fail
        refine hK.out _ _ ?_ (fun hHeld => ?_)
        · exact next (by assumption) b2
        clear hK K
        try simp only [Act.put, List.getElem_toArray, List.getElem_cons_succ, List.getElem_cons_zero, List.setIfInBounds_toArray, List.set_cons_zero, List.set_cons_succ]
        refine takesH [11, 12, 13, 14, 15, 16, 17, 18, 19, 20] ?_
        repeat
          refine takesH_one (v := ?_) ?_ ?_
          rotate_left
          · first | (refine Or.inr ⟨by rfl, ?_⟩; with_reducible rfl) | (refine Or.inl ⟨by rfl, ?_⟩; intro wx hSw; (try dsimp only at hSw); first | (go_simp; first | done | with_reducible rfl) | (obtain ⟨_, _, _, _, _, _, _, _⟩ := HALL.out _ hSw; go_simp; first | done | with_reducible rfl))
          try simp only [Act.put, List.getElem_toArray, List.getElem_cons_succ, List.getElem_cons_zero, List.setIfInBounds_toArray, List.set_cons_zero, List.set_cons_succ]
        refine takesH_nil ?_
        refine wpAnyH_done (by kernel_rfl) ?_ _
        have BL := Lib.hid (next BZ.out hHeld)
        go_wp2
        go_ret
        exact ⟨rfl, BL.out⟩
end Go.Proofs.Ytafbbojfifcncaa
set_option linter.unusedVariables false
set_option linter.unusedSimpArgs false
namespace Go.Proofs.Ytafbbojfifcncaa
open Go Go.RowKit

theorem rseen_rx (x : RA) (B : Nat) (p now : Int) (X : Cols) (hX : seenD (max x.ro.gone p) now x.ro.cols = X) (w : World) (h : RaIn w B x) (hB : B ≤ w.heap.size) (hn : x.ro.cols.length ≤ 1000) (hr : Rise x.ro.cols) (h0 : 0 ≤ x.ro.gone) :
    Calls Try.prog 45 #[.agg #[.string x.ro.key, .string x.ro.live.s, .bool x.ro.live.d, .int .i64 x.ro.live.a, .int .i64 x.ro.live.e, .int .i64 x.ro.gone, .int .i64 x.ro.shade, .slice x.A x.ro.cols.length x.c], .int .i64 p, .int .i64 now] w fun e w' => ∃ A c, e = .returned (.slice A X.length c) ∧ Cur w w' (.slice A X.length c) X := by
  subst hX
  refine (rseenrow_any x.ro.key x.ro.live.s x.ro.live.d x.ro.live.a x.ro.live.e x.ro.gone x.ro.shade p now x.A x.ro.cols.length x.c B x.ro.cols w h.rd hB hn hr h0).mono ?_
  rintro e w' ⟨v, rfl, hc⟩
  obtain ⟨A, c, rfl, _⟩ := hc.slice
  exact ⟨A, c, rfl, hc⟩
theorem ris_ra (x : RA) (B : Nat) (p now : Int) (st : Bool) (w : World) (h : RaIn w B x) (hB : B ≤ w.heap.size) (hn : x.ro.cols.length ≤ 1000) (hr : Rise x.ro.cols) (h0 : 0 ≤ x.ro.gone) :
    Calls Try.prog 44 #[.agg #[.string x.ro.key, .string x.ro.live.s, .bool x.ro.live.d, .int .i64 x.ro.live.a, .int .i64 x.ro.live.e, .int .i64 x.ro.gone, .int .i64 x.ro.shade, .slice x.A x.ro.cols.length x.c], .int .i64 p, .int .i64 now, .bool st] w fun e w' => e = .returned (.bool (x.ro.isD p now st)) ∧ Below w.heap.size w w' :=
  risrow_any x.ro.key x.ro.live.s x.ro.live.d x.ro.live.a x.ro.live.e x.ro.gone x.ro.shade p now st x.A x.ro.cols.length x.c B x.ro.cols w h.rd hB hn hr h0
set_option maxRecDepth 8000 in
set_option maxHeartbeats 8000000 in
theorem rpseen_any (k : ByteArray) (g now : Int) (st : Bool) (A : Option Addr) (n c B : Nat) (L : List RA) (w : World) (h : Lies w B A n c L) (hB : B ≤ w.heap.size) (hn : n ≤ 1000) (hf : ∀ x ∈ L, x.ro.cols.length ≤ 1000) (hrg : ∀ x ∈ L, Rise x.ro.cols ∧ 0 ≤ x.ro.gone) :
    Calls Try.prog 22 #[.agg #[.string k, .int .i64 g, .slice A n c], .int .i64 now, .bool st] w fun e w' => ∃ v M, e = .returned v ∧ ros M = seenR g now st (ros L) ∧ Own w w' v M := by
  have hl := h.len
  have bz := (Below.refl w.heap.size w).alloc (Nat.le_refl _) (.cells #[.string k, .int .i64 g, .slice A n c] 24)
  have hz0 := heap_alloc_new w (.cells #[.string k, .int .i64 g, .slice A n c] 24)
  obtain ⟨V, hV⟩ : ∃ V, V = w.alloc (.cells #[.string k, .int .i64 g, .slice A n c] 24) := ⟨_, rfl⟩
  have hVs : V.heap.size = w.heap.size + 1 := by rw [hV]; simp
  rw [← hV] at bz hz0
  have HL := Lib.hid hl; have HH := Lib.hid h; have HF := Lib.hid hf; have BZ := Lib.hid bz; have HZ0 := Lib.hid hz0; have HVS := Lib.hid hVs; have HN := Lib.hid hn; have HRGA := Lib.hid hrg
  obtain ⟨_, _, _⟩ := PtAt.of hz0
  clear hl h hf hrg bz hz0 hVs
  go_enter Try.func22, Try.ntmps22
  go_wp2_with fail
  rw [← hV]
  clear hV
  go_wp2_with fail
  go_loopw [8, 7] (fun i v wr => ∃ (t : Nat) (M : List RA), t ≤ n ∧ i = .int .i64 t ∧ ros M = seenR g now st (ros (L.take t)) ∧ M.length ≤ t ∧ Own w wr v M ∧ wr.heap[w.heap.size]? = some (.cells #[.string k, .int .i64 g, .slice A n c] 24)) (fun i _ _ => n - (intOf i).toNat)
  case atStart => exact ⟨0, [], Nat.zero_le _, rfl, rfl, Nat.le_refl _, Own.nil BZ.out, HZ0.out⟩
  case round =>
    obtain ⟨t, M, ht, rfl, hm, hmt, ho, hz⟩ := hrel
    obtain ⟨A3, c3, rfl, _⟩ := ho.slice
    obtain ⟨m, hmm⟩ : ∃ m, M.length = m := ⟨_, rfl⟩
    rw [hmm] at ho hmt ⊢
    have HMR := Lib.hid hm; have HM := Lib.hid hmm; have HMT := Lib.hid hmt; have HO := Lib.hid ho; have HZ := Lib.hid hz
    have hvw : w.heap.size < wr.heap.size := (Array.getElem?_eq_some_iff.1 hz).1
    obtain ⟨_, _, _⟩ := PtAt.of hz
    clear hm hmm hmt ho hz
    by_cases hlt : t < n
    · have i1 : (t : Int) < n := by omega
      have i0 : (0 : Int) ≤ t := by omega
      have htl : t < L.length := by rw [HL.out]; exact hlt
      obtain ⟨g0, o0, rfl, hgb⟩ := HH.out.rd.ex (by omega)
      have hlies := HH.out.below (HO.out.below.mono hB)
      have hrow := hlies.rd.row htl
      have hin := hlies.held L[t] (List.getElem_mem htl)
      have hcl := HF.out L[t] (List.getElem_mem htl)
      have hrgx := HRGA.out L[t] (List.getElem_mem htl)
      have htk := ros_take htl
      obtain ⟨x, hx⟩ : ∃ x, L[t] = x := ⟨_, rfl⟩
      rw [hx] at hrow hin hcl htk hrgx
      have HRG := Lib.hid hrgx
      clear hrgx
      have ha := (Below.refl wr.heap.size wr).alloc (Nat.le_refl _) (.cells #[.string x.ro.key, .string x.ro.live.s, .bool x.ro.live.d, .int .i64 x.ro.live.a, .int .i64 x.ro.live.e, .int .i64 x.ro.gone, .int .i64 x.ro.shade, .slice x.A x.ro.cols.length x.c] 36)
      have hin2 := hin.below (ha.mono (by have := HO.out.below.size; omega))
      have hbk := heap_alloc_new wr (.cells #[.string x.ro.key, .string x.ro.live.s, .bool x.ro.live.d, .int .i64 x.ro.live.a, .int .i64 x.ro.live.e, .int .i64 x.ro.gone, .int .i64 x.ro.shade, .slice x.A x.ro.cols.length x.c] 36)
      have hpt := (ha.block w.heap.size hvw).trans HZ.out
      have hou := HO.out.on ha
      obtain ⟨_, _, _, _, _, _, _, _⟩ := hrow
      obtain ⟨U, hU⟩ : ∃ U, U = wr.alloc (.cells #[.string x.ro.key, .string x.ro.live.s, .bool x.ro.live.d, .int .i64 x.ro.live.a, .int .i64 x.ro.live.e, .int .i64 x.ro.gone, .int .i64 x.ro.shade, .slice x.A x.ro.cols.length x.c] 36) := ⟨_, rfl⟩
      have hUs : U.heap.size = wr.heap.size + 1 := by rw [hU]; simp
      rw [← hU] at hin2 hbk hpt hou
      have hall : ∀ w', Below U.heap.size U w' → BlkAt w' wr.heap.size x ∧ PtAt w' w.heap.size k g (some ⟨g0, o0, none⟩) n c := fun w' hb =>
        ⟨BlkAt.of ((hb.block wr.heap.size (by omega)).trans hbk), PtAt.of ((hb.block w.heap.size (by omega)).trans hpt)⟩
      have hin3 : ∀ w', Below U.heap.size U w' → RaIn w' B x := fun w' hb => hin2.below (hb.mono (by have := HO.out.below.size; omega))
      have HTWO : Hid (Two U w.heap.size k g (some ⟨g0, o0, none⟩) n c wr.heap.size x) := Lib.hid ⟨hpt, hbk⟩
      have HOL := Lib.hid (own_block_lt HO.out.cur.own)
      have HIN := Lib.hid hin3; have HCL := Lib.hid hcl; have HTK := Lib.hid htk; have HOU := Lib.hid hou; have HALL := Lib.hid hall; have HPT := Lib.hid hpt
      have HUB := Lib.hid (show B ≤ U.heap.size by have := HO.out.below.size; omega)
      have HVB := Lib.hid (show w.heap.size ≤ U.heap.size by have := HO.out.below.size; omega)
      have HUL := Lib.hid (show w.heap.size < U.heap.size by omega)
      obtain ⟨⟨_, _, _, _, _, _, _, _⟩, _, _, _⟩ := hall U (Below.refl _ _)
      clear hlies hin hcl htk hx ha hin2 hbk hpt hou hUs hall hin3
      go_wp2_with fail
      rw [← hU]
      clear hU
      obtain ⟨u, hu⟩ : ∃ u, x.ro.isD g now st = u := ⟨_, rfl⟩
      have HU := Lib.hid hu
      clear hu
      go_wp2_with fail
      refine (ris_ra x B g now st _ (HIN.out _ (Below.refl _ _)) HUB.out HCL.out HRG.out.1 HRG.out.2).mono ?_
      rintro e w1 ⟨rfl, b1⟩
      rw [HU.out]
      have T1 : Hid (Two w1 w.heap.size k g (some ⟨g0, o0, none⟩) n c wr.heap.size x) := Lib.hid (HTWO.out.on b1)
      have B1 := Lib.hid b1; have HO1 := Lib.hid (HOU.out.on b1)
      clear b1
      cases u
      · have hz1 := (B1.out.block w.heap.size HUL.out).trans HPT.out
        have hs : ros M = seenR g now st (ros (L.take (t + 1))) := by rw [HTK.out, seenR_snoc, HU.out, HMR.out]; rfl
        have HS := Lib.hid hs; have HZ1 := Lib.hid hz1
        clear hs hz1
        go_wp2
        go_roundw
        case rel => exact ⟨t + 1, M, by omega, by go_num, HS.out, by rw [HM.out]; have := HMT.out; omega, by first | exact HM.out ▸ HO1.out | exact HO1.out, HZ1.out⟩
        case measure => simp [intOf]; omega
      · obtain ⟨X, hX⟩ : ∃ X, seenD (max x.ro.gone g) now x.ro.cols = X := ⟨_, rfl⟩
        have HX := Lib.hid hX
        clear hX
        go_wp2_with fail
        refine wp_region_held_drew (S := fun w' => Two w' w.heap.size k g (some ⟨g0, o0, none⟩) n c wr.heap.size x) (by kernel_rfl) ?_ (fun hHeld => ?_)
        · exact T1.out
        refine takesH [0, 1, 2, 3, 4, 5, 6, 7, 8] ?_
        repeat
          refine takesH_one (v := ?_) ?_ ?_
          rotate_left
          · first | (refine Or.inr ⟨by rfl, ?_⟩; with_reducible rfl) | (refine Or.inl ⟨by rfl, ?_⟩; intro wx hSw; (try dsimp only at hSw); first | (go_simp; first | done | with_reducible rfl) | (obtain ⟨_, _, _⟩ := PtAt.of hSw.1; obtain ⟨_, _, _, _, _, _, _, _⟩ := BlkAt.of hSw.2; go_simp; first | done | with_reducible rfl))
          try simp only [Act.put, List.getElem_toArray, List.getElem_cons_succ, List.getElem_cons_zero, List.setIfInBounds_toArray, List.set_cons_zero, List.set_cons_succ]
        refine takesH_nil ?_
        refine wpAnyH_ready (rs := [9]) (by kernel_rfl) (by simp) (AllReadyH.cons rfl (fun K hK => ?_) AllReadyH.nil)
        go_simp
        refine (rseen_rx x B g now X HX.out _ ?hin ?hsz HCL.out HRG.out.1 HRG.out.2).mono ?_
        case hin => exact HIN.out _ B1.out.drew
        case hsz => exact Nat.le_trans HUB.out B1.out.size
        rintro e v4 ⟨A4, c4, rfl, hc4⟩
        have hbv := next (w := w1) (w1 := w1.drew) ((Below.refl w1.heap.size w1).drew) hc4.below
        have C4 := Lib.hid (HO1.out.on hbv)
        have C5 := Lib.hid (C4.out.on ((Below.refl v4.heap.size v4).alloc (Nat.le_refl _) (.cells #[.string x.ro.key, .string x.ro.live.s, .bool x.ro.live.d, .int .i64 x.ro.live.a, .int .i64 x.ro.live.e, .int .i64 0, .int .i64 0, .slice A4 X.length c4] 36)))
        have RD := Lib.hid (RdR.laid v4 (⟨⟨x.ro.key, x.ro.live, 0, 0, X⟩, A4, c4⟩ : RA))
        have hsf : Safe w v4 (⟨⟨x.ro.key, x.ro.live, 0, 0, X⟩, A4, c4⟩ : RA) := Or.inr (own_base hc4.own HO1.out.below.size)
        have HSF := Lib.hid (hsf.on ((Below.refl v4.heap.size v4).alloc (Nat.le_refl _) (.cells #[.string x.ro.key, .string x.ro.live.s, .bool x.ro.live.d, .int .i64 x.ro.live.a, .int .i64 x.ro.live.e, .int .i64 0, .int .i64 0, .slice A4 X.length c4] 36)))
        have T4 := Lib.hid (T1.out.on hbv)
        have T5 := Lib.hid (T4.out.on ((Below.refl v4.heap.size v4).alloc (Nat.le_refl _) (.cells #[.string x.ro.key, .string x.ro.live.s, .bool x.ro.live.d, .int .i64 x.ro.live.a, .int .i64 x.ro.live.e, .int .i64 0, .int .i64 0, .slice A4 X.length c4] 36)))
        clear hbv hsf
        try go_wp2_with fail
        refine hK.out _ _ ?_ (fun hHeld => ?_)
        · exact T4.out
        clear hK K
        try simp only [Act.put, List.getElem_toArray, List.getElem_cons_succ, List.getElem_cons_zero, List.setIfInBounds_toArray, List.set_cons_zero, List.set_cons_succ]
        refine takesH [10] ?_
        repeat
          refine takesH_one (v := ?_) ?_ ?_
          rotate_left
          · first | (refine Or.inr ⟨by rfl, ?_⟩; with_reducible rfl) | (refine Or.inl ⟨by rfl, ?_⟩; intro wx hSw; (try dsimp only at hSw); first | (go_simp; first | done | with_reducible rfl))
          try simp only [Act.put, List.getElem_toArray, List.getElem_cons_succ, List.getElem_cons_zero, List.setIfInBounds_toArray, List.set_cons_zero, List.set_cons_succ]
        refine takesH_nil ?_
        refine wpAnyH_ready (rs := [11]) (by kernel_rfl) (by simp) (AllReadyH.cons rfl (fun K hK => ?_) AllReadyH.nil)
        go_simp
        refine hK.out _ _ ?_ (fun hHeld => ?_)
        · exact T5.out
        clear hK K
        try simp only [Act.put, List.getElem_toArray, List.getElem_cons_succ, List.getElem_cons_zero, List.setIfInBounds_toArray, List.set_cons_zero, List.set_cons_succ]
        refine wpAnyH_ready (rs := [12]) (by kernel_rfl) (by simp) (AllReadyH.cons rfl (fun K hK => ?_) AllReadyH.nil)
        refine step_ex rfl (.tmp 28) (.tmp 39) _ _ rfl (.slice A3 m c3) (.slice (some ⟨v4.heap.size, 0, none⟩) 1 1) (by simp [Act.eval]) (by simp [Act.eval]) (run_appR w.heap.size (HM.out ▸ C5.out.cur.own) RD.out ?s3 ?s4) ?_
        case s3 => have := HMT.out; have := HN.out; omega
        case s4 => exact C5.out.below.size
        intro v6 w6 ho6 hg6
        obtain ⟨hg6, _⟩ := hg6
        obtain ⟨A6, m6, c6, rfl, hm6, hc6⟩ := C5.out.app (k := [(⟨⟨x.ro.key, x.ro.live, 0, 0, X⟩, A4, c4⟩ : RA)]) (fun y hy => by rw [List.mem_singleton.1 hy]; exact HSF.out) ho6 hg6
        have C6 := Lib.hid hc6
        have T6 := Lib.hid (T5.out.grown C5.out.cur.own hg6 (fun h => Nat.lt_irrefl _ (HOL.out _ h)))
        clear ho6 hg6 hc6 hm6
        refine hK.out _ _ ?_ (fun hHeld => ?_)
        · exact T6.out
        clear hK K
        try simp only [Act.put, List.getElem_toArray, List.getElem_cons_succ, List.getElem_cons_zero, List.setIfInBounds_toArray, List.set_cons_zero, List.set_cons_succ]
        refine takesH [13] ?_
        repeat
          refine takesH_one (v := ?_) ?_ ?_
          rotate_left
          · first | (refine Or.inr ⟨by rfl, ?_⟩; with_reducible rfl) | (refine Or.inl ⟨by rfl, ?_⟩; intro wx hSw; (try dsimp only at hSw); first | (go_simp; first | done | with_reducible rfl))
          try simp only [Act.put, List.getElem_toArray, List.getElem_cons_succ, List.getElem_cons_zero, List.setIfInBounds_toArray, List.set_cons_zero, List.set_cons_succ]
        refine takesH_nil ?_
        refine wpAnyH_done (by kernel_rfl) ?_ _
        have hz1 := T6.out.1
        have hs : ros (M ++ [(⟨⟨x.ro.key, x.ro.live, 0, 0, X⟩, A4, c4⟩ : RA)]) = seenR g now st (ros (L.take (t + 1))) := by
          rw [HTK.out, seenR_snoc, HU.out, if_pos rfl, ← HMR.out, ← HX.out]
          simp [ros, Ro.seenD]
        have HS := Lib.hid hs; have HZ1 := Lib.hid hz1
        clear hs hz1
        go_wp2
        go_roundw
        case rel => exact ⟨t + 1, _, by omega, by go_num, HS.out, by rw [List.length_append, HM.out]; have := HMT.out; simp; omega, C6.out, HZ1.out⟩
        case measure => simp [intOf]; omega
    · obtain rfl : t = n := by omega
      have hs : ros M = seenR g now st (ros L) := by rw [HMR.out, List.take_of_length_le (by rw [HL.out]; exact Nat.le_refl _)]
      have HS := Lib.hid hs
      clear hs
      go_wp2
      go_ret
      first | exact ⟨_, M, rfl, HS.out, HM.out ▸ HO.out⟩ | exact ⟨_, M, rfl, HS.out, HO.out⟩ | exact ⟨_, rfl, M, HS.out, HO.out⟩
end Go.Proofs.Ytafbbojfifcncaa
set_option linter.unusedVariables false
set_option linter.unusedSimpArgs false
namespace Go.Proofs.Ytafbbojfifcncaa
open Go Go.RowKit

theorem OwnC.grown {w0 w w' : World} {x : RA} {b n : Nat} {v : Value} {xs : List Value} (h : OwnC w0 w x) (ho : w.ownsRow b 36 8 v n xs) (hg : w.grownBy w' v.ownBlock) : OwnC w0 w' x :=
  h.kept (F := fun k => v.ownBlock = some k) (Kept.of_grown hg fun k hk => hk) (fun k hk => own_tag ho k hk) (by decide)
theorem Fresh.app {w0 w w' : World} {v v' : Value} {L k : List RA} {N : Nat} (h : Fresh w0 w v L) (hk : ∀ x ∈ k, OwnC w0 w x) (ho : w'.ownsRow w0.heap.size 36 8 v' N (rRow (L ++ k))) (hg : w.grownBy w' v.ownBlock) : ∃ A m c, v' = .slice A m c ∧ m = (L ++ k).length ∧ Fresh w0 w' (.slice A m c) (L ++ k) := by
  obtain ⟨A, m, c, rfl, h1⟩ := h.cur.appN ho hg
  refine ⟨A, m, c, rfl, ?_, h1, fun x hx => ?_⟩
  · obtain ⟨A', c', e, _⟩ := own_slice h1.own
    injection e
  · rcases List.mem_append.1 hx with h2 | h2
    · exact (h.cols x h2).grown h.cur.own hg
    · exact (hk x h2).grown h.cur.own hg
theorem Fresh.nil {w V : World} (hb : Below w.heap.size w V) : Fresh w V (.slice none 0 0) [] := ⟨⟨own_nilR _ _, hb⟩, fun x hx => by cases hx⟩

set_option maxRecDepth 8000 in
set_option maxHeartbeats 4000000 in
theorem rcopyrow_ra (x : RA) (B : Nat) (w : World) (h : RaIn w B x) (hB : B ≤ w.heap.size) (hn : x.ro.cols.length ≤ 1000) :
    Calls Try.prog 59 #[.agg #[.string x.ro.key, .string x.ro.live.s, .bool x.ro.live.d, .int .i64 x.ro.live.a, .int .i64 x.ro.live.e, .int .i64 x.ro.gone, .int .i64 x.ro.shade, .slice x.A x.ro.cols.length x.c]] w fun e w' => ∃ z : RA, e = .returned z.v ∧ z.ro = x.ro ∧ Cur w w' (.slice z.A z.ro.cols.length z.c) z.ro.cols := by
  have bz := ((Below.refl w.heap.size w).alloc (Nat.le_refl _) (.cells #[.string x.ro.key, .string x.ro.live.s, .bool x.ro.live.d, .int .i64 x.ro.live.a, .int .i64 x.ro.live.e, .int .i64 x.ro.gone, .int .i64 x.ro.shade, .slice x.A x.ro.cols.length x.c] 36)).alloc (by simp) (.cells #[.string ⟨#[]⟩, .string ⟨#[]⟩, .bool false, .int .i64 0, .int .i64 0, .int .i64 0, .int .i64 0, .slice none 0 0] 36)
  have hz0 := new_at (heap_alloc_new w (.cells #[.string x.ro.key, .string x.ro.live.s, .bool x.ro.live.d, .int .i64 x.ro.live.a, .int .i64 x.ro.live.e, .int .i64 x.ro.gone, .int .i64 x.ro.shade, .slice x.A x.ro.cols.length x.c] 36)) (.cells #[.string ⟨#[]⟩, .string ⟨#[]⟩, .bool false, .int .i64 0, .int .i64 0, .int .i64 0, .int .i64 0, .slice none 0 0] 36)
  have hz1 := heap_alloc_new (w.alloc (.cells #[.string x.ro.key, .string x.ro.live.s, .bool x.ro.live.d, .int .i64 x.ro.live.a, .int .i64 x.ro.live.e, .int .i64 x.ro.gone, .int .i64 x.ro.shade, .slice x.A x.ro.cols.length x.c] 36)) (.cells #[.string ⟨#[]⟩, .string ⟨#[]⟩, .bool false, .int .i64 0, .int .i64 0, .int .i64 0, .int .i64 0, .slice none 0 0] 36)
  simp only [World.size_alloc] at hz1
  obtain ⟨V, hV⟩ : ∃ V, V = (w.alloc (.cells #[.string x.ro.key, .string x.ro.live.s, .bool x.ro.live.d, .int .i64 x.ro.live.a, .int .i64 x.ro.live.e, .int .i64 x.ro.gone, .int .i64 x.ro.shade, .slice x.A x.ro.cols.length x.c] 36)).alloc (.cells #[.string ⟨#[]⟩, .string ⟨#[]⟩, .bool false, .int .i64 0, .int .i64 0, .int .i64 0, .int .i64 0, .slice none 0 0] 36) := ⟨_, rfl⟩
  have hVs : V.heap.size = w.heap.size + 2 := by rw [hV]; simp
  rw [← hV] at bz hz0 hz1
  have ha := (Below.refl V.heap.size V).alloc (Nat.le_refl _) (.cells #[.string x.ro.key, .string x.ro.live.s, .bool x.ro.live.d, .int .i64 x.ro.live.a, .int .i64 x.ro.live.e, .int .i64 x.ro.gone, .int .i64 x.ro.shade, .slice x.A x.ro.cols.length x.c] 36)
  have hx2 := heap_alloc_new V (.cells #[.string x.ro.key, .string x.ro.live.s, .bool x.ro.live.d, .int .i64 x.ro.live.a, .int .i64 x.ro.live.e, .int .i64 x.ro.gone, .int .i64 x.ro.shade, .slice x.A x.ro.cols.length x.c] 36)
  have hrd := (h.below (bz.mono hB)).below (ha.mono (by omega))
  have hu0 := (ha.block w.heap.size (by omega)).trans hz0
  have hu1 := (ha.block (w.heap.size + 1) (by omega)).trans hz1
  obtain ⟨U, hU⟩ : ∃ U, U = V.alloc (.cells #[.string x.ro.key, .string x.ro.live.s, .bool x.ro.live.d, .int .i64 x.ro.live.a, .int .i64 x.ro.live.e, .int .i64 x.ro.gone, .int .i64 x.ro.shade, .slice x.A x.ro.cols.length x.c] 36) := ⟨_, rfl⟩
  have hUs : U.heap.size = V.heap.size + 1 := by rw [hU]; simp
  rw [← hU] at ha hx2 hrd hu0 hu1
  have hrd2 := hrd.rd
  have k7 : U.cell? ⟨w.heap.size, 7, none⟩ = some (.slice x.A x.ro.cols.length x.c) := cell_at (i := 7) hu0 rfl
  have HRD := Lib.hid hrd2; have HX2 := Lib.hid hx2; have HU1 := Lib.hid hu1; have BU := Lib.hid (next bz ha); have HS := Lib.hid hVs; have HUS := Lib.hid hUs
  obtain ⟨_, _, _, _, _, _, _, _⟩ := BlkAt.of hz0
  clear hrd hrd2 hx2 hu0 hu1 ha bz hz0 hz1 hVs hUs h
  go_enter Try.func59, Try.ntmps59
  go_wp2_with (at_builtin; rw [← hV]; rw [← hU]; clear hU; clear hV; refine list_ex rfl (.const (.slice none 0 0)) (.tmp 6) _ _ rfl (.slice none 0 0) (.slice x.A x.ro.cols.length x.c) rfl rfl (run_appK U.heap.size (own_nilK _ _) (show RdK _ B x.A x.ro.cols.length x.ro.cols from HRD.out) ?s1 ?s2) ?_)
  case s1 => omega
  case s2 => exact Nat.le_refl _
  intro v3 w3 ho3 hg3 _
  obtain ⟨A3, m3, c3, rfl, hc3⟩ := (⟨own_nilK _ _, Below.refl _ _⟩ : Cur U U (.slice none 0 0) []).appN ho3 hg3
  rw [List.nil_append] at hc3
  have hm3 : m3 = x.ro.cols.length := by
    obtain ⟨A', c', e, _⟩ := own_slice hc3.own
    injection e
  have hx3 := (hc3.below.block V.heap.size (by have := HUS.out; omega)).trans HX2.out
  have hr3 := (hc3.below.block (w.heap.size + 1) (by have := HUS.out; have := HS.out; omega)).trans HU1.out
  have k7' : w3.cell? ⟨V.heap.size, 7, none⟩ = some (.slice x.A x.ro.cols.length x.c) := cell_at (i := 7) hx3 rfl
  have f7 := thawed_at (i := 7) hx3
  have m4 := block_set7 hx3 (.slice A3 m3 c3)
  have n3 := (Below.heap_setCell w3 ⟨V.heap.size, 7, none⟩ (.slice A3 m3 c3) (w.heap.size + 1) (by have := HS.out; show w.heap.size + 1 ≠ V.heap.size; omega)).trans hr3
  have r0 := cell_at (i := 0) m4 rfl
  have r1 := cell_at (i := 1) m4 rfl
  have r2 := cell_at (i := 2) m4 rfl
  have r3 := cell_at (i := 3) m4 rfl
  have r4 := cell_at (i := 4) m4 rfl
  have r5 := cell_at (i := 5) m4 rfl
  have r6 := cell_at (i := 6) m4 rfl
  have r7 := cell_at (i := 7) m4 rfl
  have z0 := cell_at (i := 0) n3 rfl
  have z1 := cell_at (i := 1) n3 rfl
  have z2 := cell_at (i := 2) n3 rfl
  have z3 := cell_at (i := 3) n3 rfl
  have z4 := cell_at (i := 4) n3 rfl
  have z5 := cell_at (i := 5) n3 rfl
  have z6 := cell_at (i := 6) n3 rfl
  have z7 := cell_at (i := 7) n3 rfl
  have y0 := thawed_at (i := 0) n3
  have y1 := thawed_at (i := 1) n3
  have y2 := thawed_at (i := 2) n3
  have y3 := thawed_at (i := 3) n3
  have y4 := thawed_at (i := 4) n3
  have y5 := thawed_at (i := 5) n3
  have y6 := thawed_at (i := 6) n3
  have y7 := thawed_at (i := 7) n3
  have C3 := Lib.hid hc3; have N3 := Lib.hid n3; have X3 := Lib.hid hx3; have R3 := Lib.hid hr3; have M3 := Lib.hid hm3
  clear hc3 n3 m4 hx3 hr3 ho3 hg3 hm3
  rw [← show V.heap.size = w.heap.size + 1 + 1 by have := HS.out; omega]
  go_wp2
  have hm3 := M3.out
  subst hm3
  have m9 := set8_block N3.out (⟨x.ro, A3, c3⟩ : RA)
  have k9 := (Kept.setCell (fun k => k = V.heap.size ∨ k = w.heap.size + 1) w3 ⟨V.heap.size, 7, none⟩ (.slice A3 x.ro.cols.length c3) (Or.inl rfl)).trans (kept_set80 (w.heap.size + 1) (⟨x.ro, A3, c3⟩ : RA)) fun k hk => Or.inl (Or.inr hk)
  dsimp only at m9 k9
  have hf9 : OwnC w _ (⟨x.ro, A3, c3⟩ : RA) := OwnC.kept (w0 := w) (w := w3) (x := ⟨x.ro, A3, c3⟩) (e := 36) (own_base C3.out.own BU.out.size) k9 (fun k hk => by
    rcases hk with rfl | rfl
    · exact ⟨_, X3.out⟩
    · exact ⟨_, R3.out⟩) (by decide)
  have hb9 := (BU.out.trans (C3.out.below.mono BU.out.size)).trans (k9.below (B := w.heap.size) (fun k e => by have := HS.out; omega) (by have := BU.out.size; have := C3.out.below.size; omega))
  have HF9 := Lib.hid hf9; have HB9 := Lib.hid hb9
  clear hf9 hb9
  generalize hw9 : World.setCell (World.setCell (World.setCell (World.setCell (World.setCell (World.setCell (World.setCell (World.setCell (w3.setCell ⟨V.heap.size, 7, none⟩ (.slice A3 x.ro.cols.length c3)) ⟨w.heap.size + 1, 0, none⟩ (.string x.ro.key)) ⟨w.heap.size + 1, 1, none⟩ (.string x.ro.live.s)) ⟨w.heap.size + 1, 2, none⟩ (.bool x.ro.live.d)) ⟨w.heap.size + 1, 3, none⟩ (.int .i64 x.ro.live.a)) ⟨w.heap.size + 1, 4, none⟩ (.int .i64 x.ro.live.e)) ⟨w.heap.size + 1, 5, none⟩ (.int .i64 x.ro.gone)) ⟨w.heap.size + 1, 6, none⟩ (.int .i64 x.ro.shade)) ⟨w.heap.size + 1, 7, none⟩ (.slice A3 x.ro.cols.length c3) = w9 at m9 k9 HF9 HB9 ⊢
  clear hw9 r0 r1 r2 r3 r4 r5 r6 r7 z0 z1 z2 z3 z4 z5 z6 z7 y0 y1 y2 y3 y4 y5 y6 y7
  have q0 := cell_at (i := 0) m9 rfl
  have q1 := cell_at (i := 1) m9 rfl
  have q2 := cell_at (i := 2) m9 rfl
  have q3 := cell_at (i := 3) m9 rfl
  have q4 := cell_at (i := 4) m9 rfl
  have q5 := cell_at (i := 5) m9 rfl
  have q6 := cell_at (i := 6) m9 rfl
  have q7 := cell_at (i := 7) m9 rfl
  refine bodyPost_ret (v := .agg #[.string x.ro.key, .string x.ro.live.s, .bool x.ro.live.d, .int .i64 x.ro.live.a, .int .i64 x.ro.live.e, .int .i64 x.ro.gone, .int .i64 x.ro.shade, .slice A3 x.ro.cols.length c3]) ?_ rfl ?_
  · simp [results, Try.results59, go_sem, q0, q1, q2, q3, q4, q5, q6, q7]
  · exact ⟨⟨x.ro, A3, c3⟩, rfl, rfl, HF9.out, HB9.out⟩

set_option maxRecDepth 8000 in
set_option maxHeartbeats 8000000 in
theorem rpcopy_any (k : ByteArray) (g : Int) (A : Option Addr) (n c B : Nat) (L : List RA) (w : World) (h : Lies w B A n c L) (hB : B ≤ w.heap.size) (hn : n ≤ 1000) (hf : ∀ x ∈ L, x.ro.cols.length ≤ 1000) :
    Calls Try.prog 38 #[.agg #[.string k, .int .i64 g, .slice A n c]] w fun e w' => ∃ M A' n' c', e = .returned (.agg #[.string k, .int .i64 g, .slice A' n' c']) ∧ ros M = ros L ∧ Fresh w w' (.slice A' n' c') M := by
  have hl := h.len
  have bz := ((Below.refl w.heap.size w).alloc (Nat.le_refl _) (.cells #[.string k, .int .i64 g, .slice A n c] 24)).alloc (by simp) (.cells #[.string ⟨#[]⟩, .int .i64 0, .slice none 0 0] 24)
  have hz0 := new_at (heap_alloc_new w (.cells #[.string k, .int .i64 g, .slice A n c] 24)) (.cells #[.string ⟨#[]⟩, .int .i64 0, .slice none 0 0] 24)
  have hz1 := heap_alloc_new (w.alloc (.cells #[.string k, .int .i64 g, .slice A n c] 24)) (.cells #[.string ⟨#[]⟩, .int .i64 0, .slice none 0 0] 24)
  simp only [World.size_alloc] at hz1
  obtain ⟨V, hV⟩ : ∃ V, V = (w.alloc (.cells #[.string k, .int .i64 g, .slice A n c] 24)).alloc (.cells #[.string ⟨#[]⟩, .int .i64 0, .slice none 0 0] 24) := ⟨_, rfl⟩
  have hVs : V.heap.size = w.heap.size + 2 := by rw [hV]; simp
  rw [← hV] at bz hz0 hz1
  have HL := Lib.hid hl; have HH := Lib.hid (h.below (bz.mono hB)); have HF := Lib.hid hf; have BZ := Lib.hid bz; have HZ0 := Lib.hid hz0; have HZ1 := Lib.hid hz1; have HVS := Lib.hid hVs
  have HNB := Lib.hid hn
  have hp0 : ∀ w', Below V.heap.size V w' → PtAt w' w.heap.size k g A n c := fun w' hb => PtAt.of ((hb.block w.heap.size (by omega)).trans hz0)
  have HP0 := Lib.hid hp0
  obtain ⟨_, _, _⟩ := PtAt.of hz0
  have hv2 : V.heap.size = w.heap.size + 1 + 1 := by omega
  have HV2 := Lib.hid hv2
  clear hl h hf bz hz0 hz1 hVs hp0 hv2
  go_enter Try.func38, Try.ntmps38
  go_wp2_with fail
  rw [← hV]
  clear hV
  go_wp2_with fail
  rw [← HV2.out]
  go_loopw [4] (fun i wr => ∃ (t m : Nat) (K : List RA) (A3 : Option Addr) (c3 : Nat), t ≤ n ∧ i = .int .i64 t ∧ K.length = m ∧ m ≤ t ∧ ros K = ros (L.take t) ∧ wr.heap[V.heap.size]? = some (.cells #[.string k, .int .i64 g, .slice A3 m c3] 24) ∧ Fresh V wr (.slice A3 m c3) K) (fun i _ => n - (intOf i).toNat)
  case atStart => exact ⟨0, 0, [], none, 0, Nat.zero_le _, rfl, rfl, Nat.le_refl _, rfl, heap_alloc_new V _, Fresh.nil ((Below.refl V.heap.size V).alloc (Nat.le_refl _) _)⟩
  case round =>
    obtain ⟨t, m, K, A3, c3, ht, rfl, hm, hmt, hk, hp, ho⟩ := hrel
    have HM := Lib.hid hm; have HMT := Lib.hid hmt; have HK := Lib.hid hk; have HT := Lib.hid hp; have HO := Lib.hid ho
    obtain ⟨_, _, _⟩ := HP0.out _ ho.below
    clear hm hmt hk ho
    by_cases hlt : t < n
    · have i1 : (t : Int) < n := by omega
      have i0 : (0 : Int) ≤ t := by omega
      have htl : t < L.length := by rw [HL.out]; exact hlt
      obtain ⟨g0, o0, rfl, hgb⟩ := HH.out.rd.ex (by omega)
      have htk := ros_take htl
      have hlies := HH.out.below (HO.out.below.mono (by have := HVS.out; omega))
      have hin := hlies.held L[t] (List.getElem_mem htl)
      have hcl := HF.out L[t] (List.getElem_mem htl)
      obtain ⟨x, hx⟩ : ∃ x, L[t] = x := ⟨_, rfl⟩
      have hrw : ∀ w', Below V.heap.size V w' → RowAt w' g0 (o0 + t * 8) x := fun w' hb => by
        have h1 := (HH.out.below (hb.mono (by have := HVS.out; omega))).rd.row htl
        rwa [hx] at h1
      rw [hx] at hin hcl htk
      have HIN := Lib.hid hin; have HCL := Lib.hid hcl; have HTK := Lib.hid htk; have HRW := Lib.hid hrw
      have HUB : Hid (B ≤ wr.drew.heap.size) := Lib.hid (by have := HVS.out; have := HO.out.below.size; show B ≤ wr.heap.size; omega)
      clear hin hcl htk hrw hx hlies hp
      go_wp2_with fail
      refine wp_region_z (S := fun w' => w'.heap[V.heap.size]? = some (.cells #[.string k, .int .i64 g, .slice A3 m c3] 24) ∧ Below V.heap.size V w') 11 (by kernel_rfl) ?_ (fun hHeld => ?_)
      · exact ⟨HT.out, HO.out.below.drew⟩
      refine takesZ [0, 1, 2, 3, 4, 5, 6] ?_
      repeat
        refine takesZ_one (v := ?_) ?_ ?_
        rotate_left
        · first | (refine Or.inr ⟨by rfl, ?_⟩; with_reducible rfl) | (refine Or.inl ⟨by rfl, ?_⟩; intro wx hSw; (try dsimp only at hSw); first | (go_simp; first | done | with_reducible rfl) | (obtain ⟨_, _, _⟩ := PtAt.of hSw.1; go_simp; first | done | with_reducible rfl) | (obtain ⟨_, _, _⟩ := HP0.out _ hSw.2; go_simp; first | done | with_reducible rfl) | (obtain ⟨_, _, _, _, _, _, _, _⟩ := HRW.out _ hSw.2; go_simp; first | done | with_reducible rfl))
        try simp only [Act.put, List.getElem_toArray, List.getElem_cons_succ, List.getElem_cons_zero, List.setIfInBounds_toArray, List.set_cons_zero, List.set_cons_succ]
      refine takesZ_nil ?_
      refine wpAnyZ_one (i := 7) (by kernel_rfl) rfl (fun K hK => ?_)
      go_simp
      refine (rcopyrow_ra x B wr.drew (HIN.out.below (Below.refl _ _).drew) HUB.out HCL.out).mono ?_
      rintro e v4 ⟨z, rfl, hz, hcz⟩
      unfold RA.v Ro.val
      have HZ := Lib.hid hz
      have hb4 : Below wr.heap.size wr v4 := next (w := wr) (w1 := wr.drew) ((Below.refl wr.heap.size wr).drew) hcz.below
      have C4 := Lib.hid (HO.out.on hb4)
      have hz4 : OwnC V v4 z := own_base hcz.own HO.out.below.size
      have T4 := Lib.hid ((hb4.block V.heap.size (Array.getElem?_eq_some_iff.1 HT.out).1).trans HT.out)
      have RD := Lib.hid (RdR.laid v4 z)
      have ba4 := (Below.refl v4.heap.size v4).alloc (Nat.le_refl _) (.cells #[.string z.ro.key, .string z.ro.live.s, .bool z.ro.live.d, .int .i64 z.ro.live.a, .int .i64 z.ro.live.e, .int .i64 z.ro.gone, .int .i64 z.ro.shade, .slice z.A z.ro.cols.length z.c] 36)
      have C5 := Lib.hid (C4.out.on ba4)
      have HZ5 := Lib.hid (hz4.on ba4)
      have T5 := Lib.hid ((ba4.block V.heap.size (Array.getElem?_eq_some_iff.1 T4.out).1).trans T4.out)
      clear hz hcz hb4 hz4 ba4
      try go_wp2_with fail
      refine hK.out _ _ ?_ (fun hHeld => ?_)
      · exact ⟨T4.out, C4.out.below⟩
      clear hK K
      try simp only [Act.put, List.getElem_toArray, List.getElem_cons_succ, List.getElem_cons_zero, List.setIfInBounds_toArray, List.set_cons_zero, List.set_cons_succ]
      refine wpAnyZ_one (i := 8) (by kernel_rfl) rfl (fun K hK => ?_)
      go_simp
      refine hK.out _ _ ?_ (fun hHeld => ?_)
      · exact ⟨T5.out, C5.out.below⟩
      clear hK K
      try simp only [Act.put, List.getElem_toArray, List.getElem_cons_succ, List.getElem_cons_zero, List.setIfInBounds_toArray, List.set_cons_zero, List.set_cons_succ]
      refine wpAnyZ_one (i := 9) (by kernel_rfl) rfl (fun K hK => ?_)
      refine step_ex rfl (.tmp 18) (.tmp 25) _ _ rfl (.slice A3 m c3) (.slice (some ⟨v4.heap.size, 0, none⟩) 1 1) (by simp [Act.eval]) (by simp [Act.eval]) (run_appR V.heap.size (HM.out ▸ C5.out.cur.own) RD.out ?s3 ?s4) ?_
      case s3 => have := HMT.out; have := HNB.out; omega
      case s4 => exact C5.out.below.size
      intro v6 w6 ho6 hg6
      obtain ⟨hg6, _⟩ := hg6
      obtain ⟨A6, m6, c6, rfl, hm6, hc6⟩ := C5.out.app (k := [z]) (fun y hy => by rw [List.mem_singleton.1 hy]; exact HZ5.out) ho6 hg6
      have C6 := Lib.hid hc6
      have T6 := Lib.hid ((hg6.block V.heap.size (Array.getElem?_eq_some_iff.1 T5.out).1 (fun hp => own_ne C5.out.cur.own T5.out (by decide) _ hp.symm rfl)).trans T5.out)
      have M6 := Lib.hid hm6
      clear ho6 hg6 hc6 hm6
      refine hK.out _ _ ?_ (fun hHeld => ?_)
      · exact ⟨T6.out, C6.out.below⟩
      clear hK K
      try simp only [Act.put, List.getElem_toArray, List.getElem_cons_succ, List.getElem_cons_zero, List.setIfInBounds_toArray, List.set_cons_zero, List.set_cons_succ]
      have k2 := cell_at (i := 2) hHeld.1 rfl
      have f2 := thawed_at (i := 2) hHeld.1
      refine takesZ [10] ?_
      repeat
        refine takesZ_one (v := ?_) ?_ ?_
        rotate_left
        · first | (refine Or.inr ⟨by rfl, ?_⟩; with_reducible rfl) | (refine Or.inl ⟨by rfl, ?_⟩; intro wx hSw; (try dsimp only at hSw); first | (go_simp; first | done | with_reducible rfl))
        try simp only [Act.put, List.getElem_toArray, List.getElem_cons_succ, List.getElem_cons_zero, List.setIfInBounds_toArray, List.set_cons_zero, List.set_cons_succ]
      refine takesZ_nil ?_
      refine wpAnyZ_last (by kernel_rfl) rfl (fun K hK => ?_)
      go_simp
      refine hK.out _ _ ?_
      clear hK K
      try simp only [Act.put, List.getElem_toArray, List.getElem_cons_succ, List.getElem_cons_zero, List.setIfInBounds_toArray, List.set_cons_zero, List.set_cons_succ]
      refine wpAnyZ_done (by kernel_rfl) ?_ _
      have hp9 := part_setrows hHeld.1 (.slice A6 m6 c6)
      have hc9 := C6.out.kept (Kept.setCell (fun j => j = V.heap.size) w6 ⟨V.heap.size, 2, none⟩ (.slice A6 m6 c6) rfl) (e := 24) (fun j hj => by subst hj; exact ⟨Nat.le_refl _, _, hHeld.1⟩) (by decide) (by decide)
      generalize w6.setCell ⟨V.heap.size, 2, none⟩ (.slice A6 m6 c6) = w9 at hp9 hc9 ⊢
      have P9 := Lib.hid hp9; have C9 := Lib.hid hc9
      have hs : ros (K ++ [z]) = ros (L.take (t + 1)) := by rw [HTK.out, ← HK.out, ← HZ.out]; simp [ros]
      have HS := Lib.hid hs
      have hm7 : m6 = m + 1 := by rw [M6.out, List.length_append, HM.out]; rfl
      have HM7 := Lib.hid hm7
      clear hp9 hc9 hs hHeld k2 f2 hm7
      go_wp2
      go_roundw
      case rel => exact ⟨t + 1, m6, K ++ [z], A6, c6, by omega, by go_num, M6.out.symm, by rw [HM7.out]; have := HMT.out; omega, HS.out, P9.out, C9.out⟩
      case measure => simp [intOf]; omega
    · obtain rfl : t = n := by omega
      have k0 := cell_at (i := 0) HT.out rfl
      have k1 := cell_at (i := 1) HT.out rfl
      have k2 := cell_at (i := 2) HT.out rfl
      have hm1 := (HO.out.below.block (w.heap.size + 1) (by have := HVS.out; omega)).trans HZ1.out
      have z0 := cell_at (i := 0) hm1 rfl
      have z1 := cell_at (i := 1) hm1 rfl
      have z2 := cell_at (i := 2) hm1 rfl
      have y0 := thawed_at (i := 0) hm1
      have y1 := thawed_at (i := 1) hm1
      have y2 := thawed_at (i := 2) hm1
      have m9 := set3_block hm1 (.string k) (.int .i64 g) (.slice A3 m c3)
      have k9 := kept_set3 (w := wr) (w.heap.size + 1) (.string k) (.int .i64 g) (.slice A3 m c3)
      have hfr9 := (HO.out.lower BZ.out).kept k9 (e := 24) (fun j hj => by subst hj; exact ⟨by omega, _, hm1⟩) (by decide) (by decide)
      have hros : ros K = ros L := by rw [HK.out, List.take_of_length_le (by rw [HL.out]; exact Nat.le_refl _)]
      have HFR := Lib.hid hfr9; have HROS := Lib.hid hros
      clear hfr9 k9 hm1 hros hp
      go_wp2
      generalize hw9 : (((wr.setCell ⟨w.heap.size + 1, 0, none⟩ (.string k)).setCell ⟨w.heap.size + 1, 1, none⟩ (.int .i64 g)).setCell ⟨w.heap.size + 1, 2, none⟩ (.slice A3 m c3)) = w9 at m9 HFR ⊢
      clear hw9 z0 z1 z2 y0 y1 y2 k0 k1 k2
      have q0 := cell_at (i := 0) m9 rfl
      have q1 := cell_at (i := 1) m9 rfl
      have q2 := cell_at (i := 2) m9 rfl
      refine bodyPost_ret (v := .agg #[.string k, .int .i64 g, .slice A3 m c3]) ?_ rfl ?_
      · simp [results, Try.results38, go_sem, q0, q1, q2]
      · exact ⟨K, A3, m, c3, rfl, HROS.out, HFR.out⟩

set_option maxRecDepth 8000 in
set_option maxHeartbeats 8000000 in
theorem lpart_any (k : ByteArray) (g : Int) (A : Option Addr) (n c B : Nat) (L : List RA) (w : World) (h : Lies w B A n c L) (hB : B ≤ w.heap.size) (hn : n ≤ 1000) (hf : ∀ x ∈ L, x.ro.cols.length ≤ 1000) :
    Calls Try.prog 16 #[.agg #[.string k, .int .i64 g, .slice A n c]] w fun e w' => ∃ M A' n' c', e = .returned (.agg #[.string k, .int .i64 g, .slice A' n' c']) ∧ ros M = ros L ∧ Fresh w w' (.slice A' n' c') M := by
  have bz := ((Below.refl w.heap.size w).alloc (Nat.le_refl _) (.cells #[.string k, .int .i64 g, .slice A n c] 24)).alloc (by simp) (.cells #[.string ⟨#[]⟩, .int .i64 0, .slice none 0 0] 24)
  have hz0 := new_at (heap_alloc_new w (.cells #[.string k, .int .i64 g, .slice A n c] 24)) (.cells #[.string ⟨#[]⟩, .int .i64 0, .slice none 0 0] 24)
  have hz1 := heap_alloc_new (w.alloc (.cells #[.string k, .int .i64 g, .slice A n c] 24)) (.cells #[.string ⟨#[]⟩, .int .i64 0, .slice none 0 0] 24)
  simp only [World.size_alloc] at hz1
  obtain ⟨V, hV⟩ : ∃ V, V = (w.alloc (.cells #[.string k, .int .i64 g, .slice A n c] 24)).alloc (.cells #[.string ⟨#[]⟩, .int .i64 0, .slice none 0 0] 24) := ⟨_, rfl⟩
  have hVs : V.heap.size = w.heap.size + 2 := by rw [hV]; simp
  rw [← hV] at bz hz0 hz1
  have HH := Lib.hid (h.below (bz.mono hB)); have HF := Lib.hid hf; have BZ := Lib.hid bz; have HZ1 := Lib.hid hz1; have HVS := Lib.hid hVs
  obtain ⟨_, _, _⟩ := PtAt.of hz0
  clear h hf bz hz0 hz1 hVs
  go_enter Try.func16, Try.ntmps16
  go_wp2_with fail
  rw [← hV]
  clear hV
  go_wp2_with fail
  refine (rpcopy_any k g A n c B L _ HH.out (by have := HVS.out; omega) hn HF.out).mono ?_
  rintro e w1 ⟨M, A', n', c', rfl, hM, hfr⟩
  have hm1 := (hfr.below.block (w.heap.size + 1) (by have := HVS.out; omega)).trans HZ1.out
  have z0 := cell_at (i := 0) hm1 rfl
  have z1 := cell_at (i := 1) hm1 rfl
  have z2 := cell_at (i := 2) hm1 rfl
  have y0 := thawed_at (i := 0) hm1
  have y1 := thawed_at (i := 1) hm1
  have y2 := thawed_at (i := 2) hm1
  have m9 := set3_block hm1 (.string k) (.int .i64 g) (.slice A' n' c')
  have k9 := kept_set3 (w := w1) (w.heap.size + 1) (.string k) (.int .i64 g) (.slice A' n' c')
  have hfr9 := (hfr.lower BZ.out).kept k9 (e := 24) (fun j hj => by subst hj; exact ⟨by omega, _, hm1⟩) (by decide) (by decide)
  have HFR := Lib.hid hfr9; have HM := Lib.hid hM
  clear hfr hfr9 hM k9 hm1
  go_wp2
  generalize hw9 : (((w1.setCell ⟨w.heap.size + 1, 0, none⟩ (.string k)).setCell ⟨w.heap.size + 1, 1, none⟩ (.int .i64 g)).setCell ⟨w.heap.size + 1, 2, none⟩ (.slice A' n' c')) = w9 at m9 HFR ⊢
  clear hw9 z0 z1 z2 y0 y1 y2
  have q0 := cell_at (i := 0) m9 rfl
  have q1 := cell_at (i := 1) m9 rfl
  have q2 := cell_at (i := 2) m9 rfl
  refine bodyPost_ret (v := .agg #[.string k, .int .i64 g, .slice A' n' c']) ?_ rfl ?_
  · simp [results, Try.results16, go_sem, q0, q1, q2]
  · exact ⟨M, A', n', c', rfl, HM.out, HFR.out⟩
end Go.Proofs.Ytafbbojfifcncaa
set_option linter.unusedVariables false
set_option linter.unusedSimpArgs false
namespace Go.Proofs.Ytafbbojfifcncaa
open Go Go.RowKit

/-- Rows of one's own, each with columns that came in, or of its own. -/
structure PutR (w0 w : World) (v : Value) (L M : List RA) : Prop where
  cur : CurR w0 w v M
  rows : ∀ y ∈ M, y ∈ L ∨ OwnC w0 w y
theorem PutR.below {w0 w : World} {v : Value} {L M : List RA} (h : PutR w0 w v L M) : Below w0.heap.size w0 w := h.cur.below
theorem PutR.on {w0 w w' : World} {v : Value} {L M : List RA} (h : PutR w0 w v L M) (hb : Below w.heap.size w w') : PutR w0 w' v L M := ⟨h.cur.on hb, fun y hy => (h.rows y hy).imp id fun h => h.on hb⟩
theorem PutR.lower {w V w9 : World} {v : Value} {L M : List RA} (h : PutR V w9 v L M) (hV : Below w.heap.size w V) : PutR w w9 v L M := ⟨h.cur.lower hV, fun y hy => (h.rows y hy).imp id fun h => own_base h hV.size⟩
theorem PutR.app {w0 w w' : World} {v v' : Value} {L M k : List RA} {N : Nat} (h : PutR w0 w v L M) (hk : ∀ x ∈ k, x ∈ L ∨ OwnC w0 w x) (ho : w'.ownsRow w0.heap.size 36 8 v' N (rRow (M ++ k))) (hg : w.grownBy w' v.ownBlock) : ∃ A m c, v' = .slice A m c ∧ m = (M ++ k).length ∧ PutR w0 w' (.slice A m c) L (M ++ k) := by
  obtain ⟨A, m, c, rfl, h1⟩ := h.cur.appN ho hg
  refine ⟨A, m, c, rfl, ?_, h1, fun x hx => ?_⟩
  · obtain ⟨A', c', e, _⟩ := own_slice h1.own
    injection e
  · rcases List.mem_append.1 hx with h2 | h2
    · exact (h.rows x h2).imp id fun h2 => h2.grown h.cur.own hg
    · exact (hk x h2).imp id fun h2 => h2.grown h.cur.own hg
theorem PutR.nil {w V : World} (L : List RA) (hb : Below w.heap.size w V) : PutR w V (.slice none 0 0) L [] := ⟨⟨own_nilR _ _, hb⟩, fun x hx => by cases hx⟩

theorem put_ros {L : List RA} {x : Ro} {t : Nat} (ht : t ≤ L.length) (hup : ∀ j (hj : j < L.length), j < t → nlt L[j].ro.key x.key) (hnot : ∀ hk : t < L.length, ¬ nlt L[t].ro.key x.key) :
    (∀ (hk : t < L.length), L[t].ro.key = x.key → ∀ z : RA, z.ro = L[t].ro.join x → ros (L.take t ++ ([z] ++ L.drop (t + 1))) = putK Ro.key Ro.join (ros L) x) ∧
    ((∀ (hk : t < L.length), L[t].ro.key ≠ x.key) → ∀ z : RA, z.ro = x → ros (L.take t ++ ([z] ++ L.drop t)) = putK Ro.key Ro.join (ros L) x) := by
  have h := putK_at (key := Ro.key) (jn := Ro.join) (ros L) x t (by rw [List.length_map]; exact ht) (fun j hj h => by rw [List.getElem_map]; exact hup j (by rw [List.length_map] at hj; exact hj) h) (fun hk => by rw [List.getElem_map]; exact hnot (by rw [List.length_map] at hk; exact hk))
  rw [h]
  constructor
  · intro hk he z hz
    have hk' : t < (ros L).length := by rw [List.length_map]; exact hk
    rw [dif_pos hk', if_pos (by rw [List.getElem_map]; exact he)]
    simp only [ros, List.map_append, List.map_cons, List.map_nil, List.map_take, List.map_drop, List.getElem_map, hz, List.singleton_append]
  · intro hne z hz
    by_cases hk : t < L.length
    · have hk' : t < (ros L).length := by rw [List.length_map]; exact hk
      rw [dif_pos hk', if_neg (by rw [List.getElem_map]; exact hne hk)]
      simp only [ros, List.map_append, List.map_cons, List.map_nil, List.map_take, List.map_drop, hz, List.singleton_append]
    · have hk' : ¬ t < (ros L).length := by rw [List.length_map]; exact hk
      rw [dif_neg hk', List.drop_of_length_le (by omega)]
      simp only [ros, List.map_append, List.map_cons, List.map_nil, List.map_take, hz, List.append_nil]
theorem rjoin_ra (x y : RA) (B B' : Nat) (w : World) (h : RaIn w B x) (h' : RaIn w B' y) (hB : B ≤ w.heap.size) (hB' : B' ≤ w.heap.size) (hn : x.ro.cols.length + y.ro.cols.length ≤ 1000) :
    Calls Try.prog 60 #[.agg #[.string x.ro.key, .string x.ro.live.s, .bool x.ro.live.d, .int .i64 x.ro.live.a, .int .i64 x.ro.live.e, .int .i64 x.ro.gone, .int .i64 x.ro.shade, .slice x.A x.ro.cols.length x.c], .agg #[.string y.ro.key, .string y.ro.live.s, .bool y.ro.live.d, .int .i64 y.ro.live.a, .int .i64 y.ro.live.e, .int .i64 y.ro.gone, .int .i64 y.ro.shade, .slice y.A y.ro.cols.length y.c]] w fun e w' => ∃ z : RA, e = .returned z.v ∧ z.ro = x.ro.join y.ro ∧ Cur w w' (.slice z.A z.ro.cols.length z.c) z.ro.cols := by
  refine (rjoin_ro x.ro y.ro (x.ro.join y.ro) x.A y.A x.c y.c B B' w h h' hB hB' hn rfl).mono ?_
  rintro e w' ⟨A, c, rfl, hc⟩
  exact ⟨⟨x.ro.join y.ro, A, c⟩, rfl, rfl, hc⟩
set_option maxRecDepth 8000 in
set_option maxHeartbeats 8000000 in
theorem rput_ra (A : Option Addr) (n c B B' : Nat) (L : List RA) (x : RA) (w : World) (h : Lies w B A n c L) (hx : RaIn w B' x) (hB : B ≤ w.heap.size) (hB' : B' ≤ w.heap.size) (hA : A = none → c = 0) (hn : n ≤ 1000) (hcx : x.ro.cols.length ≤ 1000) (hf : ∀ y ∈ L, y.ro.cols.length + x.ro.cols.length ≤ 1000) :
    Calls Try.prog 39 #[.slice A n c, .agg #[.string x.ro.key, .string x.ro.live.s, .bool x.ro.live.d, .int .i64 x.ro.live.a, .int .i64 x.ro.live.e, .int .i64 x.ro.gone, .int .i64 x.ro.shade, .slice x.A x.ro.cols.length x.c]] w fun e w' => ∃ A' m' c' M, e = .returned (.slice A' m' c') ∧ ros M = putK Ro.key Ro.join (ros L) x.ro ∧ PutR w w' (.slice A' m' c') L M := by
  obtain ⟨P, hP⟩ : ∃ P, putK Ro.key Ro.join (ros L) x.ro = P := ⟨_, rfl⟩
  rw [hP]
  have HP := Lib.hid hP
  clear hP
  have hl := h.len
  have hnc := h.cap
  have bz := (Below.refl w.heap.size w).alloc (Nat.le_refl _) (.cells #[.string x.ro.key, .string x.ro.live.s, .bool x.ro.live.d, .int .i64 x.ro.live.a, .int .i64 x.ro.live.e, .int .i64 x.ro.gone, .int .i64 x.ro.shade, .slice x.A x.ro.cols.length x.c] 36)
  have hz := heap_alloc_new w (.cells #[.string x.ro.key, .string x.ro.live.s, .bool x.ro.live.d, .int .i64 x.ro.live.a, .int .i64 x.ro.live.e, .int .i64 x.ro.gone, .int .i64 x.ro.shade, .slice x.A x.ro.cols.length x.c] 36)
  have hr2 := h.below (bz.mono hB)
  have hx2 := hx.below (bz.mono hB')
  obtain ⟨V, hV⟩ : ∃ V, V = w.alloc (.cells #[.string x.ro.key, .string x.ro.live.s, .bool x.ro.live.d, .int .i64 x.ro.live.a, .int .i64 x.ro.live.e, .int .i64 x.ro.gone, .int .i64 x.ro.shade, .slice x.A x.ro.cols.length x.c] 36) := ⟨_, rfl⟩
  have hVs : V.heap.size = w.heap.size + 1 := by rw [hV]; simp
  rw [← hV] at bz hz hr2 hx2
  have hallx : ∀ w', Below V.heap.size V w' → BlkAt w' w.heap.size x ∧ RaIn w' B' x := fun w' hb => ⟨BlkAt.of ((hb.block w.heap.size (by omega)).trans hz), hx2.below (hb.mono (by omega))⟩
  have hally : ∀ w', Below V.heap.size V w' → Lies w' B A n c L := fun w' hb => hr2.below (hb.mono (by omega))
  have hg0 : ∃ g0 o0, 0 < n → A = some ⟨g0, o0, none⟩ := by
    by_cases h0 : 0 < n
    · obtain ⟨g, o, e, _⟩ := h.rd.ex h0
      exact ⟨g, o, fun _ => e⟩
    · exact ⟨0, 0, fun h => absurd h h0⟩
  obtain ⟨g0, o0, hA0⟩ := hg0
  have BZ := Lib.hid bz; have HR := Lib.hid hr2.rd; have HL := Lib.hid hl; have HVS := Lib.hid hVs; have HX := Lib.hid hallx; have HYS := Lib.hid hally; have HA0 := Lib.hid hA0; have HF := Lib.hid hf; have HCL := Lib.hid hcx
  have HVB := Lib.hid (show B ≤ V.heap.size by omega)
  have HVB' := Lib.hid (show B' ≤ V.heap.size by omega)
  obtain ⟨⟨_, _, _, _, _, _, _, _⟩, _⟩ := hallx V (Below.refl _ _)
  clear bz hz hr2 hx2 h hx hVs hallx hally hA0 hf hcx
  go_enter Try.func39, Try.ntmps39
  go_upto_block 0 with fail
  rw [← hV]
  clear hV
  go_cut [5] from 7 to 22 (fun s5 wx => ∃ t : Nat, t ≤ n ∧ s5 = .int .i64 t ∧ (∀ j (hj : j < L.length), j < t → nlt L[j].ro.key x.ro.key) ∧ (∀ hk : t < L.length, ¬ nlt L[t].ro.key x.ro.key) ∧ Below V.heap.size V wx)
  case first =>
    go_wp2_with fail
    go_loopw [5] (fun i wr => ∃ t : Nat, t ≤ n ∧ i = .int .i64 t ∧ (∀ j (hj : j < L.length), j < t → nlt L[j].ro.key x.ro.key) ∧ Below V.heap.size V wr) (fun i _ => n - (intOf i).toNat)
    case atStart => exact ⟨0, Nat.zero_le _, rfl, fun j hj h => absurd h (by omega), Below.refl _ _⟩
    case round =>
      obtain ⟨t, ht, rfl, hup, hb⟩ := hrel
      have HUP := Lib.hid hup
      have HB := Lib.hid hb
      clear hup hb
      by_cases hlt : t < n
      · have htl : t < L.length := by rw [HL.out]; exact hlt
        obtain rfl : A = some ⟨g0, o0, none⟩ := HA0.out (by omega)
        have i1 : (t : Int) < n := by omega
        have i0 : (0 : Int) ≤ t := by omega
        have hy0 : ∀ w', Below V.heap.size V w' → RowAt w' g0 (o0 + t * 8) L[t] ∧ RaIn w' B L[t] := fun w' hb => ⟨(HYS.out w' hb).rd.row htl, (HYS.out w' hb).held _ (List.getElem_mem htl)⟩
        by_cases hm : nlt L[t].ro.key x.ro.key
        · have hup2 : ∀ j (hj : j < L.length), j < t + 1 → nlt L[j].ro.key x.ro.key := by
            intro j hj h
            rcases Nat.lt_or_ge j t with h1 | h1
            · exact HUP.out j hj h1
            · obtain rfl : j = t := by omega
              exact hm
          have HUP2 := Lib.hid hup2
          obtain ⟨y, hy⟩ : ∃ y, L[t] = y := ⟨_, rfl⟩
          rw [hy] at hy0 hm
          have hb1 : Op.bytesLess y.ro.key.toList x.ro.key.toList = true := blB_true hm
          have HY := Lib.hid hy0
          clear hup2 hm hy hy0
          go_wp2_with fail
          refine wp_region_held_drew (S := fun w' => Below V.heap.size V w') (by kernel_rfl) ?_ (fun hHeld => ?_)
          · exact HB.out.drew
          refine takesH [0, 1, 2, 3, 4, 5, 6, 7, 8, 9, 10, 11, 12, 13] ?_
          repeat
            refine takesH_one (v := ?_) ?_ ?_
            rotate_left
            · first | (refine Or.inr ⟨by rfl, ?_⟩; with_reducible rfl) | (refine Or.inl ⟨by rfl, ?_⟩; intro wx hSw; (try dsimp only at hSw); first | (go_simp; first | done | with_reducible rfl) | (obtain ⟨⟨_, _, _, _, _, _, _, _⟩, _⟩ := HX.out _ hSw; obtain ⟨⟨_, _, _, _, _, _, _, _⟩, _⟩ := HY.out _ hSw; go_simp; first | done | with_reducible rfl))
            try simp only [Act.put, List.getElem_toArray, List.getElem_cons_succ, List.getElem_cons_zero, List.setIfInBounds_toArray, List.set_cons_zero, List.set_cons_succ]
          refine takesH_nil ?_
          refine wpAnyH_done (by kernel_rfl) ?_ _
          go_wp2
          go_roundw
          case rel => exact ⟨t + 1, by omega, by go_num, HUP2.out, hHeld⟩
          case measure => simp [intOf]; omega
        · have HM := Lib.hid hm
          obtain ⟨y, hy⟩ : ∃ y, L[t] = y := ⟨_, rfl⟩
          rw [hy] at hy0 hm
          have hb1 : Op.bytesLess y.ro.key.toList x.ro.key.toList = false := blB_false hm
          have HY := Lib.hid hy0
          clear hm hy hy0
          go_wp2_with fail
          refine wp_region_held_drew (S := fun w' => Below V.heap.size V w') (by kernel_rfl) ?_ (fun hHeld => ?_)
          · exact HB.out.drew
          refine takesH [0, 1, 2, 3, 4, 5, 6, 7, 8, 9, 10, 11, 12, 13] ?_
          repeat
            refine takesH_one (v := ?_) ?_ ?_
            rotate_left
            · first | (refine Or.inr ⟨by rfl, ?_⟩; with_reducible rfl) | (refine Or.inl ⟨by rfl, ?_⟩; intro wx hSw; (try dsimp only at hSw); first | (go_simp; first | done | with_reducible rfl) | (obtain ⟨⟨_, _, _, _, _, _, _, _⟩, _⟩ := HX.out _ hSw; obtain ⟨⟨_, _, _, _, _, _, _, _⟩, _⟩ := HY.out _ hSw; go_simp; first | done | with_reducible rfl))
            try simp only [Act.put, List.getElem_toArray, List.getElem_cons_succ, List.getElem_cons_zero, List.setIfInBounds_toArray, List.set_cons_zero, List.set_cons_succ]
          refine takesH_nil ?_
          refine wpAnyH_done (by kernel_rfl) ?_ _
          go_wp2
          go_meet
          exact ⟨t, by omega, rfl, HUP.out, fun _ => HM.out, hHeld⟩
      · have d0 : decide ((t : Int) < (n : Int)) = false := by simp; omega
        have d1 : decide (t < n) = false := decide_eq_false hlt
        have d2 : n ≤ t := by omega
        go_wp2_with fail
        refine wp_region_held_drew (S := fun w' => Below V.heap.size V w') (by kernel_rfl) ?_ (fun hHeld => ?_)
        · exact HB.out.drew
        refine takesH [0, 1, 2, 3, 4, 5, 6, 7, 8, 9, 10, 11, 12, 13] ?_
        repeat
          refine takesH_one (v := ?_) ?_ ?_
          rotate_left
          · first | (refine Or.inr ⟨by rfl, ?_⟩; with_reducible rfl) | (refine Or.inl ⟨by rfl, ?_⟩; intro wx hSw; (try dsimp only at hSw); first | (go_simp; first | done | with_reducible rfl))
          try simp only [Act.put, List.getElem_toArray, List.getElem_cons_succ, List.getElem_cons_zero, List.setIfInBounds_toArray, List.set_cons_zero, List.set_cons_succ]
        refine takesH_nil ?_
        refine wpAnyH_done (by kernel_rfl) ?_ _
        go_wp2
        go_meet
        exact ⟨t, by omega, rfl, HUP.out, fun h => absurd h (by rw [HL.out]; omega), hHeld⟩
  case rest =>
    obtain ⟨t, ht, rfl, hup, hnot, hb⟩ := hcut
    obtain ⟨hsl, hpre⟩ := slR_h HR.out hnc hA (t : Int) t rfl ht
    have hq := hpre.below (hb.mono HVB.out)
    have hput := put_ros (by rw [HL.out]; exact ht) hup hnot
    rw [HP.out] at hput
    have HQ := Lib.hid hq; have HBC := Lib.hid hb; have HPUT := Lib.hid hput
    clear hup hnot hq hb hpre hput
    go_wp2_with (at_builtin; refine list_ex rfl (.const (.slice none 0 0)) (.tmp 25) _ _ rfl (.slice none 0 0) (.slice A t c) rfl rfl (run_appR V.heap.size (own_nilR _ _) (show RdR _ B A t (L.take t) from HQ.out) ?s1 ?s2) ?_)
    case s1 => omega
    case s2 => exact HBC.out.size
    intro v3 w3 ho3 hg3 _
    obtain ⟨A3, m3, c3, rfl, hm3, hc3⟩ := (PutR.nil L HBC.out).app (k := L.take t) (fun y hy => Or.inl (List.mem_of_mem_take hy)) ho3 hg3
    rw [List.nil_append] at hc3
    have hm4 : t = m3 := by rw [hm3, List.nil_append, List.length_take, HL.out]; omega
    subst hm4
    clear hm3
    have C3 := Lib.hid hc3
    clear ho3 hg3 hc3 hsl
    have HT3 := Lib.hid (show (L.take t).length = t by rw [List.length_take, HL.out]; omega)
    by_cases hlt : t < n
    · have htl : t < L.length := by rw [HL.out]; exact hlt
      obtain rfl : A = some ⟨g0, o0, none⟩ := HA0.out (by omega)
      have i1 : (t : Int) < n := by omega
      have i0 : (0 : Int) ≤ t := by omega
      have hy0 : ∀ w', Below V.heap.size V w' → RowAt w' g0 (o0 + t * 8) L[t] ∧ RaIn w' B L[t] := fun w' hb => ⟨(HYS.out w' hb).rd.row htl, (HYS.out w' hb).held _ (List.getElem_mem htl)⟩
      have hcx := HF.out L[t] (List.getElem_mem htl)
      by_cases he : L[t].ro.key = x.ro.key
      · have hp2 := HPUT.out.1 htl he
        obtain ⟨y, hy⟩ : ∃ y, L[t] = y := ⟨_, rfl⟩
        rw [hy] at hy0 he hcx hp2
        have hb1 : (y.ro.key.toList == x.ro.key.toList) = true := eqB_true he
        have HY := Lib.hid hy0; have HP2 := Lib.hid hp2; have HCX := Lib.hid hcx
        clear he hy hy0 hp2 hcx
        go_wp2_with fail
        refine wp_region_held_drew (S := fun w' => Below V.heap.size V w') (by kernel_rfl) ?_ (fun hHeld => ?_)
        · exact C3.out.below.drew
        refine takesH [0, 1, 2, 3, 4, 5, 6, 7, 8, 9, 10, 11, 12, 13] ?_
        repeat
          refine takesH_one (v := ?_) ?_ ?_
          rotate_left
          · first | (refine Or.inr ⟨by rfl, ?_⟩; with_reducible rfl) | (refine Or.inl ⟨by rfl, ?_⟩; intro wx hSw; (try dsimp only at hSw); first | (go_simp; first | done | with_reducible rfl) | (obtain ⟨⟨_, _, _, _, _, _, _, _⟩, _⟩ := HX.out _ hSw; obtain ⟨⟨_, _, _, _, _, _, _, _⟩, _⟩ := HY.out _ hSw; go_simp; first | done | with_reducible rfl))
          try simp only [Act.put, List.getElem_toArray, List.getElem_cons_succ, List.getElem_cons_zero, List.setIfInBounds_toArray, List.set_cons_zero, List.set_cons_succ]
        refine takesH_nil ?_
        refine wpAnyH_done (by kernel_rfl) ?_ _
        have HH := Lib.hid hHeld
        clear hHeld
        go_wp2_with fail
        refine wp_region_held_drew (S := fun w' => Below V.heap.size V w') (by kernel_rfl) ?_ (fun hHeld => ?_)
        · exact HH.out.drew
        refine takesH [0, 1, 2, 3, 4, 5] ?_
        repeat
          refine takesH_one (v := ?_) ?_ ?_
          rotate_left
          · first | (refine Or.inr ⟨by rfl, ?_⟩; with_reducible rfl) | (refine Or.inl ⟨by rfl, ?_⟩; intro wx hSw; (try dsimp only at hSw); first | (go_simp; first | done | with_reducible rfl) | (obtain ⟨⟨_, _, _, _, _, _, _, _⟩, _⟩ := HX.out _ hSw; obtain ⟨⟨_, _, _, _, _, _, _, _⟩, _⟩ := HY.out _ hSw; go_simp; first | done | with_reducible rfl))
          try simp only [Act.put, List.getElem_toArray, List.getElem_cons_succ, List.getElem_cons_zero, List.setIfInBounds_toArray, List.set_cons_zero, List.set_cons_succ]
        refine takesH_nil ?_
        refine wpAnyH_ready (rs := [6]) (by kernel_rfl) (by simp) (AllReadyH.cons rfl (fun K hK => ?_) AllReadyH.nil)
        go_simp
        refine (rjoin_ra y x B B' w3.drew.drew (HY.out _ HH.out.drew).2 (HX.out _ HH.out.drew).2 ?hb1 ?hb2 HCX.out).mono ?_
        case hb1 => exact Nat.le_trans HVB.out HH.out.size
        case hb2 => exact Nat.le_trans HVB'.out HH.out.size
        rintro e v4 ⟨z, rfl, hz, hcz⟩
        unfold RA.v Ro.val
        have HZ := Lib.hid hz
        have hb4 : Below w3.heap.size w3 v4 := next (w := w3) (w1 := w3.drew.drew) ((Below.refl w3.heap.size w3).drew.drew) hcz.below
        have C4 := Lib.hid (C3.out.on hb4)
        have hz4 : OwnC V v4 z := own_base hcz.own HH.out.size
        have RD := Lib.hid (RdR.laid v4 z)
        have ba4 := (Below.refl v4.heap.size v4).alloc (Nat.le_refl _) (.cells #[.string z.ro.key, .string z.ro.live.s, .bool z.ro.live.d, .int .i64 z.ro.live.a, .int .i64 z.ro.live.e, .int .i64 z.ro.gone, .int .i64 z.ro.shade, .slice z.A z.ro.cols.length z.c] 36)
        have C5 := Lib.hid (C4.out.on ba4)
        have HZ5 := Lib.hid (hz4.on ba4)
        clear hz hcz hb4 hz4 ba4
        try go_wp2_with fail
        refine hK.out _ _ ?_ (fun hHeld => ?_)
        · exact C4.out.below
        clear hK K
        try simp only [Act.put, List.getElem_toArray, List.getElem_cons_succ, List.getElem_cons_zero, List.setIfInBounds_toArray, List.set_cons_zero, List.set_cons_succ]
        refine wpAnyH_ready (rs := [7]) (by kernel_rfl) (by simp) (AllReadyH.cons rfl (fun K hK => ?_) AllReadyH.nil)
        go_simp
        refine hK.out _ _ ?_ (fun hHeld => ?_)
        · exact C5.out.below
        clear hK K
        try simp only [Act.put, List.getElem_toArray, List.getElem_cons_succ, List.getElem_cons_zero, List.setIfInBounds_toArray, List.set_cons_zero, List.set_cons_succ]
        refine wpAnyH_ready (rs := [8]) (by kernel_rfl) (by simp) (AllReadyH.cons rfl (fun K hK => ?_) AllReadyH.nil)
        refine step_ex rfl (.tmp 41) (.tmp 48) _ _ rfl (.slice A3 t c3) (.slice (some ⟨v4.heap.size, 0, none⟩) 1 1) (by simp [Act.eval]) (by simp [Act.eval]) (run_appR V.heap.size C5.out.cur.own RD.out ?s3 ?s4) ?_
        case s3 => have := HT3.out; omega
        case s4 => exact C5.out.below.size
        intro v6 w6 ho6 hg6
        obtain ⟨hg6, _⟩ := hg6
        obtain ⟨A6, m6, c6, rfl, hm6, hc6⟩ := C5.out.app (k := [z]) (fun y hy => by rw [List.mem_singleton.1 hy]; exact Or.inr HZ5.out) ho6 hg6
        have C6 := Lib.hid hc6
        have M6 := Lib.hid hm6
        clear ho6 hg6 hc6 hm6
        refine hK.out _ _ ?_ (fun hHeld => ?_)
        · exact C6.out.below
        clear hK K
        try simp only [Act.put, List.getElem_toArray, List.getElem_cons_succ, List.getElem_cons_zero, List.setIfInBounds_toArray, List.set_cons_zero, List.set_cons_succ]
        refine takesH [9] ?_
        repeat
          refine takesH_one (v := ?_) ?_ ?_
          rotate_left
          · first | (refine Or.inr ⟨by rfl, ?_⟩; with_reducible rfl) | (refine Or.inl ⟨by rfl, ?_⟩; intro wx hSw; (try dsimp only at hSw); first | (go_simp; first | done | with_reducible rfl))
          try simp only [Act.put, List.getElem_toArray, List.getElem_cons_succ, List.getElem_cons_zero, List.setIfInBounds_toArray, List.set_cons_zero, List.set_cons_succ]
        refine takesH_nil ?_
        refine wpAnyH_done (by kernel_rfl) ?_ _
        have wt : IntKind.i64.wrap ((t : Int) + 1) = (t : Int) + 1 := by rw [IntKind.wrap_i64]; omega
        obtain ⟨A7, hsl7, hr7⟩ := slR_l HR.out hnc ((t : Int) + 1) (t + 1) (by omega) (by omega)
        have HR7 := Lib.hid ((hr7.up HVB.out).below C6.out.below)
        clear hr7 hHeld
        go_wp2_with (at_builtin; refine list_ex rfl (.tmp 50) (.tmp 54) _ _ rfl (.slice A6 m6 c6) (.slice A7 (n - (t + 1)) (c - (t + 1))) rfl rfl (run_appR V.heap.size C6.out.cur.own HR7.out ?s5 ?s6) ?_)
        case s5 => have := HT3.out; simp only [List.length_append, List.length_singleton]; omega
        case s6 => exact C6.out.below.size
        intro v8 w8 ho8 hg8 _
        have e7 : L.take t ++ z :: L.drop (t + 1) = L.take t ++ [z] ++ L.drop (t + 1) := by simp
        try rw [e7] at ho8
        obtain ⟨A8, m8, c8, rfl, _, hc8⟩ := C6.out.app (k := L.drop (t + 1)) (fun y hy => Or.inl (List.mem_of_mem_drop hy)) ho8 hg8
        have C8 := Lib.hid hc8
        clear ho8 hg8 hc8
        go_wp2
        go_ret
        have h8 := C8.out.lower BZ.out
        rw [List.append_assoc] at h8
        exact ⟨_, _, _, _, rfl, HP2.out z HZ.out, h8⟩
      · have hp2 := HPUT.out.2 (fun _ => he)
        obtain ⟨y, hy⟩ : ∃ y, L[t] = y := ⟨_, rfl⟩
        rw [hy] at hy0 he
        have hb1 : (y.ro.key.toList == x.ro.key.toList) = false := eqB_false he
        have HY := Lib.hid hy0; have HP2 := Lib.hid hp2
        clear he hy hy0 hp2 hcx
        go_wp2_with fail
        refine wp_region_held_drew (S := fun w' => Below V.heap.size V w') (by kernel_rfl) ?_ (fun hHeld => ?_)
        · exact C3.out.below.drew
        refine takesH [0, 1, 2, 3, 4, 5, 6, 7, 8, 9, 10, 11, 12, 13] ?_
        repeat
          refine takesH_one (v := ?_) ?_ ?_
          rotate_left
          · first | (refine Or.inr ⟨by rfl, ?_⟩; with_reducible rfl) | (refine Or.inl ⟨by rfl, ?_⟩; intro wx hSw; (try dsimp only at hSw); first | (go_simp; first | done | with_reducible rfl) | (obtain ⟨⟨_, _, _, _, _, _, _, _⟩, _⟩ := HX.out _ hSw; obtain ⟨⟨_, _, _, _, _, _, _, _⟩, _⟩ := HY.out _ hSw; go_simp; first | done | with_reducible rfl))
          try simp only [Act.put, List.getElem_toArray, List.getElem_cons_succ, List.getElem_cons_zero, List.setIfInBounds_toArray, List.set_cons_zero, List.set_cons_succ]
        refine takesH_nil ?_
        refine wpAnyH_done (by kernel_rfl) ?_ _
        have HH := Lib.hid hHeld
        clear hHeld
        obtain ⟨A7, hsl7, hr7⟩ := slR_l HR.out hnc (t : Int) t rfl ht
        have R7 := Lib.hid (hr7.up HVB.out)
        clear hr7
        go_wp2_with fail
        refine wp_region_held_drew (S := fun w' => Below V.heap.size V w') (by kernel_rfl) ?_ (fun hHeld => ?_)
        · exact HH.out.drew
        refine takesH [0, 1, 5, 6, 7] ?_
        repeat
          refine takesH_one (v := ?_) ?_ ?_
          rotate_left
          · first | (refine Or.inr ⟨by rfl, ?_⟩; with_reducible rfl) | (refine Or.inl ⟨by rfl, ?_⟩; intro wx hSw; (try dsimp only at hSw); first | (go_simp; first | done | with_reducible rfl) | (obtain ⟨⟨_, _, _, _, _, _, _, _⟩, _⟩ := HX.out _ hSw; go_simp; first | done | with_reducible rfl))
          try simp only [Act.put, List.getElem_toArray, List.getElem_cons_succ, List.getElem_cons_zero, List.setIfInBounds_toArray, List.set_cons_zero, List.set_cons_succ]
        refine takesH_nil ?_
        refine wpAnyH_ready (rs := [2]) (by kernel_rfl) (by simp) (AllReadyH.cons rfl (fun K hK => ?_) AllReadyH.nil)
        go_simp
        refine (rcopyrow_ra x B' w3.drew.drew (HX.out _ HH.out.drew).2 ?hb2 HCL.out).mono ?_
        case hb2 => exact Nat.le_trans HVB'.out HH.out.size
        rintro e v4 ⟨z, rfl, hz, hcz⟩
        unfold RA.v Ro.val
        have HZ := Lib.hid hz
        have hb4 : Below w3.heap.size w3 v4 := next (w := w3) (w1 := w3.drew.drew) ((Below.refl w3.heap.size w3).drew.drew) hcz.below
        have C4 := Lib.hid (C3.out.on hb4)
        have hz4 : OwnC V v4 z := own_base hcz.own HH.out.size
        have RD := Lib.hid (RdR.laid v4 z)
        have ba4 := (Below.refl v4.heap.size v4).alloc (Nat.le_refl _) (.cells #[.string z.ro.key, .string z.ro.live.s, .bool z.ro.live.d, .int .i64 z.ro.live.a, .int .i64 z.ro.live.e, .int .i64 z.ro.gone, .int .i64 z.ro.shade, .slice z.A z.ro.cols.length z.c] 36)
        have C5 := Lib.hid (C4.out.on ba4)
        have HZ5 := Lib.hid (hz4.on ba4)
        clear hz hcz hb4 hz4 ba4
        try go_wp2_with fail
        refine hK.out _ _ ?_ (fun hHeld => ?_)
        · exact C4.out.below
        clear hK K
        try simp only [Act.put, List.getElem_toArray, List.getElem_cons_succ, List.getElem_cons_zero, List.setIfInBounds_toArray, List.set_cons_zero, List.set_cons_succ]
        refine wpAnyH_ready (rs := [3]) (by kernel_rfl) (by simp) (AllReadyH.cons rfl (fun K hK => ?_) AllReadyH.nil)
        go_simp
        refine hK.out _ _ ?_ (fun hHeld => ?_)
        · exact C5.out.below
        clear hK K
        try simp only [Act.put, List.getElem_toArray, List.getElem_cons_succ, List.getElem_cons_zero, List.setIfInBounds_toArray, List.set_cons_zero, List.set_cons_succ]
        refine wpAnyH_ready (rs := [4]) (by kernel_rfl) (by simp) (AllReadyH.cons rfl (fun K hK => ?_) AllReadyH.nil)
        refine step_ex rfl (.tmp 56) (.tmp 59) _ _ rfl (.slice A3 t c3) (.slice (some ⟨v4.heap.size, 0, none⟩) 1 1) (by simp [Act.eval]) (by simp [Act.eval]) (run_appR V.heap.size C5.out.cur.own RD.out ?s3 ?s4) ?_
        case s3 => have := HT3.out; omega
        case s4 => exact C5.out.below.size
        intro v6 w6 ho6 hg6
        obtain ⟨hg6, _⟩ := hg6
        obtain ⟨A6, m6, c6, rfl, hm6, hc6⟩ := C5.out.app (k := [z]) (fun y hy => by rw [List.mem_singleton.1 hy]; exact Or.inr HZ5.out) ho6 hg6
        have C6 := Lib.hid hc6
        have M6 := Lib.hid hm6
        clear ho6 hg6 hc6 hm6
        have HR7 := Lib.hid ((R7.out.below (C6.out.below.mono (Nat.le_refl _))))
        refine hK.out _ _ ?_ (fun hHeld => ?_)
        · exact C6.out.below
        clear hK K
        try simp only [Act.put, List.getElem_toArray, List.getElem_cons_succ, List.getElem_cons_zero, List.setIfInBounds_toArray, List.set_cons_zero, List.set_cons_succ]
        refine wpAnyH_ready (rs := [8]) (by kernel_rfl) (by simp) (AllReadyH.cons rfl (fun K hK => ?_) AllReadyH.nil)
        refine step_ex rfl (.tmp 60) (.tmp 63) _ _ rfl (.slice A6 m6 c6) (.slice A7 (n - t) (c - t)) (by simp [Act.eval]) (by simp [Act.eval] <;> omega) (run_appR V.heap.size C6.out.cur.own HR7.out ?s5 ?s6) ?_
        case s5 => have := HT3.out; simp only [List.length_append, List.length_singleton]; omega
        case s6 => exact C6.out.below.size
        intro v8 w8 ho8 hg8
        obtain ⟨hg8, _⟩ := hg8
        obtain ⟨A8, m8, c8, rfl, hm8, hc8⟩ := C6.out.app (k := L.drop t) (fun y hy => Or.inl (List.mem_of_mem_drop hy)) ho8 hg8
        have C8 := Lib.hid hc8
        clear ho8 hg8 hc8 hm8
        refine hK.out _ _ ?_ (fun hHeld => ?_)
        · exact C8.out.below
        clear hK K
        try simp only [Act.put, List.getElem_toArray, List.getElem_cons_succ, List.getElem_cons_zero, List.setIfInBounds_toArray, List.set_cons_zero, List.set_cons_succ]
        refine takesH [9] ?_
        repeat
          refine takesH_one (v := ?_) ?_ ?_
          rotate_left
          · first | (refine Or.inr ⟨by rfl, ?_⟩; with_reducible rfl) | (refine Or.inl ⟨by rfl, ?_⟩; intro wx hSw; (try dsimp only at hSw); first | (go_simp; first | done | with_reducible rfl))
          try simp only [Act.put, List.getElem_toArray, List.getElem_cons_succ, List.getElem_cons_zero, List.setIfInBounds_toArray, List.set_cons_zero, List.set_cons_succ]
        refine takesH_nil ?_
        refine wpAnyH_done (by kernel_rfl) ?_ _
        clear hHeld hsl7
        go_wp2
        go_ret
        have h8 := C8.out.lower BZ.out
        rw [List.append_assoc] at h8
        exact ⟨_, _, _, _, rfl, HP2.out z HZ.out, h8⟩
    · have d0 : decide ((t : Int) < (n : Int)) = false := by simp; omega
      have d1 : decide (t < n) = false := decide_eq_false hlt
      have d2 : n ≤ t := by omega
      have hp2 := HPUT.out.2 (fun h => absurd h (by rw [HL.out]; exact hlt))
      have HP2 := Lib.hid hp2
      clear hp2
      go_wp2_with fail
      refine wp_region_held_drew (S := fun w' => Below V.heap.size V w') (by kernel_rfl) ?_ (fun hHeld => ?_)
      · exact C3.out.below.drew
      refine takesH [0, 1, 2, 3, 4, 5, 6, 7, 8, 9, 10, 11, 12, 13] ?_
      repeat
        refine takesH_one (v := ?_) ?_ ?_
        rotate_left
        · first | (refine Or.inr ⟨by rfl, ?_⟩; with_reducible rfl) | (refine Or.inl ⟨by rfl, ?_⟩; intro wx hSw; (try dsimp only at hSw); first | (go_simp; first | done | with_reducible rfl))
        try simp only [Act.put, List.getElem_toArray, List.getElem_cons_succ, List.getElem_cons_zero, List.setIfInBounds_toArray, List.set_cons_zero, List.set_cons_succ]
      refine takesH_nil ?_
      refine wpAnyH_done (by kernel_rfl) ?_ _
      have HH := Lib.hid hHeld
      clear hHeld
      obtain ⟨A7, hsl7, hr7⟩ := slR_l HR.out hnc (t : Int) t rfl ht
      have R7 := Lib.hid (hr7.up HVB.out)
      clear hr7
      go_wp2_with fail
      refine wp_region_held_drew (S := fun w' => Below V.heap.size V w') (by kernel_rfl) ?_ (fun hHeld => ?_)
      · exact HH.out.drew
      refine takesH [0, 1, 5, 6, 7] ?_
      repeat
        refine takesH_one (v := ?_) ?_ ?_
        rotate_left
        · first | (refine Or.inr ⟨by rfl, ?_⟩; with_reducible rfl) | (refine Or.inl ⟨by rfl, ?_⟩; intro wx hSw; (try dsimp only at hSw); first | (go_simp; first | done | with_reducible rfl) | (obtain ⟨⟨_, _, _, _, _, _, _, _⟩, _⟩ := HX.out _ hSw; go_simp; first | done | with_reducible rfl))
        try simp only [Act.put, List.getElem_toArray, List.getElem_cons_succ, List.getElem_cons_zero, List.setIfInBounds_toArray, List.set_cons_zero, List.set_cons_succ]
      refine takesH_nil ?_
      refine wpAnyH_ready (rs := [2]) (by kernel_rfl) (by simp) (AllReadyH.cons rfl (fun K hK => ?_) AllReadyH.nil)
      go_simp
      refine (rcopyrow_ra x B' w3.drew.drew (HX.out _ HH.out.drew).2 ?hb2 HCL.out).mono ?_
      case hb2 => exact Nat.le_trans HVB'.out HH.out.size
      rintro e v4 ⟨z, rfl, hz, hcz⟩
      unfold RA.v Ro.val
      have HZ := Lib.hid hz
      have hb4 : Below w3.heap.size w3 v4 := next (w := w3) (w1 := w3.drew.drew) ((Below.refl w3.heap.size w3).drew.drew) hcz.below
      have C4 := Lib.hid (C3.out.on hb4)
      have hz4 : OwnC V v4 z := own_base hcz.own HH.out.size
      have RD := Lib.hid (RdR.laid v4 z)
      have ba4 := (Below.refl v4.heap.size v4).alloc (Nat.le_refl _) (.cells #[.string z.ro.key, .string z.ro.live.s, .bool z.ro.live.d, .int .i64 z.ro.live.a, .int .i64 z.ro.live.e, .int .i64 z.ro.gone, .int .i64 z.ro.shade, .slice z.A z.ro.cols.length z.c] 36)
      have C5 := Lib.hid (C4.out.on ba4)
      have HZ5 := Lib.hid (hz4.on ba4)
      clear hz hcz hb4 hz4 ba4
      try go_wp2_with fail
      refine hK.out _ _ ?_ (fun hHeld => ?_)
      · exact C4.out.below
      clear hK K
      try simp only [Act.put, List.getElem_toArray, List.getElem_cons_succ, List.getElem_cons_zero, List.setIfInBounds_toArray, List.set_cons_zero, List.set_cons_succ]
      refine wpAnyH_ready (rs := [3]) (by kernel_rfl) (by simp) (AllReadyH.cons rfl (fun K hK => ?_) AllReadyH.nil)
      go_simp
      refine hK.out _ _ ?_ (fun hHeld => ?_)
      · exact C5.out.below
      clear hK K
      try simp only [Act.put, List.getElem_toArray, List.getElem_cons_succ, List.getElem_cons_zero, List.setIfInBounds_toArray, List.set_cons_zero, List.set_cons_succ]
      refine wpAnyH_ready (rs := [4]) (by kernel_rfl) (by simp) (AllReadyH.cons rfl (fun K hK => ?_) AllReadyH.nil)
      refine step_ex rfl (.tmp 56) (.tmp 59) _ _ rfl (.slice A3 t c3) (.slice (some ⟨v4.heap.size, 0, none⟩) 1 1) (by simp [Act.eval]) (by simp [Act.eval]) (run_appR V.heap.size C5.out.cur.own RD.out ?s3 ?s4) ?_
      case s3 => have := HT3.out; omega
      case s4 => exact C5.out.below.size
      intro v6 w6 ho6 hg6
      obtain ⟨hg6, _⟩ := hg6
      obtain ⟨A6, m6, c6, rfl, hm6, hc6⟩ := C5.out.app (k := [z]) (fun y hy => by rw [List.mem_singleton.1 hy]; exact Or.inr HZ5.out) ho6 hg6
      have C6 := Lib.hid hc6
      have M6 := Lib.hid hm6
      clear ho6 hg6 hc6 hm6
      have HR7 := Lib.hid ((R7.out.below (C6.out.below.mono (Nat.le_refl _))))
      refine hK.out _ _ ?_ (fun hHeld => ?_)
      · exact C6.out.below
      clear hK K
      try simp only [Act.put, List.getElem_toArray, List.getElem_cons_succ, List.getElem_cons_zero, List.setIfInBounds_toArray, List.set_cons_zero, List.set_cons_succ]
      refine wpAnyH_ready (rs := [8]) (by kernel_rfl) (by simp) (AllReadyH.cons rfl (fun K hK => ?_) AllReadyH.nil)
      refine step_ex rfl (.tmp 60) (.tmp 63) _ _ rfl (.slice A6 m6 c6) (.slice A7 (n - t) (c - t)) (by simp [Act.eval]) (by simp [Act.eval] <;> omega) (run_appR V.heap.size C6.out.cur.own HR7.out ?s5 ?s6) ?_
      case s5 => have := HT3.out; simp only [List.length_append, List.length_singleton]; omega
      case s6 => exact C6.out.below.size
      intro v8 w8 ho8 hg8
      obtain ⟨hg8, _⟩ := hg8
      obtain ⟨A8, m8, c8, rfl, hm8, hc8⟩ := C6.out.app (k := L.drop t) (fun y hy => Or.inl (List.mem_of_mem_drop hy)) ho8 hg8
      have C8 := Lib.hid hc8
      clear ho8 hg8 hc8 hm8
      refine hK.out _ _ ?_ (fun hHeld => ?_)
      · exact C8.out.below
      clear hK K
      try simp only [Act.put, List.getElem_toArray, List.getElem_cons_succ, List.getElem_cons_zero, List.setIfInBounds_toArray, List.set_cons_zero, List.set_cons_succ]
      refine takesH [9] ?_
      repeat
        refine takesH_one (v := ?_) ?_ ?_
        rotate_left
        · first | (refine Or.inr ⟨by rfl, ?_⟩; with_reducible rfl) | (refine Or.inl ⟨by rfl, ?_⟩; intro wx hSw; (try dsimp only at hSw); first | (go_simp; first | done | with_reducible rfl))
        try simp only [Act.put, List.getElem_toArray, List.getElem_cons_succ, List.getElem_cons_zero, List.setIfInBounds_toArray, List.set_cons_zero, List.set_cons_succ]
      refine takesH_nil ?_
      refine wpAnyH_done (by kernel_rfl) ?_ _
      clear hHeld hsl7
      go_wp2
      go_ret
      have h8 := C8.out.lower BZ.out
      rw [List.append_assoc] at h8
      exact ⟨_, _, _, _, rfl, HP2.out z HZ.out, h8⟩
end Go.Proofs.Ytafbbojfifcncaa
set_option linter.unusedVariables false
set_option linter.unusedSimpArgs false
namespace Go.Proofs.Ytafbbojfifcncaa
open Go Go.RowKit

theorem Fresh.put {V w w' : World} {v v' : Value} {L M : List RA} (h : Fresh V w v L) (hp : PutR w w' v' L M) : Fresh V w' v' M :=
  ⟨hp.cur.lower h.below, fun y hy => (hp.rows y hy).elim (fun h1 => (h.cols y h1).on hp.below) (fun h1 => own_base h1 h.below.size)⟩
theorem part_setgone {w : World} {r : Nat} {v0 v1 v2 : Value} (hr : w.heap[r]? = some (.cells #[v0, v1, v2] 24 (0, 0))) (u : Value) : (w.setCell ⟨r, 1, none⟩ u).heap[r]? = some (.cells #[v0, u, v2] 24 (0, 0)) := by
  have m := Joins.block_setCell (i := 1) hr u
  simp only [List.setIfInBounds_toArray, List.set_cons_zero, List.set_cons_succ] at m
  exact m
theorem riseR_take {l : List Ro} (h : RiseR l) (t : Nat) : RiseR (l.take t) := riseK_of fun i hi => by
  have h1 : i + 1 < l.length := by rw [List.length_take] at hi; omega
  rw [List.getElem_take, List.getElem_take]
  exact riseK_at h i h1
set_option maxRecDepth 8000 in
set_option maxHeartbeats 8000000 in
theorem rpjoin_any (k k' : ByteArray) (g g' : Int) (A A' : Option Addr) (n n' c c' B B' : Nat) (L K : List RA) (w : World) (h : Lies w B A n c L) (h' : Lies w B' A' n' c' K) (hB : B ≤ w.heap.size) (hB' : B' ≤ w.heap.size) (hn : n + n' ≤ 100)
    (hr : RiseR (ros L)) (hr' : RiseR (ros K)) (hc : ∀ x ∈ L, x.ro.cols.length ≤ 20) (hc' : ∀ x ∈ K, x.ro.cols.length ≤ 20) (X : List Ro) (hX : mrgR (ros L) (ros K) = X) :
    Calls Try.prog 17 #[.agg #[.string k, .int .i64 g, .slice A n c], .agg #[.string k', .int .i64 g', .slice A' n' c']] w fun e w' => ∃ M A2 n2 c2, e = .returned (.tuple #[.agg #[.string k, .int .i64 (max g g'), .slice A2 n2 c2], .bool true]) ∧ ros M = X ∧ Fresh w w' (.slice A2 n2 c2) M := by
  have bz := (((Below.refl w.heap.size w).alloc (Nat.le_refl _) (.cells #[.string k, .int .i64 g, .slice A n c] 24)).alloc (by simp) (.cells #[.string k', .int .i64 g', .slice A' n' c'] 24)).alloc (by simp; omega) (.cells #[.string ⟨#[]⟩, .int .i64 0, .slice none 0 0] 24)
  have hz0 := new_at (new_at (heap_alloc_new w (.cells #[.string k, .int .i64 g, .slice A n c] 24)) (.cells #[.string k', .int .i64 g', .slice A' n' c'] 24)) (.cells #[.string ⟨#[]⟩, .int .i64 0, .slice none 0 0] 24)
  have hz1 := new_at (heap_alloc_new (w.alloc (.cells #[.string k, .int .i64 g, .slice A n c] 24)) (.cells #[.string k', .int .i64 g', .slice A' n' c'] 24)) (.cells #[.string ⟨#[]⟩, .int .i64 0, .slice none 0 0] 24)
  have hz2 := heap_alloc_new ((w.alloc (.cells #[.string k, .int .i64 g, .slice A n c] 24)).alloc (.cells #[.string k', .int .i64 g', .slice A' n' c'] 24)) (.cells #[.string ⟨#[]⟩, .int .i64 0, .slice none 0 0] 24)
  simp only [World.size_alloc] at hz1 hz2
  obtain ⟨V, hV⟩ : ∃ V, V = ((w.alloc (.cells #[.string k, .int .i64 g, .slice A n c] 24)).alloc (.cells #[.string k', .int .i64 g', .slice A' n' c'] 24)).alloc (.cells #[.string ⟨#[]⟩, .int .i64 0, .slice none 0 0] 24) := ⟨_, rfl⟩
  have hVs : V.heap.size = w.heap.size + 3 := by rw [hV]; simp
  rw [← hV] at bz hz0 hz1 hz2
  have hl := h.len
  have hl' := h'.len
  have hstep : ∀ t (ht : t < K.length), mrgR (ros L) (ros (K.take (t + 1))) = putK Ro.key Ro.join (mrgR (ros L) (ros (K.take t))) K[t].ro := fun t ht => by rw [ros_take ht]; exact mrgK_snoc _ _ _
  have hcols : ∀ t, ∀ r ∈ mrgR (ros L) (ros (K.take t)), r.cols.length ≤ 40 := fun t => by
    refine mrg_cols hr (by have := riseR_take hr' t; rwa [← List.map_take] at this) (fun a ha => ?_) (fun b hb => ?_) fun a ha b hb => ?_
    · obtain ⟨x, hx, rfl⟩ := mem_ros ha
      have := hc x hx; omega
    · obtain ⟨x, hx, rfl⟩ := mem_ros hb
      have := hc' x (List.mem_of_mem_take hx); omega
    · obtain ⟨x, hx, rfl⟩ := mem_ros ha
      obtain ⟨y, hy, rfl⟩ := mem_ros hb
      have := hc x hx; have := hc' y (List.mem_of_mem_take hy); omega
  have hlen : ∀ t, t ≤ n' → (mrgR (ros L) (ros (K.take t))).length ≤ n + t := fun t ht => by
    have h1 := mrgK_length (key := Ro.key) (jn := Ro.join) (ros (K.take t)) (ros L)
    rw [List.length_map, List.length_map, List.length_take, hl, hl'] at h1
    have h2 : (mrgR (ros L) (ros (K.take t))).length ≤ n + min t n' := h1
    omega
  obtain ⟨G, hG⟩ : ∃ G, max g g' = G := ⟨_, rfl⟩
  have hp1 : ∀ w', Below V.heap.size V w' → PtAt w' (w.heap.size + 1) k' g' A' n' c' := fun w' hb => PtAt.of ((hb.block (w.heap.size + 1) (by omega)).trans hz1)
  have HH := Lib.hid (h.below (bz.mono hB)); have HH' := Lib.hid (h'.below (bz.mono hB')); have BZ := Lib.hid bz; have HZ0 := Lib.hid hz0; have HZ1 := Lib.hid hz1; have HZ2 := Lib.hid hz2; have HVS := Lib.hid hVs
  have HSTEP := Lib.hid hstep; have HCOLS := Lib.hid hcols; have HLEN := Lib.hid hlen; have HP1 := Lib.hid hp1; have HX := Lib.hid hX; have HC := Lib.hid hc; have HC' := Lib.hid hc'; have HL := Lib.hid hl; have HL' := Lib.hid hl'; have HG := Lib.hid hG; have HNN := Lib.hid hn
  have HN1 := Lib.hid (show n ≤ 1000 by omega)
  have HVB' := Lib.hid (show B' ≤ V.heap.size by omega)
  have i8 : n' ≤ 1000 := by omega
  obtain ⟨_, _, _⟩ := PtAt.of hz0
  obtain ⟨_, _, _⟩ := PtAt.of hz1
  clear h h' bz hz0 hz1 hz2 hVs hstep hcols hlen hp1 hX hc hc' hl hl' hr hr' hG hn
  go_enter Try.func17, Try.ntmps17
  go_wp2_with fail
  rw [← hV]
  clear hV
  go_wp2_with fail
  refine (rpcopy_any k g A n c B L _ HH.out (by have := HVS.out; omega) HN1.out (fun x hx => by have := HC.out x hx; omega)).mono ?_
  rintro e v1 ⟨M0, A1, n1, c1, rfl, hM0, hfr⟩
  obtain ⟨hn1, _, _⟩ := hfr.lies
  have a1 := (Below.refl v1.heap.size v1).alloc (Nat.le_refl _) (.cells #[.string k, .int .i64 g, .slice A1 n1 c1] 24)
  have hu := hfr.on a1
  have hq0 := heap_alloc_new v1 (.cells #[.string k, .int .i64 g, .slice A1 n1 c1] 24)
  have hs1 : V.heap.size ≤ v1.heap.size := hfr.below.size
  have hu0 := (hu.below.block w.heap.size (by have := HVS.out; omega)).trans HZ0.out
  have hu1 := (hu.below.block (w.heap.size + 1) (by have := HVS.out; omega)).trans HZ1.out
  have hq4 := heap_alloc_new v1 (.cells #[.string k, .int .i64 G, .slice A1 n1 c1] 24)
  have c4 := hfr.on ((Below.refl v1.heap.size v1).alloc (Nat.le_refl _) (.cells #[.string k, .int .i64 G, .slice A1 n1 c1] 24))
  have k1 := cell_at (i := 1) hq0 rfl
  have f1 := thawed_at (i := 1) hq0
  obtain ⟨_, _, _⟩ := PtAt.of hu0
  obtain ⟨_, _, _⟩ := PtAt.of hu1
  have HM4 := Lib.hid hq4; have C4 := Lib.hid c4; have HM0 := Lib.hid hM0; have HN1' := Lib.hid hn1; have HS1 := Lib.hid hs1
  clear hfr a1 hu hq0 hs1 hu0 hu1 hq4 c4 hM0 hn1
  go_wp2_with fail
  try rw [HG.out]
  generalize hU : v1.alloc (.cells #[.string k, .int .i64 G, .slice A1 n1 c1] 24) = U at HM4 C4 ⊢
  clear hU k1 f1
  go_loopw [7] (fun i wr => ∃ (t m : Nat) (M : List RA) (A3 : Option Addr) (c3 : Nat), t ≤ n' ∧ i = .int .i64 t ∧ M.length = m ∧ ros M = mrgR (ros L) (ros (K.take t)) ∧ wr.heap[v1.heap.size]? = some (.cells #[.string k, .int .i64 G, .slice A3 m c3] 24) ∧ Fresh V wr (.slice A3 m c3) M) (fun i _ => n' - (intOf i).toNat)
  case atStart => exact ⟨0, n1, M0, A1, c1, Nat.zero_le _, rfl, HN1'.out.symm, HM0.out, HM4.out, C4.out⟩
  case round =>
    obtain ⟨t, m, M, A3, c3, ht, rfl, hm, hmr, hp, ho⟩ := hrel
    have hmb : m ≤ n + t := by
      have h1 := HLEN.out t ht
      rwa [← hmr, List.length_map, hm] at h1
    have HMR := Lib.hid hmr; have HT := Lib.hid hp; have HO := Lib.hid ho; have HM := Lib.hid hm
    obtain ⟨_, _, _⟩ := HP1.out _ ho.below
    obtain ⟨_, _, _⟩ := PtAt.of hp
    by_cases hlt : t < n'
    · have i1 : (t : Int) < n' := by omega
      have i0 : (0 : Int) ≤ t := by omega
      have htl : t < K.length := by rw [HL'.out]; exact hlt
      obtain ⟨g0, o0, rfl, hgb⟩ := HH'.out.rd.ex (by omega)
      have hst := HSTEP.out t htl
      have hcy := HC'.out K[t] (List.getElem_mem htl)
      have hy0 : ∀ w', Below V.heap.size V w' → RowAt w' g0 (o0 + t * 8) K[t] ∧ RaIn w' B' K[t] := fun w' hb => by
        have h1 := HH'.out.below (hb.mono HVB'.out)
        exact ⟨h1.rd.row htl, h1.held _ (List.getElem_mem htl)⟩
      obtain ⟨y, hy⟩ : ∃ y, K[t] = y := ⟨_, rfl⟩
      rw [hy] at hy0 hcy hst
      obtain ⟨hm1, hli, hA3⟩ := ho.lies
      have hcm : ∀ z ∈ M, z.ro.cols.length + y.ro.cols.length ≤ 1000 := fun z hz => by
        have h1 := HCOLS.out t z.ro (by rw [← HMR.out]; exact List.mem_map.2 ⟨z, hz, rfl⟩)
        omega
      have HY := Lib.hid hy0; have HST := Lib.hid hst; have HLI := Lib.hid hli; have HA3 := Lib.hid hA3; have HCM := Lib.hid hcm
      have HCY := Lib.hid (show y.ro.cols.length ≤ 1000 by omega)
      have HMB := Lib.hid (show m ≤ 1000 by have := HNN.out; omega)
      have HUB : Hid (B' ≤ wr.drew.heap.size) := Lib.hid (by have := HVB'.out; have := HO.out.below.size; show B' ≤ wr.heap.size; omega)
      clear hmr hp ho hm hst hcy hy0 hy hm1 hli hA3 hcm hmb hgb
      go_wp2_with fail
      refine wp_region_z (S := fun w' => w'.heap[v1.heap.size]? = some (.cells #[.string k, .int .i64 G, .slice A3 m c3] 24) ∧ Below V.heap.size V w') 9 (by kernel_rfl) ?_ (fun hHeld => ?_)
      · exact ⟨HT.out, HO.out.below.drew⟩
      refine takesZ [0, 1, 2, 3, 4, 5, 6] ?_
      repeat
        refine takesZ_one (v := ?_) ?_ ?_
        rotate_left
        · first | (refine Or.inr ⟨by rfl, ?_⟩; with_reducible rfl) | (refine Or.inl ⟨by rfl, ?_⟩; intro wx hSw; (try dsimp only at hSw); first | (go_simp; first | done | with_reducible rfl) | (obtain ⟨_, _, _⟩ := PtAt.of hSw.1; go_simp; first | done | with_reducible rfl) | (obtain ⟨_, _, _⟩ := HP1.out _ hSw.2; go_simp; first | done | with_reducible rfl) | (obtain ⟨⟨_, _, _, _, _, _, _, _⟩, _⟩ := HY.out _ hSw.2; go_simp; first | done | with_reducible rfl))
        try simp only [Act.put, List.getElem_toArray, List.getElem_cons_succ, List.getElem_cons_zero, List.setIfInBounds_toArray, List.set_cons_zero, List.set_cons_succ]
      refine takesZ_nil ?_
      refine wpAnyZ_one (i := 7) (by kernel_rfl) rfl (fun K hK => ?_)
      go_simp
      refine (rput_ra A3 m c3 wr.heap.size B' M y wr.drew (HLI.out.below (Below.refl _ _).drew) (HY.out _ HO.out.below.drew).2 (Nat.le_refl _) HUB.out HA3.out HMB.out HCY.out HCM.out).mono ?_
      rintro e v4 ⟨A4, m4, c4, M4, rfl, hM4, hput⟩
      have hb4 : Below wr.heap.size wr v4 := next (w := wr) (w1 := wr.drew) ((Below.refl wr.heap.size wr).drew) hput.below
      have C4 := Lib.hid ((HO.out.on (Below.refl _ _).drew).put hput)
      have T4 := Lib.hid ((hb4.block v1.heap.size (Array.getElem?_eq_some_iff.1 HT.out).1).trans HT.out)
      have HM4 := Lib.hid hM4
      clear hput hb4 hM4
      try go_wp2_with fail
      refine hK.out _ _ ?_ (fun hHeld => ?_)
      · exact ⟨T4.out, C4.out.below⟩
      clear hK K
      try simp only [Act.put, List.getElem_toArray, List.getElem_cons_succ, List.getElem_cons_zero, List.setIfInBounds_toArray, List.set_cons_zero, List.set_cons_succ]
      have k2 := cell_at (i := 2) hHeld.1 rfl
      have f2 := thawed_at (i := 2) hHeld.1
      refine takesZ [8] ?_
      repeat
        refine takesZ_one (v := ?_) ?_ ?_
        rotate_left
        · first | (refine Or.inr ⟨by rfl, ?_⟩; with_reducible rfl) | (refine Or.inl ⟨by rfl, ?_⟩; intro wx hSw; (try dsimp only at hSw); first | (go_simp; first | done | with_reducible rfl))
        try simp only [Act.put, List.getElem_toArray, List.getElem_cons_succ, List.getElem_cons_zero, List.setIfInBounds_toArray, List.set_cons_zero, List.set_cons_succ]
      refine takesZ_nil ?_
      refine wpAnyZ_last (by kernel_rfl) rfl (fun K hK => ?_)
      go_simp
      refine hK.out _ _ ?_
      clear hK K
      try simp only [Act.put, List.getElem_toArray, List.getElem_cons_succ, List.getElem_cons_zero, List.setIfInBounds_toArray, List.set_cons_zero, List.set_cons_succ]
      refine wpAnyZ_done (by kernel_rfl) ?_ _
      have hp9 := part_setrows hHeld.1 (.slice A4 m4 c4)
      have hc9 := C4.out.kept (Kept.setCell (fun j => j = v1.heap.size) v4 ⟨v1.heap.size, 2, none⟩ (.slice A4 m4 c4) rfl) (e := 24) (fun j hj => by subst hj; exact ⟨HS1.out, _, hHeld.1⟩) (by decide) (by decide)
      generalize v4.setCell ⟨v1.heap.size, 2, none⟩ (.slice A4 m4 c4) = w9 at hp9 hc9 ⊢
      obtain ⟨hm9, _, _⟩ := hc9.lies
      have P9 := Lib.hid hp9; have C9 := Lib.hid hc9; have M9 := Lib.hid hm9
      clear hp9 hc9 hHeld k2 f2 hm9
      go_wp2
      go_roundw
      case rel => exact ⟨t + 1, m4, M4, A4, c4, by omega, by go_num, M9.out.symm, by rw [HM4.out, HMR.out, HST.out], P9.out, C9.out⟩
      case measure => simp [intOf]; omega
    · obtain rfl : t = n' := by omega
      have hxm : ros M = X := by rw [HMR.out, List.take_of_length_le (by rw [HL'.out]; exact Nat.le_refl _), HX.out]
      have d0 : decide ((100 : Int) < (m : Int)) = false := by simp; have := HNN.out; omega
      have d1 : decide (100 < m) = false := by simp; have := HNN.out; omega
      have k0 := cell_at (i := 0) HT.out rfl
      have k1 := cell_at (i := 1) HT.out rfl
      have k2 := cell_at (i := 2) HT.out rfl
      have hm1 := (ho.below.block (w.heap.size + 2) (by have := HVS.out; omega)).trans HZ2.out
      have z0 := cell_at (i := 0) hm1 rfl
      have z1 := cell_at (i := 1) hm1 rfl
      have z2 := cell_at (i := 2) hm1 rfl
      have y0 := thawed_at (i := 0) hm1
      have y1 := thawed_at (i := 1) hm1
      have y2 := thawed_at (i := 2) hm1
      have m9 := set3_block (q := w.heap.size + 1 + 1) hm1 (.string k) (.int .i64 G) (.slice A3 m c3)
      have k9 := kept_set3 (w := wr) (w.heap.size + 1 + 1) (.string k) (.int .i64 G) (.slice A3 m c3)
      have hfr9 := (ho.lower BZ.out).kept k9 (e := 24) (fun j hj => by subst hj; exact ⟨by omega, _, hm1⟩) (by decide) (by decide)
      have HFR := Lib.hid hfr9; have HXM := Lib.hid hxm
      clear hfr9 k9 hm1 hxm hmr hp ho hm hmb
      go_wp2
      generalize hw9 : (((wr.setCell ⟨w.heap.size + 1 + 1, 0, none⟩ (.string k)).setCell ⟨w.heap.size + 1 + 1, 1, none⟩ (.int .i64 G)).setCell ⟨w.heap.size + 1 + 1, 2, none⟩ (.slice A3 m c3)) = w9 at m9 HFR ⊢
      clear hw9 z0 z1 z2 y0 y1 y2 k0 k1 k2
      have q0 := cell_at (i := 0) m9 rfl
      have q1 := cell_at (i := 1) m9 rfl
      have q2 := cell_at (i := 2) m9 rfl
      rw [HG.out]
      refine bodyPost_ret (v := .tuple #[.agg #[.string k, .int .i64 G, .slice A3 m c3], .bool true]) ?_ rfl ?_
      · simp [results, Try.results17, go_sem, q0, q1, q2]
      · exact ⟨M, A3, m, c3, rfl, HXM.out, HFR.out⟩
end Go.Proofs.Ytafbbojfifcncaa
set_option linter.unusedVariables false
set_option linter.unusedSimpArgs false
namespace Go.Proofs.Ytafbbojfifcncaa
open Go Go.RowKit

set_option maxRecDepth 8000 in
set_option maxHeartbeats 4000000 in
theorem pcheck_any (k : ByteArray) (g : Int) (A : Option Addr) (n c B : Nat) (L : List RA) (w : World) (h : Lies w B A n c L) (hB : B ≤ w.heap.size) (hn : n ≤ 1000000000) (hf : FewR L) :
    Calls Try.prog 10 #[.agg #[.string k, .int .i64 g, .slice A n c]] w fun x w' => x = .returned (.bool (Pa.ok ⟨k, g, ros L⟩)) ∧ Below w.heap.size w w' := by
  obtain ⟨r, hrr⟩ : ∃ r, Pa.ok ⟨k, g, ros L⟩ = r := ⟨_, rfl⟩
  rw [hrr]
  unfold Pa.ok at hrr
  simp only at hrr
  rw [List.length_map, h.len] at hrr
  obtain ⟨u1, hu1⟩ : ∃ u, decide (k.size ≤ 100) = u := ⟨_, rfl⟩
  have hu1i : decide (((k.size : Nat) : Int) ≤ 100) = u1 := by rw [← hu1]; simp; omega
  obtain ⟨u2, hu2⟩ : ∃ u, stm g = u := ⟨_, rfl⟩
  obtain ⟨u3, hu3⟩ : ∃ u, (decide (n ≤ 100) && rowsB (ros L)) = u := ⟨_, rfl⟩
  rw [hu1, hu2, hu3] at hrr
  have RR := Lib.hid hrr; have U2 := Lib.hid hu2; have U3 := Lib.hid hu3
  have bz := (Below.refl w.heap.size w).alloc (Nat.le_refl _) (.cells #[.string k, .int .i64 g, .slice A n c] 24)
  have hz := heap_alloc_new w (.cells #[.string k, .int .i64 g, .slice A n c] 24)
  have HL := Lib.hid (h.below (bz.mono hB)); have HF := Lib.hid hf; have BZ := Lib.hid bz
  obtain ⟨_, _, _⟩ := PtAt.of hz
  clear hrr hu2 hu3 bz hz h hf
  go_enter Try.func10, Try.ntmps10
  cases u1
  · have hv : r = false := by rw [← RR.out]; rfl
    subst hv
    go_wp2
    go_ret
    exact ⟨rfl, BZ.out⟩
  · go_wp2_with fail
    refine (pstamp_any g _).mono ?_
    rintro e w1 ⟨rfl, rfl⟩
    rw [U2.out]
    cases u2
    · have hv : r = false := by rw [← RR.out]; rfl
      subst hv
      go_wp2
      go_ret
      exact ⟨rfl, BZ.out⟩
    · go_wp2_with fail
      refine (rows_any A n c B L _ HL.out (by simp; omega) hn HF.out).mono ?_
      rintro e w2 ⟨rfl, b2⟩
      rw [U3.out]
      have hv : u3 = r := by rw [← RR.out]; rfl
      subst hv
      go_wp2
      go_ret
      exact ⟨rfl, next BZ.out b2⟩
end Go.Proofs.Ytafbbojfifcncaa
set_option linter.unusedVariables false
namespace Go.Proofs.Ytafbbojfifcncaa
open Go

/-- The lowest n bytes of v, the highest first. -/
def be (v : Nat) : Nat → List UInt8
  | 0 => []
  | n + 1 => UInt8.ofNat (v / 256 ^ n) :: be v n
theorem be_length (v : Nat) : ∀ n, (be v n).length = n
  | 0 => rfl
  | n + 1 => by rw [be, List.length_cons, be_length v n]

/-- The number that bytes are, the highest first. -/
def vlF (a : Nat) (l : List UInt8) : Nat := l.foldl (fun a c => a * 256 + c.toNat) a
def vl (l : List UInt8) : Nat := vlF 0 l
theorem vlF_cons (a : Nat) (c : UInt8) (l : List UInt8) : vlF a (c :: l) = vlF (a * 256 + c.toNat) l := rfl
theorem vlF_eq : ∀ (l : List UInt8) (a : Nat), vlF a l = a * 256 ^ l.length + vl l
  | [], a => by simp [vlF, vl]
  | c :: l, a => by
    rw [vlF_cons, vlF_eq l, show vl (c :: l) = vlF (0 * 256 + c.toNat) l from rfl, vlF_eq l (0 * 256 + c.toNat), List.length_cons, Nat.pow_succ]
    rw [Nat.add_mul, Nat.zero_mul, Nat.zero_add, Nat.mul_assoc, Nat.mul_comm 256, Nat.add_assoc]
theorem vl_snoc (l : List UInt8) (c : UInt8) : vl (l ++ [c]) = vl l * 256 + c.toNat := by
  unfold vl vlF
  rw [List.foldl_append]
  rfl
theorem vl_cons (c : UInt8) (l : List UInt8) : vl (c :: l) = c.toNat * 256 ^ l.length + vl l := by
  rw [show vl (c :: l) = vlF (0 * 256 + c.toNat) l from rfl, vlF_eq, Nat.zero_mul, Nat.zero_add]
theorem vl_lt : ∀ l : List UInt8, vl l < 256 ^ l.length
  | [] => by simp [vl, vlF]
  | c :: l => by
    have h1 := vl_lt l
    have h2 := c.toNat_lt
    rw [vl_cons, List.length_cons, Nat.pow_succ]
    have h3 : c.toNat * 256 ^ l.length ≤ 255 * 256 ^ l.length := Nat.mul_le_mul_right _ (by omega)
    omega
theorem vl_be (v : Nat) : ∀ n, vl (be v n) = v % 256 ^ n
  | 0 => by simp [be, vl, vlF, Nat.mod_one]
  | n + 1 => by
    rw [be, vl_cons, be_length, vl_be v n, UInt8.toNat_ofNat']
    rw [show (2 : Nat) ^ 8 = 256 from rfl, Nat.mul_comm, Nat.pow_succ, Nat.add_comm, Nat.mod_mul]
theorem be_vl : ∀ l : List UInt8, be (vl l) l.length = l
  | [] => rfl
  | c :: l => by
    have h1 := vl_lt l
    have hp : 0 < 256 ^ l.length := Nat.pow_pos (by omega)
    have e : ∀ a b n : Nat, be (a * 256 ^ n + b) n = be b n := by
      intro a b n
      have g : ∀ m, m ≤ n → be (a * 256 ^ n + b) m = be b m := by
        intro m
        induction m with
        | zero => intro _; rfl
        | succ m ih =>
          intro hm
          rw [be, be, ih (by omega)]
          congr 1
          apply UInt8.toNat_inj.1
          rw [UInt8.toNat_ofNat', UInt8.toNat_ofNat']
          obtain ⟨k, rfl⟩ : ∃ k, n = m + 1 + k := ⟨n - (m + 1), by omega⟩
          rw [show a * 256 ^ (m + 1 + k) + b = b + 256 ^ m * (256 * (a * 256 ^ k)) from by
            rw [Nat.pow_add, Nat.pow_succ, Nat.add_comm]; congr 1; ac_rfl]
          rw [Nat.add_mul_div_left _ _ (Nat.pow_pos (by omega)), show (2 : Nat) ^ 8 = 256 from rfl, Nat.add_mul_mod_self_left]
      exact g n (Nat.le_refl n)
    rw [List.length_cons, be, vl_cons, e, be_vl l]
    congr 1
    apply UInt8.toNat_inj.1
    rw [UInt8.toNat_ofNat', Nat.mul_comm, Nat.mul_add_div hp, Nat.div_eq_of_lt h1]
    have := c.toNat_lt
    omega

/-- How many bytes a number has. -/
def nb (v : Nat) : Nat := (Lib.bitLen v + 7) / 8
theorem bitLen_facts (v : Nat) (h : v < 18446744073709551616) : Lib.bitLen v ≤ 64 ∧ v < 2 ^ Lib.bitLen v ∧ (v ≠ 0 → 1 ≤ Lib.bitLen v ∧ 2 ^ (Lib.bitLen v - 1) ≤ v) := by
  by_cases h0 : v = 0
  · subst h0
    exact ⟨by decide, by decide, fun h => absurd rfl h⟩
  · have := Lib.bitLenAux_bounds 64 v (by simpa using h) h0
    exact ⟨Lib.bitLen_le v 64 (by omega) (by simpa using h), this.2.2, fun _ => ⟨this.1, this.2.1⟩⟩
theorem nb_facts (v : Nat) (h : v < 18446744073709551616) : nb v ≤ 8 ∧ v < 256 ^ nb v ∧ (v ≠ 0 → 1 ≤ nb v ∧ 256 ^ (nb v - 1) ≤ v) := by
  obtain ⟨h1, h2, h3⟩ := bitLen_facts v h
  unfold nb
  refine ⟨by omega, ?_, fun h0 => ?_⟩
  · refine Nat.lt_of_lt_of_le h2 ?_
    rw [show (256 : Nat) = 2 ^ 8 from rfl, ← Nat.pow_mul]
    exact Nat.pow_le_pow_right (by omega) (by omega)
  · obtain ⟨h4, h5⟩ := h3 h0
    refine ⟨by omega, Nat.le_trans ?_ h5⟩
    rw [show (256 : Nat) = 2 ^ 8 from rfl, ← Nat.pow_mul]
    exact Nat.pow_le_pow_right (by omega) (by omega)
theorem nb_zero : nb 0 = 0 := by decide
/-- It is the one number of bytes that is right. -/
theorem nb_unique (v k : Nat) (h : v < 18446744073709551616) (h1 : v < 256 ^ k) (h2 : k ≠ 0 → 256 ^ (k - 1) ≤ v) : nb v = k := by
  obtain ⟨g1, g2, g3⟩ := nb_facts v h
  by_cases h0 : v = 0
  · subst h0
    rw [nb_zero]
    by_cases hk : k = 0
    · exact hk.symm
    · have := h2 hk
      have hp : 0 < 256 ^ (k - 1) := Nat.pow_pos (by omega)
      omega
  · obtain ⟨g4, g5⟩ := g3 h0
    rcases Nat.lt_trichotomy (nb v) k with hlt | heq | hgt
    · have a := h2 (by omega)
      have b : 256 ^ nb v ≤ 256 ^ (k - 1) := Nat.pow_le_pow_right (by omega) (by omega)
      omega
    · exact heq
    · have b : 256 ^ k ≤ 256 ^ (nb v - 1) := Nat.pow_le_pow_right (by omega) (by omega)
      omega
theorem nb_step (v : Nat) (h : v < 18446744073709551616) (h0 : v ≠ 0) : nb v = nb (v / 256) + 1 := by
  obtain ⟨g1, g2, g3⟩ := nb_facts (v / 256) (by omega)
  refine nb_unique v _ h ?_ (fun _ => ?_)
  · rw [Nat.pow_succ]
    omega
  · rw [Nat.add_sub_cancel]
    by_cases hz : v / 256 = 0
    · rw [hz, nb_zero]; omega
    · obtain ⟨g4, g5⟩ := g3 hz
      have e : 256 ^ nb (v / 256) = 256 ^ (nb (v / 256) - 1) * 256 := by rw [← Nat.pow_succ]; congr 1; omega
      rw [e]
      omega

/-- A number as bytes. -/
def numL (v : Nat) : List UInt8 := UInt8.ofNat (nb v) :: be v (nb v)
theorem numL_length (v : Nat) : (numL v).length = nb v + 1 := by rw [numL, List.length_cons, be_length]
theorem be_append (v : Nat) : ∀ n, be (v / 256) n ++ [UInt8.ofNat v] = be v (n + 1)
  | 0 => by simp [be]
  | n + 1 => by
    rw [be, List.cons_append, be_append v n, be.eq_2 v (n + 1)]
    congr 1
    rw [Nat.pow_succ, Nat.mul_comm, Nat.div_div_eq_div_mul]

/-- The number at a place: its value, the place behind, what is wrong. -/
def gnum (l : List UInt8) (i : Int) : Nat × Int × Int :=
  if i < 0 ∨ (l.length : Int) < i then (0, 0, 1)
  else match l.drop i.toNat with
  | [] => (0, 0, 8)
  | c :: r => if 8 < c.toNat ∨ (0 < c.toNat ∧ r.head? = some 0) then (0, 0, 6) else if r.length < c.toNat then (0, 0, 8) else (vl (r.take c.toNat), (i.toNat + 1 + c.toNat : Nat), 0)

/-- A text with each byte 0 as two bytes. -/
def esc : List UInt8 → List UInt8
  | [] => []
  | c :: l => if c = 0 then 0 :: 255 :: esc l else c :: esc l
def txtL (l : List UInt8) : List UInt8 := esc l ++ [0, 1]
theorem esc_append : ∀ a b : List UInt8, esc (a ++ b) = esc a ++ esc b
  | [], b => rfl
  | c :: a, b => by
    rw [List.cons_append, esc, esc, esc_append a b]
    split <;> rfl
def nulls (l : List UInt8) : Nat := l.countP (fun c => c == 0)
theorem esc_length : ∀ l : List UInt8, (esc l).length = l.length + nulls l
  | [] => rfl
  | c :: l => by
    have ih := esc_length l
    unfold nulls at ih ⊢
    rw [esc, List.countP_cons]
    by_cases h : c = 0
    · rw [if_pos h, h, List.length_cons, List.length_cons, ih, List.length_cons]; simp; omega
    · rw [if_neg h, List.length_cons, ih, List.length_cons]; simp [h]; omega
theorem nulls_le (l : List UInt8) : nulls l ≤ l.length := List.countP_le_length
theorem txtL_length (l : List UInt8) : (txtL l).length = l.length + nulls l + 2 := by
  unfold txtL
  rw [List.length_append, esc_length]; rfl

/-- What is read of an escaped text: the text and how many bytes it takes, or what is wrong. -/
def unesc : List UInt8 → Except Int (List UInt8 × Nat)
  | [] => .error 8
  | [_] => .error 8
  | c :: d :: r => if c = 0 then (if d = 1 then .ok ([], 2) else if d = 255 then (unesc r).map (fun x => (0 :: x.1, 2 + x.2)) else .error 6) else (unesc (d :: r)).map (fun x => (c :: x.1, 1 + x.2))
theorem unesc_one (c : UInt8) (r : List UInt8) (h : c ≠ 0) : unesc (c :: r) = (unesc r).map (fun x => (c :: x.1, 1 + x.2)) := by
  cases r with
  | nil => rfl
  | cons d r => rw [unesc, if_neg h]
theorem unesc_end (r : List UInt8) : unesc (0 :: 1 :: r) = .ok ([], 2) := by rw [unesc, if_pos rfl, if_pos rfl]
theorem unesc_null (r : List UInt8) : unesc (0 :: 255 :: r) = (unesc r).map (fun x => (0 :: x.1, 2 + x.2)) := by
  rw [unesc, if_pos rfl, if_neg (by decide), if_pos rfl]
theorem unesc_bad (d : UInt8) (r : List UInt8) (h1 : d ≠ 1) (h2 : d ≠ 255) : unesc (0 :: d :: r) = .error 6 := by
  rw [unesc, if_pos rfl, if_neg h1, if_neg h2]
/-- Bytes that are not 0 are themselves. -/
theorem unesc_run : ∀ (p r : List UInt8), (∀ c ∈ p, c ≠ 0) → unesc (p ++ r) = (unesc r).map (fun x => (p ++ x.1, p.length + x.2))
  | [], r, _ => by
    rw [List.nil_append]
    cases unesc r <;> simp [Except.map]
  | c :: p, r, h => by
    rw [List.cons_append, unesc_one c _ (h c (by simp)), unesc_run p r (fun x hx => h x (by simp [hx]))]
    cases unesc r with
    | error e => rfl
    | ok x => simp [Except.map]; omega
theorem unesc_short (p : List UInt8) (h : ∀ c ∈ p, c ≠ 0) : unesc p = .error 8 := by
  have := unesc_run p [] h
  rw [List.append_nil] at this
  rw [this]; rfl
theorem unesc_txt : ∀ (l r : List UInt8), unesc (txtL l ++ r) = .ok (l, (txtL l).length)
  | [], r => unesc_end r
  | c :: l, r => by
    have ih := unesc_txt l r
    unfold txtL at ih ⊢
    rw [esc]
    by_cases h : c = 0
    · rw [if_pos h, h, List.cons_append, List.cons_append, List.cons_append, List.cons_append, unesc_null, ih]
      simp [Except.map]; omega
    · rw [if_neg h, List.cons_append, List.cons_append, unesc_one c _ h, ih]
      simp [Except.map]; omega
theorem unesc_cut : ∀ (l : List UInt8) (k : Nat), k < (txtL l).length → unesc ((txtL l).take k) = .error 8
  | [], k, h => by
    have hk : k = 0 ∨ k = 1 := by simp [txtL, esc] at h; omega
    rcases hk with rfl | rfl <;> rfl
  | c :: l, 0, _ => rfl
  | c :: l, k + 1, h => by
    have ih := unesc_cut l
    unfold txtL at ih h ⊢
    rw [esc] at h ⊢
    by_cases hc : c = 0
    · rw [if_pos hc] at h ⊢
      rw [List.cons_append, List.cons_append, List.take_succ_cons]
      cases k with
      | zero => rw [List.take_zero]; rfl
      | succ k =>
        rw [List.take_succ_cons, unesc_null, ih k (by simp at h ⊢; omega)]
        rfl
    · rw [if_neg hc] at h ⊢
      rw [List.cons_append, List.take_succ_cons, unesc_one c _ hc, ih k (by simp at h ⊢; omega)]
      rfl

/-- The text at a place. -/
def gtxt (l : List UInt8) (i : Int) : List UInt8 × Int × Int :=
  if i < 0 ∨ (l.length : Int) < i then ([], 0, 1)
  else match unesc (l.drop i.toNat) with
  | .error e => ([], 0, e)
  | .ok x => (x.1, (i.toNat + x.2 : Nat), 0)
end Go.Proofs.Ytafbbojfifcncaa
set_option linter.unusedVariables false
namespace Go.Proofs.Ytafbbojfifcncaa
open Go Go.RowKit

theorem addr_block (a : Addr) (n : Nat) : (a.add n).block = a.block := by unfold Addr.add; split <;> rfl
theorem addr_add (a : Addr) (i j : Nat) : (a.add i).add j = a.add (i + j) := by
  unfold Addr.add
  by_cases hi : i = 0 <;> by_cases hj : j = 0 <;> simp [hi, hj, Nat.add_assoc]

/-- The slice at A, n long, holds the bytes l in w, in a block below B. -/
def Rd (w : World) (B : Nat) (A : Option Addr) (n : Nat) (l : List UInt8) : Prop :=
  l.length = n ∧ (0 < n → ∃ ad, A = some ad ∧ ad.block < B ∧ ∀ j (hj : j < l.length), w.cell? (ad.add j) = some (.int .u8 (l[j].toNat : Nat)))

section
variable {w w' : World} {B B' n : Nat} {A : Option Addr} {l : List UInt8}
theorem Rd.nil (w : World) (B : Nat) : Rd w B none 0 [] := ⟨rfl, fun h => absurd h (by omega)⟩
theorem Rd.keep (h : Rd w B A n l) (hk : ∀ p : Addr, p.block < B → w'.cell? p = w.cell? p) : Rd w' B A n l :=
  ⟨h.1, fun hn => by
    obtain ⟨ad, e, hb, hc⟩ := h.2 hn
    exact ⟨ad, e, hb, fun j hj => (hk _ (by rw [addr_block]; exact hb)).trans (hc j hj)⟩⟩
theorem Rd.below (h : Rd w B A n l) (hb : Below B w w') : Rd w' B A n l := h.keep fun _ hp => hb.cell hp
theorem Rd.up (h : Rd w B A n l) (hB : B ≤ B') : Rd w B' A n l :=
  ⟨h.1, fun hn => by
    obtain ⟨ad, e, hb, hc⟩ := h.2 hn
    exact ⟨ad, e, by omega, hc⟩⟩
/-- It holds still behind a call that has kept what was there. -/
theorem Rd.on (h : Rd w B A n l) (hb : Below B w w') (hB : B ≤ B') : Rd w' B' A n l := (h.below hb).up hB
theorem Rd.alloc (h : Rd w B A n l) (hB : B ≤ w.heap.size) (o : Obj) : Rd (w.alloc o) B A n l := h.keep fun p hp => World.cell?_alloc_lt w o p (by omega)
theorem Rd.drew (h : Rd w B A n l) : Rd w.drew B A n l := h
theorem Rd.at_ (h : Rd w B A n l) {j : Nat} (hj : j < n) : ∃ ad, A = some ad ∧ ad.block < B ∧ ∀ i (hi : i < l.length), w.cell? (ad.add i) = some (.int .u8 (l[i].toNat : Nat)) := h.2 (by omega)
theorem Rd.at2 (h : Rd w B A n l) {j : Nat} (hj : j < n) : ∃ g o, A = some ⟨g, o, none⟩ ∧ g < B ∧ ∀ i (hi : i < l.length), w.cell? ⟨g, o + i, none⟩ = some (.int .u8 (l[i].toNat : Nat)) := by
  obtain ⟨ad, rfl, hb, hc⟩ := h.2 (by omega)
  have h0 := hc 0 (by have := h.1; omega)
  have hs : ad.spot = none := by simpa [Addr.add] using World.cell?_spot h0
  obtain ⟨g, o, sp⟩ := ad
  simp only at hs
  subst hs
  exact ⟨g, o, rfl, hb, fun i hi => by rw [← Addr.add_lit]; exact hc i hi⟩
theorem Rd.cut (h : Rd w B A n l) {k m mx : Nat} (hk : k ≤ m) (hm : m ≤ n) (hx : m ≤ mx) :
    Rd w B (if mx = k then A else A.map (·.add k)) (m - k) ((l.take m).drop k) := by
  refine ⟨by rw [List.length_drop, List.length_take, h.1]; omega, fun hn => ?_⟩
  obtain ⟨ad, rfl, hb, hc⟩ := h.2 (by omega)
  rw [if_neg (by omega)]
  refine ⟨ad.add k, rfl, by rw [addr_block]; exact hb, fun j hj => ?_⟩
  rw [addr_add]
  have hj2 : k + j < l.length := by rw [List.length_drop, List.length_take] at hj; omega
  rw [hc (k + j) hj2]
  simp
theorem Rd.pre (h : Rd w B A n l) {m : Nat} (hm : m ≤ n) : Rd w B A m (l.take m) := by
  refine ⟨by rw [List.length_take, h.1]; omega, fun h0 => ?_⟩
  obtain ⟨ad, e, hb, hc⟩ := h.2 (by omega)
  refine ⟨ad, e, hb, fun j hj => ?_⟩
  have hj2 : j < l.length := by rw [List.length_take] at hj; omega
  rw [hc j hj2]
  simp
theorem byteCells_get (l : List UInt8) (j : Nat) : (Lib.byteCells l)[j]? = (l[j]?).map fun b => Value.int .u8 b.toNat := by
  unfold Lib.byteCells
  rw [List.getElem?_map]
theorem Rd.cells (h : Rd w B A n l) {ad : Addr} (ha : A = some ad) : ∀ j u, (Lib.byteCells l)[j]? = some u → w.cell? (ad.add j) = some u := by
  intro j u hu
  rw [byteCells_get] at hu
  have hj : j < l.length := by
    rcases Nat.lt_or_ge j l.length with h1 | h1
    · exact h1
    · rw [List.getElem?_eq_none h1] at hu; cases hu
  rw [List.getElem?_eq_getElem hj] at hu
  obtain ⟨ad', e, _, hc⟩ := h.2 (by have := h.1; omega)
  rw [ha] at e
  injection e with e
  subst e
  rw [hc j hj]
  exact hu
theorem Rd.of_own {base : Nat} {v : Value} {n : Nat} {l : List UInt8} (h : w.ownsRow base 5 1 v n (Lib.byteCells l)) :
    ∃ A c, v = .slice A n c ∧ n ≤ c ∧ c ≤ maxLen ∧ (A = none → c = 0) ∧ Rd w w.heap.size A n l := by
  have hl : l.length = n := by have := h.1; rw [Lib.byteCells_length] at this; omega
  rcases h.2 with ⟨rfl, rfl⟩ | ⟨g, cap, cur, rfl, hb, hh, hn, hm, hs, ht⟩
  · exact ⟨none, 0, rfl, Nat.le_refl _, Nat.zero_le _, fun _ => rfl, hl, fun h => absurd h (by omega)⟩
  · refine ⟨some ⟨g, 0, none⟩, cap, rfl, hn, hm, fun h => (by cases h), hl, fun hn => ⟨_, rfl, (Array.getElem?_eq_some_iff.1 hh).1, fun j hj => ?_⟩⟩
    refine h.cells (g := g) rfl j _ ?_
    rw [byteCells_get, List.getElem?_eq_getElem hj]
    rfl
end

theorem own_down {w : World} {b b' n size : Nat} {e : TypeId} {v : Value} {xs : List Value} (h : w.ownsRow b e size v n xs) (hb : b' ≤ b) : w.ownsRow b' e size v n xs := by
  refine ⟨h.1, ?_⟩
  rcases h.2 with h1 | ⟨g, cap, cur, h1, h2, h3⟩
  · exact Or.inl h1
  · exact Or.inr ⟨g, cap, cur, h1, Nat.le_trans hb h2, h3⟩

theorem infoB : (Try.prog.info? 5).map (fun i => (i.zero, i.size, i.bytes)) = some (some (.int .u8 0), 1, 1) := by kernel_rfl

/-- string(b). -/
theorem cv_string {w : World} {B n : Nat} {A : Option Addr} {l : List UInt8} (h : Rd w B A n l) (c : Nat) :
    (convert 71 9 (.slice A n c)).run Try.prog w = .ok (.string ⟨l.toArray⟩) w := by
  have hl := h.1
  cases A with
  | none =>
    have h0 : n = 0 := by
      rcases Nat.eq_zero_or_pos n with h1 | h1
      · exact h1
      · obtain ⟨ad, e, _⟩ := h.2 h1; cases e
    subst h0
    obtain rfl : l = [] := List.eq_nil_of_length_eq_zero hl
    exact run_convert_bytes_nil w _ _ Try.underlying71 Try.underlying5 0 c _ Try.underlying9
  | some ad =>
    subst hl
    refine run_convert_bytes_back w _ _ _ ad c l Try.underlying71 Try.underlying5 Try.underlying9 (fun j hj => ?_)
    obtain ⟨ad', e, _, hc⟩ := h.2 (by omega)
    injection e with e
    subst e
    exact hc j hj

theorem run_app_none {w : World} (base : Nat) {ty : TypeId} {v : Value} {n : Nat} {xs : List Value} (hown : w.ownsRow base 5 1 v n xs) (c : Nat) :
    (Builtin.append_ #[71, 71] ty #[v, .slice none 0 c]).run Try.prog w = .ok v w := by
  obtain ⟨i, hi, hz0, hz1, hz2⟩ := info_parts infoB
  rcases hown.2 with ⟨rfl, rfl⟩ | ⟨g, cap, cur, rfl, _, _, hnc, _⟩
  · simp [Builtin.append_, run_underlying Try.underlying71, sizeOf, typeInfo, hi, Builtin.lenOf, Builtin.firstCells]
  · simp [Builtin.append_, run_underlying Try.underlying71, sizeOf, typeInfo, hi, Builtin.lenOf, Builtin.firstCells, hnc, storeCells]

/-- append(own, bytes...): the bytes come from anywhere. -/
theorem run_app {w : World} (base : Nat) {ty : TypeId} {v : Value} {n : Nat} {l : List UInt8} (hown : w.ownsRow base 5 1 v n (Lib.byteCells l)) {B m c : Nat} {A : Option Addr} {k : List UInt8} (hr : Rd w B A m k)
    (hsz : n + m ≤ 140737488355328) (hbase : base ≤ w.heap.size) :
    ∃ v' w', (Builtin.append_ #[71, 71] ty #[v, .slice A m c]).run Try.prog w = .ok v' w' ∧ w'.ownsRow base 5 1 v' (n + m) (Lib.byteCells (l ++ k)) ∧ w.grownBy w' v.ownBlock := by
  obtain ⟨i, hi, hz0, hz1, hz2⟩ := info_parts infoB
  cases A with
  | none =>
    have h0 : m = 0 := by
      rcases Nat.eq_zero_or_pos m with h1 | h1
      · exact h1
      · obtain ⟨ad, e, _⟩ := hr.2 h1; cases e
    subst h0
    obtain rfl : k = [] := List.eq_nil_of_length_eq_zero hr.1
    exact ⟨v, w, run_app_none base hown c, by simpa using hown, ⟨rfl, rfl, rfl, Nat.le_refl _, fun _ _ _ => rfl⟩⟩
  | some ad =>
    obtain ⟨v', w', h1, h2, h3, _⟩ := run_append_own (P := Try.prog) w base 71 ty 5 i (.int .u8 0) 1 1 Try.underlying71 hi hz0 hz1 hz2 rfl (by decide) v n (Lib.byteCells l) hown ad m c (Lib.byteCells k)
      (by rw [Lib.byteCells_length, hr.1]; omega) (hr.cells rfl) (Lib.byteCells_one k) (by unfold maxLen; omega) (by omega) hbase
    exact ⟨v', w', h1, by rw [Lib.byteCells_append]; exact h2, h3⟩

theorem wp_app {w : World} {o : Oper} {a : Act} {K : Act → World → Prop} {Q : Exit → Act → World → Prop} (s x : Operand)
    (ho : o.op = .call { callee := .builtin .append, args := #[s, x], argTypes := #[71, 71] })
    (base : Nat) (v : Value) (n : Nat) (l : List UInt8) (hs : a.eval s = v) (hown : w.ownsRow base 5 1 v n (Lib.byteCells l)) (B : Nat) (A : Option Addr) (m c : Nat) (k : List UInt8) (hx : a.eval x = .slice A m c) (hr : Rd w B A m k)
    (hsz : n + m ≤ 140737488355328) (hbase : base ≤ w.heap.size)
    (h : ∀ v' w', w'.ownsRow base 5 1 v' (n + m) (Lib.byteCells (l ++ k)) → w.grownBy w' v.ownBlock → K (a.put o.dst v') w') : o.wp Try.prog a w K Q := by
  obtain ⟨v', w', hrun, h2, h3⟩ := run_app (w := w) base (ty := o.type) hown (c := c) hr hsz hbase
  unfold Oper.wp execOp
  simp only [ho, resolve, invoke, builtin, Sem.run_bind, Sem.run_pure, Result.andThen_ok, List.map_toArray, List.map_cons, List.map_nil, hs, hx, hrun]
  exact h v' w' h2 h3

theorem wpList_app {w : World} {ops : Array Oper} {rest : List Oper} {o : Oper} {a : Act} {Q : Exit → Act → World → Prop} (hgd : o.guard = none) (s x : Operand)
    (ho : o.op = .call { callee := .builtin .append, args := #[s, x], argTypes := #[71, 71] })
    (base : Nat) (v : Value) (n : Nat) (l : List UInt8) (hs : a.eval s = v) (hown : w.ownsRow base 5 1 v n (Lib.byteCells l)) (B : Nat) (A : Option Addr) (m c : Nat) (k : List UInt8) (hx : a.eval x = .slice A m c) (hr : Rd w B A m k)
    (hsz : n + m ≤ 140737488355328) (hbase : base ≤ w.heap.size)
    (h : ∀ v' w', w'.ownsRow base 5 1 v' (n + m) (Lib.byteCells (l ++ k)) → w.grownBy w' v.ownBlock → wpList Try.prog ops Q rest (a.put o.dst v') w') : wpList Try.prog ops Q (o :: rest) a w :=
  wpList_plain hgd fun K hK => wp_app s x ho base v n l hs hown B A m c k hx hr hsz hbase fun v' w' h2 h3 => hK _ _ (h v' w' h2 h3)

/-- append(full, bytes...), the slice without spare room. -/
theorem wpList_appFull {w : World} {ops : Array Oper} {rest : List Oper} {o : Oper} {a : Act} {Q : Exit → Act → World → Prop} (hgd : o.guard = none) (s x : Operand)
    (ho : o.op = .call { callee := .builtin .append, args := #[s, x], argTypes := #[71, 71] })
    (A0 : Option Addr) (n : Nat) (l : List UInt8) (B0 : Nat) (hs : a.eval s = .slice A0 n n) (hr0 : Rd w B0 A0 n l) (B : Nat) (ad : Addr) (m c : Nat) (k : List UInt8) (hx : a.eval x = .slice (some ad) m c) (hr : Rd w B (some ad) m k) (hm : 0 < m)
    (hsz : n + m ≤ 140737488355328)
    (h : ∀ v' w', w'.ownsRow w.heap.size 5 1 v' (n + m) (Lib.byteCells (l ++ k)) → w.grownBy w' none → wpList Try.prog ops Q rest (a.put o.dst v') w') : wpList Try.prog ops Q (o :: rest) a w := by
  obtain ⟨i, hi, hz0, hz1, hz2⟩ := info_parts infoB
  refine wpList_append_grows w hgd s x 71 ho 5 i (.int .u8 0) 1 1 Try.underlying71 hi hz0 hz1 hz2 rfl (by decide) A0 n n (Lib.byteCells l) hs (fun e => ?_) (by rw [Lib.byteCells_length, hr0.1]; omega) (fun b e => hr0.cells e)
    ad m c (Lib.byteCells k) hx (by rw [Lib.byteCells_length, hr.1]; omega) (hr.cells rfl) (Lib.byteCells_one k) (by omega) (by unfold maxLen; omega) (by omega) (fun v' w' h2 h3 => h v' w' (by rw [Lib.byteCells_append]; exact h2) h3)
  subst e
  rcases Nat.eq_zero_or_pos n with h1 | h1
  · exact ⟨h1, h1⟩
  · obtain ⟨ad, e, _⟩ := hr0.2 h1; cases e

/-- The bytes of a block that the walk has just laid. -/
theorem Rd.laid {w : World} {g : Nat} {l : List UInt8} {cs : Array Value} {t : TypeId} (hb : w.heap[g]? = some (.cells cs t (0, 0))) (hc : cs.toList = Lib.byteCells l) : Rd w w.heap.size (some ⟨g, 0, none⟩) l.length l := by
  refine ⟨rfl, fun _ => ⟨_, rfl, (Array.getElem?_eq_some_iff.1 hb).1, fun j hj => ?_⟩⟩
  refine World.news_of_block hb j _ ?_
  rw [hc, byteCells_get, List.getElem?_eq_getElem hj]
  rfl

theorem Rd.one (w : World) (x : Int) (b : UInt8) (h : x = (b.toNat : Nat)) : Rd (w.alloc (.cells #[.int .u8 x] 5)) (w.heap.size + 1) (some ⟨w.heap.size, 0, none⟩) 1 [b] := by
  have := Rd.laid (w := w.alloc (.cells #[.int .u8 x] 5)) (g := w.heap.size) (l := [b]) (heap_alloc_new w _) (by rw [h]; rfl)
  simpa using this
theorem Rd.two (w : World) (x y : Int) (b d : UInt8) (h : x = (b.toNat : Nat)) (k : y = (d.toNat : Nat)) : Rd (w.alloc (.cells #[.int .u8 x, .int .u8 y] 5)) (w.heap.size + 1) (some ⟨w.heap.size, 0, none⟩) 2 [b, d] := by
  have := Rd.laid (w := w.alloc (.cells #[.int .u8 x, .int .u8 y] 5)) (g := w.heap.size) (l := [b, d]) (heap_alloc_new w _) (by rw [h, k]; rfl)
  simpa using this

/-- A call that hands back new bytes. -/
def GivesB (w : World) (l : List UInt8) (e : Ending) (w' : World) : Prop :=
  ∃ A n c, e = .returned (.slice A n c) ∧ l.length = n ∧ n ≤ c ∧ c ≤ maxLen ∧ (A = none → c = 0) ∧ Rd w' w'.heap.size A n l ∧ Below w.heap.size w w'
/-- A call that hands back a text. -/
def GivesS (w : World) (l : List UInt8) (e : Ending) (w' : World) : Prop :=
  ∃ s : ByteArray, e = .returned (.string s) ∧ s.data.toList = l ∧ Below w.heap.size w w'
theorem GivesB.of_own {w w' : World} {base n : Nat} {v : Value} {l : List UInt8} (h : w'.ownsRow base 5 1 v n (Lib.byteCells l)) (hb : Below w.heap.size w w') : GivesB w l (.returned v) w' := by
  obtain ⟨A, c, rfl, h1, h2, h3, h4⟩ := Rd.of_own h
  exact ⟨A, n, c, rfl, h4.1, h1, h2, h3, h4, hb⟩
/-- A slice to which bytes are appended without a trace: it came in without spare room, or it is the call's own (the call began in w0). -/
def Free (w0 : World) (v : Value) (m : Nat) (l : List UInt8) (w : World) : Prop :=
  Below w0.heap.size w0 w ∧ ((∃ A B, v = .slice A m m ∧ Rd w B A m l ∧ B ≤ w0.heap.size) ∨ w.ownsRow w0.heap.size 5 1 v m (Lib.byteCells l))
theorem Free.own {w0 w : World} {v : Value} {m : Nat} {l : List UInt8} (hb : Below w0.heap.size w0 w) (h : w.ownsRow w0.heap.size 5 1 v m (Lib.byteCells l)) : Free w0 v m l w := ⟨hb, Or.inr h⟩
theorem Free.full {w0 : World} {A : Option Addr} {m B : Nat} {l : List UInt8} (h : Rd w0 B A m l) (hB : B ≤ w0.heap.size) : Free w0 (.slice A m m) m l w0 := ⟨Below.refl _ _, Or.inl ⟨A, B, rfl, h, hB⟩⟩
theorem Free.alloc {w0 w : World} {v : Value} {m : Nat} {l : List UInt8} (h : Free w0 v m l w) (o : Obj) : Free w0 v m l (w.alloc o) := by
  have hz := h.1.size
  refine ⟨h.1.alloc hz o, ?_⟩
  rcases h.2 with ⟨A, B, h1, h2, h3⟩ | h2
  · exact Or.inl ⟨A, B, h1, h2.alloc (by omega) o, h3⟩
  · exact Or.inr (h2.alloc o)
theorem Free.slice {w0 w : World} {v : Value} {m : Nat} {l : List UInt8} (h : Free w0 v m l w) : ∃ A c, v = .slice A m c := by
  rcases h.2 with ⟨A, B, h1, h2⟩ | h2
  · exact ⟨A, m, h1⟩
  · obtain ⟨A, c, h3, _⟩ := Rd.of_own h2
    exact ⟨A, c, h3⟩
theorem wpList_appFree {w : World} {ops : Array Oper} {rest : List Oper} {o : Oper} {a : Act} {Q : Exit → Act → World → Prop} (hgd : o.guard = none) (s x : Operand)
    (ho : o.op = .call { callee := .builtin .append, args := #[s, x], argTypes := #[71, 71] })
    (w0 : World) (v : Value) (n : Nat) (l : List UInt8) (hs : a.eval s = v) (hf : Free w0 v n l w) (B : Nat) (ad : Addr) (m c : Nat) (k : List UInt8) (hx : a.eval x = .slice (some ad) m c) (hr : Rd w B (some ad) m k) (hm : 0 < m)
    (hsz : n + m ≤ 140737488355328)
    (h : ∀ v' w', w'.ownsRow w0.heap.size 5 1 v' (n + m) (Lib.byteCells (l ++ k)) → Below w0.heap.size w0 w' → wpList Try.prog ops Q rest (a.put o.dst v') w') : wpList Try.prog ops Q (o :: rest) a w := by
  have hz := hf.1.size
  rcases hf.2 with ⟨A, B0, h1, h2, h3⟩ | h2
  · refine wpList_appFull hgd s x ho A n l B0 (by rw [hs, h1]) h2 B ad m c k hx hr hm hsz fun v' w' g1 g2 => h v' w' (own_down g1 hz) (hf.1.grown g2 hz (fun g hg => by cases hg))
  · exact wpList_app hgd s x ho w0.heap.size v n l hs h2 B (some ad) m c k hx hr hsz hz fun v' w' g1 g2 => h v' w' g1 (hf.1.grown g2 hz fun g hg => (h2.lt g hg).1)
end Go.Proofs.Ytafbbojfifcncaa
set_option linter.unusedVariables false
namespace Go.Proofs.Ytafbbojfifcncaa
open Go Go.RowKit

def intE (v : Int) : List UInt8 := be (v + 9223372036854775808).toNat 8
theorem cv_asE {w : World} {B n : Nat} {A : Option Addr} {l : List UInt8} (h : Rd w B A n l) (c : Nat) (q : ByteArray) (hq : q.data.toList = l) :
    (convert 71 9 (.slice A n c)).run Try.prog w = .ok (.string q) w := by
  rw [cv_string h c, mk_eq l q hq]
theorem shr_byteE (v m : Nat) : (v : Int) / 2 ^ (8 * m) % 256 = ((UInt8.ofNat (v / 256 ^ m)).toNat : Nat) := by
  have e : (2 : Int) ^ (8 * m) = ((256 ^ m : Nat) : Int) := by rw [Int.pow_mul]; simp
  rw [e, UInt8.toNat_ofNat']
  simp

theorem xor63E (a : Nat) (h : a < 18446744073709551616) : a ^^^ 9223372036854775808 = (a + 9223372036854775808) % 18446744073709551616 := by
  have small : ∀ b : Nat, b < 2 ^ 63 → b ^^^ 2 ^ 63 = 2 ^ 63 + b := by
    intro b hb
    apply Nat.eq_of_testBit_eq
    intro i
    rw [Nat.testBit_xor, Nat.testBit_two_pow]
    rcases Nat.lt_trichotomy i 63 with hi | hi | hi
    · rw [Nat.testBit_two_pow_add_gt hi, decide_eq_false (by omega), Bool.xor_false]
    · subst hi
      rw [Nat.testBit_two_pow_add_eq]
      simp
    · rw [Nat.testBit_lt_two_pow (Nat.lt_of_lt_of_le hb (Nat.pow_le_pow_right (by omega) (by omega))), Nat.testBit_lt_two_pow (x := 2 ^ 63 + b) (Nat.lt_of_lt_of_le (show 2 ^ 63 + b < 2 ^ 64 by omega) (Nat.pow_le_pow_right (by omega) (by omega))), decide_eq_false (by omega)]
      rfl
  rw [show (9223372036854775808 : Nat) = 2 ^ 63 from rfl]
  by_cases hs : a < 2 ^ 63
  · rw [small a hs]; omega
  · obtain ⟨b, rfl⟩ : ∃ b, a = 2 ^ 63 + b := ⟨a - 2 ^ 63, by omega⟩
    rw [← small b (by omega), Nat.xor_assoc, Nat.xor_self, Nat.xor_zero, small b (by omega)]
    omega

set_option maxRecDepth 8000 in
set_option maxHeartbeats 2000000 in
theorem rint_anyE (v : Int) (w : World) (h1 : -9223372036854775808 ≤ v) (h2 : v ≤ 9223372036854775807) :
    Calls Try.prog 71 #[.int .i64 v] w (GivesS w (intE v)) := by
  obtain ⟨u, hu⟩ : ∃ u : Nat, (v + 9223372036854775808).toNat = u := ⟨_, rfl⟩
  have hul : u < 18446744073709551616 := by omega
  have e : bits BinOp.xor IntKind.u64 (IntKind.u64.wrap v) 9223372036854775808 = (u : Int) := by
    rw [IntKind.wrap_u64]
    have h3 : v % 18446744073709551616 = (((v % 18446744073709551616).toNat : Nat) : Int) := by omega
    rw [h3, show (9223372036854775808 : Int) = ((9223372036854775808 : Nat) : Int) from rfl, bits_xor_u64_nat _ _ (by omega) (by omega), xor63E _ (by omega)]
    omega
  have HE := Lib.hid e
  have HU := Lib.hid hu
  clear e hu
  go_enter Try.func71, Try.ntmps71
  go_wp2
  rw [HE.out]
  go_loopw [4, 5] (fun t i wr => ∃ (k : Nat) (q : ByteArray), i = .int .i64 k ∧ k ≤ 8 ∧ t = .string q ∧ q.data.toList = be u k ∧ q.size = k ∧ Below w.heap.size w wr) (fun _ i _ => 8 - (intOf i).toNat)
  case atStart => exact ⟨0, ⟨#[]⟩, rfl, Nat.zero_le _, rfl, rfl, rfl, Below.refl _ _⟩
  case round =>
    obtain ⟨k, q, rfl, hk, rfl, hq, hqs, hb⟩ := hrel
    have hz := hb.size
    by_cases hlt : k < 8
    · have hcv := cv_asE (Rd.one wr ((u : Int) / 2 ^ (8 * k) % 256) (UInt8.ofNat (u / 256 ^ k)) (shr_byteE u k)) 1 ⟨#[UInt8.ofNat (u / 256 ^ k)]⟩ rfl
      obtain ⟨q2, hq2e⟩ : ∃ x : ByteArray, (⟨#[UInt8.ofNat (u / 256 ^ k)]⟩ : ByteArray) ++ q = x := ⟨_, rfl⟩
      have hadd : ∀ wx : World, (Op.stringOp .add ⟨#[UInt8.ofNat (u / 256 ^ k)]⟩ q).run Try.prog wx = .ok (.string q2) wx := by
        intro wx; rw [run_string_add_sum wx _ q (by rw [show (⟨#[UInt8.ofNat (u / 256 ^ k)]⟩ : ByteArray).size = 1 from rfl]; omega), hq2e]
      have hq2 : q2.data.toList = be u (k + 1) := by rw [← hq2e, be, ← hq]; simp
      have hq2s : q2.size = k + 1 := by rw [← hq2e, ByteArray.size_append, hqs]; exact Nat.add_comm _ _
      have HQ := Lib.hid hq2
      have HS := Lib.hid hq2s
      clear hq hqs hq2e hq2 hq2s
      go_wp2
      go_roundw
      case rel => exact ⟨k + 1, q2, by go_num, by omega, rfl, HQ.out, HS.out, hb.alloc hz _⟩
      case measure => simp [intOf]; omega
    · obtain rfl : k = 8 := by omega
      have HQ := Lib.hid hq
      clear hq hqs
      go_wp2
      go_ret
      exact ⟨q, rfl, by rw [HQ.out, intE, HU.out], hb⟩


/-- The keys of the rows of numbers: whole numbers, encoded. -/
def dg (i : Nat) : ByteArray := ⟨(intE (i : Int)).toArray⟩
theorem dg_facts : (∀ i, i < 4 → (dg i).size = 8) ∧ ∀ i, i < 4 → ∀ j, j < i → (dg j).data.toList < (dg i).data.toList := by decide
end Go.Proofs.Ytafbbojfifcncaa
