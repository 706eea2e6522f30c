/-
  The document's own writing of cells and partitions (chapter 9).
-/
import Derived.Test.YthfanonjokpflaaGreatTkl
import Derived.Test.YthfanonjokpflaaGreatKg
import Derived.Test.YthfanonjokpflaaGreatPo
import Derived.Test.YthfanonjokpflaaGreatPd3
import Derived.Test.YthfanonjokpflaaGreatPq1
import Derived.Deep.RegionHeld3
set_option linter.unusedVariables false
set_option linter.unusedSimpArgs false
namespace Go.Proofs.YthfanonjokpflaaGreat
open Go Go.RowKit

set_option maxHeartbeats 4000000 in
theorem rcell9 (s : ByteArray) (d : Bool) (a e : Int) (w : World) (hg : Ce.Gd ⟨s, d, a, e⟩) (hs : s.size ≤ 1000000) :
    Calls Tryz.prog 65 #[.agg #[.string s, .bool d, .int .i64 a, .int .i64 e]] w fun x w' => x = .returned (.string (bs (cE ⟨s, d, a, e⟩))) ∧ Below w.heap.size w w' := by
  have bz := (Below.refl w.heap.size w).alloc (Nat.le_refl _) (.cells #[.string s, .bool d, .int .i64 a, .int .i64 e] 54)
  have hz := heap_alloc_new w (.cells #[.string s, .bool d, .int .i64 a, .int .i64 e] 54)
  obtain ⟨V, hV⟩ : ∃ V, V = w.alloc (.cells #[.string s, .bool d, .int .i64 a, .int .i64 e] 54) := ⟨_, rfl⟩
  have hVs : V.heap.size = w.heap.size + 1 := by rw [hV]; simp
  rw [← hV] at bz hz
  have hc : ∀ w', Below V.heap.size V w' → w'.cell? ⟨w.heap.size, 0, none⟩ = some (.string s) ∧ w'.cell? ⟨w.heap.size, 1, none⟩ = some (.bool d) ∧ w'.cell? ⟨w.heap.size, 2, none⟩ = some (.int .i64 a) ∧ w'.cell? ⟨w.heap.size, 3, none⟩ = some (.int .i64 e) := fun w' hb => by
    have q := (hb.block w.heap.size (by omega)).trans hz
    exact ⟨cell_at q rfl, cell_at q rfl, cell_at q rfl, cell_at q rfl⟩
  have HC := Lib.hid hc; have BZ := Lib.hid bz; have HA := Lib.hid hg.1; have HVS := Lib.hid hVs
  obtain ⟨_, _, _, _⟩ := hc V (Below.refl _ _)
  have hl1 : (numL a.toNat).length ≤ 9 := stm_num hg.1
  have hl2 : (tE s).length ≤ 9 + 1000000 := tE_le hs (by omega)
  clear bz hz hVs hc
  go_enter Tryz.func65, Tryz.ntmps65
  by_cases h0 : a = 0
  · subst h0
    have he : cE ⟨s, d, 0, e⟩ = numL 0 := by unfold cE tailE; rw [if_pos rfl, List.append_nil]; rfl
    have HE := Lib.hid he
    clear he
    go_wp2_with fail
    rw [← hV]
    clear hV
    refine (rnum9 0 _ (by omega)).mono ?_
    rintro x w1 ⟨rfl, b1⟩
    go_wp2
    go_ret
    exact ⟨by rw [HE.out]; rfl, next BZ.out b1⟩
  · have e0 : (a == 0) = false := by simp; exact h0
    cases d
    · have hgs := hg.2.2.2 h0 rfl
      obtain ⟨P1, hP1⟩ : ∃ P, numL a.toNat ++ [0] = P := ⟨_, rfl⟩
      obtain ⟨P2, hP2⟩ : ∃ P, P1 ++ tE s = P := ⟨_, rfl⟩
      obtain ⟨P3, hP3⟩ : ∃ P, P2 ++ numL e.toNat = P := ⟨_, rfl⟩
      have hl3 : (numL e.toNat).length ≤ 9 := stm_num hgs.2
      have hr : cE ⟨s, false, a, e⟩ = P3 := by
        rw [← hP3, ← hP2, ← hP1]
        unfold cE tailE
        rw [if_neg h0, if_neg (by simp)]
        simp
      have L1 : P1.length ≤ 10 := by rw [← hP1, List.length_append]; simp; omega
      have L2 : P2.length ≤ 1000100 := by rw [← hP2, List.length_append]; omega
      have L3 : P3.length ≤ 1000200 := by rw [← hP3, List.length_append]; omega
      have a1 := fun wx => add_bs' (a := numL a.toNat) (q := ⟨#[0]⟩) (c := P1) hP1 (by omega) wx
      have a2 := fun wx => add_bs (a := P1) (b := tE s) (c := P2) hP2 (by omega) wx
      have a3 := fun wx => add_bs (a := P2) (b := numL e.toNat) (c := P3) hP3 (by omega) wx
      have HR := Lib.hid hr; have HE := Lib.hid hgs.2; have HS : Hid (s.size ≤ 1000000000) := Lib.hid (by omega)
      clear hP1 hP2 hP3 hl1 hl2 hl3 hr L1 L2 L3 hgs hg hs
      go_wp2_with fail
      rw [← hV]
      clear hV
      go_wp2_with fail
      refine wp_region_held_drew (S := fun w' => Below V.heap.size V w') (by kernel_rfl) ?_ (fun hHeld => ?_)
      · exact (Below.refl _ _).drew
      refine takesH [0, 1, 4, 5, 8, 9] ?_
      repeat
        refine takesH_one (v := ?_) ?_ ?_
        rotate_left
        · first | (refine Or.inr ⟨by rfl, ?_⟩; with_reducible rfl) | (refine Or.inl ⟨by rfl, ?_⟩; intro wx hSw; (try dsimp only at hSw); first | (go_simp; first | done | with_reducible rfl) | (obtain ⟨_, _, _, _⟩ := HC.out _ hSw; go_simp; first | done | with_reducible rfl))
        try simp only [Act.put, List.getElem_toArray, List.getElem_cons_succ, List.getElem_cons_zero, List.setIfInBounds_toArray, List.set_cons_zero, List.set_cons_succ]
      refine takesH_nil ?_
      refine wpAnyH_ready (rs := [2]) (by kernel_rfl) (by simp) (AllReadyH.cons rfl (fun K hK => ?_) AllReadyH.nil)
      go_simp
      refine (rnum9i a _ HA.out).mono ?_
      rintro e' w1 ⟨rfl, b1⟩
      try go_wp2_with fail
      refine hK.out _ _ ?_ (fun hHeld => ?_)
      · exact next hHeld b1
      clear hK K
      try simp only [Act.put, List.getElem_toArray, List.getElem_cons_succ, List.getElem_cons_zero, List.setIfInBounds_toArray, List.set_cons_zero, List.set_cons_succ]
      refine takesH [3] ?_
      repeat
        refine takesH_one (v := ?_) ?_ ?_
        rotate_left
        · first | (refine Or.inr ⟨by rfl, ?_⟩; with_reducible rfl) | (refine Or.inl ⟨by rfl, ?_⟩; intro wx hSw; (try dsimp only at hSw); first | (go_simp; first | done | with_reducible rfl))
        try simp only [Act.put, List.getElem_toArray, List.getElem_cons_succ, List.getElem_cons_zero, List.setIfInBounds_toArray, List.set_cons_zero, List.set_cons_succ]
      refine takesH_nil ?_
      refine wpAnyH_ready (rs := [6]) (by kernel_rfl) (by simp) (AllReadyH.cons rfl (fun K hK => ?_) AllReadyH.nil)
      go_simp
      refine (rtext9 s _ HS.out).mono ?_
      rintro e' w1 ⟨rfl, b1⟩
      try go_wp2_with fail
      refine hK.out _ _ ?_ (fun hHeld => ?_)
      · exact next hHeld b1
      clear hK K
      try simp only [Act.put, List.getElem_toArray, List.getElem_cons_succ, List.getElem_cons_zero, List.setIfInBounds_toArray, List.set_cons_zero, List.set_cons_succ]
      refine takesH [7] ?_
      repeat
        refine takesH_one (v := ?_) ?_ ?_
        rotate_left
        · first | (refine Or.inr ⟨by rfl, ?_⟩; with_reducible rfl) | (refine Or.inl ⟨by rfl, ?_⟩; intro wx hSw; (try dsimp only at hSw); first | (go_simp; first | done | with_reducible rfl))
        try simp only [Act.put, List.getElem_toArray, List.getElem_cons_succ, List.getElem_cons_zero, List.setIfInBounds_toArray, List.set_cons_zero, List.set_cons_succ]
      refine takesH_nil ?_
      refine wpAnyH_ready (rs := [10]) (by kernel_rfl) (by simp) (AllReadyH.cons rfl (fun K hK => ?_) AllReadyH.nil)
      go_simp
      refine (rnum9i e _ HE.out).mono ?_
      rintro e' w1 ⟨rfl, b1⟩
      try go_wp2_with fail
      refine hK.out _ _ ?_ (fun hHeld => ?_)
      · exact next hHeld b1
      clear hK K
      try simp only [Act.put, List.getElem_toArray, List.getElem_cons_succ, List.getElem_cons_zero, List.setIfInBounds_toArray, List.set_cons_zero, List.set_cons_succ]
      refine takesH [11, 12] ?_
      repeat
        refine takesH_one (v := ?_) ?_ ?_
        rotate_left
        · first | (refine Or.inr ⟨by rfl, ?_⟩; with_reducible rfl) | (refine Or.inl ⟨by rfl, ?_⟩; intro wx hSw; (try dsimp only at hSw); first | (go_simp; first | done | with_reducible rfl))
        try simp only [Act.put, List.getElem_toArray, List.getElem_cons_succ, List.getElem_cons_zero, List.setIfInBounds_toArray, List.set_cons_zero, List.set_cons_succ]
      refine takesH_nil ?_
      refine wpAnyH_done (by kernel_rfl) ?_ _
      go_wp2
      go_ret
      exact ⟨by rw [HR.out]; rfl, next BZ.out hHeld⟩
    · have hr : cE ⟨s, true, a, e⟩ = numL a.toNat ++ [1] := by unfold cE tailE; rw [if_neg h0, if_pos rfl]
      have a1 := fun wx => add_bs' (a := numL a.toNat) (q := ⟨#[1]⟩) (c := cE ⟨s, true, a, e⟩) hr.symm (by rw [hr, List.length_append]; simp; omega) wx
      clear hr hg hs hl2
      go_wp2_with fail
      rw [← hV]
      clear hV
      refine (rnum9i a _ HA.out).mono ?_
      rintro x w1 ⟨rfl, b1⟩
      go_wp2
      go_ret
      exact ⟨rfl, next BZ.out b1⟩
end Go.Proofs.YthfanonjokpflaaGreat
