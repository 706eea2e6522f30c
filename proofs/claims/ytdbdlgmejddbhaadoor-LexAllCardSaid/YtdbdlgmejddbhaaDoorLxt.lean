/-
  The document's own reader: letters.
-/
import Derived.Test.YtdbdlgmejddbhaaDoorLxs
import Derived.Test.YtdbdlgmejddbhaaDoorTkl
set_option linter.unusedVariables false
namespace Go.Proofs.YtdbdlgmejddbhaaDoor
open Go Go.RowKit Go.Proofs

set_option maxHeartbeats 4000000 in
set_option maxRecDepth 100000 in
theorem plet_in {B q I p : Nat} {s : ByteArray} {v : Value} (dd : Bool) (w : World) (h : PSt B w q s v I p) (hs : s.size ≤ 1000) (hp : p < s.size) :
    Calls Tryd.prog 30 #[.pointer (some ⟨q, 0, none⟩), .bool dd] w fun e w' => e = .returned (.bool (ltrC (Utf8.decode s p) || (dd && dgtC (Utf8.decode s p)))) ∧ Below w.heap.size w w' := by
  have hlen := cps_length s
  obtain ⟨A, cap, rfl, hcap, hmax, hform⟩ := h.all.form
  unfold maxLen at hmax
  have c1 := cell_at (i := 1) h.blk rfl
  have c2 := cell_at (i := 2) h.blk rfl
  obtain ⟨g1, g2, g3⟩ := h.pos.get hp
  have hI : I ≤ 1000 := by omega
  obtain ⟨g, rfl, hcell⟩ : ∃ g, A = some ⟨g, 0, none⟩ ∧ _ := hform.resolve_left (fun h => by rw [h] at g1; simp at g1)
  obtain ⟨x0, x1, x2, x3⟩ := hcell _ _ g2
  have hg : g < w.heap.size := Lib.lt_of_cell x0
  have hq := h.lt
  have hd : decide (((cps s).length : Int) ≤ (I : Int)) = false := by simp; omega
  have h0 : (0 : Int) ≤ (I : Int) := by omega
  have hd2 : (I : Int) < ((cps s).length : Int) := by omega
  have hr32 := (cpsF_bound s s.size 0 _ (List.mem_of_getElem? g2)).1
  have HQ := Lib.hid hq
  have HG := Lib.hid hg
  clear hform hcell h g2 g3
  go_enter Tryd.func30, Tryd.ntmps30
  go_wp2_with fail
  go_quiet (fail)
  have b2 := below_drewN2 w nq
  obtain ⟨w2, hw2⟩ : ∃ w2, w2 = w.drewN nq := ⟨_, rfl⟩
  have hz : w2.heap.size = w.heap.size := by rw [hw2]; rfl
  rw [← hw2] at b2
  have C1 := Lib.hid ((b2.cell (p := ⟨q, 1, none⟩) HQ.out).trans c1)
  have C2 := Lib.hid ((b2.cell (p := ⟨q, 2, none⟩) HQ.out).trans c2)
  have X0 := Lib.hid ((b2.cell (p := ⟨g, I * 4, none⟩) HG.out).trans x0)
  have X1 := Lib.hid ((b2.cell (p := ⟨g, I * 4 + 1, none⟩) HG.out).trans x1)
  have X2 := Lib.hid ((b2.cell (p := ⟨g, I * 4 + 2, none⟩) HG.out).trans x2)
  have X3 := Lib.hid ((b2.cell (p := ⟨g, I * 4 + 3, none⟩) HG.out).trans x3)
  rw [← hz] at HQ HG
  have B2 := Lib.hid b2
  have HZ := Lib.hid hz
  clear b2 c1 c2 x0 x1 x2 x3 hq hg hz
  go_wp2_with fail
  rw [← hw2]
  clear hw2
  refine wp_region_held_drew (S := fun w' => Below w2.heap.size w2 w') (by kernel_rfl) ?_ (fun hHeld => ?_)
  · exact (Below.refl _ _).drew
  refine takesH [0, 1, 2, 3, 4, 5, 6, 7, 8, 9] ?_
  repeat
    refine takesH_one (v := ?_) ?_ ?_
    rotate_left
    · first | (refine Or.inr ⟨by rfl, ?_⟩; with_reducible rfl) | (refine Or.inl ⟨by rfl, ?_⟩; intro wx hSw; (try dsimp only at hSw); first | (go_simp; first | done | with_reducible rfl) | ((have _c1 := (hSw.cell (p := ⟨q, 1, none⟩) HQ.out).trans C1.out; have _c2 := (hSw.cell (p := ⟨q, 2, none⟩) HQ.out).trans C2.out; have _x0 := (hSw.cell (p := ⟨g, I * 4, none⟩) HG.out).trans X0.out; have _x1 := (hSw.cell (p := ⟨g, I * 4 + 1, none⟩) HG.out).trans X1.out; have _x2 := (hSw.cell (p := ⟨g, I * 4 + 2, none⟩) HG.out).trans X2.out; have _x3 := (hSw.cell (p := ⟨g, I * 4 + 3, none⟩) HG.out).trans X3.out); go_simp; first | done | with_reducible rfl))
    try simp only [Act.put, List.getElem_toArray, List.getElem_cons_succ, List.getElem_cons_zero, List.setIfInBounds_toArray, List.set_cons_zero, List.set_cons_succ]
  refine takesH_nil ?_
  refine wpAnyH_ready (rs := [10]) (by kernel_rfl) (by simp) (AllReadyH.cons rfl (fun K hK => ?_) AllReadyH.nil)
  go_simp
  refine hK.out _ _ ?_ (fun hHeld => ?_)
  · exact hHeld.alloc hHeld.size _
  clear hK K
  try simp only [Act.put, List.getElem_toArray, List.getElem_cons_succ, List.getElem_cons_zero, List.setIfInBounds_toArray, List.set_cons_zero, List.set_cons_succ]
  refine wpAnyH_ready (rs := [11]) (by kernel_rfl) (by simp) (AllReadyH.cons rfl (fun K hK => ?_) AllReadyH.nil)
  go_simp
  refine hK.out _ _ ?_ (fun hHeld => ?_)
  · exact ((Below.refl _ _).alloc (Nat.le_refl _) _).drew
  clear hK K
  try simp only [Act.put, List.getElem_toArray, List.getElem_cons_succ, List.getElem_cons_zero, List.setIfInBounds_toArray, List.set_cons_zero, List.set_cons_succ]
  refine wpAnyH_done (by kernel_rfl) ?_ _
  clear hHeld
  obtain ⟨cc, hcc⟩ : ∃ cc, cc = (Utf8.decode s p).1 := ⟨_, rfl⟩
  obtain ⟨wd, hwd⟩ : ∃ wd, wd = (Utf8.decode s p).2 := ⟨_, rfl⟩
  have hres : (ltrC (Utf8.decode s p) || (dd && dgtC (Utf8.decode s p))) = (ltrC (cc, wd) || (dd && dgtC (cc, wd))) := by rw [hcc, hwd]
  have HRES := Lib.hid hres
  rw [← hcc] at hr32
  clear hres
  rw [← hcc, ← hwd]
  clear hcc hwd
  go_wp2_with fail
  refine (rletter_any cc p wd _ hr32).mono ?_
  rintro e w3 ⟨rfl, b3⟩
  have n3 : w3.heap[w2.heap.size]? = some (.cells #[.int .i32 (cc : Nat), .int .i64 (p : Nat), .int .i64 (wd : Nat), .bool (rightB (cc, p, wd))] 60 (0, 0)) := (b3.block _ (by simp)).trans (heap_alloc_new w2 _)
  have BF := Lib.hid (B2.out.trans ((((Below.refl w2.heap.size w2).alloc (Nat.le_refl _) _).drew.trans (b3.mono (by simp))).mono (by rw [HZ.out]; exact Nat.le_refl _)))
  have y0 := cell_at (i := 0) n3 rfl
  clear n3 b3
  obtain ⟨lb, hlb⟩ : ∃ lb, lb = letterB (cc, 0, wd) := ⟨_, rfl⟩
  have HLB := Lib.hid hlb.symm
  rw [show letterB (cc, p, wd) = lb from hlb.symm]
  clear hlb
  have fin : ∀ r : Bool, r = (ltrC (cc, wd) || (dd && dgtC (cc, wd))) → r = (ltrC (Utf8.decode s p) || (dd && dgtC (Utf8.decode s p))) := fun r h => h.trans HRES.out.symm
  have HFIN := Lib.hid fin
  clear fin
  cases lb with
  | true =>
    go_wp2
    go_ret
    exact ⟨ret_bool (HFIN.out true (by unfold ltrC dgtC; dsimp only; rw [HLB.out]; simp)), BF.out⟩
  | false =>
    by_cases h65 : (65 : Int) ≤ (cc : Int)
    · by_cases h90 : (cc : Int) ≤ 90
      · go_wp2
        go_ret
        exact ⟨ret_bool (HFIN.out true (by unfold ltrC dgtC; dsimp only; rw [decide_eq_true (show 65 ≤ cc by omega), decide_eq_true (show cc ≤ 90 by omega)]; simp)), BF.out⟩
      · cases dd with
        | false =>
          go_wp2
          go_ret
          exact ⟨ret_bool (Eq.trans (by first | rfl | (simp; done) | (simp; omega)) (HFIN.out false (by unfold ltrC dgtC; dsimp only; rw [HLB.out, decide_eq_false (show ¬ cc ≤ 90 by omega)]; simp))), BF.out⟩
        | true =>
          have h48 : (48 : Int) ≤ (cc : Int) := by omega
          have h57 : ¬ (cc : Int) ≤ 57 := by omega
          go_wp2
          go_ret
          exact ⟨ret_bool (Eq.trans (by first | rfl | (simp; done) | (simp; omega)) (HFIN.out false (by unfold ltrC dgtC; dsimp only; rw [HLB.out, decide_eq_false (show ¬ cc ≤ 90 by omega), decide_eq_false (show ¬ cc ≤ 57 by omega)]; simp))), BF.out⟩
    · cases dd with
      | false =>
        go_wp2
        go_ret
        have hh := HFIN.out false (by unfold ltrC dgtC; dsimp only; rw [HLB.out, decide_eq_false (show ¬ 65 ≤ cc by omega)]; simp)
        refine ⟨?_, BF.out⟩
        simp only [Bool.false_and, Bool.or_false] at hh ⊢
        exact ret_bool hh
      | true =>
        by_cases h48 : (48 : Int) ≤ (cc : Int)
        · by_cases h57 : (cc : Int) ≤ 57
          · go_wp2
            go_ret
            exact ⟨ret_bool (HFIN.out true (by unfold ltrC dgtC; dsimp only; rw [decide_eq_true (show 48 ≤ cc by omega), decide_eq_true (show cc ≤ 57 by omega)]; simp)), BF.out⟩
          · go_wp2
            go_ret
            exact ⟨ret_bool (Eq.trans (by first | rfl | (simp; done) | (simp; omega)) (HFIN.out false (by unfold ltrC dgtC; dsimp only; rw [HLB.out, decide_eq_false (show ¬ 65 ≤ cc by omega), decide_eq_false (show ¬ cc ≤ 57 by omega)]; simp))), BF.out⟩
        · go_wp2
          go_ret
          exact ⟨ret_bool (Eq.trans (by first | rfl | (simp; done) | (simp; omega)) (HFIN.out false (by unfold ltrC dgtC; dsimp only; rw [HLB.out, decide_eq_false (show ¬ 65 ≤ cc by omega), decide_eq_false (show ¬ 48 ≤ cc by omega)]; simp))), BF.out⟩
/-- Whether the next one is a letter; a digit too. -/
theorem plet_any {B q I p : Nat} {s : ByteArray} {v : Value} (dd : Bool) (w : World) (h : PSt B w q s v I p) (hs : s.size ≤ 1000) :
    Calls Tryd.prog 30 #[.pointer (some ⟨q, 0, none⟩), .bool dd] w fun e w' => e = .returned (.bool (ltrC (Lib.decodeL (s.data.toList.drop p)) || (dd && dgtC (Lib.decodeL (s.data.toList.drop p))))) ∧ Below w.heap.size w w' := by
  rw [Lib.decodeL_drop]
  by_cases hp : p < s.size
  · exact plet_in dd w h hs hp
  · have : s.data.toList.drop p = [] := List.drop_eq_nil_of_le (by rw [← Lib.size_eq]; omega)
    have e : Utf8.decode s p = (0, 1) := by rw [← Lib.decodeL_drop, this]; exact decodeL_nil
    rw [e]
    have e2 : (ltrC (0, 1) || (dd && dgtC (0, 1))) = false := by cases dd <;> decide
    rw [e2]
    exact plet_end dd w h hs hp
end Go.Proofs.YtdbdlgmejddbhaaDoor
