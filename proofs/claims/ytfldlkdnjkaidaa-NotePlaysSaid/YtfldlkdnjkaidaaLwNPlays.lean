/-
  NotePlays (of the developers' notes).
-/
import Derived.Test.YtfldlkdnjkaidaaTkl
import Derived.Test.YtfldlkdnjkaidaaTn
import Derived.Test.YtfldlkdnjkaidaaOpnN
import Derived.Test.YtfldlkdnjkaidaaPlc
import Derived.Deep.DeepCutAuto
import Derived.Deep.CutBlock
set_option linter.unusedVariables false
set_option linter.unusedSimpArgs false
namespace Go.Proofs.Ytfldlkdnjkaidaa
open Go Go.RowKit

set_option maxRecDepth 8000 in
set_option maxHeartbeats 1200000 in
theorem nplays {P : World → (Nat → Prop) → Nat → Fl → Prop} (D : DevN P) (A : Option Addr) (n c : Nat) (L : List OA) (w : World) (h : LiesO w w.heap.size A n L) (hx : ∀ x ∈ L, OpF x) :
    Calls Try.prog 3 #[.slice A n c] w fun e w' => e = .returned (.bool true) ∧ Below w.heap.size w w' := by
  have hl := h.len
  have HH := Lib.hid h; have HX := Lib.hid hx; have HL := Lib.hid hl
  clear h hx hl
  go_enter Try.func3, Try.ntmps3
  go_wp2_with fail
  refine (D.new w).mono ?_
  rintro e w1 ⟨p, F1, rfl, hp1, ha1, hi1, b1⟩
  have ba := (Below.refl w1.heap.size w1).alloc (Nat.le_refl _) (.cells #[.slice none 0 0] 28)
  have hq := heap_alloc_new w1 (.cells #[.slice none 0 0] 28)
  obtain ⟨V, hV⟩ : ∃ V, V = w1.alloc (.cells #[.slice none 0 0] 28) := ⟨_, rfl⟩
  rw [← hV] at ba hq
  have hT : TwoN P w V F1 (fun k => k = w1.heap.size) p w1.heap.size [] [] :=
    ⟨D.kept (F := fun _ => False) hp1 (Kept.of_below ba _) (fun _ hf => hf.elim) hi1, ⟨_, hq, own_nilT _ _, rfl, fun g hg => (by cases hg), NOk.nil⟩, hi1.up ba.size, fun k hk => by subst hk; exact (Array.getElem?_eq_some_iff.1 hq).1,
      fun k hk he => by subst he; exact Nat.lt_irrefl _ (hi1 _ hk), ha1, fun k hk => by subst hk; exact b1.size, b1.trans (ba.mono b1.size)⟩
  obtain ⟨q, hqe⟩ : ∃ q, w1.heap.size = q := ⟨_, rfl⟩
  rw [hqe] at hT
  have HT := Lib.hid hT; have HQE0 := Lib.hid hqe
  clear hp1 ha1 hi1 b1 ba hq hT hqe
  go_wp2_with fail
  rw [← hV, HQE0.out]
  clear hV
  try go_wp2_with fail
  go_loopw [5] (fun i wr => ∃ (t : Nat) (F G : Nat → Prop) (S : Fl), t ≤ n ∧ i = .int .i64 t ∧ TwoN P w wr F G p q S S) (fun i _ => n - (intOf i).toNat)
  case atStart => exact ⟨0, F1, _, [], Nat.zero_le _, rfl, HT.out⟩
  case round =>
    obtain ⟨t, F, G, S, ht, rfl, h1⟩ := hrel
    have T1 := Lib.hid h1
    clear h1
    by_cases hgo : t < n ∧ t < 60
    · obtain ⟨hlt, h60⟩ := hgo
      have i1 : (t : Int) < n := by omega
      have i0 : (0 : Int) ≤ t := by omega
      have i6 : (t : Int) < 60 := by omega
      have htl : t < L.length := by rw [HL.out]; exact hlt
      have hrd := HH.out.below T1.out.below
      obtain ⟨g0, o0, rfl, hg0, _⟩ := hrd.at_ (by omega)
      obtain ⟨z0, z1, z2, z3, z4⟩ := hrd.cells htl
      have hof := HX.out L[t] (List.getElem_mem htl)
      have hra := HH.out.adds L[t] (List.getElem_mem htl)
      have hrdd := HH.out.drops L[t] (List.getElem_mem htl)
      obtain ⟨o, ho⟩ : ∃ o, L[t] = o := ⟨_, rfl⟩
      rw [ho] at z0 z1 z2 z3 z4 hof hra hrdd
      obtain ⟨kd, id, bd, LL, AL, cL, DD, AD, cD⟩ := o
      dsimp only at z0 z1 z2 z3 z4 hof hra hrdd
      obtain ⟨nl, hnl⟩ : ∃ nl, LL.length = nl := ⟨_, rfl⟩
      obtain ⟨ndd, hnd⟩ : ∃ nd, DD.length = nd := ⟨_, rfl⟩
      rw [hnl] at z3 hra
      rw [hnd] at z4 hrdd
      have HCL := Lib.hid (show nl ≤ cL by rw [← hnl]; exact hof.capL); have HCD := Lib.hid (show ndd ≤ cD by rw [← hnd]; exact hof.capD)
      have HOF := Lib.hid hof; have HWL := Lib.hid hof.adds; have HLA := Lib.hid hra; have HLD := Lib.hid hrdd
      have ba := (Below.refl wr.heap.size wr).alloc (Nat.le_refl _) (.cells #[.int .i64 kd, .int .i64 id, .string bd, .slice AL nl cL, .slice AD ndd cD] 33)
      have hob := heap_alloc_new wr (.cells #[.int .i64 kd, .int .i64 id, .string bd, .slice AL nl cL, .slice AD ndd cD] 33)
      obtain ⟨U, hU⟩ : ∃ U, U = wr.alloc (.cells #[.int .i64 kd, .int .i64 id, .string bd, .slice AL nl cL, .slice AD ndd cD] 33) := ⟨_, rfl⟩
      rw [← hU] at ba hob
      have T2 := Lib.hid (T1.out.read D ba)
      have XB := Lib.hid hob
      have HUL := Lib.hid (show wr.heap.size < U.heap.size from (Array.getElem?_eq_some_iff.1 hob).1)
      have c0 := cell_at (i := 0) hob rfl
      have c2 := cell_at (i := 2) hob rfl
      have c3 := cell_at (i := 3) hob rfl
      have c4 := cell_at (i := 4) hob rfl
      clear hrd hg0 htl hof hra hrdd ba hob hnl hnd ho
      by_cases hb5 : bd.size ≤ 5000
      · have d1 : decide ((5000 : Int) < (bd.size : Int)) = false := decide_eq_false (by omega)
        have d1' : decide (5000 < bd.size) = false := decide_eq_false (by omega)
        by_cases hl20 : nl ≤ 20
        · have d2 : decide ((20 : Int) < (nl : Int)) = false := decide_eq_false (by omega)
          have d2' : decide (20 < nl) = false := decide_eq_false (by omega)
          by_cases hd20 : ndd ≤ 20
          · have d3 : decide ((20 : Int) < (ndd : Int)) = false := decide_eq_false (by omega)
            have d3' : decide (20 < ndd) = false := decide_eq_false (by omega)
            have HBD := Lib.hid (show bd.size ≤ maxLen by unfold maxLen; omega)
            have HNL := Lib.hid (show nl ≤ 1000 by omega); have HND := Lib.hid (show ndd ≤ 1000 by omega)
            go_wp2_with fail
            rw [← hU]
            clear hU
            refine (place_any kd 4 _ (by omega) (by omega) (bounds_i64 HOF.out.kind)).mono ?_
            rintro e w3 ⟨rfl, rfl⟩
            obtain ⟨r, hr⟩ : ∃ r, kd % 4 = r := ⟨_, rfl⟩
            rw [hr]
            clear c0 c2 c3 c4 d1 d1' d2 d2' d3 d3' hb5 hl20 hd20 hr z0 z1 z2 z3 z4
            go_upto_block 2 with fail
            go_cut [7] from 52 to 88 (fun s7 wx => s7 = .bool true ∧ ∃ wy, wx = wy ∧ ∃ (F' G' : Nat → Prop) (S' : Fl), TwoN P w wy F' G' p q S' S' ∧ wy.heap[wr.heap.size]? = some (.cells #[.int .i64 kd, .int .i64 id, .string bd, .slice AL nl cL, .slice AD ndd cD] 33 (0, 0)))
            case first =>
              by_cases r2 : r = 2
              · have e2 : (r == 2) = true := by simpa using r2
                obtain ⟨u, hu⟩ : ∃ u, hasF S id = u := ⟨_, rfl⟩
                have HU := Lib.hid hu
                have e9 : (u == u) = true := by simp
                clear hu r2
                go_wp2_with fail
                refine wp_region_held_drew (S := fun w' => w'.heap[wr.heap.size]? = some (.cells #[.int .i64 kd, .int .i64 id, .string bd, .slice AL nl cL, .slice AD ndd cD] 33 (0, 0))) (by kernel_rfl) ?_ (fun hHeld => ?_)
                · exact XB.out
                refine takesH [0, 1, 2, 3, 5, 6, 7, 8] ?_
                repeat
                  refine takesH_one (v := ?_) ?_ ?_
                  rotate_left
                  · first | (refine Or.inr ⟨by rfl, ?_⟩; with_reducible rfl) | (refine Or.inl ⟨by rfl, ?_⟩; intro wx hSw; (try dsimp only at hSw); first | (go_simp; first | done | with_reducible rfl) | (have _c1 := cell_at (i := 1) hSw rfl; go_simp; first | done | with_reducible rfl))
                  try simp only [Act.put, List.getElem_toArray, List.getElem_cons_succ, List.getElem_cons_zero, List.setIfInBounds_toArray, List.set_cons_zero, List.set_cons_succ]
                refine takesH_nil ?_
                refine wpAnyH_ready (rs := [4]) (by kernel_rfl) (by simp) (AllReadyH.cons rfl (fun K hK => ?_) AllReadyH.nil)
                go_simp
                refine (D.drop F p S id U.drew (T2.out.drew D).s (T2.out.drew D).sin (T2.out.drew D).r.ok HOF.out.id).mono ?_
                rintro e' v4 ⟨rfl, F4, hp4, st4⟩
                have T4 := Lib.hid ((T2.out.drew D).turnS hp4 st4)
                have X4 := Lib.hid ((st4.kept.block _ (by exact HUL.out) (fun hf => by have := T1.out.sin _ hf; omega)).trans XB.out)
                have N4 := Lib.hid (show wr.heap.size < v4.heap.size from Nat.lt_of_lt_of_le HUL.out st4.kept.size)
                have NF4 := Lib.hid (show ¬ F4 wr.heap.size from fun hf => (st4.new _ hf).elim (fun h => by have := T1.out.sin _ h; omega) (fun h => by have := h.1; have := HUL.out; have e : U.drew.heap.size = U.heap.size := rfl; omega))
                rw [HU.out]
                clear hp4 st4
                try go_wp2_with fail
                refine hK.out _ _ ?_ (fun hHeld => ?_)
                · first | exact X5.out | exact X4.out
                clear hK K
                try simp only [Act.put, List.getElem_toArray, List.getElem_cons_succ, List.getElem_cons_zero, List.setIfInBounds_toArray, List.set_cons_zero, List.set_cons_succ]
                refine wpAnyH_ready (rs := [9]) (by kernel_rfl) (by simp) (AllReadyH.cons rfl (fun K hK => ?_) AllReadyH.nil)
                go_simp
                refine (ndrop_any G q S id v4 T4.out.r HOF.out.id).mono ?_
                rintro e' v5 ⟨rfl, G5, hp5, st5⟩
                have T5 := Lib.hid (T4.out.turnR D hp5 st5)
                have X5 := Lib.hid ((st5.kept.block _ N4.out (fun hf => by have := T1.out.rin _ hf; omega)).trans X4.out)
                have NG5 := Lib.hid (show ¬ G5 wr.heap.size from fun hf => (st5.new _ hf).elim (fun h => by have := T1.out.rin _ h; omega) (fun h => by have := h.1; have := N4.out; omega))
                rw [HU.out]
                clear hp5 st5
                try go_wp2_with fail
                refine hK.out _ _ ?_ (fun hHeld => ?_)
                · first | exact X5.out | exact X4.out
                clear hK K
                try simp only [Act.put, List.getElem_toArray, List.getElem_cons_succ, List.getElem_cons_zero, List.setIfInBounds_toArray, List.set_cons_zero, List.set_cons_succ]
                refine takesH [10, 11] ?_
                repeat
                  refine takesH_one (v := ?_) ?_ ?_
                  rotate_left
                  · first | (refine Or.inr ⟨by rfl, ?_⟩; with_reducible rfl) | (refine Or.inl ⟨by rfl, ?_⟩; intro wx hSw; (try dsimp only at hSw); first | (go_simp; first | done | with_reducible rfl))
                  try simp only [Act.put, List.getElem_toArray, List.getElem_cons_succ, List.getElem_cons_zero, List.setIfInBounds_toArray, List.set_cons_zero, List.set_cons_succ]
                refine takesH_nil ?_
                refine wpAnyH_done (by kernel_rfl) ?_ _
                clear hHeld
                go_wp2
                go_meet
                exact ⟨rfl, v5, rfl, F4, G5, _, T5.out, X5.out⟩
              · have e2 : (r == 2) = false := by simpa using r2
                by_cases r3 : r = 3
                · have e3 : (r == 3) = true := by simpa using r3
                  obtain ⟨u, hu⟩ : ∃ u, fitN (dropsN S DD) LL = u := ⟨_, rfl⟩
                  have HU := Lib.hid hu
                  have e9 : (u == u) = true := by simp
                  clear hu r2 r3
                  go_wp2_with fail
                  refine wp_region_held_drew (S := fun w' => w'.heap[wr.heap.size]? = some (.cells #[.int .i64 kd, .int .i64 id, .string bd, .slice AL nl cL, .slice AD ndd cD] 33 (0, 0))) (by kernel_rfl) ?_ (fun hHeld => ?_)
                  · exact XB.out
                  refine takesH [0, 1, 2, 3, 4, 6, 7, 8, 9, 10] ?_
                  repeat
                    refine takesH_one (v := ?_) ?_ ?_
                    rotate_left
                    · first | (refine Or.inr ⟨by rfl, ?_⟩; with_reducible rfl) | (refine Or.inl ⟨by rfl, ?_⟩; intro wx hSw; (try dsimp only at hSw); first | (go_simp; first | done | with_reducible rfl) | ((have _c3 := cell_at (i := 3) hSw rfl; have _c4 := cell_at (i := 4) hSw rfl); go_simp; first | done | with_reducible rfl))
                    try simp only [Act.put, List.getElem_toArray, List.getElem_cons_succ, List.getElem_cons_zero, List.setIfInBounds_toArray, List.set_cons_zero, List.set_cons_succ]
                  refine takesH_nil ?_
                  refine wpAnyH_ready (rs := [5]) (by kernel_rfl) (by simp) (AllReadyH.cons rfl (fun K hK => ?_) AllReadyH.nil)
                  go_simp
                  have hla := (HLA.out.below (T2.out.drew D).below)
                  have hld := (HLD.out.below' (T2.out.drew D).below)
                  refine (D.fits F p S AL AD nl cL ndd cD w.heap.size LL DD U.drew (T2.out.drew D).s (T2.out.drew D).sin (T2.out.drew D).r.ok hla hld (T2.out.drew D).below.size HWL.out HOF.out.drops HNL.out HND.out HCL.out HCD.out).mono ?_
                  rintro e' v4 ⟨rfl, b4⟩
                  have T4 := Lib.hid ((T2.out.drew D).read D b4)
                  have X4 := Lib.hid ((b4.block _ (by exact HUL.out)).trans XB.out)
                  have N4 := Lib.hid (show wr.heap.size < v4.heap.size from Nat.lt_of_lt_of_le HUL.out b4.size)
                  rw [HU.out]
                  clear b4 hla hld
                  try go_wp2_with fail
                  refine hK.out _ _ ?_ (fun hHeld => ?_)
                  · first | exact X5.out | exact X4.out
                  clear hK K
                  try simp only [Act.put, List.getElem_toArray, List.getElem_cons_succ, List.getElem_cons_zero, List.setIfInBounds_toArray, List.set_cons_zero, List.set_cons_succ]
                  refine wpAnyH_ready (rs := [11]) (by kernel_rfl) (by simp) (AllReadyH.cons rfl (fun K hK => ?_) AllReadyH.nil)
                  go_simp
                  have hla := (HLA.out.below T4.out.below)
                  have hld := (HLD.out.below' T4.out.below)
                  refine (nfits_any G q S AL AD nl cL ndd cD w.heap.size LL DD v4 T4.out.r hla hld T4.out.below.size HWL.out HOF.out.drops HNL.out HND.out).mono ?_
                  rintro e' v5 ⟨rfl, b5⟩
                  have T5 := Lib.hid (T4.out.read D b5)
                  have X5 := Lib.hid ((b5.block _ N4.out).trans X4.out)
                  rw [HU.out]
                  clear b5 hla hld
                  try go_wp2_with fail
                  refine hK.out _ _ ?_ (fun hHeld => ?_)
                  · first | exact X5.out | exact X4.out
                  clear hK K
                  try simp only [Act.put, List.getElem_toArray, List.getElem_cons_succ, List.getElem_cons_zero, List.setIfInBounds_toArray, List.set_cons_zero, List.set_cons_succ]
                  refine takesH [12, 13] ?_
                  repeat
                    refine takesH_one (v := ?_) ?_ ?_
                    rotate_left
                    · first | (refine Or.inr ⟨by rfl, ?_⟩; with_reducible rfl) | (refine Or.inl ⟨by rfl, ?_⟩; intro wx hSw; (try dsimp only at hSw); first | (go_simp; first | done | with_reducible rfl))
                    try simp only [Act.put, List.getElem_toArray, List.getElem_cons_succ, List.getElem_cons_zero, List.setIfInBounds_toArray, List.set_cons_zero, List.set_cons_succ]
                  refine takesH_nil ?_
                  refine wpAnyH_done (by kernel_rfl) ?_ _
                  clear hHeld
                  go_wp2
                  go_meet
                  exact ⟨rfl, v5, rfl, F, G, _, T5.out, X5.out⟩
                · have e3 : (r == 3) = false := by simpa using r3
                  obtain ⟨u, hu⟩ : ∃ u, (addN S id bd).2 = u := ⟨_, rfl⟩
                  have HU := Lib.hid hu
                  have e9 : (u == u) = true := by simp
                  clear hu r2 r3
                  go_wp2_with fail
                  refine wp_region_held_drew (S := fun w' => w'.heap[wr.heap.size]? = some (.cells #[.int .i64 kd, .int .i64 id, .string bd, .slice AL nl cL, .slice AD ndd cD] 33 (0, 0))) (by kernel_rfl) ?_ (fun hHeld => ?_)
                  · exact XB.out
                  refine takesH [0, 1, 2, 4, 5, 6] ?_
                  repeat
                    refine takesH_one (v := ?_) ?_ ?_
                    rotate_left
                    · first | (refine Or.inr ⟨by rfl, ?_⟩; with_reducible rfl) | (refine Or.inl ⟨by rfl, ?_⟩; intro wx hSw; (try dsimp only at hSw); first | (go_simp; first | done | with_reducible rfl) | ((have _c1 := cell_at (i := 1) hSw rfl; have _c2 := cell_at (i := 2) hSw rfl); go_simp; first | done | with_reducible rfl))
                    try simp only [Act.put, List.getElem_toArray, List.getElem_cons_succ, List.getElem_cons_zero, List.setIfInBounds_toArray, List.set_cons_zero, List.set_cons_succ]
                  refine takesH_nil ?_
                  refine wpAnyH_ready (rs := [3]) (by kernel_rfl) (by simp) (AllReadyH.cons rfl (fun K hK => ?_) AllReadyH.nil)
                  go_simp
                  refine (D.add F p S id bd U.drew (T2.out.drew D).s (T2.out.drew D).sin (T2.out.drew D).r.ok HOF.out.id HBD.out).mono ?_
                  rintro e' v4 ⟨rfl, F4, hp4, st4⟩
                  have T4 := Lib.hid ((T2.out.drew D).turnS hp4 st4)
                  have X4 := Lib.hid ((st4.kept.block _ (by exact HUL.out) (fun hf => by have := T1.out.sin _ hf; omega)).trans XB.out)
                  have N4 := Lib.hid (show wr.heap.size < v4.heap.size from Nat.lt_of_lt_of_le HUL.out st4.kept.size)
                  have NF4 := Lib.hid (show ¬ F4 wr.heap.size from fun hf => (st4.new _ hf).elim (fun h => by have := T1.out.sin _ h; omega) (fun h => by have := h.1; have := HUL.out; have e : U.drew.heap.size = U.heap.size := rfl; omega))
                  rw [HU.out]
                  clear hp4 st4
                  try go_wp2_with fail
                  refine hK.out _ _ ?_ (fun hHeld => ?_)
                  · first | exact X5.out | exact X4.out
                  clear hK K
                  try simp only [Act.put, List.getElem_toArray, List.getElem_cons_succ, List.getElem_cons_zero, List.setIfInBounds_toArray, List.set_cons_zero, List.set_cons_succ]
                  refine wpAnyH_ready (rs := [7]) (by kernel_rfl) (by simp) (AllReadyH.cons rfl (fun K hK => ?_) AllReadyH.nil)
                  go_simp
                  refine (nadd_any G q S id bd v4 T4.out.r HOF.out.id HBD.out).mono ?_
                  rintro e' v5 ⟨rfl, G5, hp5, st5⟩
                  have T5 := Lib.hid (T4.out.turnR D hp5 st5)
                  have X5 := Lib.hid ((st5.kept.block _ N4.out (fun hf => by have := T1.out.rin _ hf; omega)).trans X4.out)
                  have NG5 := Lib.hid (show ¬ G5 wr.heap.size from fun hf => (st5.new _ hf).elim (fun h => by have := T1.out.rin _ h; omega) (fun h => by have := h.1; have := N4.out; omega))
                  rw [HU.out]
                  clear hp5 st5
                  try go_wp2_with fail
                  refine hK.out _ _ ?_ (fun hHeld => ?_)
                  · first | exact X5.out | exact X4.out
                  clear hK K
                  try simp only [Act.put, List.getElem_toArray, List.getElem_cons_succ, List.getElem_cons_zero, List.setIfInBounds_toArray, List.set_cons_zero, List.set_cons_succ]
                  refine takesH [8, 9] ?_
                  repeat
                    refine takesH_one (v := ?_) ?_ ?_
                    rotate_left
                    · first | (refine Or.inr ⟨by rfl, ?_⟩; with_reducible rfl) | (refine Or.inl ⟨by rfl, ?_⟩; intro wx hSw; (try dsimp only at hSw); first | (go_simp; first | done | with_reducible rfl))
                    try simp only [Act.put, List.getElem_toArray, List.getElem_cons_succ, List.getElem_cons_zero, List.setIfInBounds_toArray, List.set_cons_zero, List.set_cons_succ]
                  refine takesH_nil ?_
                  refine wpAnyH_done (by kernel_rfl) ?_ _
                  clear hHeld
                  go_wp2
                  go_meet
                  exact ⟨rfl, v5, rfl, F4, G5, _, T5.out, X5.out⟩
            case rest =>
              obtain ⟨rfl, y1, rfl, F7, G7, S7, hT7, hX7⟩ := hcut
              have T7 := Lib.hid hT7
              have X7 := Lib.hid hX7
              have k1 := cell_at (i := 1) hX7 rfl
              clear hT7 hX7
              go_wp2_with fail
              refine (D.get F7 p S7 id _ T7.out.s T7.out.sin T7.out.r.ok HOF.out.id).mono ?_
              rintro e y2 ⟨rfl, by2⟩
              have T8 := Lib.hid (T7.out.read D by2)
              have hX8 := (by2.block _ (Array.getElem?_eq_some_iff.1 X7.out).1).trans X7.out
              have X8 := Lib.hid hX8
              obtain ⟨s9, hs9⟩ : ∃ s9, getF S7 id = s9 := ⟨_, rfl⟩
              obtain ⟨u9, hu9⟩ : ∃ u9, hasF S7 id = u9 := ⟨_, rfl⟩
              rw [hs9, hu9]
              have HS9 := Lib.hid hs9; have HU9 := Lib.hid hu9
              clear k1 by2 hX8 hs9 hu9
              have k1 := cell_at (i := 1) X8.out rfl
              go_wp2_with fail
              refine (nget_any G7 q S7 id _ T8.out.r HOF.out.id).mono ?_
              rintro e v9 ⟨rfl, by3⟩
              rw [HS9.out, HU9.out]
              have T9 := Lib.hid (T8.out.read D by3)
              obtain ⟨v7, hv7⟩ := T9.out.r
              have HQ7 : Hid (v9.cell? ⟨q, 0, none⟩ = some v7) := Lib.hid (cell_at (i := 0) hv7.1 rfl)
              have HGQ := Lib.hid hv7.2.2.1
              have e5 : (s9.toList != s9.toList) = false := by simp
              have e6 : (s9.toList == s9.toList) = true := by simp
              have e7 : (u9 != u9) = false := by simp
              have e8 : (u9 == u9) = true := by simp
              clear k1 by3 hv7
              go_wp2_with fail
              refine wp_region_held_drew (S := fun w' => w'.cell? ⟨q, 0, none⟩ = some v7) (by kernel_rfl) ?_ (fun hHeld => ?_)
              · exact HQ7.out
              refine takesH [0, 1, 2, 3, 4, 5, 6, 7, 8, 9, 10, 11, 12, 13, 15, 16, 17, 18] ?_
              repeat
                refine takesH_one (v := ?_) ?_ ?_
                rotate_left
                · first | (refine Or.inr ⟨by rfl, ?_⟩; with_reducible rfl) | (refine Or.inl ⟨by rfl, ?_⟩; intro wx hSw; (try dsimp only at hSw); first | (go_simp; first | done | with_reducible rfl))
                try simp only [Act.put, List.getElem_toArray, List.getElem_cons_succ, List.getElem_cons_zero, List.setIfInBounds_toArray, List.set_cons_zero, List.set_cons_succ]
              refine takesH_nil ?_
              refine wpAnyH_ready (rs := [14]) (by kernel_rfl) (by simp) (AllReadyH.cons rfl (fun K hK => ?_) AllReadyH.nil)
              go_simp
              refine (D.all F7 p S7 v9.drew (T9.out.drew D).s (T9.out.drew D).sin (T9.out.drew D).r.ok).mono ?_
              rintro e' va ⟨Aa, na, ca, rfl, hra, hnca, ba⟩
              have TA := Lib.hid ((T9.out.drew D).read D ba)
              have RA := Lib.hid hra
              have HQA := Lib.hid ((ba.cell (p := ⟨q, 0, none⟩) (show q < v9.drew.heap.size from T9.out.rin q HGQ.out)).trans HQ7.out)
              clear hra ba hnca
              try go_wp2_with fail
              refine hK.out _ _ ?_ (fun hHeld => ?_)
              · first | exact HQB.out | exact HQA.out
              clear hK K
              try simp only [Act.put, List.getElem_toArray, List.getElem_cons_succ, List.getElem_cons_zero, List.setIfInBounds_toArray, List.set_cons_zero, List.set_cons_succ]
              refine wpAnyH_ready (rs := [19]) (by kernel_rfl) (by simp) (AllReadyH.cons rfl (fun K hK => ?_) AllReadyH.nil)
              go_simp
              obtain ⟨vv, hvv⟩ := TA.out.r
              have hvq : va.cell? ⟨q, 0, none⟩ = some vv := cell_at (i := 0) hvv.1 rfl
              rw [HQA.out] at hvq
              injection hvq with hvq
              obtain ⟨Ar, cr, her, _⟩ := own_slice hvv.2.1
              have hrr := hvv.2.1
              rw [her] at hrr
              have hrd := RdT.of_own hrr
              have hna := RA.out.1
              rw [hvq, her]
              subst hna
              refine (same_notesT Aa Ar S7.length ca cr _ _ S7 va RA.out hrd (Nat.le_refl _) (Nat.le_refl _) (by have := hvv.ok.len; omega)).mono ?_
              rintro e' vb ⟨rfl, bb⟩
              have TB := Lib.hid (TA.out.read D bb)
              have HQB := Lib.hid ((bb.cell (p := ⟨q, 0, none⟩) (TA.out.rin q HGQ.out)).trans HQA.out)
              clear bb
              try go_wp2_with fail
              refine hK.out _ _ ?_ (fun hHeld => ?_)
              · first | exact HQB.out | exact HQA.out
              clear hK K
              try simp only [Act.put, List.getElem_toArray, List.getElem_cons_succ, List.getElem_cons_zero, List.setIfInBounds_toArray, List.set_cons_zero, List.set_cons_succ]
              refine takesH [20, 21] ?_
              repeat
                refine takesH_one (v := ?_) ?_ ?_
                rotate_left
                · first | (refine Or.inr ⟨by rfl, ?_⟩; with_reducible rfl) | (refine Or.inl ⟨by rfl, ?_⟩; intro wx hSw; (try dsimp only at hSw); first | (go_simp; first | done | with_reducible rfl))
                try simp only [Act.put, List.getElem_toArray, List.getElem_cons_succ, List.getElem_cons_zero, List.setIfInBounds_toArray, List.set_cons_zero, List.set_cons_succ]
              refine takesH_nil ?_
              refine wpAnyH_done (by kernel_rfl) ?_ _
              clear hHeld
              go_wp2
              go_roundw
              case rel => exact ⟨t + 1, F7, G7, S7, by omega, by go_num, TB.out⟩
              case measure => simp [intOf]; omega
          · have d3 : decide ((20 : Int) < (ndd : Int)) = true := decide_eq_true (by omega)
            have d3' : decide (20 < ndd) = true := decide_eq_true (by omega)
            clear hd20 hl20 hb5
            go_wp2_with fail
            rw [← hU]
            clear hU
            refine (awake11 D U).mono ?_
            rintro e w9 ⟨rfl, b9⟩
            have B9 := Lib.hid (T2.out.below.trans (b9.mono T2.out.below.size))
            clear b9
            go_wp2
            go_ret
            exact ⟨rfl, B9.out⟩
        · have d2 : decide ((20 : Int) < (nl : Int)) = true := decide_eq_true (by omega)
          have d2' : decide (20 < nl) = true := decide_eq_true (by omega)
          clear hl20 hb5
          go_wp2_with fail
          rw [← hU]
          clear hU
          refine (awake11 D U).mono ?_
          rintro e w9 ⟨rfl, b9⟩
          have B9 := Lib.hid (T2.out.below.trans (b9.mono T2.out.below.size))
          clear b9
          go_wp2
          go_ret
          exact ⟨rfl, B9.out⟩
      · have d1 : decide ((5000 : Int) < (bd.size : Int)) = true := decide_eq_true (by omega)
        have d1' : decide (5000 < bd.size) = true := decide_eq_true (by omega)
        clear hb5
        go_wp2_with fail
        rw [← hU]
        clear hU
        refine (awake11 D U).mono ?_
        rintro e w9 ⟨rfl, b9⟩
        have B9 := Lib.hid (T2.out.below.trans (b9.mono T2.out.below.size))
        clear b9
        go_wp2
        go_ret
        exact ⟨rfl, B9.out⟩
    · by_cases h1 : t < n
      · have h2 : ¬ t < 60 := fun h => hgo ⟨h1, h⟩
        have i1 : decide ((t : Int) < (n : Int)) = true := decide_eq_true (by omega)
        have i2 : decide ((t : Int) < 60) = false := decide_eq_false (by omega)
        have i3 : decide (t < n) = true := decide_eq_true h1
        have i4 : decide (t < 60) = false := decide_eq_false h2
        clear hgo h1 h2 ht
        go_wp2_with fail
        refine (awake11 D wr).mono ?_
        rintro e w9 ⟨rfl, b9⟩
        have B9 := Lib.hid (T1.out.below.trans (b9.mono T1.out.below.size))
        clear b9
        go_wp2
        go_ret
        exact ⟨rfl, B9.out⟩
      · have i1 : decide ((t : Int) < (n : Int)) = false := decide_eq_false (by omega)
        have i3 : decide (t < n) = false := decide_eq_false h1
        clear hgo h1 ht
        go_wp2_with fail
        refine (awake11 D wr).mono ?_
        rintro e w9 ⟨rfl, b9⟩
        have B9 := Lib.hid (T1.out.below.trans (b9.mono T1.out.below.size))
        clear b9
        go_wp2
        go_ret
        exact ⟨rfl, B9.out⟩
end Go.Proofs.Ytfldlkdnjkaidaa
