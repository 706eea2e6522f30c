/-
  The developers' Check of rows: cols, Check.
-/
import Derived.Test.YthfanonjokpflaaGreatTkl
import Derived.Test.YthfanonjokpflaaGreatRw3
import Derived.Test.YthfanonjokpflaaGreatCe5
set_option linter.unusedVariables false
set_option linter.unusedSimpArgs false
namespace Go.Proofs.YthfanonjokpflaaGreat
open Go Go.RowKit

def Few (l : Cols) : Prop := ∀ x ∈ l, x.1.size ≤ 1099511627776 ∧ x.2.s.size ≤ maxLen
set_option maxHeartbeats 4000000 in
theorem cols_any (A : Option Addr) (n c B : Nat) (l : Cols) (w : World) (h : RdK w B A n l) (hB : B ≤ w.heap.size) (hn : n ≤ 1000000000000) (hf : Few l) :
    Calls Tryz.prog 110 #[.slice A n c] w fun x w' => x = .returned (.bool (decide (l.length ≤ 8) && colsB l)) ∧ Below w.heap.size w w' := by
  have hl := h.1
  obtain ⟨r, hr⟩ : ∃ r, (decide (l.length ≤ 8) && colsB l) = r := ⟨_, rfl⟩
  rw [hr]
  rw [hl] at hr
  by_cases h8 : n ≤ 8
  · have d0 : decide ((8 : Int) < (n : Nat)) = false := by simp; omega
    rw [decide_eq_true h8, Bool.true_and] at hr
    have HL := Lib.hid hl; have HR := Lib.hid hr; have HH := Lib.hid h; have HF := Lib.hid hf
    clear hl hr h hf
    go_enter Tryz.func110, Tryz.ntmps110
    go_wp2
    go_loopw [10] (fun i wr => ∃ t : Nat, t ≤ n ∧ i = .int .i64 t ∧ (List.range t).all (goodAt l) = true ∧ Below w.heap.size w wr) (fun i _ => n - (intOf i).toNat)
    case atStart => exact ⟨0, Nat.zero_le _, rfl, rfl, Below.refl _ _⟩
    case round =>
      obtain ⟨t, ht, rfl, hg, hb⟩ := hrel
      have HG := Lib.hid hg; have HB := Lib.hid hb
      clear hg hb
      by_cases hlt : t < n
      · have i1 : (t : Int) < n := by omega
        have i0 : (0 : Int) ≤ t := by omega
        have htl : t < l.length := by rw [HL.out]; exact hlt
        obtain ⟨g0, o0, rfl, hgB, hc⟩ := (HH.out.below (HB.out.mono hB)).2 (by omega)
        obtain ⟨e0, e1, e2, e3, e4⟩ := hc t htl
        have hgw : g0 < wr.heap.size := by have := HB.out.size; omega
        obtain ⟨⟨m, ⟨cs, cd, ca, ce⟩⟩, hx⟩ : ∃ x, l[t] = x := ⟨_, rfl⟩
        have hfm := HF.out l[t] (List.getElem_mem htl)
        rw [hx] at e0 e1 e2 e3 e4 hfm
        simp only at e0 e1 e2 e3 e4 hfm
        obtain ⟨u1, hu1⟩ : ∃ u, colB (m, ⟨cs, cd, ca, ce⟩) = u := ⟨_, rfl⟩
        have U1 := Lib.hid hu1; have FM := Lib.hid hfm; have HX := Lib.hid hx
        have hz := heap_alloc_new wr (.cells #[.string m, .string cs, .bool cd, .int .i64 ca, .int .i64 ce] 99)
        have ha := (Below.refl wr.heap.size wr).alloc (Nat.le_refl _) (.cells #[.string m, .string cs, .bool cd, .int .i64 ca, .int .i64 ce] 99)
        have hbu := HB.out.trans (ha.mono HB.out.size)
        have hcu := fun j (hj : j < l.length) => (ha.cell (p := ⟨g0, _, none⟩) hgw).trans (hc j hj).1
        have HC := Lib.hid hc
        clear hu1 hfm hx hc
        by_cases hz0 : t = 0
        · have hga : goodAt l t = u1 := by
            subst hz0
            rw [good_zero htl, HX.out, U1.out]
          have j1 : decide ((0 : Int) < (t : Int)) = false := by simp; omega
          have j2 : decide (0 < t) = false := by simp; omega
          clear hz0
          have HGA := Lib.hid hga
          clear hga
          go_wp2_with fail
          obtain ⟨U, hU⟩ : ∃ U, U = wr.alloc (.cells #[.string m, .string cs, .bool cd, .int .i64 ca, .int .i64 ce] 99) := ⟨_, rfl⟩
          have hUs : U.heap.size = wr.heap.size + 1 := by rw [hU]; simp
          rw [← hU] at hz hbu hcu ⊢
          have hall : ∀ w', Below U.heap.size U w' → (w'.cell? ⟨wr.heap.size, 0, none⟩ = some (.string m) ∧ w'.cell? ⟨wr.heap.size, 0 + 1, none⟩ = some (.string cs) ∧ w'.cell? ⟨wr.heap.size, 0 + 2, none⟩ = some (.bool cd) ∧ w'.cell? ⟨wr.heap.size, 0 + 3, none⟩ = some (.int .i64 ca) ∧ w'.cell? ⟨wr.heap.size, 0 + 4, none⟩ = some (.int .i64 ce)) ∧ True := fun w' hb => by
            have hq := (hb.block wr.heap.size (by omega)).trans hz
            exact ⟨⟨cell_at hq rfl, cell_at hq rfl, cell_at hq rfl, cell_at hq rfl, cell_at hq rfl⟩, trivial⟩
          have HALL := Lib.hid hall; have HBU := Lib.hid hbu
          clear hall hz hU ha hbu hcu e0 e1 e2 e3 e4
          cases u1
          · refine wp_region_held_drew (S := fun w' => Below U.heap.size U w') (by kernel_rfl) ?_ (fun hHeld => ?_)
            · exact (Below.refl _ _).drew
            refine takesH [0] ?_
            repeat
              refine takesH_one (v := ?_) ?_ ?_
              rotate_left
              · first | (refine Or.inr ⟨by rfl, ?_⟩; with_reducible rfl) | (refine Or.inl ⟨by rfl, ?_⟩; intro wx hSw; (try dsimp only at hSw); first | (go_simp; first | done | with_reducible rfl) | (obtain ⟨⟨_, _, _, _, _⟩, _⟩ := HALL.out _ hSw; go_simp; first | done | with_reducible rfl))
              try simp only [Act.put, List.getElem_toArray, List.getElem_cons_succ, List.getElem_cons_zero, List.setIfInBounds_toArray, List.set_cons_zero, List.set_cons_succ]
            refine takesH_nil ?_
            refine wpAnyH_ready (rs := [1]) (by kernel_rfl) (by simp) (AllReadyH.cons rfl (fun K hK => ?_) AllReadyH.nil)
            go_simp
            refine (col_any _ _ _ _ _ _ FM.out.1 FM.out.2).mono ?_
            rintro x v1 ⟨rfl, b1⟩
            rw [U1.out]
            try go_wp2_with fail
            refine hK.out _ _ ?_ (fun hHeld => ?_)
            · exact next (by assumption) b1
            clear hK K
            try simp only [Act.put, List.getElem_toArray, List.getElem_cons_succ, List.getElem_cons_zero, List.setIfInBounds_toArray, List.set_cons_zero, List.set_cons_succ]
            refine takesH [2, 3, 4, 5, 6, 7, 8, 9, 10, 11, 12, 13, 14, 15, 16, 17] ?_
            repeat
              refine takesH_one (v := ?_) ?_ ?_
              rotate_left
              · first | (refine Or.inr ⟨by rfl, ?_⟩; with_reducible rfl) | (refine Or.inl ⟨by rfl, ?_⟩; intro wx hSw; (try dsimp only at hSw); first | (go_simp; first | done | with_reducible rfl))
              try simp only [Act.put, List.getElem_toArray, List.getElem_cons_succ, List.getElem_cons_zero, List.setIfInBounds_toArray, List.set_cons_zero, List.set_cons_succ]
            refine takesH_nil ?_
            refine wpAnyH_done (by kernel_rfl) ?_ _
            have hv : r = false := by rw [← HR.out]; exact goods_no htl HGA.out
            subst hv
            go_wp2
            go_ret
            exact ⟨rfl, next HBU.out hHeld⟩
          · refine wp_region_held_drew (S := fun w' => Below U.heap.size U w') (by kernel_rfl) ?_ (fun hHeld => ?_)
            · exact (Below.refl _ _).drew
            refine takesH [0] ?_
            repeat
              refine takesH_one (v := ?_) ?_ ?_
              rotate_left
              · first | (refine Or.inr ⟨by rfl, ?_⟩; with_reducible rfl) | (refine Or.inl ⟨by rfl, ?_⟩; intro wx hSw; (try dsimp only at hSw); first | (go_simp; first | done | with_reducible rfl) | (obtain ⟨⟨_, _, _, _, _⟩, _⟩ := HALL.out _ hSw; go_simp; first | done | with_reducible rfl))
              try simp only [Act.put, List.getElem_toArray, List.getElem_cons_succ, List.getElem_cons_zero, List.setIfInBounds_toArray, List.set_cons_zero, List.set_cons_succ]
            refine takesH_nil ?_
            refine wpAnyH_ready (rs := [1]) (by kernel_rfl) (by simp) (AllReadyH.cons rfl (fun K hK => ?_) AllReadyH.nil)
            go_simp
            refine (col_any _ _ _ _ _ _ FM.out.1 FM.out.2).mono ?_
            rintro x v1 ⟨rfl, b1⟩
            rw [U1.out]
            try go_wp2_with fail
            refine hK.out _ _ ?_ (fun hHeld => ?_)
            · exact next (by assumption) b1
            clear hK K
            try simp only [Act.put, List.getElem_toArray, List.getElem_cons_succ, List.getElem_cons_zero, List.setIfInBounds_toArray, List.set_cons_zero, List.set_cons_succ]
            refine takesH [2, 3, 4, 5, 6, 7, 8, 9, 10, 11, 12, 13, 14, 15, 16, 17] ?_
            repeat
              refine takesH_one (v := ?_) ?_ ?_
              rotate_left
              · first | (refine Or.inr ⟨by rfl, ?_⟩; with_reducible rfl) | (refine Or.inl ⟨by rfl, ?_⟩; intro wx hSw; (try dsimp only at hSw); first | (go_simp; first | done | with_reducible rfl))
              try simp only [Act.put, List.getElem_toArray, List.getElem_cons_succ, List.getElem_cons_zero, List.setIfInBounds_toArray, List.set_cons_zero, List.set_cons_succ]
            refine takesH_nil ?_
            refine wpAnyH_done (by kernel_rfl) ?_ _
            go_wp2
            go_roundw
            case rel => exact ⟨t + 1, by omega, by go_num, goods_step HG.out HGA.out, next HBU.out hHeld⟩
            case measure => simp [intOf]; omega
        · obtain ⟨u, hu⟩ : ∃ u, u + 1 = t := ⟨t - 1, by omega⟩
          have hul : u < l.length := by omega
          have hsub : IntKind.i64.wrap ((t : Int) - 1) = (u : Int) := by rw [IntKind.wrap_i64]; omega
          have j1 : (u : Int) < n := by omega
          have j0 : (0 : Int) ≤ u := by omega
          have j2 : decide ((0 : Int) < (t : Int)) = true := by simp; omega
          have j3 : decide (0 < t) = true := by simp; omega
          have j4 : (0 : Int) < (t : Int) := by omega
          have j5 : 0 < t := by omega
          obtain ⟨⟨pm, pc⟩, hy⟩ : ∃ y, l[u] = y := ⟨_, rfl⟩
          have hcu2 := hcu u hul
          rw [hy] at hcu2
          simp only at hcu2
          have hga : goodAt l t = (u1 && decide (nlt pm m)) := by
            subst hu
            rw [good_succ htl, HX.out, hy, U1.out]
          have HGA := Lib.hid hga; have HY := Lib.hid hy
          clear hga hy hcu
          go_wp2_with fail
          obtain ⟨U, hU⟩ : ∃ U, U = wr.alloc (.cells #[.string m, .string cs, .bool cd, .int .i64 ca, .int .i64 ce] 99) := ⟨_, rfl⟩
          have hUs : U.heap.size = wr.heap.size + 1 := by rw [hU]; simp
          rw [← hU] at hz hbu hcu2 ⊢
          have hall : ∀ w', Below U.heap.size U w' → (w'.cell? ⟨wr.heap.size, 0, none⟩ = some (.string m) ∧ w'.cell? ⟨wr.heap.size, 0 + 1, none⟩ = some (.string cs) ∧ w'.cell? ⟨wr.heap.size, 0 + 2, none⟩ = some (.bool cd) ∧ w'.cell? ⟨wr.heap.size, 0 + 3, none⟩ = some (.int .i64 ca) ∧ w'.cell? ⟨wr.heap.size, 0 + 4, none⟩ = some (.int .i64 ce)) ∧ w'.cell? ⟨g0, o0 + u * 5, none⟩ = some (.string pm) := fun w' hb => by
            have hq := (hb.block wr.heap.size (by omega)).trans hz
            exact ⟨⟨cell_at hq rfl, cell_at hq rfl, cell_at hq rfl, cell_at hq rfl, cell_at hq rfl⟩, (hb.cell (p := ⟨g0, _, none⟩) (show g0 < U.heap.size by omega)).trans hcu2⟩
          have HALL := Lib.hid hall; have HBU := Lib.hid hbu; have HU := Lib.hid hu
          clear hall hz hU ha hbu hcu2 hu e0 e1 e2 e3 e4
          cases u1
          · refine wp_region_held_drew (S := fun w' => Below U.heap.size U w') (by kernel_rfl) ?_ (fun hHeld => ?_)
            · exact (Below.refl _ _).drew
            refine takesH [0] ?_
            repeat
              refine takesH_one (v := ?_) ?_ ?_
              rotate_left
              · first | (refine Or.inr ⟨by rfl, ?_⟩; with_reducible rfl) | (refine Or.inl ⟨by rfl, ?_⟩; intro wx hSw; (try dsimp only at hSw); first | (go_simp; first | done | with_reducible rfl) | (obtain ⟨⟨_, _, _, _, _⟩, _⟩ := HALL.out _ hSw; go_simp; first | done | with_reducible rfl))
              try simp only [Act.put, List.getElem_toArray, List.getElem_cons_succ, List.getElem_cons_zero, List.setIfInBounds_toArray, List.set_cons_zero, List.set_cons_succ]
            refine takesH_nil ?_
            refine wpAnyH_ready (rs := [1]) (by kernel_rfl) (by simp) (AllReadyH.cons rfl (fun K hK => ?_) AllReadyH.nil)
            go_simp
            refine (col_any _ _ _ _ _ _ FM.out.1 FM.out.2).mono ?_
            rintro x v1 ⟨rfl, b1⟩
            rw [U1.out]
            try go_wp2_with fail
            refine hK.out _ _ ?_ (fun hHeld => ?_)
            · exact next (by assumption) b1
            clear hK K
            try simp only [Act.put, List.getElem_toArray, List.getElem_cons_succ, List.getElem_cons_zero, List.setIfInBounds_toArray, List.set_cons_zero, List.set_cons_succ]
            refine takesH [2, 3, 4, 5, 6, 7, 8, 9, 10, 11, 12, 13, 14, 15, 16, 17] ?_
            repeat
              refine takesH_one (v := ?_) ?_ ?_
              rotate_left
              · first | (refine Or.inr ⟨by rfl, ?_⟩; with_reducible rfl) | (refine Or.inl ⟨by rfl, ?_⟩; intro wx hSw; (try dsimp only at hSw); first | (go_simp; first | done | with_reducible rfl))
              try simp only [Act.put, List.getElem_toArray, List.getElem_cons_succ, List.getElem_cons_zero, List.setIfInBounds_toArray, List.set_cons_zero, List.set_cons_succ]
            refine takesH_nil ?_
            refine wpAnyH_done (by kernel_rfl) ?_ _
            have hv : r = false := by rw [← HR.out]; exact goods_no htl (by rw [HGA.out]; rfl)
            subst hv
            go_wp2
            go_ret
            exact ⟨rfl, next HBU.out hHeld⟩
          · by_cases hp : nlt pm m
            · have hb1 : Op.bytesLess pm.toList m.toList = true := blB_true hp
              have hga2 := HGA.out
              rw [decide_eq_true hp] at hga2
              have HG2 := Lib.hid hga2
              clear hga2
              refine wp_region_held_drew (S := fun w' => Below U.heap.size U w') (by kernel_rfl) ?_ (fun hHeld => ?_)
              · exact (Below.refl _ _).drew
              refine takesH [0] ?_
              repeat
                refine takesH_one (v := ?_) ?_ ?_
                rotate_left
                · first | (refine Or.inr ⟨by rfl, ?_⟩; with_reducible rfl) | (refine Or.inl ⟨by rfl, ?_⟩; intro wx hSw; (try dsimp only at hSw); first | (go_simp; first | done | with_reducible rfl) | (obtain ⟨⟨_, _, _, _, _⟩, _⟩ := HALL.out _ hSw; go_simp; first | done | with_reducible rfl))
                try simp only [Act.put, List.getElem_toArray, List.getElem_cons_succ, List.getElem_cons_zero, List.setIfInBounds_toArray, List.set_cons_zero, List.set_cons_succ]
              refine takesH_nil ?_
              refine wpAnyH_ready (rs := [1]) (by kernel_rfl) (by simp) (AllReadyH.cons rfl (fun K hK => ?_) AllReadyH.nil)
              go_simp
              refine (col_any _ _ _ _ _ _ FM.out.1 FM.out.2).mono ?_
              rintro x v1 ⟨rfl, b1⟩
              rw [U1.out]
              try go_wp2_with fail
              refine hK.out _ _ ?_ (fun hHeld => ?_)
              · exact next (by assumption) b1
              clear hK K
              try simp only [Act.put, List.getElem_toArray, List.getElem_cons_succ, List.getElem_cons_zero, List.setIfInBounds_toArray, List.set_cons_zero, List.set_cons_succ]
              refine takesH [2, 3, 4, 5, 6, 7, 8, 9, 10, 11, 12, 13, 14, 15, 16, 17] ?_
              repeat
                refine takesH_one (v := ?_) ?_ ?_
                rotate_left
                · first | (refine Or.inr ⟨by rfl, ?_⟩; with_reducible rfl) | (refine Or.inl ⟨by rfl, ?_⟩; intro wx hSw; (try dsimp only at hSw); first | (go_simp; first | done | with_reducible rfl) | (obtain ⟨⟨_, _, _, _, _⟩, _⟩ := HALL.out _ hSw; go_simp; first | done | with_reducible rfl))
                try simp only [Act.put, List.getElem_toArray, List.getElem_cons_succ, List.getElem_cons_zero, List.setIfInBounds_toArray, List.set_cons_zero, List.set_cons_succ]
              refine takesH_nil ?_
              refine wpAnyH_done (by kernel_rfl) ?_ _
              go_wp2
              go_roundw
              case rel => exact ⟨t + 1, by omega, by go_num, goods_step HG.out HG2.out, next HBU.out hHeld⟩
              case measure => simp [intOf]; omega
            · have hb1 : Op.bytesLess pm.toList m.toList = false := blB_false hp
              have hv : r = false := by rw [← HR.out]; exact goods_no htl (by rw [HGA.out, decide_eq_false hp]; rfl)
              subst hv
              refine wp_region_held_drew (S := fun w' => Below U.heap.size U w') (by kernel_rfl) ?_ (fun hHeld => ?_)
              · exact (Below.refl _ _).drew
              refine takesH [0] ?_
              repeat
                refine takesH_one (v := ?_) ?_ ?_
                rotate_left
                · first | (refine Or.inr ⟨by rfl, ?_⟩; with_reducible rfl) | (refine Or.inl ⟨by rfl, ?_⟩; intro wx hSw; (try dsimp only at hSw); first | (go_simp; first | done | with_reducible rfl) | (obtain ⟨⟨_, _, _, _, _⟩, _⟩ := HALL.out _ hSw; go_simp; first | done | with_reducible rfl))
                try simp only [Act.put, List.getElem_toArray, List.getElem_cons_succ, List.getElem_cons_zero, List.setIfInBounds_toArray, List.set_cons_zero, List.set_cons_succ]
              refine takesH_nil ?_
              refine wpAnyH_ready (rs := [1]) (by kernel_rfl) (by simp) (AllReadyH.cons rfl (fun K hK => ?_) AllReadyH.nil)
              go_simp
              refine (col_any _ _ _ _ _ _ FM.out.1 FM.out.2).mono ?_
              rintro x v1 ⟨rfl, b1⟩
              rw [U1.out]
              try go_wp2_with fail
              refine hK.out _ _ ?_ (fun hHeld => ?_)
              · exact next (by assumption) b1
              clear hK K
              try simp only [Act.put, List.getElem_toArray, List.getElem_cons_succ, List.getElem_cons_zero, List.setIfInBounds_toArray, List.set_cons_zero, List.set_cons_succ]
              refine takesH [2, 3, 4, 5, 6, 7, 8, 9, 10, 11, 12, 13, 14, 15, 16, 17] ?_
              repeat
                refine takesH_one (v := ?_) ?_ ?_
                rotate_left
                · first | (refine Or.inr ⟨by rfl, ?_⟩; with_reducible rfl) | (refine Or.inl ⟨by rfl, ?_⟩; intro wx hSw; (try dsimp only at hSw); first | (go_simp; first | done | with_reducible rfl) | (obtain ⟨⟨_, _, _, _, _⟩, _⟩ := HALL.out _ hSw; go_simp; first | done | with_reducible rfl))
                try simp only [Act.put, List.getElem_toArray, List.getElem_cons_succ, List.getElem_cons_zero, List.setIfInBounds_toArray, List.set_cons_zero, List.set_cons_succ]
              refine takesH_nil ?_
              refine wpAnyH_done (by kernel_rfl) ?_ _
              go_wp2
              go_ret
              exact ⟨rfl, next HBU.out hHeld⟩
      · obtain rfl : t = n := by omega
        have hv : r = true := by rw [← HR.out]; unfold colsB; rw [HL.out]; exact HG.out
        subst hv
        go_wp2
        go_ret
        exact ⟨rfl, HB.out⟩
  · have d0 : decide ((8 : Int) < (n : Nat)) = true := by simp; omega
    have hv : r = false := by rw [← hr, decide_eq_false h8]; rfl
    subst hv
    go_enter Tryz.func110, Tryz.ntmps110
    go_wp2
    go_ret
    exact ⟨rfl, Below.refl _ _⟩
end Go.Proofs.YthfanonjokpflaaGreat
