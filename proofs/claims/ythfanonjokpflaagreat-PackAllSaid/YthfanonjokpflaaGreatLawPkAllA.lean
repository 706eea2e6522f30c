/-
  pack's putMut, putNote, their lists, numbers' lists.
-/
import Derived.Test.YthfanonjokpflaaGreatPm0
import Derived.Test.YthfanonjokpflaaGreatRw7
import Derived.Laws.CopyOwn
import Derived.Test.YthfanonjokpflaaGreatTkl
import Derived.Test.YthfanonjokpflaaGreatPo
import Derived.Test.YthfanonjokpflaaGreatPk
import Derived.Test.YthfanonjokpflaaGreatRoK
import Derived.Test.YthfanonjokpflaaGreatRoB
import Derived.Test.YthfanonjokpflaaGreatCeA
import Derived.Test.YthfanonjokpflaaGreatKq
import Derived.Test.YthfanonjokpflaaGreatCe5
import Derived.Deep.RegionLaw
import Derived.Deep.RegionHeld3
import Derived.Deep.DeepCutAuto
import Derived.Deep.CutBlock
import Derived.Laws.IdiomStrings
import Derived.Laws.IdiomRangeMap
import Derived.Test.YthfanonjokpflaaGreatRw2
import Derived.Lib.SmallJoins
import Derived.Test.YthfanonjokpflaaGreatProg
import Derived.KernelRfl
import Derived.Test.YthfanonjokpflaaGreatRnN
import Derived.Test.YthfanonjokpflaaGreatPlc
import Derived.WalkSpells
import Derived.Deep.QuietTactic
import Derived.BigQuiet
import Derived.Test.YthfanonjokpflaaGreatRo1
import Derived.Test.YthfanonjokpflaaGreatRc3
import Derived.Test.YthfanonjokpflaaGreatRw4
import Derived.Test.YthfanonjokpflaaGreatRoV
import Derived.Test.YthfanonjokpflaaGreatRoU
import Derived.Test.YthfanonjokpflaaGreatRo2
import Derived.Test.YthfanonjokpflaaGreatPd3
import Derived.Test.YthfanonjokpflaaGreatSl
import Derived.Test.YthfanonjokpflaaGreatApp
import Derived.Lib.AppendStr
import Derived.Laws.OwnMore
import Derived.Laws.MakeOwn
import Derived.Test.YthfanonjokpflaaGreatKf
import Derived.Test.YthfanonjokpflaaGreatOr1
set_option linter.unusedVariables false
set_option linter.unusedSimpArgs false
namespace Go.Proofs.YthfanonjokpflaaGreat
open Go Go.RowKit

theorem kept_set80 {w : World} (g : Nat) (x : RA) : Kept (fun k => k = g) w (World.setCell (World.setCell (World.setCell (World.setCell (World.setCell (World.setCell (World.setCell (World.setCell w ⟨g, 0, none⟩ (.string x.ro.key)) ⟨g, 1, none⟩ (.string x.ro.live.s)) ⟨g, 2, none⟩ (.bool x.ro.live.d)) ⟨g, 3, none⟩ (.int .i64 x.ro.live.a)) ⟨g, 4, none⟩ (.int .i64 x.ro.live.e)) ⟨g, 5, none⟩ (.int .i64 x.ro.gone)) ⟨g, 6, none⟩ (.int .i64 x.ro.shade)) ⟨g, 7, none⟩ (.slice x.A x.ro.cols.length x.c)) :=
  (((((((((Kept.refl (fun k => k = g) w).trans (Kept.setCell (fun k => k = g) _ ⟨g, 0, none⟩ _ rfl) fun _ h => Or.inl h).trans (Kept.setCell (fun k => k = g) _ ⟨g, 1, none⟩ _ rfl) fun _ h => Or.inl h).trans (Kept.setCell (fun k => k = g) _ ⟨g, 2, none⟩ _ rfl) fun _ h => Or.inl h).trans (Kept.setCell (fun k => k = g) _ ⟨g, 3, none⟩ _ rfl) fun _ h => Or.inl h).trans (Kept.setCell (fun k => k = g) _ ⟨g, 4, none⟩ _ rfl) fun _ h => Or.inl h).trans (Kept.setCell (fun k => k = g) _ ⟨g, 5, none⟩ _ rfl) fun _ h => Or.inl h).trans (Kept.setCell (fun k => k = g) _ ⟨g, 6, none⟩ _ rfl) fun _ h => Or.inl h).trans (Kept.setCell (fun k => k = g) _ ⟨g, 7, none⟩ _ rfl) fun _ h => Or.inl h)
/-- A row's block, whose last cell is set. -/
theorem block_set7 {w : World} {r : Nat} {v0 v1 v2 v3 v4 v5 v6 v7 : Value} (hr : w.heap[r]? = some (.cells #[v0, v1, v2, v3, v4, v5, v6, v7] 57 (0, 0))) (u : Value) : (w.setCell ⟨r, 7, none⟩ u).heap[r]? = some (.cells #[v0, v1, v2, v3, v4, v5, v6, u] 57 (0, 0)) := by
  have m := Joins.block_setCell (i := 7) hr u
  simp only [List.setIfInBounds_toArray, List.set_cons_zero, List.set_cons_succ] at m
  exact m
end Go.Proofs.YthfanonjokpflaaGreat
set_option linter.unusedVariables false
set_option linter.unusedSimpArgs false
namespace Go.Proofs.YthfanonjokpflaaGreat
open Go Go.RowKit

/-- A row's columns are the call's own. -/
def OwnC (w0 w : World) (x : RA) : Prop := w.ownsRow w0.heap.size 99 5 (.slice x.A x.ro.cols.length x.c) x.ro.cols.length (kRow x.ro.cols)
theorem OwnC.on {w0 w w' : World} {x : RA} (h : OwnC w0 w x) (hb : Below w.heap.size w w') : OwnC w0 w' x := own_below h hb
theorem OwnC.kept {w0 w w' : World} {x : RA} {F : Nat → Prop} {e : TypeId} (h : OwnC w0 w x) (hk : Kept F w w') (hF : ∀ k, F k → ∃ cs, w.heap[k]? = some (.cells cs e (0, 0))) (he : 99 ≠ e) : OwnC w0 w' x :=
  own_kept h fun g hg => hk.block g (own_block_lt h g hg) fun hf => by
    obtain ⟨cs, h1⟩ := hF g hf
    obtain ⟨cs', h2⟩ := own_tag h g hg
    rw [h1] at h2
    injection h2 with h2
    injection h2 with _ h3 _
    exact he h3.symm
/-- Rows in new memory, down to their columns. -/
structure Fresh (w0 w : World) (v : Value) (L : List RA) : Prop where
  cur : CurR w0 w v L
  cols : ∀ x ∈ L, OwnC w0 w x
theorem Fresh.own {w0 w : World} {v : Value} {L : List RA} (h : Fresh w0 w v L) : Own w0 w v L := ⟨h.cur, fun x hx => Or.inr (h.cols x hx)⟩
theorem Fresh.below {w0 w : World} {v : Value} {L : List RA} (h : Fresh w0 w v L) : Below w0.heap.size w0 w := h.cur.below
theorem Fresh.on {w0 w w' : World} {v : Value} {L : List RA} (h : Fresh w0 w v L) (hb : Below w.heap.size w w') : Fresh w0 w' v L := ⟨h.cur.on hb, fun x hx => (h.cols x hx).on hb⟩
theorem Fresh.lower {w V w9 : World} {v : Value} {L : List RA} (h : Fresh V w9 v L) (hV : Below w.heap.size w V) : Fresh w w9 v L := ⟨h.cur.lower hV, fun x hx => own_base (h.cols x hx) hV.size⟩
theorem Fresh.kept {w0 w w' : World} {v : Value} {L : List RA} {F : Nat → Prop} {e : TypeId} (h : Fresh w0 w v L) (hk : Kept F w w') (hF : ∀ k, F k → w0.heap.size ≤ k ∧ ∃ cs, w.heap[k]? = some (.cells cs e (0, 0))) (he : 99 ≠ e) (he' : 57 ≠ e) : Fresh w0 w' v L := by
  refine ⟨⟨own_kept h.cur.own fun g hg => hk.block g (own_block_lt h.cur.own g hg) fun hf => ?_, h.below.trans (hk.below (fun k hk => (hF k hk).1) h.below.size)⟩, fun x hx => (h.cols x hx).kept hk (fun k hk => (hF k hk).2) he⟩
  obtain ⟨cs, h1⟩ := (hF g hf).2
  obtain ⟨cs', h2⟩ := own_tag h.cur.own g hg
  rw [h1] at h2
  injection h2 with h2
  injection h2 with _ h3 _
  exact he' h3.symm
theorem Fresh.lies {w0 w : World} {A : Option Addr} {n c : Nat} {L : List RA} (h : Fresh w0 w (.slice A n c) L) : n = L.length ∧ Lies w w.heap.size A n c L ∧ (A = none → c = 0) := by
  obtain ⟨A', c', e, h1, _, h3, h4⟩ := h.own.slice
  injection e with e1 e2 e3
  subst e1; subst e2; subst e3
  exact ⟨rfl, h4, h3⟩

end Go.Proofs.YthfanonjokpflaaGreat
set_option linter.unusedVariables false
set_option linter.unusedSimpArgs false
namespace Go.Proofs.YthfanonjokpflaaGreat
open Go Go.RowKit

/-- Not too much of each row. -/
def FewR (L : List RA) : Prop := ∀ x ∈ L, Few x.ro.cols ∧ x.ro.live.s.size ≤ maxLen ∧ x.ro.cols.length ≤ 1000000
theorem check_ra (x : RA) (B : Nat) (w : World) (h : RaIn w B x) (hB : B ≤ w.heap.size) (hf : Few x.ro.cols ∧ x.ro.live.s.size ≤ maxLen ∧ x.ro.cols.length ≤ 1000000) :
    Calls Tryz.prog 87 #[.agg #[.string x.ro.key, .string x.ro.live.s, .bool x.ro.live.d, .int .i64 x.ro.live.a, .int .i64 x.ro.live.e, .int .i64 x.ro.gone, .int .i64 x.ro.shade, .slice x.A x.ro.cols.length x.c]] w fun e w' => e = .returned (.bool x.ro.ok) ∧ Below w.heap.size w w' :=
  check_ro x.ro x.A x.c B w h hB hf.2.2 hf.1 hf.2.1
theorem pstamp_any (n : Int) (w : World) : Calls Tryz.prog 57 #[.int .i64 n] w fun x w' => x = .returned (.bool (stm n)) ∧ w = w' := by
  go_enter Tryz.func57, Tryz.ntmps57
  by_cases h0 : 0 ≤ n
  · by_cases h1 : n ≤ 1099511627776
    · have hs : stm n = true := by unfold stm; rw [decide_eq_true h0, decide_eq_true h1]; rfl
      rw [hs]
      have d0 : decide (0 ≤ n) = true := decide_eq_true h0
      have d1 : decide (n ≤ 1099511627776) = true := decide_eq_true h1
      clear h0 h1 hs
      go_wp2
      go_ret
      exact ⟨rfl, rfl⟩
    · have hs : stm n = false := by unfold stm; rw [decide_eq_true h0, decide_eq_false h1]; rfl
      rw [hs]
      have d0 : decide (0 ≤ n) = true := decide_eq_true h0
      have d1 : decide (n ≤ 1099511627776) = false := decide_eq_false h1
      clear h0 h1 hs
      go_wp2
      go_ret
      exact ⟨rfl, rfl⟩
  · have hs : stm n = false := by unfold stm; rw [decide_eq_false h0]; rfl
    rw [hs]
    have d0 : decide (0 ≤ n) = false := decide_eq_false h0
    clear h0 hs
    go_wp2
    go_ret
    exact ⟨rfl, rfl⟩
set_option maxHeartbeats 4000000 in
theorem rows_any (A : Option Addr) (n c B : Nat) (L : List RA) (w : World) (h : Lies w B A n c L) (hB : B ≤ w.heap.size) (hn : n ≤ 1000000000) (hf : FewR L) :
    Calls Tryz.prog 58 #[.slice A n c] w fun x w' => x = .returned (.bool (decide (n ≤ 100) && rowsB (ros L))) ∧ Below w.heap.size w w' := by
  have hl := h.len
  obtain ⟨r, hr⟩ : ∃ r, (decide (n ≤ 100) && rowsB (ros L)) = r := ⟨_, rfl⟩
  rw [hr]
  by_cases h8 : n ≤ 100
  · have d0 : decide ((100 : Int) < (n : Nat)) = false := by simp; omega
    rw [decide_eq_true h8, Bool.true_and] at hr
    have HL := Lib.hid hl; have HR := Lib.hid hr; have HH := Lib.hid h; have HF := Lib.hid hf
    clear hl hr h hf
    go_enter Tryz.func58, Tryz.ntmps58
    go_wp2
    go_loopw [10] (fun i wr => ∃ t : Nat, t ≤ n ∧ i = .int .i64 t ∧ (List.range t).all (goodR (ros L)) = true ∧ Below w.heap.size w wr) (fun i _ => n - (intOf i).toNat)
    case atStart => exact ⟨0, Nat.zero_le _, rfl, rfl, Below.refl _ _⟩
    case round =>
      obtain ⟨t, ht, rfl, hg, hb⟩ := hrel
      have HG := Lib.hid hg; have HB := Lib.hid hb
      clear hg hb
      by_cases hlt : t < n
      · have i1 : (t : Int) < n := by omega
        have i0 : (0 : Int) ≤ t := by omega
        have htl : t < L.length := by rw [HL.out]; exact hlt
        have htr : t < (ros L).length := by rw [List.length_map]; exact htl
        obtain ⟨g0, o0, rfl, hgB⟩ := HH.out.rd.ex (by omega)
        have hrd := (HH.out.below (HB.out.mono hB)).rd
        obtain ⟨x, hx⟩ : ∃ x, L[t] = x := ⟨_, rfl⟩
        have hrow := hrd.row htl
        have hfm := HF.out L[t] (List.getElem_mem htl)
        have hin := (HH.out.below (HB.out.mono hB)).held L[t] (List.getElem_mem htl)
        rw [hx] at hrow hfm hin
        have hgw : g0 < wr.heap.size := by have := HB.out.size; omega
        obtain ⟨u1, hu1⟩ : ∃ u, x.ro.ok = u := ⟨_, rfl⟩
        have hrx : (ros L)[t] = x.ro := by rw [List.getElem_map, hx]
        have U1 := Lib.hid hu1; have FM := Lib.hid hfm; have HX := Lib.hid hrx
        have hz := heap_alloc_new wr (.cells #[.string x.ro.key, .string x.ro.live.s, .bool x.ro.live.d, .int .i64 x.ro.live.a, .int .i64 x.ro.live.e, .int .i64 x.ro.gone, .int .i64 x.ro.shade, .slice x.A x.ro.cols.length x.c] 57)
        have ha := (Below.refl wr.heap.size wr).alloc (Nat.le_refl _) (.cells #[.string x.ro.key, .string x.ro.live.s, .bool x.ro.live.d, .int .i64 x.ro.live.a, .int .i64 x.ro.live.e, .int .i64 x.ro.gone, .int .i64 x.ro.shade, .slice x.A x.ro.cols.length x.c] 57)
        have hbu := HB.out.trans (ha.mono HB.out.size)
        have hcu := fun j (hj : j < L.length) => (hrd.row hj).below ha hgw
        have hiu := hin.below (ha.mono (by have := HB.out.size; omega))
        obtain ⟨_, _, _, _, _, _, _, _⟩ := hrow
        clear hu1 hfm hx hrx hrd hin
        by_cases hz0 : t = 0
        · have hga : goodR (ros L) t = u1 := by
            subst hz0
            rw [goodR_zero htr, HX.out, U1.out]
          have j1 : decide ((0 : Int) < (t : Int)) = false := by simp; omega
          have j2 : decide (0 < t) = false := by simp; omega
          clear hz0
          have HGA := Lib.hid hga
          clear hga
          go_wp2_with fail
          obtain ⟨U, hU⟩ : ∃ U, U = wr.alloc (.cells #[.string x.ro.key, .string x.ro.live.s, .bool x.ro.live.d, .int .i64 x.ro.live.a, .int .i64 x.ro.live.e, .int .i64 x.ro.gone, .int .i64 x.ro.shade, .slice x.A x.ro.cols.length x.c] 57) := ⟨_, rfl⟩
          have hUs : U.heap.size = wr.heap.size + 1 := by rw [hU]; simp
          rw [← hU] at hz hbu hcu hiu ⊢
          have hall : ∀ w', Below U.heap.size U w' → BlkAt w' wr.heap.size x ∧ True := fun w' hb => ⟨BlkAt.of ((hb.block wr.heap.size (by omega)).trans hz), trivial⟩
          have hin2 : ∀ w', Below U.heap.size U w' → RaIn w' B x := fun w' hb => hiu.below (hb.mono (by have := HB.out.size; omega))
          have HALL := Lib.hid hall; have HBU := Lib.hid hbu; have HIN := Lib.hid hin2
          have HUB := Lib.hid (show B ≤ U.heap.size by have := HB.out.size; omega)
          clear hall hz hU ha hbu hcu hiu hin2
          cases u1
          · refine wp_region_held_drew (S := fun w' => Below U.heap.size U w') (by kernel_rfl) ?_ (fun hHeld => ?_)
            · exact (Below.refl _ _).drew
            refine takesH [0] ?_
            repeat
              refine takesH_one (v := ?_) ?_ ?_
              rotate_left
              · first | (refine Or.inr ⟨by rfl, ?_⟩; with_reducible rfl) | (refine Or.inl ⟨by rfl, ?_⟩; intro wx hSw; (try dsimp only at hSw); first | (go_simp; first | done | with_reducible rfl) | (obtain ⟨⟨_, _, _, _, _, _, _, _⟩, _⟩ := HALL.out _ hSw; go_simp; first | done | with_reducible rfl))
              try simp only [Act.put, List.getElem_toArray, List.getElem_cons_succ, List.getElem_cons_zero, List.setIfInBounds_toArray, List.set_cons_zero, List.set_cons_succ]
            refine takesH_nil ?_
            refine wpAnyH_ready (rs := [1]) (by kernel_rfl) (by simp) (AllReadyH.cons rfl (fun K hK => ?_) AllReadyH.nil)
            go_simp
            refine (check_ra x B _ ?hin1 ?hsz1 FM.out).mono ?_
            case hin1 => exact HIN.out _ (by first | exact (Below.refl _ _).drew | exact below_draws _ _ _ | exact Below.refl _ _)
            case hsz1 => exact HUB.out
            rintro y v1 ⟨rfl, b1⟩
            rw [U1.out]
            try go_wp2_with fail
            refine hK.out _ _ ?_ (fun hHeld => ?_)
            · exact next (by assumption) b1
            clear hK K
            try simp only [Act.put, List.getElem_toArray, List.getElem_cons_succ, List.getElem_cons_zero, List.setIfInBounds_toArray, List.set_cons_zero, List.set_cons_succ]
            refine takesH [2, 3, 4, 5, 6, 7, 8, 9, 10, 11, 12, 13, 14, 15, 16, 17] ?_
            repeat
              refine takesH_one (v := ?_) ?_ ?_
              rotate_left
              · first | (refine Or.inr ⟨by rfl, ?_⟩; with_reducible rfl) | (refine Or.inl ⟨by rfl, ?_⟩; intro wx hSw; (try dsimp only at hSw); first | (go_simp; first | done | with_reducible rfl))
              try simp only [Act.put, List.getElem_toArray, List.getElem_cons_succ, List.getElem_cons_zero, List.setIfInBounds_toArray, List.set_cons_zero, List.set_cons_succ]
            refine takesH_nil ?_
            refine wpAnyH_done (by kernel_rfl) ?_ _
            have hv : r = false := by rw [← HR.out]; exact goodsR_no htr HGA.out
            subst hv
            go_wp2
            go_ret
            exact ⟨rfl, next HBU.out hHeld⟩
          · refine wp_region_held_drew (S := fun w' => Below U.heap.size U w') (by kernel_rfl) ?_ (fun hHeld => ?_)
            · exact (Below.refl _ _).drew
            refine takesH [0] ?_
            repeat
              refine takesH_one (v := ?_) ?_ ?_
              rotate_left
              · first | (refine Or.inr ⟨by rfl, ?_⟩; with_reducible rfl) | (refine Or.inl ⟨by rfl, ?_⟩; intro wx hSw; (try dsimp only at hSw); first | (go_simp; first | done | with_reducible rfl) | (obtain ⟨⟨_, _, _, _, _, _, _, _⟩, _⟩ := HALL.out _ hSw; go_simp; first | done | with_reducible rfl))
              try simp only [Act.put, List.getElem_toArray, List.getElem_cons_succ, List.getElem_cons_zero, List.setIfInBounds_toArray, List.set_cons_zero, List.set_cons_succ]
            refine takesH_nil ?_
            refine wpAnyH_ready (rs := [1]) (by kernel_rfl) (by simp) (AllReadyH.cons rfl (fun K hK => ?_) AllReadyH.nil)
            go_simp
            refine (check_ra x B _ ?hin1 ?hsz1 FM.out).mono ?_
            case hin1 => exact HIN.out _ (by first | exact (Below.refl _ _).drew | exact below_draws _ _ _ | exact Below.refl _ _)
            case hsz1 => exact HUB.out
            rintro y v1 ⟨rfl, b1⟩
            rw [U1.out]
            try go_wp2_with fail
            refine hK.out _ _ ?_ (fun hHeld => ?_)
            · exact next (by assumption) b1
            clear hK K
            try simp only [Act.put, List.getElem_toArray, List.getElem_cons_succ, List.getElem_cons_zero, List.setIfInBounds_toArray, List.set_cons_zero, List.set_cons_succ]
            refine takesH [2, 3, 4, 5, 6, 7, 8, 9, 10, 11, 12, 13, 14, 15, 16, 17] ?_
            repeat
              refine takesH_one (v := ?_) ?_ ?_
              rotate_left
              · first | (refine Or.inr ⟨by rfl, ?_⟩; with_reducible rfl) | (refine Or.inl ⟨by rfl, ?_⟩; intro wx hSw; (try dsimp only at hSw); first | (go_simp; first | done | with_reducible rfl))
              try simp only [Act.put, List.getElem_toArray, List.getElem_cons_succ, List.getElem_cons_zero, List.setIfInBounds_toArray, List.set_cons_zero, List.set_cons_succ]
            refine takesH_nil ?_
            refine wpAnyH_done (by kernel_rfl) ?_ _
            go_wp2
            go_roundw
            case rel => exact ⟨t + 1, by omega, by go_num, goodsR_step HG.out HGA.out, next HBU.out hHeld⟩
            case measure => simp [intOf]; omega
        · obtain ⟨u, hu⟩ : ∃ u, u + 1 = t := ⟨t - 1, by omega⟩
          have hul : u < L.length := by omega
          have hsub : IntKind.i64.wrap ((t : Int) - 1) = (u : Int) := by rw [IntKind.wrap_i64]; omega
          have j1 : (u : Int) < n := by omega
          have j0 : (0 : Int) ≤ u := by omega
          have j2 : decide ((0 : Int) < (t : Int)) = true := by simp; omega
          have j3 : decide (0 < t) = true := by simp; omega
          have j4 : (0 : Int) < (t : Int) := by omega
          have j5 : 0 < t := by omega
          obtain ⟨y, hy⟩ : ∃ y, L[u] = y := ⟨_, rfl⟩
          have hcu2 := hcu u hul
          rw [hy] at hcu2
          have hga : goodR (ros L) t = (u1 && decide (nlt y.ro.key x.ro.key)) := by
            subst hu
            rw [goodR_succ htr, HX.out, U1.out, List.getElem_map, hy]
          have HGA := Lib.hid hga; have HY := Lib.hid hy
          clear hga hy hcu
          go_wp2_with fail
          obtain ⟨U, hU⟩ : ∃ U, U = wr.alloc (.cells #[.string x.ro.key, .string x.ro.live.s, .bool x.ro.live.d, .int .i64 x.ro.live.a, .int .i64 x.ro.live.e, .int .i64 x.ro.gone, .int .i64 x.ro.shade, .slice x.A x.ro.cols.length x.c] 57) := ⟨_, rfl⟩
          have hUs : U.heap.size = wr.heap.size + 1 := by rw [hU]; simp
          rw [← hU] at hz hbu hcu2 hiu ⊢
          have hall : ∀ w', Below U.heap.size U w' → BlkAt w' wr.heap.size x ∧ w'.cell? ⟨g0, o0 + u * 8, none⟩ = some (.string y.ro.key) := fun w' hb => ⟨BlkAt.of ((hb.block wr.heap.size (by omega)).trans hz), (hcu2.below hb (show g0 < U.heap.size by omega)).1⟩
          have hin2 : ∀ w', Below U.heap.size U w' → RaIn w' B x := fun w' hb => hiu.below (hb.mono (by have := HB.out.size; omega))
          have HALL := Lib.hid hall; have HBU := Lib.hid hbu; have HU := Lib.hid hu; have HIN := Lib.hid hin2
          have HUB := Lib.hid (show B ≤ U.heap.size by have := HB.out.size; omega)
          clear hall hz hU ha hbu hcu2 hu hiu hin2
          cases u1
          · refine wp_region_held_drew (S := fun w' => Below U.heap.size U w') (by kernel_rfl) ?_ (fun hHeld => ?_)
            · exact (Below.refl _ _).drew
            refine takesH [0] ?_
            repeat
              refine takesH_one (v := ?_) ?_ ?_
              rotate_left
              · first | (refine Or.inr ⟨by rfl, ?_⟩; with_reducible rfl) | (refine Or.inl ⟨by rfl, ?_⟩; intro wx hSw; (try dsimp only at hSw); first | (go_simp; first | done | with_reducible rfl) | (obtain ⟨⟨_, _, _, _, _, _, _, _⟩, _⟩ := HALL.out _ hSw; go_simp; first | done | with_reducible rfl))
              try simp only [Act.put, List.getElem_toArray, List.getElem_cons_succ, List.getElem_cons_zero, List.setIfInBounds_toArray, List.set_cons_zero, List.set_cons_succ]
            refine takesH_nil ?_
            refine wpAnyH_ready (rs := [1]) (by kernel_rfl) (by simp) (AllReadyH.cons rfl (fun K hK => ?_) AllReadyH.nil)
            go_simp
            refine (check_ra x B _ ?hin1 ?hsz1 FM.out).mono ?_
            case hin1 => exact HIN.out _ (by first | exact (Below.refl _ _).drew | exact below_draws _ _ _ | exact Below.refl _ _)
            case hsz1 => exact HUB.out
            rintro y v1 ⟨rfl, b1⟩
            rw [U1.out]
            try go_wp2_with fail
            refine hK.out _ _ ?_ (fun hHeld => ?_)
            · exact next (by assumption) b1
            clear hK K
            try simp only [Act.put, List.getElem_toArray, List.getElem_cons_succ, List.getElem_cons_zero, List.setIfInBounds_toArray, List.set_cons_zero, List.set_cons_succ]
            refine takesH [2, 3, 4, 5, 6, 7, 8, 9, 10, 11, 12, 13, 14, 15, 16, 17] ?_
            repeat
              refine takesH_one (v := ?_) ?_ ?_
              rotate_left
              · first | (refine Or.inr ⟨by rfl, ?_⟩; with_reducible rfl) | (refine Or.inl ⟨by rfl, ?_⟩; intro wx hSw; (try dsimp only at hSw); first | (go_simp; first | done | with_reducible rfl))
              try simp only [Act.put, List.getElem_toArray, List.getElem_cons_succ, List.getElem_cons_zero, List.setIfInBounds_toArray, List.set_cons_zero, List.set_cons_succ]
            refine takesH_nil ?_
            refine wpAnyH_done (by kernel_rfl) ?_ _
            have hv : r = false := by rw [← HR.out]; exact goodsR_no htr (by rw [HGA.out]; rfl)
            subst hv
            go_wp2
            go_ret
            exact ⟨rfl, next HBU.out hHeld⟩
          · by_cases hp : nlt y.ro.key x.ro.key
            · have hb1 : Op.bytesLess y.ro.key.toList x.ro.key.toList = true := blB_true hp
              have hga2 := HGA.out
              rw [decide_eq_true hp] at hga2
              have HG2 := Lib.hid hga2
              clear hga2
              refine wp_region_held_drew (S := fun w' => Below U.heap.size U w') (by kernel_rfl) ?_ (fun hHeld => ?_)
              · exact (Below.refl _ _).drew
              refine takesH [0] ?_
              repeat
                refine takesH_one (v := ?_) ?_ ?_
                rotate_left
                · first | (refine Or.inr ⟨by rfl, ?_⟩; with_reducible rfl) | (refine Or.inl ⟨by rfl, ?_⟩; intro wx hSw; (try dsimp only at hSw); first | (go_simp; first | done | with_reducible rfl) | (obtain ⟨⟨_, _, _, _, _, _, _, _⟩, _⟩ := HALL.out _ hSw; go_simp; first | done | with_reducible rfl))
                try simp only [Act.put, List.getElem_toArray, List.getElem_cons_succ, List.getElem_cons_zero, List.setIfInBounds_toArray, List.set_cons_zero, List.set_cons_succ]
              refine takesH_nil ?_
              refine wpAnyH_ready (rs := [1]) (by kernel_rfl) (by simp) (AllReadyH.cons rfl (fun K hK => ?_) AllReadyH.nil)
              go_simp
              refine (check_ra x B _ ?hin1 ?hsz1 FM.out).mono ?_
              case hin1 => exact HIN.out _ (by first | exact (Below.refl _ _).drew | exact below_draws _ _ _ | exact Below.refl _ _)
              case hsz1 => exact HUB.out
              rintro y v1 ⟨rfl, b1⟩
              rw [U1.out]
              try go_wp2_with fail
              refine hK.out _ _ ?_ (fun hHeld => ?_)
              · exact next (by assumption) b1
              clear hK K
              try simp only [Act.put, List.getElem_toArray, List.getElem_cons_succ, List.getElem_cons_zero, List.setIfInBounds_toArray, List.set_cons_zero, List.set_cons_succ]
              refine takesH [2, 3, 4, 5, 6, 7, 8, 9, 10, 11, 12, 13, 14, 15, 16, 17] ?_
              repeat
                refine takesH_one (v := ?_) ?_ ?_
                rotate_left
                · first | (refine Or.inr ⟨by rfl, ?_⟩; with_reducible rfl) | (refine Or.inl ⟨by rfl, ?_⟩; intro wx hSw; (try dsimp only at hSw); first | (go_simp; first | done | with_reducible rfl) | (obtain ⟨⟨_, _, _, _, _, _, _, _⟩, _⟩ := HALL.out _ hSw; go_simp; first | done | with_reducible rfl))
                try simp only [Act.put, List.getElem_toArray, List.getElem_cons_succ, List.getElem_cons_zero, List.setIfInBounds_toArray, List.set_cons_zero, List.set_cons_succ]
              refine takesH_nil ?_
              refine wpAnyH_done (by kernel_rfl) ?_ _
              go_wp2
              go_roundw
              case rel => exact ⟨t + 1, by omega, by go_num, goodsR_step HG.out HG2.out, next HBU.out hHeld⟩
              case measure => simp [intOf]; omega
            · have hb1 : Op.bytesLess y.ro.key.toList x.ro.key.toList = false := blB_false hp
              have hv : r = false := by rw [← HR.out]; exact goodsR_no htr (by rw [HGA.out, decide_eq_false hp]; rfl)
              subst hv
              refine wp_region_held_drew (S := fun w' => Below U.heap.size U w') (by kernel_rfl) ?_ (fun hHeld => ?_)
              · exact (Below.refl _ _).drew
              refine takesH [0] ?_
              repeat
                refine takesH_one (v := ?_) ?_ ?_
                rotate_left
                · first | (refine Or.inr ⟨by rfl, ?_⟩; with_reducible rfl) | (refine Or.inl ⟨by rfl, ?_⟩; intro wx hSw; (try dsimp only at hSw); first | (go_simp; first | done | with_reducible rfl) | (obtain ⟨⟨_, _, _, _, _, _, _, _⟩, _⟩ := HALL.out _ hSw; go_simp; first | done | with_reducible rfl))
                try simp only [Act.put, List.getElem_toArray, List.getElem_cons_succ, List.getElem_cons_zero, List.setIfInBounds_toArray, List.set_cons_zero, List.set_cons_succ]
              refine takesH_nil ?_
              refine wpAnyH_ready (rs := [1]) (by kernel_rfl) (by simp) (AllReadyH.cons rfl (fun K hK => ?_) AllReadyH.nil)
              go_simp
              refine (check_ra x B _ ?hin1 ?hsz1 FM.out).mono ?_
              case hin1 => exact HIN.out _ (by first | exact (Below.refl _ _).drew | exact below_draws _ _ _ | exact Below.refl _ _)
              case hsz1 => exact HUB.out
              rintro y v1 ⟨rfl, b1⟩
              rw [U1.out]
              try go_wp2_with fail
              refine hK.out _ _ ?_ (fun hHeld => ?_)
              · exact next (by assumption) b1
              clear hK K
              try simp only [Act.put, List.getElem_toArray, List.getElem_cons_succ, List.getElem_cons_zero, List.setIfInBounds_toArray, List.set_cons_zero, List.set_cons_succ]
              refine takesH [2, 3, 4, 5, 6, 7, 8, 9, 10, 11, 12, 13, 14, 15, 16, 17] ?_
              repeat
                refine takesH_one (v := ?_) ?_ ?_
                rotate_left
                · first | (refine Or.inr ⟨by rfl, ?_⟩; with_reducible rfl) | (refine Or.inl ⟨by rfl, ?_⟩; intro wx hSw; (try dsimp only at hSw); first | (go_simp; first | done | with_reducible rfl) | (obtain ⟨⟨_, _, _, _, _, _, _, _⟩, _⟩ := HALL.out _ hSw; go_simp; first | done | with_reducible rfl))
                try simp only [Act.put, List.getElem_toArray, List.getElem_cons_succ, List.getElem_cons_zero, List.setIfInBounds_toArray, List.set_cons_zero, List.set_cons_succ]
              refine takesH_nil ?_
              refine wpAnyH_done (by kernel_rfl) ?_ _
              go_wp2
              go_ret
              exact ⟨rfl, next HBU.out hHeld⟩
      · obtain rfl : t = n := by omega
        have hv : r = true := by rw [← HR.out]; unfold rowsB; rw [List.length_map, HL.out]; exact HG.out
        subst hv
        go_wp2
        go_ret
        exact ⟨rfl, HB.out⟩
  · have d0 : decide ((100 : Int) < (n : Nat)) = true := by simp; omega
    have hv : r = false := by rw [← hr, decide_eq_false h8]; rfl
    subst hv
    go_enter Tryz.func58, Tryz.ntmps58
    go_wp2
    go_ret
    exact ⟨rfl, Below.refl _ _⟩
end Go.Proofs.YthfanonjokpflaaGreat
set_option linter.unusedVariables false
set_option linter.unusedSimpArgs false
namespace Go.Proofs.YthfanonjokpflaaGreat
open Go Go.RowKit

theorem Cur.lower {w V w9 : World} {v : Value} {C : Cols} (h : Cur V w9 v C) (hV : Below w.heap.size w V) : Cur w w9 v C := ⟨own_base h.own hV.size, next hV h.below⟩
end Go.Proofs.YthfanonjokpflaaGreat
set_option linter.unusedVariables false
set_option linter.unusedSimpArgs false
namespace Go.Proofs.YthfanonjokpflaaGreat
open Go Go.RowKit Go.Joins

/-- A row's block, the columns as they are. -/
def RJ (w : World) (r : Nat) (k s : ByteArray) (d : Bool) (a e g h : Int) (A : Option Addr) (n c : Nat) : Prop := w.heap[r]? = some (.cells #[.string k, .string s, .bool d, .int .i64 a, .int .i64 e, .int .i64 g, .int .i64 h, .slice A n c] 57 (0, 0))
theorem RJ.cells {w : World} {r : Nat} {k s : ByteArray} {d : Bool} {a e g h : Int} {A : Option Addr} {n c : Nat} (hr : RJ w r k s d a e g h A n c) : RoAt w r k s d a e g h A n c :=
  ⟨cell_at hr rfl, cell_at hr rfl, cell_at hr rfl, cell_at hr rfl, cell_at hr rfl, cell_at hr rfl, cell_at hr rfl, cell_at hr rfl⟩
theorem RJ.set {w : World} {r : Nat} {k s : ByteArray} {d : Bool} {a e g h : Int} {A : Option Addr} {n c : Nat} (hr : RJ w r k s d a e g h A n c) (k' s' : ByteArray) (d' : Bool) (a' e' g' h' : Int) (A' : Option Addr) (n' c' : Nat) :
    RJ ((((((((w.setCell ⟨r, 0, none⟩ (.string k')).setCell ⟨r, 1, none⟩ (.string s')).setCell ⟨r, 2, none⟩ (.bool d')).setCell ⟨r, 3, none⟩ (.int .i64 a')).setCell ⟨r, 4, none⟩ (.int .i64 e')).setCell ⟨r, 5, none⟩ (.int .i64 g')).setCell ⟨r, 6, none⟩ (.int .i64 h')).setCell ⟨r, 7, none⟩ (.slice A' n' c')) r k' s' d' a' e' g' h' A' n' c' := by
  have m := block_setCell (i := 7) (block_setCell (i := 6) (block_setCell (i := 5) (block_setCell (i := 4) (block_setCell (i := 3) (block_setCell (i := 2) (block_setCell (i := 1) (block_setCell (i := 0) hr (.string k')) (.string s')) (.bool d')) (.int .i64 a')) (.int .i64 e')) (.int .i64 g')) (.int .i64 h')) (.slice A' n' c')
  simp only [List.setIfInBounds_toArray, List.set_cons_zero, List.set_cons_succ] at m
  exact m
/-- Eight stores into one block. -/
theorem eight_heap (w : World) (r : Nat) (v0 v1 v2 v3 v4 v5 v6 v7 : Value) (j : Nat) (hj : j ≠ r) :
    ((((((((w.setCell ⟨r, 0, none⟩ v0).setCell ⟨r, 1, none⟩ v1).setCell ⟨r, 2, none⟩ v2).setCell ⟨r, 3, none⟩ v3).setCell ⟨r, 4, none⟩ v4).setCell ⟨r, 5, none⟩ v5).setCell ⟨r, 6, none⟩ v6).setCell ⟨r, 7, none⟩ v7).heap[j]? = w.heap[j]? := by
  iterate 8 rw [Below.heap_setCell _ _ _ _ hj]
theorem eight_below {B : Nat} {w0 w : World} (h : Below B w0 w) (r : Nat) (hr : B ≤ r) (v0 v1 v2 v3 v4 v5 v6 v7 : Value) :
    Below B w0 ((((((((w.setCell ⟨r, 0, none⟩ v0).setCell ⟨r, 1, none⟩ v1).setCell ⟨r, 2, none⟩ v2).setCell ⟨r, 3, none⟩ v3).setCell ⟨r, 4, none⟩ v4).setCell ⟨r, 5, none⟩ v5).setCell ⟨r, 6, none⟩ v6).setCell ⟨r, 7, none⟩ v7) :=
  (((((((h.setCell (p := ⟨r, 0, none⟩) hr v0).setCell (p := ⟨r, 1, none⟩) hr v1).setCell (p := ⟨r, 2, none⟩) hr v2).setCell (p := ⟨r, 3, none⟩) hr v3).setCell (p := ⟨r, 4, none⟩) hr v4).setCell (p := ⟨r, 5, none⟩) hr v5).setCell (p := ⟨r, 6, none⟩) hr v6).setCell (p := ⟨r, 7, none⟩) hr v7

theorem own_ne {w : World} {b n size : Nat} {e e' : TypeId} {v : Value} {xs : List Value} {r : Nat} {cs : Array Value} (h : w.ownsRow b e size v n xs) (hr : w.heap[r]? = some (.cells cs e' (0, 0))) (he : e ≠ e') : ∀ g, v.ownBlock = some g → g ≠ r := fun g hg hgr => by
  subst hgr
  obtain ⟨cs', h1⟩ := own_tag h g hg
  rw [h1] at hr
  injection hr with hr
  injection hr with _ h2
  exact he h2
theorem Cur.eight {w0 w : World} {v : Value} {C : Cols} (hc : Cur w0 w v C) {r : Nat} {k s : ByteArray} {d : Bool} {a e g h : Int} {A : Option Addr} {n c : Nat} (hr : RJ w r k s d a e g h A n c) (hb : w0.heap.size ≤ r) (v0 v1 v2 v3 v4 v5 v6 v7 : Value) :
    Cur w0 ((((((((w.setCell ⟨r, 0, none⟩ v0).setCell ⟨r, 1, none⟩ v1).setCell ⟨r, 2, none⟩ v2).setCell ⟨r, 3, none⟩ v3).setCell ⟨r, 4, none⟩ v4).setCell ⟨r, 5, none⟩ v5).setCell ⟨r, 6, none⟩ v6).setCell ⟨r, 7, none⟩ v7) v C :=
  ⟨own_kept hc.own fun g hg => eight_heap _ _ _ _ _ _ _ _ _ _ g (own_ne hc.own hr (by decide) g hg), eight_below hc.below r hb _ _ _ _ _ _ _ _⟩
end Go.Proofs.YthfanonjokpflaaGreat
set_option linter.unusedVariables false
set_option linter.unusedSimpArgs false
namespace Go.Proofs.YthfanonjokpflaaGreat
open Go

section
variable {P : Program} {ops : Array Oper} {Q : Exit → Act → World → Prop} {md : Region.Mode} {T : Array Bool → Act → World → Prop} {R : World → World → Prop} {D : World → Prop}

/-- A step leaves a frame as it was, but for its own slot (and what is deferred). -/
def Only (o : Oper) (a a' : Act) : Prop := ∃ u ds, a' = ({ a with defers := ds } : Act).put o.dst u
theorem step_only {j : Nat} {oj : Oper} (hj : ops[j]? = some oj) {K : Act → World → Prop} {a : Act} {w : World} (h : wpOp P ops Q j K a w) : wpOp P ops Q j (fun a' w' => K a' w' ∧ Only oj a a') a w := by
  have here : ∀ (u : Value) (w' : World), K (a.put oj.dst u) w' → K (a.put oj.dst u) w' ∧ Only oj a (a.put oj.dst u) := fun u w' hk => ⟨hk, u, a.defers, rfl⟩
  unfold wpOp at h ⊢
  rw [hj] at h ⊢
  dsimp only at h ⊢
  by_cases hw : Region.wanted oj (yielded ops a.tmps) = true
  · rw [if_pos hw] at h ⊢
    refine h.imp_left fun h => ?_
    unfold Oper.wp at h ⊢
    rcases hrun : (execOp a.eval oj).run P w with ⟨n, w'⟩ | ⟨x, w'⟩
    · rw [hrun] at h
      cases n with
      | value u => exact here u w' h
      | skip => exact here undef w' h
      | defer d => exact ⟨h, undef, d :: a.defers, rfl⟩
      | enter f args =>
        refine Calls.mono h fun e w'' he => ?_
        cases e with
        | returned u => exact here u w'' he
        | panicked c => exact he
        | outgrown => exact he
      | row row args => exact Rows.mono h fun u w'' he => here u w'' he
      | _ => exact h
    · rw [hrun] at h
      cases x <;> exact h
  · rw [if_neg hw] at h ⊢
    exact here undef w h

/-- What comes of an operation: a value and the world as it was; or a call that hands it back, in a world that may come. -/
def Out (P : Program) (R : World → World → Prop) (E : Sem Next) (v : Value) (w : World) : Prop :=
  E.run P w = .ok (.value v) w ∨ ∃ f args, E.run P w = .ok (.enter f args) w ∧ Calls P f args w fun e w' => e = .returned v ∧ R w w'
def Gives (P : Program) (ops : Array Oper) (R : World → World → Prop) (D : World → Prop) (o : Oper) (v : Value) (a : Act) : Prop :=
  (Region.wanted o (yielded ops a.tmps) = true ∧ ∀ w, D w → Out P R (execOp a.eval o) v w) ∨ (Region.wanted o (yielded ops a.tmps) = false ∧ v = undef)
theorem Gives.step {i : Nat} {o : Oper} {v : Value} {a : Act} (hi : ops[i]? = some o) (h : Gives P ops R D o v a) {w : World} (hD : D w) (hr : R w w) {K : Act → World → Prop} (hk : ∀ w', R w w' → K (a.put o.dst v) w') : wpOp P ops Q i K a w := by
  unfold wpOp
  rw [hi]
  dsimp only
  rcases h with ⟨hw, h⟩ | ⟨hw, rfl⟩
  · rw [if_pos hw]
    refine Or.inl ?_
    unfold Oper.wp
    rcases h w hD with hrun | ⟨f, args, hrun, hc⟩ <;> rw [hrun]
    · exact hk w hr
    · exact hc.mono fun e w' ⟨he, hR⟩ => by subst he; exact hk w' hR
  · rw [if_neg (by rw [hw]; decide)]
    exact hk w hr

/-- Whatever comes up next, what is known is known of it, and from whatever world may come of it the rest goes. -/
def Goes (P : Program) (md : Region.Mode) (ops : Array Oper) (Q : Exit → Act → World → Prop) (T : Array Bool → Act → World → Prop) (R : World → World → Prop) : Nat → Array Bool → Act → World → Prop
  | 0, L, a, w => Region.ready md ops L = [] ∧ Q .normal a w
  | n + 1, L, a, w => (Region.ready md ops L = [] → Q .normal a w) ∧ ∀ i ∈ Region.ready md ops L,
      wpOp P ops Q i (fun a' w' => T (L.setIfInBounds i true) a' w' ∧ ∀ w'', R w' w'' → T (L.setIfInBounds i true) a' w'' → Goes P md ops Q T R n (L.setIfInBounds i true) a' w'') a w
theorem goes_any (hr : ∀ w, R w w) : ∀ (n : Nat) (L : Array Bool) (a : Act) (w : World), Goes P md ops Q T R n L a w → wpAny P md ops Q n L a w
  | 0, _, _, _, h => h
  | n + 1, _, _, _, h => ⟨h.1, fun i hi => wpOp_mono (fun a' w' hk => goes_any hr n _ a' w' (hk.2 w' (hr w') hk.1)) (h.2 i hi)⟩
/-- The side conditions of taking operation i first. -/
structure First (ops : Array Oper) (md : Region.Mode) (i : Nat) (oi : Oper) (Q : Exit → Act → World → Prop) (v : Value) : Prop where
  at_ : ops[i]? = some oi
  sel : ∀ (j : Nat) (o : Oper) cs b, ops[j]? = some o → o.op ≠ .select cs b
  self : ∀ d, oi.dst = some d → d ∉ oi.looksAt ops
  out : ∀ c a w, Q (.panic c) (a.put oi.dst v) w → Q (.panic c) a w
/-- No operation that is still to come touches what i reads or writes, but those that wait for it. -/
def Clear (ops : Array Oper) (md : Region.Mode) (i : Nat) (oi : Oper) (L : Array Bool) : Prop :=
  ∀ j oj, ops[j]? = some oj → j ≠ i → L.getD j true = false → (∀ e ∈ oj.after, Region.binds md e = true → e.on ≠ i) → oi.apart ops oj = true
theorem Clear.on {i : Nat} {oi : Oper} {L : Array Bool} (h : Clear ops md i oi L) (j : Nat) : Clear ops md i oi (L.setIfInBounds j true) := fun k ok hk hne hun hno => by
  refine h k ok hk hne ?_ hno
  rcases Nat.decEq j k with hjk | hjk
  · rwa [getD_set_ne true hjk] at hun
  · subst hjk
    rcases Nat.lt_or_ge j L.size with hs | hs
    · simp [hs] at hun
    · simp [Array.getElem?_eq_none hs] at hun
/-- **What is ready and gives one value in whatever world may be first.** F: what lists it may be ready in (kept by all that does not wait for it). -/
theorem goes_first {i : Nat} {oi : Oper} {v : Value} (hi : First ops md i oi Q v) (hr : ∀ w, R w w) (ht : ∀ {x y z}, R x y → R y z → R x z) (F : Array Bool → Prop)
    (hF : ∀ L j oj, F L → ops[j]? = some oj → (∀ e ∈ oj.after, Region.binds md e = true → e.on ≠ i) → F (L.setIfInBounds j true))
    (hD : ∀ L a w, F L → T L a w → D w) (hG : ∀ L a w w', F L → T L a w → R w w' → T L a w')
    (hT : ∀ L a w, F L → (T L a w ↔ T (L.setIfInBounds i true) (a.put oi.dst v) w)) :
    ∀ (n : Nat) (L : Array Bool) (a : Act) (w : World), F L → Clear ops md i oi L → i ∈ Region.ready md ops L → Gives P ops R D oi v a → T L a w →
      (∀ w', R w w' → T L a w' → Goes P md ops Q T R n (L.setIfInBounds i true) (a.put oi.dst v) w') → Goes P md ops Q T R (n + 1) L a w
  | n, L, a, w, hFL, hC, hir, hy, hTw, H => by
    have none_ : Region.ready md ops L = [] → Q .normal a w := fun e => by rw [e] at hir; cases hir
    refine ⟨none_, fun j hj => ?_⟩
    rcases Nat.decEq j i with hne | heq
    · -- another one comes up: i may have been first
      obtain ⟨hun, oj, hoj, hdep⟩ := mem_ready.1 hj
      have hno : ∀ e ∈ oj.after, Region.binds md e = true → e.on ≠ i := fun e he hb hon => by
        have hl := hdep e he hb
        have hu := (mem_ready.1 hir).1
        rw [hon] at hl
        rcases Nat.lt_or_ge i L.size with hs | hs
        · simp [hs] at hu hl
          rw [hu] at hl
          cases hl
        · simp [Array.getElem?_eq_none hs] at hl
      have hap := hC j oj hoj hne hun hno
      obtain ⟨p1, p2, p3⟩ := Oper.apart_spec hap
      cases n with
      | zero =>
        have h0 := (H w (hr w) hTw).1
        have hjr := ready_mono hj hne
        rw [h0] at hjr
        cases hjr
      | succ n =>
        have h1 := (H w (hr w) hTw).2 j (ready_mono hj hne)
        have hyF : YieldsIf P ops (fun _ => False) oi v a := hy.imp (fun h => ⟨h.1, fun _ hf => hf.elim⟩) id
        have h2 := wpOp_putIf hoj hap (fun cs b => hi.sel i oi cs b hi.at_) (fun cs b => hi.sel j oj cs b hoj) hi.out hyF (step_only hoj h1)
        refine wpOp_mono (fun a' w' hk => ?_) h2
        obtain ⟨_, ⟨hT', hgo⟩, u, ds, hon⟩ := hk
        rw [Array.setIfInBounds_comm _ _ (Ne.symm hne)] at hT' hgo
        have hF' := hF L j oj hFL hoj hno
        have hT2 := (hT _ a' w' hF').2 hT'
        -- i reads at a' what it read at a
        have eval_ : execOp a'.eval oi = execOp a.eval oi := by
          rw [← execOp_put oi (fun cs b => hi.sel i oi cs b hi.at_) a' oi.dst v hi.self, hon, execOp_put oi (fun cs b => hi.sel i oi cs b hi.at_) _ oj.dst u p3]
          exact execOp_put oi (fun cs b => hi.sel i oi cs b hi.at_) a oi.dst v hi.self
        have want_ : Region.wanted oi (yielded ops a'.tmps) = Region.wanted oi (yielded ops a.tmps) := by
          rw [← wanted_put oi a' oi.dst v hi.self, hon, wanted_put oi _ oj.dst u p3]
          exact wanted_put oi a oi.dst v hi.self
        have hy' : Gives P ops R D oi v a' := by
          unfold Gives at hy ⊢
          rw [eval_, want_]
          exact hy
        refine ⟨hT2, fun w'' hw hTw'' => goes_first hi hr ht F hF hD hG hT n _ a' w'' hF' (hC.on j) (ready_mono hir (Ne.symm hne)) hy' hTw'' fun w3 hw3 hT3 => ?_⟩
        exact hgo w3 (ht hw hw3) ((hT _ a' w3 hF').1 hT3)
    · subst heq
      refine hy.step hi.at_ (hD L a w hFL hTw) (hr w) fun w' hw => ?_
      have h1 := hG L a w w' hFL hTw hw
      exact ⟨(hT L a w' hFL).1 h1, fun w'' hw2 hT2 => H w'' (ht hw hw2) ((hT L a w'' hFL).2 hT2)⟩

/-! A region whose last operation, z, writes what others read: S is known till z comes up; each world is the one at hand. -/
variable {S : World → Prop} {z : Nat}
def knownZ (S : World → Prop) (z : Nat) : Array Bool → Act → World → Prop := fun L _ w => L.getD z true = false → S w
def wpAnyZ (P : Program) (md : Region.Mode) (ops : Array Oper) (Q : Exit → Act → World → Prop) (S : World → Prop) (z : Nat) : Nat → Array Bool → Act → World → Prop := Goes P md ops Q (knownZ S z) Eq
/-- Does operation z wait for i? Does i leave alone what it reads? -/
def waitsB (md : Region.Mode) (ops : Array Oper) (z i : Nat) : Bool := match ops[z]?, ops[i]? with
  | some o, some oi => o.after.any (fun e => Region.binds md e && e.on == i) && (match oi.dst with | some d => !(oi.looksAt ops).contains d | none => true)
  | _, _ => false
theorem wpAnyZ_take {i : Nat} {oi : Oper} {v : Value} {fuel : Nat} {listed : Array Bool} {a : Act} {w : World} (hi : ops[i]? = some oi)
    (hs : Region.noSelect ops = true) (hf : Region.free md ops listed i = true) (hr : (Region.ready md ops listed).contains i = true) (hz : (waitsB md ops z i && !listed.getD z true) = true)
    (hQ : ∀ c a w, Q (.panic c) (a.put oi.dst v) w → Q (.panic c) a w) (hy : YieldsIf P ops S oi v a) (hS : S w)
    (h : wpAnyZ P md ops Q S z fuel (listed.setIfInBounds i true) (a.put oi.dst v) w) : wpAnyZ P md ops Q S z (fuel + 1) listed a w := by
  rw [Bool.and_eq_true, Bool.not_eq_true'] at hz
  obtain ⟨hz1, hz2⟩ := hz
  unfold waitsB at hz1
  cases ho : ops[z]? with
  | none => rw [ho] at hz1; cases hz1
  | some oz =>
    rw [ho, hi] at hz1
    simp only [Bool.and_eq_true] at hz1
    obtain ⟨hw1, hw2⟩ := hz1
    obtain ⟨k, hk, he⟩ := Array.any_eq_true.1 hw1
    rw [Bool.and_eq_true, beq_iff_eq] at he
    have zi : z ≠ i ∨ True := Or.inr trivial
    have hself : ∀ d, oi.dst = some d → d ∉ oi.looksAt ops := fun d hd => by
      rw [hd] at hw2
      simpa using hw2
    have hready : i ∈ Region.ready md ops listed := by simpa using hr
    -- a list that i may be added to or not: z is none of it
    have hset : ∀ (L : Array Bool) (j : Nat), j ≠ z → (L.setIfInBounds j true).getD z true = L.getD z true := fun L j hj => getD_set_ne true hj
    have hiz : i ≠ z := fun e => by
      subst e
      have := mem_ready.1 hready
      obtain ⟨hl0, o, ho', hd⟩ := this
      rw [ho] at ho'
      injection ho' with ho'
      subst ho'
      have h1 := hd _ (Array.getElem_mem hk) he.1
      rw [he.2] at h1
      rcases Nat.lt_or_ge i listed.size with hs2 | hs2
      · simp [hs2] at h1 hz2
        rw [h1] at hz2
        cases hz2
      · simp [Array.getElem?_eq_none hs2] at h1
    exact goes_first (D := S) (R := Eq) (T := knownZ S z) ⟨hi, Region.noSelect_spec hs, hself, hQ⟩ (fun _ => rfl) (fun h h' => h.trans h') (fun L => L.getD z true = false)
      (fun L j oj hL hj hno => by
        refine (hset L j fun e => ?_).trans hL
        subst e
        rw [ho] at hj
        injection hj with hj
        subst hj
        exact hno _ (Array.getElem_mem hk) he.1 he.2)
      (fun L a w hL hT => hT hL) (fun L a w w' hL hT e => e ▸ hT) (fun L a w hL => by unfold knownZ; rw [hset L i hiz])
      fuel listed a w hz2 (Region.free_spec hi hf) hready (hy.imp (fun h => ⟨h.1, fun w hw => Or.inl (h.2 w hw)⟩) id) (fun _ => hS) (fun w' e _ => by subst e; exact h)
/-- 'is' are to be taken first (as takesH, XTkl). -/
structure TakeZ (P : Program) (md : Region.Mode) (ops : Array Oper) (Q : Exit → Act → World → Prop) (S : World → Prop) (z : Nat) (is : List Nat) (fuel : Nat) (listed : Array Bool) (a : Act) (w : World) : Prop where
  run : wpAnyZ P md ops Q S z fuel listed a w
theorem takesZ {z : Nat} (is : List Nat) {fuel : Nat} {listed : Array Bool} {a : Act} {w : World} (h : TakeZ P md ops Q S z is fuel listed a w) : wpAnyZ P md ops Q S z fuel listed a w := h.run
theorem takesZ_nil {z : Nat} {fuel : Nat} {listed : Array Bool} {a : Act} {w : World} (h : wpAnyZ P md ops Q S z fuel listed a w) : TakeZ P md ops Q S z [] fuel listed a w := ⟨h⟩
theorem takesZ_one {z i : Nat} {is : List Nat} {oi : Oper} {v : Value} {fuel : Nat} {listed : Array Bool} {a : Act} {w : World} (hy : YieldsIf P ops S oi v a)
    (h : TakeZ P md ops Q S z is fuel (listed.setIfInBounds i true) (a.put oi.dst v) w) (hi : ops[i]? = some oi := by rfl)
    (hs : Region.noSelect ops = true := by kernel_rfl) (hf : Region.free md ops listed i = true := by kernel_rfl) (hr : (Region.ready md ops listed).contains i = true := by kernel_rfl) (hz : (waitsB md ops z i && !listed.getD z true) = true := by kernel_rfl)
    (hQ : ∀ c a w, Q (.panic c) (a.put oi.dst v) w → Q (.panic c) a w := by exact fun _ _ _ h => h) (hS : S w := by assumption) : TakeZ P md ops Q S z (i :: is) (fuel + 1) listed a w :=
  ⟨wpAnyZ_take hi hs hf hr hz hQ hy hS h.run⟩
theorem wpAnyZ_done {listed : Array Bool} {a : Act} {w : World} (hr : Region.ready md ops listed = []) (h : Q .normal a w) : ∀ fuel, wpAnyZ P md ops Q S z fuel listed a w
  | 0 => ⟨hr, h⟩
  | _ + 1 => ⟨fun _ => h, fun i hi => by rw [hr] at hi; cases hi⟩
/-- One alone may come up. -/
theorem wpAnyZ_one {fuel : Nat} {listed : Array Bool} {a : Act} {w : World} {i : Nat} {o : Oper} (hr : Region.ready md ops listed = [i]) (ho : ops[i]? = some o)
    (h : ∀ K' : Act → World → Prop, Shut (∀ a w, S w → (S w → wpAnyZ P md ops Q S z fuel (listed.setIfInBounds i true) a w) → K' a w) → if Region.wanted o (yielded ops a.tmps) = true then Oper.wp P o a w K' Q else K' (a.put o.dst undef) w) :
    wpAnyZ P md ops Q S z (fuel + 1) listed a w := by
  refine ⟨fun e => (by rw [hr] at e; cases e), fun j hj => ?_⟩
  rw [hr] at hj
  rw [List.mem_singleton.1 hj]
  exact wpOp_step ho fun K' hK => h K' fun a' w' hS hgo => hK a' w' ⟨fun _ => hS, fun w'' e _ => by subst e; exact hgo hS⟩
/-- .. and it is z. -/
theorem wpAnyZ_last {fuel : Nat} {listed : Array Bool} {a : Act} {w : World} {o : Oper} (hr : Region.ready md ops listed = [z]) (ho : ops[z]? = some o)
    (h : ∀ K' : Act → World → Prop, Shut (∀ a w, wpAnyZ P md ops Q S z fuel (listed.setIfInBounds z true) a w → K' a w) → if Region.wanted o (yielded ops a.tmps) = true then Oper.wp P o a w K' Q else K' (a.put o.dst undef) w) :
    wpAnyZ P md ops Q S z (fuel + 1) listed a w := by
  refine ⟨fun e => (by rw [hr] at e; cases e), fun j hj => ?_⟩
  rw [hr] at hj
  rw [List.mem_singleton.1 hj]
  refine wpOp_step ho fun K' hK => h K' fun a' w' hgo => hK a' w' ⟨fun e => ?_, fun w'' e _ => by subst e; exact hgo⟩
  rcases Nat.lt_or_ge z listed.size with hs | hs
  · simp [hs] at e
  · simp [Array.getElem?_eq_none hs] at e
theorem wp_region_z {id : Nat} {a : Act} {w : World} (z : Nat) (hm : P.follows .mixedOrders = true) (hS : S w.drew)
    (h : S w.drew → wpAnyZ P .any ops Q S z ops.size (Array.replicate ops.size false) a w.drew) : (Code.region id ops true).wp P Q a w :=
  wp_region_any hm (goes_any (fun _ => rfl) _ _ _ _ (h hS))
end
end Go.Proofs.YthfanonjokpflaaGreat
set_option linter.unusedVariables false
namespace Go.Proofs.YthfanonjokpflaaGreat
open Go Go.RowKit

def goB (s : ByteArray) (i : Nat) : Bool := decide (i < s.size) && decide (128 ≤ bt s i) && decide (bt s i < 192)
theorem goB_iff (s : ByteArray) (i : Nat) : goB s i = true ↔ goesOn s i := by
  unfold goB goesOn
  simp [and_assoc]
def contB (s : ByteArray) (a n : Nat) : Bool := (List.range n).all fun j => goB s (a + j)

theorem and192_all : ∀ x : Fin 256, (bits BinOp.and IntKind.u8 (x.val : Int) 192 != 128) = !(decide (128 ≤ x.val) && decide (x.val < 192)) := by decide +kernel
theorem and192 (x : Nat) (h : x < 256) : (bits BinOp.and IntKind.u8 (x : Int) 192 != 128) = !(decide (128 ≤ x) && decide (x < 192)) := and192_all ⟨x, h⟩
theorem and31_all : ∀ x : Fin 256, bits BinOp.and IntKind.i32 (x.val : Int) 31 = ((x.val % 32 : Nat) : Int) := by decide +kernel
theorem and15_all : ∀ x : Fin 256, bits BinOp.and IntKind.i32 (x.val : Int) 15 = ((x.val % 16 : Nat) : Int) := by decide +kernel
theorem and7_all : ∀ x : Fin 256, bits BinOp.and IntKind.i32 (x.val : Int) 7 = ((x.val % 8 : Nat) : Int) := by decide +kernel
theorem and31 (x : Nat) (h : x < 256) : bits BinOp.and IntKind.i32 (x : Int) 31 = ((x % 32 : Nat) : Int) := and31_all ⟨x, h⟩
theorem and15 (x : Nat) (h : x < 256) : bits BinOp.and IntKind.i32 (x : Int) 15 = ((x % 16 : Nat) : Int) := and15_all ⟨x, h⟩
theorem and7 (x : Nat) (h : x < 256) : bits BinOp.and IntKind.i32 (x : Int) 7 = ((x % 8 : Nat) : Int) := and7_all ⟨x, h⟩
theorem and63_all : ∀ x : Fin 256, bits BinOp.and IntKind.u8 (x.val : Int) 63 = ((x.val % 64 : Nat) : Int) := by decide +kernel

set_option maxHeartbeats 1600000 in
set_option maxRecDepth 100000 in
theorem cont_any (s : ByteArray) (a n : Nat) (w : World) (hs : s.size ≤ 1099511627776) (ha : a ≤ s.size) (hn : n ≤ 3) :
    Calls Tryz.prog 123 #[.string s, .int .i64 a, .int .i64 n] w fun e w' => e = .returned (.bool (contB s a n)) ∧ w = w' := by
  by_cases hb : (s.size : Int) < (a : Int) + n
  · have hc : contB s a n = false := by
      unfold contB
      rw [List.all_eq_false]
      refine ⟨s.size - a, by rw [List.mem_range]; omega, ?_⟩
      unfold goB
      rw [show a + (s.size - a) = s.size from by omega]
      simp
    have HC := Lib.hid hc
    clear hc
    go_enter Tryz.func123, Tryz.ntmps123
    go_wp2
    go_ret
    exact ⟨ret_bool HC.out.symm, rfl⟩
  · go_enter Tryz.func123, Tryz.ntmps123
    go_wp2
    go_loop [7] (fun i => ∃ k : Nat, k ≤ n ∧ i = .int .i64 ((a : Int) + k) ∧ (List.range k).all (fun j => goB s (a + j)) = true) (fun i => (a + n) - (intOf i).toNat)
    case atStart => exact ⟨0, Nat.zero_le _, by simp, by simp⟩
    case round =>
      obtain ⟨k, hk, rfl, hall⟩ := hrel
      have HA := Lib.hid hall
      clear hall
      by_cases hlt : (a : Int) + k < (a : Int) + n
      · have hin : (a : Int) + k < s.size := by omega
        have hin2 : a + k < s.size := by omega
        have hin0 : (0 : Int) ≤ (a : Int) + k := by omega
        have hbt : bt s (a + k) = s[a + k].toNat := bt_at s (a + k) hin2
        have h256 := bt_lt s (a + k)
        have hand := and192 (s[a + k].toNat) (by omega)
        by_cases hg : goB s (a + k) = true
        · have hf : (bits BinOp.and IntKind.u8 (s[a + k].toNat : Int) 192 != 128) = false := by
            rw [hand, ← hbt]
            unfold goB at hg
            simp only [Bool.and_eq_true, decide_eq_true_eq] at hg
            rw [decide_eq_true hg.1.2, decide_eq_true hg.2]
            rfl
          have HG := Lib.hid hg
          clear hand hg hbt
          go_wp2
          go_round
          case rel => exact ⟨k + 1, by omega, by congr 1, by rw [List.range_succ, List.all_append, HA.out]; simp [HG.out]⟩
          case measure => simp [intOf]; omega
        · have hf : (bits BinOp.and IntKind.u8 (s[a + k].toNat : Int) 192 != 128) = true := by
            rw [hand, ← hbt]
            unfold goB at hg
            rw [decide_eq_true hin2, Bool.true_and] at hg
            rw [Bool.eq_false_iff.2 hg]
            rfl
          have hc : contB s a n = false := by
            unfold contB
            rw [List.all_eq_false]
            exact ⟨k, by rw [List.mem_range]; omega, hg⟩
          have HC := Lib.hid hc
          clear hand hg hbt hc
          go_wp2
          go_ret
          exact ⟨ret_bool HC.out.symm, rfl⟩
      · obtain rfl : k = n := by omega
        go_wp2
        go_ret
        exact ⟨ret_bool HA.out.symm, rfl⟩

def oneV (c : Nat × Nat) (p : Nat) : Value := .agg #[.int .i32 (c.1 : Nat), .int .i64 (p : Nat), .int .i64 (c.2 : Nat), .bool (rightB (c.1, p, c.2))]

set_option maxHeartbeats 3200000 in
set_option maxRecDepth 100000 in
theorem one_low (s : ByteArray) (p : Nat) (w : World) (hs : s.size ≤ 1099511627776) (hp : p < s.size) (h : s[p].toNat < 128) :
    Calls Tryz.prog 117 #[.string s, .int .i64 p] w fun e w' => e = .returned (.agg #[.int .i32 (s[p].toNat : Nat), .int .i64 (p : Nat), .int .i64 1, .bool true]) ∧ Below w.heap.size w w' := by
  go_enter Tryz.func117, Tryz.ntmps117
  go_wp2
  exact bodyPost_ret (v := .agg #[.int .i32 (s[p].toNat : Nat), .int .i64 (p : Nat), .int .i64 1, .bool true]) (by simp [results, Tryz.results117, go_sem]) rfl ⟨rfl, ((Below.refl _ _).alloc (Nat.le_refl _) _).alloc (by simp) _⟩

theorem or_step (x b : Nat) (hx : x ≤ 131071) (hb : b < 256) : Value.int .i32 (bits .or .i32 ((x : Int) * 64) (wrap32 (bits .and .u8 (b : Int) 63))) = Value.int .i32 ((x * 64 + b % 64 : Nat) : Int) := by
  have h1 : bits BinOp.and IntKind.u8 (b : Int) 63 = ((b % 64 : Nat) : Int) := and63_all ⟨b, hb⟩
  have h2 : wrap32 ((b % 64 : Nat) : Int) = ((b % 64 : Nat) : Int) := by unfold wrap32; omega
  rw [h1, h2, i32_or6 (x := (x : Int) * 64) (y := ((b % 64 : Nat) : Int)) (by omega) (by omega) (by omega) (by omega) (by omega)]
  congr 1

/-- What the bytes behind the first one make of r0. -/
def rr (s : ByteArray) (p r0 : Nat) : Nat → Nat
  | 0 => r0
  | k + 1 => rr s p r0 k * 64 + bt s (p + (k + 1)) % 64
theorem rr_small (s : ByteArray) (p r0 k : Nat) (h : r0 ≤ 31) (hk : k ≤ 2) : rr s p r0 k ≤ 131071 := by
  have : k = 0 ∨ k = 1 ∨ k = 2 := by omega
  rcases this with rfl | rfl | rfl <;> simp only [rr] <;> omega

/-- Whether so many bytes made a code point too small, or none. -/
def wrongR (n r : Nat) : Bool := (n == 2 && (decide (r < 2048) || (decide (55296 ≤ r) && decide (r < 57344)))) || (n == 3 && (decide (r < 65536) || decide (1114111 < r)))

set_option maxHeartbeats 1600000 in
set_option maxRecDepth 100000 in
theorem one_bad1 (s : ByteArray) (p : Nat) (w : World) (hs : s.size ≤ 1099511627776) (hp : p < s.size) (h1 : 128 ≤ s[p].toNat) (h2 : s[p].toNat < 194) :
    Calls Tryz.prog 117 #[.string s, .int .i64 p] w fun e w' => e = .returned (.agg #[.int .i32 65533, .int .i64 (p : Nat), .int .i64 1, .bool false]) ∧ Below w.heap.size w w' := by
  have f0 : ¬ (s[p].toNat : Int) < 128 := by omega
  have f1 : ¬ 194 ≤ (s[p].toNat : Int) := by omega
  have f2 : ¬ 224 ≤ (s[p].toNat : Int) := by omega
  have f3 : ¬ 240 ≤ (s[p].toNat : Int) := by omega
  go_enter Tryz.func117, Tryz.ntmps117
  go_wp2
  exact bodyPost_ret (v := .agg #[.int .i32 65533, .int .i64 (p : Nat), .int .i64 1, .bool false]) (by simp [results, Tryz.results117, go_sem]) rfl ⟨rfl, ((Below.refl _ _).alloc (Nat.le_refl _) _).alloc (by simp) _⟩

set_option maxHeartbeats 1600000 in
set_option maxRecDepth 100000 in
theorem one_bad2 (s : ByteArray) (p : Nat) (w : World) (hs : s.size ≤ 1099511627776) (hp : p < s.size) (h1 : 245 ≤ s[p].toNat) :
    Calls Tryz.prog 117 #[.string s, .int .i64 p] w fun e w' => e = .returned (.agg #[.int .i32 65533, .int .i64 (p : Nat), .int .i64 1, .bool false]) ∧ Below w.heap.size w w' := by
  have hlt : s[p].toNat < 256 := s[p].toNat_lt
  have f0 : ¬ (s[p].toNat : Int) < 128 := by omega
  have f1 : 194 ≤ (s[p].toNat : Int) := by omega
  have f2 : ¬ (s[p].toNat : Int) < 224 := by omega
  have f3 : 224 ≤ (s[p].toNat : Int) := by omega
  have f4 : ¬ (s[p].toNat : Int) < 240 := by omega
  have f5 : 240 ≤ (s[p].toNat : Int) := by omega
  have f6 : ¬ (s[p].toNat : Int) < 245 := by omega
  go_enter Tryz.func117, Tryz.ntmps117
  go_wp2
  exact bodyPost_ret (v := .agg #[.int .i32 65533, .int .i64 (p : Nat), .int .i64 1, .bool false]) (by simp [results, Tryz.results117, go_sem]) rfl ⟨rfl, ((Below.refl _ _).alloc (Nat.le_refl _) _).alloc (by simp) _⟩

set_option maxHeartbeats 1600000 in
set_option maxRecDepth 100000 in
theorem one_cut1 (s : ByteArray) (p : Nat) (w : World) (hs : s.size ≤ 1099511627776) (hp : p < s.size) (h1 : 194 ≤ s[p].toNat) (h2 : s[p].toNat < 224) (hc : contB s (p + 1) 1 = false) :
    Calls Tryz.prog 117 #[.string s, .int .i64 p] w fun e w' => e = .returned (.agg #[.int .i32 65533, .int .i64 (p : Nat), .int .i64 1, .bool false]) ∧ Below w.heap.size w w' := by
  have HC := Lib.hid hc
  clear hc
  have f0 : ¬ (s[p].toNat : Int) < 128 := by omega
  have f1 : 194 ≤ (s[p].toNat : Int) := by omega
  have f2 : (s[p].toNat : Int) < 224 := by omega
  go_enter Tryz.func117, Tryz.ntmps117
  go_wp2_with (go_at_call 123; refine (cont_any s (p + 1) 1 _ hs (by omega) (by omega)).mono ?_; rintro e w' ⟨rfl, rfl⟩; rw [HC.out])
  exact bodyPost_ret (v := .agg #[.int .i32 65533, .int .i64 (p : Nat), .int .i64 1, .bool false]) (by simp [results, Tryz.results117, go_sem]) rfl ⟨rfl, ((Below.refl _ _).alloc (Nat.le_refl _) _).alloc (by simp) _⟩

set_option maxHeartbeats 1600000 in
set_option maxRecDepth 100000 in
theorem one_cut2 (s : ByteArray) (p : Nat) (w : World) (hs : s.size ≤ 1099511627776) (hp : p < s.size) (h1 : 224 ≤ s[p].toNat) (h2 : s[p].toNat < 240) (hc : contB s (p + 1) 2 = false) :
    Calls Tryz.prog 117 #[.string s, .int .i64 p] w fun e w' => e = .returned (.agg #[.int .i32 65533, .int .i64 (p : Nat), .int .i64 1, .bool false]) ∧ Below w.heap.size w w' := by
  have HC := Lib.hid hc
  clear hc
  have f0 : ¬ (s[p].toNat : Int) < 128 := by omega
  have f1 : 194 ≤ (s[p].toNat : Int) := by omega
  have f2 : ¬ (s[p].toNat : Int) < 224 := by omega
  have f3 : 224 ≤ (s[p].toNat : Int) := by omega
  have f4 : (s[p].toNat : Int) < 240 := by omega
  go_enter Tryz.func117, Tryz.ntmps117
  go_wp2_with (go_at_call 123; refine (cont_any s (p + 1) 2 _ hs (by omega) (by omega)).mono ?_; rintro e w' ⟨rfl, rfl⟩; rw [HC.out])
  exact bodyPost_ret (v := .agg #[.int .i32 65533, .int .i64 (p : Nat), .int .i64 1, .bool false]) (by simp [results, Tryz.results117, go_sem]) rfl ⟨rfl, ((Below.refl _ _).alloc (Nat.le_refl _) _).alloc (by simp) _⟩

set_option maxHeartbeats 1600000 in
set_option maxRecDepth 100000 in
theorem one_cut3 (s : ByteArray) (p : Nat) (w : World) (hs : s.size ≤ 1099511627776) (hp : p < s.size) (h1 : 240 ≤ s[p].toNat) (h2 : s[p].toNat < 245) (hc : contB s (p + 1) 3 = false) :
    Calls Tryz.prog 117 #[.string s, .int .i64 p] w fun e w' => e = .returned (.agg #[.int .i32 65533, .int .i64 (p : Nat), .int .i64 1, .bool false]) ∧ Below w.heap.size w w' := by
  have HC := Lib.hid hc
  clear hc
  have f0 : ¬ (s[p].toNat : Int) < 128 := by omega
  have f1 : 194 ≤ (s[p].toNat : Int) := by omega
  have f2 : ¬ (s[p].toNat : Int) < 224 := by omega
  have f3 : 224 ≤ (s[p].toNat : Int) := by omega
  have f4 : ¬ (s[p].toNat : Int) < 240 := by omega
  have f5 : 240 ≤ (s[p].toNat : Int) := by omega
  have f6 : (s[p].toNat : Int) < 245 := by omega
  go_enter Tryz.func117, Tryz.ntmps117
  go_wp2_with (go_at_call 123; refine (cont_any s (p + 1) 3 _ hs (by omega) (by omega)).mono ?_; rintro e w' ⟨rfl, rfl⟩; rw [HC.out])
  exact bodyPost_ret (v := .agg #[.int .i32 65533, .int .i64 (p : Nat), .int .i64 1, .bool false]) (by simp [results, Tryz.results117, go_sem]) rfl ⟨rfl, ((Below.refl _ _).alloc (Nat.le_refl _) _).alloc (by simp) _⟩

end Go.Proofs.YthfanonjokpflaaGreat
set_option linter.unusedVariables false
namespace Go.Proofs.YthfanonjokpflaaGreat
open Go Go.RowKit

/-- What one answers of n bytes that go on. -/
def moreV (n r p : Nat) : Value := if wrongR n r then .agg #[.int .i32 65533, .int .i64 (p : Nat), .int .i64 1, .bool false] else .agg #[.int .i32 (r : Nat), .int .i64 (p : Nat), .int .i64 (n + 1 : Nat), .bool true]
theorem moreV_bad {n r p : Nat} (h : wrongR n r = true) : Ending.returned (.agg #[.int .i32 65533, .int .i64 (p : Nat), .int .i64 1, .bool false]) = Ending.returned (moreV n r p) := by
  unfold moreV; rw [if_pos h]
theorem moreV_ok {n r p : Nat} (h : wrongR n r = false) : Ending.returned (.agg #[.int .i32 (r : Nat), .int .i64 (p : Nat), .int .i64 ((n : Int) + 1), .bool true]) = Ending.returned (moreV n r p) := by
  unfold moreV; rw [if_neg (by rw [h]; decide)]; rfl

set_option maxHeartbeats 6400000 in
set_option maxRecDepth 100000 in
theorem one_more1 (s : ByteArray) (p r0 : Nat) (w : World) (hs : s.size ≤ 1099511627776) (hp : p < s.size)
    (h1 : 194 ≤ s[p].toNat) (h2 : s[p].toNat < 224) (h3 : s[p].toNat % 32 = r0)
    (hc : contB s (p + 1) 1 = true) (hin : p + 1 < s.size) :
    Calls Tryz.prog 117 #[.string s, .int .i64 p] w fun e w' => e = .returned (moreV 1 (rr s p r0 1) p) ∧ Below w.heap.size w w' := by
  have HC := Lib.hid hc
  clear hc
  have hr31 : r0 ≤ 31 := by omega
  have f0 : ¬ (s[p].toNat : Int) < 128 := by omega
  have f1 : 194 ≤ (s[p].toNat : Int) := by omega
  have f2 : (s[p].toNat : Int) < 224 := by omega
  have hand : bits .and .i32 (s[p].toNat : Int) 31 = (r0 : Int) := by rw [and31 _ (by omega), h3]
  have H3 := Lib.hid h3
  clear h3
  go_enter Tryz.func117, Tryz.ntmps117
  go_wp2_with (go_at_call 123; refine (cont_any s (p + 1) 1 _ hs (by omega) (by omega)).mono ?_; rintro e w' ⟨rfl, rfl⟩; rw [HC.out])
  go_loop [8, 9] (fun r i => ∃ k : Nat, k ≤ 1 ∧ i = .int .i64 (k + 1 : Nat) ∧ r = .int .i32 (rr s p r0 k : Nat)) (fun _ i => 2 - (intOf i).toNat)
  case atStart => exact ⟨0, Nat.zero_le _, rfl, rfl⟩
  case round =>
    obtain ⟨k, hk, rfl, rfl⟩ := hrel
    by_cases hlt : k < 1
    · have hsm := rr_small s p r0 k hr31 (by omega)
      have hbt := bt_at s (p + (k + 1)) (by omega)
      have hor := or_step (rr s p r0 k) (bt s (p + (k + 1))) hsm (bt_lt s _)
      rw [hbt] at hor
      have HO := Lib.hid hor
      have HB := Lib.hid hbt
      clear hor hbt
      go_wp2
      go_round
      case rel => exact ⟨k + 1, by omega, by go_num, HO.out.trans (by rw [rr, HB.out])⟩
      case measure => simp [intOf]; omega
    · obtain rfl : k = 1 := by omega
      have hw : wrongR 1 (rr s p r0 1) = false := rfl
      have HW := Lib.hid hw
      clear hw
      have hsm : rr s p r0 1 ≤ 131071 := rr_small s p r0 1 hr31 (by omega)
      go_wp2
      refine bodyPost_ret (v := .agg #[.int .i32 (rr s p r0 1 : Nat), .int .i64 (p : Nat), .int .i64 2, .bool true]) (by simp [results, Tryz.results117, go_sem]) rfl ⟨by first | exact moreV_bad HW.out | exact moreV_ok HW.out, ((Below.refl _ _).alloc (Nat.le_refl _) _).alloc (by simp) _⟩

set_option maxHeartbeats 6400000 in
set_option maxRecDepth 100000 in
theorem one_more2 (s : ByteArray) (p r0 : Nat) (w : World) (hs : s.size ≤ 1099511627776) (hp : p < s.size)
    (h1 : 224 ≤ s[p].toNat) (h2 : s[p].toNat < 240) (h3 : s[p].toNat % 16 = r0)
    (hc : contB s (p + 1) 2 = true) (hin : p + 2 < s.size) :
    Calls Tryz.prog 117 #[.string s, .int .i64 p] w fun e w' => e = .returned (moreV 2 (rr s p r0 2) p) ∧ Below w.heap.size w w' := by
  have HC := Lib.hid hc
  clear hc
  have hr31 : r0 ≤ 31 := by omega
  have f0 : ¬ (s[p].toNat : Int) < 128 := by omega
  have f1 : 194 ≤ (s[p].toNat : Int) := by omega
  have f2 : ¬ (s[p].toNat : Int) < 224 := by omega
  have f3 : 224 ≤ (s[p].toNat : Int) := by omega
  have f4 : (s[p].toNat : Int) < 240 := by omega
  have hand : bits .and .i32 (s[p].toNat : Int) 15 = (r0 : Int) := by rw [and15 _ (by omega), h3]
  have H3 := Lib.hid h3
  clear h3
  go_enter Tryz.func117, Tryz.ntmps117
  go_wp2_with (go_at_call 123; refine (cont_any s (p + 1) 2 _ hs (by omega) (by omega)).mono ?_; rintro e w' ⟨rfl, rfl⟩; rw [HC.out])
  go_loop [8, 9] (fun r i => ∃ k : Nat, k ≤ 2 ∧ i = .int .i64 (k + 1 : Nat) ∧ r = .int .i32 (rr s p r0 k : Nat)) (fun _ i => 3 - (intOf i).toNat)
  case atStart => exact ⟨0, Nat.zero_le _, rfl, rfl⟩
  case round =>
    obtain ⟨k, hk, rfl, rfl⟩ := hrel
    by_cases hlt : k < 2
    · have hsm := rr_small s p r0 k hr31 (by omega)
      have hbt := bt_at s (p + (k + 1)) (by omega)
      have hor := or_step (rr s p r0 k) (bt s (p + (k + 1))) hsm (bt_lt s _)
      rw [hbt] at hor
      have HO := Lib.hid hor
      have HB := Lib.hid hbt
      clear hor hbt
      go_wp2
      go_round
      case rel => exact ⟨k + 1, by omega, by go_num, HO.out.trans (by rw [rr, HB.out])⟩
      case measure => simp [intOf]; omega
    · obtain rfl : k = 2 := by omega
      have hsm : rr s p r0 2 ≤ 131071 := rr_small s p r0 2 hr31 (by omega)
      by_cases c1 : ((rr s p r0 2 : Nat) : Int) < 2048
      · have hw : wrongR 2 (rr s p r0 2) = true := by unfold wrongR; rw [decide_eq_true (show rr s p r0 2 < 2048 by omega)]; simp
        have HW := Lib.hid hw
        clear hw
        go_wp2
        refine bodyPost_ret (v := .agg #[.int .i32 65533, .int .i64 (p : Nat), .int .i64 1, .bool false]) (by simp [results, Tryz.results117, go_sem]) rfl ⟨by first | exact moreV_bad HW.out | exact moreV_ok HW.out, ((Below.refl _ _).alloc (Nat.le_refl _) _).alloc (by simp) _⟩
      · by_cases c2 : (55296 : Int) ≤ (rr s p r0 2 : Nat)
        · by_cases c3 : ((rr s p r0 2 : Nat) : Int) < 57344
          · have hw : wrongR 2 (rr s p r0 2) = true := by unfold wrongR; rw [decide_eq_true (show 55296 ≤ rr s p r0 2 by omega), decide_eq_true (show rr s p r0 2 < 57344 by omega)]; simp
            have HW := Lib.hid hw
            clear hw
            go_wp2
            refine bodyPost_ret (v := .agg #[.int .i32 65533, .int .i64 (p : Nat), .int .i64 1, .bool false]) (by simp [results, Tryz.results117, go_sem]) rfl ⟨by first | exact moreV_bad HW.out | exact moreV_ok HW.out, ((Below.refl _ _).alloc (Nat.le_refl _) _).alloc (by simp) _⟩
          · have hw : wrongR 2 (rr s p r0 2) = false := by unfold wrongR; rw [decide_eq_false (show ¬ rr s p r0 2 < 2048 by omega), decide_eq_false (show ¬ rr s p r0 2 < 57344 by omega)]; simp
            have HW := Lib.hid hw
            clear hw
            go_wp2
            refine bodyPost_ret (v := .agg #[.int .i32 (rr s p r0 2 : Nat), .int .i64 (p : Nat), .int .i64 3, .bool true]) (by simp [results, Tryz.results117, go_sem]) rfl ⟨by first | exact moreV_bad HW.out | exact moreV_ok HW.out, ((Below.refl _ _).alloc (Nat.le_refl _) _).alloc (by simp) _⟩
        · have hw : wrongR 2 (rr s p r0 2) = false := by unfold wrongR; rw [decide_eq_false (show ¬ rr s p r0 2 < 2048 by omega), decide_eq_false (show ¬ 55296 ≤ rr s p r0 2 by omega)]; simp
          have HW := Lib.hid hw
          clear hw
          go_wp2
          refine bodyPost_ret (v := .agg #[.int .i32 (rr s p r0 2 : Nat), .int .i64 (p : Nat), .int .i64 3, .bool true]) (by simp [results, Tryz.results117, go_sem]) rfl ⟨by first | exact moreV_bad HW.out | exact moreV_ok HW.out, ((Below.refl _ _).alloc (Nat.le_refl _) _).alloc (by simp) _⟩

set_option maxHeartbeats 6400000 in
set_option maxRecDepth 100000 in
theorem one_more3 (s : ByteArray) (p r0 : Nat) (w : World) (hs : s.size ≤ 1099511627776) (hp : p < s.size)
    (h1 : 240 ≤ s[p].toNat) (h2 : s[p].toNat < 245) (h3 : s[p].toNat % 8 = r0)
    (hc : contB s (p + 1) 3 = true) (hin : p + 3 < s.size) :
    Calls Tryz.prog 117 #[.string s, .int .i64 p] w fun e w' => e = .returned (moreV 3 (rr s p r0 3) p) ∧ Below w.heap.size w w' := by
  have HC := Lib.hid hc
  clear hc
  have hr31 : r0 ≤ 31 := by omega
  have f0 : ¬ (s[p].toNat : Int) < 128 := by omega
  have f1 : 194 ≤ (s[p].toNat : Int) := by omega
  have f2 : ¬ (s[p].toNat : Int) < 224 := by omega
  have f3 : 224 ≤ (s[p].toNat : Int) := by omega
  have f4 : ¬ (s[p].toNat : Int) < 240 := by omega
  have f5 : 240 ≤ (s[p].toNat : Int) := by omega
  have f6 : (s[p].toNat : Int) < 245 := by omega
  have hand : bits .and .i32 (s[p].toNat : Int) 7 = (r0 : Int) := by rw [and7 _ (by omega), h3]
  have H3 := Lib.hid h3
  clear h3
  go_enter Tryz.func117, Tryz.ntmps117
  go_wp2_with (go_at_call 123; refine (cont_any s (p + 1) 3 _ hs (by omega) (by omega)).mono ?_; rintro e w' ⟨rfl, rfl⟩; rw [HC.out])
  go_loop [8, 9] (fun r i => ∃ k : Nat, k ≤ 3 ∧ i = .int .i64 (k + 1 : Nat) ∧ r = .int .i32 (rr s p r0 k : Nat)) (fun _ i => 4 - (intOf i).toNat)
  case atStart => exact ⟨0, Nat.zero_le _, rfl, rfl⟩
  case round =>
    obtain ⟨k, hk, rfl, rfl⟩ := hrel
    by_cases hlt : k < 3
    · have hsm := rr_small s p r0 k hr31 (by omega)
      have hbt := bt_at s (p + (k + 1)) (by omega)
      have hor := or_step (rr s p r0 k) (bt s (p + (k + 1))) hsm (bt_lt s _)
      rw [hbt] at hor
      have HO := Lib.hid hor
      have HB := Lib.hid hbt
      clear hor hbt
      go_wp2
      go_round
      case rel => exact ⟨k + 1, by omega, by go_num, HO.out.trans (by rw [rr, HB.out])⟩
      case measure => simp [intOf]; omega
    · obtain rfl : k = 3 := by omega
      have hsm : rr s p r0 3 ≤ 8388607 := by have := rr_small s p r0 2 hr31 (by omega); have := bt_lt s (p + 3); simp only [rr] at *; omega
      by_cases c1 : ((rr s p r0 3 : Nat) : Int) < 65536
      · have hw : wrongR 3 (rr s p r0 3) = true := by unfold wrongR; rw [decide_eq_true (show rr s p r0 3 < 65536 by omega)]; simp
        have HW := Lib.hid hw
        clear hw
        go_wp2
        refine bodyPost_ret (v := .agg #[.int .i32 65533, .int .i64 (p : Nat), .int .i64 1, .bool false]) (by simp [results, Tryz.results117, go_sem]) rfl ⟨by first | exact moreV_bad HW.out | exact moreV_ok HW.out, ((Below.refl _ _).alloc (Nat.le_refl _) _).alloc (by simp) _⟩
      · by_cases c2 : (1114111 : Int) < (rr s p r0 3 : Nat)
        · have hw : wrongR 3 (rr s p r0 3) = true := by unfold wrongR; rw [decide_eq_true (show 1114111 < rr s p r0 3 by omega)]; simp
          have HW := Lib.hid hw
          clear hw
          go_wp2
          refine bodyPost_ret (v := .agg #[.int .i32 65533, .int .i64 (p : Nat), .int .i64 1, .bool false]) (by simp [results, Tryz.results117, go_sem]) rfl ⟨by first | exact moreV_bad HW.out | exact moreV_ok HW.out, ((Below.refl _ _).alloc (Nat.le_refl _) _).alloc (by simp) _⟩
        · have hw : wrongR 3 (rr s p r0 3) = false := by unfold wrongR; rw [decide_eq_false (show ¬ rr s p r0 3 < 65536 by omega), decide_eq_false (show ¬ 1114111 < rr s p r0 3 by omega)]; simp
          have HW := Lib.hid hw
          clear hw
          go_wp2
          refine bodyPost_ret (v := .agg #[.int .i32 (rr s p r0 3 : Nat), .int .i64 (p : Nat), .int .i64 4, .bool true]) (by simp [results, Tryz.results117, go_sem]) rfl ⟨by first | exact moreV_bad HW.out | exact moreV_ok HW.out, ((Below.refl _ _).alloc (Nat.le_refl _) _).alloc (by simp) _⟩

end Go.Proofs.YthfanonjokpflaaGreat
set_option linter.unusedVariables false
namespace Go.Proofs.YthfanonjokpflaaGreat
open Go Go.RowKit

theorem contB_iff (s : ByteArray) (p n : Nat) : contB s (p + 1) n = true ↔ ∀ j, j < n → goesOn s (p + 1 + j) := by
  unfold contB
  rw [List.all_eq_true]
  constructor
  · intro h j hj; exact (goB_iff s _).1 (h j (List.mem_range.2 hj))
  · intro h j hj; exact (goB_iff s _).2 (h j (List.mem_range.1 hj))

theorem oneV_bad (s : ByteArray) (p : Nat) (h : Utf8.decode s p = (65533, 1)) : oneV (Utf8.decode s p) p = .agg #[.int .i32 65533, .int .i64 (p : Nat), .int .i64 1, .bool false] := by
  rw [h]; rfl

theorem wrong2_iff (R : Nat) : wrongR 2 R = true ↔ (R < 2048 ∨ (55296 ≤ R ∧ R < 57344)) := by
  unfold wrongR
  simp
theorem wrong3_iff (R : Nat) : wrongR 3 R = true ↔ (R < 65536 ∨ 1114111 < R) := by
  unfold wrongR
  simp

theorem dec3 (s : ByteArray) (p : Nat) (h1 : 224 ≤ bt s p) (h2 : bt s p < 240) (g1 : goesOn s (p + 1)) (g2 : goesOn s (p + 2)) :
    (wrongR 2 (rr s p (bt s p % 16) 2) = true ∧ Utf8.decode s p = (65533, 1)) ∨ (wrongR 2 (rr s p (bt s p % 16) 2) = false ∧ Utf8.decode s p = (rr s p (bt s p % 16) 2, 3)) := by
  obtain ⟨R, hR⟩ : ∃ R, rr s p (bt s p % 16) 2 = R := ⟨_, rfl⟩
  rw [hR]
  simp only [rr, Nat.zero_add, Nat.reduceAdd] at hR
  rw [Bool.eq_false_iff, ne_eq, wrong2_iff]
  rcases decode_cases s p with ⟨x0, e⟩ | ⟨x0, x1, x2, e⟩ | ⟨x0, x1, x2, x3, c, hc, x4, x5, e⟩ | ⟨x0, x1, x2, x3, x4, c, hc, x5, x6, e⟩ | ⟨x0, e, x1, x2, x3⟩
  · omega
  · omega
  · obtain rfl : c = R := by omega
    exact .inr ⟨by omega, e⟩
  · omega
  · refine .inl ⟨?_, e⟩
    rcases Nat.lt_or_ge R 2048 with h | h
    · exact .inl h
    · right
      by_cases h3 : 55296 ≤ R ∧ R < 57344
      · exact h3
      · exact absurd ⟨h1, h2, g1, g2, by omega, by omega⟩ x2
theorem dec4 (s : ByteArray) (p : Nat) (h1 : 240 ≤ bt s p) (h2 : bt s p < 248) (g1 : goesOn s (p + 1)) (g2 : goesOn s (p + 2)) (g3 : goesOn s (p + 3)) :
    (wrongR 3 (rr s p (bt s p % 8) 3) = true ∧ Utf8.decode s p = (65533, 1)) ∨ (wrongR 3 (rr s p (bt s p % 8) 3) = false ∧ Utf8.decode s p = (rr s p (bt s p % 8) 3, 4)) := by
  obtain ⟨R, hR⟩ : ∃ R, rr s p (bt s p % 8) 3 = R := ⟨_, rfl⟩
  rw [hR]
  simp only [rr, Nat.zero_add, Nat.reduceAdd] at hR
  rw [Bool.eq_false_iff, ne_eq, wrong3_iff]
  rcases decode_cases s p with ⟨x0, e⟩ | ⟨x0, x1, x2, e⟩ | ⟨x0, x1, x2, x3, c, hc, x4, x5, e⟩ | ⟨x0, x1, x2, x3, x4, c, hc, x5, x6, e⟩ | ⟨x0, e, x1, x2, x3⟩
  · omega
  · omega
  · omega
  · obtain rfl : c = R := by omega
    exact .inr ⟨by omega, e⟩
  · refine .inl ⟨?_, e⟩
    rcases Nat.lt_or_ge R 65536 with h | h
    · exact .inl h
    · right
      rcases Nat.lt_or_ge 1114111 R with h3 | h3
      · exact h3
      · exact absurd ⟨h1, h2, g1, g2, g3, by omega, by omega⟩ x3

theorem moreV_two (R p : Nat) (h : wrongR 2 R = false) : moreV 2 R p = oneV (R, 3) p := by
  have hr : rightB (R, p, 3) = true := by unfold rightB; simp
  unfold moreV oneV
  rw [h, hr, if_neg (by decide)]
theorem moreV_three (R p : Nat) (h : wrongR 3 R = false) : moreV 3 R p = oneV (R, 4) p := by
  have hn : ¬ (R < 65536 ∨ 1114111 < R) := by rw [← wrong3_iff, h]; decide
  have hr : rightB (R, p, 4) = true := by unfold rightB; rw [beq_eq_false_iff_ne.2 (show R ≠ 65533 by omega)]; rfl
  unfold moreV oneV
  rw [h, hr, if_neg (by decide)]
theorem moreV_no (n R p : Nat) (h : wrongR n R = true) : moreV n R p = oneV (65533, 1) p := by
  unfold moreV
  rw [if_pos h]
  rfl

set_option maxRecDepth 100000 in
theorem one_any (s : ByteArray) (p : Nat) (w : World) (hs : s.size ≤ 1099511627776) (hp : p < s.size) :
    Calls Tryz.prog 117 #[.string s, .int .i64 p] w fun e w' => e = .returned (oneV (Utf8.decode s p) p) ∧ Below w.heap.size w w' := by
  have hbt : bt s p = s[p].toNat := bt_at s p hp
  have hb256 := bt_lt s p
  have hd := decode_cases s p
  rw [hbt] at hd hb256
  by_cases h128 : s[p].toNat < 128
  · have e : Utf8.decode s p = (s[p].toNat, 1) := by
      rcases hd with ⟨x0, e⟩ | ⟨x0, x1, x2, e⟩ | ⟨x0, x1, x2, x3, c, hc, x4, x5, e⟩ | ⟨x0, x1, x2, x3, x4, c, hc, x5, x6, e⟩ | ⟨x0, e, x1, x2, x3⟩
      · exact e
      all_goals omega
    have hr : rightB (s[p].toNat, p, 1) = true := by unfold rightB; rw [beq_eq_false_iff_ne.2 (show s[p].toNat ≠ 65533 by omega)]; rfl
    rw [e]
    unfold oneV
    rw [hr]
    exact one_low s p w hs hp h128
  by_cases h194 : s[p].toNat < 194
  · have e : Utf8.decode s p = (65533, 1) := by
      rcases hd with ⟨x0, e⟩ | ⟨x0, x1, x2, e⟩ | ⟨x0, x1, x2, x3, c, hc, x4, x5, e⟩ | ⟨x0, x1, x2, x3, x4, c, hc, x5, x6, e⟩ | ⟨x0, e, x1, x2, x3⟩
      · omega
      · omega
      · omega
      · omega
      · exact e
    rw [oneV_bad s p e]
    exact one_bad1 s p w hs hp (by omega) h194
  by_cases h245 : 245 ≤ s[p].toNat
  · have e : Utf8.decode s p = (65533, 1) := by
      rcases hd with ⟨x0, e⟩ | ⟨x0, x1, x2, e⟩ | ⟨x0, x1, x2, x3, c, hc, x4, x5, e⟩ | ⟨x0, x1, x2, x3, x4, c, hc, x5, x6, e⟩ | ⟨x0, e, x1, x2, x3⟩
      · omega
      · omega
      · omega
      · have := bt_lt s (p + 1); omega
      · exact e
    rw [oneV_bad s p e]
    exact one_bad2 s p w hs hp h245
  by_cases h224 : s[p].toNat < 224
  · by_cases hc : contB s (p + 1) 1 = true
    · have g := (contB_iff s p 1).1 hc
      have g1 := g 0 (by omega)
      have e : Utf8.decode s p = (s[p].toNat % 32 * 64 + bt s (p + 1) % 64, 2) := by
        rcases hd with ⟨x0, e⟩ | ⟨x0, x1, x2, e⟩ | ⟨x0, x1, x2, x3, c, hc, x4, x5, e⟩ | ⟨x0, x1, x2, x3, x4, c, hc, x5, x6, e⟩ | ⟨x0, e, x1, x2, x3⟩
        · omega
        · exact e
        · omega
        · omega
        · exact absurd ⟨by omega, h224, g1⟩ x1
      have hr : rightB (s[p].toNat % 32 * 64 + bt s (p + 1) % 64, p, 2) = true := by unfold rightB; rw [beq_eq_false_iff_ne.2 (show s[p].toNat % 32 * 64 + bt s (p + 1) % 64 ≠ 65533 by omega)]; rfl
      refine (one_more1 s p _ w hs hp (by omega) h224 rfl hc (by have := g1.1; omega)).mono fun e' w' ⟨h1, h2⟩ => ⟨?_, h2⟩
      rw [h1, e]
      unfold oneV
      rw [hr]
      rfl
    · have hc2 : contB s (p + 1) 1 = false := by simpa using hc
      have e : Utf8.decode s p = (65533, 1) := by
        rcases hd with ⟨x0, e⟩ | ⟨x0, x1, x2, e⟩ | ⟨x0, x1, x2, x3, c, hc, x4, x5, e⟩ | ⟨x0, x1, x2, x3, x4, c, hc, x5, x6, e⟩ | ⟨x0, e, x1, x2, x3⟩
        · omega
        · exact absurd ((contB_iff s p 1).2 (fun j hj => by obtain rfl : j = 0 := by omega
                                                            exact x2)) hc
        · omega
        · omega
        · exact e
      rw [oneV_bad s p e]
      exact one_cut1 s p w hs hp (by omega) h224 hc2
  by_cases h240 : s[p].toNat < 240
  · by_cases hc : contB s (p + 1) 2 = true
    · have g := (contB_iff s p 2).1 hc
      have g1 := g 0 (by omega)
      have g2 := g 1 (by omega)
      refine (one_more2 s p _ w hs hp (by omega) h240 rfl hc (by have := g2.1; omega)).mono fun e' w' ⟨h1, h2⟩ => ⟨?_, h2⟩
      rw [h1]
      congr 1
      have h3 := dec3 s p (by omega) (by omega) g1 g2
      rw [hbt] at h3
      rcases h3 with ⟨hw, e⟩ | ⟨hw, e⟩
      · rw [e, moreV_no 2 _ p hw]
      · rw [e, moreV_two _ p hw]
    · have hc2 : contB s (p + 1) 2 = false := by simpa using hc
      have e : Utf8.decode s p = (65533, 1) := by
        rcases hd with ⟨x0, e⟩ | ⟨x0, x1, x2, e⟩ | ⟨x0, x1, x2, x3, c, hc, x4, x5, e⟩ | ⟨x0, x1, x2, x3, x4, c, hc, x5, x6, e⟩ | ⟨x0, e, x1, x2, x3⟩
        · omega
        · omega
        · exact absurd ((contB_iff s p 2).2 (fun j hj => by
            have : j = 0 ∨ j = 1 := by omega
            rcases this with rfl | rfl
            · exact x2
            · exact x3)) (by rw [hc2]; decide)
        · omega
        · exact e
      rw [oneV_bad s p e]
      exact one_cut2 s p w hs hp (by omega) h240 hc2
  · by_cases hc : contB s (p + 1) 3 = true
    · have g := (contB_iff s p 3).1 hc
      have g1 := g 0 (by omega)
      have g2 := g 1 (by omega)
      have g3 := g 2 (by omega)
      refine (one_more3 s p _ w hs hp (by omega) (by omega) rfl hc (by have := g3.1; omega)).mono fun e' w' ⟨h1, h2⟩ => ⟨?_, h2⟩
      rw [h1]
      congr 1
      have h3 := dec4 s p (by omega) (by omega) g1 g2 g3
      rw [hbt] at h3
      rcases h3 with ⟨hw, e⟩ | ⟨hw, e⟩
      · rw [e, moreV_no 3 _ p hw]
      · rw [e, moreV_three _ p hw]
    · have hc2 : contB s (p + 1) 3 = false := by simpa using hc
      have e : Utf8.decode s p = (65533, 1) := by
        rcases hd with ⟨x0, e⟩ | ⟨x0, x1, x2, e⟩ | ⟨x0, x1, x2, x3, c, hc, x4, x5, e⟩ | ⟨x0, x1, x2, x3, x4, c, hc, x5, x6, e⟩ | ⟨x0, e, x1, x2, x3⟩
        · omega
        · omega
        · omega
        · exact absurd ((contB_iff s p 3).2 (fun j hj => by
            have : j = 0 ∨ j = 1 ∨ j = 2 := by omega
            rcases this with rfl | rfl | rfl
            · exact x2
            · exact x3
            · exact x4)) (by rw [hc2]; decide)
        · exact e
      rw [oneV_bad s p e]
      exact one_cut3 s p w hs hp (by omega) (by omega) hc2
end Go.Proofs.YthfanonjokpflaaGreat
set_option linter.unusedVariables false
namespace Go.Proofs.YthfanonjokpflaaGreat
open Go Go.RowKit

def rcells (c : Nat × Nat × Nat) : List Value := [.int .i32 (c.1 : Nat), .int .i64 (c.2.1 : Nat), .int .i64 (c.2.2 : Nat), .bool (rightB c)]

theorem below_grown {w w' : World} (h : Below w.heap.size w w') : w.grownBy w' none := ⟨h.os, h.tape, h.output, h.size, fun k hk _ => h.block k hk⟩
theorem owns_below {w w' : World} {B : Nat} {e : TypeId} {sz : Nat} {v : Value} {n : Nat} {xs : List Value} (h : w.ownsRow B e sz v n xs) (hb : Below w.heap.size w w') : w'.ownsRow B e sz v n xs :=
  h.kept (below_grown hb) (by cases hv : v.ownBlock <;> simp)

theorem infoRune : (Tryz.prog.info? 149).map (fun i => (i.zero, i.size, i.bytes)) = some (some (.agg #[.int .i32 0, .int .i64 0, .int .i64 0, .bool false]), 4, 32) := by kernel_rfl

theorem news_list (w : World) (l : List Value) (T : TypeId) (g : Nat) (hg : g = w.heap.size) : ∀ j u, l[j]? = some u → (w.alloc (.cells l.toArray T)).cell? ((⟨g, 0, none⟩ : Addr).add j) = some u := by
  intro j u h
  subst hg
  rw [Addr.add_lit, Nat.zero_add, blk_cell (heap_alloc_new w _)]
  simpa using h

/-- What All answers: a slice of the call's own with the code points. -/
def IsAll (B : Nat) (v : Value) (l : List (Nat × Nat × Nat)) (w : World) : Prop := w.ownsRow B 149 4 v l.length (l.flatMap rcells)

set_option maxHeartbeats 3200000 in
set_option maxRecDepth 100000 in
theorem all_any (s : ByteArray) (w : World) (hs : s.size ≤ 1099511627776) :
    Calls Tryz.prog 106 #[.string s] w fun e w' => ∃ v, e = .returned v ∧ IsAll w.heap.size v (cps s) w' ∧ Below w.heap.size w w' := by
  have hlen := cps_length s
  obtain ⟨i0, hi, hz0, hz1, hz2⟩ := info_parts infoRune
  go_enter Tryz.func106, Tryz.ntmps106
  go_wp2
  go_loopw [3, 4] (fun l a wr => ∃ (v : Value) (pos f : Nat) (done : List (Nat × Nat × Nat)), v = l ∧ a = .int .i64 pos ∧ IsAll w.heap.size v done wr ∧ Below w.heap.size w wr ∧ done ++ cpsF s f pos = cps s ∧ s.size ≤ pos + f) (fun _ a _ => s.size - (intOf a).toNat)
  case atStart => exact ⟨_, 0, s.size, [], rfl, rfl, ⟨by simp, .inl ⟨rfl, rfl⟩⟩, Below.refl _ _, rfl, by omega⟩
  case round =>
    obtain ⟨v, pos, f, done, rfl, rfl, hown, hbw, hd, hf⟩ := hrel
    have hdl : done.length ≤ s.size := by
      have := congrArg List.length hd
      rw [List.length_append] at this
      omega
    have HD := Lib.hid hd
    clear hd
    by_cases hp : pos < s.size
    · obtain ⟨g, hg1, hg2, hg3⟩ := cpsF_step s f pos hp hf
      have H2 := Lib.hid hg2
      clear hg1 hg2
      have hwd := width_pos s pos hp
      have hin := decode_in s pos hp
      go_wp2_with fail
      refine (one_any s pos _ hs hp).mono ?_
      rintro e w1 ⟨rfl, b1⟩
      have hown1 : IsAll w.heap.size v done w1 := owns_below hown b1
      unfold IsAll at hown1
      have hw0 := hbw.size
      have hw1 := b1.size
      unfold oneV
      go_wp2_with (at_builtin; refine wpList_append_own _ rfl _ _ 145 rfl w.heap.size 149 i0 (.agg #[.int .i32 0, .int .i64 0, .int .i64 0, .bool false]) 4 32 Tryz.underlying145 hi hz0 hz1 hz2 rfl (by decide) _ _ _ rfl ((hown1.alloc _).alloc _) ⟨w1.heap.size + 1, 0, none⟩ 1 1 (rcells ((Utf8.decode s pos).1, pos, (Utf8.decode s pos).2)) rfl rfl ?c1 ?c2 ?c3 ?c4 ?c5 ?_)
      case c1 => exact news_list (w1.alloc _) (rcells ((Utf8.decode s pos).1, pos, (Utf8.decode s pos).2)) _ _ (by simp)
      case c2 => intro u hu; simp [rcells] at hu; rcases hu with rfl | rfl | rfl | rfl <;> rfl
      case c3 => unfold maxLen; omega
      case c4 => omega
      case c5 => simp; omega
      intro v' w2 hown' hgrow _
      have hx : v.ownBlock ≠ some w1.heap.size := fun e => by
        have := (hown1.lt _ e).2
        omega
      have hcell : w2.cell? ⟨w1.heap.size, 2, none⟩ = some (.int .i64 ((Utf8.decode s pos).2 : Nat)) := by
        have h1 := hgrow.block w1.heap.size (by simp; omega) (fun e => hx e.symm)
        rw [Below.heap_alloc _ _ _ (by simp), heap_alloc_new w1 _] at h1
        rw [blk_cell h1]
        rfl
      go_wp2
      go_roundw
      case rel =>
        refine ⟨v', pos + (Utf8.decode s pos).2, g, done ++ [((Utf8.decode s pos).1, pos, (Utf8.decode s pos).2)], rfl, by go_num, ?_, ?_, ?_, hg3⟩
        · unfold IsAll
          rw [List.length_append, List.flatMap_append]
          simpa using hown'
        · exact ((hbw.trans (b1.mono hw0)).alloc (by omega) _).alloc (by simp; omega) _ |>.grown hgrow (by simp; omega) (fun k hk => (hown1.lt k hk).1)
        · rw [List.append_assoc]
          have := HD.out
          rw [H2.out] at this
          exact this
      case measure => simp [intOf]; omega
    · have hnil : cpsF s f pos = [] := cpsF_end _ _ _ hp
      go_wp2
      go_ret
      refine ⟨v, rfl, ?_, hbw⟩
      have := HD.out
      rw [hnil, List.append_nil] at this
      rw [← this]
      exact hown
end Go.Proofs.YthfanonjokpflaaGreat
set_option linter.unusedVariables false
namespace Go.Proofs.YthfanonjokpflaaGreat
open Go Go.RowKit

theorem flat_get : ∀ (l : List (Nat × Nat × Nat)) (k j : Nat) (c : Nat × Nat × Nat), l[k]? = some c → j < 4 → (l.flatMap rcells)[k * 4 + j]? = (rcells c)[j]?
  | [], k, j, c, h, _ => by simp at h
  | a :: l, 0, j, c, h, hj => by
    simp at h
    subst h
    rw [List.flatMap_cons, List.getElem?_append_left (by simp [rcells]; omega), Nat.zero_mul, Nat.zero_add]
  | a :: l, k + 1, j, c, h, hj => by
    rw [List.flatMap_cons, List.getElem?_append_right (by simp [rcells]; omega)]
    have : (k + 1) * 4 + j - (rcells a).length = k * 4 + j := by simp [rcells]; omega
    rw [this]
    exact flat_get l k j c (by simpa using h) hj

theorem IsAll.form {B : Nat} {v : Value} {l : List (Nat × Nat × Nat)} {w : World} (h : IsAll B v l w) :
    ∃ (A : Option Addr) (cap : Nat), v = .slice A l.length cap ∧ l.length ≤ cap ∧ cap ≤ maxLen ∧ (l = [] ∨ ∃ g, A = some ⟨g, 0, none⟩ ∧ ∀ k c, l[k]? = some c →
      w.cell? ⟨g, k * 4, none⟩ = some (.int .i32 (c.1 : Nat)) ∧ w.cell? ⟨g, k * 4 + 1, none⟩ = some (.int .i64 (c.2.1 : Nat)) ∧ w.cell? ⟨g, k * 4 + 2, none⟩ = some (.int .i64 (c.2.2 : Nat)) ∧ w.cell? ⟨g, k * 4 + 3, none⟩ = some (.bool (rightB c))) := by
  obtain ⟨h1, h2⟩ := h
  rcases h2 with ⟨rfl, h0⟩ | ⟨g, cap, cur, rfl, hg, hh, hn, hm, hs, ht⟩
  · exact ⟨none, 0, by rw [h0], by omega, by unfold maxLen; omega, .inl (List.eq_nil_of_length_eq_zero h0)⟩
  · refine ⟨_, cap, rfl, hn, hm, .inr ⟨g, rfl, fun k c hk => ?_⟩⟩
    have hkl : k < l.length := (List.getElem?_eq_some_iff.1 hk).1
    have key : ∀ j u, j < 4 → (rcells c)[j]? = some u → w.cell? ⟨g, k * 4 + j, none⟩ = some u := by
      intro j u hj hu
      rw [blk_cell hh, ← hu, ← flat_get l k j c hk hj, ← ht, List.getElem?_take, if_pos (by omega)]
      simp
    exact ⟨key 0 _ (by omega) rfl, key 1 _ (by omega) rfl, key 2 _ (by omega) rfl, key 3 _ (by omega) rfl⟩

/-- Letter, as the document's own answer asks it. -/
def rletter (c : Nat × Nat × Nat) : Bool := rightB c && ((decide (97 ≤ c.1) && decide (c.1 ≤ 122)) || c.1 == 95 || decide (128 ≤ c.1))
theorem rletter_eq (c : Nat × Nat × Nat) : rletter c = letterB c := by
  unfold rletter letterB
  by_cases h : 128 ≤ c.1
  · rw [decide_eq_true h, decide_eq_false (show ¬ c.1 ≤ 122 by omega), beq_eq_false_iff_ne.2 (show c.1 ≠ 95 by omega)]
    simp
  · have hr : rightB c = true := by unfold rightB; rw [beq_eq_false_iff_ne.2 (show c.1 ≠ 65533 by omega)]; rfl
    rw [hr, decide_eq_false h]
    simp

set_option maxHeartbeats 1600000 in
set_option maxRecDepth 100000 in
theorem rletter_any (r p wd : Nat) (w : World) (hr : r ≤ 2147483647) :
    Calls Tryz.prog 107 #[.agg #[.int .i32 (r : Nat), .int .i64 (p : Nat), .int .i64 (wd : Nat), .bool (rightB (r, p, wd))]] w fun e w' => e = .returned (.bool (letterB (r, p, wd))) ∧ Below w.heap.size w w' := by
  rw [← rletter_eq]
  obtain ⟨rb, hrb⟩ : ∃ b, rightB (r, p, wd) = b := ⟨_, rfl⟩
  have hl : rletter (r, p, wd) = (rb && ((decide (97 ≤ r) && decide (r ≤ 122)) || r == 95 || decide (128 ≤ r))) := by unfold rletter; rw [hrb]
  rw [hrb]
  have HL := Lib.hid hl
  clear hl hrb
  cases rb with
  | false =>
    go_enter Tryz.func107, Tryz.ntmps107
    go_wp2
    go_ret
    exact ⟨ret_bool (by rw [HL.out]; rfl), (Below.refl _ _).alloc (Nat.le_refl _) _⟩
  | true =>
    by_cases h128 : (128 : Int) ≤ (r : Int)
    · have f1 : ((r : Int) == 95) = false := by simp; omega
      have hv : rletter (r, p, wd) = true := by rw [HL.out, decide_eq_true (show 128 ≤ r by omega)]; simp
      have HV := Lib.hid hv
      clear hv
      go_enter Tryz.func107, Tryz.ntmps107
      go_wp2
      go_ret
      exact ⟨ret_bool HV.out.symm, (Below.refl _ _).alloc (Nat.le_refl _) _⟩
    by_cases h95 : r = 95
    · subst h95
      have hv : rletter (95, p, wd) = true := by rw [HL.out]; rfl
      have HV := Lib.hid hv
      clear hv
      have f1 : (((95 : Nat) : Int) == 95) = true := rfl
      go_enter Tryz.func107, Tryz.ntmps107
      go_wp2
      go_ret
      exact ⟨ret_bool HV.out.symm, (Below.refl _ _).alloc (Nat.le_refl _) _⟩
    have f1 : ((r : Int) == 95) = false := by simp; omega
    by_cases h97 : (97 : Int) ≤ (r : Int)
    · by_cases h122 : (r : Int) ≤ 122
      · have hv : rletter (r, p, wd) = true := by rw [HL.out, decide_eq_true (show 97 ≤ r by omega), decide_eq_true (show r ≤ 122 by omega)]; simp
        have HV := Lib.hid hv
        clear hv
        go_enter Tryz.func107, Tryz.ntmps107
        go_wp2
        go_ret
        exact ⟨ret_bool HV.out.symm, (Below.refl _ _).alloc (Nat.le_refl _) _⟩
      · have hv : rletter (r, p, wd) = false := by rw [HL.out, decide_eq_false (show ¬ r ≤ 122 by omega), beq_eq_false_iff_ne.2 h95, decide_eq_false (show ¬ 128 ≤ r by omega)]; simp
        have HV := Lib.hid hv
        clear hv
        go_enter Tryz.func107, Tryz.ntmps107
        go_wp2
        go_ret
        exact ⟨ret_bool HV.out.symm, (Below.refl _ _).alloc (Nat.le_refl _) _⟩
    · have hv : rletter (r, p, wd) = false := by rw [HL.out, decide_eq_false (show ¬ 97 ≤ r by omega), beq_eq_false_iff_ne.2 h95, decide_eq_false (show ¬ 128 ≤ r by omega)]; simp
      have HV := Lib.hid hv
      clear hv
      go_enter Tryz.func107, Tryz.ntmps107
      go_wp2
      go_ret
      exact ⟨ret_bool HV.out.symm, (Below.refl _ _).alloc (Nat.le_refl _) _⟩
end Go.Proofs.YthfanonjokpflaaGreat
set_option linter.unusedVariables false
namespace Go.Proofs.YthfanonjokpflaaGreat
open Go Go.RowKit

theorem cpsF_bound (s : ByteArray) : ∀ f p c, c ∈ cpsF s f p → c.1 ≤ 2147483647 ∧ c.2.1 < s.size
  | 0, p, c, h => by simp [cpsF] at h
  | f + 1, p, c, h => by
    unfold cpsF at h
    by_cases hp : p < s.size
    · rw [if_pos hp] at h
      rcases List.mem_cons.1 h with h | h
      · rw [h]; exact ⟨decode_le s p, hp⟩
      · exact cpsF_bound s f _ c h
    · rw [if_neg hp] at h; cases h

theorem cpsF_pos (s : ByteArray) : ∀ f p k c, (cpsF s f p)[k]? = some c → p + k ≤ c.2.1 ∧ (k = 0 → c.2.1 = p)
  | 0, p, k, c, h => by simp [cpsF] at h
  | f + 1, p, k, c, h => by
    unfold cpsF at h
    by_cases hp : p < s.size
    · rw [if_pos hp] at h
      have hw := width_pos s p hp
      cases k with
      | zero => simp at h; subst h; simp
      | succ k =>
        have := cpsF_pos s f (p + (Utf8.decode s p).2) k c (by simpa using h)
        omega
    · rw [if_neg hp] at h; simp at h

set_option maxHeartbeats 3200000 in
set_option maxRecDepth 100000 in
theorem rname_any (s : ByteArray) (w : World) (hs : s.size ≤ 1099511627776) :
    Calls Tryz.prog 86 #[.string s] w fun e w' => e = .returned (.bool (nameB s)) ∧ Below w.heap.size w w' := by
  have hlen := cps_length s
  go_enter Tryz.func86, Tryz.ntmps86
  go_wp2_with fail
  refine (all_any s _ hs).mono ?_
  rintro e w1 ⟨v, rfl, ha, b1⟩
  obtain ⟨A, cap, rfl, hcap, hmax, hform⟩ := ha.form
  clear ha
  unfold maxLen at hmax
  have hw1 := b1.size
  go_wp2
  go_loopw [4] (fun i wr => ∃ k : Nat, k ≤ (cps s).length ∧ i = .int .i64 k ∧ Below w1.heap.size w1 wr ∧ ((cps s).take k).all nameCp = true) (fun i _ => (cps s).length - (intOf i).toNat)
  case atStart => exact ⟨0, Nat.zero_le _, rfl, Below.refl _ _, by simp⟩
  case round =>
    obtain ⟨k, hk, rfl, hbw, hall⟩ := hrel
    have HA := Lib.hid hall
    clear hall
    by_cases hlt : k < (cps s).length
    · obtain ⟨g, hA, hcell⟩ : ∃ g, A = some ⟨g, 0, none⟩ ∧ ∀ k c, (cps s)[k]? = some c → w1.cell? ⟨g, k * 4, none⟩ = some (.int .i32 (c.1 : Nat)) ∧ w1.cell? ⟨g, k * 4 + 1, none⟩ = some (.int .i64 (c.2.1 : Nat)) ∧ w1.cell? ⟨g, k * 4 + 2, none⟩ = some (.int .i64 (c.2.2 : Nat)) ∧ w1.cell? ⟨g, k * 4 + 3, none⟩ = some (.bool (rightB c)) := by
        rcases hform with h | h
        · rw [h] at hlt; simp at hlt
        · exact h
      clear hform
      subst hA
      obtain ⟨⟨r, p, wd⟩, hc⟩ : ∃ c, (cps s)[k]? = some c := ⟨_, List.getElem?_eq_getElem hlt⟩
      obtain ⟨hc0, hc1, hc2, hc3⟩ := hcell k _ hc
      have hr := (cpsF_bound s _ _ _ (List.mem_of_getElem? hc)).1
      have hpos := cpsF_pos s _ _ _ _ hc
      simp only at hc0 hc1 hc2 hr hpos
      have hgl : g < w1.heap.size := by
        rcases Nat.lt_or_ge g w1.heap.size with h | h
        · exact h
        · simp [World.cell?, Array.getElem?_eq_none h] at hc0
      have hst : ((cps s).take (k + 1)).all nameCp = nameCp (r, p, wd) := by
        rw [List.take_succ_eq_append_getElem hlt, List.all_append, HA.out, Bool.true_and]
        rw [List.getElem?_eq_getElem hlt] at hc
        injection hc with hc
        simp [hc]
      have hno : nameCp (r, p, wd) = false → nameB s = false := by
        intro h
        unfold nameB
        have : (cps s).all nameCp = false := by
          rw [List.all_eq_false]
          exact ⟨_, List.mem_of_getElem? hc, by rw [h]; decide⟩
        rw [this, Bool.and_false]
      have hne : nameCp (r, p, wd) = (letterB (r, p, wd) || (!(p == 0) && (decide ((48 : Int) ≤ (r : Int)) && decide ((r : Int) ≤ 57)))) := rfl
      have hpk : (p == 0) = ((k : Int) == 0) := by
        rw [Bool.eq_iff_iff]
        simp only [beq_iff_eq]
        constructor
        · intro h; omega
        · intro h; have := hpos.2 (by omega); omega
      rw [hpk] at hne
      have hd0 : wr.cell? ⟨g, k * 4, none⟩ = some (.int .i32 (r : Nat)) := (hbw.cell (p := ⟨g, k * 4, none⟩) hgl).trans hc0
      have hd1 : wr.cell? ⟨g, k * 4 + 1, none⟩ = some (.int .i64 (p : Nat)) := (hbw.cell (p := ⟨g, k * 4 + 1, none⟩) hgl).trans hc1
      have hd2 : wr.cell? ⟨g, k * 4 + 2, none⟩ = some (.int .i64 (wd : Nat)) := (hbw.cell (p := ⟨g, k * 4 + 2, none⟩) hgl).trans hc2
      have hd3 : wr.cell? ⟨g, k * 4 + 3, none⟩ = some (.bool (rightB (r, p, wd))) := (hbw.cell (p := ⟨g, k * 4 + 3, none⟩) hgl).trans hc3
      have HS := Lib.hid hst
      have HN := Lib.hid hno
      have HE := Lib.hid hne
      clear hcell hc hst hno hne hpk hpos hc0 hc1 hc2 hc3
      have hww := hbw.size
      go_wp2_with fail
      refine (rletter_any r p wd _ hr).mono ?_
      rintro e w2 ⟨rfl, b2⟩
      have hf0 : w2.cell? ⟨g, k * 4, none⟩ = some (.int .i32 (r : Nat)) := (b2.cell (p := ⟨g, k * 4, none⟩) (show g < wr.heap.size by omega)).trans hd0
      obtain ⟨lb, hlb⟩ : ∃ b, letterB (r, p, wd) = b := ⟨_, rfl⟩
      rw [hlb]
      have hE2 := HE.out
      rw [hlb] at hE2
      have HE2 := Lib.hid hE2
      clear hlb hE2
      cases lb with
      | true =>
        go_wp2
        go_roundw
        case rel => exact ⟨k + 1, by omega, by go_num, hbw.trans (b2.mono hww), by rw [HS.out, HE2.out]; rfl⟩
        case measure => simp [intOf]; omega
      | false =>
        by_cases h0 : k = 0
        · have hk0 : ((k : Int) == 0) = true := by simpa using h0
          have hf := HN.out (by rw [HE2.out, hk0]; rfl)
          have HF := Lib.hid hf
          clear hf h0
          go_wp2
          go_ret
          exact ⟨ret_bool HF.out.symm, b1.trans ((hbw.trans (b2.mono hww)).mono hw1)⟩
        · have hk0 : ((k : Int) == 0) = false := by simpa using h0
          by_cases h48 : (r : Int) < 48
          · have hf := HN.out (by rw [HE2.out, hk0, decide_eq_false (show ¬ (48 : Int) ≤ (r : Int) by omega)]; rfl)
            have HF := Lib.hid hf
            clear hf h0
            go_wp2
            go_ret
            exact ⟨ret_bool HF.out.symm, b1.trans ((hbw.trans (b2.mono hww)).mono hw1)⟩
          · by_cases h57 : (57 : Int) < (r : Int)
            · have hf := HN.out (by rw [HE2.out, hk0, decide_eq_false (show ¬ (r : Int) ≤ 57 by omega)]; simp)
              have HF := Lib.hid hf
              clear hf h0
              go_wp2
              go_ret
              exact ⟨ret_bool HF.out.symm, b1.trans ((hbw.trans (b2.mono hww)).mono hw1)⟩
            · have HK := Lib.hid hk0
              clear h0
              go_wp2
              go_roundw
              case rel => exact ⟨k + 1, by omega, by go_num, hbw.trans (b2.mono hww), by rw [HS.out, HE2.out, HK.out, decide_eq_true (show (48 : Int) ≤ (r : Int) by omega), decide_eq_true (show (r : Int) ≤ 57 by omega)]; rfl⟩
              case measure => simp [intOf]; omega
    · obtain rfl : k = (cps s).length := by omega
      have hv : nameB s = (decide (1 ≤ s.size) && decide (s.size ≤ 100)) := by
        have := HA.out
        rw [List.take_length] at this
        unfold nameB
        rw [this, Bool.and_true]
      have HV := Lib.hid hv
      clear hv
      by_cases h1 : (1 : Int) ≤ s.size
      · by_cases h2 : (s.size : Int) ≤ 100
        · go_wp2
          go_ret
          exact ⟨ret_bool (by rw [HV.out, decide_eq_true (show 1 ≤ s.size by omega), decide_eq_true (show s.size ≤ 100 by omega)]; rfl), b1.trans (hbw.mono hw1)⟩
        · go_wp2
          go_ret
          exact ⟨ret_bool (by rw [HV.out, decide_eq_false (show ¬ s.size ≤ 100 by omega), Bool.and_false]), b1.trans (hbw.mono hw1)⟩
      · go_wp2
        go_ret
        exact ⟨ret_bool (by rw [HV.out, decide_eq_false (show ¬ 1 ≤ s.size by omega), Bool.false_and]), b1.trans (hbw.mono hw1)⟩

end Go.Proofs.YthfanonjokpflaaGreat
set_option linter.unusedVariables false
set_option linter.unusedSimpArgs false
namespace Go.Proofs.YthfanonjokpflaaGreat
open Go Go.RowKit

theorem rrstamp_any (n : Int) (w : World) :
    Calls Tryz.prog 93 #[.int .i64 n] w fun x w' => x = .returned (.bool (stm n)) ∧ w' = w := by
  by_cases h0 : 0 ≤ n
  · by_cases h1 : n ≤ 1099511627776
    · have hv : stm n = true := by unfold stm; rw [decide_eq_true h0, decide_eq_true h1]; rfl
      rw [hv]
      go_enter Tryz.func93, Tryz.ntmps93
      go_wp2
      go_ret
      exact ⟨rfl, rfl⟩
    · have hv : stm n = false := by unfold stm; rw [decide_eq_true h0, decide_eq_false h1]; rfl
      rw [hv]
      go_enter Tryz.func93, Tryz.ntmps93
      go_wp2
      go_ret
      exact ⟨rfl, rfl⟩
  · have hv : stm n = false := by unfold stm; rw [decide_eq_false h0]; rfl
    rw [hv]
    go_enter Tryz.func93, Tryz.ntmps93
    go_wp2
    go_ret
    exact ⟨rfl, rfl⟩
set_option maxHeartbeats 8000000 in
/-- The columns' loop, from the row's box on. -/
theorem rcheckrow_any (k s : ByteArray) (d : Bool) (a e g h : Int) (A : Option Addr) (n c B : Nat) (l : Cols) (w : World) (hr : RdK w B A n l) (hB : B ≤ w.heap.size) (hn : n ≤ 1000000000000) (hf : Few l) (hs : s.size ≤ maxLen) :
    Calls Tryz.prog 64 #[.agg #[.string k, .string s, .bool d, .int .i64 a, .int .i64 e, .int .i64 g, .int .i64 h, .slice A n c]] w fun x w' => x = .returned (.bool (Ro.ok ⟨k, ⟨s, d, a, e⟩, g, h, l⟩)) ∧ Below w.heap.size w w' := by
  obtain ⟨R, hrr⟩ : ∃ r, Ro.ok ⟨k, ⟨s, d, a, e⟩, g, h, l⟩ = r := ⟨_, rfl⟩
  rw [hrr]
  unfold Ro.ok liveB at hrr
  simp only at hrr
  have hl := hr.1
  obtain ⟨u1, hu1⟩ : ∃ u, decide (k.size ≤ 400) = u := ⟨_, rfl⟩
  have hu1i : decide (400 < k.size) = !u1 := by rw [← hu1]; rw [Bool.eq_iff_iff]; simp
  have hu1j : decide ((400 : Int) < ((k.size : Nat) : Int)) = !u1 := by rw [← hu1i]; simp; omega
  obtain ⟨u2, hu2⟩ : ∃ u, Ce.ok ⟨s, d, a, e⟩ = u := ⟨_, rfl⟩
  obtain ⟨u3, hu3⟩ : ∃ u, stm g = u := ⟨_, rfl⟩
  obtain ⟨u4, hu4⟩ : ∃ u, stm h = u := ⟨_, rfl⟩
  rw [hu1, hu2, hu3, hu4, hl] at hrr
  have RR := Lib.hid hrr; have U2_ := Lib.hid hu2; have U3 := Lib.hid hu3; have U4 := Lib.hid hu4
  have bz := (Below.refl w.heap.size w).alloc (Nat.le_refl _) (.cells #[.string k, .string s, .bool d, .int .i64 a, .int .i64 e, .int .i64 g, .int .i64 h, .slice A n c] 57)
  have ro := RoAt.new w k s d a e g h A n c
  have BZ := Lib.hid bz; have RO_ := Lib.hid ro; have HR0 := Lib.hid (hr.below (bz.mono hB)); have HF := Lib.hid hf; have HL := Lib.hid hl
  clear hrr hu1 hu2 hu3 hu4 bz ro hr hf hl
  obtain ⟨Z, hZ⟩ : ∃ U, U = w.alloc (.cells #[.string k, .string s, .bool d, .int .i64 a, .int .i64 e, .int .i64 g, .int .i64 h, .slice A n c] 57) := ⟨_, rfl⟩
  have hZs : Z.heap.size = w.heap.size + 1 := by rw [hZ]; simp
  rw [← hZ] at BZ RO_ HR0
  have hall0 : ∀ w', Below Z.heap.size Z w' → w'.cell? ⟨w.heap.size, 0, none⟩ = some (.string k) ∧ w'.cell? ⟨w.heap.size, 1, none⟩ = some (.string s) ∧ w'.cell? ⟨w.heap.size, 2, none⟩ = some (.bool d) ∧ w'.cell? ⟨w.heap.size, 3, none⟩ = some (.int .i64 a) ∧ w'.cell? ⟨w.heap.size, 4, none⟩ = some (.int .i64 e) ∧ w'.cell? ⟨w.heap.size, 5, none⟩ = some (.int .i64 g) ∧ w'.cell? ⟨w.heap.size, 6, none⟩ = some (.int .i64 h) ∧ w'.cell? ⟨w.heap.size, 7, none⟩ = some (.slice A n c) := fun w' hb => RO_.out.below hb (by omega)
  have HALL0 := Lib.hid hall0; have HZS := Lib.hid hZs
  obtain ⟨_, _, _, _, _, _, _, _⟩ := hall0 Z (Below.refl _ _)
  clear hall0 hZs
  go_enter Tryz.func64, Tryz.ntmps64
  cases u1
  · have hv : R = false := by rw [← RR.out]; rfl
    subst hv
    subst hZ
    go_wp2
    go_ret
    exact ⟨rfl, BZ.out⟩
  · go_wp2_with fail
    rw [← hZ]
    refine (rcheck_any _ _ _ _ _ hs).mono ?_
    rintro x w1 ⟨rfl, b1⟩
    rw [U2_.out]
    have B1 := Lib.hid b1
    obtain ⟨_, _, _, _, _, _, _, _⟩ := HALL0.out _ b1
    clear b1 hZ
    cases u2
    · have hv : R = false := by rw [← RR.out]; rfl
      subst hv
      go_wp2
      go_ret
      exact ⟨rfl, next BZ.out B1.out⟩
    · by_cases hs0 : s = ⟨#[]⟩
      · subst hs0
        cases d
        · go_wp2_with fail
          refine (rrstamp_any _ _).mono ?_
          rintro x w2 ⟨rfl, rfl⟩
          rw [U3.out]
          cases u3
          · have hv : R = false := by rw [← RR.out]; simp
            subst hv
            go_wp2
            go_ret
            exact ⟨rfl, next BZ.out B1.out⟩
          · go_wp2_with fail
            refine (rrstamp_any _ _).mono ?_
            rintro x w2 ⟨rfl, rfl⟩
            rw [U4.out]
            cases u4
            · have hv : R = false := by rw [← RR.out]; simp
              subst hv
              go_wp2
              go_ret
              exact ⟨rfl, next BZ.out B1.out⟩
            · by_cases h8 : n ≤ 8
              · have d0 : decide ((8 : Int) < (n : Nat)) = false := by simp; omega
                have d1 : decide (8 < n) = false := by simp; omega
                have hr : colsB l = R := by rw [← RR.out, decide_eq_true h8, Lib.toList_data]; simp
                have HR := Lib.hid hr
                clear hr
                clear d0 d1
                go_wp2_with fail
                go_loopw [3] (fun i wr => ∃ t : Nat, t ≤ n ∧ i = .int .i64 t ∧ (List.range t).all (goodAt l) = true ∧ Below Z.heap.size Z wr) (fun i _ => n - (intOf i).toNat)
                case atStart => exact ⟨0, Nat.zero_le _, rfl, rfl, B1.out⟩
                case round =>
                  obtain ⟨t, ht, rfl, hg, hb⟩ := hrel
                  have HG := Lib.hid hg; have HB := Lib.hid hb
                  clear hg hb
                  obtain ⟨_, _, _, _, _, _, _, q7⟩ := HALL0.out _ HB.out
                  have Q7 := Lib.hid q7
                  clear q7
                  by_cases hlt : t < n
                  · have i1 : (t : Int) < n := by omega
                    have i0 : (0 : Int) ≤ t := by omega
                    have htl : t < l.length := by rw [HL.out]; exact hlt
                    obtain ⟨g0, o0, rfl, hgB, hc⟩ := (HR0.out.below (HB.out.mono (by have := HZS.out; omega))).2 (by omega)
                    obtain ⟨e0, e1, e2, e3, e4⟩ := hc t htl
                    have hgw : g0 < wr.heap.size := by have := HB.out.size; have := HZS.out; omega
                    obtain ⟨⟨m, ⟨cs, cd, ca, ce⟩⟩, hx⟩ : ∃ x, l[t] = x := ⟨_, rfl⟩
                    have hfm := HF.out l[t] (List.getElem_mem htl)
                    rw [hx] at e0 e1 e2 e3 e4 hfm
                    simp only at e0 e1 e2 e3 e4 hfm
                    obtain ⟨u1, hu1⟩ : ∃ u, nameB m = u := ⟨_, rfl⟩
                    obtain ⟨u2, hu2⟩ : ∃ u, Ce.ok ⟨cs, cd, ca, ce⟩ = u := ⟨_, rfl⟩
                    have U1 := Lib.hid hu1; have U2 := Lib.hid hu2; have FM := Lib.hid hfm; have HX := Lib.hid hx
                    have hz := heap_alloc_new wr (.cells #[.string m, .string cs, .bool cd, .int .i64 ca, .int .i64 ce] 99)
                    have ha := (Below.refl wr.heap.size wr).alloc (Nat.le_refl _) (.cells #[.string m, .string cs, .bool cd, .int .i64 ca, .int .i64 ce] 99)
                    have hbu := HB.out.trans (ha.mono HB.out.size)
                    have hcu := fun j (hj : j < l.length) => (ha.cell (p := ⟨g0, _, none⟩) hgw).trans (hc j hj).1
                    have hqu := (ha.cell (p := ⟨w.heap.size, 7, none⟩) (show w.heap.size < wr.heap.size by have := HB.out.size; have := HZS.out; omega)).trans Q7.out
                    have q7 := Q7.out
                    clear hu1 hu2 hfm hx
                    by_cases hz0 : t = 0
                    · have hga : goodAt l t = (u1 && (u2 && decide (1 ≤ ca))) := by
                        subst hz0
                        rw [good_zero htl, HX.out]
                        unfold colB
                        simp only
                        rw [U1.out, U2.out]
                      have j1 : decide ((0 : Int) < (t : Int)) = false := by simp; omega
                      have j2 : decide (0 < t) = false := by simp; omega
                      clear hz0 hc
                      have HGA := Lib.hid hga
                      clear hga
                      go_wp2_with fail
                      obtain ⟨U, hU⟩ : ∃ U, U = wr.alloc (.cells #[.string m, .string cs, .bool cd, .int .i64 ca, .int .i64 ce] 99) := ⟨_, rfl⟩
                      have hUs : U.heap.size = wr.heap.size + 1 := by rw [hU]; simp
                      rw [← hU] at hz hbu hcu hqu ⊢
                      have hall : ∀ w', Below U.heap.size U w' → (w'.cell? ⟨wr.heap.size, 0, none⟩ = some (.string m) ∧ w'.cell? ⟨wr.heap.size, 0 + 1, none⟩ = some (.string cs) ∧ w'.cell? ⟨wr.heap.size, 0 + 2, none⟩ = some (.bool cd) ∧ w'.cell? ⟨wr.heap.size, 0 + 3, none⟩ = some (.int .i64 ca) ∧ w'.cell? ⟨wr.heap.size, 0 + 4, none⟩ = some (.int .i64 ce)) ∧ w'.cell? ⟨w.heap.size, 7, none⟩ = some (.slice (some ⟨g0, o0, none⟩) n c) ∧ True := fun w' hb => by
                        have hq := (hb.block wr.heap.size (by omega)).trans hz
                        exact ⟨⟨cell_at hq rfl, cell_at hq rfl, cell_at hq rfl, cell_at hq rfl, cell_at hq rfl⟩, (hb.cell (p := ⟨w.heap.size, 7, none⟩) (show w.heap.size < U.heap.size by have := HB.out.size; have := HZS.out; omega)).trans hqu, trivial⟩
                      have HALL := Lib.hid hall; have HBU := Lib.hid (next BZ.out hbu)
                      have HBV := Lib.hid hbu
                      clear hall hz hU ha hbu hcu hqu e0 e1 e2 e3 e4 q7
                      cases u1
                      · refine wp_region_held_drew (S := fun w' => Below U.heap.size U w') (by kernel_rfl) ?_ (fun hHeld => ?_)
                        · exact (Below.refl _ _).drew
                        refine takesH [0, 1] ?_
                        repeat
                          refine takesH_one (v := ?_) ?_ ?_
                          rotate_left
                          · first | (refine Or.inr ⟨by rfl, ?_⟩; with_reducible rfl) | (refine Or.inl ⟨by rfl, ?_⟩; intro wx hSw; (try dsimp only at hSw); first | (go_simp; first | done | with_reducible rfl) | (obtain ⟨⟨_, _, _, _, _⟩, _, _⟩ := HALL.out _ hSw; go_simp; first | done | with_reducible rfl))
                          try simp only [Act.put, List.getElem_toArray, List.getElem_cons_succ, List.getElem_cons_zero, List.setIfInBounds_toArray, List.set_cons_zero, List.set_cons_succ]
                        refine takesH_nil ?_
                        refine wpAnyH_ready (rs := [2]) (by kernel_rfl) (by simp) (AllReadyH.cons rfl (fun K hK => ?_) AllReadyH.nil)
                        go_simp
                        refine (rname_any _ _ FM.out.1).mono ?_
                        rintro x v1 ⟨rfl, b1⟩
                        rw [U1.out]
                        try go_wp2_with fail
                        refine hK.out _ _ ?_ (fun hHeld => ?_)
                        · exact next (by assumption) b1
                        clear hK K
                        try simp only [Act.put, List.getElem_toArray, List.getElem_cons_succ, List.getElem_cons_zero, List.setIfInBounds_toArray, List.set_cons_zero, List.set_cons_succ]
                        refine takesH [3, 4, 5, 6, 7, 8, 9, 10, 11, 12, 13, 14, 15, 16, 17, 18, 19, 20, 21, 22, 23, 24, 25, 26, 27, 28, 29, 30, 31] ?_
                        repeat
                          refine takesH_one (v := ?_) ?_ ?_
                          rotate_left
                          · first | (refine Or.inr ⟨by rfl, ?_⟩; with_reducible rfl) | (refine Or.inl ⟨by rfl, ?_⟩; intro wx hSw; (try dsimp only at hSw); first | (go_simp; first | done | with_reducible rfl))
                          try simp only [Act.put, List.getElem_toArray, List.getElem_cons_succ, List.getElem_cons_zero, List.setIfInBounds_toArray, List.set_cons_zero, List.set_cons_succ]
                        refine takesH_nil ?_
                        refine wpAnyH_done (by kernel_rfl) ?_ _
                        have hv : R = false := by rw [← HR.out]; exact goods_no htl (by rw [HGA.out] <;> simp)
                        subst hv
                        go_wp2
                        go_ret
                        exact ⟨rfl, next HBU.out hHeld⟩
                      · cases u2
                        · refine wp_region_held_drew (S := fun w' => Below U.heap.size U w') (by kernel_rfl) ?_ (fun hHeld => ?_)
                          · exact (Below.refl _ _).drew
                          refine takesH [0, 1] ?_
                          repeat
                            refine takesH_one (v := ?_) ?_ ?_
                            rotate_left
                            · first | (refine Or.inr ⟨by rfl, ?_⟩; with_reducible rfl) | (refine Or.inl ⟨by rfl, ?_⟩; intro wx hSw; (try dsimp only at hSw); first | (go_simp; first | done | with_reducible rfl) | (obtain ⟨⟨_, _, _, _, _⟩, _, _⟩ := HALL.out _ hSw; go_simp; first | done | with_reducible rfl))
                            try simp only [Act.put, List.getElem_toArray, List.getElem_cons_succ, List.getElem_cons_zero, List.setIfInBounds_toArray, List.set_cons_zero, List.set_cons_succ]
                          refine takesH_nil ?_
                          refine wpAnyH_ready (rs := [2]) (by kernel_rfl) (by simp) (AllReadyH.cons rfl (fun K hK => ?_) AllReadyH.nil)
                          go_simp
                          refine (rname_any _ _ FM.out.1).mono ?_
                          rintro x v1 ⟨rfl, b1⟩
                          rw [U1.out]
                          try go_wp2_with fail
                          refine hK.out _ _ ?_ (fun hHeld => ?_)
                          · exact next (by assumption) b1
                          clear hK K
                          try simp only [Act.put, List.getElem_toArray, List.getElem_cons_succ, List.getElem_cons_zero, List.setIfInBounds_toArray, List.set_cons_zero, List.set_cons_succ]
                          refine takesH [3, 4, 5, 6, 7, 8, 9, 10, 11, 12, 13, 14, 15, 16, 17, 18, 19, 20, 21, 22] ?_
                          repeat
                            refine takesH_one (v := ?_) ?_ ?_
                            rotate_left
                            · first | (refine Or.inr ⟨by rfl, ?_⟩; with_reducible rfl) | (refine Or.inl ⟨by rfl, ?_⟩; intro wx hSw; (try dsimp only at hSw); first | (go_simp; first | done | with_reducible rfl) | (obtain ⟨⟨_, _, _, _, _⟩, _, _⟩ := HALL.out _ hSw; go_simp; first | done | with_reducible rfl))
                            try simp only [Act.put, List.getElem_toArray, List.getElem_cons_succ, List.getElem_cons_zero, List.setIfInBounds_toArray, List.set_cons_zero, List.set_cons_succ]
                          refine takesH_nil ?_
                          refine wpAnyH_ready (rs := [23]) (by kernel_rfl) (by simp) (AllReadyH.cons rfl (fun K hK => ?_) AllReadyH.nil)
                          go_simp
                          refine (rcheck_any _ _ _ _ _ FM.out.2).mono ?_
                          rintro x v2 ⟨rfl, b2⟩
                          rw [U2.out]
                          try go_wp2_with fail
                          refine hK.out _ _ ?_ (fun hHeld => ?_)
                          · exact next (by assumption) b2
                          clear hK K
                          try simp only [Act.put, List.getElem_toArray, List.getElem_cons_succ, List.getElem_cons_zero, List.setIfInBounds_toArray, List.set_cons_zero, List.set_cons_succ]
                          refine takesH [24, 25, 26, 27, 28, 29, 30, 31] ?_
                          repeat
                            refine takesH_one (v := ?_) ?_ ?_
                            rotate_left
                            · first | (refine Or.inr ⟨by rfl, ?_⟩; with_reducible rfl) | (refine Or.inl ⟨by rfl, ?_⟩; intro wx hSw; (try dsimp only at hSw); first | (go_simp; first | done | with_reducible rfl))
                            try simp only [Act.put, List.getElem_toArray, List.getElem_cons_succ, List.getElem_cons_zero, List.setIfInBounds_toArray, List.set_cons_zero, List.set_cons_succ]
                          refine takesH_nil ?_
                          refine wpAnyH_done (by kernel_rfl) ?_ _
                          have hv : R = false := by rw [← HR.out]; exact goods_no htl (by rw [HGA.out] <;> simp)
                          subst hv
                          go_wp2
                          go_ret
                          exact ⟨rfl, next HBU.out hHeld⟩
                        · by_cases hca : 1 ≤ ca
                          · have k1 : decide (ca < 1) = false := decide_eq_false (by omega)
                            refine wp_region_held_drew (S := fun w' => Below U.heap.size U w') (by kernel_rfl) ?_ (fun hHeld => ?_)
                            · exact (Below.refl _ _).drew
                            refine takesH [0, 1] ?_
                            repeat
                              refine takesH_one (v := ?_) ?_ ?_
                              rotate_left
                              · first | (refine Or.inr ⟨by rfl, ?_⟩; with_reducible rfl) | (refine Or.inl ⟨by rfl, ?_⟩; intro wx hSw; (try dsimp only at hSw); first | (go_simp; first | done | with_reducible rfl) | (obtain ⟨⟨_, _, _, _, _⟩, _, _⟩ := HALL.out _ hSw; go_simp; first | done | with_reducible rfl))
                              try simp only [Act.put, List.getElem_toArray, List.getElem_cons_succ, List.getElem_cons_zero, List.setIfInBounds_toArray, List.set_cons_zero, List.set_cons_succ]
                            refine takesH_nil ?_
                            refine wpAnyH_ready (rs := [2]) (by kernel_rfl) (by simp) (AllReadyH.cons rfl (fun K hK => ?_) AllReadyH.nil)
                            go_simp
                            refine (rname_any _ _ FM.out.1).mono ?_
                            rintro x v1 ⟨rfl, b1⟩
                            rw [U1.out]
                            try go_wp2_with fail
                            refine hK.out _ _ ?_ (fun hHeld => ?_)
                            · exact next (by assumption) b1
                            clear hK K
                            try simp only [Act.put, List.getElem_toArray, List.getElem_cons_succ, List.getElem_cons_zero, List.setIfInBounds_toArray, List.set_cons_zero, List.set_cons_succ]
                            refine takesH [3, 4, 5, 6, 7, 8, 9, 10, 11, 12, 13, 14, 15, 16, 17, 18, 19, 20, 21, 22] ?_
                            repeat
                              refine takesH_one (v := ?_) ?_ ?_
                              rotate_left
                              · first | (refine Or.inr ⟨by rfl, ?_⟩; with_reducible rfl) | (refine Or.inl ⟨by rfl, ?_⟩; intro wx hSw; (try dsimp only at hSw); first | (go_simp; first | done | with_reducible rfl) | (obtain ⟨⟨_, _, _, _, _⟩, _, _⟩ := HALL.out _ hSw; go_simp; first | done | with_reducible rfl))
                              try simp only [Act.put, List.getElem_toArray, List.getElem_cons_succ, List.getElem_cons_zero, List.setIfInBounds_toArray, List.set_cons_zero, List.set_cons_succ]
                            refine takesH_nil ?_
                            refine wpAnyH_ready (rs := [23]) (by kernel_rfl) (by simp) (AllReadyH.cons rfl (fun K hK => ?_) AllReadyH.nil)
                            go_simp
                            refine (rcheck_any _ _ _ _ _ FM.out.2).mono ?_
                            rintro x v2 ⟨rfl, b2⟩
                            rw [U2.out]
                            try go_wp2_with fail
                            refine hK.out _ _ ?_ (fun hHeld => ?_)
                            · exact next (by assumption) b2
                            clear hK K
                            try simp only [Act.put, List.getElem_toArray, List.getElem_cons_succ, List.getElem_cons_zero, List.setIfInBounds_toArray, List.set_cons_zero, List.set_cons_succ]
                            refine takesH [24, 25, 26, 27, 28, 29, 30, 31] ?_
                            repeat
                              refine takesH_one (v := ?_) ?_ ?_
                              rotate_left
                              · first | (refine Or.inr ⟨by rfl, ?_⟩; with_reducible rfl) | (refine Or.inl ⟨by rfl, ?_⟩; intro wx hSw; (try dsimp only at hSw); first | (go_simp; first | done | with_reducible rfl) | (obtain ⟨⟨_, _, _, _, _⟩, _, _⟩ := HALL.out _ hSw; go_simp; first | done | with_reducible rfl))
                              try simp only [Act.put, List.getElem_toArray, List.getElem_cons_succ, List.getElem_cons_zero, List.setIfInBounds_toArray, List.set_cons_zero, List.set_cons_succ]
                            refine takesH_nil ?_
                            refine wpAnyH_done (by kernel_rfl) ?_ _
                            go_wp2
                            go_roundw
                            case rel => exact ⟨t + 1, by omega, by go_num, goods_step HG.out (by rw [HGA.out, decide_eq_true hca]; rfl), next HBV.out hHeld⟩
                            case measure => simp [intOf]; omega
                          · have k1 : decide (ca < 1) = true := decide_eq_true (by omega)
                            have k2 := decide_eq_false hca
                            have K2 := Lib.hid k2
                            clear k2
                            refine wp_region_held_drew (S := fun w' => Below U.heap.size U w') (by kernel_rfl) ?_ (fun hHeld => ?_)
                            · exact (Below.refl _ _).drew
                            refine takesH [0, 1] ?_
                            repeat
                              refine takesH_one (v := ?_) ?_ ?_
                              rotate_left
                              · first | (refine Or.inr ⟨by rfl, ?_⟩; with_reducible rfl) | (refine Or.inl ⟨by rfl, ?_⟩; intro wx hSw; (try dsimp only at hSw); first | (go_simp; first | done | with_reducible rfl) | (obtain ⟨⟨_, _, _, _, _⟩, _, _⟩ := HALL.out _ hSw; go_simp; first | done | with_reducible rfl))
                              try simp only [Act.put, List.getElem_toArray, List.getElem_cons_succ, List.getElem_cons_zero, List.setIfInBounds_toArray, List.set_cons_zero, List.set_cons_succ]
                            refine takesH_nil ?_
                            refine wpAnyH_ready (rs := [2]) (by kernel_rfl) (by simp) (AllReadyH.cons rfl (fun K hK => ?_) AllReadyH.nil)
                            go_simp
                            refine (rname_any _ _ FM.out.1).mono ?_
                            rintro x v1 ⟨rfl, b1⟩
                            rw [U1.out]
                            try go_wp2_with fail
                            refine hK.out _ _ ?_ (fun hHeld => ?_)
                            · exact next (by assumption) b1
                            clear hK K
                            try simp only [Act.put, List.getElem_toArray, List.getElem_cons_succ, List.getElem_cons_zero, List.setIfInBounds_toArray, List.set_cons_zero, List.set_cons_succ]
                            refine takesH [3, 4, 5, 6, 7, 8, 9, 10, 11, 12, 13, 14, 15, 16, 17, 18, 19, 20, 21, 22] ?_
                            repeat
                              refine takesH_one (v := ?_) ?_ ?_
                              rotate_left
                              · first | (refine Or.inr ⟨by rfl, ?_⟩; with_reducible rfl) | (refine Or.inl ⟨by rfl, ?_⟩; intro wx hSw; (try dsimp only at hSw); first | (go_simp; first | done | with_reducible rfl) | (obtain ⟨⟨_, _, _, _, _⟩, _, _⟩ := HALL.out _ hSw; go_simp; first | done | with_reducible rfl))
                              try simp only [Act.put, List.getElem_toArray, List.getElem_cons_succ, List.getElem_cons_zero, List.setIfInBounds_toArray, List.set_cons_zero, List.set_cons_succ]
                            refine takesH_nil ?_
                            refine wpAnyH_ready (rs := [23]) (by kernel_rfl) (by simp) (AllReadyH.cons rfl (fun K hK => ?_) AllReadyH.nil)
                            go_simp
                            refine (rcheck_any _ _ _ _ _ FM.out.2).mono ?_
                            rintro x v2 ⟨rfl, b2⟩
                            rw [U2.out]
                            try go_wp2_with fail
                            refine hK.out _ _ ?_ (fun hHeld => ?_)
                            · exact next (by assumption) b2
                            clear hK K
                            try simp only [Act.put, List.getElem_toArray, List.getElem_cons_succ, List.getElem_cons_zero, List.setIfInBounds_toArray, List.set_cons_zero, List.set_cons_succ]
                            refine takesH [24, 25, 26, 27, 28, 29, 30, 31] ?_
                            repeat
                              refine takesH_one (v := ?_) ?_ ?_
                              rotate_left
                              · first | (refine Or.inr ⟨by rfl, ?_⟩; with_reducible rfl) | (refine Or.inl ⟨by rfl, ?_⟩; intro wx hSw; (try dsimp only at hSw); first | (go_simp; first | done | with_reducible rfl) | (obtain ⟨⟨_, _, _, _, _⟩, _, _⟩ := HALL.out _ hSw; go_simp; first | done | with_reducible rfl))
                              try simp only [Act.put, List.getElem_toArray, List.getElem_cons_succ, List.getElem_cons_zero, List.setIfInBounds_toArray, List.set_cons_zero, List.set_cons_succ]
                            refine takesH_nil ?_
                            refine wpAnyH_done (by kernel_rfl) ?_ _
                            have hv : R = false := by rw [← HR.out]; exact goods_no htl (by rw [HGA.out, K2.out]; rfl)
                            subst hv
                            go_wp2
                            go_ret
                            exact ⟨rfl, next HBU.out hHeld⟩
                    · obtain ⟨u, hu⟩ : ∃ u, u + 1 = t := ⟨t - 1, by omega⟩
                      have hul : u < l.length := by omega
                      have hsub : IntKind.i64.wrap ((t : Int) - 1) = (u : Int) := by rw [IntKind.wrap_i64]; omega
                      have j1 : (u : Int) < n := by omega
                      have j0 : (0 : Int) ≤ u := by omega
                      have j2 : decide ((0 : Int) < (t : Int)) = true := by simp; omega
                      have j3 : decide (0 < t) = true := by simp; omega
                      have j4 : (0 : Int) < (t : Int) := by omega
                      have j5 : 0 < t := by omega
                      obtain ⟨⟨pm, pc⟩, hy⟩ : ∃ y, l[u] = y := ⟨_, rfl⟩
                      have hcu2 := hcu u hul
                      rw [hy] at hcu2
                      simp only at hcu2
                      have hga : goodAt l t = ((u1 && (u2 && decide (1 ≤ ca))) && decide (nlt pm m)) := by
                        subst hu
                        rw [good_succ htl, HX.out, hy]
                        unfold colB
                        simp only
                        rw [U1.out, U2.out]
                      have HGA := Lib.hid hga
                      clear hga hy hcu hc
                      go_wp2_with fail
                      obtain ⟨U, hU⟩ : ∃ U, U = wr.alloc (.cells #[.string m, .string cs, .bool cd, .int .i64 ca, .int .i64 ce] 99) := ⟨_, rfl⟩
                      have hUs : U.heap.size = wr.heap.size + 1 := by rw [hU]; simp
                      rw [← hU] at hz hbu hcu2 hqu ⊢
                      have hall : ∀ w', Below U.heap.size U w' → (w'.cell? ⟨wr.heap.size, 0, none⟩ = some (.string m) ∧ w'.cell? ⟨wr.heap.size, 0 + 1, none⟩ = some (.string cs) ∧ w'.cell? ⟨wr.heap.size, 0 + 2, none⟩ = some (.bool cd) ∧ w'.cell? ⟨wr.heap.size, 0 + 3, none⟩ = some (.int .i64 ca) ∧ w'.cell? ⟨wr.heap.size, 0 + 4, none⟩ = some (.int .i64 ce)) ∧ w'.cell? ⟨w.heap.size, 7, none⟩ = some (.slice (some ⟨g0, o0, none⟩) n c) ∧ w'.cell? ⟨g0, o0 + u * 5, none⟩ = some (.string pm) := fun w' hb => by
                        have hq := (hb.block wr.heap.size (by omega)).trans hz
                        exact ⟨⟨cell_at hq rfl, cell_at hq rfl, cell_at hq rfl, cell_at hq rfl, cell_at hq rfl⟩, (hb.cell (p := ⟨w.heap.size, 7, none⟩) (show w.heap.size < U.heap.size by have := HB.out.size; have := HZS.out; omega)).trans hqu, (hb.cell (p := ⟨g0, _, none⟩) (show g0 < U.heap.size by omega)).trans hcu2⟩
                      have HALL := Lib.hid hall; have HBU := Lib.hid (next BZ.out hbu); have HU := Lib.hid hu
                      have HBV := Lib.hid hbu
                      clear hall hz hU ha hbu hcu2 hqu hu e0 e1 e2 e3 e4 q7
                      cases u1
                      · refine wp_region_held_drew (S := fun w' => Below U.heap.size U w') (by kernel_rfl) ?_ (fun hHeld => ?_)
                        · exact (Below.refl _ _).drew
                        refine takesH [0, 1] ?_
                        repeat
                          refine takesH_one (v := ?_) ?_ ?_
                          rotate_left
                          · first | (refine Or.inr ⟨by rfl, ?_⟩; with_reducible rfl) | (refine Or.inl ⟨by rfl, ?_⟩; intro wx hSw; (try dsimp only at hSw); first | (go_simp; first | done | with_reducible rfl) | (obtain ⟨⟨_, _, _, _, _⟩, _, _⟩ := HALL.out _ hSw; go_simp; first | done | with_reducible rfl))
                          try simp only [Act.put, List.getElem_toArray, List.getElem_cons_succ, List.getElem_cons_zero, List.setIfInBounds_toArray, List.set_cons_zero, List.set_cons_succ]
                        refine takesH_nil ?_
                        refine wpAnyH_ready (rs := [2]) (by kernel_rfl) (by simp) (AllReadyH.cons rfl (fun K hK => ?_) AllReadyH.nil)
                        go_simp
                        refine (rname_any _ _ FM.out.1).mono ?_
                        rintro x v1 ⟨rfl, b1⟩
                        rw [U1.out]
                        try go_wp2_with fail
                        refine hK.out _ _ ?_ (fun hHeld => ?_)
                        · exact next (by assumption) b1
                        clear hK K
                        try simp only [Act.put, List.getElem_toArray, List.getElem_cons_succ, List.getElem_cons_zero, List.setIfInBounds_toArray, List.set_cons_zero, List.set_cons_succ]
                        refine takesH [3, 4, 5, 6, 7, 8, 9, 10, 11, 12, 13, 14, 15, 16, 17, 18, 19, 20, 21, 22, 23, 24, 25, 26, 27, 28, 29, 30, 31] ?_
                        repeat
                          refine takesH_one (v := ?_) ?_ ?_
                          rotate_left
                          · first | (refine Or.inr ⟨by rfl, ?_⟩; with_reducible rfl) | (refine Or.inl ⟨by rfl, ?_⟩; intro wx hSw; (try dsimp only at hSw); first | (go_simp; first | done | with_reducible rfl))
                          try simp only [Act.put, List.getElem_toArray, List.getElem_cons_succ, List.getElem_cons_zero, List.setIfInBounds_toArray, List.set_cons_zero, List.set_cons_succ]
                        refine takesH_nil ?_
                        refine wpAnyH_done (by kernel_rfl) ?_ _
                        have hv : R = false := by rw [← HR.out]; exact goods_no htl (by rw [HGA.out] <;> simp)
                        subst hv
                        go_wp2
                        go_ret
                        exact ⟨rfl, next HBU.out hHeld⟩
                      · by_cases hp : nlt pm m
                        · have hb1 : Op.bytesLess m.toList pm.toList = false := blB_false fun h => nlt_irr _ (nlt_tr h hp)
                          have hb2 : (m.toList == pm.toList) = false := eqB_false (nlt_ne hp).symm
                          have hb3 : ¬ m.toList = pm.toList := beq_eq_false_iff_ne.1 hb2
                          have hga2 := HGA.out
                          rw [decide_eq_true hp, Bool.and_true] at hga2
                          have HG2 := Lib.hid hga2
                          clear hga2 HGA
                          have HGA := HG2
                          cases u2
                          · refine wp_region_held_drew (S := fun w' => Below U.heap.size U w') (by kernel_rfl) ?_ (fun hHeld => ?_)
                            · exact (Below.refl _ _).drew
                            refine takesH [0, 1] ?_
                            repeat
                              refine takesH_one (v := ?_) ?_ ?_
                              rotate_left
                              · first | (refine Or.inr ⟨by rfl, ?_⟩; with_reducible rfl) | (refine Or.inl ⟨by rfl, ?_⟩; intro wx hSw; (try dsimp only at hSw); first | (go_simp; first | done | with_reducible rfl) | (obtain ⟨⟨_, _, _, _, _⟩, _, _⟩ := HALL.out _ hSw; go_simp; first | done | with_reducible rfl))
                              try simp only [Act.put, List.getElem_toArray, List.getElem_cons_succ, List.getElem_cons_zero, List.setIfInBounds_toArray, List.set_cons_zero, List.set_cons_succ]
                            refine takesH_nil ?_
                            refine wpAnyH_ready (rs := [2]) (by kernel_rfl) (by simp) (AllReadyH.cons rfl (fun K hK => ?_) AllReadyH.nil)
                            go_simp
                            refine (rname_any _ _ FM.out.1).mono ?_
                            rintro x v1 ⟨rfl, b1⟩
                            rw [U1.out]
                            try go_wp2_with fail
                            refine hK.out _ _ ?_ (fun hHeld => ?_)
                            · exact next (by assumption) b1
                            clear hK K
                            try simp only [Act.put, List.getElem_toArray, List.getElem_cons_succ, List.getElem_cons_zero, List.setIfInBounds_toArray, List.set_cons_zero, List.set_cons_succ]
                            refine takesH [3, 4, 5, 6, 7, 8, 9, 10, 11, 12, 13, 14, 15, 16, 17, 18, 19, 20, 21, 22] ?_
                            repeat
                              refine takesH_one (v := ?_) ?_ ?_
                              rotate_left
                              · first | (refine Or.inr ⟨by rfl, ?_⟩; with_reducible rfl) | (refine Or.inl ⟨by rfl, ?_⟩; intro wx hSw; (try dsimp only at hSw); first | (go_simp; first | done | with_reducible rfl) | (obtain ⟨⟨_, _, _, _, _⟩, _, _⟩ := HALL.out _ hSw; go_simp; first | done | with_reducible rfl))
                              try simp only [Act.put, List.getElem_toArray, List.getElem_cons_succ, List.getElem_cons_zero, List.setIfInBounds_toArray, List.set_cons_zero, List.set_cons_succ]
                            refine takesH_nil ?_
                            refine wpAnyH_ready (rs := [23]) (by kernel_rfl) (by simp) (AllReadyH.cons rfl (fun K hK => ?_) AllReadyH.nil)
                            go_simp
                            refine (rcheck_any _ _ _ _ _ FM.out.2).mono ?_
                            rintro x v2 ⟨rfl, b2⟩
                            rw [U2.out]
                            try go_wp2_with fail
                            refine hK.out _ _ ?_ (fun hHeld => ?_)
                            · exact next (by assumption) b2
                            clear hK K
                            try simp only [Act.put, List.getElem_toArray, List.getElem_cons_succ, List.getElem_cons_zero, List.setIfInBounds_toArray, List.set_cons_zero, List.set_cons_succ]
                            refine takesH [24, 25, 26, 27, 28, 29, 30, 31] ?_
                            repeat
                              refine takesH_one (v := ?_) ?_ ?_
                              rotate_left
                              · first | (refine Or.inr ⟨by rfl, ?_⟩; with_reducible rfl) | (refine Or.inl ⟨by rfl, ?_⟩; intro wx hSw; (try dsimp only at hSw); first | (go_simp; first | done | with_reducible rfl))
                              try simp only [Act.put, List.getElem_toArray, List.getElem_cons_succ, List.getElem_cons_zero, List.setIfInBounds_toArray, List.set_cons_zero, List.set_cons_succ]
                            refine takesH_nil ?_
                            refine wpAnyH_done (by kernel_rfl) ?_ _
                            have hv : R = false := by rw [← HR.out]; exact goods_no htl (by rw [HGA.out] <;> simp)
                            subst hv
                            go_wp2
                            go_ret
                            exact ⟨rfl, next HBU.out hHeld⟩
                          · by_cases hca : 1 ≤ ca
                            · have k1 : decide (ca < 1) = false := decide_eq_false (by omega)
                              refine wp_region_held_drew (S := fun w' => Below U.heap.size U w') (by kernel_rfl) ?_ (fun hHeld => ?_)
                              · exact (Below.refl _ _).drew
                              refine takesH [0, 1] ?_
                              repeat
                                refine takesH_one (v := ?_) ?_ ?_
                                rotate_left
                                · first | (refine Or.inr ⟨by rfl, ?_⟩; with_reducible rfl) | (refine Or.inl ⟨by rfl, ?_⟩; intro wx hSw; (try dsimp only at hSw); first | (go_simp; first | done | with_reducible rfl) | (obtain ⟨⟨_, _, _, _, _⟩, _, _⟩ := HALL.out _ hSw; go_simp; first | done | with_reducible rfl))
                                try simp only [Act.put, List.getElem_toArray, List.getElem_cons_succ, List.getElem_cons_zero, List.setIfInBounds_toArray, List.set_cons_zero, List.set_cons_succ]
                              refine takesH_nil ?_
                              refine wpAnyH_ready (rs := [2]) (by kernel_rfl) (by simp) (AllReadyH.cons rfl (fun K hK => ?_) AllReadyH.nil)
                              go_simp
                              refine (rname_any _ _ FM.out.1).mono ?_
                              rintro x v1 ⟨rfl, b1⟩
                              rw [U1.out]
                              try go_wp2_with fail
                              refine hK.out _ _ ?_ (fun hHeld => ?_)
                              · exact next (by assumption) b1
                              clear hK K
                              try simp only [Act.put, List.getElem_toArray, List.getElem_cons_succ, List.getElem_cons_zero, List.setIfInBounds_toArray, List.set_cons_zero, List.set_cons_succ]
                              refine takesH [3, 4, 5, 6, 7, 8, 9, 10, 11, 12, 13, 14, 15, 16, 17, 18, 19, 20, 21, 22] ?_
                              repeat
                                refine takesH_one (v := ?_) ?_ ?_
                                rotate_left
                                · first | (refine Or.inr ⟨by rfl, ?_⟩; with_reducible rfl) | (refine Or.inl ⟨by rfl, ?_⟩; intro wx hSw; (try dsimp only at hSw); first | (go_simp; first | done | with_reducible rfl) | (obtain ⟨⟨_, _, _, _, _⟩, _, _⟩ := HALL.out _ hSw; go_simp; first | done | with_reducible rfl))
                                try simp only [Act.put, List.getElem_toArray, List.getElem_cons_succ, List.getElem_cons_zero, List.setIfInBounds_toArray, List.set_cons_zero, List.set_cons_succ]
                              refine takesH_nil ?_
                              refine wpAnyH_ready (rs := [23]) (by kernel_rfl) (by simp) (AllReadyH.cons rfl (fun K hK => ?_) AllReadyH.nil)
                              go_simp
                              refine (rcheck_any _ _ _ _ _ FM.out.2).mono ?_
                              rintro x v2 ⟨rfl, b2⟩
                              rw [U2.out]
                              try go_wp2_with fail
                              refine hK.out _ _ ?_ (fun hHeld => ?_)
                              · exact next (by assumption) b2
                              clear hK K
                              try simp only [Act.put, List.getElem_toArray, List.getElem_cons_succ, List.getElem_cons_zero, List.setIfInBounds_toArray, List.set_cons_zero, List.set_cons_succ]
                              refine takesH [24, 25, 26, 27, 28, 29, 30, 31] ?_
                              repeat
                                refine takesH_one (v := ?_) ?_ ?_
                                rotate_left
                                · first | (refine Or.inr ⟨by rfl, ?_⟩; with_reducible rfl) | (refine Or.inl ⟨by rfl, ?_⟩; intro wx hSw; (try dsimp only at hSw); first | (go_simp; first | done | with_reducible rfl) | (obtain ⟨⟨_, _, _, _, _⟩, _, _⟩ := HALL.out _ hSw; go_simp; first | done | with_reducible rfl))
                                try simp only [Act.put, List.getElem_toArray, List.getElem_cons_succ, List.getElem_cons_zero, List.setIfInBounds_toArray, List.set_cons_zero, List.set_cons_succ]
                              refine takesH_nil ?_
                              refine wpAnyH_done (by kernel_rfl) ?_ _
                              go_wp2
                              go_roundw
                              case rel => exact ⟨t + 1, by omega, by go_num, goods_step HG.out (by rw [HGA.out, decide_eq_true hca]; rfl), next HBV.out hHeld⟩
                              case measure => simp [intOf]; omega
                            · have k1 : decide (ca < 1) = true := decide_eq_true (by omega)
                              have k2 := decide_eq_false hca
                              have K2 := Lib.hid k2
                              clear k2
                              refine wp_region_held_drew (S := fun w' => Below U.heap.size U w') (by kernel_rfl) ?_ (fun hHeld => ?_)
                              · exact (Below.refl _ _).drew
                              refine takesH [0, 1] ?_
                              repeat
                                refine takesH_one (v := ?_) ?_ ?_
                                rotate_left
                                · first | (refine Or.inr ⟨by rfl, ?_⟩; with_reducible rfl) | (refine Or.inl ⟨by rfl, ?_⟩; intro wx hSw; (try dsimp only at hSw); first | (go_simp; first | done | with_reducible rfl) | (obtain ⟨⟨_, _, _, _, _⟩, _, _⟩ := HALL.out _ hSw; go_simp; first | done | with_reducible rfl))
                                try simp only [Act.put, List.getElem_toArray, List.getElem_cons_succ, List.getElem_cons_zero, List.setIfInBounds_toArray, List.set_cons_zero, List.set_cons_succ]
                              refine takesH_nil ?_
                              refine wpAnyH_ready (rs := [2]) (by kernel_rfl) (by simp) (AllReadyH.cons rfl (fun K hK => ?_) AllReadyH.nil)
                              go_simp
                              refine (rname_any _ _ FM.out.1).mono ?_
                              rintro x v1 ⟨rfl, b1⟩
                              rw [U1.out]
                              try go_wp2_with fail
                              refine hK.out _ _ ?_ (fun hHeld => ?_)
                              · exact next (by assumption) b1
                              clear hK K
                              try simp only [Act.put, List.getElem_toArray, List.getElem_cons_succ, List.getElem_cons_zero, List.setIfInBounds_toArray, List.set_cons_zero, List.set_cons_succ]
                              refine takesH [3, 4, 5, 6, 7, 8, 9, 10, 11, 12, 13, 14, 15, 16, 17, 18, 19, 20, 21, 22] ?_
                              repeat
                                refine takesH_one (v := ?_) ?_ ?_
                                rotate_left
                                · first | (refine Or.inr ⟨by rfl, ?_⟩; with_reducible rfl) | (refine Or.inl ⟨by rfl, ?_⟩; intro wx hSw; (try dsimp only at hSw); first | (go_simp; first | done | with_reducible rfl) | (obtain ⟨⟨_, _, _, _, _⟩, _, _⟩ := HALL.out _ hSw; go_simp; first | done | with_reducible rfl))
                                try simp only [Act.put, List.getElem_toArray, List.getElem_cons_succ, List.getElem_cons_zero, List.setIfInBounds_toArray, List.set_cons_zero, List.set_cons_succ]
                              refine takesH_nil ?_
                              refine wpAnyH_ready (rs := [23]) (by kernel_rfl) (by simp) (AllReadyH.cons rfl (fun K hK => ?_) AllReadyH.nil)
                              go_simp
                              refine (rcheck_any _ _ _ _ _ FM.out.2).mono ?_
                              rintro x v2 ⟨rfl, b2⟩
                              rw [U2.out]
                              try go_wp2_with fail
                              refine hK.out _ _ ?_ (fun hHeld => ?_)
                              · exact next (by assumption) b2
                              clear hK K
                              try simp only [Act.put, List.getElem_toArray, List.getElem_cons_succ, List.getElem_cons_zero, List.setIfInBounds_toArray, List.set_cons_zero, List.set_cons_succ]
                              refine takesH [24, 25, 26, 27, 28, 29, 30, 31] ?_
                              repeat
                                refine takesH_one (v := ?_) ?_ ?_
                                rotate_left
                                · first | (refine Or.inr ⟨by rfl, ?_⟩; with_reducible rfl) | (refine Or.inl ⟨by rfl, ?_⟩; intro wx hSw; (try dsimp only at hSw); first | (go_simp; first | done | with_reducible rfl) | (obtain ⟨⟨_, _, _, _, _⟩, _, _⟩ := HALL.out _ hSw; go_simp; first | done | with_reducible rfl))
                                try simp only [Act.put, List.getElem_toArray, List.getElem_cons_succ, List.getElem_cons_zero, List.setIfInBounds_toArray, List.set_cons_zero, List.set_cons_succ]
                              refine takesH_nil ?_
                              refine wpAnyH_done (by kernel_rfl) ?_ _
                              have hv : R = false := by rw [← HR.out]; exact goods_no htl (by rw [HGA.out, K2.out]; rfl)
                              subst hv
                              go_wp2
                              go_ret
                              exact ⟨rfl, next HBU.out hHeld⟩
                        · have hga2 := HGA.out
                          rw [decide_eq_false hp, Bool.and_false] at hga2
                          have HG2 := Lib.hid hga2
                          clear hga2 HGA
                          have HGA := HG2
                          rcases (nlt_or pm m).resolve_left hp with hp2 | hp2
                          · subst hp2
                            refine wp_region_held_drew (S := fun w' => Below U.heap.size U w') (by kernel_rfl) ?_ (fun hHeld => ?_)
                            · exact (Below.refl _ _).drew
                            refine takesH [0, 1] ?_
                            repeat
                              refine takesH_one (v := ?_) ?_ ?_
                              rotate_left
                              · first | (refine Or.inr ⟨by rfl, ?_⟩; with_reducible rfl) | (refine Or.inl ⟨by rfl, ?_⟩; intro wx hSw; (try dsimp only at hSw); first | (go_simp; first | done | with_reducible rfl) | (obtain ⟨⟨_, _, _, _, _⟩, _, _⟩ := HALL.out _ hSw; go_simp; first | done | with_reducible rfl))
                              try simp only [Act.put, List.getElem_toArray, List.getElem_cons_succ, List.getElem_cons_zero, List.setIfInBounds_toArray, List.set_cons_zero, List.set_cons_succ]
                            refine takesH_nil ?_
                            refine wpAnyH_ready (rs := [2]) (by kernel_rfl) (by simp) (AllReadyH.cons rfl (fun K hK => ?_) AllReadyH.nil)
                            go_simp
                            refine (rname_any _ _ FM.out.1).mono ?_
                            rintro x v1 ⟨rfl, b1⟩
                            rw [U1.out]
                            try go_wp2_with fail
                            refine hK.out _ _ ?_ (fun hHeld => ?_)
                            · exact next (by assumption) b1
                            clear hK K
                            try simp only [Act.put, List.getElem_toArray, List.getElem_cons_succ, List.getElem_cons_zero, List.setIfInBounds_toArray, List.set_cons_zero, List.set_cons_succ]
                            refine takesH [3, 4, 5, 6, 7, 8, 9, 10, 11, 12, 13, 14, 15, 16, 17, 18, 19, 20, 21, 22, 23, 24, 25, 26, 27, 28, 29, 30, 31] ?_
                            repeat
                              refine takesH_one (v := ?_) ?_ ?_
                              rotate_left
                              · first | (refine Or.inr ⟨by rfl, ?_⟩; with_reducible rfl) | (refine Or.inl ⟨by rfl, ?_⟩; intro wx hSw; (try dsimp only at hSw); first | (go_simp; first | done | with_reducible rfl) | (obtain ⟨⟨_, _, _, _, _⟩, _, _⟩ := HALL.out _ hSw; go_simp; first | done | with_reducible rfl))
                              try simp only [Act.put, List.getElem_toArray, List.getElem_cons_succ, List.getElem_cons_zero, List.setIfInBounds_toArray, List.set_cons_zero, List.set_cons_succ]
                            refine takesH_nil ?_
                            refine wpAnyH_done (by kernel_rfl) ?_ _
                            have hv : R = false := by rw [← HR.out]; exact goods_no htl (by rw [HGA.out] <;> simp)
                            subst hv
                            go_wp2
                            go_ret
                            exact ⟨rfl, next HBU.out hHeld⟩
                          · have hb1 : Op.bytesLess m.toList pm.toList = true := blB_true hp2
                            refine wp_region_held_drew (S := fun w' => Below U.heap.size U w') (by kernel_rfl) ?_ (fun hHeld => ?_)
                            · exact (Below.refl _ _).drew
                            refine takesH [0, 1] ?_
                            repeat
                              refine takesH_one (v := ?_) ?_ ?_
                              rotate_left
                              · first | (refine Or.inr ⟨by rfl, ?_⟩; with_reducible rfl) | (refine Or.inl ⟨by rfl, ?_⟩; intro wx hSw; (try dsimp only at hSw); first | (go_simp; first | done | with_reducible rfl) | (obtain ⟨⟨_, _, _, _, _⟩, _, _⟩ := HALL.out _ hSw; go_simp; first | done | with_reducible rfl))
                              try simp only [Act.put, List.getElem_toArray, List.getElem_cons_succ, List.getElem_cons_zero, List.setIfInBounds_toArray, List.set_cons_zero, List.set_cons_succ]
                            refine takesH_nil ?_
                            refine wpAnyH_ready (rs := [2]) (by kernel_rfl) (by simp) (AllReadyH.cons rfl (fun K hK => ?_) AllReadyH.nil)
                            go_simp
                            refine (rname_any _ _ FM.out.1).mono ?_
                            rintro x v1 ⟨rfl, b1⟩
                            rw [U1.out]
                            try go_wp2_with fail
                            refine hK.out _ _ ?_ (fun hHeld => ?_)
                            · exact next (by assumption) b1
                            clear hK K
                            try simp only [Act.put, List.getElem_toArray, List.getElem_cons_succ, List.getElem_cons_zero, List.setIfInBounds_toArray, List.set_cons_zero, List.set_cons_succ]
                            refine takesH [3, 4, 5, 6, 7, 8, 9, 10, 11, 12, 13, 14, 15, 16, 17, 18, 19, 20, 21, 22, 23, 24, 25, 26, 27, 28, 29, 30, 31] ?_
                            repeat
                              refine takesH_one (v := ?_) ?_ ?_
                              rotate_left
                              · first | (refine Or.inr ⟨by rfl, ?_⟩; with_reducible rfl) | (refine Or.inl ⟨by rfl, ?_⟩; intro wx hSw; (try dsimp only at hSw); first | (go_simp; first | done | with_reducible rfl) | (obtain ⟨⟨_, _, _, _, _⟩, _, _⟩ := HALL.out _ hSw; go_simp; first | done | with_reducible rfl))
                              try simp only [Act.put, List.getElem_toArray, List.getElem_cons_succ, List.getElem_cons_zero, List.setIfInBounds_toArray, List.set_cons_zero, List.set_cons_succ]
                            refine takesH_nil ?_
                            refine wpAnyH_done (by kernel_rfl) ?_ _
                            have hv : R = false := by rw [← HR.out]; exact goods_no htl (by rw [HGA.out] <;> simp)
                            subst hv
                            go_wp2
                            go_ret
                            exact ⟨rfl, next HBU.out hHeld⟩
                  · obtain rfl : t = n := by omega
                    have hv : R = true := by rw [← HR.out]; unfold colsB; rw [HL.out]; exact HG.out
                    subst hv
                    have q7 := Q7.out
                    have d0 : decide ((t : Int) < (t : Int)) = false := by simp
                    go_wp2
                    go_ret
                    exact ⟨rfl, next BZ.out HB.out⟩
              · have d0 : decide ((8 : Int) < (n : Nat)) = true := by simp; omega
                have d1 : decide (8 < n) = true := by simp; omega
                have hv : R = false := by rw [← RR.out, decide_eq_false h8]; simp
                subst hv
                go_wp2
                go_ret
                exact ⟨rfl, next BZ.out B1.out⟩
        · have hv : R = false := by rw [← RR.out]; simp
          subst hv
          go_wp2
          go_ret
          exact ⟨rfl, next BZ.out B1.out⟩
      · have hs1 : s.toList ≠ [] := fun h => hs0 (by
          cases s with
          | mk b => rw [Lib.toList_data] at h; congr 1; exact Array.toList_inj.1 (by simpa using h))
        have hs2 : (s.toList == []) = false := beq_eq_false_iff_ne.2 hs1
        have hs3 : s.toList.isEmpty = false := by rw [Bool.eq_false_iff]; exact fun h => hs1 (List.isEmpty_iff.1 h)
        have hv : R = false := by rw [← RR.out, hs3]; rfl
        subst hv
        clear hs3
        go_wp2
        go_ret
        exact ⟨rfl, next BZ.out B1.out⟩
end Go.Proofs.YthfanonjokpflaaGreat
set_option linter.unusedVariables false
set_option linter.unusedSimpArgs false
namespace Go.Proofs.YthfanonjokpflaaGreat
open Go Go.RowKit

theorem rcheck_ro (R : Ro) (A : Option Addr) (c B : Nat) (w : World) (h : RoIn w B R A c) (hB : B ≤ w.heap.size) (hn : R.cols.length ≤ 1000000) (hf : Few R.cols) (hs : R.live.s.size ≤ maxLen) :
    Calls Tryz.prog 64 #[R.val A c] w fun x w' => x = .returned (.bool R.ok) ∧ Below w.heap.size w w' :=
  rcheckrow_any R.key R.live.s R.live.d R.live.a R.live.e R.gone R.shade A R.cols.length c B R.cols w h.rd hB (by omega) hf hs
def fewC (x : ByteArray × Ce) : Bool := decide (x.1.size ≤ 300) && decide (x.2.s.size ≤ 300)
def fewB (R : Ro) : Bool := decide (R.key.size ≤ 1000) && (decide (R.cols.length ≤ 20) && (decide (R.live.s.size ≤ 1000) && R.cols.all fewC))
structure Ro.IsFew (R : Ro) : Prop where
  key : R.key.size ≤ 1000
  len : R.cols.length ≤ 20
  live : R.live.s.size ≤ 1000
  cols : ∀ x ∈ R.cols, x.1.size ≤ 300 ∧ x.2.s.size ≤ 300
theorem Ro.IsFew.few {R : Ro} (h : R.IsFew) : Few R.cols := fun x hx => by
  have h1 := h.cols x hx
  refine ⟨by omega, by unfold maxLen; omega⟩

set_option maxHeartbeats 4000000 in
theorem fewrow_ro (R : Ro) (A : Option Addr) (c B : Nat) (w : World) (hi : RoIn w B R A c) (hB : B ≤ w.heap.size) :
    Calls Tryz.prog 21 #[R.val A c] w fun x w' => x = .returned (.bool (fewB R)) ∧ Below w.heap.size w w' := by
  obtain ⟨k, ⟨s, d, a, e⟩, g, h, l⟩ := R
  unfold Ro.val
  simp only
  obtain ⟨r, hrr⟩ : ∃ r, fewB ⟨k, ⟨s, d, a, e⟩, g, h, l⟩ = r := ⟨_, rfl⟩
  rw [hrr]
  unfold fewB at hrr
  simp only at hrr
  obtain ⟨n, hn⟩ : ∃ n, l.length = n := ⟨_, rfl⟩
  have hr := hi.rd
  simp only at hr
  rw [hn] at hrr hr ⊢
  have RR := Lib.hid hrr; have HN := Lib.hid hn
  have bz := (Below.refl w.heap.size w).alloc (Nat.le_refl _) (.cells #[.string k, .string s, .bool d, .int .i64 a, .int .i64 e, .int .i64 g, .int .i64 h, .slice A n c] 57)
  have ro := RoAt.new w k s d a e g h A n c
  have BZ := Lib.hid bz; have RO_ := Lib.hid ro; have HR0 := Lib.hid (hr.below (bz.mono hB))
  clear hrr bz ro hr hi hn
  obtain ⟨Z, hZ⟩ : ∃ U, U = w.alloc (.cells #[.string k, .string s, .bool d, .int .i64 a, .int .i64 e, .int .i64 g, .int .i64 h, .slice A n c] 57) := ⟨_, rfl⟩
  have hZs : Z.heap.size = w.heap.size + 1 := by rw [hZ]; simp
  rw [← hZ] at BZ RO_ HR0
  obtain ⟨_, _, _, _, _, _, _, _⟩ := RO_.out
  have HZS := Lib.hid hZs
  clear hZs
  go_enter Tryz.func21, Tryz.ntmps21
  by_cases h1 : k.size ≤ 1000
  · have x1 : decide (1000 < k.size) = false := decide_eq_false (by omega)
    have y1 : decide ((1000 : Int) < ((k.size : Nat) : Int)) = false := decide_eq_false (by omega)
    by_cases h2 : n ≤ 20
    · have x2 : decide (20 < n) = false := decide_eq_false (by omega)
      have y2 : decide ((20 : Int) < (n : Int)) = false := decide_eq_false (by omega)
      by_cases h3 : s.size ≤ 1000
      · have x3 : decide (1000 < s.size) = false := decide_eq_false (by omega)
        have y3 : decide ((1000 : Int) < ((s.size : Nat) : Int)) = false := decide_eq_false (by omega)
        have hr2 : l.all fewC = r := by rw [← RR.out, decide_eq_true h1, decide_eq_true h2, decide_eq_true h3]; rfl
        have HR2 := Lib.hid hr2
        clear hr2
        go_wp2_with fail
        rw [← hZ]
        clear hZ
        go_loopw [3] (fun i wr => ∃ t : Nat, t ≤ n ∧ i = .int .i64 t ∧ (l.take t).all fewC = true ∧ wr = Z) (fun i _ => n - (intOf i).toNat)
        case atStart => exact ⟨0, Nat.zero_le _, rfl, rfl, rfl⟩
        case round =>
          obtain ⟨t, ht, rfl, hg, rfl⟩ := hrel
          have HG := Lib.hid hg
          clear hg
          by_cases hlt : t < n
          · have i1 : (t : Int) < n := by omega
            have i0 : (0 : Int) ≤ t := by omega
            have htl : t < l.length := by rw [HN.out]; exact hlt
            obtain ⟨g0, o0, rfl, hgB, hc⟩ := HR0.out.2 (by omega)
            obtain ⟨e0, e1, e2, e3, e4⟩ := hc t htl
            clear hc
            obtain ⟨⟨m, ⟨cs, cd, ca, ce⟩⟩, hx⟩ : ∃ x, l[t] = x := ⟨_, rfl⟩
            rw [hx] at e0 e1 e2 e3 e4
            simp only at e0 e1 e2 e3 e4
            have htk : l.take (t + 1) = l.take t ++ [(m, ⟨cs, cd, ca, ce⟩)] := by rw [List.take_succ_eq_append_getElem htl, hx]
            have hmem : (m, (⟨cs, cd, ca, ce⟩ : Ce)) ∈ l := by rw [← hx]; exact List.getElem_mem htl
            have HTK := Lib.hid htk; have HMEM := Lib.hid hmem
            clear htk hmem hx
            by_cases h4 : m.size ≤ 300
            · have x4 : decide (300 < m.size) = false := decide_eq_false (by omega)
              have y4 : decide ((300 : Int) < ((m.size : Nat) : Int)) = false := decide_eq_false (by omega)
              by_cases h5 : cs.size ≤ 300
              · have x5 : decide (300 < cs.size) = false := decide_eq_false (by omega)
                have y5 : decide ((300 : Int) < ((cs.size : Nat) : Int)) = false := decide_eq_false (by omega)
                go_wp2
                go_roundw
                case rel =>
                  refine ⟨t + 1, by omega, by go_num, ?_, by first | rfl | trivial⟩
                  rw [HTK.out, List.all_append, HG.out]
                  simp [fewC, h4, h5]
                case measure => simp [intOf]; omega
              · have hv : r = false := by
                  rw [← HR2.out, List.all_eq_false]
                  exact ⟨_, HMEM.out, by simp [fewC]; omega⟩
                subst hv
                go_wp2
                go_ret
                exact ⟨rfl, BZ.out⟩
            · have hv : r = false := by
                rw [← HR2.out, List.all_eq_false]
                exact ⟨_, HMEM.out, by simp [fewC]; omega⟩
              subst hv
              go_wp2
              go_ret
              exact ⟨rfl, BZ.out⟩
          · obtain rfl : t = n := by omega
            have d0 : decide ((t : Int) < (t : Int)) = false := by simp
            have hv : r = true := by
              rw [← HR2.out, ← HG.out, List.take_of_length_le (by rw [HN.out]; exact Nat.le_refl _)]
            subst hv
            go_wp2
            go_ret
            exact ⟨rfl, BZ.out⟩
      · have hv : r = false := by rw [← RR.out, decide_eq_false h3]; simp
        subst hv
        subst hZ
        go_wp2
        go_ret
        exact ⟨rfl, BZ.out⟩
    · have hv : r = false := by rw [← RR.out, decide_eq_false h2]; simp
      subst hv
      subst hZ
      go_wp2
      go_ret
      exact ⟨rfl, BZ.out⟩
  · have hv : r = false := by rw [← RR.out, decide_eq_false h1]; simp
    subst hv
    subst hZ
    go_wp2
    go_ret
    exact ⟨rfl, BZ.out⟩
end Go.Proofs.YthfanonjokpflaaGreat
set_option linter.unusedVariables false
set_option linter.unusedSimpArgs false
namespace Go.Proofs.YthfanonjokpflaaGreat
open Go Go.RowKit

theorem rcheck_ra (x : RA) (B : Nat) (w : World) (h : RaIn w B x) (hB : B ≤ w.heap.size) (hf : Few x.ro.cols ∧ x.ro.live.s.size ≤ maxLen ∧ x.ro.cols.length ≤ 1000000) :
    Calls Tryz.prog 64 #[.agg #[.string x.ro.key, .string x.ro.live.s, .bool x.ro.live.d, .int .i64 x.ro.live.a, .int .i64 x.ro.live.e, .int .i64 x.ro.gone, .int .i64 x.ro.shade, .slice x.A x.ro.cols.length x.c]] w fun e w' => e = .returned (.bool x.ro.ok) ∧ Below w.heap.size w w' :=
  rcheck_ro x.ro x.A x.c B w h hB hf.2.2 hf.1 hf.2.1
set_option maxRecDepth 8000 in
set_option maxHeartbeats 8000000 in
theorem rpcheck_any (k : ByteArray) (g : Int) (A : Option Addr) (n c B : Nat) (L : List RA) (w : World) (h : Lies w B A n c L) (hB : B ≤ w.heap.size) (hn : n ≤ 1000000000) (hf : FewR L) :
    Calls Tryz.prog 27 #[.agg #[.string k, .int .i64 g, .slice A n c]] w fun x w' => x = .returned (.bool (Pa.ok ⟨k, g, ros L⟩)) ∧ Below w.heap.size w w' := by
  obtain ⟨r, hrr⟩ : ∃ r, Pa.ok ⟨k, g, ros L⟩ = r := ⟨_, rfl⟩
  rw [hrr]
  unfold Pa.ok stm at hrr
  simp only at hrr
  rw [List.length_map, h.len] at hrr
  have hl := h.len
  have bz := (Below.refl w.heap.size w).alloc (Nat.le_refl _) (.cells #[.string k, .int .i64 g, .slice A n c] 24)
  have hz := heap_alloc_new w (.cells #[.string k, .int .i64 g, .slice A n c] 24)
  obtain ⟨V, hV⟩ : ∃ V, V = w.alloc (.cells #[.string k, .int .i64 g, .slice A n c] 24) := ⟨_, rfl⟩
  have hVs : V.heap.size = w.heap.size + 1 := by rw [hV]; simp
  rw [← hV] at bz hz
  have HL := Lib.hid hl; have HH := Lib.hid (h.below (bz.mono hB)); have HF := Lib.hid hf; have BZ := Lib.hid bz; have RR := Lib.hid hrr; have HZ := Lib.hid hz; have HVS := Lib.hid hVs
  obtain ⟨_, _, _⟩ := PtAt.of hz
  clear hrr bz hz h hf hl hVs
  go_enter Tryz.func27, Tryz.ntmps27
  by_cases h1 : k.size ≤ 100
  · have x1 : decide (100 < k.size) = false := decide_eq_false (by omega)
    have y1 : decide ((100 : Int) < ((k.size : Nat) : Int)) = false := decide_eq_false (by omega)
    by_cases h2 : 0 ≤ g
    · have x2 : decide (g < 0) = false := decide_eq_false (by omega)
      by_cases h3 : g ≤ 1099511627776
      · have x3 : decide (1099511627776 < g) = false := decide_eq_false (by omega)
        by_cases h4 : n ≤ 100
        · have x4 : decide (100 < n) = false := decide_eq_false (by omega)
          have y4 : decide ((100 : Int) < (n : Int)) = false := decide_eq_false (by omega)
          have hr2 : rowsB (ros L) = r := by rw [← RR.out, decide_eq_true h1, decide_eq_true h2, decide_eq_true h3, decide_eq_true h4]; rfl
          have HR := Lib.hid hr2
          clear hr2
          go_wp2_with fail
          rw [← hV]
          clear hV
          clear h1 h2 h3 x1 y1 x2 x3 x4 y4
          go_loopw [3] (fun i wr => ∃ t : Nat, t ≤ n ∧ i = .int .i64 t ∧ (List.range t).all (goodR (ros L)) = true ∧ Below V.heap.size V wr) (fun i _ => n - (intOf i).toNat)
          case atStart => exact ⟨0, Nat.zero_le _, rfl, rfl, Below.refl _ _⟩
          case round =>
            obtain ⟨t, ht, rfl, hg, hb⟩ := hrel
            have HG := Lib.hid hg; have HB := Lib.hid hb
            obtain ⟨_, _, _⟩ := PtAt.of ((hb.block w.heap.size (by have := HVS.out; omega)).trans HZ.out)
            clear hg hb
            by_cases hlt : t < n
            · have i1 : (t : Int) < n := by omega
              have i0 : (0 : Int) ≤ t := by omega
              have htl : t < L.length := by rw [HL.out]; exact hlt
              have htr : t < (ros L).length := by rw [List.length_map]; exact htl
              obtain ⟨g0, o0, rfl, hgB⟩ := HH.out.rd.ex (by omega)
              have hlies := HH.out.below (HB.out.mono (by have := HVS.out; omega))
              obtain ⟨x, hx⟩ : ∃ x, L[t] = x := ⟨_, rfl⟩
              have hrow := hlies.rd.row htl
              have hfm := HF.out L[t] (List.getElem_mem htl)
              have hin := hlies.held L[t] (List.getElem_mem htl)
              rw [hx] at hrow hfm hin
              have hws := HB.out.size
              have hgw : g0 < wr.heap.size := by have := HVS.out; omega
              obtain ⟨u1, hu1⟩ : ∃ u, x.ro.ok = u := ⟨_, rfl⟩
              have hrx : (ros L)[t] = x.ro := by rw [List.getElem_map, hx]
              have HUB : Hid (B ≤ wr.heap.size) := Lib.hid (by have := HVS.out; omega)
              have hpb := (HB.out.block w.heap.size (by have := HVS.out; omega)).trans HZ.out
              have U1 := Lib.hid hu1; have FM := Lib.hid hfm; have HX := Lib.hid hrx; have HIN := Lib.hid hin; have HROW := Lib.hid hrow; have HPB := Lib.hid hpb
              have HGW := Lib.hid hgw; have HPW := Lib.hid (Array.getElem?_eq_some_iff.1 hpb).1
              obtain ⟨_, _, _, _, _, _, _, _⟩ := hrow
              clear hu1 hfm hx hrx hin hpb hws hgw
              by_cases hz0 : t = 0
              · have hga : goodR (ros L) t = u1 := by
                  subst hz0
                  rw [goodR_zero htr, HX.out, U1.out]
                have j1 : decide ((0 : Int) < (t : Int)) = false := by simp; omega
                have j2 : decide (0 < t) = false := by simp; omega
                clear hz0
                have hall : ∀ w', Below wr.heap.size wr w' → PtAt w' w.heap.size k g (some ⟨g0, o0, none⟩) n c ∧ RowAt w' g0 (o0 + t * 8) x ∧ True := fun w' hb => ⟨PtAt.of ((hb.block w.heap.size HPW.out).trans HPB.out), HROW.out.below hb HGW.out, trivial⟩
                have HGA := Lib.hid hga; have HALL := Lib.hid hall
                clear hga hall
                go_wp2_with fail
                cases u1
                · refine wp_region_held_drew (S := fun w' => Below wr.heap.size wr w') (by kernel_rfl) ?_ (fun hHeld => ?_)
                  · exact (Below.refl _ _).drew
                  refine takesH [0, 1, 2, 3, 4] ?_
                  repeat
                    refine takesH_one (v := ?_) ?_ ?_
                    rotate_left
                    · first | (refine Or.inr ⟨by rfl, ?_⟩; with_reducible rfl) | (refine Or.inl ⟨by rfl, ?_⟩; intro wx hSw; (try dsimp only at hSw); first | (go_simp; first | done | with_reducible rfl) | (obtain ⟨⟨_, _, _⟩, ⟨_, _, _, _, _, _, _, _⟩, _⟩ := HALL.out _ hSw; go_simp; first | done | with_reducible rfl))
                    try simp only [Act.put, List.getElem_toArray, List.getElem_cons_succ, List.getElem_cons_zero, List.setIfInBounds_toArray, List.set_cons_zero, List.set_cons_succ]
                  refine takesH_nil ?_
                  refine wpAnyH_ready (rs := [5]) (by kernel_rfl) (by simp) (AllReadyH.cons rfl (fun K hK => ?_) AllReadyH.nil)
                  go_simp
                  refine (rcheck_ra x B _ (HIN.out.below (hHeld.mono HUB.out)) (Nat.le_trans HUB.out hHeld.size) FM.out).mono ?_
                  rintro e v1 ⟨rfl, b1⟩
                  rw [U1.out]
                  try go_wp2_with fail
                  refine hK.out _ _ ?_ (fun hHeld => ?_)
                  · exact next hHeld b1
                  clear hK K
                  try simp only [Act.put, List.getElem_toArray, List.getElem_cons_succ, List.getElem_cons_zero, List.setIfInBounds_toArray, List.set_cons_zero, List.set_cons_succ]
                  refine takesH [6, 7, 8, 9, 10, 11, 12, 13, 14, 15, 16, 17, 18, 19, 20, 21, 22, 23, 24, 25, 26] ?_
                  repeat
                    refine takesH_one (v := ?_) ?_ ?_
                    rotate_left
                    · first | (refine Or.inr ⟨by rfl, ?_⟩; with_reducible rfl) | (refine Or.inl ⟨by rfl, ?_⟩; intro wx hSw; (try dsimp only at hSw); first | (go_simp; first | done | with_reducible rfl))
                    try simp only [Act.put, List.getElem_toArray, List.getElem_cons_succ, List.getElem_cons_zero, List.setIfInBounds_toArray, List.set_cons_zero, List.set_cons_succ]
                  refine takesH_nil ?_
                  refine wpAnyH_done (by kernel_rfl) ?_ _
                  have hv : r = false := by rw [← HR.out]; exact goodsR_no htr HGA.out
                  subst hv
                  go_wp2
                  go_ret
                  exact ⟨rfl, next (next BZ.out HB.out) hHeld⟩
                · refine wp_region_held_drew (S := fun w' => Below wr.heap.size wr w') (by kernel_rfl) ?_ (fun hHeld => ?_)
                  · exact (Below.refl _ _).drew
                  refine takesH [0, 1, 2, 3, 4] ?_
                  repeat
                    refine takesH_one (v := ?_) ?_ ?_
                    rotate_left
                    · first | (refine Or.inr ⟨by rfl, ?_⟩; with_reducible rfl) | (refine Or.inl ⟨by rfl, ?_⟩; intro wx hSw; (try dsimp only at hSw); first | (go_simp; first | done | with_reducible rfl) | (obtain ⟨⟨_, _, _⟩, ⟨_, _, _, _, _, _, _, _⟩, _⟩ := HALL.out _ hSw; go_simp; first | done | with_reducible rfl))
                    try simp only [Act.put, List.getElem_toArray, List.getElem_cons_succ, List.getElem_cons_zero, List.setIfInBounds_toArray, List.set_cons_zero, List.set_cons_succ]
                  refine takesH_nil ?_
                  refine wpAnyH_ready (rs := [5]) (by kernel_rfl) (by simp) (AllReadyH.cons rfl (fun K hK => ?_) AllReadyH.nil)
                  go_simp
                  refine (rcheck_ra x B _ (HIN.out.below (hHeld.mono HUB.out)) (Nat.le_trans HUB.out hHeld.size) FM.out).mono ?_
                  rintro e v1 ⟨rfl, b1⟩
                  rw [U1.out]
                  try go_wp2_with fail
                  refine hK.out _ _ ?_ (fun hHeld => ?_)
                  · exact next hHeld b1
                  clear hK K
                  try simp only [Act.put, List.getElem_toArray, List.getElem_cons_succ, List.getElem_cons_zero, List.setIfInBounds_toArray, List.set_cons_zero, List.set_cons_succ]
                  refine takesH [6, 7, 8, 9, 10, 11, 12, 13, 14, 15, 16, 17, 18, 19, 20, 21, 22, 23, 24, 25, 26] ?_
                  repeat
                    refine takesH_one (v := ?_) ?_ ?_
                    rotate_left
                    · first | (refine Or.inr ⟨by rfl, ?_⟩; with_reducible rfl) | (refine Or.inl ⟨by rfl, ?_⟩; intro wx hSw; (try dsimp only at hSw); first | (go_simp; first | done | with_reducible rfl))
                    try simp only [Act.put, List.getElem_toArray, List.getElem_cons_succ, List.getElem_cons_zero, List.setIfInBounds_toArray, List.set_cons_zero, List.set_cons_succ]
                  refine takesH_nil ?_
                  refine wpAnyH_done (by kernel_rfl) ?_ _
                  go_wp2
                  go_roundw
                  case rel => exact ⟨t + 1, by omega, by go_num, goodsR_step HG.out HGA.out, next HB.out hHeld⟩
                  case measure => simp [intOf]; omega
              · obtain ⟨u, hu⟩ : ∃ u, u + 1 = t := ⟨t - 1, by omega⟩
                have hul : u < L.length := by omega
                have hsub : IntKind.i64.wrap ((t : Int) - 1) = (u : Int) := by rw [IntKind.wrap_i64]; omega
                have j1 : (u : Int) < n := by omega
                have j0 : (0 : Int) ≤ u := by omega
                have j2 : decide ((0 : Int) < (t : Int)) = true := by simp; omega
                have j3 : decide (0 < t) = true := by simp; omega
                have j4 : (0 : Int) < (t : Int) := by omega
                have j5 : 0 < t := by omega
                obtain ⟨y, hy⟩ : ∃ y, L[u] = y := ⟨_, rfl⟩
                have hcu2 := hlies.rd.row hul
                rw [hy] at hcu2
                have hga : goodR (ros L) t = (u1 && decide (nlt y.ro.key x.ro.key)) := by
                  subst hu
                  rw [goodR_succ htr, HX.out, U1.out, List.getElem_map, hy]
                have hall : ∀ w', Below wr.heap.size wr w' → PtAt w' w.heap.size k g (some ⟨g0, o0, none⟩) n c ∧ RowAt w' g0 (o0 + t * 8) x ∧ w'.cell? ⟨g0, o0 + u * 8, none⟩ = some (.string y.ro.key) := fun w' hb => ⟨PtAt.of ((hb.block w.heap.size HPW.out).trans HPB.out), HROW.out.below hb HGW.out, (hcu2.below hb HGW.out).1⟩
                have HGA := Lib.hid hga; have HY := Lib.hid hy; have HALL := Lib.hid hall; have HU := Lib.hid hu
                clear hga hy hall hcu2 hlies hu
                go_wp2_with fail
                cases u1
                · refine wp_region_held_drew (S := fun w' => Below wr.heap.size wr w') (by kernel_rfl) ?_ (fun hHeld => ?_)
                  · exact (Below.refl _ _).drew
                  refine takesH [0, 1, 2, 3, 4] ?_
                  repeat
                    refine takesH_one (v := ?_) ?_ ?_
                    rotate_left
                    · first | (refine Or.inr ⟨by rfl, ?_⟩; with_reducible rfl) | (refine Or.inl ⟨by rfl, ?_⟩; intro wx hSw; (try dsimp only at hSw); first | (go_simp; first | done | with_reducible rfl) | (obtain ⟨⟨_, _, _⟩, ⟨_, _, _, _, _, _, _, _⟩, _⟩ := HALL.out _ hSw; go_simp; first | done | with_reducible rfl))
                    try simp only [Act.put, List.getElem_toArray, List.getElem_cons_succ, List.getElem_cons_zero, List.setIfInBounds_toArray, List.set_cons_zero, List.set_cons_succ]
                  refine takesH_nil ?_
                  refine wpAnyH_ready (rs := [5]) (by kernel_rfl) (by simp) (AllReadyH.cons rfl (fun K hK => ?_) AllReadyH.nil)
                  go_simp
                  refine (rcheck_ra x B _ (HIN.out.below (hHeld.mono HUB.out)) (Nat.le_trans HUB.out hHeld.size) FM.out).mono ?_
                  rintro e v1 ⟨rfl, b1⟩
                  rw [U1.out]
                  try go_wp2_with fail
                  refine hK.out _ _ ?_ (fun hHeld => ?_)
                  · exact next hHeld b1
                  clear hK K
                  try simp only [Act.put, List.getElem_toArray, List.getElem_cons_succ, List.getElem_cons_zero, List.setIfInBounds_toArray, List.set_cons_zero, List.set_cons_succ]
                  refine takesH [6, 7, 8, 9, 10, 11, 12, 13, 14, 15, 16, 17, 18, 19, 20, 21, 22, 23, 24, 25, 26] ?_
                  repeat
                    refine takesH_one (v := ?_) ?_ ?_
                    rotate_left
                    · first | (refine Or.inr ⟨by rfl, ?_⟩; with_reducible rfl) | (refine Or.inl ⟨by rfl, ?_⟩; intro wx hSw; (try dsimp only at hSw); first | (go_simp; first | done | with_reducible rfl))
                    try simp only [Act.put, List.getElem_toArray, List.getElem_cons_succ, List.getElem_cons_zero, List.setIfInBounds_toArray, List.set_cons_zero, List.set_cons_succ]
                  refine takesH_nil ?_
                  refine wpAnyH_done (by kernel_rfl) ?_ _
                  have hv : r = false := by rw [← HR.out]; exact goodsR_no htr (by rw [HGA.out]; rfl)
                  subst hv
                  go_wp2
                  go_ret
                  exact ⟨rfl, next (next BZ.out HB.out) hHeld⟩
                · by_cases hp : nlt y.ro.key x.ro.key
                  · have hb1 : Op.bytesLess x.ro.key.toList y.ro.key.toList = false := blB_false fun h => nlt_irr _ (nlt_tr h hp)
                    have hb2 : (x.ro.key.toList == y.ro.key.toList) = false := by cases h : (x.ro.key.toList == y.ro.key.toList) with | true => exact absurd ((eqB_iff _ _).1 h).symm (nlt_ne hp) | false => rfl
                    have hga2 := HGA.out
                    rw [decide_eq_true hp] at hga2
                    have HG2 := Lib.hid hga2
                    clear hga2
                    refine wp_region_held_drew (S := fun w' => Below wr.heap.size wr w') (by kernel_rfl) ?_ (fun hHeld => ?_)
                    · exact (Below.refl _ _).drew
                    refine takesH [0, 1, 2, 3, 4] ?_
                    repeat
                      refine takesH_one (v := ?_) ?_ ?_
                      rotate_left
                      · first | (refine Or.inr ⟨by rfl, ?_⟩; with_reducible rfl) | (refine Or.inl ⟨by rfl, ?_⟩; intro wx hSw; (try dsimp only at hSw); first | (go_simp; first | done | with_reducible rfl) | (obtain ⟨⟨_, _, _⟩, ⟨_, _, _, _, _, _, _, _⟩, _⟩ := HALL.out _ hSw; go_simp; first | done | with_reducible rfl))
                      try simp only [Act.put, List.getElem_toArray, List.getElem_cons_succ, List.getElem_cons_zero, List.setIfInBounds_toArray, List.set_cons_zero, List.set_cons_succ]
                    refine takesH_nil ?_
                    refine wpAnyH_ready (rs := [5]) (by kernel_rfl) (by simp) (AllReadyH.cons rfl (fun K hK => ?_) AllReadyH.nil)
                    go_simp
                    refine (rcheck_ra x B _ (HIN.out.below (hHeld.mono HUB.out)) (Nat.le_trans HUB.out hHeld.size) FM.out).mono ?_
                    rintro e v1 ⟨rfl, b1⟩
                    rw [U1.out]
                    try go_wp2_with fail
                    refine hK.out _ _ ?_ (fun hHeld => ?_)
                    · exact next hHeld b1
                    clear hK K
                    try simp only [Act.put, List.getElem_toArray, List.getElem_cons_succ, List.getElem_cons_zero, List.setIfInBounds_toArray, List.set_cons_zero, List.set_cons_succ]
                    refine takesH [6, 7, 8, 9, 10, 11, 12, 13, 14, 15, 16, 17, 18, 19, 20, 21, 22, 23, 24, 25, 26] ?_
                    repeat
                      refine takesH_one (v := ?_) ?_ ?_
                      rotate_left
                      · first | (refine Or.inr ⟨by rfl, ?_⟩; with_reducible rfl) | (refine Or.inl ⟨by rfl, ?_⟩; intro wx hSw; (try dsimp only at hSw); first | (go_simp; first | done | with_reducible rfl) | (obtain ⟨⟨_, _, _⟩, ⟨_, _, _, _, _, _, _, _⟩, _⟩ := HALL.out _ hSw; go_simp; first | done | with_reducible rfl))
                      try simp only [Act.put, List.getElem_toArray, List.getElem_cons_succ, List.getElem_cons_zero, List.setIfInBounds_toArray, List.set_cons_zero, List.set_cons_succ]
                    refine takesH_nil ?_
                    refine wpAnyH_done (by kernel_rfl) ?_ _
                    go_wp2
                    go_roundw
                    case rel => exact ⟨t + 1, by omega, by go_num, goodsR_step HG.out HG2.out, next HB.out hHeld⟩
                    case measure => simp [intOf]; omega
                  · have hv : r = false := by rw [← HR.out]; exact goodsR_no htr (by rw [HGA.out, decide_eq_false hp]; rfl)
                    subst hv
                    rcases nlt_or x.ro.key y.ro.key with h7 | h7 | h7
                    · have hb1 : Op.bytesLess x.ro.key.toList y.ro.key.toList = true := blB_true h7
                      clear h7
                      refine wp_region_held_drew (S := fun w' => Below wr.heap.size wr w') (by kernel_rfl) ?_ (fun hHeld => ?_)
                      · exact (Below.refl _ _).drew
                      refine takesH [0, 1, 2, 3, 4] ?_
                      repeat
                        refine takesH_one (v := ?_) ?_ ?_
                        rotate_left
                        · first | (refine Or.inr ⟨by rfl, ?_⟩; with_reducible rfl) | (refine Or.inl ⟨by rfl, ?_⟩; intro wx hSw; (try dsimp only at hSw); first | (go_simp; first | done | with_reducible rfl) | (obtain ⟨⟨_, _, _⟩, ⟨_, _, _, _, _, _, _, _⟩, _⟩ := HALL.out _ hSw; go_simp; first | done | with_reducible rfl))
                        try simp only [Act.put, List.getElem_toArray, List.getElem_cons_succ, List.getElem_cons_zero, List.setIfInBounds_toArray, List.set_cons_zero, List.set_cons_succ]
                      refine takesH_nil ?_
                      refine wpAnyH_ready (rs := [5]) (by kernel_rfl) (by simp) (AllReadyH.cons rfl (fun K hK => ?_) AllReadyH.nil)
                      go_simp
                      refine (rcheck_ra x B _ (HIN.out.below (hHeld.mono HUB.out)) (Nat.le_trans HUB.out hHeld.size) FM.out).mono ?_
                      rintro e v1 ⟨rfl, b1⟩
                      rw [U1.out]
                      try go_wp2_with fail
                      refine hK.out _ _ ?_ (fun hHeld => ?_)
                      · exact next hHeld b1
                      clear hK K
                      try simp only [Act.put, List.getElem_toArray, List.getElem_cons_succ, List.getElem_cons_zero, List.setIfInBounds_toArray, List.set_cons_zero, List.set_cons_succ]
                      refine takesH [6, 7, 8, 9, 10, 11, 12, 13, 14, 15, 16, 17, 18, 19, 20, 21, 22, 23, 24, 25, 26] ?_
                      repeat
                        refine takesH_one (v := ?_) ?_ ?_
                        rotate_left
                        · first | (refine Or.inr ⟨by rfl, ?_⟩; with_reducible rfl) | (refine Or.inl ⟨by rfl, ?_⟩; intro wx hSw; (try dsimp only at hSw); first | (go_simp; first | done | with_reducible rfl) | (obtain ⟨⟨_, _, _⟩, ⟨_, _, _, _, _, _, _, _⟩, _⟩ := HALL.out _ hSw; go_simp; first | done | with_reducible rfl))
                        try simp only [Act.put, List.getElem_toArray, List.getElem_cons_succ, List.getElem_cons_zero, List.setIfInBounds_toArray, List.set_cons_zero, List.set_cons_succ]
                      refine takesH_nil ?_
                      refine wpAnyH_done (by kernel_rfl) ?_ _
                      go_wp2
                      go_ret
                      exact ⟨rfl, next (next BZ.out HB.out) hHeld⟩
                    · have hb1 : Op.bytesLess x.ro.key.toList x.ro.key.toList = false := blB_false fun h => nlt_irr _ h
                      rw [← h7] at HALL
                      clear h7 hp
                      have hb2 : (x.ro.key.toList == x.ro.key.toList) = true := by simp
                      refine wp_region_held_drew (S := fun w' => Below wr.heap.size wr w') (by kernel_rfl) ?_ (fun hHeld => ?_)
                      · exact (Below.refl _ _).drew
                      refine takesH [0, 1, 2, 3, 4] ?_
                      repeat
                        refine takesH_one (v := ?_) ?_ ?_
                        rotate_left
                        · first | (refine Or.inr ⟨by rfl, ?_⟩; with_reducible rfl) | (refine Or.inl ⟨by rfl, ?_⟩; intro wx hSw; (try dsimp only at hSw); first | (go_simp; first | done | with_reducible rfl) | (obtain ⟨⟨_, _, _⟩, ⟨_, _, _, _, _, _, _, _⟩, _⟩ := HALL.out _ hSw; go_simp; first | done | with_reducible rfl))
                        try simp only [Act.put, List.getElem_toArray, List.getElem_cons_succ, List.getElem_cons_zero, List.setIfInBounds_toArray, List.set_cons_zero, List.set_cons_succ]
                      refine takesH_nil ?_
                      refine wpAnyH_ready (rs := [5]) (by kernel_rfl) (by simp) (AllReadyH.cons rfl (fun K hK => ?_) AllReadyH.nil)
                      go_simp
                      refine (rcheck_ra x B _ (HIN.out.below (hHeld.mono HUB.out)) (Nat.le_trans HUB.out hHeld.size) FM.out).mono ?_
                      rintro e v1 ⟨rfl, b1⟩
                      rw [U1.out]
                      try go_wp2_with fail
                      refine hK.out _ _ ?_ (fun hHeld => ?_)
                      · exact next hHeld b1
                      clear hK K
                      try simp only [Act.put, List.getElem_toArray, List.getElem_cons_succ, List.getElem_cons_zero, List.setIfInBounds_toArray, List.set_cons_zero, List.set_cons_succ]
                      refine takesH [6, 7, 8, 9, 10, 11, 12, 13, 14, 15, 16, 17, 18, 19, 20, 21, 22, 23, 24, 25, 26] ?_
                      repeat
                        refine takesH_one (v := ?_) ?_ ?_
                        rotate_left
                        · first | (refine Or.inr ⟨by rfl, ?_⟩; with_reducible rfl) | (refine Or.inl ⟨by rfl, ?_⟩; intro wx hSw; (try dsimp only at hSw); first | (go_simp; first | done | with_reducible rfl) | (obtain ⟨⟨_, _, _⟩, ⟨_, _, _, _, _, _, _, _⟩, _⟩ := HALL.out _ hSw; go_simp; first | done | with_reducible rfl))
                        try simp only [Act.put, List.getElem_toArray, List.getElem_cons_succ, List.getElem_cons_zero, List.setIfInBounds_toArray, List.set_cons_zero, List.set_cons_succ]
                      refine takesH_nil ?_
                      refine wpAnyH_done (by kernel_rfl) ?_ _
                      go_wp2
                      go_ret
                      exact ⟨rfl, next (next BZ.out HB.out) hHeld⟩
                    · exact absurd h7 hp
            · obtain rfl : t = n := by omega
              have hv : r = true := by rw [← HR.out]; unfold rowsB; rw [List.length_map, HL.out]; exact HG.out
              subst hv
              go_wp2
              go_ret
              exact ⟨rfl, next BZ.out HB.out⟩
        · have x4 : decide (100 < n) = true := decide_eq_true (by omega)
          have y4 : decide ((100 : Int) < (n : Int)) = true := decide_eq_true (by omega)
          have hv : r = false := by rw [← RR.out, decide_eq_false h4]; simp
          subst hv
          subst hV
          go_wp2
          go_ret
          exact ⟨rfl, BZ.out⟩
      · have x3 : decide (1099511627776 < g) = true := decide_eq_true (by omega)
        have hv : r = false := by rw [← RR.out, decide_eq_false h3]; simp
        subst hv
        subst hV
        go_wp2
        go_ret
        exact ⟨rfl, BZ.out⟩
    · have x2 : decide (g < 0) = true := decide_eq_true (by omega)
      have hv : r = false := by rw [← RR.out, decide_eq_false h2]; simp
      subst hv
      subst hV
      go_wp2
      go_ret
      exact ⟨rfl, BZ.out⟩
  · have x1 : decide (100 < k.size) = true := decide_eq_true (by omega)
    have y1 : decide ((100 : Int) < ((k.size : Nat) : Int)) = true := decide_eq_true (by omega)
    have hv : r = false := by rw [← RR.out, decide_eq_false h1]; rfl
    subst hv
    subst hV
    go_wp2
    go_ret
    exact ⟨rfl, BZ.out⟩

end Go.Proofs.YthfanonjokpflaaGreat
set_option linter.unusedVariables false
namespace Go.Proofs.YthfanonjokpflaaGreat
open Go Go.RowKit

/-! ### make -/

/-! ### a slice of a slice -/
theorem sizeB : Tryz.prog.elem 33 = 5 := by kernel_rfl
end Go.Proofs.YthfanonjokpflaaGreat
set_option linter.unusedVariables false
set_option linter.unusedSimpArgs false
namespace Go.Proofs.YthfanonjokpflaaGreat
open Go Go.RowKit

theorem ok_injB {α : Type} {a b : α} {w w' : World} (h : (Result.ok a w : Result α) = .ok b w') : a = b ∧ w = w' := by
  injection h with h1 h2
  exact ⟨h1, h2⟩
/-- Bytes of one's own, all of whose blocks lie at B or above it. -/
abbrev OwnY (B : Nat) (w : World) (v : Value) (l : Bs) : Prop := w.ownsRow B 5 1 v l.length (Lib.byteCells l)
/-- Where what has grown lies. -/
def Near (w : World) (v v' : Value) : Prop := v'.ownBlock = v.ownBlock ∨ ∀ k, v'.ownBlock = some k → w.heap.size ≤ k
theorem Near.on {w w1 : World} {v v1 v2 : Value} (h : Near w v v1) (hs : w.heap.size ≤ w1.heap.size) (h' : Near w1 v1 v2) : Near w v v2 := by
  rcases h' with h' | h'
  · rcases h with h | h
    · exact Or.inl (h'.trans h)
    · exact Or.inr fun k hk => h k (h'.symm.trans hk)
  · exact Or.inr fun k hk => Nat.le_trans hs (h' k hk)
/-- From v in w have come the bytes l1: v1 in w1. -/
structure Ly (B : Nat) (w : World) (v : Value) (w1 : World) (v1 : Value) (l1 : Bs) : Prop where
  own : OwnY B w1 v1 l1
  kept : Kept (fun k => v.ownBlock = some k) w w1
  near : Near w v v1
/-- A call that hands back the bytes l' in place of v. -/
def Lays (B : Nat) (w : World) (v : Value) (l' : Bs) (e : Ending) (w' : World) : Prop := ∃ v', e = .returned v' ∧ Ly B w v w' v' l'
theorem Ly.refl {B : Nat} {w : World} {v : Value} {l : Bs} (h : OwnY B w v l) : Ly B w v w v l := ⟨h, Kept.refl _ _, Or.inl rfl⟩
theorem Ly.size {B : Nat} {w w1 : World} {v v1 : Value} {l1 : Bs} (h : Ly B w v w1 v1 l1) : w.heap.size ≤ w1.heap.size := h.kept.size
theorem Ly.below {B : Nat} {w w1 w2 : World} {v v1 : Value} {l1 : Bs} (h : Ly B w v w1 v1 l1) (hb : Below w1.heap.size w1 w2) : Ly B w v w2 v1 l1 :=
  ⟨own_below h.own hb, Kept.trans h.kept (Kept.of_below hb (fun _ => False)) fun _ h => h.elim, h.near⟩
theorem Ly.drew {B : Nat} {w w1 : World} {v v1 : Value} {l1 : Bs} (h : Ly B w v w1 v1 l1) : Ly B w v w1.drew v1 l1 := h.below (Below.refl _ _).drew
theorem Ly.on {B : Nat} {w w1 w2 : World} {v v1 v2 : Value} {l1 l2 : Bs} (h : Ly B w v w1 v1 l1) (h' : Ly B w1 v1 w2 v2 l2) : Ly B w v w2 v2 l2 :=
  ⟨h'.own, Kept.trans h.kept h'.kept fun k hk => by
    rcases h.near with h | h
    · exact Or.inl (h.symm.trans hk)
    · exact Or.inr (h k hk), h.near.on h.size h'.near⟩
theorem Ly.grown {B n N : Nat} {w w1 : World} {v v1 : Value} {l1 : Bs} (ho : w1.ownsRow B 5 1 v1 n (Lib.byteCells l1)) (hn : l1.length = n) (hg : w.grownBy w1 v.ownBlock) (hl : v1.ownBlock = v.ownBlock ∨ v1.ownBlock = some N) (hN : w.heap.size ≤ N := by first | exact Nat.le_refl _ | simp) : Ly B w v w1 v1 l1 :=
  ⟨by unfold OwnY; rw [hn]; exact ho, Kept.of_grown hg fun k hk => hk, hl.imp id fun h k hk => by
    rw [h] at hk
    injection hk with hk
    omega⟩
/-- Another type's block stays. -/
theorem Ly.at_ {B q : Nat} {w w1 : World} {v v1 : Value} {l l1 : Bs} (h : Ly B w v w1 v1 l1) (h0 : OwnY B w v l) {cs : Array Value} {t : TypeId} (hq : w.heap[q]? = some (.cells cs t (0, 0))) (ht : 5 ≠ t) : w1.heap[q]? = some (.cells cs t (0, 0)) :=
  (h.kept.block q (Array.getElem?_eq_some_iff.1 hq).1 fun hf => by
    obtain ⟨cs', h2⟩ := own_tag h0 q hf
    rw [hq] at h2
    injection h2 with h2
    injection h2 with _ h3 _
    exact ht h3.symm).trans hq
/-- What lies below stays. -/
theorem Ly.base {B : Nat} {w w1 : World} {v v1 : Value} {l l1 : Bs} (h : Ly B w v w1 v1 l1) (h0 : OwnY B w v l) (hB : B ≤ w.heap.size) : Below B w w1 :=
  h.kept.below (fun k hk => by
    rcases h0.2 with ⟨e, _⟩ | ⟨g, cap, cur, e, h2, _⟩
    · rw [e] at hk; cases hk
    · rw [e] at hk
      injection hk with hk
      subst hk
      exact h2) hB
theorem Ly.same {B : Nat} {w w1 : World} {v v1 : Value} {l1 l2 : Bs} (h : Ly B w v w1 v1 l1) (e : l1 = l2) : Ly B w v w1 v1 l2 := e ▸ h
theorem OwnY.slice {B : Nat} {w : World} {v : Value} {l : Bs} (h : OwnY B w v l) : ∃ A n c, v = .slice A n c ∧ l.length = n ∧ n ≤ c ∧ c ≤ maxLen ∧ (A = none → c = 0) ∧ w.ownsRow B 5 1 (.slice A n c) n (Lib.byteCells l) := by
  obtain ⟨A, c, rfl, h1, h2, h3⟩ := own_slice h
  exact ⟨A, _, c, rfl, rfl, h1, h2, h3, h⟩
/-- append(own, bytes...): where the new slice lies. -/
theorem run_appB_at {w : World} (base : Nat) {v : Value} {n : Nat} {l : List UInt8} (hown : w.ownsRow base 5 1 v n (Lib.byteCells l)) {B m : Nat} (c : Nat) {A : Option Addr} {k : List UInt8} (hr : Rd w B A m k)
    (hsz : n + m ≤ 140737488355328) (hbase : base ≤ w.heap.size) (ty : TypeId) :
    ∃ v' w', (Builtin.append_ #[33, 33] ty #[v, .slice A m c]).run Tryz.prog w = .ok v' w' ∧ (w'.ownsRow base 5 1 v' (n + m) (Lib.byteCells (l ++ k)) ∧ (w.grownBy w' v.ownBlock ∧ (v'.ownBlock = v.ownBlock ∨ v'.ownBlock = some w.heap.size))) := by
  obtain ⟨i, hi, hz0, hz1, hz2⟩ := info_parts infoB
  cases A with
  | none =>
    have h0 : m = 0 := by
      rcases Nat.eq_zero_or_pos m with h1 | h1
      · exact h1
      · obtain ⟨ad, e, _⟩ := hr.2 h1; cases e
    subst h0
    obtain rfl : k = [] := List.eq_nil_of_length_eq_zero hr.1
    exact ⟨v, w, run_app_none base hown c, by simpa using hown, ⟨rfl, rfl, rfl, Nat.le_refl _, fun _ _ _ => rfl⟩, Or.inl rfl⟩
  | some ad =>
    obtain ⟨v', w', h1, h2, h3, _, h5⟩ := run_append_own_at (P := Tryz.prog) w base 33 ty 5 i (.int .u8 0) 1 1 Tryz.underlying33 hi hz0 hz1 hz2 rfl (by decide) v n (Lib.byteCells l) hown ad m c (Lib.byteCells k)
      (by rw [Lib.byteCells_length, hr.1]; omega) (hr.cells rfl) (Lib.byteCells_one k) (by unfold maxLen; omega) (by omega) hbase
    exact ⟨v', w', h1, by rw [Lib.byteCells_append]; exact h2, h3, h5⟩
/-- append(own, text...): where the new slice lies. -/
theorem run_appStrB_at {w : World} (base : Nat) {v : Value} {n : Nat} {l : List UInt8} (hown : w.ownsRow base 5 1 v n (Lib.byteCells l)) (s : ByteArray)
    (hsz : n + s.size ≤ 140737488355328) (hbase : base ≤ w.heap.size) (ty : TypeId) :
    ∃ v' w', (Builtin.append_ #[33, 9] ty #[v, .string s]).run Tryz.prog w = .ok v' w' ∧ (w'.ownsRow base 5 1 v' (n + s.size) (Lib.byteCells (l ++ s.data.toList)) ∧ (w.grownBy w' v.ownBlock ∧ (v'.ownBlock = v.ownBlock ∨ v'.ownBlock = some w.heap.size))) := by
  obtain ⟨i, hi, hz0, hz1, hz2⟩ := info_parts infoB
  obtain ⟨v', w', h1, h2, h3, h4⟩ := Lib.run_append_own_string (P := Tryz.prog) w base 33 9 ty 5 i Tryz.underlying33 Tryz.underlying9 hi hz0 hz1 hz2 v n (Lib.byteCells l) hown s (by unfold maxLen; omega) hsz hbase
  refine ⟨v', w', h1, by rw [Lib.byteCells_append]; exact h2, h3, ?_⟩
  rcases hown.2 with ⟨rfl, rfl⟩ | ⟨g, cap, cur, rfl, hbg, hg, hnc, hcm, hcs, htake⟩
  · by_cases h0 : s.size = 0
    · rw [h4.2 ⟨rfl, h0⟩]
      exact Or.inl rfl
    · have hr := run_append_nil_string (P := Tryz.prog) w 33 9 ty 5 i (.int .u8 0) Tryz.underlying33 Tryz.underlying9 hi hz0 s (by omega) (by omega) (by rw [hz2]; omega)
      rw [h1] at hr
      rw [(ok_injB hr).1]
      exact Or.inr rfl
  · by_cases hroom : n + s.size ≤ cap
    · have hr := Lib.run_append_room_string (P := Tryz.prog) w 33 9 ty 5 i Tryz.underlying33 Tryz.underlying9 hi hz1 g n cap cur hg s hroom (by omega)
      rw [h1] at hr
      rw [(ok_injB hr).1]
      exact Or.inl rfl
    · have holds : ∀ j u, (Lib.byteCells l)[j]? = some u → w.cell? ((⟨g, 0, none⟩ : Addr).add j) = some u := hown.cells (g := g) rfl
      have hr := Lib.run_append_grow_string (P := Tryz.prog) w 33 9 ty 5 i (.int .u8 0) Tryz.underlying33 Tryz.underlying9 hi hz0 ⟨g, 0, none⟩ n cap (Lib.byteCells l) (by rw [hz1]; exact hown.1) holds s (by omega) (by omega) (by rw [hz2]; exact growslice_fits (by omega) (by omega))
      rw [h1] at hr
      rw [(ok_injB hr).1]
      exact Or.inr rfl
theorem own_nilY (w : World) (b : Nat) : OwnY b w (.slice none 0 0) [] := World.ownsRow_nil w b _ _
theorem OwnY.below {B : Nat} {w w' : World} {v : Value} {l : Bs} (h : OwnY B w v l) (hb : Below w.heap.size w w') : OwnY B w' v l := own_below h hb
set_option maxHeartbeats 2000000 in
theorem putNum_any (B : Nat) (v : Value) (l : Bs) (x : Int) (w : World) (h : OwnY B w v l) (hB : B ≤ w.heap.size) (h0 : 0 ≤ x) (h1 : x < 9223372036854775808) (hs : l.length ≤ 100000000000) :
    Calls Tryz.prog 60 #[v, .int .i64 x] w (Lays B w v (l ++ numL x.toNat)) := by
  have hc : IntKind.u64.wrap x = x := by rw [IntKind.wrap_u64]; omega
  have hn : (numL x.toNat).length ≤ 9 := numL_le (by omega)
  obtain ⟨A, n, c, rfl, hln, g1, g2, g3, _⟩ := h.slice
  have N := num_any none 0 0 x.toNat w.heap.size [] w (Rd.nil _ _) (Nat.le_refl _) (Nat.le_refl _) (by unfold maxLen; omega) (by omega) (by omega)
  rw [Int.toNat_of_nonneg h0] at N
  rw [List.nil_append] at N
  have HO := Lib.hid h; have HN := Lib.hid N; have HNL := Lib.hid hn; have HB := Lib.hid hB; have HS := Lib.hid hs; have HL := Lib.hid hln
  clear h hn g1 g2 g3 hB hs N hln
  go_enter Tryz.func60, Tryz.ntmps60
  go_wp2_with fail
  refine (HN.out).mono ?_
  rintro e w1 ⟨A2, n2, c2, rfl, hl2, hc2, hc3, hA2, hr2, hb2⟩
  have ho := OwnY.below HO.out hb2
  unfold OwnY at ho
  rw [HL.out] at ho
  go_wp2_with (at_builtin; refine list_ex rfl (.tmp 5) (.tmp 8) _ _ rfl (.slice A n c) (.slice A2 n2 c2) rfl rfl (run_appB_at B ho c2 hr2 ?s1 ?s2) ?_)
  case s1 => have h1 := HNL.out; have := HS.out; have := HL.out; omega
  case s2 => have := HB.out; have := hb2.size; omega
  intro v3 w3 h3 hg hloc
  go_wp2
  go_ret
  exact ⟨v3, rfl, ((Ly.refl HO.out).below hb2).on (Ly.grown h3 (by rw [List.length_append, hl2, HL.out]) hg hloc)⟩
set_option maxHeartbeats 2000000 in
theorem putText_any (B : Nat) (v : Value) (l : Bs) (s : ByteArray) (w : World) (h : OwnY B w v l) (hB : B ≤ w.heap.size) (h1 : s.size ≤ 100000000000) (hs : l.length ≤ 10000000000) :
    Calls Tryz.prog 61 #[v, .string s] w (Lays B w v (l ++ tE s)) := by
  have hn : (numL s.size).length ≤ 9 := numL_le (by omega)
  have N := putNum_any B v l (s.size : Int) w h hB (by omega) (by omega) (by omega)
  rw [Int.toNat_natCast] at N
  have HN := Lib.hid N; have HNL := Lib.hid hn; have HB := Lib.hid hB; have HS := Lib.hid hs; have H1 := Lib.hid h1
  clear h hn hB hs N h1
  go_enter Tryz.func61, Tryz.ntmps61
  go_wp2_with fail
  refine (HN.out).mono ?_
  rintro e w1 ⟨v2, rfl, L2⟩
  obtain ⟨A2, n2, c2, rfl, hl2, _, _, _, ho2⟩ := L2.own.slice
  have HL2 := Lib.hid hl2
  clear hl2
  go_wp2_with (at_builtin; refine list_ex rfl (.tmp 8) (.tmp 9) _ _ rfl (.slice A2 n2 c2) (.string s) rfl rfl (run_appStrB_at B ho2 s ?s1 ?s2) ?_)
  case s1 => have h1 := HNL.out; have := HS.out; have := H1.out; have h2 := HL2.out; rw [List.length_append] at h2; omega
  case s2 => have := HB.out; have := L2.size; omega
  intro v3 w3 h3 hg hloc
  go_wp2
  go_ret
  refine ⟨v3, rfl, (L2.on (Ly.grown h3 ?_ hg hloc)).same ?_⟩
  · have h1 := HL2.out
    have h2 : s.data.toList.length = s.size := rfl
    simp only [List.length_append] at h1 ⊢
    omega
  · unfold tE; simp only [List.append_assoc]
end Go.Proofs.YthfanonjokpflaaGreat
set_option linter.unusedVariables false
set_option linter.unusedSimpArgs false
namespace Go.Proofs.YthfanonjokpflaaGreat
open Go Go.RowKit

set_option maxRecDepth 8000 in
set_option maxHeartbeats 4000000 in
theorem putCell_any (B : Nat) (v : Value) (l : Bs) (s : ByteArray) (d : Bool) (a e : Int) (w : World) (h : OwnY B w v l) (hB : B ≤ w.heap.size) (hg : (⟨s, d, a, e⟩ : Ce).Gd) (hs : s.size ≤ 1000000000) (hl : l.length ≤ 1000000000) :
    Calls Tryz.prog 89 #[v, .agg #[.string s, .bool d, .int .i64 a, .int .i64 e]] w (Lays B w v (l ++ cE ⟨s, d, a, e⟩)) := by
  obtain ⟨ga, gn, gd, gv⟩ := hg
  dsimp only at ga gn gd gv
  have bz := (Below.refl w.heap.size w).alloc (Nat.le_refl _) (.cells #[.string s, .bool d, .int .i64 a, .int .i64 e] 54)
  have hz := heap_alloc_new w (.cells #[.string s, .bool d, .int .i64 a, .int .i64 e] 54)
  have l0 := (Ly.refl h).below bz
  obtain ⟨V, hV⟩ : ∃ V, V = w.alloc (.cells #[.string s, .bool d, .int .i64 a, .int .i64 e] 54) := ⟨_, rfl⟩
  have hVs : V.heap.size = w.heap.size + 1 := by rw [hV]; simp
  rw [← hV] at bz hz l0
  have hq2 := cell_at (i := 2) hz rfl
  have L0 := Lib.hid l0; have HZ := Lib.hid hz; have HB := Lib.hid hB; have HS := Lib.hid hs; have HLL := Lib.hid hl; have HVS := Lib.hid hVs; have GA := Lib.hid ga
  have hnl : (numL a.toNat).length ≤ 9 := stm_num ga
  have HNL := Lib.hid hnl
  clear bz hz l0 hB hs hl hVs h hnl
  go_enter Tryz.func89, Tryz.ntmps89
  go_wp2_with fail
  rw [← hV] at *
  clear hV
  refine (putNum_any B v l a V L0.out.own (Nat.le_trans HB.out L0.out.size) ga.1 (by omega) (by have := HLL.out; omega)).mono ?_
  rintro x w1 ⟨v1, rfl, l1⟩
  have hz1 := l1.at_ L0.out.own HZ.out (by decide)
  have L1 := Lib.hid (L0.out.on l1)
  have HZ1 := Lib.hid hz1
  have hc2 := cell_at (i := 2) hz1 rfl
  have hc1 := cell_at (i := 1) hz1 rfl
  clear l1 hz1 ga hq2
  by_cases h0 : a = 0
  · subst h0
    go_wp2
    go_ret
    refine ⟨v1, rfl, L1.out.same ?_⟩
    unfold cE tailE
    rw [if_pos rfl, List.append_nil]
  · have e0 : (a == 0) = false := by simp; exact h0
    have e1 : decide (a = 0) = false := by simp; exact h0
    cases d with
    | true =>
      obtain ⟨A1, n1, c1, hA1, hl1, _⟩ := L1.out.own.slice
      subst hA1
      have ba := (Below.refl w1.heap.size w1).alloc (Nat.le_refl _) (.cells #[.int .u8 1] 5)
      have lb := L1.out.below ba
      have lo := lb.own
      unfold OwnY at lo
      rw [hl1] at lo
      have HL1 := Lib.hid hl1
      clear hl1
      have HTE : Hid (cE ⟨s, true, a, e⟩ = numL a.toNat ++ [1]) := Lib.hid (by unfold cE tailE; rw [if_neg h0, if_pos rfl])
      clear gn gd gv h0
      go_wp2_with (at_builtin; refine list_ex rfl (.tmp 17) (.tmp 18) _ _ rfl (.slice A1 n1 c1) (.slice (some ⟨w1.heap.size, 0, none⟩) 1 1) rfl rfl (run_appB_at B lo 1 (Rd.one w1 1 1 rfl) ?s1 ?s2) ?_)
      case s1 => have := HNL.out; have := HLL.out; have h1 := HL1.out; rw [List.length_append] at h1; omega
      case s2 => have := HB.out; have := lb.size; omega
      intro v3 w3 h3 hg hloc
      go_wp2
      go_ret
      refine ⟨v3, rfl, (lb.on (Ly.grown h3 ?_ hg hloc)).same ?_⟩
      · have h1 := HL1.out
        simp only [List.length_append, List.length_cons, List.length_nil] at h1 ⊢
        omega
      · rw [HTE.out]; try simp only [List.append_assoc]
    | false =>
      have hge := gv h0 rfl
      have GE := Lib.hid hge.2
      have HTE : Hid (cE ⟨s, false, a, e⟩ = numL a.toNat ++ ([0] ++ (tE s ++ numL e.toNat))) := Lib.hid (by unfold cE tailE; rw [if_neg h0, if_neg (by simp)]; rfl)
      have htl : (tE s).length ≤ 9 + 1000000000 := tE_le HS.out (by omega)
      have HL3 : Hid ((l ++ numL a.toNat ++ [0]).length ≤ 10000000000) := Lib.hid (by have := HNL.out; have := HLL.out; simp only [List.length_append, List.length_cons, List.length_nil]; omega)
      have HL4 : Hid ((l ++ numL a.toNat ++ [0] ++ tE s).length ≤ 100000000000) := Lib.hid (by have := HNL.out; have := HLL.out; simp only [List.length_append, List.length_cons, List.length_nil] at *; omega)
      obtain ⟨A1, n1, c1, hA1, hl1, _⟩ := L1.out.own.slice
      subst hA1
      have HLN := Lib.hid hl1
      clear gn gd gv h0 hge htl hl1
      go_wp2_with fail
      refine wp_region_held_drew (S := fun w' => w'.heap[w.heap.size]? = some (.cells #[.string s, .bool false, .int .i64 a, .int .i64 e] 54 (0, 0))) (by kernel_rfl) ?_ (fun hHeld => ?_)
      · exact HZ1.out
      refine takesH [0, 3, 4, 6, 7] ?_
      repeat
        refine takesH_one (v := ?_) ?_ ?_
        rotate_left
        · first | (refine Or.inr ⟨by rfl, ?_⟩; with_reducible rfl) | (refine Or.inl ⟨by rfl, ?_⟩; intro wx hSw; (try dsimp only at hSw); first | (go_simp; first | done | with_reducible rfl) | (have hc0 := cell_at (i := 0) hSw rfl; go_simp; first | done | with_reducible rfl) | (have hc3 := cell_at (i := 3) hSw rfl; go_simp; first | done | with_reducible rfl))
        try simp only [Act.put, List.getElem_toArray, List.getElem_cons_succ, List.getElem_cons_zero, List.setIfInBounds_toArray, List.set_cons_zero, List.set_cons_succ]
      refine takesH_nil ?_
      refine wpAnyH_ready (rs := [1]) (by kernel_rfl) (by simp) (AllReadyH.cons rfl (fun K hK => ?_) AllReadyH.nil)
      obtain ⟨U, hU⟩ : ∃ U, U = w1.drew := ⟨_, rfl⟩
      rw [← hU]
      have hu : Below w1.heap.size w1 U := by rw [hU]; exact (Below.refl _ _).drew
      clear hU
      have lu := L1.out.below hu
      have hzu := (hu.block _ (Array.getElem?_eq_some_iff.1 HZ1.out).1).trans HZ1.out
      have ba := (Below.refl U.heap.size U).alloc (Nat.le_refl _) (.cells #[.int .u8 0] 5)
      have HZ2 := Lib.hid ((ba.block _ (Array.getElem?_eq_some_iff.1 hzu).1).trans hzu)
      have L2 := Lib.hid (lu.below ba)
      have lo := L2.out.own
      unfold OwnY at lo
      rw [HLN.out] at lo
      clear hu lu hzu ba
      go_simp
      refine hK.out _ _ ?_ (fun hHeld => ?_)
      · exact HZ2.out
      clear hK K
      try simp only [Act.put, List.getElem_toArray, List.getElem_cons_succ, List.getElem_cons_zero, List.setIfInBounds_toArray, List.set_cons_zero, List.set_cons_succ]
      refine wpAnyH_ready (rs := [2]) (by kernel_rfl) (by simp) (AllReadyH.cons rfl (fun K hK => ?_) AllReadyH.nil)
      refine step_ex rfl (.tmp 20) (.tmp 21) _ _ rfl (.slice A1 n1 c1) (.slice (some ⟨U.heap.size, 0, none⟩) 1 1) (by simp [Act.eval]) (by simp [Act.eval]) (run_appB_at B lo 1 (Rd.one U 0 0 rfl) ?s1 ?s2) ?_
      case s1 => have := HNL.out; have := HLL.out; have h1 := HLN.out; rw [List.length_append] at h1; omega
      case s2 => have := HB.out; have := L2.out.size; omega
      intro v3 w3 h3 hg
      obtain ⟨hg, hloc⟩ := hg
      have l3 := Ly.grown h3 (by have h1 := HLN.out; simp only [List.length_append, List.length_cons, List.length_nil] at h1 ⊢; omega) hg hloc
      have HZ3 := Lib.hid (l3.at_ L2.out.own HZ2.out (by decide))
      have L3 := Lib.hid (L2.out.on l3)
      obtain ⟨A3, n3, c3, hA3, _⟩ := L3.out.own.slice
      subst hA3
      clear h3 hg hloc l3 lo
      refine hK.out _ _ ?_ (fun hHeld => ?_)
      · exact HZ3.out
      clear hK K
      try simp only [Act.put, List.getElem_toArray, List.getElem_cons_succ, List.getElem_cons_zero, List.setIfInBounds_toArray, List.set_cons_zero, List.set_cons_succ]
      refine wpAnyH_ready (rs := [5]) (by kernel_rfl) (by simp) (AllReadyH.cons rfl (fun K hK => ?_) AllReadyH.nil)
      go_simp
      refine (putText_any B _ (l ++ numL a.toNat ++ [0]) s w3 L3.out.own (Nat.le_trans HB.out L3.out.size) (by have := HS.out; omega) HL3.out).mono ?_
      rintro x w4 ⟨v4, rfl, l4⟩
      have HZ4 := Lib.hid (l4.at_ L3.out.own HZ3.out (by decide))
      have L4 := Lib.hid (L3.out.on l4)
      clear l4
      try go_wp2_with fail
      refine hK.out _ _ ?_ (fun hHeld => ?_)
      · first | exact HZ4.out | exact HZ5.out
      clear hK K
      try simp only [Act.put, List.getElem_toArray, List.getElem_cons_succ, List.getElem_cons_zero, List.setIfInBounds_toArray, List.set_cons_zero, List.set_cons_succ]
      refine wpAnyH_ready (rs := [8]) (by kernel_rfl) (by simp) (AllReadyH.cons rfl (fun K hK => ?_) AllReadyH.nil)
      go_simp
      refine (putNum_any B v4 (l ++ numL a.toNat ++ [0] ++ tE s) e w4 L4.out.own (Nat.le_trans HB.out L4.out.size) GE.out.1 (by have := GE.out.2; omega) HL4.out).mono ?_
      rintro x w5 ⟨v5, rfl, l5⟩
      have HZ5 := Lib.hid (l5.at_ L4.out.own HZ4.out (by decide))
      have L5 := Lib.hid (L4.out.on l5)
      clear l5
      try go_wp2_with fail
      refine hK.out _ _ ?_ (fun hHeld => ?_)
      · first | exact HZ4.out | exact HZ5.out
      clear hK K
      try simp only [Act.put, List.getElem_toArray, List.getElem_cons_succ, List.getElem_cons_zero, List.setIfInBounds_toArray, List.set_cons_zero, List.set_cons_succ]
      refine takesH [9] ?_
      repeat
        refine takesH_one (v := ?_) ?_ ?_
        rotate_left
        · first | (refine Or.inr ⟨by rfl, ?_⟩; with_reducible rfl) | (refine Or.inl ⟨by rfl, ?_⟩; intro wx hSw; (try dsimp only at hSw); first | (go_simp; first | done | with_reducible rfl))
        try simp only [Act.put, List.getElem_toArray, List.getElem_cons_succ, List.getElem_cons_zero, List.setIfInBounds_toArray, List.set_cons_zero, List.set_cons_succ]
      refine takesH_nil ?_
      refine wpAnyH_done (by kernel_rfl) ?_ _
      go_wp2
      go_ret
      refine ⟨v5, rfl, L5.out.same ?_⟩
      rw [HTE.out]
      simp only [List.append_assoc]
set_option maxRecDepth 8000 in
set_option maxHeartbeats 4000000 in
theorem putCol_any (B : Nat) (v : Value) (l : Bs) (n s : ByteArray) (d : Bool) (a e : Int) (w : World) (h : OwnY B w v l) (hB : B ≤ w.heap.size) (hg : (⟨s, d, a, e⟩ : Ce).Gd) (hn : n.size ≤ 50000000) (hs : s.size ≤ 1000000000) (hl : l.length ≤ 900000000) :
    Calls Tryz.prog 91 #[v, .agg #[.string n, .string s, .bool d, .int .i64 a, .int .i64 e]] w (Lays B w v (l ++ kE (n, ⟨s, d, a, e⟩))) := by
  have bz := (Below.refl w.heap.size w).alloc (Nat.le_refl _) (.cells #[.string n, .string s, .bool d, .int .i64 a, .int .i64 e] 99)
  have hz := heap_alloc_new w (.cells #[.string n, .string s, .bool d, .int .i64 a, .int .i64 e] 99)
  have l0 := (Ly.refl h).below bz
  obtain ⟨V, hV⟩ : ∃ V, V = w.alloc (.cells #[.string n, .string s, .bool d, .int .i64 a, .int .i64 e] 99) := ⟨_, rfl⟩
  rw [← hV] at bz hz l0
  have htl : (tE n).length ≤ 9 + 50000000 := tE_le hn (by omega)
  have HL1 : Hid ((l ++ tE n).length ≤ 1000000000) := Lib.hid (by rw [List.length_append]; omega)
  have L0 := Lib.hid l0.drew; have HZ := Lib.hid hz; have HB := Lib.hid hB; have HS := Lib.hid hs; have HN := Lib.hid hn; have HLL := Lib.hid hl; have HG := Lib.hid hg
  clear bz hz l0 hB hs hl h hn hg htl
  go_enter Tryz.func91, Tryz.ntmps91
  go_wp2_with fail
  rw [← hV]
  clear hV
  refine wp_region_held_drew (S := fun w' => w'.heap[w.heap.size]? = some (.cells #[.string n, .string s, .bool d, .int .i64 a, .int .i64 e] 99 (0, 0))) (by kernel_rfl) ?_ (fun hHeld => ?_)
  · exact HZ.out
  refine takesH [0, 1, 2, 4, 5] ?_
  repeat
    refine takesH_one (v := ?_) ?_ ?_
    rotate_left
    · first | (refine Or.inr ⟨by rfl, ?_⟩; with_reducible rfl) | (refine Or.inl ⟨by rfl, ?_⟩; intro wx hSw; (try dsimp only at hSw); first | (go_simp; first | done | with_reducible rfl) | (have hc0 := cell_at (i := 0) hSw rfl; go_simp; first | done | with_reducible rfl) | (have hc1 := cell_at (i := 1) hSw rfl; have hc2 := cell_at (i := 2) hSw rfl; have hc3 := cell_at (i := 3) hSw rfl; have hc4 := cell_at (i := 4) hSw rfl; go_simp; first | done | with_reducible rfl))
    try simp only [Act.put, List.getElem_toArray, List.getElem_cons_succ, List.getElem_cons_zero, List.setIfInBounds_toArray, List.set_cons_zero, List.set_cons_succ]
  refine takesH_nil ?_
  refine wpAnyH_ready (rs := [3]) (by kernel_rfl) (by simp) (AllReadyH.cons rfl (fun K hK => ?_) AllReadyH.nil)
  go_simp
  refine (putText_any B v l n V.drew L0.out.own (Nat.le_trans HB.out L0.out.size) (by have := HN.out; omega) (by have := HLL.out; omega)).mono ?_
  rintro x w1 ⟨v1, rfl, l1⟩
  have HZ1 := Lib.hid (l1.at_ L0.out.own HZ.out (by decide))
  have L1 := Lib.hid (L0.out.on l1)
  clear l1
  try go_wp2_with fail
  refine hK.out _ _ ?_ (fun hHeld => ?_)
  · first | exact HZ2.out | exact HZ1.out
  clear hK K
  try simp only [Act.put, List.getElem_toArray, List.getElem_cons_succ, List.getElem_cons_zero, List.setIfInBounds_toArray, List.set_cons_zero, List.set_cons_succ]
  refine wpAnyH_ready (rs := [6]) (by kernel_rfl) (by simp) (AllReadyH.cons rfl (fun K hK => ?_) AllReadyH.nil)
  go_simp
  refine (putCell_any B v1 (l ++ tE n) s d a e w1 L1.out.own (Nat.le_trans HB.out L1.out.size) HG.out HS.out HL1.out).mono ?_
  rintro x w2 ⟨v2, rfl, l2⟩
  have HZ2 := Lib.hid (l2.at_ L1.out.own HZ1.out (by decide))
  have L2 := Lib.hid (L1.out.on l2)
  clear l2
  try go_wp2_with fail
  refine hK.out _ _ ?_ (fun hHeld => ?_)
  · first | exact HZ2.out | exact HZ1.out
  clear hK K
  try simp only [Act.put, List.getElem_toArray, List.getElem_cons_succ, List.getElem_cons_zero, List.setIfInBounds_toArray, List.set_cons_zero, List.set_cons_succ]
  refine takesH [7] ?_
  repeat
    refine takesH_one (v := ?_) ?_ ?_
    rotate_left
    · first | (refine Or.inr ⟨by rfl, ?_⟩; with_reducible rfl) | (refine Or.inl ⟨by rfl, ?_⟩; intro wx hSw; (try dsimp only at hSw); first | (go_simp; first | done | with_reducible rfl))
    try simp only [Act.put, List.getElem_toArray, List.getElem_cons_succ, List.getElem_cons_zero, List.setIfInBounds_toArray, List.set_cons_zero, List.set_cons_succ]
  refine takesH_nil ?_
  refine wpAnyH_done (by kernel_rfl) ?_ _
  go_wp2
  go_ret
  exact ⟨v2, rfl, L2.out.same (by unfold kE; rw [List.append_assoc])⟩
end Go.Proofs.YthfanonjokpflaaGreat
set_option linter.unusedVariables false
set_option linter.unusedSimpArgs false
namespace Go.Proofs.YthfanonjokpflaaGreat
open Go Go.RowKit

/-- A column that is put. -/
def ColS (x : ByteArray × Ce) : Prop := x.1.size ≤ 1000000 ∧ x.2.Gd ∧ x.2.s.size ≤ 1000000
set_option maxRecDepth 8000 in
set_option maxHeartbeats 400000 in
theorem putCols_any (B : Nat) (v : Value) (l : Bs) (A : Option Addr) (n c Bk : Nat) (K : Cols) (w : World) (h : OwnY B w v l) (hB : B ≤ w.heap.size) (hr : RdK w Bk A n K) (hBk : Bk ≤ B) (hx : ∀ x ∈ K, ColS x) (hn : n ≤ 1000000) (htot : (l ++ (numL n ++ K.flatMap kE)).length ≤ 500000000) :
    Calls Tryz.prog 90 #[v, .slice A n c, .func (.func 91) #[] #[]] w (Lays B w v (l ++ (numL n ++ K.flatMap kE))) := by
  have hl := hr.1
  obtain ⟨P, hP⟩ : ∃ P, l ++ (numL n ++ K.flatMap kE) = P := ⟨_, rfl⟩
  obtain ⟨P0, hP0⟩ : ∃ X, l ++ numL n = X := ⟨_, rfl⟩
  rw [hP] at htot ⊢
  have hst : P0 ++ (K.drop 0).flatMap kE = P := by rw [← hP, ← hP0, List.drop_zero, List.append_assoc]
  have hl0 : l.length ≤ 500000000 := by have := congrArg List.length hP; rw [List.length_append] at this; omega
  have N := putNum_any B v l (n : Int) w h hB (by omega) (by omega) (by omega)
  rw [Int.toNat_natCast, hP0] at N
  have HN := Lib.hid N; have HB := Lib.hid hB; have HO := Lib.hid h; have HR := Lib.hid hr; have HX := Lib.hid hx; have HT := Lib.hid htot; have HL := Lib.hid hl; have HST := Lib.hid hst; have HBK := Lib.hid hBk; have HNN := Lib.hid hn
  clear N hB h hr hx htot hl hst hBk hP hP0 hl0 hn
  go_enter Tryz.func90, Tryz.ntmps90
  go_wp2_with fail
  refine (HN.out).mono ?_
  rintro e w1 ⟨v1, rfl, l1⟩
  have L1 := Lib.hid l1
  clear l1
  go_wp2_with fail
  go_loopw [0, 15] (fun b i wr => ∃ (t : Nat) (X : Bs) (b' : Value), t ≤ n ∧ i = .int .i64 t ∧ b' = b ∧ X ++ (K.drop t).flatMap kE = P ∧ Ly B w v wr b' X) (fun _ i _ => n - (intOf i).toNat)
  case atStart => exact ⟨0, P0, v1, Nat.zero_le _, rfl, rfl, HST.out, L1.out⟩
  case round =>
    obtain ⟨t, X, b, ht, rfl, rfl, hX, hly⟩ := hrel
    by_cases hlt : t < n
    · have i1 : (t : Int) < n := by omega
      have i0 : (0 : Int) ≤ t := by omega
      have i8 : n ≤ 1000000 := HNN.out
      have htl : t < K.length := by rw [HL.out]; exact hlt
      have hrd := HR.out.below ((hly.base HO.out HB.out).mono HBK.out)
      obtain ⟨g0, o0, rfl, hg0, hc⟩ := hrd.2 (by omega)
      have hcol := hc t htl
      have hs := HX.out K[t] (List.getElem_mem htl)
      rw [List.drop_eq_getElem_cons htl, List.flatMap_cons] at hX
      obtain ⟨⟨nm, ⟨cs, cd, ca, ce⟩⟩, hcx⟩ : ∃ y, K[t] = y := ⟨_, rfl⟩
      rw [hcx] at hcol hs hX
      dsimp only at hcol hs hX
      have hxl : X.length ≤ 500000000 := by have := congrArg List.length hX; rw [List.length_append] at this; have := HT.out; omega
      obtain ⟨s1, s2, s3⟩ := hs
      dsimp only at s1 s2 s3
      obtain ⟨_, _, _, _, _⟩ := hcol
      have ba := (Below.refl wr.heap.size wr).alloc (Nat.le_refl _) (.cells #[.string nm, .string cs, .bool cd, .int .i64 ca, .int .i64 ce] 99)
      have lb := hly.below ba
      have HLB := Lib.hid lb; have HX3 := Lib.hid hX; have S1 := Lib.hid s1; have S2 := Lib.hid s2; have S3 := Lib.hid s3; have HXL := Lib.hid hxl
      clear hrd hc hX hxl s1 s2 s3 ba lb hly hcx
      go_wp2_with fail
      refine (putCol_any B b X nm cs cd ca ce _ HLB.out.own (Nat.le_trans HB.out HLB.out.size) S2.out (by have := S1.out; omega) (by have := S3.out; omega) (by have := HXL.out; omega)).mono ?_
      rintro x w2 ⟨v2, rfl, l2⟩
      have L2 := Lib.hid (HLB.out.on l2)
      clear l2
      go_wp2
      go_roundw
      case rel => exact ⟨t + 1, X ++ kE (nm, ⟨cs, cd, ca, ce⟩), v2, by omega, by go_num, rfl, by rw [List.append_assoc]; exact HX3.out, L2.out⟩
      case measure => simp [intOf]; omega
    · obtain rfl : t = n := by omega
      rw [List.drop_of_length_le (by rw [HL.out]; exact Nat.le_refl _), List.flatMap_nil, List.append_nil] at hX
      have HLY := Lib.hid (hly.same hX)
      clear hX hly
      go_wp2
      go_ret
      exact ⟨b, rfl, HLY.out⟩
end Go.Proofs.YthfanonjokpflaaGreat
set_option linter.unusedVariables false
set_option linter.unusedSimpArgs false
namespace Go.Proofs.YthfanonjokpflaaGreat
open Go Go.RowKit

/-- A partition in memory: its rows lie at A. -/
structure PA where
  k : ByteArray
  g : Int
  L : List RA
  A : Option Addr
  c : Nat
def pcs (x : PA) : List Value := [.string x.k, .int .i64 x.g, .slice x.A x.L.length x.c]
def pRow (l : List PA) : List Value := l.flatMap pcs
theorem pRow_length (l : List PA) : (pRow l).length = l.length * 3 := by
  unfold pRow
  induction l with
  | nil => rfl
  | cons c l ih => rw [List.flatMap_cons, List.length_append, ih, List.length_cons]; simp [pcs]; omega
theorem pRow_at : ∀ (l : List PA) (j i : Nat) (hj : j < l.length) (hi : i < 3), (pRow l)[j * 3 + i]? = (pcs l[j])[i]?
  | [], j, i, hj, hi => by cases hj
  | c :: l, 0, i, hj, hi => by
    simp only [pRow, List.flatMap_cons, Nat.zero_mul, Nat.zero_add, List.getElem_cons_zero]
    exact List.getElem?_append_left (by simpa [pcs] using hi)
  | c :: l, j + 1, i, hj, hi => by
    have ih := pRow_at l j i (by simpa using hj) hi
    simp only [pRow, List.flatMap_cons, List.getElem_cons_succ] at ih ⊢
    rw [List.getElem?_append_right (by simp [pcs]; omega), ← ih]
    congr 1
    simp [pcs]
    omega
/-- A slice of partitions. -/
def RdP (w : World) (B : Nat) (A : Option Addr) (n : Nat) (l : List PA) : Prop :=
  l.length = n ∧ (0 < n → ∃ g o, A = some ⟨g, o, none⟩ ∧ g < B ∧ ∀ j (hj : j < l.length) i u, (pcs l[j])[i]? = some u → w.cell? ⟨g, o + j * 3 + i, none⟩ = some u)
theorem RdP.below {w w' : World} {B n : Nat} {A : Option Addr} {l : List PA} (h : RdP w B A n l) (hb : Below B w w') : RdP w' B A n l :=
  ⟨h.1, fun hn => by
    obtain ⟨g, o, e, hg, hc⟩ := h.2 hn
    exact ⟨g, o, e, hg, fun j hj i u hu => (hb.cell (p := ⟨g, _, none⟩) hg).trans (hc j hj i u hu)⟩⟩
theorem RdP.up {w : World} {B B' n : Nat} {A : Option Addr} {l : List PA} (h : RdP w B A n l) (hB : B ≤ B') : RdP w B' A n l :=
  ⟨h.1, fun hn => by
    obtain ⟨g, o, e, hg, hc⟩ := h.2 hn
    exact ⟨g, o, e, by omega, hc⟩⟩
theorem RdP.all {w : World} {B n : Nat} {ad : Addr} {l : List PA} (h : RdP w B (some ad) n l) : ∀ j u, (pRow l)[j]? = some u → w.cell? (ad.add j) = some u := by
  intro j u hu
  have hj : j < (pRow l).length := by
    rcases Nat.lt_or_ge j (pRow l).length with h1 | h1
    · exact h1
    · rw [List.getElem?_eq_none h1] at hu; cases hu
  rw [pRow_length] at hj
  have hq : j / 3 < l.length := by omega
  obtain ⟨g, o, e, _, hc⟩ := h.2 (by have := h.1; omega)
  injection e with e
  subst e
  have hm : j = j / 3 * 3 + j % 3 := by omega
  rw [hm, pRow_at l (j / 3) (j % 3) hq (by omega)] at hu
  rw [Addr.add_lit, hm, ← Nat.add_assoc]
  exact hc (j / 3) hq (j % 3) u hu
theorem RdP.of_all {w : World} {B n g o : Nat} {l : List PA} (hl : l.length = n) (hg : g < B) (h : ∀ j u, (pRow l)[j]? = some u → w.cell? ⟨g, o + j, none⟩ = some u) : RdP w B (some ⟨g, o, none⟩) n l := by
  refine ⟨hl, fun _ => ⟨g, o, rfl, hg, fun j hj i u hu => ?_⟩⟩
  have hi : i < 3 := by
    rcases Nat.lt_or_ge i 3 with h1 | h1
    · exact h1
    · rw [List.getElem?_eq_none (by simpa [pcs] using h1)] at hu; cases hu
  rw [Nat.add_assoc]
  exact h _ u ((pRow_at l j i hj hi).trans hu)
theorem RdP.of_own {w : World} {base n : Nat} {A : Option Addr} {c : Nat} {l : List PA} (h : w.ownsRow base 24 3 (.slice A n c) n (pRow l)) : RdP w w.heap.size A n l := by
  have hl : l.length = n := by have := h.1; rw [pRow_length] at this; omega
  rcases h.2 with ⟨e, rfl⟩ | ⟨g, cap, cur, e, hb, hh, hn, hm, hs, ht⟩
  · exact ⟨hl, fun h => absurd h (by omega)⟩
  · injection e with e1 e2 e3
    subst e1
    refine RdP.of_all hl (Array.getElem?_eq_some_iff.1 hh).1 fun j u hu => ?_
    have := h.cells (g := g) rfl j u hu
    rw [Addr.add_lit] at this
    exact this
/-- One in a slice that was just laid. -/
theorem RdP.laid (w : World) (x : PA) : RdP (w.alloc (.cells #[.string x.k, .int .i64 x.g, .slice x.A x.L.length x.c] 24)) (w.heap.size + 1) (some ⟨w.heap.size, 0, none⟩) 1 [x] := by
  refine RdP.of_all rfl (by omega) fun j u hu => ?_
  have : (pRow [x]) = pcs x := by simp [pRow]
  rw [this] at hu
  rw [Nat.zero_add]
  simpa [pcs] using hu
/-- The three cells of one of them. -/
theorem RdP.part {w : World} {B n : Nat} {g o : Nat} {l : List PA} (h : RdP w B (some ⟨g, o, none⟩) n l) {j : Nat} (hj : j < l.length) :
    w.cell? ⟨g, o + j * 3, none⟩ = some (.string l[j].k) ∧ w.cell? ⟨g, o + j * 3 + 1, none⟩ = some (.int .i64 l[j].g) ∧ w.cell? ⟨g, o + j * 3 + 2, none⟩ = some (.slice l[j].A l[j].L.length l[j].c) := by
  obtain ⟨g', o', e, _, hc⟩ := h.2 (by have := h.1; omega)
  injection e with e
  injection e with e1 e2 _
  subst e1; subst e2
  exact ⟨hc j hj 0 _ rfl, hc j hj 1 _ rfl, hc j hj 2 _ rfl⟩
theorem RdP.ex {w : World} {B n : Nat} {A : Option Addr} {l : List PA} (h : RdP w B A n l) (hn : 0 < n) : ∃ g o, A = some ⟨g, o, none⟩ ∧ g < B := by
  obtain ⟨g, o, e, hg, _⟩ := h.2 hn
  exact ⟨g, o, e, hg⟩
end Go.Proofs.YthfanonjokpflaaGreat
set_option linter.unusedVariables false
set_option linter.unusedSimpArgs false
namespace Go.Proofs.YthfanonjokpflaaGreat
open Go Go.RowKit

/-- A row that is put. -/
structure RoS (r : Ro) : Prop where
  key : r.key.size ≤ 1000000
  live : r.live.Gd
  val : r.live.s.size ≤ 1000000
  gone : Stm r.gone
  shade : Stm r.shade
  len : r.cols.length ≤ 1000000
  cols : ∀ x ∈ r.cols, ColS x
theorem Ly.step {B : Nat} {w w1 w2 : World} {v v1 v2 : Value} {l1 l2 : Bs} (h : Ly B w v w1 v1 l1) (h' : Ly B w1.drew v1 w2 v2 l2) : Ly B w v w2 v2 l2 := h.drew.on h'
set_option maxRecDepth 8000 in
set_option maxHeartbeats 1000000 in
theorem putRow_any (B : Nat) (v : Value) (l : Bs) (key ls : ByteArray) (ld : Bool) (la le g sh : Int) (A : Option Addr) (n c Bk : Nat) (Ks : Cols) (w : World) (h : OwnY B w v l) (hB : B ≤ w.heap.size) (hr : RdK w Bk A n Ks) (hBk : Bk ≤ B) (hs : RoS ⟨key, ⟨ls, ld, la, le⟩, g, sh, Ks⟩) (htot : (l ++ rE ⟨key, ⟨ls, ld, la, le⟩, g, sh, Ks⟩).length ≤ 500000000) :
    Calls Tryz.prog 62 #[v, .agg #[.string key, .string ls, .bool ld, .int .i64 la, .int .i64 le, .int .i64 g, .int .i64 sh, .slice A n c]] w (Lays B w v (l ++ rE ⟨key, ⟨ls, ld, la, le⟩, g, sh, Ks⟩)) := by
  have hkn : Ks.length = n := hr.1
  have hnn : n ≤ 1000000 := by have := hs.len; dsimp only at this; omega
  have hE : l ++ rE ⟨key, ⟨ls, ld, la, le⟩, g, sh, Ks⟩ = l ++ tE key ++ cE ⟨ls, ld, la, le⟩ ++ numL g.toNat ++ numL sh.toNat ++ (numL n ++ Ks.flatMap kE) := by
    unfold rE
    dsimp only
    rw [hkn]
    simp only [List.append_assoc]
  rw [hE] at htot ⊢
  have ht4 := htot
  simp only [List.length_append] at ht4
  have HT4 := Lib.hid htot
  have HT3 : Hid ((l ++ tE key ++ cE ⟨ls, ld, la, le⟩ ++ numL g.toNat).length ≤ 500000000) := Lib.hid (by simp only [List.length_append]; omega)
  have HT2 : Hid ((l ++ tE key ++ cE ⟨ls, ld, la, le⟩).length ≤ 500000000) := Lib.hid (by simp only [List.length_append]; omega)
  have HT1 : Hid ((l ++ tE key).length ≤ 500000000) := Lib.hid (by simp only [List.length_append]; omega)
  have HT0 : Hid (l.length ≤ 500000000) := Lib.hid (by omega)
  have bz := (Below.refl w.heap.size w).alloc (Nat.le_refl _) (.cells #[.string key, .string ls, .bool ld, .int .i64 la, .int .i64 le, .int .i64 g, .int .i64 sh, .slice A n c] 57)
  have hz := heap_alloc_new w (.cells #[.string key, .string ls, .bool ld, .int .i64 la, .int .i64 le, .int .i64 g, .int .i64 sh, .slice A n c] 57)
  have l0 := (Ly.refl h).below bz
  obtain ⟨V, hV⟩ : ∃ V, V = w.alloc (.cells #[.string key, .string ls, .bool ld, .int .i64 la, .int .i64 le, .int .i64 g, .int .i64 sh, .slice A n c] 57) := ⟨_, rfl⟩
  rw [← hV] at bz hz l0
  have L0 := Lib.hid l0.drew; have HZ := Lib.hid hz; have HB := Lib.hid hB; have HK := Lib.hid hs; have HO := Lib.hid h; have HR := Lib.hid hr; have HBK := Lib.hid hBk; have HNN := Lib.hid hnn
  clear bz hz l0 hB hs h htot ht4 hE hkn hr hBk hnn
  go_enter Tryz.func62, Tryz.ntmps62
  go_wp2_with fail
  rw [← hV]
  clear hV
  refine wp_region_held_drew (S := fun w' => w'.heap[w.heap.size]? = some (.cells #[.string key, .string ls, .bool ld, .int .i64 la, .int .i64 le, .int .i64 g, .int .i64 sh, .slice A n c] 57)) (by kernel_rfl) ?_ (fun hHeld => ?_)
  · exact HZ.out
  refine takesH [0, 1, 2, 4, 5] ?_
  repeat
    refine takesH_one (v := ?_) ?_ ?_
    rotate_left
    · first | (refine Or.inr ⟨by rfl, ?_⟩; with_reducible rfl) | (refine Or.inl ⟨by rfl, ?_⟩; intro wx hSw; (try dsimp only at hSw); first | (go_simp; first | done | with_reducible rfl) | (have hc0 := cell_at (i := 0) hSw rfl; go_simp; first | done | with_reducible rfl) | (have hc1 := cell_at (i := 1) hSw rfl; have hc2 := cell_at (i := 2) hSw rfl; have hc3 := cell_at (i := 3) hSw rfl; have hc4 := cell_at (i := 4) hSw rfl; go_simp; first | done | with_reducible rfl))
    try simp only [Act.put, List.getElem_toArray, List.getElem_cons_succ, List.getElem_cons_zero, List.setIfInBounds_toArray, List.set_cons_zero, List.set_cons_succ]
  refine takesH_nil ?_
  refine wpAnyH_ready (rs := [3]) (by kernel_rfl) (by simp) (AllReadyH.cons rfl (fun K hK => ?_) AllReadyH.nil)
  go_simp
  refine (putText_any B v l key V.drew L0.out.own (Nat.le_trans HB.out L0.out.size) (by have := HK.out.key; dsimp only at this; omega) (by have := HT0.out; omega)).mono ?_
  rintro x w1 ⟨v1, rfl, l1⟩
  have HZ1 := Lib.hid (l1.at_ L0.out.own HZ.out (by decide))
  have L1 := Lib.hid (L0.out.on l1)
  clear l1
  try go_wp2_with fail
  refine hK.out _ _ ?_ (fun hHeld => ?_)
  · first | exact HZ2.out | exact HZ1.out
  clear hK K
  try simp only [Act.put, List.getElem_toArray, List.getElem_cons_succ, List.getElem_cons_zero, List.setIfInBounds_toArray, List.set_cons_zero, List.set_cons_succ]
  refine wpAnyH_ready (rs := [6]) (by kernel_rfl) (by simp) (AllReadyH.cons rfl (fun K hK => ?_) AllReadyH.nil)
  go_simp
  refine (putCell_any B v1 (l ++ tE key) ls ld la le w1 L1.out.own (Nat.le_trans HB.out L1.out.size) HK.out.live (by have := HK.out.val; dsimp only at this; omega) (by have := HT1.out; omega)).mono ?_
  rintro x w2 ⟨v2, rfl, l2⟩
  have HZ2 := Lib.hid (l2.at_ L1.out.own HZ1.out (by decide))
  have L2 := Lib.hid (L1.out.on l2)
  clear l2
  try go_wp2_with fail
  refine hK.out _ _ ?_ (fun hHeld => ?_)
  · first | exact HZ2.out | exact HZ1.out
  clear hK K
  try simp only [Act.put, List.getElem_toArray, List.getElem_cons_succ, List.getElem_cons_zero, List.setIfInBounds_toArray, List.set_cons_zero, List.set_cons_succ]
  refine takesH [7] ?_
  repeat
    refine takesH_one (v := ?_) ?_ ?_
    rotate_left
    · first | (refine Or.inr ⟨by rfl, ?_⟩; with_reducible rfl) | (refine Or.inl ⟨by rfl, ?_⟩; intro wx hSw; (try dsimp only at hSw); first | (go_simp; first | done | with_reducible rfl))
    try simp only [Act.put, List.getElem_toArray, List.getElem_cons_succ, List.getElem_cons_zero, List.setIfInBounds_toArray, List.set_cons_zero, List.set_cons_succ]
  refine takesH_nil ?_
  refine wpAnyH_done (by kernel_rfl) ?_ _
  go_wp2_with fail
  refine wp_region_held_drew (S := fun w' => w'.heap[w.heap.size]? = some (.cells #[.string key, .string ls, .bool ld, .int .i64 la, .int .i64 le, .int .i64 g, .int .i64 sh, .slice A n c] 57)) (by kernel_rfl) ?_ (fun hHeld => ?_)
  · exact HZ2.out
  refine takesH [0, 1, 2, 4, 5, 7, 8] ?_
  repeat
    refine takesH_one (v := ?_) ?_ ?_
    rotate_left
    · first | (refine Or.inr ⟨by rfl, ?_⟩; with_reducible rfl) | (refine Or.inl ⟨by rfl, ?_⟩; intro wx hSw; (try dsimp only at hSw); first | (go_simp; first | done | with_reducible rfl) | (have hc5 := cell_at (i := 5) hSw rfl; go_simp; first | done | with_reducible rfl) | (have hc6 := cell_at (i := 6) hSw rfl; go_simp; first | done | with_reducible rfl) | (have hc7 := cell_at (i := 7) hSw rfl; go_simp; first | done | with_reducible rfl))
    try simp only [Act.put, List.getElem_toArray, List.getElem_cons_succ, List.getElem_cons_zero, List.setIfInBounds_toArray, List.set_cons_zero, List.set_cons_succ]
  refine takesH_nil ?_
  refine wpAnyH_ready (rs := [3]) (by kernel_rfl) (by simp) (AllReadyH.cons rfl (fun K hK => ?_) AllReadyH.nil)
  go_simp
  refine (putNum_any B v2 (l ++ tE key ++ cE ⟨ls, ld, la, le⟩) g w2.drew L2.out.drew.own (Nat.le_trans HB.out L2.out.size) HK.out.gone.1 (by have := HK.out.gone.2; dsimp only at this; omega) (by have := HT2.out; omega)).mono ?_
  rintro x w3 ⟨v3, rfl, l3⟩
  have HZ3 := Lib.hid (l3.at_ L2.out.drew.own HZ2.out (by decide))
  have L3 := Lib.hid (L2.out.step l3)
  clear l3
  try go_wp2_with fail
  refine hK.out _ _ ?_ (fun hHeld => ?_)
  · first | exact HZ5.out | exact HZ4.out | exact HZ3.out
  clear hK K
  try simp only [Act.put, List.getElem_toArray, List.getElem_cons_succ, List.getElem_cons_zero, List.setIfInBounds_toArray, List.set_cons_zero, List.set_cons_succ]
  refine wpAnyH_ready (rs := [6]) (by kernel_rfl) (by simp) (AllReadyH.cons rfl (fun K hK => ?_) AllReadyH.nil)
  go_simp
  refine (putNum_any B v3 (l ++ tE key ++ cE ⟨ls, ld, la, le⟩ ++ numL g.toNat) sh w3 L3.out.own (Nat.le_trans HB.out L3.out.size) HK.out.shade.1 (by have := HK.out.shade.2; dsimp only at this; omega) (by have := HT3.out; omega)).mono ?_
  rintro x w4 ⟨v4, rfl, l4⟩
  have HZ4 := Lib.hid (l4.at_ L3.out.own HZ3.out (by decide))
  have L4 := Lib.hid (L3.out.on l4)
  clear l4
  try go_wp2_with fail
  refine hK.out _ _ ?_ (fun hHeld => ?_)
  · first | exact HZ5.out | exact HZ4.out | exact HZ3.out
  clear hK K
  try simp only [Act.put, List.getElem_toArray, List.getElem_cons_succ, List.getElem_cons_zero, List.setIfInBounds_toArray, List.set_cons_zero, List.set_cons_succ]
  refine wpAnyH_ready (rs := [9]) (by kernel_rfl) (by simp) (AllReadyH.cons rfl (fun K hK => ?_) AllReadyH.nil)
  go_simp
  refine (putCols_any B v4 (l ++ tE key ++ cE ⟨ls, ld, la, le⟩ ++ numL g.toNat ++ numL sh.toNat) A n c Bk Ks w4 L4.out.own (Nat.le_trans HB.out L4.out.size) (HR.out.below ((L4.out.base HO.out HB.out).mono HBK.out)) HBK.out HK.out.cols HNN.out HT4.out).mono ?_
  rintro x w5 ⟨v5, rfl, l5⟩
  have HZ5 := Lib.hid (l5.at_ L4.out.own HZ4.out (by decide))
  have L5 := Lib.hid (L4.out.on l5)
  clear l5
  try go_wp2_with fail
  refine hK.out _ _ ?_ (fun hHeld => ?_)
  · first | exact HZ5.out | exact HZ4.out | exact HZ3.out
  clear hK K
  try simp only [Act.put, List.getElem_toArray, List.getElem_cons_succ, List.getElem_cons_zero, List.setIfInBounds_toArray, List.set_cons_zero, List.set_cons_succ]
  refine takesH [10] ?_
  repeat
    refine takesH_one (v := ?_) ?_ ?_
    rotate_left
    · first | (refine Or.inr ⟨by rfl, ?_⟩; with_reducible rfl) | (refine Or.inl ⟨by rfl, ?_⟩; intro wx hSw; (try dsimp only at hSw); first | (go_simp; first | done | with_reducible rfl))
    try simp only [Act.put, List.getElem_toArray, List.getElem_cons_succ, List.getElem_cons_zero, List.setIfInBounds_toArray, List.set_cons_zero, List.set_cons_succ]
  refine takesH_nil ?_
  refine wpAnyH_done (by kernel_rfl) ?_ _
  go_wp2
  go_ret
  exact ⟨v5, rfl, L5.out⟩
theorem drop_rosP {L : List RA} {t : Nat} (h : t < L.length) : ros (L.drop t) = L[t].ro :: ros (L.drop (t + 1)) := by rw [List.drop_eq_getElem_cons h]; rfl
set_option maxRecDepth 8000 in
set_option maxHeartbeats 1000000 in
theorem putRows_any (B : Nat) (v : Value) (l : Bs) (A : Option Addr) (n c Bk : Nat) (L : List RA) (w : World) (h : OwnY B w v l) (hB : B ≤ w.heap.size) (hr : Lies w Bk A n c L) (hBk : Bk ≤ B) (hx : ∀ x ∈ L, RoS x.ro) (hn : n ≤ 1000000) (htot : (l ++ (numL n ++ (ros L).flatMap rE)).length ≤ 500000000) :
    Calls Tryz.prog 59 #[v, .slice A n c, .func (.func 62) #[] #[]] w (Lays B w v (l ++ (numL n ++ (ros L).flatMap rE))) := by
  have hl := hr.len
  obtain ⟨P, hP⟩ : ∃ P, l ++ (numL n ++ (ros L).flatMap rE) = P := ⟨_, rfl⟩
  obtain ⟨P0, hP0⟩ : ∃ X, l ++ numL n = X := ⟨_, rfl⟩
  rw [hP] at htot ⊢
  have hst : P0 ++ (ros (L.drop 0)).flatMap rE = P := by rw [← hP, ← hP0, List.drop_zero, List.append_assoc]
  have hl0 : l.length ≤ 500000000 := by have := congrArg List.length hP; rw [List.length_append] at this; omega
  have N := putNum_any B v l (n : Int) w h hB (by omega) (by omega) (by omega)
  rw [Int.toNat_natCast, hP0] at N
  have HN := Lib.hid N; have HB := Lib.hid hB; have HO := Lib.hid h; have HR := Lib.hid hr; have HX := Lib.hid hx; have HT := Lib.hid htot; have HL := Lib.hid hl; have HST := Lib.hid hst; have HBK := Lib.hid hBk; have HNN := Lib.hid hn
  clear N hB h hr hx htot hl hst hBk hP hP0 hl0 hn
  go_enter Tryz.func59, Tryz.ntmps59
  go_wp2_with fail
  refine (HN.out).mono ?_
  rintro e w1 ⟨v1, rfl, l1⟩
  have L1 := Lib.hid l1
  clear l1
  go_wp2_with fail
  go_loopw [0, 15] (fun b i wr => ∃ (t : Nat) (X : Bs) (b' : Value), t ≤ n ∧ i = .int .i64 t ∧ b' = b ∧ X ++ (ros (L.drop t)).flatMap rE = P ∧ Ly B w v wr b' X) (fun _ i _ => n - (intOf i).toNat)
  case atStart => exact ⟨0, P0, v1, Nat.zero_le _, rfl, rfl, HST.out, L1.out⟩
  case round =>
    obtain ⟨t, X, b, ht, rfl, rfl, hX, hly⟩ := hrel
    by_cases hlt : t < n
    · have i1 : (t : Int) < n := by omega
      have i0 : (0 : Int) ≤ t := by omega
      have i8 : n ≤ 1000000 := HNN.out
      have htl : t < L.length := by rw [HL.out]; exact hlt
      have hrd := HR.out.below ((hly.base HO.out HB.out).mono HBK.out)
      obtain ⟨g0, o0, rfl, hg0⟩ := hrd.rd.ex (by omega)
      have hrow := hrd.rd.row htl
      have hs := HX.out L[t] (List.getElem_mem htl)
      have hin := hrd.held L[t] (List.getElem_mem htl)
      rw [drop_rosP htl, List.flatMap_cons] at hX
      obtain ⟨x, hcx⟩ : ∃ y, L[t] = y := ⟨_, rfl⟩
      rw [hcx] at hrow hs hX hin
      have hxl : (X ++ rE x.ro).length ≤ 500000000 := by have := congrArg List.length hX; rw [← List.append_assoc, List.length_append] at this; have := HT.out; omega
      obtain ⟨_, _, _, _, _, _, _, _⟩ := hrow
      have ba := (Below.refl wr.heap.size wr).alloc (Nat.le_refl _) (.cells #[.string x.ro.key, .string x.ro.live.s, .bool x.ro.live.d, .int .i64 x.ro.live.a, .int .i64 x.ro.live.e, .int .i64 x.ro.gone, .int .i64 x.ro.shade, .slice x.A x.ro.cols.length x.c] 57)
      have lb := hly.below ba
      have HLB := Lib.hid lb; have HX3 := Lib.hid hX; have S1 := Lib.hid hs; have HXL := Lib.hid hxl
      have HIN := Lib.hid (RoIn.below hin (ba.mono (by have := HBK.out; have := HB.out; have := hly.size; omega)))
      clear hrd hX hxl hs ba lb hly hcx hin
      go_wp2_with fail
      refine (putRow_any B b X x.ro.key x.ro.live.s x.ro.live.d x.ro.live.a x.ro.live.e x.ro.gone x.ro.shade x.A x.ro.cols.length x.c Bk x.ro.cols _ HLB.out.own (Nat.le_trans HB.out HLB.out.size) HIN.out.rd HBK.out S1.out HXL.out).mono ?_
      rintro e w2 ⟨v2, rfl, l2⟩
      have L2 := Lib.hid (HLB.out.on l2)
      clear l2
      go_wp2
      go_roundw
      case rel => exact ⟨t + 1, X ++ rE x.ro, v2, by omega, by go_num, rfl, by rw [List.append_assoc]; exact HX3.out, L2.out⟩
      case measure => simp [intOf]; omega
    · obtain rfl : t = n := by omega
      rw [List.drop_of_length_le (by rw [HL.out]; exact Nat.le_refl _)] at hX
      have HLY := Lib.hid (hly.same (by rw [← hX]; simp : X = P))
      clear hX hly
      go_wp2
      go_ret
      exact ⟨b, rfl, HLY.out⟩
/-- A partition that is put. -/
structure PaS (k : ByteArray) (g : Int) (L : List RA) : Prop where
  key : k.size ≤ 1000000
  gone : Stm g
  len : L.length ≤ 1000000
  rows : ∀ x ∈ L, RoS x.ro
set_option maxRecDepth 8000 in
set_option maxHeartbeats 1000000 in
theorem putPart_any (B : Nat) (v : Value) (l : Bs) (k : ByteArray) (g : Int) (A : Option Addr) (n c Bk : Nat) (L : List RA) (w : World) (h : OwnY B w v l) (hB : B ≤ w.heap.size) (hr : Lies w Bk A n c L) (hBk : Bk ≤ B) (hs : PaS k g L) (htot : (l ++ pE ⟨k, g, ros L⟩).length ≤ 500000000) :
    Calls Tryz.prog 25 #[v, .agg #[.string k, .int .i64 g, .slice A n c]] w (Lays B w v (l ++ pE ⟨k, g, ros L⟩)) := by
  have hkn : L.length = n := hr.len
  have hnn : n ≤ 1000000 := by have := hs.len; omega
  have hE : l ++ pE ⟨k, g, ros L⟩ = l ++ tE k ++ numL g.toNat ++ (numL n ++ (ros L).flatMap rE) := by
    unfold pE
    dsimp only
    rw [List.length_map, hkn]
    simp only [List.append_assoc]
  rw [hE] at htot ⊢
  have ht4 := htot
  simp only [List.length_append] at ht4
  have HT4 := Lib.hid htot
  have HT1 : Hid ((l ++ tE k).length ≤ 500000000) := Lib.hid (by simp only [List.length_append]; omega)
  have HT0 : Hid (l.length ≤ 500000000) := Lib.hid (by omega)
  have bz := (Below.refl w.heap.size w).alloc (Nat.le_refl _) (.cells #[.string k, .int .i64 g, .slice A n c] 24)
  have hz := heap_alloc_new w (.cells #[.string k, .int .i64 g, .slice A n c] 24)
  have l0 := (Ly.refl h).below bz
  obtain ⟨V, hV⟩ : ∃ V, V = w.alloc (.cells #[.string k, .int .i64 g, .slice A n c] 24) := ⟨_, rfl⟩
  rw [← hV] at bz hz l0
  have L0 := Lib.hid l0.drew; have HZ := Lib.hid hz; have HB := Lib.hid hB; have HK := Lib.hid hs; have HO := Lib.hid h; have HR := Lib.hid hr; have HBK := Lib.hid hBk; have HNN := Lib.hid hnn
  clear bz hz l0 hB hs h htot ht4 hE hkn hr hBk hnn
  go_enter Tryz.func25, Tryz.ntmps25
  go_wp2_with fail
  rw [← hV]
  clear hV
  refine wp_region_held_drew (S := fun w' => w'.heap[w.heap.size]? = some (.cells #[.string k, .int .i64 g, .slice A n c] 24)) (by kernel_rfl) ?_ (fun hHeld => ?_)
  · exact HZ.out
  refine takesH [0, 1, 2, 4, 5, 7, 8] ?_
  repeat
    refine takesH_one (v := ?_) ?_ ?_
    rotate_left
    · first | (refine Or.inr ⟨by rfl, ?_⟩; with_reducible rfl) | (refine Or.inl ⟨by rfl, ?_⟩; intro wx hSw; (try dsimp only at hSw); first | (go_simp; first | done | with_reducible rfl) | (have hc0 := cell_at (i := 0) hSw rfl; go_simp; first | done | with_reducible rfl) | (have hc1 := cell_at (i := 1) hSw rfl; go_simp; first | done | with_reducible rfl) | (have hc2 := cell_at (i := 2) hSw rfl; go_simp; first | done | with_reducible rfl))
    try simp only [Act.put, List.getElem_toArray, List.getElem_cons_succ, List.getElem_cons_zero, List.setIfInBounds_toArray, List.set_cons_zero, List.set_cons_succ]
  refine takesH_nil ?_
  refine wpAnyH_ready (rs := [3]) (by kernel_rfl) (by simp) (AllReadyH.cons rfl (fun K hK => ?_) AllReadyH.nil)
  go_simp
  refine (putText_any B v l k V.drew L0.out.own (Nat.le_trans HB.out L0.out.size) (by have := HK.out.key; omega) (by have := HT0.out; omega)).mono ?_
  rintro x w1 ⟨v1, rfl, l1⟩
  have HZ1 := Lib.hid (l1.at_ L0.out.own HZ.out (by decide))
  have L1 := Lib.hid (L0.out.on l1)
  clear l1
  try go_wp2_with fail
  refine hK.out _ _ ?_ (fun hHeld => ?_)
  · first | exact HZ3.out | exact HZ2.out | exact HZ1.out
  clear hK K
  try simp only [Act.put, List.getElem_toArray, List.getElem_cons_succ, List.getElem_cons_zero, List.setIfInBounds_toArray, List.set_cons_zero, List.set_cons_succ]
  refine wpAnyH_ready (rs := [6]) (by kernel_rfl) (by simp) (AllReadyH.cons rfl (fun K hK => ?_) AllReadyH.nil)
  go_simp
  refine (putNum_any B v1 (l ++ tE k) g w1 L1.out.own (Nat.le_trans HB.out L1.out.size) HK.out.gone.1 (by have := HK.out.gone.2; omega) (by have := HT1.out; omega)).mono ?_
  rintro x w2 ⟨v2, rfl, l2⟩
  have HZ2 := Lib.hid (l2.at_ L1.out.own HZ1.out (by decide))
  have L2 := Lib.hid (L1.out.on l2)
  clear l2
  try go_wp2_with fail
  refine hK.out _ _ ?_ (fun hHeld => ?_)
  · first | exact HZ3.out | exact HZ2.out | exact HZ1.out
  clear hK K
  try simp only [Act.put, List.getElem_toArray, List.getElem_cons_succ, List.getElem_cons_zero, List.setIfInBounds_toArray, List.set_cons_zero, List.set_cons_succ]
  refine wpAnyH_ready (rs := [9]) (by kernel_rfl) (by simp) (AllReadyH.cons rfl (fun K hK => ?_) AllReadyH.nil)
  go_simp
  refine (putRows_any B v2 (l ++ tE k ++ numL g.toNat) A n c Bk L w2 L2.out.own (Nat.le_trans HB.out L2.out.size) (HR.out.below ((L2.out.base HO.out HB.out).mono HBK.out)) HBK.out HK.out.rows HNN.out HT4.out).mono ?_
  rintro x w3 ⟨v3, rfl, l3⟩
  have HZ3 := Lib.hid (l3.at_ L2.out.own HZ2.out (by decide))
  have L3 := Lib.hid (L2.out.on l3)
  clear l3
  try go_wp2_with fail
  refine hK.out _ _ ?_ (fun hHeld => ?_)
  · first | exact HZ3.out | exact HZ2.out | exact HZ1.out
  clear hK K
  try simp only [Act.put, List.getElem_toArray, List.getElem_cons_succ, List.getElem_cons_zero, List.setIfInBounds_toArray, List.set_cons_zero, List.set_cons_succ]
  refine takesH [10] ?_
  repeat
    refine takesH_one (v := ?_) ?_ ?_
    rotate_left
    · first | (refine Or.inr ⟨by rfl, ?_⟩; with_reducible rfl) | (refine Or.inl ⟨by rfl, ?_⟩; intro wx hSw; (try dsimp only at hSw); first | (go_simp; first | done | with_reducible rfl))
    try simp only [Act.put, List.getElem_toArray, List.getElem_cons_succ, List.getElem_cons_zero, List.setIfInBounds_toArray, List.set_cons_zero, List.set_cons_succ]
  refine takesH_nil ?_
  refine wpAnyH_done (by kernel_rfl) ?_ _
  go_wp2
  go_ret
  exact ⟨v3, rfl, L3.out⟩
end Go.Proofs.YthfanonjokpflaaGreat
set_option linter.unusedVariables false
set_option linter.unusedSimpArgs false
namespace Go.Proofs.YthfanonjokpflaaGreat
open Go Go.RowKit

/-- What is joined to a table's partition, in memory. -/
structure MA where
  tb : ByteArray
  p : PA
abbrev NA := Int × ByteArray
def mcs (x : MA) : List Value := [.string x.tb, .string x.p.k, .int .i64 x.p.g, .slice x.p.A x.p.L.length x.p.c]
def mRow (l : List MA) : List Value := l.flatMap mcs
theorem mRow_length (l : List MA) : (mRow l).length = l.length * 4 := by
  unfold mRow
  induction l with
  | nil => rfl
  | cons c l ih => rw [List.flatMap_cons, List.length_append, ih, List.length_cons]; simp [mcs]; omega
theorem mRow_append (l k : List MA) : mRow (l ++ k) = mRow l ++ mRow k := by unfold mRow; rw [List.flatMap_append]
theorem mRow_at : ∀ (l : List MA) (j i : Nat) (hj : j < l.length) (hi : i < 4), (mRow l)[j * 4 + i]? = (mcs l[j])[i]?
  | [], j, i, hj, hi => by cases hj
  | c :: l, 0, i, hj, hi => by
    simp only [mRow, List.flatMap_cons, Nat.zero_mul, Nat.zero_add, List.getElem_cons_zero]
    exact List.getElem?_append_left (by simpa [mcs] using hi)
  | c :: l, j + 1, i, hj, hi => by
    have ih := mRow_at l j i (by simpa using hj) hi
    simp only [mRow, List.flatMap_cons, List.getElem_cons_succ] at ih ⊢
    rw [List.getElem?_append_right (by simp [mcs]; omega), ← ih]
    congr 1
    simp [mcs]
    omega
theorem mRow_one (l : List MA) : ∀ u ∈ mRow l, u.oneCell' = true := by
  intro u hu
  obtain ⟨c, _, hc⟩ := List.mem_flatMap.1 hu
  unfold mcs at hc
  simp only [List.mem_cons, List.not_mem_nil, or_false] at hc
  rcases hc with rfl | rfl | rfl | rfl <;> rfl
/-- A slice of what is joined to partitions. -/
def RdM (w : World) (B : Nat) (A : Option Addr) (n : Nat) (l : List MA) : Prop :=
  l.length = n ∧ (0 < n → ∃ g o, A = some ⟨g, o, none⟩ ∧ g < B ∧ ∀ j (hj : j < l.length) i u, (mcs l[j])[i]? = some u → w.cell? ⟨g, o + j * 4 + i, none⟩ = some u)
theorem RdM.below {w w' : World} {B n : Nat} {A : Option Addr} {l : List MA} (h : RdM w B A n l) (hb : Below B w w') : RdM w' B A n l :=
  ⟨h.1, fun hn => by
    obtain ⟨g, o, e, hg, hc⟩ := h.2 hn
    exact ⟨g, o, e, hg, fun j hj i u hu => (hb.cell (p := ⟨g, _, none⟩) hg).trans (hc j hj i u hu)⟩⟩
theorem RdM.up {w : World} {B B' n : Nat} {A : Option Addr} {l : List MA} (h : RdM w B A n l) (hB : B ≤ B') : RdM w B' A n l :=
  ⟨h.1, fun hn => by
    obtain ⟨g, o, e, hg, hc⟩ := h.2 hn
    exact ⟨g, o, e, by omega, hc⟩⟩
theorem RdM.all {w : World} {B n : Nat} {ad : Addr} {l : List MA} (h : RdM w B (some ad) n l) : ∀ j u, (mRow l)[j]? = some u → w.cell? (ad.add j) = some u := by
  intro j u hu
  have hj : j < (mRow l).length := by
    rcases Nat.lt_or_ge j (mRow l).length with h1 | h1
    · exact h1
    · rw [List.getElem?_eq_none h1] at hu; cases hu
  rw [mRow_length] at hj
  have hq : j / 4 < l.length := by omega
  obtain ⟨g, o, e, _, hc⟩ := h.2 (by have := h.1; omega)
  injection e with e
  subst e
  have hm : j = j / 4 * 4 + j % 4 := by omega
  rw [hm, mRow_at l (j / 4) (j % 4) hq (by omega)] at hu
  rw [Addr.add_lit, hm, ← Nat.add_assoc]
  exact hc (j / 4) hq (j % 4) u hu
theorem RdM.of_all {w : World} {B n g o : Nat} {l : List MA} (hl : l.length = n) (hg : g < B) (h : ∀ j u, (mRow l)[j]? = some u → w.cell? ⟨g, o + j, none⟩ = some u) : RdM w B (some ⟨g, o, none⟩) n l := by
  refine ⟨hl, fun _ => ⟨g, o, rfl, hg, fun j hj i u hu => ?_⟩⟩
  have hi : i < 4 := by
    rcases Nat.lt_or_ge i 4 with h1 | h1
    · exact h1
    · rw [List.getElem?_eq_none (by simpa [mcs] using h1)] at hu; cases hu
  rw [Nat.add_assoc]
  exact h _ u ((mRow_at l j i hj hi).trans hu)
theorem RdM.of_own {w : World} {base n : Nat} {A : Option Addr} {c : Nat} {l : List MA} (h : w.ownsRow base 91 4 (.slice A n c) n (mRow l)) : RdM w w.heap.size A n l := by
  have hl : l.length = n := by have := h.1; rw [mRow_length] at this; omega
  rcases h.2 with ⟨e, rfl⟩ | ⟨g, cap, cur, e, hb, hh, hn, hm, hs, ht⟩
  · exact ⟨hl, fun h => absurd h (by omega)⟩
  · injection e with e1 e2 e3
    subst e1
    refine RdM.of_all hl (Array.getElem?_eq_some_iff.1 hh).1 fun j u hu => ?_
    have := h.cells (g := g) rfl j u hu
    rw [Addr.add_lit] at this
    exact this
theorem infoM : (Tryz.prog.info? 91).map (fun i => (i.zero, i.size, i.bytes)) = some (some (.agg #[.string ⟨#[]⟩, .string ⟨#[]⟩, .int .i64 0, .slice none 0 0]), 4, 64) := by kernel_rfl
/-- append(own, muts...). -/
theorem run_appM {w : World} (base : Nat) {v : Value} {n : Nat} {l : List MA} (hown : w.ownsRow base 91 4 v n (mRow l)) {B m c : Nat} {A : Option Addr} {k : List MA} (hr : RdM w B A m k)
    (hsz : n + m ≤ 1000000) (hbase : base ≤ w.heap.size) (ty : TypeId) :
    ∃ v' w', (Builtin.append_ #[25, 25] ty #[v, .slice A m c]).run Tryz.prog w = .ok v' w' ∧ (w'.ownsRow base 91 4 v' (n + m) (mRow (l ++ k)) ∧ (w.grownBy w' v.ownBlock ∧ (v'.ownBlock = v.ownBlock ∨ v'.ownBlock = some w.heap.size))) := by
  obtain ⟨i, hi, hz0, hz1, hz2⟩ := info_parts infoM
  cases A with
  | none =>
    have h0 : m = 0 := by
      rcases Nat.eq_zero_or_pos m with h1 | h1
      · exact h1
      · obtain ⟨g, o, e, _⟩ := hr.2 h1; cases e
    subst h0
    obtain rfl : k = [] := List.eq_nil_of_length_eq_zero hr.1
    refine ⟨v, w, ?_, by simpa using hown, ⟨rfl, rfl, rfl, Nat.le_refl _, fun _ _ _ => rfl⟩, Or.inl rfl⟩
    rcases hown.2 with ⟨rfl, rfl⟩ | ⟨g, cap, cur, rfl, _, _, hnc, _⟩
    · simp [Builtin.append_, run_underlying Tryz.underlying25, sizeOf, typeInfo, hi, Builtin.lenOf, Builtin.firstCells]
    · simp [Builtin.append_, run_underlying Tryz.underlying25, sizeOf, typeInfo, hi, Builtin.lenOf, Builtin.firstCells, hnc, storeCells]
  | some ad =>
    obtain ⟨v', w', h1, h2, h3, _, h5⟩ := run_append_own_at (P := Tryz.prog) w base 25 ty 91 i (.agg #[.string ⟨#[]⟩, .string ⟨#[]⟩, .int .i64 0, .slice none 0 0]) 4 64 Tryz.underlying25 hi hz0 hz1 hz2 rfl (by decide) v n (mRow l) hown ad m c (mRow k)
      (by rw [mRow_length, hr.1]) hr.all (mRow_one k) (by unfold maxLen; omega) (by omega) hbase
    exact ⟨v', w', h1, by rw [mRow_append]; exact h2, h3, h5⟩
theorem own_nilM (w : World) (b : Nat) : w.ownsRow b 91 4 (.slice none 0 0) 0 (mRow []) := World.ownsRow_nil w b _ _
/-- One in a slice that was just laid. -/
theorem RdM.laid (w : World) (x : MA) : RdM (w.alloc (.cells #[.string x.tb, .string x.p.k, .int .i64 x.p.g, .slice x.p.A x.p.L.length x.p.c] 91)) (w.heap.size + 1) (some ⟨w.heap.size, 0, none⟩) 1 [x] := by
  refine RdM.of_all rfl (by omega) fun j u hu => ?_
  have : (mRow [x]) = mcs x := by simp [mRow]
  rw [this] at hu
  rw [Nat.zero_add]
  simpa [mcs] using hu
/-- The cells of one of them. -/
theorem RdM.part {w : World} {B n : Nat} {g o : Nat} {l : List MA} (h : RdM w B (some ⟨g, o, none⟩) n l) {j : Nat} (hj : j < l.length) :
    w.cell? ⟨g, o + j * 4, none⟩ = some (.string l[j].tb) ∧ w.cell? ⟨g, o + j * 4 + 1, none⟩ = some (.string l[j].p.k) ∧ w.cell? ⟨g, o + j * 4 + 2, none⟩ = some (.int .i64 l[j].p.g) ∧ w.cell? ⟨g, o + j * 4 + 3, none⟩ = some (.slice l[j].p.A l[j].p.L.length l[j].p.c) := by
  obtain ⟨g', o', e, _, hc⟩ := h.2 (by have := h.1; omega)
  injection e with e
  injection e with e1 e2 _
  subst e1; subst e2
  exact ⟨hc j hj 0 _ rfl, hc j hj 1 _ rfl, hc j hj 2 _ rfl, hc j hj 3 _ rfl⟩
theorem RdM.ex {w : World} {B n : Nat} {A : Option Addr} {l : List MA} (h : RdM w B A n l) (hn : 0 < n) : ∃ g o, A = some ⟨g, o, none⟩ ∧ g < B := by
  obtain ⟨g, o, e, hg, _⟩ := h.2 hn
  exact ⟨g, o, e, hg⟩
def ncs (x : NA) : List Value := [.int .i64 x.1, .string x.2]
def nRow (l : List NA) : List Value := l.flatMap ncs
theorem nRow_length (l : List NA) : (nRow l).length = l.length * 2 := by
  unfold nRow
  induction l with
  | nil => rfl
  | cons c l ih => rw [List.flatMap_cons, List.length_append, ih, List.length_cons]; simp [ncs]; omega
theorem nRow_append (l k : List NA) : nRow (l ++ k) = nRow l ++ nRow k := by unfold nRow; rw [List.flatMap_append]
theorem nRow_at : ∀ (l : List NA) (j i : Nat) (hj : j < l.length) (hi : i < 2), (nRow l)[j * 2 + i]? = (ncs l[j])[i]?
  | [], j, i, hj, hi => by cases hj
  | c :: l, 0, i, hj, hi => by
    simp only [nRow, List.flatMap_cons, Nat.zero_mul, Nat.zero_add, List.getElem_cons_zero]
    exact List.getElem?_append_left (by simpa [ncs] using hi)
  | c :: l, j + 1, i, hj, hi => by
    have ih := nRow_at l j i (by simpa using hj) hi
    simp only [nRow, List.flatMap_cons, List.getElem_cons_succ] at ih ⊢
    rw [List.getElem?_append_right (by simp [ncs]; omega), ← ih]
    congr 1
    simp [ncs]
    omega
theorem nRow_one (l : List NA) : ∀ u ∈ nRow l, u.oneCell' = true := by
  intro u hu
  obtain ⟨c, _, hc⟩ := List.mem_flatMap.1 hu
  unfold ncs at hc
  simp only [List.mem_cons, List.not_mem_nil, or_false] at hc
  rcases hc with rfl | rfl <;> rfl
/-- A slice of notes. -/
def RdN (w : World) (B : Nat) (A : Option Addr) (n : Nat) (l : List NA) : Prop :=
  l.length = n ∧ (0 < n → ∃ g o, A = some ⟨g, o, none⟩ ∧ g < B ∧ ∀ j (hj : j < l.length) i u, (ncs l[j])[i]? = some u → w.cell? ⟨g, o + j * 2 + i, none⟩ = some u)
theorem RdN.below {w w' : World} {B n : Nat} {A : Option Addr} {l : List NA} (h : RdN w B A n l) (hb : Below B w w') : RdN w' B A n l :=
  ⟨h.1, fun hn => by
    obtain ⟨g, o, e, hg, hc⟩ := h.2 hn
    exact ⟨g, o, e, hg, fun j hj i u hu => (hb.cell (p := ⟨g, _, none⟩) hg).trans (hc j hj i u hu)⟩⟩
theorem RdN.up {w : World} {B B' n : Nat} {A : Option Addr} {l : List NA} (h : RdN w B A n l) (hB : B ≤ B') : RdN w B' A n l :=
  ⟨h.1, fun hn => by
    obtain ⟨g, o, e, hg, hc⟩ := h.2 hn
    exact ⟨g, o, e, by omega, hc⟩⟩
theorem RdN.all {w : World} {B n : Nat} {ad : Addr} {l : List NA} (h : RdN w B (some ad) n l) : ∀ j u, (nRow l)[j]? = some u → w.cell? (ad.add j) = some u := by
  intro j u hu
  have hj : j < (nRow l).length := by
    rcases Nat.lt_or_ge j (nRow l).length with h1 | h1
    · exact h1
    · rw [List.getElem?_eq_none h1] at hu; cases hu
  rw [nRow_length] at hj
  have hq : j / 2 < l.length := by omega
  obtain ⟨g, o, e, _, hc⟩ := h.2 (by have := h.1; omega)
  injection e with e
  subst e
  have hm : j = j / 2 * 2 + j % 2 := by omega
  rw [hm, nRow_at l (j / 2) (j % 2) hq (by omega)] at hu
  rw [Addr.add_lit, hm, ← Nat.add_assoc]
  exact hc (j / 2) hq (j % 2) u hu
theorem RdN.of_all {w : World} {B n g o : Nat} {l : List NA} (hl : l.length = n) (hg : g < B) (h : ∀ j u, (nRow l)[j]? = some u → w.cell? ⟨g, o + j, none⟩ = some u) : RdN w B (some ⟨g, o, none⟩) n l := by
  refine ⟨hl, fun _ => ⟨g, o, rfl, hg, fun j hj i u hu => ?_⟩⟩
  have hi : i < 2 := by
    rcases Nat.lt_or_ge i 2 with h1 | h1
    · exact h1
    · rw [List.getElem?_eq_none (by simpa [ncs] using h1)] at hu; cases hu
  rw [Nat.add_assoc]
  exact h _ u ((nRow_at l j i hj hi).trans hu)
theorem RdN.of_own {w : World} {base n : Nat} {A : Option Addr} {c : Nat} {l : List NA} (h : w.ownsRow base 60 2 (.slice A n c) n (nRow l)) : RdN w w.heap.size A n l := by
  have hl : l.length = n := by have := h.1; rw [nRow_length] at this; omega
  rcases h.2 with ⟨e, rfl⟩ | ⟨g, cap, cur, e, hb, hh, hn, hm, hs, ht⟩
  · exact ⟨hl, fun h => absurd h (by omega)⟩
  · injection e with e1 e2 e3
    subst e1
    refine RdN.of_all hl (Array.getElem?_eq_some_iff.1 hh).1 fun j u hu => ?_
    have := h.cells (g := g) rfl j u hu
    rw [Addr.add_lit] at this
    exact this
theorem infoN : (Tryz.prog.info? 60).map (fun i => (i.zero, i.size, i.bytes)) = some (some (.agg #[.int .i64 0, .string ⟨#[]⟩]), 2, 24) := by kernel_rfl
/-- append(own, notes...). -/
theorem run_appN {w : World} (base : Nat) {v : Value} {n : Nat} {l : List NA} (hown : w.ownsRow base 60 2 v n (nRow l)) {B m c : Nat} {A : Option Addr} {k : List NA} (hr : RdN w B A m k)
    (hsz : n + m ≤ 1000000) (hbase : base ≤ w.heap.size) (ty : TypeId) :
    ∃ v' w', (Builtin.append_ #[26, 26] ty #[v, .slice A m c]).run Tryz.prog w = .ok v' w' ∧ (w'.ownsRow base 60 2 v' (n + m) (nRow (l ++ k)) ∧ (w.grownBy w' v.ownBlock ∧ (v'.ownBlock = v.ownBlock ∨ v'.ownBlock = some w.heap.size))) := by
  obtain ⟨i, hi, hz0, hz1, hz2⟩ := info_parts infoN
  cases A with
  | none =>
    have h0 : m = 0 := by
      rcases Nat.eq_zero_or_pos m with h1 | h1
      · exact h1
      · obtain ⟨g, o, e, _⟩ := hr.2 h1; cases e
    subst h0
    obtain rfl : k = [] := List.eq_nil_of_length_eq_zero hr.1
    refine ⟨v, w, ?_, by simpa using hown, ⟨rfl, rfl, rfl, Nat.le_refl _, fun _ _ _ => rfl⟩, Or.inl rfl⟩
    rcases hown.2 with ⟨rfl, rfl⟩ | ⟨g, cap, cur, rfl, _, _, hnc, _⟩
    · simp [Builtin.append_, run_underlying Tryz.underlying26, sizeOf, typeInfo, hi, Builtin.lenOf, Builtin.firstCells]
    · simp [Builtin.append_, run_underlying Tryz.underlying26, sizeOf, typeInfo, hi, Builtin.lenOf, Builtin.firstCells, hnc, storeCells]
  | some ad =>
    obtain ⟨v', w', h1, h2, h3, _, h5⟩ := run_append_own_at (P := Tryz.prog) w base 26 ty 60 i (.agg #[.int .i64 0, .string ⟨#[]⟩]) 2 24 Tryz.underlying26 hi hz0 hz1 hz2 rfl (by decide) v n (nRow l) hown ad m c (nRow k)
      (by rw [nRow_length, hr.1]) hr.all (nRow_one k) (by unfold maxLen; omega) (by omega) hbase
    exact ⟨v', w', h1, by rw [nRow_append]; exact h2, h3, h5⟩
theorem own_nilN (w : World) (b : Nat) : w.ownsRow b 60 2 (.slice none 0 0) 0 (nRow []) := World.ownsRow_nil w b _ _
/-- One in a slice that was just laid. -/
theorem RdN.laid (w : World) (x : NA) : RdN (w.alloc (.cells #[.int .i64 x.1, .string x.2] 60)) (w.heap.size + 1) (some ⟨w.heap.size, 0, none⟩) 1 [x] := by
  refine RdN.of_all rfl (by omega) fun j u hu => ?_
  have : (nRow [x]) = ncs x := by simp [nRow]
  rw [this] at hu
  rw [Nat.zero_add]
  simpa [ncs] using hu
/-- The cells of one of them. -/
theorem RdN.part {w : World} {B n : Nat} {g o : Nat} {l : List NA} (h : RdN w B (some ⟨g, o, none⟩) n l) {j : Nat} (hj : j < l.length) :
    w.cell? ⟨g, o + j * 2, none⟩ = some (.int .i64 l[j].1) ∧ w.cell? ⟨g, o + j * 2 + 1, none⟩ = some (.string l[j].2) := by
  obtain ⟨g', o', e, _, hc⟩ := h.2 (by have := h.1; omega)
  injection e with e
  injection e with e1 e2 _
  subst e1; subst e2
  exact ⟨hc j hj 0 _ rfl, hc j hj 1 _ rfl⟩
theorem RdN.ex {w : World} {B n : Nat} {A : Option Addr} {l : List NA} (h : RdN w B A n l) (hn : 0 < n) : ∃ g o, A = some ⟨g, o, none⟩ ∧ g < B := by
  obtain ⟨g, o, e, hg, _⟩ := h.2 hn
  exact ⟨g, o, e, hg⟩
end Go.Proofs.YthfanonjokpflaaGreat
set_option linter.unusedVariables false
set_option linter.unusedSimpArgs false
namespace Go.Proofs.YthfanonjokpflaaGreat
open Go Go.RowKit

def bsB (l : Bs) : ByteArray := ⟨l.toArray⟩
theorem tE_bsB (l : Bs) : tE (bsB l) = numL l.length ++ l := rfl
theorem bsB_size (l : Bs) : (bsB l).size = l.length := rfl
theorem Rd.of_own1 {w : World} {base n : Nat} {A : Option Addr} {c : Nat} {l : Bs} (h : w.ownsRow base 5 1 (.slice A n c) n (Lib.byteCells l)) : Rd w w.heap.size A n l := by
  obtain ⟨A', c', e, _, _, _, h4⟩ := Rd.of_own h
  injection e with e1 e2 e3
  subst e1
  exact h4
set_option maxRecDepth 8000 in
set_option maxHeartbeats 1000000 in
theorem putMut_any (B : Nat) (v : Value) (l : Bs) (tb k : ByteArray) (g : Int) (A : Option Addr) (n c Bk : Nat) (L : List RA) (w : World) (h : OwnY B w v l) (hB : B ≤ w.heap.size) (hr : Lies w Bk A n c L) (hBk : Bk ≤ B) (htb : tb.size ≤ 1000000) (hs : PaS k g L) (htot : (l ++ mE (tb, ⟨k, g, ros L⟩)).length ≤ 400000000) :
    Calls Tryz.prog 67 #[v, .agg #[.string tb, .string k, .int .i64 g, .slice A n c]] w (Lays B w v (l ++ mE (tb, ⟨k, g, ros L⟩))) := by
  obtain ⟨P, hP⟩ : ∃ P, pE ⟨k, g, ros L⟩ = P := ⟨_, rfl⟩
  have hE : l ++ mE (tb, ⟨k, g, ros L⟩) = l ++ tE tb ++ tE (bsB P) := by
    unfold mE
    dsimp only
    rw [hP, tE_bsB, List.append_assoc]
  rw [hE] at htot ⊢
  have ht4 := htot
  simp only [List.length_append] at ht4
  have hpl : (pE ⟨k, g, ros L⟩).length ≤ 400000000 := by rw [hP]; rw [tE_bsB, List.length_append] at ht4; omega
  have HT1 : Hid ((l ++ tE tb).length ≤ 500000000) := Lib.hid (by simp only [List.length_append]; omega)
  have HT0 : Hid (l.length ≤ 500000000) := Lib.hid (by omega)
  have bz := (Below.refl w.heap.size w).alloc (Nat.le_refl _) (.cells #[.string tb, .string k, .int .i64 g, .slice A n c] 91)
  have hz := heap_alloc_new w (.cells #[.string tb, .string k, .int .i64 g, .slice A n c] 91)
  have l0 := (Ly.refl h).below bz
  obtain ⟨V, hV⟩ : ∃ V, V = w.alloc (.cells #[.string tb, .string k, .int .i64 g, .slice A n c] 91) := ⟨_, rfl⟩
  rw [← hV] at bz hz l0
  have L0 := Lib.hid l0.drew; have HZ := Lib.hid hz; have HB := Lib.hid hB; have HK := Lib.hid hs; have HO := Lib.hid h; have HR := Lib.hid hr; have HBK := Lib.hid hBk; have HTB := Lib.hid htb; have HPL := Lib.hid hpl; have HPP := Lib.hid hP
  clear bz hz l0 hB hs h htot ht4 hE hr hBk htb hpl hP
  go_enter Tryz.func67, Tryz.ntmps67
  go_wp2_with fail
  rw [← hV]
  clear hV
  refine wp_region_held_drew (S := fun w' => w'.heap[w.heap.size]? = some (.cells #[.string tb, .string k, .int .i64 g, .slice A n c] 91 (0, 0))) (by kernel_rfl) ?_ (fun hHeld => ?_)
  · exact HZ.out
  refine takesH [0, 1, 2, 4, 5] ?_
  repeat
    refine takesH_one (v := ?_) ?_ ?_
    rotate_left
    · first | (refine Or.inr ⟨by rfl, ?_⟩; with_reducible rfl) | (refine Or.inl ⟨by rfl, ?_⟩; intro wx hSw; (try dsimp only at hSw); first | (go_simp; first | done | with_reducible rfl) | (have hc0 := cell_at (i := 0) hSw rfl; go_simp; first | done | with_reducible rfl) | (have hc1 := cell_at (i := 1) hSw rfl; have hc2 := cell_at (i := 2) hSw rfl; have hc3 := cell_at (i := 3) hSw rfl; go_simp; first | done | with_reducible rfl))
    try simp only [Act.put, List.getElem_toArray, List.getElem_cons_succ, List.getElem_cons_zero, List.setIfInBounds_toArray, List.set_cons_zero, List.set_cons_succ]
  refine takesH_nil ?_
  refine wpAnyH_ready (rs := [3]) (by kernel_rfl) (by simp) (AllReadyH.cons rfl (fun K hK => ?_) AllReadyH.nil)
  go_simp
  refine (putText_any B v l tb V.drew L0.out.own (Nat.le_trans HB.out L0.out.size) (by have := HTB.out; omega) (by have := HT0.out; omega)).mono ?_
  rintro x w1 ⟨v1, rfl, l1⟩
  have HZ1 := Lib.hid (l1.at_ L0.out.own HZ.out (by decide))
  have L1 := Lib.hid (L0.out.on l1)
  clear l1
  try go_wp2_with fail
  refine hK.out _ _ ?_ (fun hHeld => ?_)
  · first | exact HZ3.out | exact HZ2.out | exact HZ1.out
  clear hK K
  try simp only [Act.put, List.getElem_toArray, List.getElem_cons_succ, List.getElem_cons_zero, List.setIfInBounds_toArray, List.set_cons_zero, List.set_cons_succ]
  refine wpAnyH_ready (rs := [6]) (by kernel_rfl) (by simp) (AllReadyH.cons rfl (fun K hK => ?_) AllReadyH.nil)
  go_simp
  refine (putPart_any w1.heap.size (.slice none 0 0) [] k g A n c Bk L w1 (own_nilY _ _) (Nat.le_refl _) (HR.out.below ((L1.out.base HO.out HB.out).mono HBK.out)) (by have := HBK.out; have := HB.out; have := L1.out.size; omega) HK.out (by rw [List.nil_append]; have := HPL.out; omega)).mono ?_
  rintro x w2 ⟨v2, rfl, l2⟩
  have hb2 := l2.base (own_nilY _ _) (Nat.le_refl _)
  have HZ2 := Lib.hid ((hb2.block _ (Array.getElem?_eq_some_iff.1 HZ1.out).1).trans HZ1.out)
  have L2 := Lib.hid (L1.out.below hb2)
  have ho2 := l2.own
  rw [List.nil_append, HPP.out] at ho2
  obtain ⟨A2, n2, c2, rfl, hl2, _, _, _, ho2⟩ := ho2.slice
  have hcv := cv_string (Rd.of_own1 ho2) c2
  clear l2 hb2
  try go_wp2_with fail
  refine hK.out _ _ ?_ (fun hHeld => ?_)
  · first | exact HZ3.out | exact HZ2.out | exact HZ1.out
  clear hK K
  try simp only [Act.put, List.getElem_toArray, List.getElem_cons_succ, List.getElem_cons_zero, List.setIfInBounds_toArray, List.set_cons_zero, List.set_cons_succ]
  refine wpAnyH_ready (rs := [7]) (by kernel_rfl) (by simp) (AllReadyH.cons rfl (fun K hK => ?_) AllReadyH.nil)
  go_simp
  refine hK.out _ _ ?_ (fun hHeld => ?_)
  · exact HZ2.out
  clear hK K
  try simp only [Act.put, List.getElem_toArray, List.getElem_cons_succ, List.getElem_cons_zero, List.setIfInBounds_toArray, List.set_cons_zero, List.set_cons_succ]
  refine wpAnyH_ready (rs := [8]) (by kernel_rfl) (by simp) (AllReadyH.cons rfl (fun K hK => ?_) AllReadyH.nil)
  go_simp
  refine (putText_any B v1 (l ++ tE tb) (bsB P) w2 L2.out.own (Nat.le_trans HB.out L2.out.size) (by rw [bsB_size]; have := HPL.out; rw [HPP.out] at this; omega) (by have := HT1.out; omega)).mono ?_
  rintro x w3 ⟨v3, rfl, l3⟩
  have HZ3 := Lib.hid (l3.at_ L2.out.own HZ2.out (by decide))
  have L3 := Lib.hid (L2.out.on l3)
  clear l3
  try go_wp2_with fail
  refine hK.out _ _ ?_ (fun hHeld => ?_)
  · first | exact HZ3.out | exact HZ2.out | exact HZ1.out
  clear hK K
  try simp only [Act.put, List.getElem_toArray, List.getElem_cons_succ, List.getElem_cons_zero, List.setIfInBounds_toArray, List.set_cons_zero, List.set_cons_succ]
  refine takesH [9] ?_
  repeat
    refine takesH_one (v := ?_) ?_ ?_
    rotate_left
    · first | (refine Or.inr ⟨by rfl, ?_⟩; with_reducible rfl) | (refine Or.inl ⟨by rfl, ?_⟩; intro wx hSw; (try dsimp only at hSw); first | (go_simp; first | done | with_reducible rfl))
    try simp only [Act.put, List.getElem_toArray, List.getElem_cons_succ, List.getElem_cons_zero, List.setIfInBounds_toArray, List.set_cons_zero, List.set_cons_succ]
  refine takesH_nil ?_
  refine wpAnyH_done (by kernel_rfl) ?_ _
  go_wp2
  go_ret
  exact ⟨v3, rfl, L3.out⟩
set_option maxHeartbeats 1000000 in
theorem putNote_any (B : Nat) (v : Value) (l : Bs) (i : Int) (s : ByteArray) (w : World) (h : OwnY B w v l) (hB : B ≤ w.heap.size) (hi : Stm i) (hs : s.size ≤ 1000000) (hl : l.length ≤ 500000000) :
    Calls Tryz.prog 70 #[v, .agg #[.int .i64 i, .string s]] w (Lays B w v (l ++ aE (i, s))) := by
  have hE : l ++ aE (i, s) = l ++ numL i.toNat ++ tE s := by
    unfold aE
    rw [List.append_assoc]
  rw [hE]
  have hnl : (numL i.toNat).length ≤ 9 := stm_num hi
  have HT1 : Hid ((l ++ numL i.toNat).length ≤ 500000009) := Lib.hid (by simp only [List.length_append]; omega)
  have HT0 : Hid (l.length ≤ 500000000) := Lib.hid (by omega)
  have bz := (Below.refl w.heap.size w).alloc (Nat.le_refl _) (.cells #[.int .i64 i, .string s] 60)
  have hz := heap_alloc_new w (.cells #[.int .i64 i, .string s] 60)
  have l0 := (Ly.refl h).below bz
  obtain ⟨V, hV⟩ : ∃ V, V = w.alloc (.cells #[.int .i64 i, .string s] 60) := ⟨_, rfl⟩
  rw [← hV] at bz hz l0
  have L0 := Lib.hid l0.drew; have HZ := Lib.hid hz; have HB := Lib.hid hB; have HI := Lib.hid hi; have HS := Lib.hid hs
  clear bz hz l0 hB hs h hE hl hi hnl
  go_enter Tryz.func70, Tryz.ntmps70
  go_wp2_with fail
  rw [← hV]
  clear hV
  refine wp_region_held_drew (S := fun w' => w'.heap[w.heap.size]? = some (.cells #[.int .i64 i, .string s] 60 (0, 0))) (by kernel_rfl) ?_ (fun hHeld => ?_)
  · exact HZ.out
  refine takesH [0, 1, 2, 4, 5] ?_
  repeat
    refine takesH_one (v := ?_) ?_ ?_
    rotate_left
    · first | (refine Or.inr ⟨by rfl, ?_⟩; with_reducible rfl) | (refine Or.inl ⟨by rfl, ?_⟩; intro wx hSw; (try dsimp only at hSw); first | (go_simp; first | done | with_reducible rfl) | (have hc0 := cell_at (i := 0) hSw rfl; go_simp; first | done | with_reducible rfl) | (have hc1 := cell_at (i := 1) hSw rfl; go_simp; first | done | with_reducible rfl))
    try simp only [Act.put, List.getElem_toArray, List.getElem_cons_succ, List.getElem_cons_zero, List.setIfInBounds_toArray, List.set_cons_zero, List.set_cons_succ]
  refine takesH_nil ?_
  refine wpAnyH_ready (rs := [3]) (by kernel_rfl) (by simp) (AllReadyH.cons rfl (fun K hK => ?_) AllReadyH.nil)
  go_simp
  refine (putNum_any B v l i V.drew L0.out.own (Nat.le_trans HB.out L0.out.size) HI.out.1 (by have := HI.out.2; omega) (by have := HT0.out; omega)).mono ?_
  rintro x w1 ⟨v1, rfl, l1⟩
  have HZ1 := Lib.hid (l1.at_ L0.out.own HZ.out (by decide))
  have L1 := Lib.hid (L0.out.on l1)
  clear l1
  try go_wp2_with fail
  refine hK.out _ _ ?_ (fun hHeld => ?_)
  · first | exact HZ2.out | exact HZ1.out
  clear hK K
  try simp only [Act.put, List.getElem_toArray, List.getElem_cons_succ, List.getElem_cons_zero, List.setIfInBounds_toArray, List.set_cons_zero, List.set_cons_succ]
  refine wpAnyH_ready (rs := [6]) (by kernel_rfl) (by simp) (AllReadyH.cons rfl (fun K hK => ?_) AllReadyH.nil)
  go_simp
  refine (putText_any B v1 (l ++ numL i.toNat) s w1 L1.out.own (Nat.le_trans HB.out L1.out.size) (by have := HS.out; omega) (by have := HT1.out; omega)).mono ?_
  rintro x w2 ⟨v2, rfl, l2⟩
  have HZ2 := Lib.hid (l2.at_ L1.out.own HZ1.out (by decide))
  have L2 := Lib.hid (L1.out.on l2)
  clear l2
  try go_wp2_with fail
  refine hK.out _ _ ?_ (fun hHeld => ?_)
  · first | exact HZ2.out | exact HZ1.out
  clear hK K
  try simp only [Act.put, List.getElem_toArray, List.getElem_cons_succ, List.getElem_cons_zero, List.setIfInBounds_toArray, List.set_cons_zero, List.set_cons_succ]
  refine takesH [7] ?_
  repeat
    refine takesH_one (v := ?_) ?_ ?_
    rotate_left
    · first | (refine Or.inr ⟨by rfl, ?_⟩; with_reducible rfl) | (refine Or.inl ⟨by rfl, ?_⟩; intro wx hSw; (try dsimp only at hSw); first | (go_simp; first | done | with_reducible rfl))
    try simp only [Act.put, List.getElem_toArray, List.getElem_cons_succ, List.getElem_cons_zero, List.setIfInBounds_toArray, List.set_cons_zero, List.set_cons_succ]
  refine takesH_nil ?_
  refine wpAnyH_done (by kernel_rfl) ?_ _
  go_wp2
  go_ret
  exact ⟨v2, rfl, L2.out⟩
end Go.Proofs.YthfanonjokpflaaGreat
