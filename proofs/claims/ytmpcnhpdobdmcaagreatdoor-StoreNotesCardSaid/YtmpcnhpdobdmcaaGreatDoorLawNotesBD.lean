import Derived.Test.YtmpcnhpdobdmcaaGreatDoorLawNotesBA
open Go.Lib (hid)
open List renaming getElem_toArray -> zq1,getElem_cons_succ -> zq2,getElem_cons_zero -> zq3,setIfInBounds_toArray -> zq4,set_cons_zero -> zq5,set_cons_succ -> zq6
set_option linter.unusedVariables false
set_option linter.unusedSimpArgs false
set_option maxHeartbeats 32000000
set_option maxRecDepth 8000
namespace Go.Proofs.YtmpcnhpdobdmcaaGreatDoor
open Go Go.RowKit
def FewR (L : List RA) : Prop := ∀ x ∈ L,Few x.ro.cols /\ x.ro.live.s.size <= maxLen /\ x.ro.cols.length <= 1000000
theorem check_ra (x : RA) (B : Nat) (w : World) (h : RaIn w B x) (hB : B <= w.heap.size) (hf : Few x.ro.cols /\ x.ro.live.s.size <= maxLen /\ x.ro.cols.length <= 1000000) :
    Calls Tryz.prog 244 #[.agg #[.string x.ro.key,.string x.ro.live.s,.bool x.ro.live.d,.int .i64 x.ro.live.a,.int .i64 x.ro.live.e,.int .i64 x.ro.gone,.int .i64 x.ro.shade,.slice x.A x.ro.cols.length x.c]] w fun e w' => e = .returned (.bool x.ro.ok) /\ Below w.heap.size w w' :=
 check_ro x.ro x.A x.c B w h hB hf.2.2 hf.1 hf.2.1
theorem pstamp_any (n : Int) (w : World) : Calls Tryz.prog 215 #[.int .i64 n] w fun x w' => x = .returned (.bool (stm n)) /\ w = w' := by
 go_enter Tryz.func215,Tryz.ntmps215
 by_cases h0 : 0 <= n
 ·by_cases h1 : n <= 1099511627776
  ·have hs : stm n = true := by unfold stm; rw [decide_eq_true h0,decide_eq_true h1]; rfl
   rw [hs]
   have d0 : decide (0 <= n) = true := decide_eq_true h0
   have d1 : decide (n <= 1099511627776) = true := decide_eq_true h1
   clear h0 h1 hs
   go_wp2
   go_ret
   exact ⟨rfl,rfl⟩
  ·have hs : stm n = false := by unfold stm; rw [decide_eq_true h0,decide_eq_false h1]; rfl
   rw [hs]
   have d0 : decide (0 <= n) = true := decide_eq_true h0
   have d1 : decide (n <= 1099511627776) = false := decide_eq_false h1
   clear h0 h1 hs
   go_wp2
   go_ret
   exact ⟨rfl,rfl⟩
 ·have hs : stm n = false := by unfold stm; rw [decide_eq_false h0]; rfl
  rw [hs]
  have d0 : decide (0 <= n) = false := decide_eq_false h0
  clear h0 hs
  go_wp2
  go_ret
  exact ⟨rfl,rfl⟩
theorem rows_any (A : Option Addr) (n c B : Nat) (L : List RA) (w : World) (h : Lies w B A n c L) (hB : B <= w.heap.size) (hn : n <= 1000000000) (hf : FewR L) :
    Calls Tryz.prog 216 #[.slice A n c] w fun x w' => x = .returned (.bool (decide (n <= 100) && rowsB (ros L))) /\ Below w.heap.size w w' := by
 have hl := h.len
 obtain ⟨r,hr⟩ : ∃ r,(decide (n <= 100) && rowsB (ros L)) = r := ⟨_,rfl⟩
 rw [hr]
 by_cases h8 : n <= 100
 ·have d0 : decide ((100 : Int) < (n : Nat)) = false := by simp; omega
  rw [decide_eq_true h8,Bool.true_and] at hr
  have HL := hid hl; have HR := hid hr; have HH := hid h; have HF := hid hf
  clear hl hr h hf
  go_enter Tryz.func216,Tryz.ntmps216
  go_wp2
  go_loopw [10] (fun i wr => ∃ t : Nat,t <= n /\ i = .int .i64 t /\ (List.range t).all (goodR (ros L)) = true /\ Below w.heap.size w wr) (fun i _ => n - (intOf i).toNat)
  case atStart => exact ⟨0,Nat.zero_le _,rfl,rfl,Below.refl _ _⟩
  case round =>
   obtain ⟨t,ht,rfl,hg,hb⟩ := hrel
   have HG := hid hg; have HB := hid hb
   clear hg hb
   by_cases hlt : t < n
   ·have i1 : (t : Int) < n := by omega
    have i0 : (0 : Int) <= t := by omega
    have htl : t < L.length := by rw [HL.out]; exact hlt
    have htr : t < (ros L).length := by rw [List.length_map]; exact htl
    obtain ⟨g0,o0,rfl,hgB⟩ := HH.out.rd.ex (by omega)
    have hrd := (HH.out.below (HB.out.mono hB)).rd
    obtain ⟨x,hx⟩ : ∃ x,L[t] = x := ⟨_,rfl⟩
    have hrow := hrd.row htl
    have hfm := HF.out L[t] (List.getElem_mem htl)
    have hin := (HH.out.below (HB.out.mono hB)).held L[t] (List.getElem_mem htl)
    rw [hx] at hrow hfm hin
    have hgw : g0 < wr.heap.size := by have := HB.out.size; omega
    obtain ⟨u1,hu1⟩ : ∃ u,x.ro.ok = u := ⟨_,rfl⟩
    have hrx : (ros L)[t] = x.ro := by rw [List.getElem_map,hx]
    have U1 := hid hu1; have FM := hid hfm; have HX := hid hrx
    have hz := heap_alloc_new wr (.cells #[.string x.ro.key,.string x.ro.live.s,.bool x.ro.live.d,.int .i64 x.ro.live.a,.int .i64 x.ro.live.e,.int .i64 x.ro.gone,.int .i64 x.ro.shade,.slice x.A x.ro.cols.length x.c] 45)
    have ha := (Below.refl wr.heap.size wr).alloc (Nat.le_refl _) (.cells #[.string x.ro.key,.string x.ro.live.s,.bool x.ro.live.d,.int .i64 x.ro.live.a,.int .i64 x.ro.live.e,.int .i64 x.ro.gone,.int .i64 x.ro.shade,.slice x.A x.ro.cols.length x.c] 45)
    have hbu := HB.out.trans (ha.mono HB.out.size)
    have hcu := fun j (hj : j < L.length) => (hrd.row hj).below ha hgw
    have hiu := hin.below (ha.mono (by have := HB.out.size; omega))
    obtain ⟨_,_,_,_,_,_,_,_⟩ := hrow
    clear hu1 hfm hx hrx hrd hin
    by_cases hz0 : t = 0
    ·have hga : goodR (ros L) t = u1 := by
      subst hz0
      rw [goodR_zero htr,HX.out,U1.out]
     have j1 : decide ((0 : Int) < (t : Int)) = false := by simp; omega
     have j2 : decide (0 < t) = false := by simp; omega
     clear hz0
     have HGA := hid hga
     clear hga
     go_wp2_with fail
     obtain ⟨U,hU⟩ : ∃ U,U = wr.alloc (.cells #[.string x.ro.key,.string x.ro.live.s,.bool x.ro.live.d,.int .i64 x.ro.live.a,.int .i64 x.ro.live.e,.int .i64 x.ro.gone,.int .i64 x.ro.shade,.slice x.A x.ro.cols.length x.c] 45) := ⟨_,rfl⟩
     have hUs : U.heap.size = wr.heap.size + 1 := by rw [hU]; simp
     rw [<- hU] at hz hbu hcu hiu ⊢
     have hall : ∀ w',Below U.heap.size U w' -> BlkAt w' wr.heap.size x /\ True := fun w' hb => ⟨BlkAt.of ((hb.block wr.heap.size (by omega)).trans hz),trivial⟩
     have hin2 : ∀ w',Below U.heap.size U w' -> RaIn w' B x := fun w' hb => hiu.below (hb.mono (by have := HB.out.size; omega))
     have HALL := hid hall; have HBU := hid hbu; have HIN := hid hin2
     have HUB := hid (show B <= U.heap.size by have := HB.out.size; omega)
     clear hall hz hU ha hbu hcu hiu hin2
     cases u1
     ·refine wp_region_held_drew (S := fun w' => Below U.heap.size U w') (by kernel_rfl) ?_ (fun hHeld => ?_)
      ·exact (Below.refl _ _).drew
      refine takesH [0] ?_
      repeat
       refine takesH_one (v := ?_) ?_ ?_
       rotate_left
       ·first | (refine Or.inr ⟨by rfl,?_⟩; with_reducible rfl) | (refine Or.inl ⟨by rfl,?_⟩; intro wx hSw; (try dsimp only at hSw); first | (go_simp; first | done | with_reducible rfl) | (obtain ⟨⟨_,_,_,_,_,_,_,_⟩,_⟩ := HALL.out _ hSw; go_simp; first | done | with_reducible rfl))
       try simp only [Act.put,zq1,zq2,zq3,zq4,zq5,zq6]
      refine takesH_nil ?_
      refine wpAnyH_ready (rs := [1]) (by kernel_rfl) (by simp) (AllReadyH.cons rfl (fun K hK => ?_) AllReadyH.nil)
      go_simp
      refine (check_ra x B _ ?hin1 ?hsz1 FM.out).mono ?_
      case hin1 => exact HIN.out _ (by first | exact (Below.refl _ _).drew | exact below_draws _ _ _ | exact Below.refl _ _)
      case hsz1 => exact HUB.out
      rintro y v1 ⟨rfl,b1⟩
      rw [U1.out]
      try go_wp2_with fail
      refine hK.out _ _ ?_ (fun hHeld => ?_)
      ·exact next (by assumption) b1
      clear hK K
      try simp only [Act.put,zq1,zq2,zq3,zq4,zq5,zq6]
      refine takesH [2,3,4,5,6,7,8,9,10,11,12,13,14,15,16,17] ?_
      repeat
       refine takesH_one (v := ?_) ?_ ?_
       rotate_left
       ·first | (refine Or.inr ⟨by rfl,?_⟩; with_reducible rfl) | (refine Or.inl ⟨by rfl,?_⟩; intro wx hSw; (try dsimp only at hSw); first | (go_simp; first | done | with_reducible rfl))
       try simp only [Act.put,zq1,zq2,zq3,zq4,zq5,zq6]
      refine takesH_nil ?_
      refine wpAnyH_done (by kernel_rfl) ?_ _
      have hv : r = false := by rw [<- HR.out]; exact goodsR_no htr HGA.out
      subst hv
      go_wp2
      go_ret
      exact ⟨rfl,next HBU.out hHeld⟩
     ·refine wp_region_held_drew (S := fun w' => Below U.heap.size U w') (by kernel_rfl) ?_ (fun hHeld => ?_)
      ·exact (Below.refl _ _).drew
      refine takesH [0] ?_
      repeat
       refine takesH_one (v := ?_) ?_ ?_
       rotate_left
       ·first | (refine Or.inr ⟨by rfl,?_⟩; with_reducible rfl) | (refine Or.inl ⟨by rfl,?_⟩; intro wx hSw; (try dsimp only at hSw); first | (go_simp; first | done | with_reducible rfl) | (obtain ⟨⟨_,_,_,_,_,_,_,_⟩,_⟩ := HALL.out _ hSw; go_simp; first | done | with_reducible rfl))
       try simp only [Act.put,zq1,zq2,zq3,zq4,zq5,zq6]
      refine takesH_nil ?_
      refine wpAnyH_ready (rs := [1]) (by kernel_rfl) (by simp) (AllReadyH.cons rfl (fun K hK => ?_) AllReadyH.nil)
      go_simp
      refine (check_ra x B _ ?hin1 ?hsz1 FM.out).mono ?_
      case hin1 => exact HIN.out _ (by first | exact (Below.refl _ _).drew | exact below_draws _ _ _ | exact Below.refl _ _)
      case hsz1 => exact HUB.out
      rintro y v1 ⟨rfl,b1⟩
      rw [U1.out]
      try go_wp2_with fail
      refine hK.out _ _ ?_ (fun hHeld => ?_)
      ·exact next (by assumption) b1
      clear hK K
      try simp only [Act.put,zq1,zq2,zq3,zq4,zq5,zq6]
      refine takesH [2,3,4,5,6,7,8,9,10,11,12,13,14,15,16,17] ?_
      repeat
       refine takesH_one (v := ?_) ?_ ?_
       rotate_left
       ·first | (refine Or.inr ⟨by rfl,?_⟩; with_reducible rfl) | (refine Or.inl ⟨by rfl,?_⟩; intro wx hSw; (try dsimp only at hSw); first | (go_simp; first | done | with_reducible rfl))
       try simp only [Act.put,zq1,zq2,zq3,zq4,zq5,zq6]
      refine takesH_nil ?_
      refine wpAnyH_done (by kernel_rfl) ?_ _
      go_wp2
      go_roundw
      case rel => exact ⟨t + 1,by omega,by go_num,goodsR_step HG.out HGA.out,next HBU.out hHeld⟩
      case measure => simp [intOf]; omega
    ·obtain ⟨u,hu⟩ : ∃ u,u + 1 = t := ⟨t - 1,by omega⟩
     have hul : u < L.length := by omega
     have hsub : IntKind.i64.wrap ((t : Int) - 1) = (u : Int) := by rw [IntKind.wrap_i64]; omega
     have j1 : (u : Int) < n := by omega
     have j0 : (0 : Int) <= u := by omega
     have j2 : decide ((0 : Int) < (t : Int)) = true := by simp; omega
     have j3 : decide (0 < t) = true := by simp; omega
     have j4 : (0 : Int) < (t : Int) := by omega
     have j5 : 0 < t := by omega
     obtain ⟨y,hy⟩ : ∃ y,L[u] = y := ⟨_,rfl⟩
     have hcu2 := hcu u hul
     rw [hy] at hcu2
     have hga : goodR (ros L) t = (u1 && decide (nlt y.ro.key x.ro.key)) := by
      subst hu
      rw [goodR_succ htr,HX.out,U1.out,List.getElem_map,hy]
     have HGA := hid hga; have HY := hid hy
     clear hga hy hcu
     go_wp2_with fail
     obtain ⟨U,hU⟩ : ∃ U,U = wr.alloc (.cells #[.string x.ro.key,.string x.ro.live.s,.bool x.ro.live.d,.int .i64 x.ro.live.a,.int .i64 x.ro.live.e,.int .i64 x.ro.gone,.int .i64 x.ro.shade,.slice x.A x.ro.cols.length x.c] 45) := ⟨_,rfl⟩
     have hUs : U.heap.size = wr.heap.size + 1 := by rw [hU]; simp
     rw [<- hU] at hz hbu hcu2 hiu ⊢
     have hall : ∀ w',Below U.heap.size U w' -> BlkAt w' wr.heap.size x /\ w'.cell? ⟨g0,o0 + u * 8,none⟩ = some (.string y.ro.key) := fun w' hb => ⟨BlkAt.of ((hb.block wr.heap.size (by omega)).trans hz),(hcu2.below hb (show g0 < U.heap.size by omega)).1⟩
     have hin2 : ∀ w',Below U.heap.size U w' -> RaIn w' B x := fun w' hb => hiu.below (hb.mono (by have := HB.out.size; omega))
     have HALL := hid hall; have HBU := hid hbu; have HU := hid hu; have HIN := hid hin2
     have HUB := hid (show B <= U.heap.size by have := HB.out.size; omega)
     clear hall hz hU ha hbu hcu2 hu hiu hin2
     cases u1
     ·refine wp_region_held_drew (S := fun w' => Below U.heap.size U w') (by kernel_rfl) ?_ (fun hHeld => ?_)
      ·exact (Below.refl _ _).drew
      refine takesH [0] ?_
      repeat
       refine takesH_one (v := ?_) ?_ ?_
       rotate_left
       ·first | (refine Or.inr ⟨by rfl,?_⟩; with_reducible rfl) | (refine Or.inl ⟨by rfl,?_⟩; intro wx hSw; (try dsimp only at hSw); first | (go_simp; first | done | with_reducible rfl) | (obtain ⟨⟨_,_,_,_,_,_,_,_⟩,_⟩ := HALL.out _ hSw; go_simp; first | done | with_reducible rfl))
       try simp only [Act.put,zq1,zq2,zq3,zq4,zq5,zq6]
      refine takesH_nil ?_
      refine wpAnyH_ready (rs := [1]) (by kernel_rfl) (by simp) (AllReadyH.cons rfl (fun K hK => ?_) AllReadyH.nil)
      go_simp
      refine (check_ra x B _ ?hin1 ?hsz1 FM.out).mono ?_
      case hin1 => exact HIN.out _ (by first | exact (Below.refl _ _).drew | exact below_draws _ _ _ | exact Below.refl _ _)
      case hsz1 => exact HUB.out
      rintro y v1 ⟨rfl,b1⟩
      rw [U1.out]
      try go_wp2_with fail
      refine hK.out _ _ ?_ (fun hHeld => ?_)
      ·exact next (by assumption) b1
      clear hK K
      try simp only [Act.put,zq1,zq2,zq3,zq4,zq5,zq6]
      refine takesH [2,3,4,5,6,7,8,9,10,11,12,13,14,15,16,17] ?_
      repeat
       refine takesH_one (v := ?_) ?_ ?_
       rotate_left
       ·first | (refine Or.inr ⟨by rfl,?_⟩; with_reducible rfl) | (refine Or.inl ⟨by rfl,?_⟩; intro wx hSw; (try dsimp only at hSw); first | (go_simp; first | done | with_reducible rfl))
       try simp only [Act.put,zq1,zq2,zq3,zq4,zq5,zq6]
      refine takesH_nil ?_
      refine wpAnyH_done (by kernel_rfl) ?_ _
      have hv : r = false := by rw [<- HR.out]; exact goodsR_no htr (by rw [HGA.out]; rfl)
      subst hv
      go_wp2
      go_ret
      exact ⟨rfl,next HBU.out hHeld⟩
     ·by_cases hp : nlt y.ro.key x.ro.key
      ·have hb1 : Op.bytesLess y.ro.key.toList x.ro.key.toList = true := blB_true hp
       have hga2 := HGA.out
       rw [decide_eq_true hp] at hga2
       have HG2 := hid hga2
       clear hga2
       refine wp_region_held_drew (S := fun w' => Below U.heap.size U w') (by kernel_rfl) ?_ (fun hHeld => ?_)
       ·exact (Below.refl _ _).drew
       refine takesH [0] ?_
       repeat
        refine takesH_one (v := ?_) ?_ ?_
        rotate_left
        ·first | (refine Or.inr ⟨by rfl,?_⟩; with_reducible rfl) | (refine Or.inl ⟨by rfl,?_⟩; intro wx hSw; (try dsimp only at hSw); first | (go_simp; first | done | with_reducible rfl) | (obtain ⟨⟨_,_,_,_,_,_,_,_⟩,_⟩ := HALL.out _ hSw; go_simp; first | done | with_reducible rfl))
        try simp only [Act.put,zq1,zq2,zq3,zq4,zq5,zq6]
       refine takesH_nil ?_
       refine wpAnyH_ready (rs := [1]) (by kernel_rfl) (by simp) (AllReadyH.cons rfl (fun K hK => ?_) AllReadyH.nil)
       go_simp
       refine (check_ra x B _ ?hin1 ?hsz1 FM.out).mono ?_
       case hin1 => exact HIN.out _ (by first | exact (Below.refl _ _).drew | exact below_draws _ _ _ | exact Below.refl _ _)
       case hsz1 => exact HUB.out
       rintro y v1 ⟨rfl,b1⟩
       rw [U1.out]
       try go_wp2_with fail
       refine hK.out _ _ ?_ (fun hHeld => ?_)
       ·exact next (by assumption) b1
       clear hK K
       try simp only [Act.put,zq1,zq2,zq3,zq4,zq5,zq6]
       refine takesH [2,3,4,5,6,7,8,9,10,11,12,13,14,15,16,17] ?_
       repeat
        refine takesH_one (v := ?_) ?_ ?_
        rotate_left
        ·first | (refine Or.inr ⟨by rfl,?_⟩; with_reducible rfl) | (refine Or.inl ⟨by rfl,?_⟩; intro wx hSw; (try dsimp only at hSw); first | (go_simp; first | done | with_reducible rfl) | (obtain ⟨⟨_,_,_,_,_,_,_,_⟩,_⟩ := HALL.out _ hSw; go_simp; first | done | with_reducible rfl))
        try simp only [Act.put,zq1,zq2,zq3,zq4,zq5,zq6]
       refine takesH_nil ?_
       refine wpAnyH_done (by kernel_rfl) ?_ _
       go_wp2
       go_roundw
       case rel => exact ⟨t + 1,by omega,by go_num,goodsR_step HG.out HG2.out,next HBU.out hHeld⟩
       case measure => simp [intOf]; omega
      ·have hb1 : Op.bytesLess y.ro.key.toList x.ro.key.toList = false := blB_false hp
       have hv : r = false := by rw [<- HR.out]; exact goodsR_no htr (by rw [HGA.out,decide_eq_false hp]; rfl)
       subst hv
       refine wp_region_held_drew (S := fun w' => Below U.heap.size U w') (by kernel_rfl) ?_ (fun hHeld => ?_)
       ·exact (Below.refl _ _).drew
       refine takesH [0] ?_
       repeat
        refine takesH_one (v := ?_) ?_ ?_
        rotate_left
        ·first | (refine Or.inr ⟨by rfl,?_⟩; with_reducible rfl) | (refine Or.inl ⟨by rfl,?_⟩; intro wx hSw; (try dsimp only at hSw); first | (go_simp; first | done | with_reducible rfl) | (obtain ⟨⟨_,_,_,_,_,_,_,_⟩,_⟩ := HALL.out _ hSw; go_simp; first | done | with_reducible rfl))
        try simp only [Act.put,zq1,zq2,zq3,zq4,zq5,zq6]
       refine takesH_nil ?_
       refine wpAnyH_ready (rs := [1]) (by kernel_rfl) (by simp) (AllReadyH.cons rfl (fun K hK => ?_) AllReadyH.nil)
       go_simp
       refine (check_ra x B _ ?hin1 ?hsz1 FM.out).mono ?_
       case hin1 => exact HIN.out _ (by first | exact (Below.refl _ _).drew | exact below_draws _ _ _ | exact Below.refl _ _)
       case hsz1 => exact HUB.out
       rintro y v1 ⟨rfl,b1⟩
       rw [U1.out]
       try go_wp2_with fail
       refine hK.out _ _ ?_ (fun hHeld => ?_)
       ·exact next (by assumption) b1
       clear hK K
       try simp only [Act.put,zq1,zq2,zq3,zq4,zq5,zq6]
       refine takesH [2,3,4,5,6,7,8,9,10,11,12,13,14,15,16,17] ?_
       repeat
        refine takesH_one (v := ?_) ?_ ?_
        rotate_left
        ·first | (refine Or.inr ⟨by rfl,?_⟩; with_reducible rfl) | (refine Or.inl ⟨by rfl,?_⟩; intro wx hSw; (try dsimp only at hSw); first | (go_simp; first | done | with_reducible rfl) | (obtain ⟨⟨_,_,_,_,_,_,_,_⟩,_⟩ := HALL.out _ hSw; go_simp; first | done | with_reducible rfl))
        try simp only [Act.put,zq1,zq2,zq3,zq4,zq5,zq6]
       refine takesH_nil ?_
       refine wpAnyH_done (by kernel_rfl) ?_ _
       go_wp2
       go_ret
       exact ⟨rfl,next HBU.out hHeld⟩
   ·obtain rfl : t = n := by omega
    have hv : r = true := by rw [<- HR.out]; unfold rowsB; rw [List.length_map,HL.out]; exact HG.out
    subst hv
    go_wp2
    go_ret
    exact ⟨rfl,HB.out⟩
 ·have d0 : decide ((100 : Int) < (n : Nat)) = true := by simp; omega
  have hv : r = false := by rw [<- hr,decide_eq_false h8]; rfl
  subst hv
  go_enter Tryz.func216,Tryz.ntmps216
  go_wp2
  go_ret
  exact ⟨rfl,Below.refl _ _⟩
theorem join_ra (x y : RA) (B B' : Nat) (w : World) (h : RaIn w B x) (h' : RaIn w B' y) (hB : B <= w.heap.size) (hB' : B' <= w.heap.size) (hn : x.ro.cols.length + y.ro.cols.length <= 1000000) (hu : x.ro.Up) (hu' : y.ro.Up) :
    Calls Tryz.prog 173 #[.agg #[.string x.ro.key,.string x.ro.live.s,.bool x.ro.live.d,.int .i64 x.ro.live.a,.int .i64 x.ro.live.e,.int .i64 x.ro.gone,.int .i64 x.ro.shade,.slice x.A x.ro.cols.length x.c],.agg #[.string y.ro.key,.string y.ro.live.s,.bool y.ro.live.d,.int .i64 y.ro.live.a,.int .i64 y.ro.live.e,.int .i64 y.ro.gone,.int .i64 y.ro.shade,.slice y.A y.ro.cols.length y.c]] w fun e w' => ∃ z : RA,e = .returned z.v /\ z.ro = x.ro.join y.ro /\ Cur w w' (.slice z.A z.ro.cols.length z.c) z.ro.cols := by
 refine (join_ro x.ro y.ro _ x.A y.A x.c y.c B B' w h h' hB hB' hn hu hu' rfl).mono ?_
 rintro e w' ⟨Aj,cj,rfl,hc⟩
 exact ⟨⟨x.ro.join y.ro,Aj,cj⟩,rfl,rfl,hc⟩
theorem bykey_ra (x y : RA) (w : World) :
    Calls Tryz.prog 172 #[.agg #[.string x.ro.key,.string x.ro.live.s,.bool x.ro.live.d,.int .i64 x.ro.live.a,.int .i64 x.ro.live.e,.int .i64 x.ro.gone,.int .i64 x.ro.shade,.slice x.A x.ro.cols.length x.c],.agg #[.string y.ro.key,.string y.ro.live.s,.bool y.ro.live.d,.int .i64 y.ro.live.a,.int .i64 y.ro.live.e,.int .i64 y.ro.gone,.int .i64 y.ro.shade,.slice y.A y.ro.cols.length y.c]] w fun e w' => e = .returned (.int .i64 (tcmp x.ro.key y.ro.key)) /\ Below w.heap.size w w' := by
 have bz := hid (((Below.refl w.heap.size w).alloc (Nat.le_refl _) (.cells #[.string x.ro.key,.string x.ro.live.s,.bool x.ro.live.d,.int .i64 x.ro.live.a,.int .i64 x.ro.live.e,.int .i64 x.ro.gone,.int .i64 x.ro.shade,.slice x.A x.ro.cols.length x.c] 45)).alloc (by simp) (.cells #[.string y.ro.key,.string y.ro.live.s,.bool y.ro.live.d,.int .i64 y.ro.live.a,.int .i64 y.ro.live.e,.int .i64 y.ro.gone,.int .i64 y.ro.shade,.slice y.A y.ro.cols.length y.c] 45))
 go_enter Tryz.func172,Tryz.ntmps172
 go_wp2_with fail
 refine (strcmp_any _ _ _).mono ?_
 rintro e w' ⟨rfl,rfl⟩
 go_wp2
 go_ret
 exact ⟨rfl,bz.out⟩
def tot (L : List RA) : Nat := (L.map fun x => x.ro.cols.length).sum
theorem tot_cons (x : RA) (L : List RA) : tot (x :: L) = x.ro.cols.length + tot L := by simp [tot]
theorem tot_app (L k : List RA) : tot (L ++ k) = tot L + tot k := by simp [tot]
theorem tot_nil : tot [] = 0 := rfl
theorem tot_mem {L : List RA} {x : RA} (h : x ∈ L) : x.ro.cols.length <= tot L := by
 induction L with
 | nil => cases h
 | cons y L ih =>
   rw [tot_cons]
   rcases List.mem_cons.1 h with rfl | h1
   ·omega
   ·have := ih h1; omega
instance : DecidableEq Ro := fun x y => decidable_of_iff _ (rosame_iff x y)
def PtAt (w : World) (q : Nat) (k : ByteArray) (g : Int) (A : Option Addr) (n c : Nat) : Prop := w.cell? ⟨q,0,none⟩ = some (.string k) /\ w.cell? ⟨q,1,none⟩ = some (.int .i64 g) /\ w.cell? ⟨q,2,none⟩ = some (.slice A n c)
theorem PtAt.of {w : World} {q : Nat} {k : ByteArray} {g : Int} {A : Option Addr} {n c : Nat} (h : w.heap[q]? = some (.cells #[.string k,.int .i64 g,.slice A n c] 33 (0,0))) : PtAt w q k g A n c := ⟨cell_at h rfl,cell_at h rfl,cell_at h rfl⟩
theorem PtAt.below {w w' : World} {q B : Nat} {k : ByteArray} {g : Int} {A : Option Addr} {n c : Nat} (r : PtAt w q k g A n c) (hb : Below B w w') (hg : q < B) : PtAt w' q k g A n c :=
 ⟨(hb.cell (p := ⟨q,_,none⟩) hg).trans r.1,(hb.cell (p := ⟨q,_,none⟩) hg).trans r.2.1,(hb.cell (p := ⟨q,_,none⟩) hg).trans r.2.2⟩
theorem pcheck_any (k : ByteArray) (g : Int) (A : Option Addr) (n c B : Nat) (L : List RA) (w : World) (h : Lies w B A n c L) (hB : B <= w.heap.size) (hn : n <= 1000000000) (hf : FewR L) :
    Calls Tryz.prog 170 #[.agg #[.string k,.int .i64 g,.slice A n c]] w fun x w' => x = .returned (.bool (Pa.ok ⟨k,g,ros L⟩)) /\ Below w.heap.size w w' := by
 obtain ⟨r,hrr⟩ : ∃ r,Pa.ok ⟨k,g,ros L⟩ = r := ⟨_,rfl⟩
 rw [hrr]
 unfold Pa.ok at hrr
 simp only at hrr
 rw [List.length_map,h.len] at hrr
 obtain ⟨u1,hu1⟩ : ∃ u,decide (k.size <= 100) = u := ⟨_,rfl⟩
 have hu1i : decide (((k.size : Nat) : Int) <= 100) = u1 := by rw [<- hu1]; simp; omega
 obtain ⟨u2,hu2⟩ : ∃ u,stm g = u := ⟨_,rfl⟩
 obtain ⟨u3,hu3⟩ : ∃ u,(decide (n <= 100) && rowsB (ros L)) = u := ⟨_,rfl⟩
 rw [hu1,hu2,hu3] at hrr
 have RR := hid hrr; have U2 := hid hu2; have U3 := hid hu3
 have bz := (Below.refl w.heap.size w).alloc (Nat.le_refl _) (.cells #[.string k,.int .i64 g,.slice A n c] 33)
 have hz := heap_alloc_new w (.cells #[.string k,.int .i64 g,.slice A n c] 33)
 have HL := hid (h.below (bz.mono hB)); have HF := hid hf; have BZ := hid bz
 obtain ⟨_,_,_⟩ := PtAt.of hz
 clear hrr hu2 hu3 bz hz h hf
 go_enter Tryz.func170,Tryz.ntmps170
 cases u1
 ·have hv : r = false := by rw [<- RR.out]; rfl
  subst hv
  go_wp2
  go_ret
  exact ⟨rfl,BZ.out⟩
 ·go_wp2_with fail
  refine (pstamp_any g _).mono ?_
  rintro e w1 ⟨rfl,rfl⟩
  rw [U2.out]
  cases u2
  ·have hv : r = false := by rw [<- RR.out]; rfl
   subst hv
   go_wp2
   go_ret
   exact ⟨rfl,BZ.out⟩
  ·go_wp2_with fail
   refine (rows_any A n c B L _ HL.out (by simp; omega) hn HF.out).mono ?_
   rintro e w2 ⟨rfl,b2⟩
   rw [U3.out]
   have hv : u3 = r := by rw [<- RR.out]; rfl
   subst hv
   go_wp2
   go_ret
   exact ⟨rfl,next BZ.out b2⟩
structure MA where
 tb : ByteArray
 p : PA
abbrev NA := Int × ByteArray
def mcs (x : MA) : List Value := [.string x.tb,.string x.p.k,.int .i64 x.p.g,.slice x.p.A x.p.L.length x.p.c]
def mRow (l : List MA) : List Value := l.flatMap mcs
theorem mRow_length (l : List MA) : (mRow l).length = l.length * 4 := by
 unfold mRow
 induction l with
 | nil => rfl
 | cons c l ih => rw [List.flatMap_cons,List.length_append,ih,List.length_cons]; simp [mcs]; omega
theorem mRow_append (l k : List MA) : mRow (l ++ k) = mRow l ++ mRow k := by unfold mRow; rw [List.flatMap_append]
theorem mRow_at : ∀ (l : List MA) (j i : Nat) (hj : j < l.length) (hi : i < 4),(mRow l)[j * 4 + i]? = (mcs l[j])[i]?
 | [],j,i,hj,hi => by cases hj
 | c :: l,0,i,hj,hi => by
   simp only [mRow,List.flatMap_cons,Nat.zero_mul,Nat.zero_add,zq3]
   exact List.getElem?_append_left (by simpa [mcs] using hi)
 | c :: l,j + 1,i,hj,hi => by
   have ih := mRow_at l j i (by simpa using hj) hi
   simp only [mRow,List.flatMap_cons,zq2] at ih ⊢
   rw [List.getElem?_append_right (by simp [mcs]; omega),<- ih]
   congr 1
   simp [mcs]
   omega
theorem mRow_one (l : List MA) : ∀ u ∈ mRow l,u.oneCell' = true := by
 intro u hu
 obtain ⟨c,_,hc⟩ := List.mem_flatMap.1 hu
 unfold mcs at hc
 simp only [List.mem_cons,List.not_mem_nil,or_false] at hc
 rcases hc with rfl | rfl | rfl | rfl <;> rfl
def RdM (w : World) (B : Nat) (A : Option Addr) (n : Nat) (l : List MA) : Prop :=
 l.length = n /\ (0 < n -> ∃ g o,A = some ⟨g,o,none⟩ /\ g < B /\ ∀ j (hj : j < l.length) i u,(mcs l[j])[i]? = some u -> w.cell? ⟨g,o + j * 4 + i,none⟩ = some u)
theorem RdM.below {w w' : World} {B n : Nat} {A : Option Addr} {l : List MA} (h : RdM w B A n l) (hb : Below B w w') : RdM w' B A n l :=
 ⟨h.1,fun hn => by
   obtain ⟨g,o,e,hg,hc⟩ := h.2 hn
   exact ⟨g,o,e,hg,fun j hj i u hu => (hb.cell (p := ⟨g,_,none⟩) hg).trans (hc j hj i u hu)⟩⟩
theorem RdM.up {w : World} {B B' n : Nat} {A : Option Addr} {l : List MA} (h : RdM w B A n l) (hB : B <= B') : RdM w B' A n l :=
 ⟨h.1,fun hn => by
   obtain ⟨g,o,e,hg,hc⟩ := h.2 hn
   exact ⟨g,o,e,by omega,hc⟩⟩
theorem RdM.all {w : World} {B n : Nat} {ad : Addr} {l : List MA} (h : RdM w B (some ad) n l) : ∀ j u,(mRow l)[j]? = some u -> w.cell? (ad.add j) = some u := by
 intro j u hu
 have hj : j < (mRow l).length := by
  rcases Nat.lt_or_ge j (mRow l).length with h1 | h1
  ·exact h1
  ·rw [List.getElem?_eq_none h1] at hu; cases hu
 rw [mRow_length] at hj
 have hq : j / 4 < l.length := by omega
 obtain ⟨g,o,e,_,hc⟩ := h.2 (by have := h.1; omega)
 injection e with e
 subst e
 have hm : j = j / 4 * 4 + j % 4 := by omega
 rw [hm,mRow_at l (j / 4) (j % 4) hq (by omega)] at hu
 rw [Addr.add_lit,hm,<- Nat.add_assoc]
 exact hc (j / 4) hq (j % 4) u hu
theorem RdM.of_all {w : World} {B n g o : Nat} {l : List MA} (hl : l.length = n) (hg : g < B) (h : ∀ j u,(mRow l)[j]? = some u -> w.cell? ⟨g,o + j,none⟩ = some u) : RdM w B (some ⟨g,o,none⟩) n l := by
 refine ⟨hl,fun _ => ⟨g,o,rfl,hg,fun j hj i u hu => ?_⟩⟩
 have hi : i < 4 := by
  rcases Nat.lt_or_ge i 4 with h1 | h1
  ·exact h1
  ·rw [List.getElem?_eq_none (by simpa [mcs] using h1)] at hu; cases hu
 rw [Nat.add_assoc]
 exact h _ u ((mRow_at l j i hj hi).trans hu)
theorem RdM.of_own {w : World} {base n : Nat} {A : Option Addr} {c : Nat} {l : List MA} (h : w.ownsRow base 35 4 (.slice A n c) n (mRow l)) : RdM w w.heap.size A n l := by
 have hl : l.length = n := by have := h.1; rw [mRow_length] at this; omega
 rcases h.2 with ⟨e,rfl⟩ | ⟨g,cap,cur,e,hb,hh,hn,hm,hs,ht⟩
 ·exact ⟨hl,fun h => absurd h (by omega)⟩
 ·injection e with e1 e2 e3
  subst e1
  refine RdM.of_all hl (Array.getElem?_eq_some_iff.1 hh).1 fun j u hu => ?_
  have := h.cells (g := g) rfl j u hu
  rw [Addr.add_lit] at this
  exact this
theorem infoM : (Tryz.prog.info? 35).map (fun i => (i.zero,i.size,i.bytes)) = some (some (.agg #[.string ⟨#[]⟩,.string ⟨#[]⟩,.int .i64 0,.slice none 0 0]),4,64) := by kernel_rfl
theorem run_appM {w : World} (base : Nat) {v : Value} {n : Nat} {l : List MA} (hown : w.ownsRow base 35 4 v n (mRow l)) {B m c : Nat} {A : Option Addr} {k : List MA} (hr : RdM w B A m k)
    (hsz : n + m <= 1000000) (hbase : base <= w.heap.size) (ty : TypeId) :
    ∃ v' w',(Builtin.append_ #[36,36] ty #[v,.slice A m c]).run Tryz.prog w = .ok v' w' /\ (w'.ownsRow base 35 4 v' (n + m) (mRow (l ++ k)) /\ (w.grownBy w' v.ownBlock /\ (v'.ownBlock = v.ownBlock \/ v'.ownBlock = some w.heap.size))) := by
 obtain ⟨i,hi,hz0,hz1,hz2⟩ := info_parts infoM
 cases A with
 | none =>
   have h0 : m = 0 := by
    rcases Nat.eq_zero_or_pos m with h1 | h1
    ·exact h1
    ·obtain ⟨g,o,e,_⟩ := hr.2 h1; cases e
   subst h0
   obtain rfl : k = [] := List.eq_nil_of_length_eq_zero hr.1
   refine ⟨v,w,?_,by simpa using hown,⟨rfl,rfl,rfl,Nat.le_refl _,fun _ _ _ => rfl⟩,Or.inl rfl⟩
   rcases hown.2 with ⟨rfl,rfl⟩ | ⟨g,cap,cur,rfl,_,_,hnc,_⟩
   ·simp [Builtin.append_,run_underlying Tryz.underlying36,sizeOf,typeInfo,hi,Builtin.lenOf,Builtin.firstCells]
   ·simp [Builtin.append_,run_underlying Tryz.underlying36,sizeOf,typeInfo,hi,Builtin.lenOf,Builtin.firstCells,hnc,storeCells]
 | some ad =>
   obtain ⟨v',w',h1,h2,h3,_,h5⟩ := run_append_own_at (P := Tryz.prog) w base 36 ty 35 i (.agg #[.string ⟨#[]⟩,.string ⟨#[]⟩,.int .i64 0,.slice none 0 0]) 4 64 Tryz.underlying36 hi hz0 hz1 hz2 rfl (by decide) v n (mRow l) hown ad m c (mRow k)
    (by rw [mRow_length,hr.1]) hr.all (mRow_one k) (by unfold maxLen; omega) (by omega) hbase
   exact ⟨v',w',h1,by rw [mRow_append]; exact h2,h3,h5⟩
theorem own_nilM (w : World) (b : Nat) : w.ownsRow b 35 4 (.slice none 0 0) 0 (mRow []) := World.ownsRow_nil w b _ _
theorem RdM.laid (w : World) (x : MA) : RdM (w.alloc (.cells #[.string x.tb,.string x.p.k,.int .i64 x.p.g,.slice x.p.A x.p.L.length x.p.c] 35)) (w.heap.size + 1) (some ⟨w.heap.size,0,none⟩) 1 [x] := by
 refine RdM.of_all rfl (by omega) fun j u hu => ?_
 have : (mRow [x]) = mcs x := by simp [mRow]
 rw [this] at hu
 rw [Nat.zero_add]
 simpa [mcs] using hu
theorem RdM.part {w : World} {B n : Nat} {g o : Nat} {l : List MA} (h : RdM w B (some ⟨g,o,none⟩) n l) {j : Nat} (hj : j < l.length) :
    w.cell? ⟨g,o + j * 4,none⟩ = some (.string l[j].tb) /\ w.cell? ⟨g,o + j * 4 + 1,none⟩ = some (.string l[j].p.k) /\ w.cell? ⟨g,o + j * 4 + 2,none⟩ = some (.int .i64 l[j].p.g) /\ w.cell? ⟨g,o + j * 4 + 3,none⟩ = some (.slice l[j].p.A l[j].p.L.length l[j].p.c) := by
 obtain ⟨g',o',e,_,hc⟩ := h.2 (by have := h.1; omega)
 injection e with e
 injection e with e1 e2 _
 subst e1; subst e2
 exact ⟨hc j hj 0 _ rfl,hc j hj 1 _ rfl,hc j hj 2 _ rfl,hc j hj 3 _ rfl⟩
theorem RdM.ex {w : World} {B n : Nat} {A : Option Addr} {l : List MA} (h : RdM w B A n l) (hn : 0 < n) : ∃ g o,A = some ⟨g,o,none⟩ /\ g < B := by
 obtain ⟨g,o,e,hg,_⟩ := h.2 hn
 exact ⟨g,o,e,hg⟩
def ncs (x : NA) : List Value := [.int .i64 x.1,.string x.2]
def nRow (l : List NA) : List Value := l.flatMap ncs
theorem nRow_length (l : List NA) : (nRow l).length = l.length * 2 := by
 unfold nRow
 induction l with
 | nil => rfl
 | cons c l ih => rw [List.flatMap_cons,List.length_append,ih,List.length_cons]; simp [ncs]; omega
theorem nRow_append (l k : List NA) : nRow (l ++ k) = nRow l ++ nRow k := by unfold nRow; rw [List.flatMap_append]
theorem nRow_at : ∀ (l : List NA) (j i : Nat) (hj : j < l.length) (hi : i < 2),(nRow l)[j * 2 + i]? = (ncs l[j])[i]?
 | [],j,i,hj,hi => by cases hj
 | c :: l,0,i,hj,hi => by
   simp only [nRow,List.flatMap_cons,Nat.zero_mul,Nat.zero_add,zq3]
   exact List.getElem?_append_left (by simpa [ncs] using hi)
 | c :: l,j + 1,i,hj,hi => by
   have ih := nRow_at l j i (by simpa using hj) hi
   simp only [nRow,List.flatMap_cons,zq2] at ih ⊢
   rw [List.getElem?_append_right (by simp [ncs]; omega),<- ih]
   congr 1
   simp [ncs]
   omega
theorem nRow_one (l : List NA) : ∀ u ∈ nRow l,u.oneCell' = true := by
 intro u hu
 obtain ⟨c,_,hc⟩ := List.mem_flatMap.1 hu
 unfold ncs at hc
 simp only [List.mem_cons,List.not_mem_nil,or_false] at hc
 rcases hc with rfl | rfl <;> rfl
def RdN (w : World) (B : Nat) (A : Option Addr) (n : Nat) (l : List NA) : Prop :=
 l.length = n /\ (0 < n -> ∃ g o,A = some ⟨g,o,none⟩ /\ g < B /\ ∀ j (hj : j < l.length) i u,(ncs l[j])[i]? = some u -> w.cell? ⟨g,o + j * 2 + i,none⟩ = some u)
theorem RdN.below {w w' : World} {B n : Nat} {A : Option Addr} {l : List NA} (h : RdN w B A n l) (hb : Below B w w') : RdN w' B A n l :=
 ⟨h.1,fun hn => by
   obtain ⟨g,o,e,hg,hc⟩ := h.2 hn
   exact ⟨g,o,e,hg,fun j hj i u hu => (hb.cell (p := ⟨g,_,none⟩) hg).trans (hc j hj i u hu)⟩⟩
theorem RdN.up {w : World} {B B' n : Nat} {A : Option Addr} {l : List NA} (h : RdN w B A n l) (hB : B <= B') : RdN w B' A n l :=
 ⟨h.1,fun hn => by
   obtain ⟨g,o,e,hg,hc⟩ := h.2 hn
   exact ⟨g,o,e,by omega,hc⟩⟩
theorem RdN.all {w : World} {B n : Nat} {ad : Addr} {l : List NA} (h : RdN w B (some ad) n l) : ∀ j u,(nRow l)[j]? = some u -> w.cell? (ad.add j) = some u := by
 intro j u hu
 have hj : j < (nRow l).length := by
  rcases Nat.lt_or_ge j (nRow l).length with h1 | h1
  ·exact h1
  ·rw [List.getElem?_eq_none h1] at hu; cases hu
 rw [nRow_length] at hj
 have hq : j / 2 < l.length := by omega
 obtain ⟨g,o,e,_,hc⟩ := h.2 (by have := h.1; omega)
 injection e with e
 subst e
 have hm : j = j / 2 * 2 + j % 2 := by omega
 rw [hm,nRow_at l (j / 2) (j % 2) hq (by omega)] at hu
 rw [Addr.add_lit,hm,<- Nat.add_assoc]
 exact hc (j / 2) hq (j % 2) u hu
theorem RdN.of_all {w : World} {B n g o : Nat} {l : List NA} (hl : l.length = n) (hg : g < B) (h : ∀ j u,(nRow l)[j]? = some u -> w.cell? ⟨g,o + j,none⟩ = some u) : RdN w B (some ⟨g,o,none⟩) n l := by
 refine ⟨hl,fun _ => ⟨g,o,rfl,hg,fun j hj i u hu => ?_⟩⟩
 have hi : i < 2 := by
  rcases Nat.lt_or_ge i 2 with h1 | h1
  ·exact h1
  ·rw [List.getElem?_eq_none (by simpa [ncs] using h1)] at hu; cases hu
 rw [Nat.add_assoc]
 exact h _ u ((nRow_at l j i hj hi).trans hu)
theorem RdN.of_own {w : World} {base n : Nat} {A : Option Addr} {c : Nat} {l : List NA} (h : w.ownsRow base 57 2 (.slice A n c) n (nRow l)) : RdN w w.heap.size A n l := by
 have hl : l.length = n := by have := h.1; rw [nRow_length] at this; omega
 rcases h.2 with ⟨e,rfl⟩ | ⟨g,cap,cur,e,hb,hh,hn,hm,hs,ht⟩
 ·exact ⟨hl,fun h => absurd h (by omega)⟩
 ·injection e with e1 e2 e3
  subst e1
  refine RdN.of_all hl (Array.getElem?_eq_some_iff.1 hh).1 fun j u hu => ?_
  have := h.cells (g := g) rfl j u hu
  rw [Addr.add_lit] at this
  exact this
theorem infoN : (Tryz.prog.info? 57).map (fun i => (i.zero,i.size,i.bytes)) = some (some (.agg #[.int .i64 0,.string ⟨#[]⟩]),2,24) := by kernel_rfl
theorem run_appN {w : World} (base : Nat) {v : Value} {n : Nat} {l : List NA} (hown : w.ownsRow base 57 2 v n (nRow l)) {B m c : Nat} {A : Option Addr} {k : List NA} (hr : RdN w B A m k)
    (hsz : n + m <= 1000000) (hbase : base <= w.heap.size) (ty : TypeId) :
    ∃ v' w',(Builtin.append_ #[37,37] ty #[v,.slice A m c]).run Tryz.prog w = .ok v' w' /\ (w'.ownsRow base 57 2 v' (n + m) (nRow (l ++ k)) /\ (w.grownBy w' v.ownBlock /\ (v'.ownBlock = v.ownBlock \/ v'.ownBlock = some w.heap.size))) := by
 obtain ⟨i,hi,hz0,hz1,hz2⟩ := info_parts infoN
 cases A with
 | none =>
   have h0 : m = 0 := by
    rcases Nat.eq_zero_or_pos m with h1 | h1
    ·exact h1
    ·obtain ⟨g,o,e,_⟩ := hr.2 h1; cases e
   subst h0
   obtain rfl : k = [] := List.eq_nil_of_length_eq_zero hr.1
   refine ⟨v,w,?_,by simpa using hown,⟨rfl,rfl,rfl,Nat.le_refl _,fun _ _ _ => rfl⟩,Or.inl rfl⟩
   rcases hown.2 with ⟨rfl,rfl⟩ | ⟨g,cap,cur,rfl,_,_,hnc,_⟩
   ·simp [Builtin.append_,run_underlying Tryz.underlying37,sizeOf,typeInfo,hi,Builtin.lenOf,Builtin.firstCells]
   ·simp [Builtin.append_,run_underlying Tryz.underlying37,sizeOf,typeInfo,hi,Builtin.lenOf,Builtin.firstCells,hnc,storeCells]
 | some ad =>
   obtain ⟨v',w',h1,h2,h3,_,h5⟩ := run_append_own_at (P := Tryz.prog) w base 37 ty 57 i (.agg #[.int .i64 0,.string ⟨#[]⟩]) 2 24 Tryz.underlying37 hi hz0 hz1 hz2 rfl (by decide) v n (nRow l) hown ad m c (nRow k)
    (by rw [nRow_length,hr.1]) hr.all (nRow_one k) (by unfold maxLen; omega) (by omega) hbase
   exact ⟨v',w',h1,by rw [nRow_append]; exact h2,h3,h5⟩
theorem own_nilN (w : World) (b : Nat) : w.ownsRow b 57 2 (.slice none 0 0) 0 (nRow []) := World.ownsRow_nil w b _ _
theorem RdN.laid (w : World) (x : NA) : RdN (w.alloc (.cells #[.int .i64 x.1,.string x.2] 57)) (w.heap.size + 1) (some ⟨w.heap.size,0,none⟩) 1 [x] := by
 refine RdN.of_all rfl (by omega) fun j u hu => ?_
 have : (nRow [x]) = ncs x := by simp [nRow]
 rw [this] at hu
 rw [Nat.zero_add]
 simpa [ncs] using hu
theorem RdN.part {w : World} {B n : Nat} {g o : Nat} {l : List NA} (h : RdN w B (some ⟨g,o,none⟩) n l) {j : Nat} (hj : j < l.length) :
    w.cell? ⟨g,o + j * 2,none⟩ = some (.int .i64 l[j].1) /\ w.cell? ⟨g,o + j * 2 + 1,none⟩ = some (.string l[j].2) := by
 obtain ⟨g',o',e,_,hc⟩ := h.2 (by have := h.1; omega)
 injection e with e
 injection e with e1 e2 _
 subst e1; subst e2
 exact ⟨hc j hj 0 _ rfl,hc j hj 1 _ rfl⟩
theorem RdN.ex {w : World} {B n : Nat} {A : Option Addr} {l : List NA} (h : RdN w B A n l) (hn : 0 < n) : ∃ g o,A = some ⟨g,o,none⟩ /\ g < B := by
 obtain ⟨g,o,e,hg,_⟩ := h.2 hn
 exact ⟨g,o,e,hg⟩
abbrev zRow (l : List Int) : List Value := l.map (Value.int .i64)
theorem RdZ.ofOwn {w : World} {base n : Nat} {A : Option Addr} {c : Nat} {l : List Int} (h : w.ownsRow base 3 1 (.slice A n c) n (zRow l)) : RdZ w w.heap.size A n l := by
 have hl : l.length = n := by have := h.1; rw [List.length_map] at this; omega
 rcases h.2 with ⟨e,rfl⟩ | ⟨g,cap,cur,e,hb,hh,hn,hm,hs,ht⟩
 ·exact ⟨hl,fun h => absurd h (by omega)⟩
 ·injection e with e1 e2 e3
  subst e1
  refine ⟨hl,fun _ => ⟨g,0,rfl,(Array.getElem?_eq_some_iff.1 hh).1,fun j hj => ?_⟩⟩
  have := h.cells (g := g) rfl j (.int .i64 l[j]) (by simp [zRow,hj])
  rw [Addr.add_lit] at this
  exact this
theorem RdZ.lay1 (w : World) (x : Int) : RdZ (w.alloc (.cells #[.int .i64 x] 3)) (w.heap.size + 1) (some ⟨w.heap.size,0,none⟩) 1 [x] := by
 refine ⟨rfl,fun _ => ⟨_,0,rfl,by omega,fun j hj => ?_⟩⟩
 have : j = 0 := by simpa using hj
 subst this
 exact cell_at (i := 0) (heap_alloc_new w _) rfl
theorem RdZ.up {w : World} {B B' n : Nat} {A : Option Addr} {l : List Int} (h : RdZ w B A n l) (hB : B <= B') : RdZ w B' A n l :=
 ⟨h.1,fun hn => by
   obtain ⟨g,o,e,hg,hc⟩ := h.2 hn
   exact ⟨g,o,e,by omega,hc⟩⟩
theorem infoZi : (Tryz.prog.info? 3).map (fun i => (i.zero,i.size,i.bytes)) = some (some (.int .i64 0),1,8) := by kernel_rfl
end Go.Proofs.YtmpcnhpdobdmcaaGreatDoor
namespace Go.Proofs.YtmpcnhpdobdmcaaGreatDoor
open Go Go.RowKit
structure MSt (w wr : World) (B B' : Nat) (R : List Ro) (A1 A2 : Option Addr) (n1 n2 c1 c2 : Nat) (la lb M : List RA) (vm : Value) : Prop where
 a : Lies w B A1 n1 c1 la
 b : Lies w B' A2 n2 c2 lb
 sum : M.length + (n1 + n2) <= 1000000
 run : runK Ro.key Ro.join (ros M) (ros la) (ros lb) = R
 ua : ∀ x ∈ la,x.ro.Up
 ub : ∀ x ∈ lb,x.ro.Up
 um : ∀ x ∈ M,x.ro.Up
 tt : tot M + (tot la + tot lb) <= 1000000
 own : Own w wr vm M
structure MPd (w : World) (B B' : Nat) (R : List Ro) (A1 A2 : Option Addr) (n1 n2 c1 c2 : Nat) (la lb M : List RA) (x : RA) : Prop where
 a : Lies w B A1 n1 c1 la
 b : Lies w B' A2 n2 c2 lb
 sum : M.length + 1 + (n1 + n2) <= 1000000
 run : runK Ro.key Ro.join (pushK Ro.key Ro.join (ros M) x.ro) (ros la) (ros lb) = R
 ua : ∀ x ∈ la,x.ro.Up
 ub : ∀ x ∈ lb,x.ro.Up
 um : ∀ x ∈ M,x.ro.Up
 ux : x.ro.Up
 tt : tot M + x.ro.cols.length + (tot la + tot lb) <= 1000000
section
variable {w wr w' : World} {B B' : Nat} {R : List Ro} {A1 A2 : Option Addr} {n1 n2 c1 c2 : Nat} {la lb M L : List RA} {vm v' : Value} {x y z : RA}
theorem MPd.app (h : MPd w B B' R A1 A2 n1 n2 c1 c2 la lb M x) (hp : pushK Ro.key Ro.join (ros M) x.ro = ros M ++ [x.ro]) (ho : Own w w' v' (M ++ [x])) : MSt w w' B B' R A1 A2 n1 n2 c1 c2 la lb (M ++ [x]) v' where
 a := h.a
 b := h.b
 sum := by have := h.sum; simp; omega
 run := by have := h.run; rw [hp] at this; simpa [ros] using this
 ua := h.ua
 ub := h.ub
 um := fun y hy => by
  rcases List.mem_append.1 hy with h1 | h1
  ·exact h.um y h1
  ·rw [List.mem_singleton.1 h1]; exact h.ux
 tt := by have := h.tt; rw [tot_app,tot_cons,tot_nil]; omega
 own := ho
theorem MPd.put (h : MPd w B B' R A1 A2 n1 n2 c1 c2 la lb M x) (hM : M = L ++ [y]) (hk : y.ro.key = x.ro.key) (hz : z.ro = y.ro.join x.ro) (ho : Own w w' v' (M.set L.length z)) : MSt w w' B B' R A1 A2 n1 n2 c1 c2 la lb (L ++ [z]) v' where
 a := h.a
 b := h.b
 sum := by have := h.sum; rw [hM] at this; simp at this ⊢; omega
 run := by
  have := h.run
  rw [hM,show ros (L ++ [y]) = ros L ++ [y.ro] by simp [ros],pushK_last,if_pos hk] at this
  rw [show ros (L ++ [z]) = ros L ++ [z.ro] by simp [ros],hz]
  exact this
 ua := h.ua
 ub := h.ub
 um := fun t ht => by
  rcases List.mem_append.1 ht with h1 | h1
  ·exact h.um t (by rw [hM]; exact List.mem_append_left _ h1)
  ·rw [List.mem_singleton.1 h1,hz]; exact (h.um y (by rw [hM]; simp)).join h.ux
 tt := by
  have := h.tt
  rw [hM,tot_app,tot_cons,tot_nil] at this
  rw [tot_app,tot_cons,tot_nil,hz]
  have := len_join y.ro x.ro
  omega
 own := by
  have e : M.set L.length z = L ++ [z] := by rw [hM]; simp
  rw [<- e]
  exact ho
theorem MSt.takeA (h : MSt w wr B B' R A1 A2 n1 n2 c1 c2 (x :: la) lb M vm) (A1' : Option Addr) (ha : Lies w B A1' (n1 - 1) (c1 - 1) la) (hr : runK Ro.key Ro.join (pushK Ro.key Ro.join (ros M) x.ro) (ros la) (ros lb) = R) : MPd w B B' R A1' A2 (n1 - 1) n2 (c1 - 1) c2 la lb M x where
 a := ha
 b := h.b
 sum := by have := h.sum; have := h.a.len; simp at this; omega
 run := hr
 ua := fun y hy => h.ua y (List.mem_cons_of_mem _ hy)
 ub := h.ub
 um := h.um
 ux := h.ua x (List.mem_cons_self ..)
 tt := by have := h.tt; rw [tot_cons] at this; omega
theorem MSt.takeB (h : MSt w wr B B' R A1 A2 n1 n2 c1 c2 la (x :: lb) M vm) (A2' : Option Addr) (ha : Lies w B' A2' (n2 - 1) (c2 - 1) lb) (hr : runK Ro.key Ro.join (pushK Ro.key Ro.join (ros M) x.ro) (ros la) (ros lb) = R) : MPd w B B' R A1 A2' n1 (n2 - 1) c1 (c2 - 1) la lb M x where
 a := h.a
 b := ha
 sum := by have := h.sum; have := h.b.len; simp at this; omega
 run := hr
 ua := h.ua
 ub := fun y hy => h.ub y (List.mem_cons_of_mem _ hy)
 um := h.um
 ux := h.ub x (List.mem_cons_self ..)
 tt := by have := h.tt; rw [tot_cons] at this; omega
end
theorem heap_drew (w : World) : w.drew.heap = w.heap := rfl
theorem mergeR_any (A A' : Option Addr) (n n' c c' B B' : Nat) (la0 lb0 : List RA) (w : World) (h : Lies w B A n c la0) (h' : Lies w B' A' n' c' lb0) (hB : B <= w.heap.size) (hB' : B' <= w.heap.size) (hn : n + n' <= 1000000)
    (hu : ∀ x ∈ la0,x.ro.Up) (hu' : ∀ x ∈ lb0,x.ro.Up) (ht : tot la0 + tot lb0 <= 1000000) :
    Calls Tryz.prog 171 #[.slice A n c,.slice A' n' c',.func (.func 172) #[] #[],.func (.func 173) #[] #[]] w fun e w' => ∃ v M,e = .returned v /\ ros M = runK Ro.key Ro.join [] (ros la0) (ros lb0) /\ Own w w' v M := by
 obtain ⟨R,hR⟩ : ∃ R,runK Ro.key Ro.join [] (ros la0) (ros lb0) = R := ⟨_,rfl⟩
 rw [hR]
 have hadd : IntKind.i64.wrap ((n : Int) + (n' : Int)) = ((n + n' : Nat) : Int) := by rw [IntKind.wrap_i64]; push_cast; omega
 have hadd2 : wrap64 ((n : Int) + (n' : Int)) = ((n + n' : Nat) : Int) := by unfold wrap64; push_cast; omega
 have hmk := fun wx : World => run_makeR0 wx (n + n') (by omega)
 have hcm := own_madeR w (n + n') (by omega)
 have hst : ∀ wr v,Own w wr v [] -> MSt w wr B B' R A A' n n' c c' la0 lb0 [] v := fun wr v ho => ⟨h,h',by simpa using hn,hR,hu,hu',fun x hx => (by cases hx),by rw [tot_nil]; omega,ho⟩
 have HCM := hid hcm; have HST := hid hst
 have HBB := hid hB; have HBB' := hid hB'
 obtain ⟨N,hN⟩ : ∃ N,N = n + n' := ⟨_,rfl⟩
 rw [<- hN] at hadd hadd2 hmk HCM
 clear hR h h' hcm hn hu hu' ht hst hN hB hB'
 go_enter Tryz.func171,Tryz.ntmps171
 go_wp2
 obtain ⟨W1,hW1⟩ : ∃ W1,W1 = w.alloc (.cells (madeCells #[.string ⟨#[]⟩,.string ⟨#[]⟩,.bool false,.int .i64 0,.int .i64 0,.int .i64 0,.int .i64 0,.slice none 0 0] (N * 8)) 45) := ⟨_,rfl⟩
 rw [<- hW1] at HCM ⊢
 clear hW1 hmk hadd hadd2
 go_loopw [0,1,9] (fun va vb vm wr => ∃ (A1 A2 : Option Addr) (n1 n2 c1 c2 : Nat) (la lb M : List RA),va = .slice A1 n1 c1 /\ vb = .slice A2 n2 c2 /\ MSt w wr B B' R A1 A2 n1 n2 c1 c2 la lb M vm) (fun va vb _ _ => lenS va + lenS vb)
 case atStart => exact ⟨A,A',n,n',c,c',la0,lb0,[],rfl,rfl,HST.out _ _ HCM.out⟩
 case round =>
  obtain ⟨A1,A2,n1,n2,c1,c2,la,lb,M,rfl,rfl,hms⟩ := hrel
  obtain ⟨A0,c0,rfl,_⟩ := hms.own.slice
  have hcur := hms.own
  obtain ⟨m,hm⟩ : ∃ m,M.length = m := ⟨_,rfl⟩
  have hsum := hms.sum
  rw [hm] at hsum hcur ⊢
  have HM := hid hm
  have l1 := hms.a.len
  have l2 := hms.b.len
  have W1_ := hid (show IntKind.i64.wrap ((n1 : Int) + (n2 : Int)) = (n1 : Int) + n2 by rw [IntKind.wrap_i64]; omega)
  have W2_ := hid (show wrap64 ((n1 : Int) + (n2 : Int)) = (n1 : Int) + n2 by unfold wrap64; omega)
  have HMS := hid hms; have HCUR := hid hcur; have L1 := hid l1; have L2 := hid l2
  have hws := hcur.below.size
  clear hms hcur l1 l2 hm
  by_cases h0 : n1 + n2 = 0
  ·have d0 : decide ((0 : Int) < (n1 : Int) + (n2 : Int)) = false := by simp; omega
   have d1 : decide (0 < n1 + n2) = false := by simp; omega
   have d2 : decide ((0 : Int) < ((n1 + n2 : Nat) : Int)) = false := by simp; omega
   have d3 : ¬ (0 < n1 + n2) := by omega
   have d4 : ¬ ((0 : Int) < (n1 : Int) + (n2 : Int)) := by omega
   have hf : ros M = R := by
    have e1 : la = [] := List.eq_nil_of_length_eq_zero (by rw [L1.out]; omega)
    have e2 : lb = [] := List.eq_nil_of_length_eq_zero (by rw [L2.out]; omega)
    rw [<- HMS.out.run,e1,e2]
    exact (runK_nil _).symm
   have HF := hid hf
   have w1 := W1_.out
   have w2 := W2_.out
   clear hf h0
   go_wp2
   go_ret
   first | exact ⟨_,M,rfl,HF.out,HCUR.out⟩ | exact ⟨_,rfl,M,HF.out,HCUR.out⟩
  ·have d0 : decide ((0 : Int) < (n1 : Int) + (n2 : Int)) = true := by simp; omega
   have d1 : decide (0 < n1 + n2) = true := by simp; omega
   have d2 : decide ((0 : Int) < ((n1 + n2 : Nat) : Int)) = true := by simp; omega
   have d3 : 0 < n1 + n2 := by omega
   have d4 : (0 : Int) < (n1 : Int) + (n2 : Int) := by omega
   have hz := heap_alloc_new wr (.cells #[.string ⟨#[]⟩,.string ⟨#[]⟩,.bool false,.int .i64 0,.int .i64 0,.int .i64 0,.int .i64 0,.slice none 0 0] 45)
   have ha := (Below.refl wr.heap.size wr).alloc (Nat.le_refl _) (.cells #[.string ⟨#[]⟩,.string ⟨#[]⟩,.bool false,.int .i64 0,.int .i64 0,.int .i64 0,.int .i64 0,.slice none 0 0] 45)
   have HZ := hid hz; have HAL := hid ha; have H0 := hid h0; have HWS := hid hws
   clear hz ha h0 hws
   obtain ⟨U,hU⟩ : ∃ U,U = wr.alloc (.cells #[.string ⟨#[]⟩,.string ⟨#[]⟩,.bool false,.int .i64 0,.int .i64 0,.int .i64 0,.int .i64 0,.slice none 0 0] 45) := ⟨_,rfl⟩
   have hUs : U.heap.size = wr.heap.size + 1 := by rw [hU]; simp
   have HUS := hid hUs
   rw [<- hU] at HZ HAL
   clear hUs
   by_cases e2 : n2 = 0
   ·have hpos : 0 < n1 := by omega
    obtain ⟨x,la',rfl⟩ : ∃ x la',la = x :: la' := by
     match la,L1.out with
     | [],h => simp at h; omega
     | x :: la',_ => exact ⟨x,la',rfl⟩
    have hlb : lb = [] := List.eq_nil_of_length_eq_zero (by rw [L2.out]; exact e2)
    have hrun2 : runK Ro.key Ro.join (pushK Ro.key Ro.join (ros M) x.ro) (ros la') (ros lb) = R := by have := HMS.out.run; rw [hlb] at this ⊢; rw [<- this]; exact (runK_a _ _ _).symm
    have q1 : ((n2 : Int) == 0) = true := by rw [beq_iff_eq]; omega
    have q2 : (n2 == 0) = true := by rw [beq_iff_eq]; omega
    have d0 : decide ((0 : Int) < (n1 : Int) + (n2 : Int)) = true := by simp; omega
    have d1 : decide (0 < n1 + n2) = true := by simp; omega
    have i1 : (0 : Int) < n1 := by omega
    obtain ⟨A1',hsl,hla'⟩ := HMS.out.a.tail
    have MP := hid (HMS.out.takeA A1' hla' hrun2)
    have hxin := HMS.out.a.held x (List.mem_cons_self ..)
    have XIN0 : Hid (RaIn w w.heap.size x) := hid (hxin.up HBB.out)
    have XIN : Hid (RaIn wr wr.heap.size x) := hid ((hxin.below (HCUR.out.below.mono HBB.out)).up (Nat.le_trans HBB.out HWS.out))
    obtain ⟨g1,o1,rfl,hgB⟩ := HMS.out.a.rd.ex hpos
    have hc0 := (HMS.out.a.below (HCUR.out.below.mono HBB.out)).head
    have hgw : g1 < wr.heap.size := by have := HWS.out; have := HBB.out; omega
    have hall : ∀ w',Below U.heap.size U w' -> RowAt w' g1 o1 x := fun w' hb => hc0.below (HAL.out.trans (hb.mono (by have := HUS.out; omega))) hgw
    have HALLW := hid (fun w' (hb2 : Below wr.heap.size wr w') => hc0.below hb2 hgw)
    have HALL := hid hall
    have w1 := W1_.out
    have w2 := W2_.out
    clear hlb hrun2 hla' hc0 hall e2 hxin
    go_wp2_with fail
    rw [<- hU]
    clear hU
    refine wp_region_held_drew (S := fun w' => Below U.heap.size U w') (by kernel_rfl) ?_ (fun hHeld => ?_)
    ·exact (Below.refl _ _).drew
    refine takesH [0,1,2,3,4,5,6,7,8,9,10,11,12,13,14,15,16,17,18] ?_
    repeat
     refine takesH_one (v := ?_) ?_ ?_
     rotate_left
     ·first | (refine Or.inr ⟨by rfl,?_⟩; with_reducible rfl) | (refine Or.inl ⟨by rfl,?_⟩; intro wx hSw; (try dsimp only at hSw); first | (go_simp; first | done | with_reducible rfl))
     try simp only [Act.put,zq1,zq2,zq3,zq4,zq5,zq6]
    refine takesH_nil ?_
    refine wpAnyH_done (by kernel_rfl) ?_ _
    clear w1 w2
    have hlow : Below U.heap.size U U := (Below.refl _ _)
    obtain ⟨_,_,_,_,_,_,_,_⟩ := HALL.out _ hlow
    have hq := (hlow.block wr.heap.size (by have := HUS.out; omega)).trans HZ.out
    have z0 := cell_at (i := 0) hq rfl
    have z1 := cell_at (i := 1) hq rfl
    have z2 := cell_at (i := 2) hq rfl
    have z3 := cell_at (i := 3) hq rfl
    have z4 := cell_at (i := 4) hq rfl
    have z5 := cell_at (i := 5) hq rfl
    have z6 := cell_at (i := 6) hq rfl
    have z7 := cell_at (i := 7) hq rfl
    have y0 := thawed_at (i := 0) hq
    have y1 := thawed_at (i := 1) hq
    have y2 := thawed_at (i := 2) hq
    have y3 := thawed_at (i := 3) hq
    have y4 := thawed_at (i := 4) hq
    have y5 := thawed_at (i := 5) hq
    have y6 := thawed_at (i := 6) hq
    have y7 := thawed_at (i := 7) hq
    have HQ4_ := hid (set8_block hq x)
    have HB4_ := hid (below_set80 (HAL.out.trans (hlow.mono (by have := HUS.out; omega))) (Nat.le_refl wr.heap.size) x)
    clear hq
    have HLOW := hid (HAL.out.trans (hlow.mono (by have := HUS.out; omega)))
    go_wp2_with fail
    refine wp_region_held_drew (S := fun w' => Below wr.heap.size wr w') (by kernel_rfl) ?_ (fun hHeld => ?_)
    ·exact HLOW.out.drew.drew
    refine takesH [0,1,2,3,4] ?_
    repeat
     refine takesH_one (v := ?_) ?_ ?_
     rotate_left
     ·first | (refine Or.inr ⟨by rfl,?_⟩; with_reducible rfl) | (refine Or.inl ⟨by rfl,?_⟩; intro wx hSw; (try dsimp only at hSw); first | (go_simp; first | done | with_reducible rfl) | (obtain ⟨_,_,_,_,_,_,_,_⟩ := HALLW.out _ hSw; go_simp; first | done | with_reducible rfl))
     try simp only [Act.put,zq1,zq2,zq3,zq4,zq5,zq6]
    refine takesH_nil ?_
    refine wpAnyH_ready (rs := [5]) (by kernel_rfl) (by simp) (AllReadyH.cons rfl (fun K hK => ?_) AllReadyH.nil)
    go_simp
    refine hK.out _ _ ?_ (fun hHeld => ?_)
    ·exact HB4_.out.drew.drew
    clear hK K
    try simp only [Act.put,zq1,zq2,zq3,zq4,zq5,zq6]
    refine takesH [6] ?_
    repeat
     refine takesH_one (v := ?_) ?_ ?_
     rotate_left
     ·first | (refine Or.inr ⟨by rfl,?_⟩; with_reducible rfl) | (refine Or.inl ⟨by rfl,?_⟩; intro wx hSw; (try dsimp only at hSw); first | (go_simp; first | done | with_reducible rfl))
     try simp only [Act.put,zq1,zq2,zq3,zq4,zq5,zq6]
    refine takesH_nil ?_
    refine wpAnyH_done (by kernel_rfl) ?_ _
    obtain ⟨w4,hw4⟩ : ∃ w4,w4 = ((World.setCell (World.setCell (World.setCell (World.setCell (World.setCell (World.setCell (World.setCell (World.setCell (U) ⟨wr.heap.size,0,none⟩ (.string x.ro.key)) ⟨wr.heap.size,1,none⟩ (.string x.ro.live.s)) ⟨wr.heap.size,2,none⟩ (.bool x.ro.live.d)) ⟨wr.heap.size,3,none⟩ (.int .i64 x.ro.live.a)) ⟨wr.heap.size,4,none⟩ (.int .i64 x.ro.live.e)) ⟨wr.heap.size,5,none⟩ (.int .i64 x.ro.gone)) ⟨wr.heap.size,6,none⟩ (.int .i64 x.ro.shade)) ⟨wr.heap.size,7,none⟩ (.slice x.A x.ro.cols.length x.c))).drew.drew := ⟨_,rfl⟩
    rw [<- hw4]
    have HQ4 : Hid (w4.heap[wr.heap.size]? = some (.cells #[.string x.ro.key,.string x.ro.live.s,.bool x.ro.live.d,.int .i64 x.ro.live.a,.int .i64 x.ro.live.e,.int .i64 x.ro.gone,.int .i64 x.ro.shade,.slice x.A x.ro.cols.length x.c] 45)) := hid (by rw [hw4]; simp only [heap_drew]; exact HQ4_.out)
    have HB4 : Hid (Below wr.heap.size wr w4) := hid (by rw [hw4]; exact HB4_.out.drew.drew)
    clear hw4 HQ4_ HB4_ z0 z1 z2 z3 z4 z5 z6 z7 y0 y1 y2 y3 y4 y5 y6 y7
    have HCV := hid (HCUR.out.on HB4.out)
    have HS4 := hid HB4.out.size
    have HX4 := hid (XIN.out.below HB4.out)
    rcases List.eq_nil_or_concat M with hM | ⟨L,y,hM⟩
    ·have hp : pushK Ro.key Ro.join (ros M) x.ro = ros M ++ [x.ro] := by rw [hM]; rfl
     have hm0 : m = 0 := by rw [<- HM.out,hM]; rfl
     have S1 := hid (show IntKind.i64.wrap ((m : Int) - 1) = -1 by rw [IntKind.wrap_i64]; omega)
     have S2 := hid (show wrap64 ((m : Int) - 1) = -1 by unfold wrap64; omega)
     have HP := hid hp
     have hall4 : ∀ w',Below w4.heap.size w4 w' -> BlkAt w' wr.heap.size x := fun w' hb => BlkAt.of ((hb.block wr.heap.size (Array.getElem?_eq_some_iff.1 HQ4.out).1).trans HQ4.out)
     have HALL4 := hid hall4
     have s1 := S1.out
     have s2 := S2.out
     clear hm0 hM hp hall4
     go_wp2_with fail
     refine wp_region_held_drew (S := fun w' => Below w4.heap.size w4 w') (by kernel_rfl) ?_ (fun hHeld => ?_)
     ·exact (Below.refl _ _).drew
     refine takesH [0,1,2,3,4,5,6,7,8,9,10,11] ?_
     repeat
      refine takesH_one (v := ?_) ?_ ?_
      rotate_left
      ·first | (refine Or.inr ⟨by rfl,?_⟩; with_reducible rfl) | (refine Or.inl ⟨by rfl,?_⟩; intro wx hSw; (try dsimp only at hSw); first | (go_simp; first | done | with_reducible rfl))
      try simp only [Act.put,zq1,zq2,zq3,zq4,zq5,zq6]
     refine takesH_nil ?_
     refine wpAnyH_done (by kernel_rfl) ?_ _
     have hl8 : Below w4.heap.size w4 w4.drew := (Below.refl _ _).drew
     generalize w4.drew = w8 at hl8 ⊢
     obtain ⟨_,_,_,_,_,_,_,_⟩ := HALL4.out _ hl8
     clear s1 s2
     have hcw := (HCV.out.on hl8).on ((Below.refl _ _).alloc (Nat.le_refl _) (.cells #[.string x.ro.key,.string x.ro.live.s,.bool x.ro.live.d,.int .i64 x.ro.live.a,.int .i64 x.ro.live.e,.int .i64 x.ro.gone,.int .i64 x.ro.shade,.slice x.A x.ro.cols.length x.c] 45))
     have hk1 := RdR.laid w8 x
     have hsx : Safe w (w8) x := Or.inl XIN0.out
     have HCW := hid hcw; have HK1 := hid hk1; have HSX := hid (hsx.on ((Below.refl _ _).alloc (Nat.le_refl _) (.cells #[.string x.ro.key,.string x.ro.live.s,.bool x.ro.live.d,.int .i64 x.ro.live.a,.int .i64 x.ro.live.e,.int .i64 x.ro.gone,.int .i64 x.ro.shade,.slice x.A x.ro.cols.length x.c] 45)))
     clear hcw hk1 hl8 hsx
     go_wp2_with (at_builtin; refine list_ex rfl (.tmp 78) (.tmp 80) _ _ rfl (.slice A0 m c0) (.slice (some ⟨(w8).heap.size,0,none⟩) 1 1) rfl rfl (run_appR w.heap.size (HM.out ▸ HCW.out.cur.own) HK1.out ?s1 ?s2) ?_)
     case s1 => have h9 := HM.out; have h8 := MP.out.sum; (try simp at h9); (try simp); omega
     case s2 => simpa using HCW.out.below.size
     intro v3 w3 ho3 hg3 hloc3
     obtain ⟨A3,m3,c3,rfl,hm3,hc3⟩ := HCW.out.app (k := [x]) (fun y hy => by rw [List.mem_singleton.1 hy]; exact HSX.out) ho3 hg3
     have HC3 := hid (MP.out.app HP.out hc3)
     clear hc3 ho3 hg3 hloc3
     go_wp2
     go_roundw
     case rel => exact ⟨_,_,_,_,_,_,_,_,_,rfl,rfl,HC3.out⟩
     case measure => simp [lenS]; omega
    ·rw [List.concat_eq_append] at hM
     have HMM := hid hM
     clear hM
     obtain ⟨u,hu⟩ : ∃ u,L.length = u := ⟨_,rfl⟩
     have hm1 : m = u + 1 := by rw [<- HM.out,HMM.out,<- hu]; simp
     have hul : u < M.length := by have := HM.out; omega
     have hMu : M[u] = y := by simp [HMM.out,<- hu]
     have S1 := hid (show IntKind.i64.wrap ((m : Int) - 1) = (u : Int) by rw [IntKind.wrap_i64]; omega)
     have S2 := hid (show wrap64 ((m : Int) - 1) = (u : Int) by unfold wrap64; omega)
     obtain ⟨g5,rfl,hg5,hg5',hy5,hf5⟩ := HCV.out.row hul
     rw [hMu] at hy5
     have hall4 : ∀ w',Below w4.heap.size w4 w' -> RowAt w' g5 (u * 8) y /\ BlkAt w' wr.heap.size x := fun w' hb =>
      ⟨hy5.below hb hg5',BlkAt.of ((hb.block wr.heap.size (Array.getElem?_eq_some_iff.1 HQ4.out).1).trans HQ4.out)⟩
     have HALL4 := hid hall4
     have hysafe := HCV.out.safe y (by rw [HMM.out]; simp)
     have HY4 := hid (hysafe.ra HCV.out.below)
     have i5 : (u : Int) < m := by omega
     have i6 : (0 : Int) <= u := by omega
     have i7 : decide ((0 : Int) <= (u : Int)) = true := by simp
     have HU := hid hu; have HM1 := hid hm1; have HUL := hid hul
     clear hall4 hu hm1 hy5 hf5 hul hMu hysafe
     by_cases hn : y.ro.key = x.ro.key
     ·have t0 : (tcmp y.ro.key x.ro.key == 0) = true := by rw [beq_iff_eq]; exact tcmp_zero.2 hn
      have HN2 := hid hn
      have s1 := S1.out
      have s2 := S2.out
      clear hn
      go_wp2_with fail
      refine wp_region_held_drew (S := fun w' => Below w4.heap.size w4 w') (by kernel_rfl) ?_ (fun hHeld => ?_)
      ·exact (Below.refl _ _).drew
      refine takesH [0,1,2,3,4,5,6,7,8] ?_
      repeat
       refine takesH_one (v := ?_) ?_ ?_
       rotate_left
       ·first | (refine Or.inr ⟨by rfl,?_⟩; with_reducible rfl) | (refine Or.inl ⟨by rfl,?_⟩; intro wx hSw; (try dsimp only at hSw); first | (go_simp; first | done | with_reducible rfl) | (obtain ⟨⟨_,_,_,_,_,_,_,_⟩,_,_,_,_,_,_,_,_⟩ := HALL4.out _ hSw; go_simp; first | done | with_reducible rfl))
       try simp only [Act.put,zq1,zq2,zq3,zq4,zq5,zq6]
      refine takesH_nil ?_
      refine wpAnyH_ready (rs := [9]) (by kernel_rfl) (by simp) (AllReadyH.cons rfl (fun K hK => ?_) AllReadyH.nil)
      go_simp
      refine (bykey_ra y x _).mono ?_
      rintro e v1 ⟨rfl,b1⟩
      try go_wp2_with fail
      refine hK.out _ _ ?_ (fun hHeld => ?_)
      ·exact next (by assumption) b1
      clear hK K
      try simp only [Act.put,zq1,zq2,zq3,zq4,zq5,zq6]
      refine takesH [10,11] ?_
      repeat
       refine takesH_one (v := ?_) ?_ ?_
       rotate_left
       ·first | (refine Or.inr ⟨by rfl,?_⟩; with_reducible rfl) | (refine Or.inl ⟨by rfl,?_⟩; intro wx hSw; (try dsimp only at hSw); first | (go_simp; first | done | with_reducible rfl))
       try simp only [Act.put,zq1,zq2,zq3,zq4,zq5,zq6]
      refine takesH_nil ?_
      refine wpAnyH_done (by kernel_rfl) ?_ _
      obtain ⟨⟨_,_,_,_,_,_,_,_⟩,_,_,_,_,_,_,_,_⟩ := HALL4.out _ hHeld
      clear s1 s2
      have HH := hid hHeld
      clear hHeld
      go_wp2_with fail
      go_region_with (first
       | (go_at_call 173
          have hbv := next (w := w4) HH.out (show Below v1.heap.size v1 _ by first | exact (Below.refl _ _).drew | exact below_draws _ _ _ | exact Below.refl _ _)
          refine (join_ra y x w4.heap.size wr.heap.size _ (HY4.out.below hbv) (HX4.out.below (hbv.mono HS4.out)) hbv.size (Nat.le_trans HS4.out hbv.size) ?hs (MP.out.um y (by rw [HMM.out]; simp)) MP.out.ux).mono ?_
          case hs => have h1 := MP.out.tt; have h2 := tot_mem (L := M) (x := y) (by rw [HMM.out]; simp); omega
          rintro e v5 ⟨z,rfl,hz,hcz⟩
          unfold RA.v Ro.val
          have b5' := next hbv hcz.below
          obtain ⟨⟨_,_,_,_,_,_,_,_⟩,_,_,_,_,_,_,_,_⟩ := HALL4.out _ b5'
          have hcl := HCV.out.on b5'
          have HSZ := hid (Safe.of_cur (next HCUR.out.below (next HB4.out hbv)) hcz)
          obtain ⟨g6,e6,_,_,_,hfz⟩ := hcl.row HUL.out
          cases e6
          have f0 := hfz (u * 8)
          have f1 := hfz (u * 8 + 1)
          have f2 := hfz (u * 8 + 2)
          have f3 := hfz (u * 8 + 3)
          have f4 := hfz (u * 8 + 4)
          have f5 := hfz (u * 8 + 5)
          have f6 := hfz (u * 8 + 6)
          have f7 := hfz (u * 8 + 7)
          have HCL := hid hcl
          have HZE := hid hz
          clear hcl hfz hz hcz hbv))
      all_goals
       have hput := HCL.out.put HUL.out z HSZ.out
       generalize hw6 : (World.setCell (World.setCell (World.setCell (World.setCell (World.setCell (World.setCell (World.setCell (World.setCell v5 ⟨g5,u * 8,none⟩ (.string z.ro.key)) ⟨g5,u * 8 + 1,none⟩ (.string z.ro.live.s)) ⟨g5,u * 8 + 2,none⟩ (.bool z.ro.live.d)) ⟨g5,u * 8 + 3,none⟩ (.int .i64 z.ro.live.a)) ⟨g5,u * 8 + 4,none⟩ (.int .i64 z.ro.live.e)) ⟨g5,u * 8 + 5,none⟩ (.int .i64 z.ro.gone)) ⟨g5,u * 8 + 6,none⟩ (.int .i64 z.ro.shade)) ⟨g5,u * 8 + 7,none⟩ (.slice z.A z.ro.cols.length z.c)) = w6 at hput ⊢
       have HPUT := hid (MP.out.put HMM.out HN2.out HZE.out (by rw [HU.out]; exact hput))
       clear hput f0 f1 f2 f3 f4 f5 f6 f7 b5' hw6
       go_wp2
       go_roundw
       case rel => exact ⟨_,_,_,_,_,_,_,_,_,rfl,rfl,HPUT.out⟩
       case measure => simp [lenS]; omega
     ·have t0 : (tcmp y.ro.key x.ro.key == 0) = false := by rw [beq_eq_false_iff_ne]; exact fun h => hn (tcmp_zero.1 h)
      have hp : pushK Ro.key Ro.join (ros M) x.ro = ros M ++ [x.ro] := by rw [HMM.out,show ros (L ++ [y]) = ros L ++ [y.ro] by simp [ros],pushK_last]; exact if_neg hn
      have HP := hid hp
      have s1 := S1.out
      have s2 := S2.out
      clear hp hn
      go_wp2_with fail
      refine wp_region_held_drew (S := fun w' => Below w4.heap.size w4 w') (by kernel_rfl) ?_ (fun hHeld => ?_)
      ·exact (Below.refl _ _).drew
      refine takesH [0,1,2,3,4,5,6,7,8] ?_
      repeat
       refine takesH_one (v := ?_) ?_ ?_
       rotate_left
       ·first | (refine Or.inr ⟨by rfl,?_⟩; with_reducible rfl) | (refine Or.inl ⟨by rfl,?_⟩; intro wx hSw; (try dsimp only at hSw); first | (go_simp; first | done | with_reducible rfl) | (obtain ⟨⟨_,_,_,_,_,_,_,_⟩,_,_,_,_,_,_,_,_⟩ := HALL4.out _ hSw; go_simp; first | done | with_reducible rfl))
       try simp only [Act.put,zq1,zq2,zq3,zq4,zq5,zq6]
      refine takesH_nil ?_
      refine wpAnyH_ready (rs := [9]) (by kernel_rfl) (by simp) (AllReadyH.cons rfl (fun K hK => ?_) AllReadyH.nil)
      go_simp
      refine (bykey_ra y x _).mono ?_
      rintro e v1 ⟨rfl,b1⟩
      try go_wp2_with fail
      refine hK.out _ _ ?_ (fun hHeld => ?_)
      ·exact next (by assumption) b1
      clear hK K
      try simp only [Act.put,zq1,zq2,zq3,zq4,zq5,zq6]
      refine takesH [10,11] ?_
      repeat
       refine takesH_one (v := ?_) ?_ ?_
       rotate_left
       ·first | (refine Or.inr ⟨by rfl,?_⟩; with_reducible rfl) | (refine Or.inl ⟨by rfl,?_⟩; intro wx hSw; (try dsimp only at hSw); first | (go_simp; first | done | with_reducible rfl))
       try simp only [Act.put,zq1,zq2,zq3,zq4,zq5,zq6]
      refine takesH_nil ?_
      refine wpAnyH_done (by kernel_rfl) ?_ _
      have hl8 := hHeld
      obtain ⟨⟨_,_,_,_,_,_,_,_⟩,_,_,_,_,_,_,_,_⟩ := HALL4.out _ hHeld
      clear s1 s2
      have hcw := (HCV.out.on hl8).on ((Below.refl _ _).alloc (Nat.le_refl _) (.cells #[.string x.ro.key,.string x.ro.live.s,.bool x.ro.live.d,.int .i64 x.ro.live.a,.int .i64 x.ro.live.e,.int .i64 x.ro.gone,.int .i64 x.ro.shade,.slice x.A x.ro.cols.length x.c] 45))
      have hk1 := RdR.laid v1 x
      have hsx : Safe w (v1) x := Or.inl XIN0.out
      have HCW := hid hcw; have HK1 := hid hk1; have HSX := hid (hsx.on ((Below.refl _ _).alloc (Nat.le_refl _) (.cells #[.string x.ro.key,.string x.ro.live.s,.bool x.ro.live.d,.int .i64 x.ro.live.a,.int .i64 x.ro.live.e,.int .i64 x.ro.gone,.int .i64 x.ro.shade,.slice x.A x.ro.cols.length x.c] 45)))
      clear hcw hk1 hl8 hsx
      go_wp2_with (at_builtin; refine list_ex rfl (.tmp 78) (.tmp 80) _ _ rfl (.slice (some ⟨g5,0,none⟩) m c0) (.slice (some ⟨(v1).heap.size,0,none⟩) 1 1) rfl rfl (run_appR w.heap.size (HM.out ▸ HCW.out.cur.own) HK1.out ?s1 ?s2) ?_)
      case s1 => have h9 := HM.out; have h8 := MP.out.sum; (try simp at h9); (try simp); omega
      case s2 => simpa using HCW.out.below.size
      intro v3 w3 ho3 hg3 hloc3
      obtain ⟨A3,m3,c3,rfl,hm3,hc3⟩ := HCW.out.app (k := [x]) (fun y hy => by rw [List.mem_singleton.1 hy]; exact HSX.out) ho3 hg3
      have HC3 := hid (MP.out.app HP.out hc3)
      clear hc3 ho3 hg3 hloc3
      go_wp2
      go_roundw
      case rel => exact ⟨_,_,_,_,_,_,_,_,_,rfl,rfl,HC3.out⟩
      case measure => simp [lenS]; omega
   ·have hpos2 : 0 < n2 := by omega
    have q1 : ((n2 : Int) == 0) = false := by rw [beq_eq_false_iff_ne]; omega
    have q2 : (n2 == 0) = false := by rw [beq_eq_false_iff_ne]; omega
    have d0 : decide ((0 : Int) < (n1 : Int) + (n2 : Int)) = true := by simp; omega
    have d1 : decide (0 < n1 + n2) = true := by simp; omega
    obtain ⟨q,lb',rfl⟩ : ∃ y lb',lb = y :: lb' := by
     match lb,L2.out with
     | [],h => simp at h; omega
     | y :: lb',_ => exact ⟨y,lb',rfl⟩
    obtain ⟨A2',hsl2,hlb'⟩ := HMS.out.b.tail
    have hqin := HMS.out.b.held q (List.mem_cons_self ..)
    obtain ⟨g2,o2,rfl,hgB2⟩ := HMS.out.b.rd.ex hpos2
    have hc02 := (HMS.out.b.below (HCUR.out.below.mono HBB'.out)).head
    have hgw2 : g2 < wr.heap.size := by have := HWS.out; have := HBB'.out; omega
    have i2 : (0 : Int) < n2 := by omega
    by_cases e1 : n1 = 0
    ·have hla : la = [] := List.eq_nil_of_length_eq_zero (by rw [L1.out]; exact e1)
     have hrun2 : runK Ro.key Ro.join (pushK Ro.key Ro.join (ros M) q.ro) (ros la) (ros lb') = R := by have := HMS.out.run; rw [hla] at this ⊢; rw [<- this]; exact (runK_b _ _ _).symm
     obtain ⟨x,hx⟩ : ∃ x,x = q := ⟨_,rfl⟩
     rw [<- hx] at hrun2 hc02 hqin
     have MP := hid ((hx ▸ HMS.out : MSt w wr B B' R A1 _ n1 n2 c1 c2 la (x :: lb') M _).takeB A2' hlb' hrun2)
     have XIN0 : Hid (RaIn w w.heap.size x) := hid (hqin.up HBB'.out)
     have XIN : Hid (RaIn wr wr.heap.size x) := hid ((hqin.below (HCUR.out.below.mono HBB'.out)).up (Nat.le_trans HBB'.out HWS.out))
     have hall : ∀ w',Below U.heap.size U w' -> RowAt w' g2 o2 x := fun w' hb => hc02.below (HAL.out.trans (hb.mono (by have := HUS.out; omega))) hgw2
     have HALLW := hid (fun w' (hb2 : Below wr.heap.size wr w') => hc02.below hb2 hgw2)
     have HALL := hid hall
     have j1 : decide ((0 : Int) < (n1 : Int)) = false := by simp; omega
     have j2 : decide (0 < n1) = false := by simp; omega
     have w1 := W1_.out
     have w2 := W2_.out
     clear hla hrun2 hlb' hc02 hall e1 e2 hqin hx
     go_wp2_with fail
     rw [<- hU]
     clear hU
     refine wp_region_held_drew (S := fun w' => Below U.heap.size U w') (by kernel_rfl) ?_ (fun hHeld => ?_)
     ·exact (Below.refl _ _).drew
     refine takesH [0,1,2,3,4,5,6,7,8,9,10,11,12,13,14,15,16,17,18] ?_
     repeat
      refine takesH_one (v := ?_) ?_ ?_
      rotate_left
      ·first | (refine Or.inr ⟨by rfl,?_⟩; with_reducible rfl) | (refine Or.inl ⟨by rfl,?_⟩; intro wx hSw; (try dsimp only at hSw); first | (go_simp; first | done | with_reducible rfl))
      try simp only [Act.put,zq1,zq2,zq3,zq4,zq5,zq6]
     refine takesH_nil ?_
     refine wpAnyH_done (by kernel_rfl) ?_ _
     clear w1 w2
     have hlow : Below U.heap.size U U := (Below.refl _ _)
     obtain ⟨_,_,_,_,_,_,_,_⟩ := HALL.out _ hlow
     have hq := (hlow.block wr.heap.size (by have := HUS.out; omega)).trans HZ.out
     have z0 := cell_at (i := 0) hq rfl
     have z1 := cell_at (i := 1) hq rfl
     have z2 := cell_at (i := 2) hq rfl
     have z3 := cell_at (i := 3) hq rfl
     have z4 := cell_at (i := 4) hq rfl
     have z5 := cell_at (i := 5) hq rfl
     have z6 := cell_at (i := 6) hq rfl
     have z7 := cell_at (i := 7) hq rfl
     have y0 := thawed_at (i := 0) hq
     have y1 := thawed_at (i := 1) hq
     have y2 := thawed_at (i := 2) hq
     have y3 := thawed_at (i := 3) hq
     have y4 := thawed_at (i := 4) hq
     have y5 := thawed_at (i := 5) hq
     have y6 := thawed_at (i := 6) hq
     have y7 := thawed_at (i := 7) hq
     have HQ4_ := hid (set8_block hq x)
     have HB4_ := hid (below_set80 (HAL.out.trans (hlow.mono (by have := HUS.out; omega))) (Nat.le_refl wr.heap.size) x)
     clear hq
     have HLOW := hid (HAL.out.trans (hlow.mono (by have := HUS.out; omega)))
     go_wp2_with fail
     refine wp_region_held_drew (S := fun w' => Below wr.heap.size wr w') (by kernel_rfl) ?_ (fun hHeld => ?_)
     ·exact HLOW.out.drew.drew
     refine takesH [0,1,2,3,4] ?_
     repeat
      refine takesH_one (v := ?_) ?_ ?_
      rotate_left
      ·first | (refine Or.inr ⟨by rfl,?_⟩; with_reducible rfl) | (refine Or.inl ⟨by rfl,?_⟩; intro wx hSw; (try dsimp only at hSw); first | (go_simp; first | done | with_reducible rfl) | (obtain ⟨_,_,_,_,_,_,_,_⟩ := HALLW.out _ hSw; go_simp; first | done | with_reducible rfl))
      try simp only [Act.put,zq1,zq2,zq3,zq4,zq5,zq6]
     refine takesH_nil ?_
     refine wpAnyH_ready (rs := [5]) (by kernel_rfl) (by simp) (AllReadyH.cons rfl (fun K hK => ?_) AllReadyH.nil)
     go_simp
     refine hK.out _ _ ?_ (fun hHeld => ?_)
     ·exact HB4_.out.drew.drew
     clear hK K
     try simp only [Act.put,zq1,zq2,zq3,zq4,zq5,zq6]
     refine takesH [6] ?_
     repeat
      refine takesH_one (v := ?_) ?_ ?_
      rotate_left
      ·first | (refine Or.inr ⟨by rfl,?_⟩; with_reducible rfl) | (refine Or.inl ⟨by rfl,?_⟩; intro wx hSw; (try dsimp only at hSw); first | (go_simp; first | done | with_reducible rfl))
      try simp only [Act.put,zq1,zq2,zq3,zq4,zq5,zq6]
     refine takesH_nil ?_
     refine wpAnyH_done (by kernel_rfl) ?_ _
     obtain ⟨w4,hw4⟩ : ∃ w4,w4 = ((World.setCell (World.setCell (World.setCell (World.setCell (World.setCell (World.setCell (World.setCell (World.setCell (U) ⟨wr.heap.size,0,none⟩ (.string x.ro.key)) ⟨wr.heap.size,1,none⟩ (.string x.ro.live.s)) ⟨wr.heap.size,2,none⟩ (.bool x.ro.live.d)) ⟨wr.heap.size,3,none⟩ (.int .i64 x.ro.live.a)) ⟨wr.heap.size,4,none⟩ (.int .i64 x.ro.live.e)) ⟨wr.heap.size,5,none⟩ (.int .i64 x.ro.gone)) ⟨wr.heap.size,6,none⟩ (.int .i64 x.ro.shade)) ⟨wr.heap.size,7,none⟩ (.slice x.A x.ro.cols.length x.c))).drew.drew := ⟨_,rfl⟩
     rw [<- hw4]
     have HQ4 : Hid (w4.heap[wr.heap.size]? = some (.cells #[.string x.ro.key,.string x.ro.live.s,.bool x.ro.live.d,.int .i64 x.ro.live.a,.int .i64 x.ro.live.e,.int .i64 x.ro.gone,.int .i64 x.ro.shade,.slice x.A x.ro.cols.length x.c] 45)) := hid (by rw [hw4]; simp only [heap_drew]; exact HQ4_.out)
     have HB4 : Hid (Below wr.heap.size wr w4) := hid (by rw [hw4]; exact HB4_.out.drew.drew)
     clear hw4 HQ4_ HB4_ z0 z1 z2 z3 z4 z5 z6 z7 y0 y1 y2 y3 y4 y5 y6 y7
     have HCV := hid (HCUR.out.on HB4.out)
     have HS4 := hid HB4.out.size
     have HX4 := hid (XIN.out.below HB4.out)
     rcases List.eq_nil_or_concat M with hM | ⟨L,y,hM⟩
     ·have hp : pushK Ro.key Ro.join (ros M) x.ro = ros M ++ [x.ro] := by rw [hM]; rfl
      have hm0 : m = 0 := by rw [<- HM.out,hM]; rfl
      have S1 := hid (show IntKind.i64.wrap ((m : Int) - 1) = -1 by rw [IntKind.wrap_i64]; omega)
      have S2 := hid (show wrap64 ((m : Int) - 1) = -1 by unfold wrap64; omega)
      have HP := hid hp
      have hall4 : ∀ w',Below w4.heap.size w4 w' -> BlkAt w' wr.heap.size x := fun w' hb => BlkAt.of ((hb.block wr.heap.size (Array.getElem?_eq_some_iff.1 HQ4.out).1).trans HQ4.out)
      have HALL4 := hid hall4
      have s1 := S1.out
      have s2 := S2.out
      clear hm0 hM hp hall4
      go_wp2_with fail
      refine wp_region_held_drew (S := fun w' => Below w4.heap.size w4 w') (by kernel_rfl) ?_ (fun hHeld => ?_)
      ·exact (Below.refl _ _).drew
      refine takesH [0,1,2,3,4,5,6,7,8,9,10,11] ?_
      repeat
       refine takesH_one (v := ?_) ?_ ?_
       rotate_left
       ·first | (refine Or.inr ⟨by rfl,?_⟩; with_reducible rfl) | (refine Or.inl ⟨by rfl,?_⟩; intro wx hSw; (try dsimp only at hSw); first | (go_simp; first | done | with_reducible rfl))
       try simp only [Act.put,zq1,zq2,zq3,zq4,zq5,zq6]
      refine takesH_nil ?_
      refine wpAnyH_done (by kernel_rfl) ?_ _
      have hl8 : Below w4.heap.size w4 w4.drew := (Below.refl _ _).drew
      generalize w4.drew = w8 at hl8 ⊢
      obtain ⟨_,_,_,_,_,_,_,_⟩ := HALL4.out _ hl8
      clear s1 s2
      have hcw := (HCV.out.on hl8).on ((Below.refl _ _).alloc (Nat.le_refl _) (.cells #[.string x.ro.key,.string x.ro.live.s,.bool x.ro.live.d,.int .i64 x.ro.live.a,.int .i64 x.ro.live.e,.int .i64 x.ro.gone,.int .i64 x.ro.shade,.slice x.A x.ro.cols.length x.c] 45))
      have hk1 := RdR.laid w8 x
      have hsx : Safe w (w8) x := Or.inl XIN0.out
      have HCW := hid hcw; have HK1 := hid hk1; have HSX := hid (hsx.on ((Below.refl _ _).alloc (Nat.le_refl _) (.cells #[.string x.ro.key,.string x.ro.live.s,.bool x.ro.live.d,.int .i64 x.ro.live.a,.int .i64 x.ro.live.e,.int .i64 x.ro.gone,.int .i64 x.ro.shade,.slice x.A x.ro.cols.length x.c] 45)))
      clear hcw hk1 hl8 hsx
      go_wp2_with (at_builtin; refine list_ex rfl (.tmp 78) (.tmp 80) _ _ rfl (.slice A0 m c0) (.slice (some ⟨(w8).heap.size,0,none⟩) 1 1) rfl rfl (run_appR w.heap.size (HM.out ▸ HCW.out.cur.own) HK1.out ?s1 ?s2) ?_)
      case s1 => have h9 := HM.out; have h8 := MP.out.sum; (try simp at h9); (try simp); omega
      case s2 => simpa using HCW.out.below.size
      intro v3 w3 ho3 hg3 hloc3
      obtain ⟨A3,m3,c3,rfl,hm3,hc3⟩ := HCW.out.app (k := [x]) (fun y hy => by rw [List.mem_singleton.1 hy]; exact HSX.out) ho3 hg3
      have HC3 := hid (MP.out.app HP.out hc3)
      clear hc3 ho3 hg3 hloc3
      go_wp2
      go_roundw
      case rel => exact ⟨_,_,_,_,_,_,_,_,_,rfl,rfl,HC3.out⟩
      case measure => simp [lenS]; omega
     ·rw [List.concat_eq_append] at hM
      have HMM := hid hM
      clear hM
      obtain ⟨u,hu⟩ : ∃ u,L.length = u := ⟨_,rfl⟩
      have hm1 : m = u + 1 := by rw [<- HM.out,HMM.out,<- hu]; simp
      have hul : u < M.length := by have := HM.out; omega
      have hMu : M[u] = y := by simp [HMM.out,<- hu]
      have S1 := hid (show IntKind.i64.wrap ((m : Int) - 1) = (u : Int) by rw [IntKind.wrap_i64]; omega)
      have S2 := hid (show wrap64 ((m : Int) - 1) = (u : Int) by unfold wrap64; omega)
      obtain ⟨g5,rfl,hg5,hg5',hy5,hf5⟩ := HCV.out.row hul
      rw [hMu] at hy5
      have hall4 : ∀ w',Below w4.heap.size w4 w' -> RowAt w' g5 (u * 8) y /\ BlkAt w' wr.heap.size x := fun w' hb =>
       ⟨hy5.below hb hg5',BlkAt.of ((hb.block wr.heap.size (Array.getElem?_eq_some_iff.1 HQ4.out).1).trans HQ4.out)⟩
      have HALL4 := hid hall4
      have hysafe := HCV.out.safe y (by rw [HMM.out]; simp)
      have HY4 := hid (hysafe.ra HCV.out.below)
      have i5 : (u : Int) < m := by omega
      have i6 : (0 : Int) <= u := by omega
      have i7 : decide ((0 : Int) <= (u : Int)) = true := by simp
      have HU := hid hu; have HM1 := hid hm1; have HUL := hid hul
      clear hall4 hu hm1 hy5 hf5 hul hMu hysafe
      by_cases hn : y.ro.key = x.ro.key
      ·have t0 : (tcmp y.ro.key x.ro.key == 0) = true := by rw [beq_iff_eq]; exact tcmp_zero.2 hn
       have HN2 := hid hn
       have s1 := S1.out
       have s2 := S2.out
       clear hn
       go_wp2_with fail
       refine wp_region_held_drew (S := fun w' => Below w4.heap.size w4 w') (by kernel_rfl) ?_ (fun hHeld => ?_)
       ·exact (Below.refl _ _).drew
       refine takesH [0,1,2,3,4,5,6,7,8] ?_
       repeat
        refine takesH_one (v := ?_) ?_ ?_
        rotate_left
        ·first | (refine Or.inr ⟨by rfl,?_⟩; with_reducible rfl) | (refine Or.inl ⟨by rfl,?_⟩; intro wx hSw; (try dsimp only at hSw); first | (go_simp; first | done | with_reducible rfl) | (obtain ⟨⟨_,_,_,_,_,_,_,_⟩,_,_,_,_,_,_,_,_⟩ := HALL4.out _ hSw; go_simp; first | done | with_reducible rfl))
        try simp only [Act.put,zq1,zq2,zq3,zq4,zq5,zq6]
       refine takesH_nil ?_
       refine wpAnyH_ready (rs := [9]) (by kernel_rfl) (by simp) (AllReadyH.cons rfl (fun K hK => ?_) AllReadyH.nil)
       go_simp
       refine (bykey_ra y x _).mono ?_
       rintro e v1 ⟨rfl,b1⟩
       try go_wp2_with fail
       refine hK.out _ _ ?_ (fun hHeld => ?_)
       ·exact next (by assumption) b1
       clear hK K
       try simp only [Act.put,zq1,zq2,zq3,zq4,zq5,zq6]
       refine takesH [10,11] ?_
       repeat
        refine takesH_one (v := ?_) ?_ ?_
        rotate_left
        ·first | (refine Or.inr ⟨by rfl,?_⟩; with_reducible rfl) | (refine Or.inl ⟨by rfl,?_⟩; intro wx hSw; (try dsimp only at hSw); first | (go_simp; first | done | with_reducible rfl))
        try simp only [Act.put,zq1,zq2,zq3,zq4,zq5,zq6]
       refine takesH_nil ?_
       refine wpAnyH_done (by kernel_rfl) ?_ _
       obtain ⟨⟨_,_,_,_,_,_,_,_⟩,_,_,_,_,_,_,_,_⟩ := HALL4.out _ hHeld
       clear s1 s2
       have HH := hid hHeld
       clear hHeld
       go_wp2_with fail
       go_region_with (first
        | (go_at_call 173
           have hbv := next (w := w4) HH.out (show Below v1.heap.size v1 _ by first | exact (Below.refl _ _).drew | exact below_draws _ _ _ | exact Below.refl _ _)
           refine (join_ra y x w4.heap.size wr.heap.size _ (HY4.out.below hbv) (HX4.out.below (hbv.mono HS4.out)) hbv.size (Nat.le_trans HS4.out hbv.size) ?hs (MP.out.um y (by rw [HMM.out]; simp)) MP.out.ux).mono ?_
           case hs => have h1 := MP.out.tt; have h2 := tot_mem (L := M) (x := y) (by rw [HMM.out]; simp); omega
           rintro e v5 ⟨z,rfl,hz,hcz⟩
           unfold RA.v Ro.val
           have b5' := next hbv hcz.below
           obtain ⟨⟨_,_,_,_,_,_,_,_⟩,_,_,_,_,_,_,_,_⟩ := HALL4.out _ b5'
           have hcl := HCV.out.on b5'
           have HSZ := hid (Safe.of_cur (next HCUR.out.below (next HB4.out hbv)) hcz)
           obtain ⟨g6,e6,_,_,_,hfz⟩ := hcl.row HUL.out
           cases e6
           have f0 := hfz (u * 8)
           have f1 := hfz (u * 8 + 1)
           have f2 := hfz (u * 8 + 2)
           have f3 := hfz (u * 8 + 3)
           have f4 := hfz (u * 8 + 4)
           have f5 := hfz (u * 8 + 5)
           have f6 := hfz (u * 8 + 6)
           have f7 := hfz (u * 8 + 7)
           have HCL := hid hcl
           have HZE := hid hz
           clear hcl hfz hz hcz hbv))
       all_goals
        have hput := HCL.out.put HUL.out z HSZ.out
        generalize hw6 : (World.setCell (World.setCell (World.setCell (World.setCell (World.setCell (World.setCell (World.setCell (World.setCell v5 ⟨g5,u * 8,none⟩ (.string z.ro.key)) ⟨g5,u * 8 + 1,none⟩ (.string z.ro.live.s)) ⟨g5,u * 8 + 2,none⟩ (.bool z.ro.live.d)) ⟨g5,u * 8 + 3,none⟩ (.int .i64 z.ro.live.a)) ⟨g5,u * 8 + 4,none⟩ (.int .i64 z.ro.live.e)) ⟨g5,u * 8 + 5,none⟩ (.int .i64 z.ro.gone)) ⟨g5,u * 8 + 6,none⟩ (.int .i64 z.ro.shade)) ⟨g5,u * 8 + 7,none⟩ (.slice z.A z.ro.cols.length z.c)) = w6 at hput ⊢
        have HPUT := hid (MP.out.put HMM.out HN2.out HZE.out (by rw [HU.out]; exact hput))
        clear hput f0 f1 f2 f3 f4 f5 f6 f7 b5' hw6
        go_wp2
        go_roundw
        case rel => exact ⟨_,_,_,_,_,_,_,_,_,rfl,rfl,HPUT.out⟩
        case measure => simp [lenS]; omega
      ·have t0 : (tcmp y.ro.key x.ro.key == 0) = false := by rw [beq_eq_false_iff_ne]; exact fun h => hn (tcmp_zero.1 h)
       have hp : pushK Ro.key Ro.join (ros M) x.ro = ros M ++ [x.ro] := by rw [HMM.out,show ros (L ++ [y]) = ros L ++ [y.ro] by simp [ros],pushK_last]; exact if_neg hn
       have HP := hid hp
       have s1 := S1.out
       have s2 := S2.out
       clear hp hn
       go_wp2_with fail
       refine wp_region_held_drew (S := fun w' => Below w4.heap.size w4 w') (by kernel_rfl) ?_ (fun hHeld => ?_)
       ·exact (Below.refl _ _).drew
       refine takesH [0,1,2,3,4,5,6,7,8] ?_
       repeat
        refine takesH_one (v := ?_) ?_ ?_
        rotate_left
        ·first | (refine Or.inr ⟨by rfl,?_⟩; with_reducible rfl) | (refine Or.inl ⟨by rfl,?_⟩; intro wx hSw; (try dsimp only at hSw); first | (go_simp; first | done | with_reducible rfl) | (obtain ⟨⟨_,_,_,_,_,_,_,_⟩,_,_,_,_,_,_,_,_⟩ := HALL4.out _ hSw; go_simp; first | done | with_reducible rfl))
        try simp only [Act.put,zq1,zq2,zq3,zq4,zq5,zq6]
       refine takesH_nil ?_
       refine wpAnyH_ready (rs := [9]) (by kernel_rfl) (by simp) (AllReadyH.cons rfl (fun K hK => ?_) AllReadyH.nil)
       go_simp
       refine (bykey_ra y x _).mono ?_
       rintro e v1 ⟨rfl,b1⟩
       try go_wp2_with fail
       refine hK.out _ _ ?_ (fun hHeld => ?_)
       ·exact next (by assumption) b1
       clear hK K
       try simp only [Act.put,zq1,zq2,zq3,zq4,zq5,zq6]
       refine takesH [10,11] ?_
       repeat
        refine takesH_one (v := ?_) ?_ ?_
        rotate_left
        ·first | (refine Or.inr ⟨by rfl,?_⟩; with_reducible rfl) | (refine Or.inl ⟨by rfl,?_⟩; intro wx hSw; (try dsimp only at hSw); first | (go_simp; first | done | with_reducible rfl))
        try simp only [Act.put,zq1,zq2,zq3,zq4,zq5,zq6]
       refine takesH_nil ?_
       refine wpAnyH_done (by kernel_rfl) ?_ _
       have hl8 := hHeld
       obtain ⟨⟨_,_,_,_,_,_,_,_⟩,_,_,_,_,_,_,_,_⟩ := HALL4.out _ hHeld
       clear s1 s2
       have hcw := (HCV.out.on hl8).on ((Below.refl _ _).alloc (Nat.le_refl _) (.cells #[.string x.ro.key,.string x.ro.live.s,.bool x.ro.live.d,.int .i64 x.ro.live.a,.int .i64 x.ro.live.e,.int .i64 x.ro.gone,.int .i64 x.ro.shade,.slice x.A x.ro.cols.length x.c] 45))
       have hk1 := RdR.laid v1 x
       have hsx : Safe w (v1) x := Or.inl XIN0.out
       have HCW := hid hcw; have HK1 := hid hk1; have HSX := hid (hsx.on ((Below.refl _ _).alloc (Nat.le_refl _) (.cells #[.string x.ro.key,.string x.ro.live.s,.bool x.ro.live.d,.int .i64 x.ro.live.a,.int .i64 x.ro.live.e,.int .i64 x.ro.gone,.int .i64 x.ro.shade,.slice x.A x.ro.cols.length x.c] 45)))
       clear hcw hk1 hl8 hsx
       go_wp2_with (at_builtin; refine list_ex rfl (.tmp 78) (.tmp 80) _ _ rfl (.slice (some ⟨g5,0,none⟩) m c0) (.slice (some ⟨(v1).heap.size,0,none⟩) 1 1) rfl rfl (run_appR w.heap.size (HM.out ▸ HCW.out.cur.own) HK1.out ?s1 ?s2) ?_)
       case s1 => have h9 := HM.out; have h8 := MP.out.sum; (try simp at h9); (try simp); omega
       case s2 => simpa using HCW.out.below.size
       intro v3 w3 ho3 hg3 hloc3
       obtain ⟨A3,m3,c3,rfl,hm3,hc3⟩ := HCW.out.app (k := [x]) (fun y hy => by rw [List.mem_singleton.1 hy]; exact HSX.out) ho3 hg3
       have HC3 := hid (MP.out.app HP.out hc3)
       clear hc3 ho3 hg3 hloc3
       go_wp2
       go_roundw
       case rel => exact ⟨_,_,_,_,_,_,_,_,_,rfl,rfl,HC3.out⟩
       case measure => simp [lenS]; omega
    ·have hpos1 : 0 < n1 := by omega
     obtain ⟨p,la',rfl⟩ : ∃ x la',la = x :: la' := by
      match la,L1.out with
      | [],h => simp at h; omega
      | x :: la',_ => exact ⟨x,la',rfl⟩
     obtain ⟨A1',hsl1,hla'⟩ := HMS.out.a.tail
     have hpin := HMS.out.a.held p (List.mem_cons_self ..)
     obtain ⟨g1,o1,rfl,hgB1⟩ := HMS.out.a.rd.ex hpos1
     have hc01 := (HMS.out.a.below (HCUR.out.below.mono HBB.out)).head
     have hgw1 : g1 < wr.heap.size := by have := HWS.out; have := HBB.out; omega
     have i1 : (0 : Int) < n1 := by omega
     have j1 : decide ((0 : Int) < (n1 : Int)) = true := by simp; omega
     have j2 : decide (0 < n1) = true := by simp; omega
     by_cases hyx : nlt q.ro.key p.ro.key
     ·have hrun2 : runK Ro.key Ro.join (pushK Ro.key Ro.join (ros M) q.ro) (ros (p :: la')) (ros lb') = R := by rw [<- HMS.out.run]; exact (runK_ba _ _ _ _ _ hyx).symm
      have t1 : decide (tcmp p.ro.key q.ro.key <= 0) = false := decide_eq_false fun h => tcmp_le.1 h hyx
      obtain ⟨x,hx⟩ : ∃ x,x = q := ⟨_,rfl⟩
      rw [<- hx] at hrun2 hc02 hqin t1
      have MP := hid ((hx ▸ HMS.out : MSt w wr B B' R _ _ n1 n2 c1 c2 (p :: la') (x :: lb') M _).takeB A2' hlb' hrun2)
      have XIN0 : Hid (RaIn w w.heap.size x) := hid (hqin.up HBB'.out)
      have XIN : Hid (RaIn wr wr.heap.size x) := hid ((hqin.below (HCUR.out.below.mono HBB'.out)).up (Nat.le_trans HBB'.out HWS.out))
      clear hrun2 hla' hlb' hqin hpin hx
      have hall2 : ∀ w',Below U.heap.size U w' -> RowAt w' g1 o1 p /\ RowAt w' g2 o2 x := fun w' hb => by
       have hb2 : Below wr.heap.size wr w' := HAL.out.trans (hb.mono (by have := HUS.out; omega))
       exact ⟨hc01.below hb2 hgw1,hc02.below hb2 hgw2⟩
      have HALL2 := hid hall2
      have HALLW2 := hid (fun w' (hb2 : Below wr.heap.size wr w') => And.intro (hc01.below hb2 hgw1) (hc02.below hb2 hgw2))
      have w1 := W1_.out
      have w2 := W2_.out
      clear hc01 hc02 hall2 e1 e2 hyx
      go_wp2_with fail
      rw [<- hU]
      clear hU
      have HALL := hid (fun w' hb => (HALL2.out w' hb).2)
      have HALLW := hid (fun w' hb => (HALLW2.out w' hb).2)
      refine wp_region_held_drew (S := fun w' => Below U.heap.size U w') (by kernel_rfl) ?_ (fun hHeld => ?_)
      ·exact (Below.refl _ _).drew
      refine takesH [0,1,2,3,4,5,6,7,8,9,10,11,12,13,14] ?_
      repeat
       refine takesH_one (v := ?_) ?_ ?_
       rotate_left
       ·first | (refine Or.inr ⟨by rfl,?_⟩; with_reducible rfl) | (refine Or.inl ⟨by rfl,?_⟩; intro wx hSw; (try dsimp only at hSw); first | (go_simp; first | done | with_reducible rfl) | (obtain ⟨⟨_,_,_,_,_,_,_,_⟩,_,_,_,_,_,_,_,_⟩ := HALL2.out _ hSw; go_simp; first | done | with_reducible rfl))
       try simp only [Act.put,zq1,zq2,zq3,zq4,zq5,zq6]
      refine takesH_nil ?_
      refine wpAnyH_ready (rs := [15]) (by kernel_rfl) (by simp) (AllReadyH.cons rfl (fun K hK => ?_) AllReadyH.nil)
      go_simp
      refine (bykey_ra _ _ _).mono ?_
      rintro e v1 ⟨rfl,b1⟩
      try go_wp2_with fail
      refine hK.out _ _ ?_ (fun hHeld => ?_)
      ·exact next (by assumption) b1
      clear hK K
      try simp only [Act.put,zq1,zq2,zq3,zq4,zq5,zq6]
      refine takesH [16,17,18] ?_
      repeat
       refine takesH_one (v := ?_) ?_ ?_
       rotate_left
       ·first | (refine Or.inr ⟨by rfl,?_⟩; with_reducible rfl) | (refine Or.inl ⟨by rfl,?_⟩; intro wx hSw; (try dsimp only at hSw); first | (go_simp; first | done | with_reducible rfl))
       try simp only [Act.put,zq1,zq2,zq3,zq4,zq5,zq6]
      refine takesH_nil ?_
      refine wpAnyH_done (by kernel_rfl) ?_ _
      clear t1
      clear w1 w2
      have hlow : Below U.heap.size U v1 := hHeld
      obtain ⟨_,_,_,_,_,_,_,_⟩ := HALL.out _ hlow
      have hq := (hlow.block wr.heap.size (by have := HUS.out; omega)).trans HZ.out
      have z0 := cell_at (i := 0) hq rfl
      have z1 := cell_at (i := 1) hq rfl
      have z2 := cell_at (i := 2) hq rfl
      have z3 := cell_at (i := 3) hq rfl
      have z4 := cell_at (i := 4) hq rfl
      have z5 := cell_at (i := 5) hq rfl
      have z6 := cell_at (i := 6) hq rfl
      have z7 := cell_at (i := 7) hq rfl
      have y0 := thawed_at (i := 0) hq
      have y1 := thawed_at (i := 1) hq
      have y2 := thawed_at (i := 2) hq
      have y3 := thawed_at (i := 3) hq
      have y4 := thawed_at (i := 4) hq
      have y5 := thawed_at (i := 5) hq
      have y6 := thawed_at (i := 6) hq
      have y7 := thawed_at (i := 7) hq
      have HQ4_ := hid (set8_block hq x)
      have HB4_ := hid (below_set80 (HAL.out.trans (hlow.mono (by have := HUS.out; omega))) (Nat.le_refl wr.heap.size) x)
      clear hq
      have HLOW := hid (HAL.out.trans (hlow.mono (by have := HUS.out; omega)))
      go_wp2_with fail
      refine wp_region_held_drew (S := fun w' => Below wr.heap.size wr w') (by kernel_rfl) ?_ (fun hHeld => ?_)
      ·exact HLOW.out.drew
      refine takesH [0,1,2,3,4] ?_
      repeat
       refine takesH_one (v := ?_) ?_ ?_
       rotate_left
       ·first | (refine Or.inr ⟨by rfl,?_⟩; with_reducible rfl) | (refine Or.inl ⟨by rfl,?_⟩; intro wx hSw; (try dsimp only at hSw); first | (go_simp; first | done | with_reducible rfl) | (obtain ⟨_,_,_,_,_,_,_,_⟩ := HALLW.out _ hSw; go_simp; first | done | with_reducible rfl))
       try simp only [Act.put,zq1,zq2,zq3,zq4,zq5,zq6]
      refine takesH_nil ?_
      refine wpAnyH_ready (rs := [5]) (by kernel_rfl) (by simp) (AllReadyH.cons rfl (fun K hK => ?_) AllReadyH.nil)
      go_simp
      refine hK.out _ _ ?_ (fun hHeld => ?_)
      ·exact HB4_.out.drew
      clear hK K
      try simp only [Act.put,zq1,zq2,zq3,zq4,zq5,zq6]
      refine takesH [6] ?_
      repeat
       refine takesH_one (v := ?_) ?_ ?_
       rotate_left
       ·first | (refine Or.inr ⟨by rfl,?_⟩; with_reducible rfl) | (refine Or.inl ⟨by rfl,?_⟩; intro wx hSw; (try dsimp only at hSw); first | (go_simp; first | done | with_reducible rfl))
       try simp only [Act.put,zq1,zq2,zq3,zq4,zq5,zq6]
      refine takesH_nil ?_
      refine wpAnyH_done (by kernel_rfl) ?_ _
      obtain ⟨w4,hw4⟩ : ∃ w4,w4 = ((World.setCell (World.setCell (World.setCell (World.setCell (World.setCell (World.setCell (World.setCell (World.setCell (v1) ⟨wr.heap.size,0,none⟩ (.string x.ro.key)) ⟨wr.heap.size,1,none⟩ (.string x.ro.live.s)) ⟨wr.heap.size,2,none⟩ (.bool x.ro.live.d)) ⟨wr.heap.size,3,none⟩ (.int .i64 x.ro.live.a)) ⟨wr.heap.size,4,none⟩ (.int .i64 x.ro.live.e)) ⟨wr.heap.size,5,none⟩ (.int .i64 x.ro.gone)) ⟨wr.heap.size,6,none⟩ (.int .i64 x.ro.shade)) ⟨wr.heap.size,7,none⟩ (.slice x.A x.ro.cols.length x.c))).drew  := ⟨_,rfl⟩
      rw [<- hw4]
      have HQ4 : Hid (w4.heap[wr.heap.size]? = some (.cells #[.string x.ro.key,.string x.ro.live.s,.bool x.ro.live.d,.int .i64 x.ro.live.a,.int .i64 x.ro.live.e,.int .i64 x.ro.gone,.int .i64 x.ro.shade,.slice x.A x.ro.cols.length x.c] 45)) := hid (by rw [hw4]; simp only [heap_drew]; exact HQ4_.out)
      have HB4 : Hid (Below wr.heap.size wr w4) := hid (by rw [hw4]; exact HB4_.out.drew )
      clear hw4 HQ4_ HB4_ z0 z1 z2 z3 z4 z5 z6 z7 y0 y1 y2 y3 y4 y5 y6 y7
      have HCV := hid (HCUR.out.on HB4.out)
      have HS4 := hid HB4.out.size
      have HX4 := hid (XIN.out.below HB4.out)
      rcases List.eq_nil_or_concat M with hM | ⟨L,y,hM⟩
      ·have hp : pushK Ro.key Ro.join (ros M) x.ro = ros M ++ [x.ro] := by rw [hM]; rfl
       have hm0 : m = 0 := by rw [<- HM.out,hM]; rfl
       have S1 := hid (show IntKind.i64.wrap ((m : Int) - 1) = -1 by rw [IntKind.wrap_i64]; omega)
       have S2 := hid (show wrap64 ((m : Int) - 1) = -1 by unfold wrap64; omega)
       have HP := hid hp
       have hall4 : ∀ w',Below w4.heap.size w4 w' -> BlkAt w' wr.heap.size x := fun w' hb => BlkAt.of ((hb.block wr.heap.size (Array.getElem?_eq_some_iff.1 HQ4.out).1).trans HQ4.out)
       have HALL4 := hid hall4
       have s1 := S1.out
       have s2 := S2.out
       clear hm0 hM hp hall4
       go_wp2_with fail
       refine wp_region_held_drew (S := fun w' => Below w4.heap.size w4 w') (by kernel_rfl) ?_ (fun hHeld => ?_)
       ·exact (Below.refl _ _).drew
       refine takesH [0,1,2,3,4,5,6,7,8,9,10,11] ?_
       repeat
        refine takesH_one (v := ?_) ?_ ?_
        rotate_left
        ·first | (refine Or.inr ⟨by rfl,?_⟩; with_reducible rfl) | (refine Or.inl ⟨by rfl,?_⟩; intro wx hSw; (try dsimp only at hSw); first | (go_simp; first | done | with_reducible rfl))
        try simp only [Act.put,zq1,zq2,zq3,zq4,zq5,zq6]
       refine takesH_nil ?_
       refine wpAnyH_done (by kernel_rfl) ?_ _
       have hl8 : Below w4.heap.size w4 w4.drew := (Below.refl _ _).drew
       generalize w4.drew = w8 at hl8 ⊢
       obtain ⟨_,_,_,_,_,_,_,_⟩ := HALL4.out _ hl8
       clear s1 s2
       have hcw := (HCV.out.on hl8).on ((Below.refl _ _).alloc (Nat.le_refl _) (.cells #[.string x.ro.key,.string x.ro.live.s,.bool x.ro.live.d,.int .i64 x.ro.live.a,.int .i64 x.ro.live.e,.int .i64 x.ro.gone,.int .i64 x.ro.shade,.slice x.A x.ro.cols.length x.c] 45))
       have hk1 := RdR.laid w8 x
       have hsx : Safe w (w8) x := Or.inl XIN0.out
       have HCW := hid hcw; have HK1 := hid hk1; have HSX := hid (hsx.on ((Below.refl _ _).alloc (Nat.le_refl _) (.cells #[.string x.ro.key,.string x.ro.live.s,.bool x.ro.live.d,.int .i64 x.ro.live.a,.int .i64 x.ro.live.e,.int .i64 x.ro.gone,.int .i64 x.ro.shade,.slice x.A x.ro.cols.length x.c] 45)))
       clear hcw hk1 hl8 hsx
       go_wp2_with (at_builtin; refine list_ex rfl (.tmp 78) (.tmp 80) _ _ rfl (.slice A0 m c0) (.slice (some ⟨(w8).heap.size,0,none⟩) 1 1) rfl rfl (run_appR w.heap.size (HM.out ▸ HCW.out.cur.own) HK1.out ?s1 ?s2) ?_)
       case s1 => have h9 := HM.out; have h8 := MP.out.sum; (try simp at h9); (try simp); omega
       case s2 => simpa using HCW.out.below.size
       intro v3 w3 ho3 hg3 hloc3
       obtain ⟨A3,m3,c3,rfl,hm3,hc3⟩ := HCW.out.app (k := [x]) (fun y hy => by rw [List.mem_singleton.1 hy]; exact HSX.out) ho3 hg3
       have HC3 := hid (MP.out.app HP.out hc3)
       clear hc3 ho3 hg3 hloc3
       go_wp2
       go_roundw
       case rel => exact ⟨_,_,_,_,_,_,_,_,_,rfl,rfl,HC3.out⟩
       case measure => simp [lenS]; omega
      ·rw [List.concat_eq_append] at hM
       have HMM := hid hM
       clear hM
       obtain ⟨u,hu⟩ : ∃ u,L.length = u := ⟨_,rfl⟩
       have hm1 : m = u + 1 := by rw [<- HM.out,HMM.out,<- hu]; simp
       have hul : u < M.length := by have := HM.out; omega
       have hMu : M[u] = y := by simp [HMM.out,<- hu]
       have S1 := hid (show IntKind.i64.wrap ((m : Int) - 1) = (u : Int) by rw [IntKind.wrap_i64]; omega)
       have S2 := hid (show wrap64 ((m : Int) - 1) = (u : Int) by unfold wrap64; omega)
       obtain ⟨g5,rfl,hg5,hg5',hy5,hf5⟩ := HCV.out.row hul
       rw [hMu] at hy5
       have hall4 : ∀ w',Below w4.heap.size w4 w' -> RowAt w' g5 (u * 8) y /\ BlkAt w' wr.heap.size x := fun w' hb =>
        ⟨hy5.below hb hg5',BlkAt.of ((hb.block wr.heap.size (Array.getElem?_eq_some_iff.1 HQ4.out).1).trans HQ4.out)⟩
       have HALL4 := hid hall4
       have hysafe := HCV.out.safe y (by rw [HMM.out]; simp)
       have HY4 := hid (hysafe.ra HCV.out.below)
       have i5 : (u : Int) < m := by omega
       have i6 : (0 : Int) <= u := by omega
       have i7 : decide ((0 : Int) <= (u : Int)) = true := by simp
       have HU := hid hu; have HM1 := hid hm1; have HUL := hid hul
       clear hall4 hu hm1 hy5 hf5 hul hMu hysafe
       by_cases hn : y.ro.key = x.ro.key
       ·have t0 : (tcmp y.ro.key x.ro.key == 0) = true := by rw [beq_iff_eq]; exact tcmp_zero.2 hn
        have HN2 := hid hn
        have s1 := S1.out
        have s2 := S2.out
        clear hn
        go_wp2_with fail
        refine wp_region_held_drew (S := fun w' => Below w4.heap.size w4 w') (by kernel_rfl) ?_ (fun hHeld => ?_)
        ·exact (Below.refl _ _).drew
        refine takesH [0,1,2,3,4,5,6,7,8] ?_
        repeat
         refine takesH_one (v := ?_) ?_ ?_
         rotate_left
         ·first | (refine Or.inr ⟨by rfl,?_⟩; with_reducible rfl) | (refine Or.inl ⟨by rfl,?_⟩; intro wx hSw; (try dsimp only at hSw); first | (go_simp; first | done | with_reducible rfl) | (obtain ⟨⟨_,_,_,_,_,_,_,_⟩,_,_,_,_,_,_,_,_⟩ := HALL4.out _ hSw; go_simp; first | done | with_reducible rfl))
         try simp only [Act.put,zq1,zq2,zq3,zq4,zq5,zq6]
        refine takesH_nil ?_
        refine wpAnyH_ready (rs := [9]) (by kernel_rfl) (by simp) (AllReadyH.cons rfl (fun K hK => ?_) AllReadyH.nil)
        go_simp
        refine (bykey_ra y x _).mono ?_
        rintro e v1 ⟨rfl,b1⟩
        try go_wp2_with fail
        refine hK.out _ _ ?_ (fun hHeld => ?_)
        ·exact next (by assumption) b1
        clear hK K
        try simp only [Act.put,zq1,zq2,zq3,zq4,zq5,zq6]
        refine takesH [10,11] ?_
        repeat
         refine takesH_one (v := ?_) ?_ ?_
         rotate_left
         ·first | (refine Or.inr ⟨by rfl,?_⟩; with_reducible rfl) | (refine Or.inl ⟨by rfl,?_⟩; intro wx hSw; (try dsimp only at hSw); first | (go_simp; first | done | with_reducible rfl))
         try simp only [Act.put,zq1,zq2,zq3,zq4,zq5,zq6]
        refine takesH_nil ?_
        refine wpAnyH_done (by kernel_rfl) ?_ _
        obtain ⟨⟨_,_,_,_,_,_,_,_⟩,_,_,_,_,_,_,_,_⟩ := HALL4.out _ hHeld
        clear s1 s2
        have HH := hid hHeld
        clear hHeld
        go_wp2_with fail
        go_region_with (first
         | (go_at_call 173
            have hbv := next (w := w4) HH.out (show Below v1.heap.size v1 _ by first | exact (Below.refl _ _).drew | exact below_draws _ _ _ | exact Below.refl _ _)
            refine (join_ra y x w4.heap.size wr.heap.size _ (HY4.out.below hbv) (HX4.out.below (hbv.mono HS4.out)) hbv.size (Nat.le_trans HS4.out hbv.size) ?hs (MP.out.um y (by rw [HMM.out]; simp)) MP.out.ux).mono ?_
            case hs => have h1 := MP.out.tt; have h2 := tot_mem (L := M) (x := y) (by rw [HMM.out]; simp); omega
            rintro e v5 ⟨z,rfl,hz,hcz⟩
            unfold RA.v Ro.val
            have b5' := next hbv hcz.below
            obtain ⟨⟨_,_,_,_,_,_,_,_⟩,_,_,_,_,_,_,_,_⟩ := HALL4.out _ b5'
            have hcl := HCV.out.on b5'
            have HSZ := hid (Safe.of_cur (next HCUR.out.below (next HB4.out hbv)) hcz)
            obtain ⟨g6,e6,_,_,_,hfz⟩ := hcl.row HUL.out
            cases e6
            have f0 := hfz (u * 8)
            have f1 := hfz (u * 8 + 1)
            have f2 := hfz (u * 8 + 2)
            have f3 := hfz (u * 8 + 3)
            have f4 := hfz (u * 8 + 4)
            have f5 := hfz (u * 8 + 5)
            have f6 := hfz (u * 8 + 6)
            have f7 := hfz (u * 8 + 7)
            have HCL := hid hcl
            have HZE := hid hz
            clear hcl hfz hz hcz hbv))
        all_goals
         have hput := HCL.out.put HUL.out z HSZ.out
         generalize hw6 : (World.setCell (World.setCell (World.setCell (World.setCell (World.setCell (World.setCell (World.setCell (World.setCell v5 ⟨g5,u * 8,none⟩ (.string z.ro.key)) ⟨g5,u * 8 + 1,none⟩ (.string z.ro.live.s)) ⟨g5,u * 8 + 2,none⟩ (.bool z.ro.live.d)) ⟨g5,u * 8 + 3,none⟩ (.int .i64 z.ro.live.a)) ⟨g5,u * 8 + 4,none⟩ (.int .i64 z.ro.live.e)) ⟨g5,u * 8 + 5,none⟩ (.int .i64 z.ro.gone)) ⟨g5,u * 8 + 6,none⟩ (.int .i64 z.ro.shade)) ⟨g5,u * 8 + 7,none⟩ (.slice z.A z.ro.cols.length z.c)) = w6 at hput ⊢
         have HPUT := hid (MP.out.put HMM.out HN2.out HZE.out (by rw [HU.out]; exact hput))
         clear hput f0 f1 f2 f3 f4 f5 f6 f7 b5' hw6
         go_wp2
         go_roundw
         case rel => exact ⟨_,_,_,_,_,_,_,_,_,rfl,rfl,HPUT.out⟩
         case measure => simp [lenS]; omega
       ·have t0 : (tcmp y.ro.key x.ro.key == 0) = false := by rw [beq_eq_false_iff_ne]; exact fun h => hn (tcmp_zero.1 h)
        have hp : pushK Ro.key Ro.join (ros M) x.ro = ros M ++ [x.ro] := by rw [HMM.out,show ros (L ++ [y]) = ros L ++ [y.ro] by simp [ros],pushK_last]; exact if_neg hn
        have HP := hid hp
        have s1 := S1.out
        have s2 := S2.out
        clear hp hn
        go_wp2_with fail
        refine wp_region_held_drew (S := fun w' => Below w4.heap.size w4 w') (by kernel_rfl) ?_ (fun hHeld => ?_)
        ·exact (Below.refl _ _).drew
        refine takesH [0,1,2,3,4,5,6,7,8] ?_
        repeat
         refine takesH_one (v := ?_) ?_ ?_
         rotate_left
         ·first | (refine Or.inr ⟨by rfl,?_⟩; with_reducible rfl) | (refine Or.inl ⟨by rfl,?_⟩; intro wx hSw; (try dsimp only at hSw); first | (go_simp; first | done | with_reducible rfl) | (obtain ⟨⟨_,_,_,_,_,_,_,_⟩,_,_,_,_,_,_,_,_⟩ := HALL4.out _ hSw; go_simp; first | done | with_reducible rfl))
         try simp only [Act.put,zq1,zq2,zq3,zq4,zq5,zq6]
        refine takesH_nil ?_
        refine wpAnyH_ready (rs := [9]) (by kernel_rfl) (by simp) (AllReadyH.cons rfl (fun K hK => ?_) AllReadyH.nil)
        go_simp
        refine (bykey_ra y x _).mono ?_
        rintro e v1 ⟨rfl,b1⟩
        try go_wp2_with fail
        refine hK.out _ _ ?_ (fun hHeld => ?_)
        ·exact next (by assumption) b1
        clear hK K
        try simp only [Act.put,zq1,zq2,zq3,zq4,zq5,zq6]
        refine takesH [10,11] ?_
        repeat
         refine takesH_one (v := ?_) ?_ ?_
         rotate_left
         ·first | (refine Or.inr ⟨by rfl,?_⟩; with_reducible rfl) | (refine Or.inl ⟨by rfl,?_⟩; intro wx hSw; (try dsimp only at hSw); first | (go_simp; first | done | with_reducible rfl))
         try simp only [Act.put,zq1,zq2,zq3,zq4,zq5,zq6]
        refine takesH_nil ?_
        refine wpAnyH_done (by kernel_rfl) ?_ _
        have hl8 := hHeld
        obtain ⟨⟨_,_,_,_,_,_,_,_⟩,_,_,_,_,_,_,_,_⟩ := HALL4.out _ hHeld
        clear s1 s2
        have hcw := (HCV.out.on hl8).on ((Below.refl _ _).alloc (Nat.le_refl _) (.cells #[.string x.ro.key,.string x.ro.live.s,.bool x.ro.live.d,.int .i64 x.ro.live.a,.int .i64 x.ro.live.e,.int .i64 x.ro.gone,.int .i64 x.ro.shade,.slice x.A x.ro.cols.length x.c] 45))
        have hk1 := RdR.laid v1 x
        have hsx : Safe w (v1) x := Or.inl XIN0.out
        have HCW := hid hcw; have HK1 := hid hk1; have HSX := hid (hsx.on ((Below.refl _ _).alloc (Nat.le_refl _) (.cells #[.string x.ro.key,.string x.ro.live.s,.bool x.ro.live.d,.int .i64 x.ro.live.a,.int .i64 x.ro.live.e,.int .i64 x.ro.gone,.int .i64 x.ro.shade,.slice x.A x.ro.cols.length x.c] 45)))
        clear hcw hk1 hl8 hsx
        go_wp2_with (at_builtin; refine list_ex rfl (.tmp 78) (.tmp 80) _ _ rfl (.slice (some ⟨g5,0,none⟩) m c0) (.slice (some ⟨(v1).heap.size,0,none⟩) 1 1) rfl rfl (run_appR w.heap.size (HM.out ▸ HCW.out.cur.own) HK1.out ?s1 ?s2) ?_)
        case s1 => have h9 := HM.out; have h8 := MP.out.sum; (try simp at h9); (try simp); omega
        case s2 => simpa using HCW.out.below.size
        intro v3 w3 ho3 hg3 hloc3
        obtain ⟨A3,m3,c3,rfl,hm3,hc3⟩ := HCW.out.app (k := [x]) (fun y hy => by rw [List.mem_singleton.1 hy]; exact HSX.out) ho3 hg3
        have HC3 := hid (MP.out.app HP.out hc3)
        clear hc3 ho3 hg3 hloc3
        go_wp2
        go_roundw
        case rel => exact ⟨_,_,_,_,_,_,_,_,_,rfl,rfl,HC3.out⟩
        case measure => simp [lenS]; omega
     ·have hrun2 : runK Ro.key Ro.join (pushK Ro.key Ro.join (ros M) p.ro) (ros la') (ros (q :: lb')) = R := by rw [<- HMS.out.run]; exact (runK_ab _ _ _ _ _ hyx).symm
      have t1 : decide (tcmp p.ro.key q.ro.key <= 0) = true := decide_eq_true (tcmp_le.2 hyx)
      obtain ⟨x,hx⟩ : ∃ x,x = p := ⟨_,rfl⟩
      rw [<- hx] at hrun2 hc01 hpin t1
      have MP := hid ((hx ▸ HMS.out : MSt w wr B B' R _ _ n1 n2 c1 c2 (x :: la') (q :: lb') M _).takeA A1' hla' hrun2)
      have XIN0 : Hid (RaIn w w.heap.size x) := hid (hpin.up HBB.out)
      have XIN : Hid (RaIn wr wr.heap.size x) := hid ((hpin.below (HCUR.out.below.mono HBB.out)).up (Nat.le_trans HBB.out HWS.out))
      clear hrun2 hla' hlb' hqin hpin hx
      have hall2 : ∀ w',Below U.heap.size U w' -> RowAt w' g1 o1 x /\ RowAt w' g2 o2 q := fun w' hb => by
       have hb2 : Below wr.heap.size wr w' := HAL.out.trans (hb.mono (by have := HUS.out; omega))
       exact ⟨hc01.below hb2 hgw1,hc02.below hb2 hgw2⟩
      have HALL2 := hid hall2
      have HALLW2 := hid (fun w' (hb2 : Below wr.heap.size wr w') => And.intro (hc01.below hb2 hgw1) (hc02.below hb2 hgw2))
      have w1 := W1_.out
      have w2 := W2_.out
      clear hc01 hc02 hall2 e1 e2 hyx
      go_wp2_with fail
      rw [<- hU]
      clear hU
      have HALL := hid (fun w' hb => (HALL2.out w' hb).1)
      have HALLW := hid (fun w' hb => (HALLW2.out w' hb).1)
      refine wp_region_held_drew (S := fun w' => Below U.heap.size U w') (by kernel_rfl) ?_ (fun hHeld => ?_)
      ·exact (Below.refl _ _).drew
      refine takesH [0,1,2,3,4,5,6,7,8,9,10,11,12,13,14] ?_
      repeat
       refine takesH_one (v := ?_) ?_ ?_
       rotate_left
       ·first | (refine Or.inr ⟨by rfl,?_⟩; with_reducible rfl) | (refine Or.inl ⟨by rfl,?_⟩; intro wx hSw; (try dsimp only at hSw); first | (go_simp; first | done | with_reducible rfl) | (obtain ⟨⟨_,_,_,_,_,_,_,_⟩,_,_,_,_,_,_,_,_⟩ := HALL2.out _ hSw; go_simp; first | done | with_reducible rfl))
       try simp only [Act.put,zq1,zq2,zq3,zq4,zq5,zq6]
      refine takesH_nil ?_
      refine wpAnyH_ready (rs := [15]) (by kernel_rfl) (by simp) (AllReadyH.cons rfl (fun K hK => ?_) AllReadyH.nil)
      go_simp
      refine (bykey_ra _ _ _).mono ?_
      rintro e v1 ⟨rfl,b1⟩
      try go_wp2_with fail
      refine hK.out _ _ ?_ (fun hHeld => ?_)
      ·exact next (by assumption) b1
      clear hK K
      try simp only [Act.put,zq1,zq2,zq3,zq4,zq5,zq6]
      refine takesH [16,17,18] ?_
      repeat
       refine takesH_one (v := ?_) ?_ ?_
       rotate_left
       ·first | (refine Or.inr ⟨by rfl,?_⟩; with_reducible rfl) | (refine Or.inl ⟨by rfl,?_⟩; intro wx hSw; (try dsimp only at hSw); first | (go_simp; first | done | with_reducible rfl))
       try simp only [Act.put,zq1,zq2,zq3,zq4,zq5,zq6]
      refine takesH_nil ?_
      refine wpAnyH_done (by kernel_rfl) ?_ _
      clear t1
      clear w1 w2
      have hlow : Below U.heap.size U v1 := hHeld
      obtain ⟨_,_,_,_,_,_,_,_⟩ := HALL.out _ hlow
      have hq := (hlow.block wr.heap.size (by have := HUS.out; omega)).trans HZ.out
      have z0 := cell_at (i := 0) hq rfl
      have z1 := cell_at (i := 1) hq rfl
      have z2 := cell_at (i := 2) hq rfl
      have z3 := cell_at (i := 3) hq rfl
      have z4 := cell_at (i := 4) hq rfl
      have z5 := cell_at (i := 5) hq rfl
      have z6 := cell_at (i := 6) hq rfl
      have z7 := cell_at (i := 7) hq rfl
      have y0 := thawed_at (i := 0) hq
      have y1 := thawed_at (i := 1) hq
      have y2 := thawed_at (i := 2) hq
      have y3 := thawed_at (i := 3) hq
      have y4 := thawed_at (i := 4) hq
      have y5 := thawed_at (i := 5) hq
      have y6 := thawed_at (i := 6) hq
      have y7 := thawed_at (i := 7) hq
      have HQ4_ := hid (set8_block hq x)
      have HB4_ := hid (below_set80 (HAL.out.trans (hlow.mono (by have := HUS.out; omega))) (Nat.le_refl wr.heap.size) x)
      clear hq
      have HLOW := hid (HAL.out.trans (hlow.mono (by have := HUS.out; omega)))
      go_wp2_with fail
      refine wp_region_held_drew (S := fun w' => Below wr.heap.size wr w') (by kernel_rfl) ?_ (fun hHeld => ?_)
      ·exact HLOW.out.drew
      refine takesH [0,1,2,3,4] ?_
      repeat
       refine takesH_one (v := ?_) ?_ ?_
       rotate_left
       ·first | (refine Or.inr ⟨by rfl,?_⟩; with_reducible rfl) | (refine Or.inl ⟨by rfl,?_⟩; intro wx hSw; (try dsimp only at hSw); first | (go_simp; first | done | with_reducible rfl) | (obtain ⟨_,_,_,_,_,_,_,_⟩ := HALLW.out _ hSw; go_simp; first | done | with_reducible rfl))
       try simp only [Act.put,zq1,zq2,zq3,zq4,zq5,zq6]
      refine takesH_nil ?_
      refine wpAnyH_ready (rs := [5]) (by kernel_rfl) (by simp) (AllReadyH.cons rfl (fun K hK => ?_) AllReadyH.nil)
      go_simp
      refine hK.out _ _ ?_ (fun hHeld => ?_)
      ·exact HB4_.out.drew
      clear hK K
      try simp only [Act.put,zq1,zq2,zq3,zq4,zq5,zq6]
      refine takesH [6] ?_
      repeat
       refine takesH_one (v := ?_) ?_ ?_
       rotate_left
       ·first | (refine Or.inr ⟨by rfl,?_⟩; with_reducible rfl) | (refine Or.inl ⟨by rfl,?_⟩; intro wx hSw; (try dsimp only at hSw); first | (go_simp; first | done | with_reducible rfl))
       try simp only [Act.put,zq1,zq2,zq3,zq4,zq5,zq6]
      refine takesH_nil ?_
      refine wpAnyH_done (by kernel_rfl) ?_ _
      obtain ⟨w4,hw4⟩ : ∃ w4,w4 = ((World.setCell (World.setCell (World.setCell (World.setCell (World.setCell (World.setCell (World.setCell (World.setCell (v1) ⟨wr.heap.size,0,none⟩ (.string x.ro.key)) ⟨wr.heap.size,1,none⟩ (.string x.ro.live.s)) ⟨wr.heap.size,2,none⟩ (.bool x.ro.live.d)) ⟨wr.heap.size,3,none⟩ (.int .i64 x.ro.live.a)) ⟨wr.heap.size,4,none⟩ (.int .i64 x.ro.live.e)) ⟨wr.heap.size,5,none⟩ (.int .i64 x.ro.gone)) ⟨wr.heap.size,6,none⟩ (.int .i64 x.ro.shade)) ⟨wr.heap.size,7,none⟩ (.slice x.A x.ro.cols.length x.c))).drew  := ⟨_,rfl⟩
      rw [<- hw4]
      have HQ4 : Hid (w4.heap[wr.heap.size]? = some (.cells #[.string x.ro.key,.string x.ro.live.s,.bool x.ro.live.d,.int .i64 x.ro.live.a,.int .i64 x.ro.live.e,.int .i64 x.ro.gone,.int .i64 x.ro.shade,.slice x.A x.ro.cols.length x.c] 45)) := hid (by rw [hw4]; simp only [heap_drew]; exact HQ4_.out)
      have HB4 : Hid (Below wr.heap.size wr w4) := hid (by rw [hw4]; exact HB4_.out.drew )
      clear hw4 HQ4_ HB4_ z0 z1 z2 z3 z4 z5 z6 z7 y0 y1 y2 y3 y4 y5 y6 y7
      have HCV := hid (HCUR.out.on HB4.out)
      have HS4 := hid HB4.out.size
      have HX4 := hid (XIN.out.below HB4.out)
      rcases List.eq_nil_or_concat M with hM | ⟨L,y,hM⟩
      ·have hp : pushK Ro.key Ro.join (ros M) x.ro = ros M ++ [x.ro] := by rw [hM]; rfl
       have hm0 : m = 0 := by rw [<- HM.out,hM]; rfl
       have S1 := hid (show IntKind.i64.wrap ((m : Int) - 1) = -1 by rw [IntKind.wrap_i64]; omega)
       have S2 := hid (show wrap64 ((m : Int) - 1) = -1 by unfold wrap64; omega)
       have HP := hid hp
       have hall4 : ∀ w',Below w4.heap.size w4 w' -> BlkAt w' wr.heap.size x := fun w' hb => BlkAt.of ((hb.block wr.heap.size (Array.getElem?_eq_some_iff.1 HQ4.out).1).trans HQ4.out)
       have HALL4 := hid hall4
       have s1 := S1.out
       have s2 := S2.out
       clear hm0 hM hp hall4
       go_wp2_with fail
       refine wp_region_held_drew (S := fun w' => Below w4.heap.size w4 w') (by kernel_rfl) ?_ (fun hHeld => ?_)
       ·exact (Below.refl _ _).drew
       refine takesH [0,1,2,3,4,5,6,7,8,9,10,11] ?_
       repeat
        refine takesH_one (v := ?_) ?_ ?_
        rotate_left
        ·first | (refine Or.inr ⟨by rfl,?_⟩; with_reducible rfl) | (refine Or.inl ⟨by rfl,?_⟩; intro wx hSw; (try dsimp only at hSw); first | (go_simp; first | done | with_reducible rfl))
        try simp only [Act.put,zq1,zq2,zq3,zq4,zq5,zq6]
       refine takesH_nil ?_
       refine wpAnyH_done (by kernel_rfl) ?_ _
       have hl8 : Below w4.heap.size w4 w4.drew := (Below.refl _ _).drew
       generalize w4.drew = w8 at hl8 ⊢
       obtain ⟨_,_,_,_,_,_,_,_⟩ := HALL4.out _ hl8
       clear s1 s2
       have hcw := (HCV.out.on hl8).on ((Below.refl _ _).alloc (Nat.le_refl _) (.cells #[.string x.ro.key,.string x.ro.live.s,.bool x.ro.live.d,.int .i64 x.ro.live.a,.int .i64 x.ro.live.e,.int .i64 x.ro.gone,.int .i64 x.ro.shade,.slice x.A x.ro.cols.length x.c] 45))
       have hk1 := RdR.laid w8 x
       have hsx : Safe w (w8) x := Or.inl XIN0.out
       have HCW := hid hcw; have HK1 := hid hk1; have HSX := hid (hsx.on ((Below.refl _ _).alloc (Nat.le_refl _) (.cells #[.string x.ro.key,.string x.ro.live.s,.bool x.ro.live.d,.int .i64 x.ro.live.a,.int .i64 x.ro.live.e,.int .i64 x.ro.gone,.int .i64 x.ro.shade,.slice x.A x.ro.cols.length x.c] 45)))
       clear hcw hk1 hl8 hsx
       go_wp2_with (at_builtin; refine list_ex rfl (.tmp 78) (.tmp 80) _ _ rfl (.slice A0 m c0) (.slice (some ⟨(w8).heap.size,0,none⟩) 1 1) rfl rfl (run_appR w.heap.size (HM.out ▸ HCW.out.cur.own) HK1.out ?s1 ?s2) ?_)
       case s1 => have h9 := HM.out; have h8 := MP.out.sum; (try simp at h9); (try simp); omega
       case s2 => simpa using HCW.out.below.size
       intro v3 w3 ho3 hg3 hloc3
       obtain ⟨A3,m3,c3,rfl,hm3,hc3⟩ := HCW.out.app (k := [x]) (fun y hy => by rw [List.mem_singleton.1 hy]; exact HSX.out) ho3 hg3
       have HC3 := hid (MP.out.app HP.out hc3)
       clear hc3 ho3 hg3 hloc3
       go_wp2
       go_roundw
       case rel => exact ⟨_,_,_,_,_,_,_,_,_,rfl,rfl,HC3.out⟩
       case measure => simp [lenS]; omega
      ·rw [List.concat_eq_append] at hM
       have HMM := hid hM
       clear hM
       obtain ⟨u,hu⟩ : ∃ u,L.length = u := ⟨_,rfl⟩
       have hm1 : m = u + 1 := by rw [<- HM.out,HMM.out,<- hu]; simp
       have hul : u < M.length := by have := HM.out; omega
       have hMu : M[u] = y := by simp [HMM.out,<- hu]
       have S1 := hid (show IntKind.i64.wrap ((m : Int) - 1) = (u : Int) by rw [IntKind.wrap_i64]; omega)
       have S2 := hid (show wrap64 ((m : Int) - 1) = (u : Int) by unfold wrap64; omega)
       obtain ⟨g5,rfl,hg5,hg5',hy5,hf5⟩ := HCV.out.row hul
       rw [hMu] at hy5
       have hall4 : ∀ w',Below w4.heap.size w4 w' -> RowAt w' g5 (u * 8) y /\ BlkAt w' wr.heap.size x := fun w' hb =>
        ⟨hy5.below hb hg5',BlkAt.of ((hb.block wr.heap.size (Array.getElem?_eq_some_iff.1 HQ4.out).1).trans HQ4.out)⟩
       have HALL4 := hid hall4
       have hysafe := HCV.out.safe y (by rw [HMM.out]; simp)
       have HY4 := hid (hysafe.ra HCV.out.below)
       have i5 : (u : Int) < m := by omega
       have i6 : (0 : Int) <= u := by omega
       have i7 : decide ((0 : Int) <= (u : Int)) = true := by simp
       have HU := hid hu; have HM1 := hid hm1; have HUL := hid hul
       clear hall4 hu hm1 hy5 hf5 hul hMu hysafe
       by_cases hn : y.ro.key = x.ro.key
       ·have t0 : (tcmp y.ro.key x.ro.key == 0) = true := by rw [beq_iff_eq]; exact tcmp_zero.2 hn
        have HN2 := hid hn
        have s1 := S1.out
        have s2 := S2.out
        clear hn
        go_wp2_with fail
        refine wp_region_held_drew (S := fun w' => Below w4.heap.size w4 w') (by kernel_rfl) ?_ (fun hHeld => ?_)
        ·exact (Below.refl _ _).drew
        refine takesH [0,1,2,3,4,5,6,7,8] ?_
        repeat
         refine takesH_one (v := ?_) ?_ ?_
         rotate_left
         ·first | (refine Or.inr ⟨by rfl,?_⟩; with_reducible rfl) | (refine Or.inl ⟨by rfl,?_⟩; intro wx hSw; (try dsimp only at hSw); first | (go_simp; first | done | with_reducible rfl) | (obtain ⟨⟨_,_,_,_,_,_,_,_⟩,_,_,_,_,_,_,_,_⟩ := HALL4.out _ hSw; go_simp; first | done | with_reducible rfl))
         try simp only [Act.put,zq1,zq2,zq3,zq4,zq5,zq6]
        refine takesH_nil ?_
        refine wpAnyH_ready (rs := [9]) (by kernel_rfl) (by simp) (AllReadyH.cons rfl (fun K hK => ?_) AllReadyH.nil)
        go_simp
        refine (bykey_ra y x _).mono ?_
        rintro e v1 ⟨rfl,b1⟩
        try go_wp2_with fail
        refine hK.out _ _ ?_ (fun hHeld => ?_)
        ·exact next (by assumption) b1
        clear hK K
        try simp only [Act.put,zq1,zq2,zq3,zq4,zq5,zq6]
        refine takesH [10,11] ?_
        repeat
         refine takesH_one (v := ?_) ?_ ?_
         rotate_left
         ·first | (refine Or.inr ⟨by rfl,?_⟩; with_reducible rfl) | (refine Or.inl ⟨by rfl,?_⟩; intro wx hSw; (try dsimp only at hSw); first | (go_simp; first | done | with_reducible rfl))
         try simp only [Act.put,zq1,zq2,zq3,zq4,zq5,zq6]
        refine takesH_nil ?_
        refine wpAnyH_done (by kernel_rfl) ?_ _
        obtain ⟨⟨_,_,_,_,_,_,_,_⟩,_,_,_,_,_,_,_,_⟩ := HALL4.out _ hHeld
        clear s1 s2
        have HH := hid hHeld
        clear hHeld
        go_wp2_with fail
        go_region_with (first
         | (go_at_call 173
            have hbv := next (w := w4) HH.out (show Below v1.heap.size v1 _ by first | exact (Below.refl _ _).drew | exact below_draws _ _ _ | exact Below.refl _ _)
            refine (join_ra y x w4.heap.size wr.heap.size _ (HY4.out.below hbv) (HX4.out.below (hbv.mono HS4.out)) hbv.size (Nat.le_trans HS4.out hbv.size) ?hs (MP.out.um y (by rw [HMM.out]; simp)) MP.out.ux).mono ?_
            case hs => have h1 := MP.out.tt; have h2 := tot_mem (L := M) (x := y) (by rw [HMM.out]; simp); omega
            rintro e v5 ⟨z,rfl,hz,hcz⟩
            unfold RA.v Ro.val
            have b5' := next hbv hcz.below
            obtain ⟨⟨_,_,_,_,_,_,_,_⟩,_,_,_,_,_,_,_,_⟩ := HALL4.out _ b5'
            have hcl := HCV.out.on b5'
            have HSZ := hid (Safe.of_cur (next HCUR.out.below (next HB4.out hbv)) hcz)
            obtain ⟨g6,e6,_,_,_,hfz⟩ := hcl.row HUL.out
            cases e6
            have f0 := hfz (u * 8)
            have f1 := hfz (u * 8 + 1)
            have f2 := hfz (u * 8 + 2)
            have f3 := hfz (u * 8 + 3)
            have f4 := hfz (u * 8 + 4)
            have f5 := hfz (u * 8 + 5)
            have f6 := hfz (u * 8 + 6)
            have f7 := hfz (u * 8 + 7)
            have HCL := hid hcl
            have HZE := hid hz
            clear hcl hfz hz hcz hbv))
        all_goals
         have hput := HCL.out.put HUL.out z HSZ.out
         generalize hw6 : (World.setCell (World.setCell (World.setCell (World.setCell (World.setCell (World.setCell (World.setCell (World.setCell v5 ⟨g5,u * 8,none⟩ (.string z.ro.key)) ⟨g5,u * 8 + 1,none⟩ (.string z.ro.live.s)) ⟨g5,u * 8 + 2,none⟩ (.bool z.ro.live.d)) ⟨g5,u * 8 + 3,none⟩ (.int .i64 z.ro.live.a)) ⟨g5,u * 8 + 4,none⟩ (.int .i64 z.ro.live.e)) ⟨g5,u * 8 + 5,none⟩ (.int .i64 z.ro.gone)) ⟨g5,u * 8 + 6,none⟩ (.int .i64 z.ro.shade)) ⟨g5,u * 8 + 7,none⟩ (.slice z.A z.ro.cols.length z.c)) = w6 at hput ⊢
         have HPUT := hid (MP.out.put HMM.out HN2.out HZE.out (by rw [HU.out]; exact hput))
         clear hput f0 f1 f2 f3 f4 f5 f6 f7 b5' hw6
         go_wp2
         go_roundw
         case rel => exact ⟨_,_,_,_,_,_,_,_,_,rfl,rfl,HPUT.out⟩
         case measure => simp [lenS]; omega
       ·have t0 : (tcmp y.ro.key x.ro.key == 0) = false := by rw [beq_eq_false_iff_ne]; exact fun h => hn (tcmp_zero.1 h)
        have hp : pushK Ro.key Ro.join (ros M) x.ro = ros M ++ [x.ro] := by rw [HMM.out,show ros (L ++ [y]) = ros L ++ [y.ro] by simp [ros],pushK_last]; exact if_neg hn
        have HP := hid hp
        have s1 := S1.out
        have s2 := S2.out
        clear hp hn
        go_wp2_with fail
        refine wp_region_held_drew (S := fun w' => Below w4.heap.size w4 w') (by kernel_rfl) ?_ (fun hHeld => ?_)
        ·exact (Below.refl _ _).drew
        refine takesH [0,1,2,3,4,5,6,7,8] ?_
        repeat
         refine takesH_one (v := ?_) ?_ ?_
         rotate_left
         ·first | (refine Or.inr ⟨by rfl,?_⟩; with_reducible rfl) | (refine Or.inl ⟨by rfl,?_⟩; intro wx hSw; (try dsimp only at hSw); first | (go_simp; first | done | with_reducible rfl) | (obtain ⟨⟨_,_,_,_,_,_,_,_⟩,_,_,_,_,_,_,_,_⟩ := HALL4.out _ hSw; go_simp; first | done | with_reducible rfl))
         try simp only [Act.put,zq1,zq2,zq3,zq4,zq5,zq6]
        refine takesH_nil ?_
        refine wpAnyH_ready (rs := [9]) (by kernel_rfl) (by simp) (AllReadyH.cons rfl (fun K hK => ?_) AllReadyH.nil)
        go_simp
        refine (bykey_ra y x _).mono ?_
        rintro e v1 ⟨rfl,b1⟩
        try go_wp2_with fail
        refine hK.out _ _ ?_ (fun hHeld => ?_)
        ·exact next (by assumption) b1
        clear hK K
        try simp only [Act.put,zq1,zq2,zq3,zq4,zq5,zq6]
        refine takesH [10,11] ?_
        repeat
         refine takesH_one (v := ?_) ?_ ?_
         rotate_left
         ·first | (refine Or.inr ⟨by rfl,?_⟩; with_reducible rfl) | (refine Or.inl ⟨by rfl,?_⟩; intro wx hSw; (try dsimp only at hSw); first | (go_simp; first | done | with_reducible rfl))
         try simp only [Act.put,zq1,zq2,zq3,zq4,zq5,zq6]
        refine takesH_nil ?_
        refine wpAnyH_done (by kernel_rfl) ?_ _
        have hl8 := hHeld
        obtain ⟨⟨_,_,_,_,_,_,_,_⟩,_,_,_,_,_,_,_,_⟩ := HALL4.out _ hHeld
        clear s1 s2
        have hcw := (HCV.out.on hl8).on ((Below.refl _ _).alloc (Nat.le_refl _) (.cells #[.string x.ro.key,.string x.ro.live.s,.bool x.ro.live.d,.int .i64 x.ro.live.a,.int .i64 x.ro.live.e,.int .i64 x.ro.gone,.int .i64 x.ro.shade,.slice x.A x.ro.cols.length x.c] 45))
        have hk1 := RdR.laid v1 x
        have hsx : Safe w (v1) x := Or.inl XIN0.out
        have HCW := hid hcw; have HK1 := hid hk1; have HSX := hid (hsx.on ((Below.refl _ _).alloc (Nat.le_refl _) (.cells #[.string x.ro.key,.string x.ro.live.s,.bool x.ro.live.d,.int .i64 x.ro.live.a,.int .i64 x.ro.live.e,.int .i64 x.ro.gone,.int .i64 x.ro.shade,.slice x.A x.ro.cols.length x.c] 45)))
        clear hcw hk1 hl8 hsx
        go_wp2_with (at_builtin; refine list_ex rfl (.tmp 78) (.tmp 80) _ _ rfl (.slice (some ⟨g5,0,none⟩) m c0) (.slice (some ⟨(v1).heap.size,0,none⟩) 1 1) rfl rfl (run_appR w.heap.size (HM.out ▸ HCW.out.cur.own) HK1.out ?s1 ?s2) ?_)
        case s1 => have h9 := HM.out; have h8 := MP.out.sum; (try simp at h9); (try simp); omega
        case s2 => simpa using HCW.out.below.size
        intro v3 w3 ho3 hg3 hloc3
        obtain ⟨A3,m3,c3,rfl,hm3,hc3⟩ := HCW.out.app (k := [x]) (fun y hy => by rw [List.mem_singleton.1 hy]; exact HSX.out) ho3 hg3
        have HC3 := hid (MP.out.app HP.out hc3)
        clear hc3 ho3 hg3 hloc3
        go_wp2
        go_roundw
        case rel => exact ⟨_,_,_,_,_,_,_,_,_,rfl,rfl,HC3.out⟩
        case measure => simp [lenS]; omega
end Go.Proofs.YtmpcnhpdobdmcaaGreatDoor
