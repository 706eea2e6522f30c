/-
  The document's own writing of partitions (chapter 9).
-/
import Derived.Test.YthfanonjokpflaaGreatTkl
import Derived.Test.YthfanonjokpflaaGreatKg2
set_option linter.unusedVariables false
set_option linter.unusedSimpArgs false
namespace Go.Proofs.YthfanonjokpflaaGreat
open Go Go.RowKit

theorem ce_size {c : Ce} (h : c.ok = true) : c.s.size ≤ 100 := by
  unfold Ce.ok at h
  split at h
  · rw [(same_iff _ _).1 h]; simp [ByteArray.size]
  · split at h
    · cases h
    · split at h
      · rw [(same_iff _ _).1 h]; simp [ByteArray.size]
      · simp only [Bool.and_eq_true, decide_eq_true_iff] at h
        exact h.1
structure RowS (r : Ro) : Prop where
  key : r.key.size ≤ 1000
  live : r.live.Gd
  val : r.live.s.size ≤ 1000
  gone : Stm r.gone
  shade : Stm r.shade
  len : r.cols.length ≤ 8
  cols : ∀ x ∈ r.cols, x.1.size ≤ 1000 ∧ x.2.Gd ∧ x.2.s.size ≤ 1000
theorem rowS_of {r : Ro} (h : r.ok = true) : RowS r := by
  have hg := Ro.gd_of h
  have hc := cols_each h
  unfold Ro.ok liveB at h
  simp only [Bool.and_eq_true, decide_eq_true_iff] at h
  refine ⟨by omega, hg.2.1, ?_, hg.2.2.1, hg.2.2.2.1, h.2.2.2.2.1, fun x hx => ?_⟩
  · have := ce_size h.2.1.1; omega
  · have h1 := hc x hx
    unfold colB nameB at h1
    simp only [Bool.and_eq_true, decide_eq_true_iff] at h1
    have := ce_size h1.2.1
    exact ⟨by omega, Ce.gd_of h1.2.1, by omega⟩
theorem drop_ros {L : List RA} {t : Nat} (h : t < L.length) : ros (L.drop t) = L[t].ro :: ros (L.drop (t + 1)) := by rw [List.drop_eq_getElem_cons h]; rfl
set_option maxRecDepth 8000 in
set_option maxHeartbeats 16000000 in
theorem rbytes9 (k : ByteArray) (g : Int) (A : Option Addr) (n c B : Nat) (L : List RA) (w : World) (h : Lies w B A n c L) (hB : B ≤ w.heap.size) (hok : Pa.ok ⟨k, g, ros L⟩ = true) :
    Calls Tryz.prog 28 #[.agg #[.string k, .int .i64 g, .slice A n c]] w fun x w' => x = .returned (.string (bs (pE ⟨k, g, ros L⟩))) ∧ Below w.heap.size w w' := by
  obtain ⟨hk1, hk2, hk3, hk4⟩ := Pa.ok_of hok
  have hgd := Pa.gd_of hok
  have hpl := pa_len hok
  have hl := h.len
  have hrs : ∀ x ∈ L, RowS x.ro := fun x hx => rowS_of (rowsB_each hk4 x.ro (List.mem_map.2 ⟨x, hx, rfl⟩))
  simp only [List.length_map, hl] at hk3
  obtain ⟨P, hP⟩ : ∃ P, pE ⟨k, g, ros L⟩ = P := ⟨_, rfl⟩
  obtain ⟨H1, hH1⟩ : ∃ X, tE k ++ numL g.toNat = X := ⟨_, rfl⟩
  obtain ⟨H2, hH2⟩ : ∃ X, H1 ++ numL n = X := ⟨_, rfl⟩
  have hst : H2 ++ (ros (L.drop 0)).flatMap rE = P := by
    rw [← hP, ← hH2, ← hH1, List.drop_zero]
    unfold pE
    simp only [List.length_map, hl, List.append_assoc]
  rw [hP] at hpl ⊢
  have l2 : H2.length ≤ 246127 := by have := congrArg List.length hst; rw [List.length_append] at this; omega
  have l1 : H1.length ≤ 246127 := by have := congrArg List.length hH2; rw [List.length_append] at this; omega
  have a1 := fun wx => add_bs (a := tE k) (b := numL g.toNat) (c := H1) hH1 (by omega) wx
  have a2 := fun wx => add_bs (a := H1) (b := numL n) (c := H2) hH2 (by omega) wx
  have bz := (Below.refl w.heap.size w).alloc (Nat.le_refl _) (.cells #[.string k, .int .i64 g, .slice A n c] 24)
  have hz0 := heap_alloc_new w (.cells #[.string k, .int .i64 g, .slice A n c] 24)
  obtain ⟨V, hV⟩ : ∃ V, V = w.alloc (.cells #[.string k, .int .i64 g, .slice A n c] 24) := ⟨_, rfl⟩
  have hVs : V.heap.size = w.heap.size + 1 := by rw [hV]; simp
  rw [← hV] at bz hz0
  have hp0 : ∀ w', Below V.heap.size V w' → PtAt w' w.heap.size k g A n c := fun w' hb => PtAt.of ((hb.block w.heap.size (by omega)).trans hz0)
  have HP0 := Lib.hid hp0; have HL := Lib.hid hl; have HH := Lib.hid (h.below (bz.mono hB)); have BZ := Lib.hid bz; have HVS := Lib.hid hVs; have HPL := Lib.hid hpl; have HST := Lib.hid hst; have HRSA := Lib.hid hrs
  have HK : Hid (k.size ≤ 1000000000) := Lib.hid (by simp only at hk1; omega)
  have HG := Lib.hid hgd.2.1; have HN : Hid (n ≤ 1000000000000000) := Lib.hid (by omega)
  have hn1 : n ≤ 1000 := by omega
  clear hk1 hk2 hk3 hk4 hgd hpl hl hrs hP hH1 hH2 hst l1 l2 bz hz0 hVs hp0 h hok
  go_enter Tryz.func28, Tryz.ntmps28
  go_wp2_with fail
  rw [← hV]
  clear hV
  go_wp2_with fail
  refine wp_region_held_drew (S := fun w' => Below V.heap.size V w') (by kernel_rfl) ?_ (fun hHeld => ?_)
  · exact (Below.refl _ _).drew
  refine takesH [0, 1, 3, 4, 7, 8, 9] ?_
  repeat
    refine takesH_one (v := ?_) ?_ ?_
    rotate_left
    · first | (refine Or.inr ⟨by rfl, ?_⟩; with_reducible rfl) | (refine Or.inl ⟨by rfl, ?_⟩; intro wx hSw; (try dsimp only at hSw); first | (go_simp; first | done | with_reducible rfl) | (obtain ⟨_, _, _⟩ := HP0.out _ hSw; go_simp; first | done | with_reducible rfl))
    try simp only [Act.put, List.getElem_toArray, List.getElem_cons_succ, List.getElem_cons_zero, List.setIfInBounds_toArray, List.set_cons_zero, List.set_cons_succ]
  refine takesH_nil ?_
  refine wpAnyH_ready (rs := [2]) (by kernel_rfl) (by simp) (AllReadyH.cons rfl (fun K hK => ?_) AllReadyH.nil)
  go_simp
  refine (rtext9 k _ HK.out).mono ?_
  rintro e' w1 ⟨rfl, b1⟩
  try go_wp2_with fail
  refine hK.out _ _ ?_ (fun hHeld => ?_)
  · exact next hHeld b1
  clear hK K
  try simp only [Act.put, List.getElem_toArray, List.getElem_cons_succ, List.getElem_cons_zero, List.setIfInBounds_toArray, List.set_cons_zero, List.set_cons_succ]
  refine wpAnyH_ready (rs := [5]) (by kernel_rfl) (by simp) (AllReadyH.cons rfl (fun K hK => ?_) AllReadyH.nil)
  go_simp
  refine (rnum9i g _ HG.out).mono ?_
  rintro e' w1 ⟨rfl, b1⟩
  try go_wp2_with fail
  refine hK.out _ _ ?_ (fun hHeld => ?_)
  · exact next hHeld b1
  clear hK K
  try simp only [Act.put, List.getElem_toArray, List.getElem_cons_succ, List.getElem_cons_zero, List.setIfInBounds_toArray, List.set_cons_zero, List.set_cons_succ]
  refine takesH [6] ?_
  repeat
    refine takesH_one (v := ?_) ?_ ?_
    rotate_left
    · first | (refine Or.inr ⟨by rfl, ?_⟩; with_reducible rfl) | (refine Or.inl ⟨by rfl, ?_⟩; intro wx hSw; (try dsimp only at hSw); first | (go_simp; first | done | with_reducible rfl))
    try simp only [Act.put, List.getElem_toArray, List.getElem_cons_succ, List.getElem_cons_zero, List.setIfInBounds_toArray, List.set_cons_zero, List.set_cons_succ]
  refine takesH_nil ?_
  refine wpAnyH_ready (rs := [10]) (by kernel_rfl) (by simp) (AllReadyH.cons rfl (fun K hK => ?_) AllReadyH.nil)
  go_simp
  refine (rnum9 n _ HN.out).mono ?_
  rintro e' w1 ⟨rfl, b1⟩
  try go_wp2_with fail
  refine hK.out _ _ ?_ (fun hHeld => ?_)
  · exact next hHeld b1
  clear hK K
  try simp only [Act.put, List.getElem_toArray, List.getElem_cons_succ, List.getElem_cons_zero, List.setIfInBounds_toArray, List.set_cons_zero, List.set_cons_succ]
  refine takesH [11, 12] ?_
  repeat
    refine takesH_one (v := ?_) ?_ ?_
    rotate_left
    · first | (refine Or.inr ⟨by rfl, ?_⟩; with_reducible rfl) | (refine Or.inl ⟨by rfl, ?_⟩; intro wx hSw; (try dsimp only at hSw); first | (go_simp; first | done | with_reducible rfl))
    try simp only [Act.put, List.getElem_toArray, List.getElem_cons_succ, List.getElem_cons_zero, List.setIfInBounds_toArray, List.set_cons_zero, List.set_cons_succ]
  refine takesH_nil ?_
  refine wpAnyH_done (by kernel_rfl) ?_ _
  clear a1 a2
  have HB0 := Lib.hid hHeld
  clear hHeld
  go_wp2_with fail
  go_loopw [4, 3] (fun i v wr => ∃ (t : Nat) (X : Bs), t ≤ n ∧ i = .int .i64 t ∧ v = .string (bs X) ∧ X ++ (ros (L.drop t)).flatMap rE = P ∧ Below V.heap.size V wr) (fun i _ _ => n - (intOf i).toNat)
  case atStart => exact ⟨0, H2, Nat.zero_le _, rfl, rfl, HST.out, HB0.out⟩
  case round =>
    obtain ⟨t, X, ht, rfl, rfl, hx0, hb⟩ := hrel
    obtain ⟨_, _, _⟩ := HP0.out _ hb
    have HB := Lib.hid hb; have HX0 := Lib.hid hx0
    clear hb hx0
    by_cases hlt : t < n
    · have i1 : (t : Int) < n := by omega
      have i0 : (0 : Int) ≤ t := by omega
      have htl : t < L.length := by rw [HL.out]; exact hlt
      obtain ⟨g0, o0, rfl, hgb⟩ := HH.out.rd.ex (by omega)
      have hlies := HH.out.below (HB.out.mono (show B ≤ V.heap.size by have := HVS.out; omega))
      have hrow := hlies.rd.row htl
      have hin := hlies.held L[t] (List.getElem_mem htl)
      have hrs := HRSA.out L[t] (List.getElem_mem htl)
      have hxx := HX0.out
      rw [drop_ros htl, List.flatMap_cons] at hxx
      obtain ⟨x, hx⟩ : ∃ x, L[t] = x := ⟨_, rfl⟩
      rw [hx] at hrow hin hrs hxx
      obtain ⟨R, hR⟩ : ∃ R, (ros (L.drop (t + 1))).flatMap rE = R := ⟨_, rfl⟩
      rw [hR] at hxx
      have ha := (Below.refl wr.heap.size wr).alloc (Nat.le_refl _) (.cells #[.string x.ro.key, .string x.ro.live.s, .bool x.ro.live.d, .int .i64 x.ro.live.a, .int .i64 x.ro.live.e, .int .i64 x.ro.gone, .int .i64 x.ro.shade, .slice x.A x.ro.cols.length x.c] 57)
      have hin2 := hin.below (ha.mono (by have := HB.out.size; have := HVS.out; omega))
      have hbk := heap_alloc_new wr (.cells #[.string x.ro.key, .string x.ro.live.s, .bool x.ro.live.d, .int .i64 x.ro.live.a, .int .i64 x.ro.live.e, .int .i64 x.ro.gone, .int .i64 x.ro.shade, .slice x.A x.ro.cols.length x.c] 57)
      have hbu := HB.out.trans (ha.mono HB.out.size)
      obtain ⟨_, _, _, _, _, _, _, _⟩ := hrow
      obtain ⟨U, hU⟩ : ∃ U, U = wr.alloc (.cells #[.string x.ro.key, .string x.ro.live.s, .bool x.ro.live.d, .int .i64 x.ro.live.a, .int .i64 x.ro.live.e, .int .i64 x.ro.gone, .int .i64 x.ro.shade, .slice x.A x.ro.cols.length x.c] 57) := ⟨_, rfl⟩
      have hus : U.heap.size = wr.heap.size + 1 := by rw [hU]; simp
      rw [← hU] at hin2 hbk hbu
      have hb8 : ∀ w', Below U.heap.size U w' → BlkAt w' wr.heap.size x := fun w' hb => BlkAt.of ((hb.block wr.heap.size (by omega)).trans hbk)
      obtain ⟨q, hq⟩ : ∃ q, x.ro.cols.length = q := ⟨_, rfl⟩
      obtain ⟨X1, h1⟩ : ∃ Y, X ++ tE x.ro.key = Y := ⟨_, rfl⟩
      obtain ⟨X2, h2⟩ : ∃ Y, X1 ++ cE x.ro.live = Y := ⟨_, rfl⟩
      obtain ⟨X3, h3⟩ : ∃ Y, X2 ++ numL x.ro.gone.toNat = Y := ⟨_, rfl⟩
      obtain ⟨X4, h4⟩ : ∃ Y, X3 ++ numL x.ro.shade.toNat = Y := ⟨_, rfl⟩
      obtain ⟨X5, h5⟩ : ∃ Y, X4 ++ numL q = Y := ⟨_, rfl⟩
      have h6 : X5 ++ ((x.ro.cols.drop 0).flatMap kE ++ R) = P := by
        rw [← hxx, ← h5, ← h4, ← h3, ← h2, ← h1, List.drop_zero, ← hq]
        unfold rE
        simp only [List.append_assoc]
      have m5 : X5.length ≤ 246127 := by have := congrArg List.length h6; rw [List.length_append] at this; have := HPL.out; omega
      have m4 : X4.length ≤ 246127 := by have := congrArg List.length h5; rw [List.length_append] at this; omega
      have m3 : X3.length ≤ 246127 := by have := congrArg List.length h4; rw [List.length_append] at this; omega
      have m2 : X2.length ≤ 246127 := by have := congrArg List.length h3; rw [List.length_append] at this; omega
      have m1 : X1.length ≤ 246127 := by have := congrArg List.length h2; rw [List.length_append] at this; omega
      have a1 := fun wx => add_bs h1 (by omega) wx
      have a2 := fun wx => add_bs h2 (by omega) wx
      have a3 := fun wx => add_bs h3 (by omega) wx
      have a4 := fun wx => add_bs h4 (by omega) wx
      have a5 := fun wx => add_bs h5 (by omega) wx
      have HRS := Lib.hid hrs; have HBU := Lib.hid hbu; have H6 := Lib.hid h6; have HQ := Lib.hid hq; have HB8 := Lib.hid hb8; have HIN := Lib.hid hin2; have HR := Lib.hid hR; have HUS := Lib.hid hus
      have HQ8 : Hid (q ≤ 1000000000000000) := Lib.hid (by have := hrs.len; omega)
      have hq1 : q ≤ 1000 := by have := hrs.len; omega
      have HUB := Lib.hid (show B ≤ U.heap.size by have := hbu.size; have := HVS.out; omega)
      clear hq hlies hin hrs hxx hx hR ha hin2 hbk hbu hb8 h1 h2 h3 h4 h5 h6 m1 m2 m3 m4 m5 hus hgb
      have hq7 := (HB8.out U (Below.refl _ _))
      obtain ⟨_, _, _, _, _, _, _, _⟩ := hq7
      go_wp2_with fail
      rw [← hU]
      clear hU
      try rw [HQ.out]
      go_wp2_with fail
      refine wp_region_held_drew (S := fun w' => Below U.heap.size U w') (by kernel_rfl) ?_ (fun hHeld => ?_)
      · exact (Below.refl _ _).drew
      refine takesH [0, 1, 2, 5, 6, 9, 10, 13, 14, 17, 18, 19] ?_
      repeat
        refine takesH_one (v := ?_) ?_ ?_
        rotate_left
        · first | (refine Or.inr ⟨by rfl, ?_⟩; with_reducible rfl) | (refine Or.inl ⟨by rfl, ?_⟩; intro wx hSw; (try dsimp only at hSw); first | (go_simp; first | done | with_reducible rfl) | (obtain ⟨_, _, _, _, _, _, _, _⟩ := HB8.out _ hSw; go_simp; first | done | with_reducible rfl))
        try simp only [Act.put, List.getElem_toArray, List.getElem_cons_succ, List.getElem_cons_zero, List.setIfInBounds_toArray, List.set_cons_zero, List.set_cons_succ]
      refine takesH_nil ?_
      refine wpAnyH_ready (rs := [3]) (by kernel_rfl) (by simp) (AllReadyH.cons rfl (fun K hK => ?_) AllReadyH.nil)
      go_simp
      refine (rtext9 x.ro.key _ (by have := HRS.out.key; omega)).mono ?_
      rintro e' w1 ⟨rfl, b1⟩
      try go_wp2_with fail
      refine hK.out _ _ ?_ (fun hHeld => ?_)
      · exact next hHeld b1
      clear hK K
      try simp only [Act.put, List.getElem_toArray, List.getElem_cons_succ, List.getElem_cons_zero, List.setIfInBounds_toArray, List.set_cons_zero, List.set_cons_succ]
      refine takesH [4] ?_
      repeat
        refine takesH_one (v := ?_) ?_ ?_
        rotate_left
        · first | (refine Or.inr ⟨by rfl, ?_⟩; with_reducible rfl) | (refine Or.inl ⟨by rfl, ?_⟩; intro wx hSw; (try dsimp only at hSw); first | (go_simp; first | done | with_reducible rfl))
        try simp only [Act.put, List.getElem_toArray, List.getElem_cons_succ, List.getElem_cons_zero, List.setIfInBounds_toArray, List.set_cons_zero, List.set_cons_succ]
      refine takesH_nil ?_
      refine wpAnyH_ready (rs := [7]) (by kernel_rfl) (by simp) (AllReadyH.cons rfl (fun K hK => ?_) AllReadyH.nil)
      go_simp
      refine (rcell9 x.ro.live.s x.ro.live.d x.ro.live.a x.ro.live.e _ HRS.out.live (by have := HRS.out.val; omega)).mono ?_
      rintro e' w1 ⟨rfl, b1⟩
      try go_wp2_with fail
      refine hK.out _ _ ?_ (fun hHeld => ?_)
      · exact next hHeld b1
      clear hK K
      try simp only [Act.put, List.getElem_toArray, List.getElem_cons_succ, List.getElem_cons_zero, List.setIfInBounds_toArray, List.set_cons_zero, List.set_cons_succ]
      refine takesH [8] ?_
      repeat
        refine takesH_one (v := ?_) ?_ ?_
        rotate_left
        · first | (refine Or.inr ⟨by rfl, ?_⟩; with_reducible rfl) | (refine Or.inl ⟨by rfl, ?_⟩; intro wx hSw; (try dsimp only at hSw); first | (go_simp; first | done | with_reducible rfl))
        try simp only [Act.put, List.getElem_toArray, List.getElem_cons_succ, List.getElem_cons_zero, List.setIfInBounds_toArray, List.set_cons_zero, List.set_cons_succ]
      refine takesH_nil ?_
      refine wpAnyH_ready (rs := [11]) (by kernel_rfl) (by simp) (AllReadyH.cons rfl (fun K hK => ?_) AllReadyH.nil)
      go_simp
      refine (rnum9i x.ro.gone _ HRS.out.gone).mono ?_
      rintro e' w1 ⟨rfl, b1⟩
      try go_wp2_with fail
      refine hK.out _ _ ?_ (fun hHeld => ?_)
      · exact next hHeld b1
      clear hK K
      try simp only [Act.put, List.getElem_toArray, List.getElem_cons_succ, List.getElem_cons_zero, List.setIfInBounds_toArray, List.set_cons_zero, List.set_cons_succ]
      refine takesH [12] ?_
      repeat
        refine takesH_one (v := ?_) ?_ ?_
        rotate_left
        · first | (refine Or.inr ⟨by rfl, ?_⟩; with_reducible rfl) | (refine Or.inl ⟨by rfl, ?_⟩; intro wx hSw; (try dsimp only at hSw); first | (go_simp; first | done | with_reducible rfl))
        try simp only [Act.put, List.getElem_toArray, List.getElem_cons_succ, List.getElem_cons_zero, List.setIfInBounds_toArray, List.set_cons_zero, List.set_cons_succ]
      refine takesH_nil ?_
      refine wpAnyH_ready (rs := [15]) (by kernel_rfl) (by simp) (AllReadyH.cons rfl (fun K hK => ?_) AllReadyH.nil)
      go_simp
      refine (rnum9i x.ro.shade _ HRS.out.shade).mono ?_
      rintro e' w1 ⟨rfl, b1⟩
      try go_wp2_with fail
      refine hK.out _ _ ?_ (fun hHeld => ?_)
      · exact next hHeld b1
      clear hK K
      try simp only [Act.put, List.getElem_toArray, List.getElem_cons_succ, List.getElem_cons_zero, List.setIfInBounds_toArray, List.set_cons_zero, List.set_cons_succ]
      refine takesH [16] ?_
      repeat
        refine takesH_one (v := ?_) ?_ ?_
        rotate_left
        · first | (refine Or.inr ⟨by rfl, ?_⟩; with_reducible rfl) | (refine Or.inl ⟨by rfl, ?_⟩; intro wx hSw; (try dsimp only at hSw); first | (go_simp; first | done | with_reducible rfl))
        try simp only [Act.put, List.getElem_toArray, List.getElem_cons_succ, List.getElem_cons_zero, List.setIfInBounds_toArray, List.set_cons_zero, List.set_cons_succ]
      refine takesH_nil ?_
      refine wpAnyH_ready (rs := [20]) (by kernel_rfl) (by simp) (AllReadyH.cons rfl (fun K hK => ?_) AllReadyH.nil)
      go_simp
      rw [HQ.out]
      refine (rnum9 q _ HQ8.out).mono ?_
      rintro e' w1 ⟨rfl, b1⟩
      try go_wp2_with fail
      refine hK.out _ _ ?_ (fun hHeld => ?_)
      · exact next hHeld b1
      clear hK K
      try simp only [Act.put, List.getElem_toArray, List.getElem_cons_succ, List.getElem_cons_zero, List.setIfInBounds_toArray, List.set_cons_zero, List.set_cons_succ]
      refine takesH [21, 22] ?_
      repeat
        refine takesH_one (v := ?_) ?_ ?_
        rotate_left
        · first | (refine Or.inr ⟨by rfl, ?_⟩; with_reducible rfl) | (refine Or.inl ⟨by rfl, ?_⟩; intro wx hSw; (try dsimp only at hSw); first | (go_simp; first | done | with_reducible rfl))
        try simp only [Act.put, List.getElem_toArray, List.getElem_cons_succ, List.getElem_cons_zero, List.setIfInBounds_toArray, List.set_cons_zero, List.set_cons_succ]
      refine takesH_nil ?_
      refine wpAnyH_done (by kernel_rfl) ?_ _
      clear a1 a2 a3 a4 a5
      have HB1 := Lib.hid hHeld
      clear hHeld
      go_wp2_with fail
      obtain ⟨VV, hVV⟩ : ∃ V, V = wr := ⟨_, rfl⟩
      subst hVV
      go_loopw [6, 3] (fun i v wi => ∃ (u : Nat) (Y : Bs), u ≤ q ∧ i = .int .i64 u ∧ v = .string (bs Y) ∧ Y ++ ((x.ro.cols.drop u).flatMap kE ++ R) = P ∧ Below U.heap.size U wi) (fun i _ _ => q - (intOf i).toNat)
      case atStart => exact ⟨0, X5, Nat.zero_le _, rfl, rfl, H6.out, HB1.out⟩
      case round =>
        obtain ⟨u, Y, hu, rfl, rfl, hy0, hb2⟩ := hrel
        obtain ⟨_, _, _, _, _, _, _, hk7⟩ := HB8.out _ hb2
        rw [HQ.out] at hk7
        have HB2 := Lib.hid hb2; have HY0 := Lib.hid hy0
        clear hb2 hy0
        by_cases hlu : u < q
        · have i3 : (u : Int) < q := by omega
          have i4 : (0 : Int) ≤ u := by omega
          have hul : u < x.ro.cols.length := by rw [HQ.out]; exact hlu
          have hrd := HIN.out.rd
          rw [HQ.out] at hrd
          obtain ⟨g1, o1, hA1, hgb1, hc⟩ := hrd.2 (by omega)
          rw [hA1] at hk7
          have hcol : ∀ w', Below U.heap.size U w' → w'.cell? ⟨VV.heap.size, 7, none⟩ = some (.slice (some ⟨g1, o1, none⟩) q x.c) ∧ w'.cell? ⟨g1, o1 + u * 5, none⟩ = some (.string (x.ro.cols[u]).1) ∧ w'.cell? ⟨g1, o1 + u * 5 + 1, none⟩ = some (.string (x.ro.cols[u]).2.s) ∧ w'.cell? ⟨g1, o1 + u * 5 + 2, none⟩ = some (.bool (x.ro.cols[u]).2.d) ∧ w'.cell? ⟨g1, o1 + u * 5 + 3, none⟩ = some (.int .i64 (x.ro.cols[u]).2.a) ∧ w'.cell? ⟨g1, o1 + u * 5 + 4, none⟩ = some (.int .i64 (x.ro.cols[u]).2.e) := fun w' hb => by
            obtain ⟨_, _, _, _, _, _, _, h7⟩ := HB8.out _ hb
            rw [HQ.out, hA1] at h7
            obtain ⟨c0, c1, c2, c3, c4⟩ := hc u hul
            have hgv : g1 < U.heap.size := by have := HUB.out; omega
            exact ⟨h7, (hb.cell (p := ⟨g1, _, none⟩) hgv).trans c0, (hb.cell (p := ⟨g1, _, none⟩) hgv).trans c1, (hb.cell (p := ⟨g1, _, none⟩) hgv).trans c2, (hb.cell (p := ⟨g1, _, none⟩) hgv).trans c3, (hb.cell (p := ⟨g1, _, none⟩) hgv).trans c4⟩
          have hcm := HRS.out.cols x.ro.cols[u] (List.getElem_mem hul)
          have hyy := HY0.out
          rw [List.drop_eq_getElem_cons hul, List.flatMap_cons] at hyy
          obtain ⟨⟨cm, ⟨cs, cd, ca, ce⟩⟩, hcx⟩ : ∃ y, x.ro.cols[u] = y := ⟨_, rfl⟩
          rw [hcx] at hcol hcm hyy
          dsimp only at hcol hcm hyy
          obtain ⟨Y1, h1⟩ : ∃ Z, Y ++ tE cm = Z := ⟨_, rfl⟩
          obtain ⟨Y2, h2⟩ : ∃ Z, Y1 ++ cE ⟨cs, cd, ca, ce⟩ = Z := ⟨_, rfl⟩
          have h3 : Y2 ++ ((x.ro.cols.drop (u + 1)).flatMap kE ++ R) = P := by
            rw [← hyy, ← h2, ← h1]
            unfold kE
            simp only [List.append_assoc]
          have m2 : Y2.length ≤ 246127 := by have := congrArg List.length h3; rw [List.length_append] at this; have := HPL.out; omega
          have m1 : Y1.length ≤ 246127 := by have := congrArg List.length h2; rw [List.length_append] at this; omega
          have a1 := fun wx => add_bs h1 (by omega) wx
          have a2 := fun wx => add_bs h2 (by omega) wx
          have HCOL := Lib.hid hcol; have H3 := Lib.hid h3
          have HCM : Hid (cm.size ≤ 1000000000 ∧ Ce.Gd ⟨cs, cd, ca, ce⟩ ∧ cs.size ≤ 1000000) := Lib.hid ⟨by omega, hcm.2.1, by omega⟩
          clear hrd hc hcol hcm hyy hcx h1 h2 h3 m1 m2 hgb1 hA1
          go_wp2_with fail
          refine wp_region_held_drew (S := fun w' => Below U.heap.size U w') (by kernel_rfl) ?_ (fun hHeld => ?_)
          · exact HB2.out.drew
          refine takesH [0, 1, 2, 3, 4, 5, 6, 9, 10, 11, 12, 13, 14] ?_
          repeat
            refine takesH_one (v := ?_) ?_ ?_
            rotate_left
            · first | (refine Or.inr ⟨by rfl, ?_⟩; with_reducible rfl) | (refine Or.inl ⟨by rfl, ?_⟩; intro wx hSw; (try dsimp only at hSw); first | (go_simp; first | done | with_reducible rfl) | (obtain ⟨_, _, _, _, _, _⟩ := HCOL.out _ hSw; go_simp; first | done | with_reducible rfl))
            try simp only [Act.put, List.getElem_toArray, List.getElem_cons_succ, List.getElem_cons_zero, List.setIfInBounds_toArray, List.set_cons_zero, List.set_cons_succ]
          refine takesH_nil ?_
          refine wpAnyH_ready (rs := [7]) (by kernel_rfl) (by simp) (AllReadyH.cons rfl (fun K hK => ?_) AllReadyH.nil)
          go_simp
          refine (rtext9 cm _ HCM.out.1).mono ?_
          rintro e' w1 ⟨rfl, b1⟩
          try go_wp2_with fail
          refine hK.out _ _ ?_ (fun hHeld => ?_)
          · exact next hHeld b1
          clear hK K
          try simp only [Act.put, List.getElem_toArray, List.getElem_cons_succ, List.getElem_cons_zero, List.setIfInBounds_toArray, List.set_cons_zero, List.set_cons_succ]
          refine takesH [8] ?_
          repeat
            refine takesH_one (v := ?_) ?_ ?_
            rotate_left
            · first | (refine Or.inr ⟨by rfl, ?_⟩; with_reducible rfl) | (refine Or.inl ⟨by rfl, ?_⟩; intro wx hSw; (try dsimp only at hSw); first | (go_simp; first | done | with_reducible rfl))
            try simp only [Act.put, List.getElem_toArray, List.getElem_cons_succ, List.getElem_cons_zero, List.setIfInBounds_toArray, List.set_cons_zero, List.set_cons_succ]
          refine takesH_nil ?_
          refine wpAnyH_ready (rs := [15]) (by kernel_rfl) (by simp) (AllReadyH.cons rfl (fun K hK => ?_) AllReadyH.nil)
          go_simp
          refine (rcell9 cs cd ca ce _ HCM.out.2.1 HCM.out.2.2).mono ?_
          rintro e' w1 ⟨rfl, b1⟩
          try go_wp2_with fail
          refine hK.out _ _ ?_ (fun hHeld => ?_)
          · exact next hHeld b1
          clear hK K
          try simp only [Act.put, List.getElem_toArray, List.getElem_cons_succ, List.getElem_cons_zero, List.setIfInBounds_toArray, List.set_cons_zero, List.set_cons_succ]
          refine takesH [16, 17] ?_
          repeat
            refine takesH_one (v := ?_) ?_ ?_
            rotate_left
            · first | (refine Or.inr ⟨by rfl, ?_⟩; with_reducible rfl) | (refine Or.inl ⟨by rfl, ?_⟩; intro wx hSw; (try dsimp only at hSw); first | (go_simp; first | done | with_reducible rfl))
            try simp only [Act.put, List.getElem_toArray, List.getElem_cons_succ, List.getElem_cons_zero, List.setIfInBounds_toArray, List.set_cons_zero, List.set_cons_succ]
          refine takesH_nil ?_
          refine wpAnyH_done (by kernel_rfl) ?_ _
          clear a1 a2
          go_wp2
          go_roundw
          case rel => exact ⟨u + 1, Y2, by omega, by go_num, rfl, H3.out, hHeld⟩
          case measure => simp [intOf]; omega
        · obtain rfl : u = q := by omega
          have hyy := HY0.out
          rw [List.drop_of_length_le (by rw [HQ.out]; exact Nat.le_refl _), List.flatMap_nil, List.nil_append, ← HR.out] at hyy
          have HYY := Lib.hid hyy
          have hb3 := HBU.out.trans (HB2.out.mono HBU.out.size)
          have HB3 := Lib.hid hb3
          clear hb3 hyy
          go_wp2
          go_roundw
          case rel => exact ⟨t + 1, Y, by omega, by go_num, rfl, HYY.out, HB3.out⟩
          case measure => simp [intOf]; omega
    · obtain rfl : t = n := by omega
      have hxx := HX0.out
      rw [List.drop_of_length_le (by rw [HL.out]; exact Nat.le_refl _)] at hxx
      have hxp : X = P := by rw [← hxx]; simp
      have HXP := Lib.hid hxp
      clear hxx hxp
      go_wp2
      go_ret
      exact ⟨by rw [HXP.out]; rfl, next BZ.out HB.out⟩
end Go.Proofs.YthfanonjokpflaaGreat
