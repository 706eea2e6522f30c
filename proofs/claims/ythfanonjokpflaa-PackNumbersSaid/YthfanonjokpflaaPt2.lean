/-
  pack's putCell, putCol.
-/
import Derived.Test.YthfanonjokpflaaTkl
import Derived.Test.YthfanonjokpflaaPt1
set_option linter.unusedVariables false
set_option linter.unusedSimpArgs false
namespace Go.Proofs.Ythfanonjokpflaa
open Go Go.RowKit

set_option maxRecDepth 8000 in
set_option maxHeartbeats 4000000 in
theorem putCell_any (B : Nat) (v : Value) (l : Bs) (s : ByteArray) (d : Bool) (a e : Int) (w : World) (h : OwnY B w v l) (hB : B ≤ w.heap.size) (hg : (⟨s, d, a, e⟩ : Ce).Gd) (hs : s.size ≤ 1000000000) (hl : l.length ≤ 1000000000) :
    Calls Try.prog 70 #[v, .agg #[.string s, .bool d, .int .i64 a, .int .i64 e]] w (Lays B w v (l ++ cE ⟨s, d, a, e⟩)) := by
  obtain ⟨ga, gn, gd, gv⟩ := hg
  dsimp only at ga gn gd gv
  have bz := (Below.refl w.heap.size w).alloc (Nat.le_refl _) (.cells #[.string s, .bool d, .int .i64 a, .int .i64 e] 58)
  have hz := heap_alloc_new w (.cells #[.string s, .bool d, .int .i64 a, .int .i64 e] 58)
  have l0 := (Ly.refl h).below bz
  obtain ⟨V, hV⟩ : ∃ V, V = w.alloc (.cells #[.string s, .bool d, .int .i64 a, .int .i64 e] 58) := ⟨_, rfl⟩
  have hVs : V.heap.size = w.heap.size + 1 := by rw [hV]; simp
  rw [← hV] at bz hz l0
  have hq2 := cell_at (i := 2) hz rfl
  have L0 := Lib.hid l0; have HZ := Lib.hid hz; have HB := Lib.hid hB; have HS := Lib.hid hs; have HLL := Lib.hid hl; have HVS := Lib.hid hVs; have GA := Lib.hid ga
  have hnl : (numL a.toNat).length ≤ 9 := stm_num ga
  have HNL := Lib.hid hnl
  clear bz hz l0 hB hs hl hVs h hnl
  go_enter Try.func70, Try.ntmps70
  go_wp2_with fail
  rw [← hV] at *
  clear hV
  refine (putNum_any B v l a V L0.out.own (Nat.le_trans HB.out L0.out.size) ga.1 (by omega) (by have := HLL.out; omega)).mono ?_
  rintro x w1 ⟨v1, rfl, l1⟩
  have hz1 := l1.at_ L0.out.own HZ.out (by decide)
  have L1 := Lib.hid (L0.out.on l1)
  have HZ1 := Lib.hid hz1
  have hc2 := cell_at (i := 2) hz1 rfl
  have hc1 := cell_at (i := 1) hz1 rfl
  clear l1 hz1 ga hq2
  by_cases h0 : a = 0
  · subst h0
    go_wp2
    go_ret
    refine ⟨v1, rfl, L1.out.same ?_⟩
    unfold cE tailE
    rw [if_pos rfl, List.append_nil]
  · have e0 : (a == 0) = false := by simp; exact h0
    have e1 : decide (a = 0) = false := by simp; exact h0
    cases d with
    | true =>
      obtain ⟨A1, n1, c1, hA1, hl1, _⟩ := L1.out.own.slice
      subst hA1
      have ba := (Below.refl w1.heap.size w1).alloc (Nat.le_refl _) (.cells #[.int .u8 1] 5)
      have lb := L1.out.below ba
      have lo := lb.own
      unfold OwnY at lo
      rw [hl1] at lo
      have HL1 := Lib.hid hl1
      clear hl1
      have HTE : Hid (cE ⟨s, true, a, e⟩ = numL a.toNat ++ [1]) := Lib.hid (by unfold cE tailE; rw [if_neg h0, if_pos rfl])
      clear gn gd gv h0
      go_wp2_with (at_builtin; refine list_ex rfl (.tmp 17) (.tmp 18) _ _ rfl (.slice A1 n1 c1) (.slice (some ⟨w1.heap.size, 0, none⟩) 1 1) rfl rfl (run_appB_at B lo 1 (Rd.one w1 1 1 rfl) ?s1 ?s2) ?_)
      case s1 => have := HNL.out; have := HLL.out; have h1 := HL1.out; rw [List.length_append] at h1; omega
      case s2 => have := HB.out; have := lb.size; omega
      intro v3 w3 h3 hg hloc
      go_wp2
      go_ret
      refine ⟨v3, rfl, (lb.on (Ly.grown h3 ?_ hg hloc)).same ?_⟩
      · have h1 := HL1.out
        simp only [List.length_append, List.length_cons, List.length_nil] at h1 ⊢
        omega
      · rw [HTE.out]; try simp only [List.append_assoc]
    | false =>
      have hge := gv h0 rfl
      have GE := Lib.hid hge.2
      have HTE : Hid (cE ⟨s, false, a, e⟩ = numL a.toNat ++ ([0] ++ (tE s ++ numL e.toNat))) := Lib.hid (by unfold cE tailE; rw [if_neg h0, if_neg (by simp)]; rfl)
      have htl : (tE s).length ≤ 9 + 1000000000 := tE_le HS.out (by omega)
      have HL3 : Hid ((l ++ numL a.toNat ++ [0]).length ≤ 10000000000) := Lib.hid (by have := HNL.out; have := HLL.out; simp only [List.length_append, List.length_cons, List.length_nil]; omega)
      have HL4 : Hid ((l ++ numL a.toNat ++ [0] ++ tE s).length ≤ 100000000000) := Lib.hid (by have := HNL.out; have := HLL.out; simp only [List.length_append, List.length_cons, List.length_nil] at *; omega)
      obtain ⟨A1, n1, c1, hA1, hl1, _⟩ := L1.out.own.slice
      subst hA1
      have HLN := Lib.hid hl1
      clear gn gd gv h0 hge htl hl1
      go_wp2_with fail
      refine wp_region_held_drew (S := fun w' => w'.heap[w.heap.size]? = some (.cells #[.string s, .bool false, .int .i64 a, .int .i64 e] 58 (0, 0))) (by kernel_rfl) ?_ (fun hHeld => ?_)
      · exact HZ1.out
      refine takesH [0, 3, 4, 6, 7] ?_
      repeat
        refine takesH_one (v := ?_) ?_ ?_
        rotate_left
        · first | (refine Or.inr ⟨by rfl, ?_⟩; with_reducible rfl) | (refine Or.inl ⟨by rfl, ?_⟩; intro wx hSw; (try dsimp only at hSw); first | (go_simp; first | done | with_reducible rfl) | (have hc0 := cell_at (i := 0) hSw rfl; go_simp; first | done | with_reducible rfl) | (have hc3 := cell_at (i := 3) hSw rfl; go_simp; first | done | with_reducible rfl))
        try simp only [Act.put, List.getElem_toArray, List.getElem_cons_succ, List.getElem_cons_zero, List.setIfInBounds_toArray, List.set_cons_zero, List.set_cons_succ]
      refine takesH_nil ?_
      refine wpAnyH_ready (rs := [1]) (by kernel_rfl) (by simp) (AllReadyH.cons rfl (fun K hK => ?_) AllReadyH.nil)
      obtain ⟨U, hU⟩ : ∃ U, U = w1.drew := ⟨_, rfl⟩
      rw [← hU]
      have hu : Below w1.heap.size w1 U := by rw [hU]; exact (Below.refl _ _).drew
      clear hU
      have lu := L1.out.below hu
      have hzu := (hu.block _ (Array.getElem?_eq_some_iff.1 HZ1.out).1).trans HZ1.out
      have ba := (Below.refl U.heap.size U).alloc (Nat.le_refl _) (.cells #[.int .u8 0] 5)
      have HZ2 := Lib.hid ((ba.block _ (Array.getElem?_eq_some_iff.1 hzu).1).trans hzu)
      have L2 := Lib.hid (lu.below ba)
      have lo := L2.out.own
      unfold OwnY at lo
      rw [HLN.out] at lo
      clear hu lu hzu ba
      go_simp
      refine hK.out _ _ ?_ (fun hHeld => ?_)
      · exact HZ2.out
      clear hK K
      try simp only [Act.put, List.getElem_toArray, List.getElem_cons_succ, List.getElem_cons_zero, List.setIfInBounds_toArray, List.set_cons_zero, List.set_cons_succ]
      refine wpAnyH_ready (rs := [2]) (by kernel_rfl) (by simp) (AllReadyH.cons rfl (fun K hK => ?_) AllReadyH.nil)
      refine step_ex rfl (.tmp 20) (.tmp 21) _ _ rfl (.slice A1 n1 c1) (.slice (some ⟨U.heap.size, 0, none⟩) 1 1) (by simp [Act.eval]) (by simp [Act.eval]) (run_appB_at B lo 1 (Rd.one U 0 0 rfl) ?s1 ?s2) ?_
      case s1 => have := HNL.out; have := HLL.out; have h1 := HLN.out; rw [List.length_append] at h1; omega
      case s2 => have := HB.out; have := L2.out.size; omega
      intro v3 w3 h3 hg
      obtain ⟨hg, hloc⟩ := hg
      have l3 := Ly.grown h3 (by have h1 := HLN.out; simp only [List.length_append, List.length_cons, List.length_nil] at h1 ⊢; omega) hg hloc
      have HZ3 := Lib.hid (l3.at_ L2.out.own HZ2.out (by decide))
      have L3 := Lib.hid (L2.out.on l3)
      obtain ⟨A3, n3, c3, hA3, _⟩ := L3.out.own.slice
      subst hA3
      clear h3 hg hloc l3 lo
      refine hK.out _ _ ?_ (fun hHeld => ?_)
      · exact HZ3.out
      clear hK K
      try simp only [Act.put, List.getElem_toArray, List.getElem_cons_succ, List.getElem_cons_zero, List.setIfInBounds_toArray, List.set_cons_zero, List.set_cons_succ]
      refine wpAnyH_ready (rs := [5]) (by kernel_rfl) (by simp) (AllReadyH.cons rfl (fun K hK => ?_) AllReadyH.nil)
      go_simp
      refine (putText_any B _ (l ++ numL a.toNat ++ [0]) s w3 L3.out.own (Nat.le_trans HB.out L3.out.size) (by have := HS.out; omega) HL3.out).mono ?_
      rintro x w4 ⟨v4, rfl, l4⟩
      have HZ4 := Lib.hid (l4.at_ L3.out.own HZ3.out (by decide))
      have L4 := Lib.hid (L3.out.on l4)
      clear l4
      try go_wp2_with fail
      refine hK.out _ _ ?_ (fun hHeld => ?_)
      · first | exact HZ4.out | exact HZ5.out
      clear hK K
      try simp only [Act.put, List.getElem_toArray, List.getElem_cons_succ, List.getElem_cons_zero, List.setIfInBounds_toArray, List.set_cons_zero, List.set_cons_succ]
      refine wpAnyH_ready (rs := [8]) (by kernel_rfl) (by simp) (AllReadyH.cons rfl (fun K hK => ?_) AllReadyH.nil)
      go_simp
      refine (putNum_any B v4 (l ++ numL a.toNat ++ [0] ++ tE s) e w4 L4.out.own (Nat.le_trans HB.out L4.out.size) GE.out.1 (by have := GE.out.2; omega) HL4.out).mono ?_
      rintro x w5 ⟨v5, rfl, l5⟩
      have HZ5 := Lib.hid (l5.at_ L4.out.own HZ4.out (by decide))
      have L5 := Lib.hid (L4.out.on l5)
      clear l5
      try go_wp2_with fail
      refine hK.out _ _ ?_ (fun hHeld => ?_)
      · first | exact HZ4.out | exact HZ5.out
      clear hK K
      try simp only [Act.put, List.getElem_toArray, List.getElem_cons_succ, List.getElem_cons_zero, List.setIfInBounds_toArray, List.set_cons_zero, List.set_cons_succ]
      refine takesH [9] ?_
      repeat
        refine takesH_one (v := ?_) ?_ ?_
        rotate_left
        · first | (refine Or.inr ⟨by rfl, ?_⟩; with_reducible rfl) | (refine Or.inl ⟨by rfl, ?_⟩; intro wx hSw; (try dsimp only at hSw); first | (go_simp; first | done | with_reducible rfl))
        try simp only [Act.put, List.getElem_toArray, List.getElem_cons_succ, List.getElem_cons_zero, List.setIfInBounds_toArray, List.set_cons_zero, List.set_cons_succ]
      refine takesH_nil ?_
      refine wpAnyH_done (by kernel_rfl) ?_ _
      go_wp2
      go_ret
      refine ⟨v5, rfl, L5.out.same ?_⟩
      rw [HTE.out]
      simp only [List.append_assoc]
set_option maxRecDepth 8000 in
set_option maxHeartbeats 4000000 in
theorem putCol_any (B : Nat) (v : Value) (l : Bs) (n s : ByteArray) (d : Bool) (a e : Int) (w : World) (h : OwnY B w v l) (hB : B ≤ w.heap.size) (hg : (⟨s, d, a, e⟩ : Ce).Gd) (hn : n.size ≤ 50000000) (hs : s.size ≤ 1000000000) (hl : l.length ≤ 900000000) :
    Calls Try.prog 72 #[v, .agg #[.string n, .string s, .bool d, .int .i64 a, .int .i64 e]] w (Lays B w v (l ++ kE (n, ⟨s, d, a, e⟩))) := by
  have bz := (Below.refl w.heap.size w).alloc (Nat.le_refl _) (.cells #[.string n, .string s, .bool d, .int .i64 a, .int .i64 e] 90)
  have hz := heap_alloc_new w (.cells #[.string n, .string s, .bool d, .int .i64 a, .int .i64 e] 90)
  have l0 := (Ly.refl h).below bz
  obtain ⟨V, hV⟩ : ∃ V, V = w.alloc (.cells #[.string n, .string s, .bool d, .int .i64 a, .int .i64 e] 90) := ⟨_, rfl⟩
  rw [← hV] at bz hz l0
  have htl : (tE n).length ≤ 9 + 50000000 := tE_le hn (by omega)
  have HL1 : Hid ((l ++ tE n).length ≤ 1000000000) := Lib.hid (by rw [List.length_append]; omega)
  have L0 := Lib.hid l0.drew; have HZ := Lib.hid hz; have HB := Lib.hid hB; have HS := Lib.hid hs; have HN := Lib.hid hn; have HLL := Lib.hid hl; have HG := Lib.hid hg
  clear bz hz l0 hB hs hl h hn hg htl
  go_enter Try.func72, Try.ntmps72
  go_wp2_with fail
  rw [← hV]
  clear hV
  refine wp_region_held_drew (S := fun w' => w'.heap[w.heap.size]? = some (.cells #[.string n, .string s, .bool d, .int .i64 a, .int .i64 e] 90 (0, 0))) (by kernel_rfl) ?_ (fun hHeld => ?_)
  · exact HZ.out
  refine takesH [0, 1, 2, 4, 5] ?_
  repeat
    refine takesH_one (v := ?_) ?_ ?_
    rotate_left
    · first | (refine Or.inr ⟨by rfl, ?_⟩; with_reducible rfl) | (refine Or.inl ⟨by rfl, ?_⟩; intro wx hSw; (try dsimp only at hSw); first | (go_simp; first | done | with_reducible rfl) | (have hc0 := cell_at (i := 0) hSw rfl; go_simp; first | done | with_reducible rfl) | (have hc1 := cell_at (i := 1) hSw rfl; have hc2 := cell_at (i := 2) hSw rfl; have hc3 := cell_at (i := 3) hSw rfl; have hc4 := cell_at (i := 4) hSw rfl; go_simp; first | done | with_reducible rfl))
    try simp only [Act.put, List.getElem_toArray, List.getElem_cons_succ, List.getElem_cons_zero, List.setIfInBounds_toArray, List.set_cons_zero, List.set_cons_succ]
  refine takesH_nil ?_
  refine wpAnyH_ready (rs := [3]) (by kernel_rfl) (by simp) (AllReadyH.cons rfl (fun K hK => ?_) AllReadyH.nil)
  go_simp
  refine (putText_any B v l n V.drew L0.out.own (Nat.le_trans HB.out L0.out.size) (by have := HN.out; omega) (by have := HLL.out; omega)).mono ?_
  rintro x w1 ⟨v1, rfl, l1⟩
  have HZ1 := Lib.hid (l1.at_ L0.out.own HZ.out (by decide))
  have L1 := Lib.hid (L0.out.on l1)
  clear l1
  try go_wp2_with fail
  refine hK.out _ _ ?_ (fun hHeld => ?_)
  · first | exact HZ2.out | exact HZ1.out
  clear hK K
  try simp only [Act.put, List.getElem_toArray, List.getElem_cons_succ, List.getElem_cons_zero, List.setIfInBounds_toArray, List.set_cons_zero, List.set_cons_succ]
  refine wpAnyH_ready (rs := [6]) (by kernel_rfl) (by simp) (AllReadyH.cons rfl (fun K hK => ?_) AllReadyH.nil)
  go_simp
  refine (putCell_any B v1 (l ++ tE n) s d a e w1 L1.out.own (Nat.le_trans HB.out L1.out.size) HG.out HS.out HL1.out).mono ?_
  rintro x w2 ⟨v2, rfl, l2⟩
  have HZ2 := Lib.hid (l2.at_ L1.out.own HZ1.out (by decide))
  have L2 := Lib.hid (L1.out.on l2)
  clear l2
  try go_wp2_with fail
  refine hK.out _ _ ?_ (fun hHeld => ?_)
  · first | exact HZ2.out | exact HZ1.out
  clear hK K
  try simp only [Act.put, List.getElem_toArray, List.getElem_cons_succ, List.getElem_cons_zero, List.setIfInBounds_toArray, List.set_cons_zero, List.set_cons_succ]
  refine takesH [7] ?_
  repeat
    refine takesH_one (v := ?_) ?_ ?_
    rotate_left
    · first | (refine Or.inr ⟨by rfl, ?_⟩; with_reducible rfl) | (refine Or.inl ⟨by rfl, ?_⟩; intro wx hSw; (try dsimp only at hSw); first | (go_simp; first | done | with_reducible rfl))
    try simp only [Act.put, List.getElem_toArray, List.getElem_cons_succ, List.getElem_cons_zero, List.setIfInBounds_toArray, List.set_cons_zero, List.set_cons_succ]
  refine takesH_nil ?_
  refine wpAnyH_done (by kernel_rfl) ?_ _
  go_wp2
  go_ret
  exact ⟨v2, rfl, L2.out.same (by unfold kE; rw [List.append_assoc])⟩
end Go.Proofs.Ythfanonjokpflaa
