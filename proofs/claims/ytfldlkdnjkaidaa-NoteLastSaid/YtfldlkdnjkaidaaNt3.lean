/-
  The document's own notes (chapter 11): Add.
-/
import Derived.Test.YtfldlkdnjkaidaaRgz
import Derived.Test.YtfldlkdnjkaidaaTkl
import Derived.Test.YtfldlkdnjkaidaaNt2
import Derived.Laws.OwnMore
import Derived.Lib.SmallJoins
set_option linter.unusedVariables false
set_option linter.unusedSimpArgs false
namespace Go.Proofs.Ytfldlkdnjkaidaa
open Go Go.RowKit

theorem tRow_set (l : Fl) {i : Nat} (h : i < l.length) (n : Int) (b : ByteArray) : ((tRow l).set (i * 2) (.int .i64 n)).set (i * 2 + 1) (.string b) = tRow (l.set i (n, b)) := by
  apply List.ext_getElem?
  intro j
  have hl : (tRow l).length = l.length * 2 := tRow_length l
  have hl2 : (tRow (l.set i (n, b))).length = l.length * 2 := by rw [tRow_length, List.length_set]
  rcases Nat.lt_or_ge j (l.length * 2) with hj | hj
  · obtain ⟨k, hk⟩ : ∃ k, j = k * 2 ∨ j = k * 2 + 1 := ⟨j / 2, by omega⟩
    have hkl : k < l.length := by omega
    have hkl2 : k < (l.set i (n, b)).length := by rw [List.length_set]; exact hkl
    rcases hk with rfl | rfl
    · rw [tRow_get0 _ k hkl2, List.getElem?_set_ne (by omega)]
      by_cases hik : i = k
      · subst hik
        rw [List.getElem?_set_self (by omega)]
        simp
      · rw [List.getElem?_set_ne (by omega), tRow_get0 _ k hkl, List.getElem_set_ne hik]
    · rw [tRow_get1 _ k hkl2]
      by_cases hik : i = k
      · subst hik
        rw [List.getElem?_set_self (by rw [List.length_set]; omega)]
        simp
      · rw [List.getElem?_set_ne (by omega), List.getElem?_set_ne (by omega), tRow_get1 _ k hkl, List.getElem_set_ne hik]
  · rw [List.getElem?_eq_none (by rw [List.length_set, List.length_set]; omega), List.getElem?_eq_none (by omega)]
set_option maxRecDepth 8000 in
set_option maxHeartbeats 8000000 in
theorem nadd_any (F : Nat → Prop) (q : Nat) (S : Fl) (n : Int) (b : ByteArray) (w : World) (h : NtIs w F q S) (hn : (Lit.int .i64 n).wf = true) (hs : b.size ≤ maxLen) :
    Calls Try.prog 14 #[.pointer (some ⟨q, 0, none⟩), .agg #[.int .i64 n, .string b]] w fun e w' => e = .returned (.bool (addN S n b).2) ∧ ∃ F', NtIs w' F' q (addN S n b).1 ∧ Step F w F' w' := by
  have bz := (Below.refl w.heap.size w).alloc (Nat.le_refl _) (.cells #[.int .i64 n, .string b] 30)
  have hx := heap_alloc_new w (.cells #[.int .i64 n, .string b] 30)
  obtain ⟨V, hV⟩ : ∃ V, V = w.alloc (.cells #[.int .i64 n, .string b] 30) := ⟨_, rfl⟩
  rw [← hV] at bz hx
  have h0 := h.below bz
  have hat := nat_any F q S n V h0 hn
  obtain ⟨u, hu⟩ : ∃ u, hasF S n = u := ⟨_, rfl⟩
  obtain ⟨i, hi⟩ : ∃ i, idxF S n = i := ⟨_, rfl⟩
  obtain ⟨m, hm⟩ : ∃ m, S.length = m := ⟨_, rfl⟩
  have hil : i ≤ m := by rw [← hi, ← hm]; exact idxF_le _ _
  have hm3 : m ≤ 300 := by rw [← hm]; exact h0.ok.len
  rw [hu, hi] at hat
  have HAT := Lib.hid hat; have HX := Lib.hid hx; have BZ := Lib.hid bz; have H0 := Lib.hid h0; have HU := Lib.hid hu; have HI := Lib.hid hi; have HM := Lib.hid hm
  obtain ⟨R, hR⟩ : ∃ R, addN S n b = R := ⟨_, rfl⟩
  rw [hR]
  have HR := Lib.hid hR
  have c0 := cell_at (i := 0) hx rfl
  clear hat hx bz h0 hu hi hm hR h
  go_enter Try.func14, Try.ntmps14
  go_wp2_with fail
  rw [← hV]
  clear hV
  refine HAT.out.mono ?_
  rintro e w1 ⟨rfl, b1⟩
  have hx1 := (b1.block _ (Array.getElem?_eq_some_iff.1 HX.out).1).trans HX.out
  have h1 := H0.out.below b1
  have B1 := Lib.hid (BZ.out.trans (b1.mono BZ.out.size))
  obtain ⟨v, h1⟩ := h1
  obtain ⟨A, c, rfl, hnc, hcc, hA⟩ := own_slice h1.2.1
  have hq1 := (Array.getElem?_eq_some_iff.1 h1.1).1
  have hxl := (Array.getElem?_eq_some_iff.1 hx1).1
  have h1b := h1.1
  have hnc' := hnc
  rw [HM.out] at h1b hnc'
  have r1 := RdT.of_own h1.2.1
  rw [HM.out] at r1
  have hce : ∀ w', Below w1.heap.size w1 w' → w'.cell? ⟨q, 0, none⟩ = some (.slice A m c) ∧ w'.cell? ⟨w.heap.size, 0, none⟩ = some (.int .i64 n) ∧ w'.cell? ⟨w.heap.size, 1, none⟩ = some (.string b) := fun w' hb =>
    ⟨cell_at ((hb.block q hq1).trans h1b) rfl, cell_at ((hb.block _ hxl).trans hx1) rfl, cell_at ((hb.block _ hxl).trans hx1) rfl⟩
  have HCE := Lib.hid hce; have H1 := Lib.hid h1; have HQ1 := Lib.hid hq1; have HQB := Lib.hid h1b; have HR1 := Lib.hid r1
  obtain ⟨k0, x0, x1⟩ := hce w1 (Below.refl _ _)
  clear b1 hx1 h1 hq1 hxl h1b hce c0 r1 hnc
  by_cases hbad : BadN S n b
  · have hRe : R = (S, false) := by rw [← HR.out]; unfold addN; rw [if_pos hbad]
    subst hRe
    have HN1 := Lib.hid (show NtIs w1 F q S from ⟨_, H1.out⟩)
    unfold BadN at hbad
    rw [HU.out, HM.out] at hbad
    by_cases b1 : n < 1
    · have d1 : decide (n < 1) = true := decide_eq_true b1
      clear hbad b1
      go_wp2
      go_ret
      exact ⟨rfl, F, HN1.out, Step.same (Kept.of_below B1.out F)⟩
    · have d1 : decide (n < 1) = false := decide_eq_false b1
      by_cases b2 : 1099511627776 < n
      · have d2 : decide ((1099511627776 : Int) < n) = true := decide_eq_true b2
        clear hbad b1 b2
        go_wp2
        go_ret
        exact ⟨rfl, F, HN1.out, Step.same (Kept.of_below B1.out F)⟩
      · have d2 : decide ((1099511627776 : Int) < n) = false := decide_eq_false b2
        by_cases b3 : 4096 < b.size
        · have d3 : decide ((4096 : Int) < (b.size : Int)) = true := decide_eq_true (by omega)
          have d3' : decide (4096 < b.size) = true := decide_eq_true b3
          clear hbad b1 b2 b3
          go_wp2
          go_ret
          exact ⟨rfl, F, HN1.out, Step.same (Kept.of_below B1.out F)⟩
        · have d3 : decide ((4096 : Int) < (b.size : Int)) = false := decide_eq_false (by omega)
          have d3' : decide (4096 < b.size) = false := decide_eq_false b3
          obtain ⟨hu0, hm0⟩ : u = false ∧ 300 ≤ m := by
            rcases hbad with h | h | h | h
            · omega
            · omega
            · omega
            · exact h
          subst hu0
          have d4 : decide ((300 : Int) ≤ (m : Int)) = true := decide_eq_true (by omega)
          have d4' : decide (300 ≤ m) = true := decide_eq_true hm0
          clear hbad b1 b2 b3 hm0
          go_wp2
          go_ret
          exact ⟨rfl, F, HN1.out, Step.same (Kept.of_below B1.out F)⟩
  · have hok := H1.out.ok.put hbad
    have hRe : R = (putN S n b, true) := by rw [← HR.out]; unfold addN; rw [if_neg hbad]
    subst hRe
    have HOK := Lib.hid hok
    unfold BadN at hbad
    rw [HU.out, HM.out] at hbad
    have d1 : decide (n < 1) = false := decide_eq_false (by omega)
    have d2 : decide ((1099511627776 : Int) < n) = false := decide_eq_false (by omega)
    have d3 : decide ((4096 : Int) < (b.size : Int)) = false := decide_eq_false (by omega)
    have d3' : decide (4096 < b.size) = false := decide_eq_false (by omega)
    cases u with
    | true =>
      obtain ⟨hlt, he⟩ := (hasF_iff H1.out.ok.up n).1 HU.out
      have hput : putN S n b = S.set i (n, b) := by unfold putN; rw [if_pos HU.out]; unfold setF; rw [HI.out]
      have hlt' : i < S.length := by rw [← HI.out]; exact hlt
      have hltm : i < m := by rw [← HM.out]; exact hlt'
      have hok2 := HOK.out
      rw [hput] at hok2
      have own1 := H1.out.2.1
      obtain ⟨g, cap, hform⟩ := Joins.ownsRow_form own1 (by omega)
      injection hform with e1 e2 e3
      subst e1
      subst e3
      have hgF := H1.out.2.2.2.1 g rfl
      have hgq : g ≠ q := fun e => H1.out.ne (by rw [← e]; rfl)
      have hz0 := own1.cells (g := g) rfl (i * 2) _ (tRow_get0 S i hlt')
      have hz1 := own1.cells (g := g) rfl (i * 2 + 1) _ (tRow_get1 S i hlt')
      obtain ⟨X, hX⟩ : ∃ X, (S[i]'hlt').1 = X := ⟨_, rfl⟩
      obtain ⟨Y, hY⟩ : ∃ Y, (S[i]'hlt').2 = Y := ⟨_, rfl⟩
      rw [hX, Addr.add_lit, Nat.zero_add] at hz0
      rw [hY, Addr.add_lit, Nat.zero_add] at hz1
      have own2 := (own1.stored (i * 2) (.int .i64 n)).1
      have hz2 := own2.cells (g := g) rfl (i * 2 + 1) (.string Y) (by rw [List.getElem?_set_ne (by omega), tRow_get1 S i hlt', hY])
      rw [Addr.add_lit, Nat.zero_add] at hz2
      have HC2 : Hid ((w1.setCell ⟨g, i * 2, none⟩ (.int .i64 n)).drew.cell? ⟨g, i * 2 + 1, none⟩ = some (.string Y) ∧ (w1.setCell ⟨g, i * 2, none⟩ (.int .i64 n)).drew.frozen? ⟨g, i * 2 + 1, none⟩ = false) := Lib.hid ⟨hz2, own2.frozenAt _⟩
      have hst := ((own1.stored (i * 2) (.int .i64 n)).1.stored (i * 2 + 1) (.string b)).1
      rw [tRow_set S hlt' n b] at hst
      have hkk : Kept F w1 ((w1.setCell ⟨g, i * 2, none⟩ (.int .i64 n)).setCell ⟨g, i * 2 + 1, none⟩ (.string b)) := (Kept.setCell F w1 _ _ hgF).trans (Kept.setCell F _ _ _ hgF) fun _ h => Or.inl h
      have hqq : ((w1.setCell ⟨g, i * 2, none⟩ (.int .i64 n)).setCell ⟨g, i * 2 + 1, none⟩ (.string b)).heap[q]? = some (.cells #[.slice (some ⟨g, 0, none⟩) S.length c] 28 (0, 0)) := by
        rw [Below.heap_setCell _ _ _ _ (fun e => hgq e.symm), Below.heap_setCell _ _ _ _ (fun e => hgq e.symm)]
        exact H1.out.1
      have HRES : Hid (NtIs ((w1.setCell ⟨g, i * 2, none⟩ (.int .i64 n)).setCell ⟨g, i * 2 + 1, none⟩ (.string b)) F q (S.set i (n, b))) := Lib.hid ⟨_, hqq, by rw [List.length_set]; exact hst, H1.out.2.2.1, H1.out.2.2.2.1, hok2⟩
      have HCV : Hid (w1.drew.cell? ⟨g, i * 2, none⟩ = some (.int .i64 X) ∧ w1.drew.cell? ⟨g, i * 2 + 1, none⟩ = some (.string Y)) := Lib.hid ⟨hz0, hz1⟩
      have HFZ : Hid (w1.drew.frozen? ⟨g, i * 2, none⟩ = false ∧ w1.drew.frozen? ⟨g, i * 2 + 1, none⟩ = false) := Lib.hid ⟨own1.frozenAt _, own1.frozenAt _⟩
      have HKK := Lib.hid hkk; have HP := Lib.hid hput
      have i1 : (i : Int) < m := by omega
      have i0 : (0 : Int) ≤ i := by omega
      clear hbad hok hlt he hput hok2 own1 own2 hz2 hgF hgq hz0 hz1 hX hY hst hkk hqq
      go_wp2_with fail
      refine wp_region_z (S := fun w' => Below w1.heap.size w1 w') 7 (by kernel_rfl) ?_ (fun hHeld => ?_)
      · exact (Below.refl _ _).drew
      refine takesZ [0, 1, 2, 3, 4, 5, 6] ?_
      repeat
        refine takesZ_one (v := ?_) ?_ ?_
        rotate_left
        · first | (refine Or.inr ⟨by rfl, ?_⟩; with_reducible rfl) | (refine Or.inl ⟨by rfl, ?_⟩; intro wx hSw; (try dsimp only at hSw); first | (go_simp; first | done | with_reducible rfl) | (obtain ⟨_, _, _⟩ := HCE.out _ hSw; go_simp; first | done | with_reducible rfl))
        try simp only [Act.put, List.getElem_toArray, List.getElem_cons_succ, List.getElem_cons_zero, List.setIfInBounds_toArray, List.set_cons_zero, List.set_cons_succ]
      refine takesZ_nil ?_
      refine wpAnyZ_last (by kernel_rfl) rfl (fun K hK => ?_)
      have hB7 : Below w1.heap.size w1 w1.drew := (Below.refl _ _).drew
      obtain ⟨z0, z1⟩ := HCV.out
      obtain ⟨y0, y1⟩ := HFZ.out
      obtain ⟨z2, y2⟩ := HC2.out
      go_simp
      refine hK.out _ _ ?_
      clear hK K
      try simp only [Act.put, List.getElem_toArray, List.getElem_cons_succ, List.getElem_cons_zero, List.setIfInBounds_toArray, List.set_cons_zero, List.set_cons_succ]
      refine wpAnyZ_done (by kernel_rfl) ?_ _
      have HR9 : Hid (NtIs ((w1.setCell ⟨g, i * 2, none⟩ (.int .i64 n)).setCell ⟨g, i * 2 + 1, none⟩ (.string b)).drew F q (S.set i (n, b))) := Lib.hid HRES.out
      have HS9 : Hid (Step F w F ((w1.setCell ⟨g, i * 2, none⟩ (.int .i64 n)).setCell ⟨g, i * 2 + 1, none⟩ (.string b)).drew) := Lib.hid (Step.same ((Kept.of_below B1.out F).trans (show Kept F w1 ((w1.setCell ⟨g, i * 2, none⟩ (.int .i64 n)).setCell ⟨g, i * 2 + 1, none⟩ (.string b)).drew from ⟨HKK.out.os, HKK.out.tape, HKK.out.output, HKK.out.size, HKK.out.block⟩) fun _ h => Or.inl h))
      go_wp2
      go_ret
      rw [HP.out]
      exact ⟨rfl, F, HR9.out, HS9.out⟩
    | false =>
      have hput : putN S n b = (S.take i ++ [(n, b)]) ++ S.drop i := by
        unfold putN
        rw [if_neg (by rw [HU.out]; simp)]
        unfold insF
        rw [HI.out, List.append_assoc]
        rfl
      have hm4 : ¬ 300 ≤ m := fun h => hbad (Or.inr (Or.inr (Or.inr ⟨rfl, h⟩)))
      have d4 : decide ((300 : Int) ≤ (m : Int)) = false := decide_eq_false (by omega)
      have d4' : decide (300 ≤ m) = false := decide_eq_false hm4
      have HP := Lib.hid hput
      obtain ⟨sh1, rh1⟩ := slT_h HR1.out hnc' hA i hil
      obtain ⟨A', sl1, rl1⟩ := slT_l HR1.out hnc' i hil
      have RH := Lib.hid rh1; have RL := Lib.hid rl1
      clear hbad hok hput rh1 rl1
      go_wp2_with (at_builtin; refine list_ex rfl (.const (.slice none 0 0)) (.tmp 56) _ _ rfl (.slice none 0 0) (.slice A i c) rfl rfl (run_appT0 w1.heap.size RH.out ?s1 (Nat.le_refl _)) ?_)
      case s1 => omega
      intro v2 w2 ho2 hg2
      obtain ⟨A2, k2, rfl, _⟩ := own_slice ho2
      have BZ2 := Lib.hid ((Below.refl w1.heap.size w1).grown hg2 (Nat.le_refl _) (fun j hj => by cases hj))
      have HO2 := Lib.hid ho2
      clear ho2 hg2 k0 x0 x1
      go_wp2_with fail
      refine wp_region_z (S := fun w' => Below w1.heap.size w1 w') 14 (by kernel_rfl) ?_ (fun hHeld => ?_)
      · exact BZ2.out.drew
      refine takesZ [0, 1, 2, 5, 6, 7, 8, 9, 10] ?_
      repeat
        refine takesZ_one (v := ?_) ?_ ?_
        rotate_left
        · first | (refine Or.inr ⟨by rfl, ?_⟩; with_reducible rfl) | (refine Or.inl ⟨by rfl, ?_⟩; intro wx hSw; (try dsimp only at hSw); first | (go_simp; first | done | with_reducible rfl) | (obtain ⟨_, _, _⟩ := HCE.out _ hSw; go_simp; first | done | with_reducible rfl))
        try simp only [Act.put, List.getElem_toArray, List.getElem_cons_succ, List.getElem_cons_zero, List.setIfInBounds_toArray, List.set_cons_zero, List.set_cons_succ]
      refine takesZ_nil ?_
      refine wpAnyZ_one (i := 3) (by kernel_rfl) rfl (fun K hK => ?_)
      go_simp
      refine hK.out _ _ ?_ (fun hHeld => ?_)
      · exact (BZ2.out.alloc BZ2.out.size _).drew
      clear hK K
      try simp only [Act.put, List.getElem_toArray, List.getElem_cons_succ, List.getElem_cons_zero, List.setIfInBounds_toArray, List.set_cons_zero, List.set_cons_succ]
      have RD := Lib.hid (one_rdT w2 n b).drew
      have OW : Hid ((w2.alloc (.cells #[.int .i64 n, .string b] 30)).drew.ownsRow w1.heap.size 30 2 (.slice A2 i k2) i (tRow (S.take i))) := Lib.hid (HO2.out.alloc _)
      have B3 := Lib.hid (BZ2.out.alloc BZ2.out.size (.cells #[.int .i64 n, .string b] 30)).drew
      generalize (w2.alloc (.cells #[.int .i64 n, .string b] 30)).drew = w3 at *
      refine wpAnyZ_one (i := 4) (by kernel_rfl) rfl (fun K hK => ?_)
      refine step_ex rfl (.tmp 59) (.tmp 61) _ _ rfl (.slice A2 i k2) (.slice (some ⟨w2.heap.size, 0, none⟩) 1 1) (by simp [Act.eval]) (by simp [Act.eval]) (run_appT w1.heap.size OW.out RD.out ?s2 ?s3) ?_
      case s2 => omega
      case s3 => exact B3.out.size
      intro v4 w4 ho4 hr4
      obtain ⟨A4, k4, rfl, _⟩ := own_slice ho4
      have B4 := Lib.hid (B3.out.grown hr4.1 B3.out.size (fun g hg => (OW.out.lt g hg).1))
      have HO4 := Lib.hid ho4
      clear ho4 hr4
      refine hK.out _ _ ?_ (fun hHeld => ?_)
      · exact B4.out
      clear hK K
      try simp only [Act.put, List.getElem_toArray, List.getElem_cons_succ, List.getElem_cons_zero, List.setIfInBounds_toArray, List.set_cons_zero, List.set_cons_succ]
      refine wpAnyZ_one (i := 11) (by kernel_rfl) rfl (fun K hK => ?_)
      refine step_ex rfl (.tmp 62) (.tmp 68) _ _ rfl (.slice A4 (i + 1) k4) (.slice A' (m - i) (c - i)) (by simp [Act.eval]) (by simp [Act.eval]) (run_appT w1.heap.size HO4.out (RL.out.below B4.out) ?s4 ?s5) ?_
      case s4 => omega
      case s5 => exact B4.out.size
      intro v5 w5 ho5 hr5
      obtain ⟨A5, k5, rfl, _⟩ := own_slice ho5
      have B5 := Lib.hid (B4.out.grown hr5.1 B4.out.size (fun g hg => (HO4.out.lt g hg).1))
      have HO5 := Lib.hid ho5
      have HQ4 := Lib.hid ((B5.out.block q HQ1.out).trans HQB.out)
      clear ho5 hr5
      refine hK.out _ _ ?_ (fun hHeld => ?_)
      · exact B5.out
      clear hK K
      try simp only [Act.put, List.getElem_toArray, List.getElem_cons_succ, List.getElem_cons_zero, List.setIfInBounds_toArray, List.set_cons_zero, List.set_cons_succ]
      have g4 := cell_at (i := 0) HQ4.out rfl
      have f4 := thawed_at (i := 0) HQ4.out
      refine wpAnyZ_one (i := 12) (by kernel_rfl) rfl (fun K hK => ?_)
      go_simp
      refine hK.out _ _ ?_ (fun hHeld => ?_)
      · exact B5.out
      clear hK K
      try simp only [Act.put, List.getElem_toArray, List.getElem_cons_succ, List.getElem_cons_zero, List.setIfInBounds_toArray, List.set_cons_zero, List.set_cons_succ]
      refine takesZ [13] ?_
      repeat
        refine takesZ_one (v := ?_) ?_ ?_
        rotate_left
        · first | (refine Or.inr ⟨by rfl, ?_⟩; with_reducible rfl) | (refine Or.inl ⟨by rfl, ?_⟩; intro wx hSw; (try dsimp only at hSw); first | (go_simp; first | done | with_reducible rfl))
        try simp only [Act.put, List.getElem_toArray, List.getElem_cons_succ, List.getElem_cons_zero, List.setIfInBounds_toArray, List.set_cons_zero, List.set_cons_succ]
      refine takesZ_nil ?_
      refine wpAnyZ_last (by kernel_rfl) rfl (fun K hK => ?_)
      go_simp
      refine hK.out _ _ ?_
      clear hK K
      try simp only [Act.put, List.getElem_toArray, List.getElem_cons_succ, List.getElem_cons_zero, List.setIfInBounds_toArray, List.set_cons_zero, List.set_cons_succ]
      refine wpAnyZ_done (by kernel_rfl) ?_ _
      have hown := HO5.out
      rw [← HP.out] at hown
      have hbase := fun g hg => (hown.lt g hg).1
      have hlt5 := own_block_lt hown
      have hz1 := B1.out.size
      have e0 : (w5.setCell ⟨q, 0, none⟩ (.slice A5 (i + 1 + (m - i)) k5)).heap.size = w5.heap.size := by simp [World.setCell]
      have bb : Below w.heap.size w w5 := B1.out.trans (B5.out.mono B1.out.size)
      have hlen : (putN S n b).length = i + 1 + (m - i) := by
        rw [HP.out, List.length_append, List.length_append, List.length_take, List.length_drop, HM.out]
        simp
        omega
      have HRES : Hid (NtIs (w5.setCell ⟨q, 0, none⟩ (.slice A5 (i + 1 + (m - i)) k5)) (Plus F w w5) q (putN S n b)) := Lib.hid ⟨_, NtAt.set_notes HQ4.out (own_down hown (Nat.zero_le _)) hlen (Or.inl H1.out.2.2.1) (fun g hg => Or.inr ⟨by have := hbase g hg; omega, hlt5 g hg⟩) HOK.out⟩
      have HST : Hid (Step F w (Plus F w w5) (w5.setCell ⟨q, 0, none⟩ (.slice A5 (i + 1 + (m - i)) k5))) := Lib.hid ⟨(Kept.of_below bb F).trans (Kept.setCell F w5 _ _ H1.out.2.2.1) fun k hk => Or.inl hk, fun k hk => by rw [e0]; exact hk⟩
      clear hown hbase hlt5 e0 bb hlen
      go_wp2
      go_ret
      exact ⟨rfl, _, HRES.out, HST.out⟩
end Go.Proofs.Ytfldlkdnjkaidaa
