/-
  The document's own reader: texts.
-/
import Derived.Test.YtdbdlgmejddbhaaDoorTkl
import Derived.Test.YtdbdlgmejddbhaaDoorLxx
import Derived.Test.YtdbdlgmejddbhaaDoorRf7
import Derived.Test.YtdbdlgmejddbhaaDoorRf5
set_option linter.unusedVariables false
namespace Go.Proofs.YtdbdlgmejddbhaaDoor
open Go Go.RowKit Go.Proofs

theorem text_form (s : ByteArray) (p0 : Nat) (hp : p0 < s.size) (hc : (Utf8.decode s p0).1 = 39) : ∃ (T : ByteArray) (N : Nat) (ok : Bool), unquoteV (unquoteO s.data.toList (p0 : Nat)) = .tuple #[.string T, .int .i64 (N : Nat), .bool ok] ∧ N ≤ s.size ∧ T.size ≤ s.size ∧
    (ok = false → textTok (s.data.toList.drop p0) = none) ∧ (ok = true → textTok (s.data.toList.drop p0) = if T.size ≤ 100 ∧ validB T = true then some (3, T.data.toList, 0, N - p0) else none) ∧ (ok = true → p0 < N) := by
  have hsz : s.data.toList.length = s.size := by rw [Lib.size_eq]
  have hd : s.data.toList.drop p0 = 39 :: s.data.toList.drop (p0 + 1) := by
    have := drop_piece s p0 hp
    rw [piece_low s p0 39 hp (by omega) hc] at this
    exact this
  have hg : s.data.toList[p0]? = some 39 := by
    have := congrArg (fun l => l[0]?) hd
    simpa using this
  have hu : unquoteO s.data.toList (p0 : Nat) = (unq (s.data.toList.drop (p0 + 1))).map (fun x => (x.1, p0 + 1 + x.2)) := by
    unfold unquoteO
    rw [if_neg (by omega), Int.toNat_natCast, if_pos hg]
  rw [hu]
  unfold textTok
  rw [hd, show (39 :: s.data.toList.drop (p0 + 1)).drop 1 = s.data.toList.drop (p0 + 1) from rfl]
  cases hx : unq (s.data.toList.drop (p0 + 1)) with
  | none => exact ⟨⟨#[]⟩, 0, false, rfl, by omega, Nat.zero_le _, fun _ => rfl, (fun h => by cases h), fun h => by cases h⟩
  | some x =>
    have h1 := (unq_pos _ x hx).2
    have h2 := unq_short _ x hx
    rw [List.length_drop, hsz] at h1 h2
    refine ⟨⟨x.1.toArray⟩, p0 + 1 + x.2, true, rfl, by omega, ?_, (fun h => by cases h), (fun _ => ?_), fun _ => by omega⟩
    · rw [show (ByteArray.mk x.1.toArray).size = x.1.length from List.size_toArray]; omega
    · rw [show (ByteArray.mk x.1.toArray).size = x.1.length from List.size_toArray, show p0 + 1 + x.2 - p0 = 1 + x.2 from by omega]

set_option maxHeartbeats 4000000 in
set_option maxRecDepth 100000 in
theorem ptext_any {B q I0 p0 : Nat} {s : ByteArray} {v : Value} (w : World) (h : PSt B w q s v I0 p0) (hs : s.size ≤ 1000) (hp0 : p0 < s.size) (hl : (Utf8.decode s p0).1 = 39) :
    Calls Tryd.prog 34 #[.pointer (some ⟨q, 0, none⟩)] w fun e w' => POut B q s v I0 p0 (textTok (s.data.toList.drop p0)) w e w' := by
  have hlen := cps_length s
  have hI0 : I0 ≤ 1000 := by have := h.pos.2.1; omega
  obtain ⟨T, N, ok, hu, hN, hT, hno, hyes, hpn⟩ := text_form s p0 hp0 hl
  obtain ⟨W, hW⟩ : ∃ W, w.alloc refZ = W := ⟨_, rfl⟩
  have b0 : Below w.heap.size w W := by rw [← hW]; exact (Below.refl _ _).alloc (Nat.le_refl _) _
  have n0 : W.heap[w.heap.size]? = some refZ := by rw [← hW]; exact heap_alloc_new w _
  have hsz : W.heap.size = w.heap.size + 1 := by rw [← hW]; simp
  have PW := h.below b0
  have hqw : q ≠ w.heap.size := by have := h.lt; omega
  obtain ⟨A, cap, rfl, hcap, hmax, hform⟩ := PW.all.form
  unfold maxLen at hmax
  obtain ⟨g1, g2, _⟩ := h.pos.get hp0
  obtain ⟨g, rfl, hcell⟩ : ∃ g, A = some ⟨g, 0, none⟩ ∧ _ := hform.resolve_left (fun h => by rw [h] at g1; simp at g1)
  obtain ⟨_, x1, _, _⟩ := hcell _ _ g2
  have hg : g < W.heap.size := Lib.lt_of_cell x1
  have hq := PW.lt
  have C0 := Lib.hid (cell_at (i := 0) PW.blk rfl)
  have C1 := Lib.hid (cell_at (i := 1) PW.blk rfl)
  have X1 := Lib.hid x1
  have HQ := Lib.hid hq
  have HG := Lib.hid hg
  have HPW := Lib.hid PW
  have HB0 := Lib.hid b0
  have N0 := Lib.hid n0
  have U := Lib.hid hu
  have HNO := Lib.hid hno
  have HYES := Lib.hid hyes
  have HPN := Lib.hid hpn
  clear hpn
  have next : ∀ {x y : World}, Below W.heap.size W x → Below x.heap.size x y → Below W.heap.size W y := fun h1 h2 => h1.trans (h2.mono h1.size)
  have c2 := cell_at (i := 2) PW.blk rfl
  have i0 : (0 : Int) ≤ (I0 : Int) := by omega
  have i1 : (I0 : Int) < ((cps s).length : Int) := by omega
  clear h PW b0 n0 hform hcell g2 x1 hg hq hu hno hyes
  go_enter Tryd.func34, Tryd.ntmps34
  go_wp2_with fail
  refine wp_region_held_drew (S := fun w' => Below W.heap.size W w') (by kernel_rfl) ?_ (fun hHeld => ?_)
  · exact (Below.refl _ _).drew
  refine takesH [0, 1, 2, 3, 4, 5, 6, 7, 8, 9, 10, 11] ?_
  repeat
    refine takesH_one (v := ?_) ?_ ?_
    rotate_left
    · first | (refine Or.inr ⟨by rfl, ?_⟩; with_reducible rfl) | (refine Or.inl ⟨by rfl, ?_⟩; intro wx hSw; (try dsimp only at hSw); first | (go_simp; first | done | with_reducible rfl) | ((have _c0 := (hSw.cell (p := ⟨q, 0, none⟩) HQ.out).trans C0.out; have _c1 := (hSw.cell (p := ⟨q, 1, none⟩) HQ.out).trans C1.out; have _x1 := (hSw.cell (p := ⟨g, I0 * 4 + 1, none⟩) HG.out).trans X1.out); go_simp; first | done | with_reducible rfl))
    try simp only [Act.put, List.getElem_toArray, List.getElem_cons_succ, List.getElem_cons_zero, List.setIfInBounds_toArray, List.set_cons_zero, List.set_cons_succ]
  refine takesH_nil ?_
  refine wpAnyH_ready (rs := [12]) (by kernel_rfl) (by simp) (AllReadyH.cons rfl (fun K hK => ?_) AllReadyH.nil)
  go_simp
  refine (runquote_any _ _ _ (by omega)).mono ?_
  rintro x v1 ⟨rfl, b1⟩
  rw [U.out]
  try go_wp2_with fail
  refine hK.out _ _ ?_ (fun hHeld => ?_)
  · exact next (by assumption) b1
  clear hK K
  try simp only [Act.put, List.getElem_toArray, List.getElem_cons_succ, List.getElem_cons_zero, List.setIfInBounds_toArray, List.set_cons_zero, List.set_cons_succ]
  refine takesH [13, 14, 15, 16, 17, 18, 19] ?_
  repeat
    refine takesH_one (v := ?_) ?_ ?_
    rotate_left
    · first | (refine Or.inr ⟨by rfl, ?_⟩; with_reducible rfl) | (refine Or.inl ⟨by rfl, ?_⟩; intro wx hSw; (try dsimp only at hSw); first | (go_simp; first | done | with_reducible rfl))
    try simp only [Act.put, List.getElem_toArray, List.getElem_cons_succ, List.getElem_cons_zero, List.setIfInBounds_toArray, List.set_cons_zero, List.set_cons_succ]
  refine takesH_nil ?_
  refine wpAnyH_done (by kernel_rfl) ?_ _
  have PV := HPW.out.below hHeld
  have KV : Kept (fun k => k = q) W v1 := Kept.of_below hHeld (fun k => k = q)
  have HPV := Lib.hid PV
  have HKV := Lib.hid KV
  clear PV KV hHeld c2 C0 C1 X1 HQ HG next U
  go_wp2_with fail
  go_loopw [] (fun wr => ∃ J r, PSt B wr q s (.slice (some ⟨g, 0, none⟩) (cps s).length cap) J r ∧ Kept (fun k => k = q) W wr ∧ lx (s.data.toList.drop p0) I0 (N - p0) = lx (s.data.toList.drop r) J (N - r) ∧ I0 ≤ J ∧ (J = I0 → r = p0)) (fun wr => (cps s).length - mI wr q)
  case atStart => exact ⟨I0, p0, HPV.out, HKV.out, rfl, Nat.le_refl _, fun _ => rfl⟩
  case round =>
    obtain ⟨J, r, hP, hK, hx, hij, hir⟩ := hrel
    have HIR := Lib.hid hir
    clear hir
    have hJ : J ≤ 1000 := by have := hP.pos.2.1; omega
    have c1 := cell_at (i := 1) hP.blk rfl
    have c2 := cell_at (i := 2) hP.blk rfl
    have HP := Lib.hid hP
    have HK := Lib.hid hK
    have HX := Lib.hid hx
    have HM := Lib.hid hP.mI
    have hrs : r ≤ s.size := hP.pos.1
    by_cases hr : r < s.size
    · obtain ⟨e1, e2, e3⟩ := hP.pos.get hr
      obtain ⟨A', cap', he, _, _, hf⟩ := hP.all.form
      injection he with h1 h2 h3
      subst h1
      obtain ⟨g', hg', hcell⟩ : ∃ g', some (⟨g, 0, none⟩ : Addr) = some ⟨g', 0, none⟩ ∧ _ := hf.resolve_left (fun h => by rw [h] at e1; simp at e1)
      injection hg' with hg'
      injection hg' with hg'
      subst hg'
      obtain ⟨_, x1, _, _⟩ := hcell _ _ e2
      have j0 : (0 : Int) ≤ (J : Int) := by omega
      have j1 : (J : Int) < ((cps s).length : Int) := by omega
      have hd : decide ((J : Int) < ((cps s).length : Int)) = true := by simp; omega
      have hdn : decide (J < (cps s).length) = true := by simp; omega
      have HE3 := Lib.hid e3
      clear hP hK hx hcell hf e2 e3 h2 h3
      by_cases hrn : r < N
      · have k1 : decide ((r : Int) < (N : Int)) = true := by simp; omega
        have k2 : decide (r < N) = true := by simp; omega
        have hwd := width_pos s r hr
        have hnew : lx (s.data.toList.drop p0) I0 (N - p0) = lx (s.data.toList.drop (r + (Utf8.decode s r).2)) (J + 1) (N - (r + (Utf8.decode s r).2)) := by
          rw [HX.out, lx_skip (drop_ne s r hr) (by omega), List.drop_drop, Lib.decodeL_drop, Nat.sub_sub]
        have HNEW := Lib.hid hnew
        clear hnew
        go_wp2_with fail
        go_quiet (fail)
        have P5 := HP.out.drewN nq
        have K5 : Kept (fun k => k = q) W (wr.drewN nq) := HK.out.trans (Kept.of_below (below_drewN2 _ _) (fun k => k = q)) (fun k hk => Or.inl hk)
        have S5 := P5.step HE3.out
        have d2 := cell_at (i := 2) P5.blk rfl
        have d3 := thawed_at (i := 2) P5.blk
        have HS5 := Lib.hid S5
        have HK5 := Lib.hid K5
        clear P5 K5 S5
        go_wp2_with fail
        refine ⟨?_, ?_⟩
        · repeat apply Exists.intro
          first
          | exact ⟨HS5.out.1, HK5.out.trans HS5.out.2 (fun k hk => Or.inl hk), HNEW.out, by omega, fun e => by omega⟩
          | exact ⟨⟨HS5.out.1, HK5.out.trans HS5.out.2 (fun k hk => Or.inl hk), HNEW.out, by omega, fun e => by omega⟩, rfl⟩
        change (cps s).length - mI ((wr.drewN nq).setCell ⟨q, 2, none⟩ (.int .i64 ((J + 1 : Nat) : Int))) q < (cps s).length - mI wr q
        rw [HS5.out.1.mI, HM.out]
        omega
      · have k1 : decide ((r : Int) < (N : Int)) = false := by simp; omega
        have k2 : decide (r < N) = false := by simp; omega
        have hfin : lx (s.data.toList.drop p0) I0 (N - p0) = lx (s.data.toList.drop r) J 0 := by rw [HX.out, show N - r = 0 from by omega]
        have HFIN := Lib.hid hfin
        clear hfin
        go_wp2_with fail
        go_quiet (fail)
        have P5 := HP.out.drewN nq
        have K5 : Kept (fun k => k = q) w (wr.drewN nq) := ((Kept.of_below HB0.out (fun k => k = q)).trans HK.out (fun k hk => Or.inl hk)).trans (Kept.of_below (below_drewN2 _ _) (fun k => k = q)) (fun k hk => Or.inl hk)
        have z5 : (wr.drewN nq).heap[w.heap.size]? = some refZ := (HK.out.block _ (by omega) (fun e => hqw e.symm)).trans N0.out
        generalize wr.drewN nq = w5 at *
        have HP5 := Lib.hid P5
        have HK5 := Lib.hid K5
        have HZ5 := Lib.hid z5
        clear P5 K5 z5
        cases ok with
        | false =>
          obtain ⟨y4, P4, K4⟩ := ref_end (N := w.heap.size) HP5.out HK5.out (Nat.le_refl _) hqw HZ5.out (.int .i64 3) (.string T) (.int .i64 0) (.int .i64 (I0 : Nat))
          have HY := Lib.hid y4
          have HPY := Lib.hid P4
          have HKY := Lib.hid K4
          have d0 := cell_at (i := 0) HZ5.out rfl
          have d1 := cell_at (i := 1) HZ5.out rfl
          have d2 := cell_at (i := 2) HZ5.out rfl
          have d3 := cell_at (i := 3) HZ5.out rfl
          have f0 := thawed_at (i := 0) HZ5.out
          have f1 := thawed_at (i := 1) HZ5.out
          have f2 := thawed_at (i := 2) HZ5.out
          have f3 := thawed_at (i := 3) HZ5.out
          clear y4 P4 K4
          go_wp2
          try simp only [Exit.inBlock, Exit.then]
          refine bodyPost_ret (results_c2 rfl _ _ w.heap.size _ _ _ _ rfl HY.out Tryd.underlying32 rfl (by kernel_rfl)) rfl ⟨false, _, _, _, _, J, r, rfl, HPY.out, HKY.out, (fun h => by cases h), (fun _ => HNO.out (by simp)), fun h => by cases h⟩
        | true =>
          by_cases hT1 : T.size ≤ 100
          · go_wp2_with fail
            refine (rvalid_any T _ (by omega)).mono ?_
            rintro e w6 ⟨rfl, b6⟩
            have P6 := HP5.out.below b6
            have K6 : Kept (fun k => k = q) w w6 := HK5.out.trans (Kept.of_below b6 (fun k => k = q)) (fun k hk => Or.inl hk)
            have z6 : w6.heap[w.heap.size]? = some refZ := (b6.block _ (Array.getElem?_eq_some_iff.1 HZ5.out).1).trans HZ5.out
            obtain ⟨y4, P4, K4⟩ := ref_end (N := w.heap.size) P6 K6 (Nat.le_refl _) hqw z6 (.int .i64 3) (.string T) (.int .i64 0) (.int .i64 (I0 : Nat))
            have HZ6 := Lib.hid z6
            clear P6 K6 z6 b6
            have HY := Lib.hid y4
            have HPY := Lib.hid P4
            have HKY := Lib.hid K4
            have d0 := cell_at (i := 0) HZ6.out rfl
            have d1 := cell_at (i := 1) HZ6.out rfl
            have d2 := cell_at (i := 2) HZ6.out rfl
            have d3 := cell_at (i := 3) HZ6.out rfl
            have f0 := thawed_at (i := 0) HZ6.out
            have f1 := thawed_at (i := 1) HZ6.out
            have f2 := thawed_at (i := 2) HZ6.out
            have f3 := thawed_at (i := 3) HZ6.out
            clear y4 P4 K4
            cases hvb : validB T with
            | true =>
              go_wp2
              try simp only [Exit.inBlock, Exit.then]
              refine bodyPost_ret (results_c2 rfl _ _ w.heap.size _ _ _ _ rfl HY.out Tryd.underlying32 rfl (by kernel_rfl)) rfl ⟨true, _, _, _, _, J, r, rfl, HPY.out, HKY.out, (fun _ => ⟨(3, T.data.toList, 0, N - p0), by rw [HYES.out (by simp), if_pos ⟨hT1, hvb⟩], rfl, rfl, rfl, rfl, HFIN.out⟩), (fun h => by cases h), fun _ => by
                rcases Nat.lt_or_ge I0 J with h | h
                · exact h
                · have h1 := HIR.out (by omega)
                  have h2 := HPN.out (by simp)
                  omega⟩
            | false =>
              go_wp2
              try simp only [Exit.inBlock, Exit.then]
              refine bodyPost_ret (results_c2 rfl _ _ w.heap.size _ _ _ _ rfl HY.out Tryd.underlying32 rfl (by kernel_rfl)) rfl ⟨false, _, _, _, _, J, r, rfl, HPY.out, HKY.out, (fun h => by cases h), fun _ => by rw [HYES.out (by simp), if_neg (fun h => by rw [hvb] at h; exact absurd h.2 (by decide))], fun h => by cases h⟩
          · obtain ⟨y4, P4, K4⟩ := ref_end (N := w.heap.size) HP5.out HK5.out (Nat.le_refl _) hqw HZ5.out (.int .i64 3) (.string T) (.int .i64 0) (.int .i64 (I0 : Nat))
            have HY := Lib.hid y4
            have HPY := Lib.hid P4
            have HKY := Lib.hid K4
            have d0 := cell_at (i := 0) HZ5.out rfl
            have d1 := cell_at (i := 1) HZ5.out rfl
            have d2 := cell_at (i := 2) HZ5.out rfl
            have d3 := cell_at (i := 3) HZ5.out rfl
            have f0 := thawed_at (i := 0) HZ5.out
            have f1 := thawed_at (i := 1) HZ5.out
            have f2 := thawed_at (i := 2) HZ5.out
            have f3 := thawed_at (i := 3) HZ5.out
            clear y4 P4 K4
            have hT2 : ¬ (T.size : Int) ≤ 100 := by omega
            go_wp2
            try simp only [Exit.inBlock, Exit.then]
            refine bodyPost_ret (results_c2 rfl _ _ w.heap.size _ _ _ _ rfl HY.out Tryd.underlying32 rfl (by kernel_rfl)) rfl ⟨false, _, _, _, _, J, r, rfl, HPY.out, HKY.out, (fun h => by cases h), fun _ => by rw [HYES.out (by simp), if_neg (fun h => hT1 h.1)], fun h => by cases h⟩
    · obtain ⟨e1, e2⟩ := hP.pos.fin hr
      have hd : decide ((J : Int) < ((cps s).length : Int)) = false := by simp; omega
      have hdn : decide (J < (cps s).length) = false := by simp; omega
      have hj1 : ¬ (J : Int) < ((cps s).length : Int) := by omega
      have hfin : lx (s.data.toList.drop p0) I0 (N - p0) = lx (s.data.toList.drop r) J 0 := by
        rw [HX.out, show s.data.toList.drop r = [] from List.drop_eq_nil_of_le (by rw [← Lib.size_eq]; omega)]
        rfl
      have HFIN := Lib.hid hfin
      clear hP hK hx hfin
      go_wp2_with fail
      go_quiet (fail)
      have P5 := HP.out.drewN nq
      have K5 : Kept (fun k => k = q) w (wr.drewN nq) := ((Kept.of_below HB0.out (fun k => k = q)).trans HK.out (fun k hk => Or.inl hk)).trans (Kept.of_below (below_drewN2 _ _) (fun k => k = q)) (fun k hk => Or.inl hk)
      have z5 : (wr.drewN nq).heap[w.heap.size]? = some refZ := (HK.out.block _ (by omega) (fun e => hqw e.symm)).trans N0.out
      generalize wr.drewN nq = w5 at *
      have HP5 := Lib.hid P5
      have HK5 := Lib.hid K5
      have HZ5 := Lib.hid z5
      clear P5 K5 z5
      cases ok with
      | false =>
        obtain ⟨y4, P4, K4⟩ := ref_end (N := w.heap.size) HP5.out HK5.out (Nat.le_refl _) hqw HZ5.out (.int .i64 3) (.string T) (.int .i64 0) (.int .i64 (I0 : Nat))
        have HY := Lib.hid y4
        have HPY := Lib.hid P4
        have HKY := Lib.hid K4
        have d0 := cell_at (i := 0) HZ5.out rfl
        have d1 := cell_at (i := 1) HZ5.out rfl
        have d2 := cell_at (i := 2) HZ5.out rfl
        have d3 := cell_at (i := 3) HZ5.out rfl
        have f0 := thawed_at (i := 0) HZ5.out
        have f1 := thawed_at (i := 1) HZ5.out
        have f2 := thawed_at (i := 2) HZ5.out
        have f3 := thawed_at (i := 3) HZ5.out
        clear y4 P4 K4
        go_wp2
        try simp only [Exit.inBlock, Exit.then]
        refine bodyPost_ret (results_c2 rfl _ _ w.heap.size _ _ _ _ rfl HY.out Tryd.underlying32 rfl (by kernel_rfl)) rfl ⟨false, _, _, _, _, J, r, rfl, HPY.out, HKY.out, (fun h => by cases h), (fun _ => HNO.out (by simp)), fun h => by cases h⟩
      | true =>
        by_cases hT1 : T.size ≤ 100
        · go_wp2_with fail
          refine (rvalid_any T _ (by omega)).mono ?_
          rintro e w6 ⟨rfl, b6⟩
          have P6 := HP5.out.below b6
          have K6 : Kept (fun k => k = q) w w6 := HK5.out.trans (Kept.of_below b6 (fun k => k = q)) (fun k hk => Or.inl hk)
          have z6 : w6.heap[w.heap.size]? = some refZ := (b6.block _ (Array.getElem?_eq_some_iff.1 HZ5.out).1).trans HZ5.out
          obtain ⟨y4, P4, K4⟩ := ref_end (N := w.heap.size) P6 K6 (Nat.le_refl _) hqw z6 (.int .i64 3) (.string T) (.int .i64 0) (.int .i64 (I0 : Nat))
          have HZ6 := Lib.hid z6
          clear P6 K6 z6 b6
          have HY := Lib.hid y4
          have HPY := Lib.hid P4
          have HKY := Lib.hid K4
          have d0 := cell_at (i := 0) HZ6.out rfl
          have d1 := cell_at (i := 1) HZ6.out rfl
          have d2 := cell_at (i := 2) HZ6.out rfl
          have d3 := cell_at (i := 3) HZ6.out rfl
          have f0 := thawed_at (i := 0) HZ6.out
          have f1 := thawed_at (i := 1) HZ6.out
          have f2 := thawed_at (i := 2) HZ6.out
          have f3 := thawed_at (i := 3) HZ6.out
          clear y4 P4 K4
          cases hvb : validB T with
          | true =>
            go_wp2
            try simp only [Exit.inBlock, Exit.then]
            refine bodyPost_ret (results_c2 rfl _ _ w.heap.size _ _ _ _ rfl HY.out Tryd.underlying32 rfl (by kernel_rfl)) rfl ⟨true, _, _, _, _, J, r, rfl, HPY.out, HKY.out, (fun _ => ⟨(3, T.data.toList, 0, N - p0), by rw [HYES.out (by simp), if_pos ⟨hT1, hvb⟩], rfl, rfl, rfl, rfl, HFIN.out⟩), (fun h => by cases h), fun _ => by
              rcases Nat.lt_or_ge I0 J with h | h
              · exact h
              · have h1 := HIR.out (by omega)
                have h2 := HPN.out (by simp)
                omega⟩
          | false =>
            go_wp2
            try simp only [Exit.inBlock, Exit.then]
            refine bodyPost_ret (results_c2 rfl _ _ w.heap.size _ _ _ _ rfl HY.out Tryd.underlying32 rfl (by kernel_rfl)) rfl ⟨false, _, _, _, _, J, r, rfl, HPY.out, HKY.out, (fun h => by cases h), fun _ => by rw [HYES.out (by simp), if_neg (fun h => by rw [hvb] at h; exact absurd h.2 (by decide))], fun h => by cases h⟩
        · obtain ⟨y4, P4, K4⟩ := ref_end (N := w.heap.size) HP5.out HK5.out (Nat.le_refl _) hqw HZ5.out (.int .i64 3) (.string T) (.int .i64 0) (.int .i64 (I0 : Nat))
          have HY := Lib.hid y4
          have HPY := Lib.hid P4
          have HKY := Lib.hid K4
          have d0 := cell_at (i := 0) HZ5.out rfl
          have d1 := cell_at (i := 1) HZ5.out rfl
          have d2 := cell_at (i := 2) HZ5.out rfl
          have d3 := cell_at (i := 3) HZ5.out rfl
          have f0 := thawed_at (i := 0) HZ5.out
          have f1 := thawed_at (i := 1) HZ5.out
          have f2 := thawed_at (i := 2) HZ5.out
          have f3 := thawed_at (i := 3) HZ5.out
          clear y4 P4 K4
          have hT2 : ¬ (T.size : Int) ≤ 100 := by omega
          go_wp2
          try simp only [Exit.inBlock, Exit.then]
          refine bodyPost_ret (results_c2 rfl _ _ w.heap.size _ _ _ _ rfl HY.out Tryd.underlying32 rfl (by kernel_rfl)) rfl ⟨false, _, _, _, _, J, r, rfl, HPY.out, HKY.out, (fun h => by cases h), fun _ => by rw [HYES.out (by simp), if_neg (fun h => hT1 h.1)], fun h => by cases h⟩
end Go.Proofs.YtdbdlgmejddbhaaDoor
