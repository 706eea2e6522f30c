/-
  LexBlanks: the walk.
-/
import Derived.Test.YtdbdlgmejddbhaaDoorLx7
import Derived.Test.YtdbdlgmejddbhaaDoorLxf
import Derived.Test.YtdbdlgmejddbhaaDoorLxp
import Derived.Test.YtdbdlgmejddbhaaDoorRf7
import Derived.Test.YtdbdlgmejddbhaaDoorTkl
import Derived.Deep.QuietTactic
import Derived.BigQuiet
set_option linter.unusedVariables false
namespace Go.Proofs.YtdbdlgmejddbhaaDoor
open Go Go.RowKit Go.Proofs

theorem lall_big2 (s : ByteArray) (w : World) (hs : s.size ≤ maxLen) (hb : 1000 < s.size) :
    Calls Tryd.prog 8 #[.string s] w fun e w' => e = .returned (.tuple #[.slice none 0 0, .int .i64 0, .int .i64 2]) ∧ Below w.heap.size w w' := by
  unfold maxLen at hs
  have h2 : (1000 : Int) < (s.size : Nat) := by omega
  go_enter Tryd.func8, Tryd.ntmps8
  go_wp2
  go_ret3
  exact ⟨rfl, Below.refl _ _⟩
theorem lall_gen (s : ByteArray) (w : World) (hs : s.size ≤ maxLen) (hE : Two w) :
    Calls Tryd.prog 8 #[.string s] w fun e w' =>
      ((∃ n k : Int, k ≠ 0 ∧ e = .returned (.tuple #[.slice none 0 0, .int .i64 n, .int .i64 k])) ∨
        (s.size ≤ 1000 ∧ ∃ L A c, lx s.data.toList 0 0 = .ok L ∧ e = .returned (.tuple #[.slice A L.length c, .int .i64 0, .int .i64 0]) ∧ L.length ≤ c ∧ c ≤ maxLen ∧ TksAt w' w'.heap.size A L)) ∧ Below w.heap.size w w' := by
  by_cases hb : 1000 < s.size
  · refine (lall_big2 s w hs hb).mono ?_
    rintro e w1 ⟨rfl, b1⟩
    exact ⟨.inl ⟨_, _, by decide, rfl⟩, b1⟩
  · cases h : lx s.data.toList 0 0 with
    | error n =>
      refine (lall_err s w (by omega) hE h).mono ?_
      rintro e w1 ⟨rfl, b1⟩
      exact ⟨.inl ⟨_, _, by decide, rfl⟩, b1⟩
    | ok L =>
      refine (lall_ok s w (by omega) hE h).mono ?_
      rintro e w1 ⟨A, c, rfl, h1, h2, h3, b1⟩
      exact ⟨.inr ⟨by omega, L, A, c, rfl, rfl, h1, h2, h3⟩, b1⟩

set_option maxHeartbeats 4000000 in
set_option maxRecDepth 100000 in
theorem lxblanks_law (s : ByteArray) (wh a : Int) (w : World) (hs : s.size ≤ maxLen) (hwh : (Lit.int .i64 wh).wf = true) (ha : (Lit.int .i64 a).wf = true) (hE : Two w) :
    Calls Tryd.prog 4 #[.string s, .int .i64 wh, .int .i64 a] w fun e w' => e = .returned (.bool true) ∧ Below w.heap.size w w' := by
  have hw2 := bounds_i64 hwh
  have ha2 := bounds_i64 ha
  obtain ⟨j, hj⟩ : ∃ j : Nat, wh % 4 = j := ⟨(wh % 4).toNat, by omega⟩
  have hj4 : j < 4 := by omega
  have HJ := Lib.hid hj
  have HE := Lib.hid hE
  clear hwh ha hj hE
  go_enter Tryd.func4, Tryd.ntmps4
  go_wp2_with fail
  refine (lall_gen s _ hs HE.out).mono ?_
  rintro e w1 ⟨hres, b1⟩
  have HE1 := Lib.hid (HE.out.below b1)
  have B1 := Lib.hid b1
  clear b1
  rcases hres with ⟨n, k, hk, rfl⟩ | ⟨hs2, L, A, c, hL, rfl, k1, k2, h3⟩
  · have hkb : (k != 0) = true := by simpa using hk
    go_wp2_with fail
    refine (awake13_any _ HE1.out).mono ?_
    rintro e w2 ⟨rfl, b2⟩
    go_wp2
    go_ret
    exact ⟨rfl, B1.out.trans (b2.mono B1.out.size)⟩
  by_cases h400 : (400 : Int) < (s.size : Nat)
  · go_wp2_with fail
    refine (awake13_any _ HE1.out).mono ?_
    rintro e w2 ⟨rfl, b2⟩
    go_wp2
    go_ret
    exact ⟨rfl, B1.out.trans (b2.mono B1.out.size)⟩
  by_cases h0 : L.length = 0
  · have h0b : ((L.length : Int) == 0) = true := by rw [h0]; rfl
    clear h3
    go_wp2_with fail
    refine (awake13_any _ HE1.out).mono ?_
    rintro e w2 ⟨rfl, b2⟩
    go_wp2
    go_ret
    exact ⟨rfl, B1.out.trans (b2.mono B1.out.size)⟩
  have h0b : ((L.length : Int) == 0) = false := by
    rw [beq_eq_false_iff_ne]
    omega
  have hLl := lx_len _ _ _ _ hL
  rw [← Lib.size_eq] at hLl
  have HT := Lib.hid h3
  have HL := Lib.hid hL
  obtain ⟨BL, hBL⟩ := mkb (blk4 j)
  have hix : ∀ wx : World, (Instr.index 34 (.agg #[.string ⟨#[32]⟩, .string ⟨#[10, 9]⟩, .string ⟨#[32, 45, 45, 32, 105, 116, 39, 115, 32, 40, 10]⟩, .string ⟨#[13, 10, 32, 32]⟩]) (.int .i64 (j : Nat))).run Tryd.prog wx = .ok (.string BL) wx := by
    intro wx
    have hj' : j = 0 ∨ j = 1 ∨ j = 2 ∨ j = 3 := by omega
    rcases hj' with rfl | rfl | rfl | rfl
    · rw [show BL = ⟨#[32]⟩ from ba_ext hBL]; go_simp; rfl
    · rw [show BL = ⟨#[10, 9]⟩ from ba_ext hBL]; go_simp; rfl
    · rw [show BL = ⟨#[32, 45, 45, 32, 105, 116, 39, 115, 32, 40, 10]⟩ from ba_ext hBL]; go_simp; rfl
    · rw [show BL = ⟨#[13, 10, 32, 32]⟩ from ba_ext hBL]; go_simp; rfl
  obtain ⟨kk, hkk⟩ : ∃ kk : Nat, a % ((L.length : Int) + 1) = kk := ⟨(a % ((L.length : Int) + 1)).toNat, (Int.toNat_of_nonneg (Int.emod_nonneg a (show (L.length : Int) + 1 ≠ 0 by omega))).symm⟩
  have hkl : kk ≤ L.length := by
    have := Int.emod_lt_of_pos a (show 0 < (L.length : Int) + 1 by omega)
    rw [hkk] at this
    omega
  have HKK := Lib.hid hkk
  have HBL := Lib.hid hBL
  clear h3 hL hkk hBL
  go_wp2_with fail
  refine (place13_any wh 4 _ (by omega) (by omega) hw2).mono ?_
  rintro e w2 ⟨rfl, rfl⟩
  rw [HJ.out]
  go_wp2_with fail
  refine (place13_any a ((L.length : Int) + 1) _ (by omega) (by omega) ha2).mono ?_
  rintro e w2 ⟨rfl, rfl⟩
  rw [HKK.out]
  go_wp2_with fail
  have hbs : BL.size ≤ 11 := by
    rw [Lib.size_eq, HBL.out]
    match j with
    | 0 => decide
    | 1 => decide
    | 2 => decide
    | _ + 3 => exact (by decide : 4 ≤ 11)
  obtain ⟨cb, hcb⟩ := blk4_bl j
  rw [← HBL.out] at hcb
  have HCB := Lib.hid hcb
  clear hcb hix
  have W1 : w.heap.size ≤ w1.heap.size := B1.out.size
  by_cases hkL : kk < L.length
  · -- ahead of a token
    obtain ⟨t, ht⟩ : ∃ t, L[kk]? = some t := ⟨_, List.getElem?_eq_getElem hkL⟩
    obtain ⟨hh, hnew⟩ := blanks_at HL.out ht HCB.out
    obtain ⟨g, rfl, hg, c0, c1, c2, c3⟩ := HT.out kk t ht
    obtain ⟨m, hm⟩ : ∃ m, m = t.2.2.2 := ⟨_, rfl⟩
    rw [← hm] at hh hnew c3
    have hki : (kk : Int) < (L.length : Nat) := by omega
    have HH := Lib.hid hh
    have HNW := Lib.hid hnew
    have HTT := Lib.hid ht
    have C3 := Lib.hid c3
    clear hh hnew ht c0 c1 c2 c3 hm
    go_loopw [12, 13] (fun nn ct wr => ∃ (n : Nat), nn = .int .i64 (n : Nat) ∧ ct = .int .i64 (s.size : Nat) ∧ n ≤ m ∧ wr.heap[w1.heap.size]? = some (.stringIter s (advL n s.data.toList)) ∧ Below w1.heap.size w1 wr) (fun _ _ wr => s.size - wr.iterPos w1.heap.size)
    case atStart =>
      refine ⟨0, rfl, rfl, Nat.zero_le _, ?_, (Below.refl _ _).alloc (Nat.le_refl _) _⟩
      have := World.iter_heap w1 s 0
      simpa [advL] using this
    case round =>
      obtain ⟨n, rfl, rfl, hnm, hit, hbw⟩ := hrel
      have hsz : w1.heap.size < wr.heap.size := (Array.getElem?_eq_some_iff.1 hit).1
      have hin0 : s.data.toList.drop (advL n s.data.toList) ≠ [] := advL_in n (m - n) _ (by rw [show n + (m - n) = m from by omega]; exact HH.out.1)
      have hone := advL_one n _ hin0
      have hale := advL_le n s.data.toList
      rw [← Lib.size_eq] at hale
      have hp : advL n s.data.toList < s.size := by
        have := List.length_pos_iff.2 hin0
        rw [List.length_drop, ← Lib.size_eq] at this
        omega
      rw [← dec_at] at hone
      have HONE := Lib.hid hone
      have c3 := (hbw.cell (p := ⟨g, kk * 4 + 3, none⟩) hg).trans C3.out
      have hnn : n ≤ s.size := Nat.le_trans (advL_ge n _ hin0) hale
      generalize hpos : advL n s.data.toList = pos at *
      have HPOS := Lib.hid hpos
      clear hone hin0 hpos
      have hnx : ∀ ty, (Instr.next (.pointer (some ⟨w1.heap.size, 0, none⟩)) true ty).run Tryd.prog wr = _ := fun ty => Lib.run_next_any_at wr w1.heap.size s pos ty hit hp
      have hwd := width_pos s pos hp
      have hit1 := Lib.iterAt_heap wr w1.heap.size s pos (pos + (Utf8.decode s pos).2) hit
      have hbw1 := Lib.below_iterAt hbw (k := w1.heap.size) (Nat.le_refl _) s (pos + (Utf8.decode s pos).2)
      have c4 := (hbw1.cell (p := ⟨g, kk * 4 + 3, none⟩) hg).trans C3.out
      have HI1 := Lib.hid hit1
      have HI := Lib.hid hit
      have HB1 := Lib.hid hbw1
      clear hit1 hit hbw hbw1 c3
      by_cases hnm2 : n = m
      · subst hnm2
        have he : ((n : Int) == (n : Int)) = true := by simp
        obtain ⟨V, hV⟩ : ∃ V, V = wr.iterAt w1.heap.size s (pos + (Utf8.decode s pos).2) := ⟨_, rfl⟩
        have HBV := Lib.hid (show Below w1.heap.size w1 V from by rw [hV]; exact HB1.out)
        have c5 : V.cell? ⟨g, kk * 4 + 3, none⟩ = some (.int .i64 (n : Nat)) := by rw [hV]; exact c4
        have HNL : Hid (lx (s.data.toList.take pos ++ (BL.data.toList ++ s.data.toList.drop pos)) 0 0 = .ok (later L kk cb)) := Lib.hid (by rw [← HPOS.out]; exact HNW.out)
        go_wp2_with fail
        rw [← hV]
        clear hV c4 HB1 HI1 HI HH HNW HPOS HONE he
        have hps : pos ≤ s.size := by omega
        have hs1 : ∀ wx : World, (Instr.slice 9 (.string s) none (some (.int .i64 (pos : Int))) none).run Tryd.prog wx = .ok (.string (s.extract 0 pos)) wx := by
          intro wx
          rw [run_slice_string_h (P := Tryd.prog) (t := 9) (ht := Tryd.underlying9) (kh := .i64) (h := (pos : Int)) (h0 := by omega) (h2 := by omega)]
          rfl
        have hs2' : ∀ wx : World, (Instr.slice 9 (.string s) (some (.int .i64 (pos : Int))) none none).run Tryd.prog wx = .ok (.string (s.extract pos s.size)) wx := by
          intro wx
          rw [run_slice_string_l (P := Tryd.prog) (t := 9) (ht := Tryd.underlying9) (kl := .i64) (l := (pos : Int)) (h0 := by omega) (h1 := by omega)]
          rfl
        have hP1 : (s.extract 0 pos).data.toList = s.data.toList.take pos := by rw [Lib.extract_data]; simp
        have hX1 : (s.extract pos s.size).data.toList = s.data.toList.drop pos := ext_drop s pos
        have hP2 : (s.extract 0 pos).size = pos := by rw [ByteArray.size_extract]; omega
        have hX2 : (s.extract pos s.size).size = s.size - pos := by rw [ByteArray.size_extract]; omega
        generalize s.extract 0 pos = PP at *
        generalize s.extract pos s.size = XX at *
        obtain ⟨U1, hU1⟩ := mkb (PP.data.toList ++ BL.data.toList)
        have hU1s : U1.size = PP.size + BL.size := by rw [Lib.size_eq, hU1, List.length_append, Lib.size_eq, Lib.size_eq]
        have hadd1 := add_run PP BL U1 hU1 (by omega)
        obtain ⟨TS, hTS⟩ := mkb (U1.data.toList ++ XX.data.toList)
        have hTSs : TS.size = U1.size + XX.size := by rw [Lib.size_eq, hTS, List.length_append, Lib.size_eq, Lib.size_eq]
        have hadd2 := add_run U1 XX TS hTS (by omega)
        have HTS := Lib.hid (show TS.size ≤ 1000 from by omega)
        have HTL := Lib.hid (show lx TS.data.toList 0 0 = .ok (later L kk cb) from by rw [hTS, hU1, hP1, hX1, List.append_assoc]; exact HNL.out)
        have HEE := Lib.hid (show Two V.drew from HE1.out.below HBV.out.drew)
        clear hP1 hX1 hP2 hX2 hU1 hU1s hTS hTSs
        refine wp_region_held_drew (S := fun w' => True) (by kernel_rfl) ?_ (fun hHeld => ?_)
        · exact trivial
        refine takesH [0, 1, 2, 3, 4, 5, 6, 7, 8] ?_
        repeat
          refine takesH_one (v := ?_) ?_ ?_
          rotate_left
          · first | (refine Or.inr ⟨by rfl, ?_⟩; with_reducible rfl) | (refine Or.inl ⟨by rfl, ?_⟩; intro wx hSw; (try dsimp only at hSw); first | (go_simp; first | done | with_reducible rfl))
          try simp only [Act.put, List.getElem_toArray, List.getElem_cons_succ, List.getElem_cons_zero, List.setIfInBounds_toArray, List.set_cons_zero, List.set_cons_succ]
        refine takesH_nil ?_
        refine wpAnyH_ready (rs := [9]) (by kernel_rfl) (by simp) (AllReadyH.cons rfl (fun K hK => ?_) AllReadyH.nil)
        go_simp
        refine (lall_ok _ _ HTS.out HEE.out HTL.out).mono ?_
        rintro e w3 ⟨A', c', rfl, k1', k2', h3', b3⟩
        try go_wp2_with fail
        refine hK.out _ _ ?_ (fun hHeld => ?_)
        · exact trivial
        clear hK K
        try simp only [Act.put, List.getElem_toArray, List.getElem_cons_succ, List.getElem_cons_zero, List.setIfInBounds_toArray, List.set_cons_zero, List.set_cons_succ]
        refine takesH [10, 11, 12, 13, 14, 15, 16] ?_
        repeat
          refine takesH_one (v := ?_) ?_ ?_
          rotate_left
          · first | (refine Or.inr ⟨by rfl, ?_⟩; with_reducible rfl) | (refine Or.inl ⟨by rfl, ?_⟩; intro wx hSw; (try dsimp only at hSw); first | (go_simp; first | done | with_reducible rfl))
          try simp only [Act.put, List.getElem_toArray, List.getElem_cons_succ, List.getElem_cons_zero, List.setIfInBounds_toArray, List.set_cons_zero, List.set_cons_succ]
        refine takesH_nil ?_
        refine wpAnyH_done (by kernel_rfl) ?_ _
        clear hHeld
        have hlg := later_length L kk cb
        rw [hlg]
        have BV2 : Below w1.heap.size w1 w3 := HBV.out.drew.trans (b3.mono HBV.out.drew.size)
        have T1 := Lib.hid (HT.out.below BV2)
        have T2 := Lib.hid h3'
        have BV := Lib.hid BV2
        have HE3 := Lib.hid (HE1.out.below BV2)
        have KC := Lib.hid (show L.length ≤ c' from by rw [← hlg]; exact k1')
        have hcb := HCB.out.2.1
        clear hlg h3' b3 k1' BV2
        go_wp2_with fail
        go_loopw [18] (fun ii wq => ∃ i : Nat, ii = .int .i64 (i : Nat) ∧ i ≤ L.length ∧ Below w3.heap.size w3 wq) (fun ii _ => L.length - (intOf ii).toNat)
        case atStart => exact ⟨0, rfl, Nat.zero_le _, Below.refl _ _⟩
        case round =>
          obtain ⟨i, rfl, hil, bq⟩ := hrel
          by_cases hi : i < L.length
          · obtain ⟨t2, ht2⟩ : ∃ t2, L[i]? = some t2 := ⟨_, List.getElem?_eq_getElem hi⟩
            have ht3 := later_get L kk cb i t2 ht2
            obtain ⟨g1, hA1, hg1, x0, x1, x2, x3⟩ := T1.out i t2 ht2
            obtain ⟨g2, hA2, hg2, y0, y1, y2, y3⟩ := T2.out i _ ht3
            injection hA1 with hA1
            injection hA1 with hA1
            subst hA1
            subst hA2
            obtain ⟨a1, S1, N1, P1⟩ := t2
            have W3 := BV.out.size
            have HGI := Lib.hid (Nat.lt_of_lt_of_le hg1 W3)
            have hii : (i : Int) < (L.length : Nat) := by omega
            have i0 : (0 : Int) ≤ (i : Int) := by omega
            have hi5 : i ≤ 400 := by omega
            have hic : i < c := by omega
            have hic' : i < c' := by have := KC.out; omega
            have d0 : decide ((L.length : Int) ≤ (i : Int)) = false := by simp; omega
            by_cases hik : i < kk
            · rw [if_pos hik] at y0 y1 y2 y3
              dsimp only at x0 x1 x2 x3 y0 y1 y2 y3
              generalize (⟨S1.toArray⟩ : ByteArray) = S9 at *
              have x0' := (bq.cell (p := ⟨g, i * 4, none⟩) HGI.out).trans x0
              have x1' := (bq.cell (p := ⟨g, i * 4 + 1, none⟩) HGI.out).trans x1
              have x2' := (bq.cell (p := ⟨g, i * 4 + 2, none⟩) HGI.out).trans x2
              have x3' := (bq.cell (p := ⟨g, i * 4 + 3, none⟩) HGI.out).trans x3
              have y0' := (bq.cell (p := ⟨g2, i * 4, none⟩) hg2).trans y0
              have y1' := (bq.cell (p := ⟨g2, i * 4 + 1, none⟩) hg2).trans y1
              have y2' := (bq.cell (p := ⟨g2, i * 4 + 2, none⟩) hg2).trans y2
              have y3' := (bq.cell (p := ⟨g2, i * 4 + 3, none⟩) hg2).trans y3
              have n1 : ((a1 : Int) != (a1 : Int)) = false := by simp
              have n2 : (S9.toList != S9.toList) = false := by simp
              have n3 : (N1 != N1) = false := by simp
              have n4 : ((P1 : Int) != (P1 : Int)) = false := by simp
              have n5 : decide ((kk : Int) ≤ (i : Int)) = false := by simp; omega
              have BQ := Lib.hid bq
              clear x0 x1 x2 x3 y0 y1 y2 y3 bq ht2 ht3
              go_wp2
              go_quiet (fail)
              go_wp2
              refine ⟨⟨i + 1, by go_num, by omega, BQ.out.trans ⟨rfl, rfl, rfl, Nat.le_refl _, fun _ _ => rfl⟩⟩, ?_⟩
              simp [intOf]
              omega
            · rw [if_neg hik] at y0 y1 y2 y3
              unfold shiftT at y0 y1 y2 y3
              dsimp only at x0 x1 x2 x3 y0 y1 y2 y3
              generalize (⟨S1.toArray⟩ : ByteArray) = S9 at *
              have x0' := (bq.cell (p := ⟨g, i * 4, none⟩) HGI.out).trans x0
              have x1' := (bq.cell (p := ⟨g, i * 4 + 1, none⟩) HGI.out).trans x1
              have x2' := (bq.cell (p := ⟨g, i * 4 + 2, none⟩) HGI.out).trans x2
              have x3' := (bq.cell (p := ⟨g, i * 4 + 3, none⟩) HGI.out).trans x3
              have y0' := (bq.cell (p := ⟨g2, i * 4, none⟩) hg2).trans y0
              have y1' := (bq.cell (p := ⟨g2, i * 4 + 1, none⟩) hg2).trans y1
              have y2' := (bq.cell (p := ⟨g2, i * 4 + 2, none⟩) hg2).trans y2
              have y3' := (bq.cell (p := ⟨g2, i * 4 + 3, none⟩) hg2).trans y3
              have n1 : ((a1 : Int) != (a1 : Int)) = false := by simp
              have n2 : (S9.toList != S9.toList) = false := by simp
              have n3 : (N1 != N1) = false := by simp
              have n4 : ((P1 : Int) != ((P1 + cb : Nat) : Int)) = true := by
                rw [bne_iff_ne]
                omega
              generalize ((P1 + cb : Nat) : Int) = P2 at *
              have n6 : decide (kk ≤ i) = true := by simp; omega
              have n5 : decide ((kk : Int) ≤ (i : Int)) = true := by simp; omega
              have BQ := Lib.hid bq
              clear x0 x1 x2 x3 y0 y1 y2 y3 bq ht2 ht3
              go_wp2
              go_quiet (fail)
              go_wp2
              refine ⟨⟨i + 1, by go_num, by omega, BQ.out.trans ⟨rfl, rfl, rfl, Nat.le_refl _, fun _ _ => rfl⟩⟩, ?_⟩
              simp [intOf]
              omega
          · have hii : ¬ (i : Int) < (L.length : Nat) := by omega
            have HEq := Lib.hid (HE3.out.below bq)
            have BQ := Lib.hid bq
            clear bq
            go_wp2_with fail
            refine (awake13_any _ HEq.out).mono ?_
            rintro e w6 ⟨rfl, b6⟩
            have b7 := B1.out.trans ((BV.out.trans ((BQ.out.trans (b6.mono BQ.out.size)).mono BV.out.size)).mono B1.out.size)
            clear b6
            go_wp2
            go_ret
            exact ⟨rfl, b7⟩
      · have he : ((n : Int) == (m : Int)) = false := by simp; omega
        go_wp2
        go_roundw
        case rel => exact ⟨n + 1, by go_num, rfl, by omega, by rw [HONE.out]; exact HI1.out, HB1.out⟩
        case measure =>
          simp only [World.iterPos, HI1.out, HI.out]
          omega
  · -- at the end
    have hke0 : kk = L.length := by omega
    obtain ⟨t, ht⟩ : ∃ t, L[0]? = some t := ⟨_, List.getElem?_eq_getElem (by omega)⟩
    obtain ⟨g, rfl, hg, _, _, _, _⟩ := HT.out 0 t ht
    have hend := blanks_end HL.out (HCB.out.cons 10 (.inr (.inr (.inl rfl))))
    rw [← hke0] at hend
    have hki : ¬ (kk : Int) < (L.length : Nat) := by omega
    have hke : ((kk : Int) == ((L.length : Nat) : Int)) = true := by rw [hke0]; simp
    have HEND := Lib.hid hend
    obtain ⟨pos, hpos⟩ : ∃ pos, pos = s.size := ⟨_, rfl⟩
    have HPOS := Lib.hid hpos
    have hpz : (s.size : Int) = (pos : Int) := by omega
    have hps4 : pos ≤ 400 := by omega
    have hps5 : pos ≤ s.size := by omega
    have HLN := Lib.hid hke0
    have hsz0 : s.data.toList.length = s.size := by rw [Lib.size_eq]
    have HSZ := Lib.hid hsz0
    clear ht hend hpos hke0 hsz0
    go_loopw [12, 13] (fun nn ct wr => ∃ (n p : Nat), nn = .int .i64 (n : Nat) ∧ ct = .int .i64 (pos : Nat) ∧ n ≤ p ∧ p ≤ s.size ∧ wr.heap[w1.heap.size]? = some (.stringIter s p) ∧ Below w1.heap.size w1 wr) (fun _ _ wr => s.size - wr.iterPos w1.heap.size)
    case atStart =>
      refine ⟨0, 0, rfl, by rw [hpz], Nat.zero_le _, Nat.zero_le _, ?_, (Below.refl _ _).alloc (Nat.le_refl _) _⟩
      have := World.iter_heap w1 s 0
      simpa using this
    case round =>
      obtain ⟨n, p, rfl, rfl, hnp, hpz2, hit, hbw⟩ := hrel
      have hsz : w1.heap.size < wr.heap.size := (Array.getElem?_eq_some_iff.1 hit).1
      by_cases hp : p < s.size
      · have hnx : ∀ ty, (Instr.next (.pointer (some ⟨w1.heap.size, 0, none⟩)) true ty).run Tryd.prog wr = _ := fun ty => Lib.run_next_any_at wr w1.heap.size s p ty hit hp
        have hwd := width_pos s p hp
        have hin := decode_in s p hp
        have hit1 := Lib.iterAt_heap wr w1.heap.size s p (p + (Utf8.decode s p).2) hit
        have hbw1 := Lib.below_iterAt hbw (k := w1.heap.size) (Nat.le_refl _) s (p + (Utf8.decode s p).2)
        have HI1 := Lib.hid hit1
        have HI := Lib.hid hit
        have HB1 := Lib.hid hbw1
        clear hit1 hit hbw hbw1
        go_wp2
        go_roundw
        case rel => exact ⟨n + 1, p + (Utf8.decode s p).2, by go_num, rfl, by omega, hin, HI1.out, HB1.out⟩
        case measure =>
          simp only [World.iterPos, HI1.out, HI.out]
          omega
      · have hnx : ∀ ty, (Instr.next (.pointer (some ⟨w1.heap.size, 0, none⟩)) true ty).run Tryd.prog wr = _ := fun ty => Lib.run_next_end_at wr w1.heap.size s p ty hit hp
        obtain ⟨BN, hBN⟩ : ∃ BN : ByteArray, BN = (⟨#[10]⟩ : ByteArray) ++ BL := ⟨_, rfl⟩
        have hBNl : BN.data.toList = 10 :: BL.data.toList := by rw [hBN, ByteArray.data_append, Array.toList_append]; rfl
        have hBNs : BN.size ≤ 12 := by
          rw [Lib.size_eq, hBNl, List.length_cons, ← Lib.size_eq]
          omega
        have hcc := HCB.out.2.1
        have HCB0 := HCB
        obtain ⟨cc, hcc2⟩ : ∃ cc, cc = cb + 1 := ⟨_, rfl⟩
        have HCB : Hid (Bl BN.data.toList cc) := Lib.hid (by rw [hBNl, hcc2]; exact HCB0.out.cons 10 (.inr (.inr (.inl rfl))))
        have HNL : Hid (lx (s.data.toList.take pos ++ (BN.data.toList ++ s.data.toList.drop pos)) 0 0 = .ok (later L kk cc)) := Lib.hid (by
          have h1 := HSZ.out
          have h2 := HPOS.out
          rw [List.take_of_length_le (by omega), List.drop_eq_nil_of_le (by omega), List.append_nil, hBNl, hcc2]
          exact HEND.out)
        have HBV := Lib.hid hbw
        clear hbw hit hcc hcc2 HCB0
        go_wp2_with fail
        rw [← hBN]
        clear hBN hBNl hnx hp
        obtain ⟨V, hV⟩ : ∃ V, V = wr := ⟨_, rfl⟩
        subst hV
        clear hke hki
        have hps : pos ≤ s.size := by omega
        have hs1 : ∀ wx : World, (Instr.slice 9 (.string s) none (some (.int .i64 (pos : Int))) none).run Tryd.prog wx = .ok (.string (s.extract 0 pos)) wx := by
          intro wx
          rw [run_slice_string_h (P := Tryd.prog) (t := 9) (ht := Tryd.underlying9) (kh := .i64) (h := (pos : Int)) (h0 := by omega) (h2 := by omega)]
          rfl
        have hs2' : ∀ wx : World, (Instr.slice 9 (.string s) (some (.int .i64 (pos : Int))) none none).run Tryd.prog wx = .ok (.string (s.extract pos s.size)) wx := by
          intro wx
          rw [run_slice_string_l (P := Tryd.prog) (t := 9) (ht := Tryd.underlying9) (kl := .i64) (l := (pos : Int)) (h0 := by omega) (h1 := by omega)]
          rfl
        have hP1 : (s.extract 0 pos).data.toList = s.data.toList.take pos := by rw [Lib.extract_data]; simp
        have hX1 : (s.extract pos s.size).data.toList = s.data.toList.drop pos := ext_drop s pos
        have hP2 : (s.extract 0 pos).size = pos := by rw [ByteArray.size_extract]; omega
        have hX2 : (s.extract pos s.size).size = s.size - pos := by rw [ByteArray.size_extract]; omega
        generalize s.extract 0 pos = PP at *
        generalize s.extract pos s.size = XX at *
        obtain ⟨U1, hU1⟩ := mkb (PP.data.toList ++ BN.data.toList)
        have hU1s : U1.size = PP.size + BN.size := by rw [Lib.size_eq, hU1, List.length_append, Lib.size_eq, Lib.size_eq]
        have hadd1 := add_run PP BN U1 hU1 (by omega)
        obtain ⟨TS, hTS⟩ := mkb (U1.data.toList ++ XX.data.toList)
        have hTSs : TS.size = U1.size + XX.size := by rw [Lib.size_eq, hTS, List.length_append, Lib.size_eq, Lib.size_eq]
        have hadd2 := add_run U1 XX TS hTS (by omega)
        have HTS := Lib.hid (show TS.size ≤ 1000 from by omega)
        have HTL := Lib.hid (show lx TS.data.toList 0 0 = .ok (later L kk cc) from by rw [hTS, hU1, hP1, hX1, List.append_assoc]; exact HNL.out)
        have HEE := Lib.hid (show Two V.drew from HE1.out.below HBV.out.drew)
        clear hP1 hX1 hP2 hX2 hU1 hU1s hTS hTSs
        refine wp_region_held_drew (S := fun w' => True) (by kernel_rfl) ?_ (fun hHeld => ?_)
        · exact trivial
        refine takesH [0, 1, 2, 3, 4, 5, 6, 7, 8] ?_
        repeat
          refine takesH_one (v := ?_) ?_ ?_
          rotate_left
          · first | (refine Or.inr ⟨by rfl, ?_⟩; with_reducible rfl) | (refine Or.inl ⟨by rfl, ?_⟩; intro wx hSw; (try dsimp only at hSw); first | (go_simp; first | done | with_reducible rfl))
          try simp only [Act.put, List.getElem_toArray, List.getElem_cons_succ, List.getElem_cons_zero, List.setIfInBounds_toArray, List.set_cons_zero, List.set_cons_succ]
        refine takesH_nil ?_
        refine wpAnyH_ready (rs := [9]) (by kernel_rfl) (by simp) (AllReadyH.cons rfl (fun K hK => ?_) AllReadyH.nil)
        go_simp
        refine (lall_ok _ _ HTS.out HEE.out HTL.out).mono ?_
        rintro e w3 ⟨A', c', rfl, k1', k2', h3', b3⟩
        try go_wp2_with fail
        refine hK.out _ _ ?_ (fun hHeld => ?_)
        · exact trivial
        clear hK K
        try simp only [Act.put, List.getElem_toArray, List.getElem_cons_succ, List.getElem_cons_zero, List.setIfInBounds_toArray, List.set_cons_zero, List.set_cons_succ]
        refine takesH [10, 11, 12, 13, 14, 15, 16] ?_
        repeat
          refine takesH_one (v := ?_) ?_ ?_
          rotate_left
          · first | (refine Or.inr ⟨by rfl, ?_⟩; with_reducible rfl) | (refine Or.inl ⟨by rfl, ?_⟩; intro wx hSw; (try dsimp only at hSw); first | (go_simp; first | done | with_reducible rfl))
          try simp only [Act.put, List.getElem_toArray, List.getElem_cons_succ, List.getElem_cons_zero, List.setIfInBounds_toArray, List.set_cons_zero, List.set_cons_succ]
        refine takesH_nil ?_
        refine wpAnyH_done (by kernel_rfl) ?_ _
        clear hHeld
        have hlg := later_length L kk cc
        rw [hlg]
        have BV2 : Below w1.heap.size w1 w3 := HBV.out.drew.trans (b3.mono HBV.out.drew.size)
        have T1 := Lib.hid (HT.out.below BV2)
        have T2 := Lib.hid h3'
        have BV := Lib.hid BV2
        have HE3 := Lib.hid (HE1.out.below BV2)
        have KC := Lib.hid (show L.length ≤ c' from by rw [← hlg]; exact k1')
        have hcb := HCB.out.2.1
        clear hlg h3' b3 k1' BV2
        go_wp2_with fail
        go_loopw [18] (fun ii wq => ∃ i : Nat, ii = .int .i64 (i : Nat) ∧ i ≤ L.length ∧ Below w3.heap.size w3 wq) (fun ii _ => L.length - (intOf ii).toNat)
        case atStart => exact ⟨0, rfl, Nat.zero_le _, Below.refl _ _⟩
        case round =>
          obtain ⟨i, rfl, hil, bq⟩ := hrel
          by_cases hi : i < L.length
          · obtain ⟨t2, ht2⟩ : ∃ t2, L[i]? = some t2 := ⟨_, List.getElem?_eq_getElem hi⟩
            have ht3 := later_get L kk cc i t2 ht2
            obtain ⟨g1, hA1, hg1, x0, x1, x2, x3⟩ := T1.out i t2 ht2
            obtain ⟨g2, hA2, hg2, y0, y1, y2, y3⟩ := T2.out i _ ht3
            injection hA1 with hA1
            injection hA1 with hA1
            subst hA1
            subst hA2
            obtain ⟨a1, S1, N1, P1⟩ := t2
            have W3 := BV.out.size
            have HGI := Lib.hid (Nat.lt_of_lt_of_le hg1 W3)
            have hii : (i : Int) < (L.length : Nat) := by omega
            have i0 : (0 : Int) ≤ (i : Int) := by omega
            have hi5 : i ≤ 400 := by omega
            have hic : i < c := by omega
            have hic' : i < c' := by have := KC.out; omega
            have d0 : decide ((L.length : Int) ≤ (i : Int)) = false := by simp; omega
            by_cases hik : i < kk
            · rw [if_pos hik] at y0 y1 y2 y3
              dsimp only at x0 x1 x2 x3 y0 y1 y2 y3
              generalize (⟨S1.toArray⟩ : ByteArray) = S9 at *
              have x0' := (bq.cell (p := ⟨g, i * 4, none⟩) HGI.out).trans x0
              have x1' := (bq.cell (p := ⟨g, i * 4 + 1, none⟩) HGI.out).trans x1
              have x2' := (bq.cell (p := ⟨g, i * 4 + 2, none⟩) HGI.out).trans x2
              have x3' := (bq.cell (p := ⟨g, i * 4 + 3, none⟩) HGI.out).trans x3
              have y0' := (bq.cell (p := ⟨g2, i * 4, none⟩) hg2).trans y0
              have y1' := (bq.cell (p := ⟨g2, i * 4 + 1, none⟩) hg2).trans y1
              have y2' := (bq.cell (p := ⟨g2, i * 4 + 2, none⟩) hg2).trans y2
              have y3' := (bq.cell (p := ⟨g2, i * 4 + 3, none⟩) hg2).trans y3
              have n1 : ((a1 : Int) != (a1 : Int)) = false := by simp
              have n2 : (S9.toList != S9.toList) = false := by simp
              have n3 : (N1 != N1) = false := by simp
              have n4 : ((P1 : Int) != (P1 : Int)) = false := by simp
              have n5 : decide ((kk : Int) ≤ (i : Int)) = false := by simp; omega
              have BQ := Lib.hid bq
              clear x0 x1 x2 x3 y0 y1 y2 y3 bq ht2 ht3
              go_wp2
              go_quiet (fail)
              go_wp2
              refine ⟨⟨i + 1, by go_num, by omega, BQ.out.trans ⟨rfl, rfl, rfl, Nat.le_refl _, fun _ _ => rfl⟩⟩, ?_⟩
              simp [intOf]
              omega
            · rw [if_neg hik] at y0 y1 y2 y3
              unfold shiftT at y0 y1 y2 y3
              dsimp only at x0 x1 x2 x3 y0 y1 y2 y3
              generalize (⟨S1.toArray⟩ : ByteArray) = S9 at *
              have x0' := (bq.cell (p := ⟨g, i * 4, none⟩) HGI.out).trans x0
              have x1' := (bq.cell (p := ⟨g, i * 4 + 1, none⟩) HGI.out).trans x1
              have x2' := (bq.cell (p := ⟨g, i * 4 + 2, none⟩) HGI.out).trans x2
              have x3' := (bq.cell (p := ⟨g, i * 4 + 3, none⟩) HGI.out).trans x3
              have y0' := (bq.cell (p := ⟨g2, i * 4, none⟩) hg2).trans y0
              have y1' := (bq.cell (p := ⟨g2, i * 4 + 1, none⟩) hg2).trans y1
              have y2' := (bq.cell (p := ⟨g2, i * 4 + 2, none⟩) hg2).trans y2
              have y3' := (bq.cell (p := ⟨g2, i * 4 + 3, none⟩) hg2).trans y3
              have n1 : ((a1 : Int) != (a1 : Int)) = false := by simp
              have n2 : (S9.toList != S9.toList) = false := by simp
              have n3 : (N1 != N1) = false := by simp
              have n4 : ((P1 : Int) != ((P1 + cc : Nat) : Int)) = true := by
                rw [bne_iff_ne]
                omega
              generalize ((P1 + cc : Nat) : Int) = P2 at *
              have n6 : decide (kk ≤ i) = true := by simp; omega
              have n5 : decide ((kk : Int) ≤ (i : Int)) = true := by simp; omega
              have BQ := Lib.hid bq
              clear x0 x1 x2 x3 y0 y1 y2 y3 bq ht2 ht3
              go_wp2
              go_quiet (fail)
              go_wp2
              refine ⟨⟨i + 1, by go_num, by omega, BQ.out.trans ⟨rfl, rfl, rfl, Nat.le_refl _, fun _ _ => rfl⟩⟩, ?_⟩
              simp [intOf]
              omega
          · have hii : ¬ (i : Int) < (L.length : Nat) := by omega
            have HEq := Lib.hid (HE3.out.below bq)
            have BQ := Lib.hid bq
            clear bq
            go_wp2_with fail
            refine (awake13_any _ HEq.out).mono ?_
            rintro e w6 ⟨rfl, b6⟩
            have b7 := B1.out.trans ((BV.out.trans ((BQ.out.trans (b6.mono BQ.out.size)).mono BV.out.size)).mono B1.out.size)
            clear b6
            go_wp2
            go_ret
            exact ⟨rfl, b7⟩
end Go.Proofs.YtdbdlgmejddbhaaDoor
