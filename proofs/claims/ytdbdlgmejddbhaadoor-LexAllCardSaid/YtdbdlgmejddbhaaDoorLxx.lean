/-
  The document's own reader: numbers.
-/
import Derived.Test.YtdbdlgmejddbhaaDoorLxw
set_option linter.unusedVariables false
namespace Go.Proofs.YtdbdlgmejddbhaaDoor
open Go Go.RowKit Go.Proofs

/-- What a reading of one token gives: its parts, whether it is one, and where the reader then is. -/
def POut (B q : Nat) (s : ByteArray) (v : Value) (I0 p0 : Nat) (t : Option (Nat × List UInt8 × Int × Nat)) (w : World) (e : Ending) (w' : World) : Prop :=
  ∃ (ok : Bool) (a : Int) (b : ByteArray) (c d : Int) (I p : Nat), e = .returned (.tuple #[.agg #[.int .i64 a, .string b, .int .i64 c, .int .i64 d], .bool ok]) ∧ PSt B w' q s v I p ∧ Kept (fun k => k = q) w w' ∧
    (ok = true → ∃ x, t = some x ∧ a = (x.1 : Nat) ∧ b = ⟨x.2.1.toArray⟩ ∧ c = x.2.2.1 ∧ d = (I0 : Nat) ∧ lx (s.data.toList.drop p0) I0 x.2.2.2 = lx (s.data.toList.drop p) I 0) ∧ (ok = false → t = none) ∧ (ok = true → I0 < I)

set_option maxHeartbeats 4000000 in
set_option maxRecDepth 100000 in
theorem pnum_any {B q I0 p0 : Nat} {s : ByteArray} {v : Value} (w : World) (h : PSt B w q s v I0 p0) (hs : s.size ≤ 1000) (hl : rV s p0 = 45 ∨ dgtC (Lib.decodeL (s.data.toList.drop p0)) = true) :
    Calls Tryd.prog 33 #[.pointer (some ⟨q, 0, none⟩)] w fun e w' => POut B q s v I0 p0 (numTok (s.data.toList.drop p0)) w e w' := by
  have hp0 : p0 < s.size := by
    by_cases hp : p0 < s.size
    · exact hp
    · rcases hl with hl | hl
      · unfold rV at hl; rw [if_neg hp] at hl; omega
      · exact absurd (List.drop_eq_nil_of_le (by rw [← Lib.size_eq]; omega)) (ne_of_ld (l := s.data.toList.drop p0) (by unfold ldC; rw [hl]; rfl))
  have hlen := cps_length s
  have hI0 : I0 ≤ 1000 := by have := h.pos.2.1; omega
  obtain ⟨W, hW⟩ : ∃ W, w.alloc refZ = W := ⟨_, rfl⟩
  have b0 : Below w.heap.size w W := by rw [← hW]; exact (Below.refl _ _).alloc (Nat.le_refl _) _
  have n0 : W.heap[w.heap.size]? = some refZ := by rw [← hW]; exact heap_alloc_new w _
  have hsz : W.heap.size = w.heap.size + 1 := by rw [← hW]; simp
  have PW := h.below b0
  have hqw : q ≠ w.heap.size := by have := h.lt; omega
  have HPW := Lib.hid PW
  have HB0 := Lib.hid b0
  have N0 := Lib.hid n0
  have HPos := Lib.hid h.pos
  obtain ⟨g1, _, g3⟩ := h.pos.get hp0
  clear h PW b0 n0
  by_cases hm : rV s p0 = 45
  · have e45 : (rV s p0 == 45) = true := by rw [hm]; rfl
    have hc : (Utf8.decode s p0).1 = 45 := by unfold rV at hm; rw [if_pos hp0] at hm; omega
    have hw1 : (Utf8.decode s p0).2 = 1 := ((low_width s p0 45 (by omega)).1 hc).1
    have hdp : s.data.toList.drop p0 = 45 :: s.data.toList.drop (p0 + 1) := by
      have := drop_piece s p0 hp0
      rw [piece_low s p0 45 hp0 (by omega) hc] at this
      exact this
    rw [hw1] at g3
    have hlx0 : ∀ K, lx (s.data.toList.drop p0) I0 (1 + K) = lx (s.data.toList.drop (p0 + 1)) (I0 + 1) K := fun K => by
      rw [lx_skip (drop_ne s p0 hp0) (by omega), List.drop_drop, Lib.decodeL_drop, hw1, Nat.add_sub_cancel_left]
    have hnt := numTok_minus (s.data.toList.drop (p0 + 1))
    rw [← hdp] at hnt
    have hnt' : ∀ X, X = numR (s.data.toList.drop (p0 + 1)) 0 (dgtC (Lib.decodeL (s.data.toList.drop (p0 + 1)))) → numTok (s.data.toList.drop p0) = if X.2.1 = true ∧ X.2.2.1 = false then some (2, [], -((X.1 : Nat) : Int), 1 + X.2.2.2) else none := by
      rintro X rfl
      exact hnt
    have HLX0 := Lib.hid hlx0
    have HNT := Lib.hid hnt'
    have HG3 := Lib.hid g3
    clear hlx0 hnt hnt' g3 hdp hl
    go_enter Tryd.func33, Tryd.ntmps33
    have c2 := cell_at (i := 2) HPW.out.blk rfl
    go_wp2_with fail
    refine (pr0_any _ HPW.out hs).mono ?_
    rintro e w1 ⟨rfl, n1, hw1'⟩
    have P1 : PSt B w1 q s v I0 p0 := by rw [hw1']; exact HPW.out.drewN n1
    have K1 : Kept (fun k => k = q) W w1 := Kept.of_below (by rw [hw1']; exact below_drewN2 _ _) (fun k => k = q)
    have S1 := P1.step HG3.out
    have c3 := cell_at (i := 2) P1.blk rfl
    have f3 := thawed_at (i := 2) P1.blk
    have hp1 : PSt B (w1.setCell ⟨q, 2, none⟩ (.int .i64 ((I0 : Int) + 1))) q s v (I0 + 1) (p0 + 1) := S1.1
    have hk1 : Kept (fun k => k = q) W (w1.setCell ⟨q, 2, none⟩ (.int .i64 ((I0 : Int) + 1))) := K1.trans S1.2 (fun k hk => Or.inl hk)
    have HP1 := Lib.hid hp1
    have HK1 := Lib.hid hk1
    clear hp1 hk1 P1 K1 S1 hw1' c2
    go_wp2_with fail
    clear c3 f3
    generalize w1.setCell ⟨q, 2, none⟩ (.int .i64 ((I0 : Int) + 1)) = W2 at *
    obtain ⟨J0, hJ0⟩ : ∃ J0, J0 = I0 + 1 := ⟨_, rfl⟩
    obtain ⟨r0, hr0⟩ : ∃ r0, r0 = p0 + 1 := ⟨_, rfl⟩
    rw [← hJ0, ← hr0] at HP1 HLX0
    rw [← hr0] at HNT
    clear hr0
    · refine (pr0_any _ HP1.out hs).mono ?_
      rintro e w2 ⟨rfl, n2, hw2⟩
      have P2 : PSt B w2 q s v J0 r0 := by rw [hw2]; exact HP1.out.drewN n2
      have K2 : Kept (fun k => k = q) W w2 := HK1.out.trans (Kept.of_below (by rw [hw2]; exact below_drewN2 _ _) (fun k => k = q)) (fun k hk => Or.inl hk)
      have HP2 := Lib.hid P2
      have HK2 := Lib.hid K2
      clear P2 K2 hw2
      go_wp2_with fail
      refine (pdig_any _ _).mono ?_
      rintro e w3 ⟨rfl, rfl⟩
      rw [rV_dig]
      obtain ⟨b0, hb0⟩ : ∃ b0, b0 = dgtC (Lib.decodeL (s.data.toList.drop r0)) := ⟨_, rfl⟩
      rw [← hb0]
      have HB := Lib.hid hb0
      clear hb0
      go_wp2_with fail
      obtain ⟨X, hX⟩ : ∃ X, X = numR (s.data.toList.drop r0) 0 b0 := ⟨_, rfl⟩
      have hnt2 := HNT.out X (by rw [hX, HB.out])
      have HN2 := Lib.hid hnt2
      have HX := Lib.hid hX
      have hlx2 := HLX0.out X.2.2.2
      have HLX2 := Lib.hid hlx2
      clear HNT hnt2 hX hlx2 HLX0
      go_loopw [6, 7] (fun nv ov wr => ∃ (a : Nat) (o : Bool) (J r : Nat), nv = .int .i64 (a : Nat) ∧ ov = .bool o ∧ a ≤ 1099511627776 ∧ PSt B wr q s v J r ∧ Kept (fun k => k = q) W wr ∧ (numR (s.data.toList.drop r) a o).1 = X.1 ∧ (numR (s.data.toList.drop r) a o).2.1 = X.2.1 ∧ (numR (s.data.toList.drop r) a o).2.2.1 = X.2.2.1 ∧ lx (s.data.toList.drop p0) I0 (1 + X.2.2.2) = lx (s.data.toList.drop r) J (numR (s.data.toList.drop r) a o).2.2.2 ∧ J0 ≤ J ∧ (J = I0 → r = p0)) (fun _ _ wr => (cps s).length - mI wr q)
      case atStart => exact ⟨0, b0, J0, r0, rfl, rfl, by omega, HP2.out, HK2.out, by rw [HX.out], by rw [HX.out], by rw [HX.out], by rw [HLX2.out, ← HX.out], by omega, fun e => by omega⟩
      case round =>
        obtain ⟨a, o, J, r, rfl, rfl, ha, hP, hK, hx1, hx2, hx3, hxl, hij, hir⟩ := hrel
        have HIR := Lib.hid hir
        clear hir
        have hJ : J ≤ 1000 := by have := hP.pos.2.1; omega
        have HP := Lib.hid hP
        have HK := Lib.hid hK
        have H1 := Lib.hid hx1
        have H2 := Lib.hid hx2
        have H3 := Lib.hid hx3
        have HL := Lib.hid hxl
        have HM := Lib.hid hP.mI
        clear hP hK hx1 hx2 hx3 hxl
        go_wp2_with fail
        refine (pr0_any _ HP.out hs).mono ?_
        rintro e w4 ⟨rfl, n4, hw4⟩
        have P4 : PSt B w4 q s v J r := by rw [hw4]; exact HP.out.drewN n4
        have K4 : Kept (fun k => k = q) W w4 := HK.out.trans (Kept.of_below (by rw [hw4]; exact below_drewN2 _ _) (fun k => k = q)) (fun k hk => Or.inl hk)
        have HP4 := Lib.hid P4
        have HK4 := Lib.hid K4
        clear P4 K4 hw4
        go_wp2_with fail
        refine (pdig_any _ _).mono ?_
        rintro e w5 ⟨rfl, rfl⟩
        rw [rV_dig]
        cases hdc : dgtC (Lib.decodeL (s.data.toList.drop r)) with
        | true =>
          have hr : r < s.size := by
            by_cases hp : r < s.size
            · exact hp
            · exact absurd (List.drop_eq_nil_of_le (by rw [← Lib.size_eq]; omega)) (ne_of_ld (l := s.data.toList.drop r) (by unfold ldC; rw [hdc]; rfl))
          obtain ⟨g1', _, g3'⟩ := HP4.out.pos.get hr
          have hcc : 48 ≤ (Utf8.decode s r).1 ∧ (Utf8.decode s r).1 ≤ 57 := by
            rw [Lib.decodeL_drop] at hdc
            unfold dgtC at hdc
            simpa using hdc
          have hw1c : (Utf8.decode s r).2 = 1 := ((low_width s r (Utf8.decode s r).1 (by omega)).1 rfl).1
          rw [hw1c] at g3'
          have hst := numR_step (v := a) (ok := o) hdc rfl
          rw [List.drop_drop, Lib.decodeL_drop] at hst
          have hrv : rV s r = ((Utf8.decode s r).1 : Nat) := if_pos hr
          have hnew : lx (s.data.toList.drop r) J ((numR (s.data.toList.drop (r + 1)) (min (10 * a + ((Utf8.decode s r).1 - 48)) 1099511627776) (o && decide (10 * a + ((Utf8.decode s r).1 - 48) ≤ 1099511627776))).2.2.2 + 1) = lx (s.data.toList.drop (r + 1)) (J + 1) (numR (s.data.toList.drop (r + 1)) (min (10 * a + ((Utf8.decode s r).1 - 48)) 1099511627776) (o && decide (10 * a + ((Utf8.decode s r).1 - 48) ≤ 1099511627776))).2.2.2 := by
            rw [lx_skip (drop_ne s r hr) (by omega), List.drop_drop, Lib.decodeL_drop, hw1c, Nat.add_sub_cancel]
          have h1 := H1.out
          have h2 := H2.out
          have h3 := H3.out
          have hl := HL.out
          rw [hst] at h1 h2 h3 hl
          have hl2 := hl.trans hnew
          generalize (Utf8.decode s r).1 = c at *
          have G1 := Lib.hid h1
          have G2 := Lib.hid h2
          have G3 := Lib.hid h3
          have GL := Lib.hid hl2
          have GP := Lib.hid g3'
          clear h1 h2 h3 hl hl2 hst hnew g3' hdc hw1c
          go_wp2_with fail
          refine (pr0_any _ HP4.out hs).mono ?_
          rintro e w6 ⟨rfl, n6, hw6⟩
          rw [hrv]
          have P6 : PSt B w6 q s v J r := by rw [hw6]; exact HP4.out.drewN n6
          have K6 : Kept (fun k => k = q) W w6 := HK4.out.trans (Kept.of_below (by rw [hw6]; exact below_drewN2 _ _) (fun k => k = q)) (fun k hk => Or.inl hk)
          have S6 := P6.step GP.out
          have c6 := cell_at (i := 2) P6.blk rfl
          have f6 := thawed_at (i := 2) P6.blk
          have HS6 := Lib.hid S6
          have HK6 := Lib.hid K6
          clear P6 K6 hw6 S6 hrv
          cases o with
          | false =>
            go_wp2_with fail
            refine ⟨⟨min (10 * a + (c - 48)) 1099511627776, (false && decide (10 * a + (c - 48) ≤ 1099511627776)), J + 1, r + 1, congrArg (Value.int .i64) (by omega), rfl, Nat.min_le_right _ _, HS6.out.1, HK6.out.trans HS6.out.2 (fun k hk => Or.inl hk), G1.out, G2.out, G3.out, GL.out, by omega, fun e => by omega⟩, ?_⟩
            change (cps s).length - mI (w6.setCell ⟨q, 2, none⟩ (.int .i64 ((J + 1 : Nat) : Int))) q < (cps s).length - mI wr q
            rw [HS6.out.1.mI, HM.out]
            omega
          | true =>
            go_wp2_with fail
            refine ⟨⟨min (10 * a + (c - 48)) 1099511627776, (true && decide (10 * a + (c - 48) ≤ 1099511627776)), J + 1, r + 1, congrArg (Value.int .i64) (by omega), congrArg Value.bool (by rw [Bool.true_and]; exact decide_eq_decide.mpr (by omega)), Nat.min_le_right _ _, HS6.out.1, HK6.out.trans HS6.out.2 (fun k hk => Or.inl hk), G1.out, G2.out, G3.out, GL.out, by omega, fun e => by omega⟩, ?_⟩
            change (cps s).length - mI (w6.setCell ⟨q, 2, none⟩ (.int .i64 ((J + 1 : Nat) : Int))) q < (cps s).length - mI wr q
            rw [HS6.out.1.mI, HM.out]
            omega
        | false =>
          have hst := numR_stop (v := a) (ok := o) hdc
          have h1 := H1.out
          have h2 := H2.out
          have h3 := H3.out
          have hl := HL.out
          rw [hst] at h1 h2 h3 hl
          dsimp only at h1 h2 h3 hl
          have G1 := Lib.hid h1
          have G2 := Lib.hid h2
          have G3 := Lib.hid h3
          have GL := Lib.hid hl
          clear h1 h2 h3 hl hst
          have HLT : I0 < J := by omega
          have HLT := Lib.hid HLT
          clear hdc
          have kk : Kept (fun k => k = q) w w5 := (Kept.of_below HB0.out (fun k => k = q)).trans HK4.out (fun k hk => Or.inl hk)
          have KK := Lib.hid kk
          clear kk
          cases o with
          | false =>
            have z3 : w5.heap[w.heap.size]? = some refZ := (HK4.out.block _ (by omega) (fun e => hqw e.symm)).trans N0.out
            obtain ⟨y4, P4, K4⟩ := ref_end (N := w.heap.size) HP4.out KK.out (Nat.le_refl _) hqw z3 (.int .i64 2) (.string ⟨#[]⟩) (.int .i64 (-((a : Nat) : Int))) (.int .i64 (I0 : Nat))
            have HY := Lib.hid y4
            have HPY := Lib.hid P4
            have HKY := Lib.hid K4
            have d0 := cell_at (i := 0) z3 rfl
            have d1 := cell_at (i := 1) z3 rfl
            have d2 := cell_at (i := 2) z3 rfl
            have d3 := cell_at (i := 3) z3 rfl
            have f0 := thawed_at (i := 0) z3
            have f1 := thawed_at (i := 1) z3
            have f2 := thawed_at (i := 2) z3
            have f3 := thawed_at (i := 3) z3
            clear y4 P4 K4 z3
            go_wp2
            try simp only [Exit.inBlock, Exit.then]
            refine bodyPost_ret (results_c2 rfl _ _ w.heap.size _ _ _ _ rfl HY.out Tryd.underlying32 rfl (by kernel_rfl)) rfl ⟨false, _, _, _, _, J, r, rfl, HPY.out, HKY.out, (fun h => by cases h), fun _ => by rw [HN2.out, if_neg (fun h => by rw [← G2.out] at h; exact absurd h.1 (by decide))], fun h => by cases h⟩
          | true =>
            go_wp2_with fail
            refine (plet_any false _ HP4.out hs).mono ?_
            rintro e w8 ⟨rfl, b8⟩
            rw [Bool.false_and, Bool.or_false]
            have P8 := HP4.out.below b8
            have K8 : Kept (fun k => k = q) w w8 := KK.out.trans (Kept.of_below b8 (fun k => k = q)) (fun k hk => Or.inl hk)
            have z3 : w8.heap[w.heap.size]? = some refZ := (b8.block _ (by have := HK4.out.size; omega)).trans ((HK4.out.block _ (by omega) (fun e => hqw e.symm)).trans N0.out)
            obtain ⟨y4, P4, K4⟩ := ref_end (N := w.heap.size) P8 K8 (Nat.le_refl _) hqw z3 (.int .i64 2) (.string ⟨#[]⟩) (.int .i64 (-((a : Nat) : Int))) (.int .i64 (I0 : Nat))
            have HY := Lib.hid y4
            have HPY := Lib.hid P4
            have HKY := Lib.hid K4
            have d0 := cell_at (i := 0) z3 rfl
            have d1 := cell_at (i := 1) z3 rfl
            have d2 := cell_at (i := 2) z3 rfl
            have d3 := cell_at (i := 3) z3 rfl
            have f0 := thawed_at (i := 0) z3
            have f1 := thawed_at (i := 1) z3
            have f2 := thawed_at (i := 2) z3
            have f3 := thawed_at (i := 3) z3
            clear y4 P4 K4 z3 P8 K8 b8
            cases hlt : ltrC (Lib.decodeL (s.data.toList.drop r)) with
            | true =>
              rw [hlt] at G3
              go_wp2
              try simp only [Exit.inBlock, Exit.then]
              refine bodyPost_ret (results_c2 rfl _ _ w.heap.size _ _ _ _ rfl HY.out Tryd.underlying32 rfl (by kernel_rfl)) rfl ⟨false, _, _, _, _, J, r, rfl, HPY.out, HKY.out, (fun h => by cases h), fun _ => by rw [HN2.out, if_neg (fun h => by rw [← G3.out] at h; exact absurd h.2 (by decide))], fun h => by cases h⟩
            | false =>
              rw [hlt] at G3
              go_wp2
              try simp only [Exit.inBlock, Exit.then]
              refine bodyPost_ret (results_c2 rfl _ _ w.heap.size _ _ _ _ rfl HY.out Tryd.underlying32 rfl (by kernel_rfl)) rfl ⟨true, _, _, _, _, J, r, rfl, HPY.out, HKY.out, (fun _ => ⟨_, by rw [HN2.out, if_pos ⟨G2.out.symm, G3.out.symm⟩], rfl, rfl, by rw [← G1.out], rfl, GL.out⟩), (fun h => by cases h), fun _ => HLT.out⟩
  · have hd := hl.resolve_left hm
    have e45 : (rV s p0 == 45) = false := by rw [beq_eq_false_iff_ne]; exact hm
    have hlx0 : ∀ K, lx (s.data.toList.drop p0) I0 (0 + K) = lx (s.data.toList.drop p0) I0 K := fun K => by rw [Nat.zero_add]
    have hnt := numTok_plain (s.data.toList.drop p0) hd
    have hnt2 : numTok (s.data.toList.drop p0) = if (numR (s.data.toList.drop p0) 0 (dgtC (Lib.decodeL (s.data.toList.drop p0)))).2.1 = true ∧ (numR (s.data.toList.drop p0) 0 (dgtC (Lib.decodeL (s.data.toList.drop p0)))).2.2.1 = false then some (2, [], (((numR (s.data.toList.drop p0) 0 (dgtC (Lib.decodeL (s.data.toList.drop p0)))).1 : Nat) : Int), (numR (s.data.toList.drop p0) 0 (dgtC (Lib.decodeL (s.data.toList.drop p0)))).2.2.2) else none := by rw [hd]; exact hnt
    have hnt' : ∀ X, X = numR (s.data.toList.drop p0) 0 (dgtC (Lib.decodeL (s.data.toList.drop p0))) → numTok (s.data.toList.drop p0) = if X.2.1 = true ∧ X.2.2.1 = false then some (2, [], ((X.1 : Nat) : Int), 0 + X.2.2.2) else none := by
      rintro X rfl
      rw [Nat.zero_add]
      exact hnt2
    have HNT := Lib.hid hnt'
    have HLX0 := Lib.hid hlx0
    have HD0 := Lib.hid hd
    clear hnt hnt' hnt2 hd hl hlx0
    go_enter Tryd.func33, Tryd.ntmps33
    have c2 := cell_at (i := 2) HPW.out.blk rfl
    go_wp2_with fail
    refine (pr0_any _ HPW.out hs).mono ?_
    rintro e w1 ⟨rfl, n1, hw1'⟩
    have P1 : PSt B w1 q s v I0 p0 := by rw [hw1']; exact HPW.out.drewN n1
    have K1 : Kept (fun k => k = q) W w1 := Kept.of_below (by rw [hw1']; exact below_drewN2 _ _) (fun k => k = q)
    have HP1 := Lib.hid P1
    have HK1 := Lib.hid K1
    clear P1 K1 hw1' c2
    go_wp2_with fail
    · refine (pr0_any _ HP1.out hs).mono ?_
      rintro e w2 ⟨rfl, n2, hw2⟩
      have P2 : PSt B w2 q s v I0 p0 := by rw [hw2]; exact HP1.out.drewN n2
      have K2 : Kept (fun k => k = q) W w2 := HK1.out.trans (Kept.of_below (by rw [hw2]; exact below_drewN2 _ _) (fun k => k = q)) (fun k hk => Or.inl hk)
      have HP2 := Lib.hid P2
      have HK2 := Lib.hid K2
      clear P2 K2 hw2
      go_wp2_with fail
      refine (pdig_any _ _).mono ?_
      rintro e w3 ⟨rfl, rfl⟩
      rw [rV_dig]
      obtain ⟨b0, hb0⟩ : ∃ b0, b0 = dgtC (Lib.decodeL (s.data.toList.drop p0)) := ⟨_, rfl⟩
      rw [← hb0]
      have HB := Lib.hid hb0
      clear hb0
      go_wp2_with fail
      obtain ⟨X, hX⟩ : ∃ X, X = numR (s.data.toList.drop p0) 0 b0 := ⟨_, rfl⟩
      have hnt2 := HNT.out X (by rw [hX, HB.out])
      have HN2 := Lib.hid hnt2
      have HX := Lib.hid hX
      have hlx2 := HLX0.out X.2.2.2
      have HLX2 := Lib.hid hlx2
      clear HNT hnt2 hX hlx2 HLX0
      go_loopw [6, 7] (fun nv ov wr => ∃ (a : Nat) (o : Bool) (J r : Nat), nv = .int .i64 (a : Nat) ∧ ov = .bool o ∧ a ≤ 1099511627776 ∧ PSt B wr q s v J r ∧ Kept (fun k => k = q) W wr ∧ (numR (s.data.toList.drop r) a o).1 = X.1 ∧ (numR (s.data.toList.drop r) a o).2.1 = X.2.1 ∧ (numR (s.data.toList.drop r) a o).2.2.1 = X.2.2.1 ∧ lx (s.data.toList.drop p0) I0 (0 + X.2.2.2) = lx (s.data.toList.drop r) J (numR (s.data.toList.drop r) a o).2.2.2 ∧ I0 ≤ J ∧ (J = I0 → r = p0)) (fun _ _ wr => (cps s).length - mI wr q)
      case atStart => exact ⟨0, b0, I0, p0, rfl, rfl, by omega, HP2.out, HK2.out, by rw [HX.out], by rw [HX.out], by rw [HX.out], by rw [HLX2.out, ← HX.out], Nat.le_refl _, fun _ => rfl⟩
      case round =>
        obtain ⟨a, o, J, r, rfl, rfl, ha, hP, hK, hx1, hx2, hx3, hxl, hij, hir⟩ := hrel
        have HIR := Lib.hid hir
        clear hir
        have hJ : J ≤ 1000 := by have := hP.pos.2.1; omega
        have HP := Lib.hid hP
        have HK := Lib.hid hK
        have H1 := Lib.hid hx1
        have H2 := Lib.hid hx2
        have H3 := Lib.hid hx3
        have HL := Lib.hid hxl
        have HM := Lib.hid hP.mI
        clear hP hK hx1 hx2 hx3 hxl
        go_wp2_with fail
        refine (pr0_any _ HP.out hs).mono ?_
        rintro e w4 ⟨rfl, n4, hw4⟩
        have P4 : PSt B w4 q s v J r := by rw [hw4]; exact HP.out.drewN n4
        have K4 : Kept (fun k => k = q) W w4 := HK.out.trans (Kept.of_below (by rw [hw4]; exact below_drewN2 _ _) (fun k => k = q)) (fun k hk => Or.inl hk)
        have HP4 := Lib.hid P4
        have HK4 := Lib.hid K4
        clear P4 K4 hw4
        go_wp2_with fail
        refine (pdig_any _ _).mono ?_
        rintro e w5 ⟨rfl, rfl⟩
        rw [rV_dig]
        cases hdc : dgtC (Lib.decodeL (s.data.toList.drop r)) with
        | true =>
          have hr : r < s.size := by
            by_cases hp : r < s.size
            · exact hp
            · exact absurd (List.drop_eq_nil_of_le (by rw [← Lib.size_eq]; omega)) (ne_of_ld (l := s.data.toList.drop r) (by unfold ldC; rw [hdc]; rfl))
          obtain ⟨g1', _, g3'⟩ := HP4.out.pos.get hr
          have hcc : 48 ≤ (Utf8.decode s r).1 ∧ (Utf8.decode s r).1 ≤ 57 := by
            rw [Lib.decodeL_drop] at hdc
            unfold dgtC at hdc
            simpa using hdc
          have hw1c : (Utf8.decode s r).2 = 1 := ((low_width s r (Utf8.decode s r).1 (by omega)).1 rfl).1
          rw [hw1c] at g3'
          have hst := numR_step (v := a) (ok := o) hdc rfl
          rw [List.drop_drop, Lib.decodeL_drop] at hst
          have hrv : rV s r = ((Utf8.decode s r).1 : Nat) := if_pos hr
          have hnew : lx (s.data.toList.drop r) J ((numR (s.data.toList.drop (r + 1)) (min (10 * a + ((Utf8.decode s r).1 - 48)) 1099511627776) (o && decide (10 * a + ((Utf8.decode s r).1 - 48) ≤ 1099511627776))).2.2.2 + 1) = lx (s.data.toList.drop (r + 1)) (J + 1) (numR (s.data.toList.drop (r + 1)) (min (10 * a + ((Utf8.decode s r).1 - 48)) 1099511627776) (o && decide (10 * a + ((Utf8.decode s r).1 - 48) ≤ 1099511627776))).2.2.2 := by
            rw [lx_skip (drop_ne s r hr) (by omega), List.drop_drop, Lib.decodeL_drop, hw1c, Nat.add_sub_cancel]
          have h1 := H1.out
          have h2 := H2.out
          have h3 := H3.out
          have hl := HL.out
          rw [hst] at h1 h2 h3 hl
          have hl2 := hl.trans hnew
          generalize (Utf8.decode s r).1 = c at *
          have G1 := Lib.hid h1
          have G2 := Lib.hid h2
          have G3 := Lib.hid h3
          have GL := Lib.hid hl2
          have GP := Lib.hid g3'
          clear h1 h2 h3 hl hl2 hst hnew g3' hdc hw1c
          go_wp2_with fail
          refine (pr0_any _ HP4.out hs).mono ?_
          rintro e w6 ⟨rfl, n6, hw6⟩
          rw [hrv]
          have P6 : PSt B w6 q s v J r := by rw [hw6]; exact HP4.out.drewN n6
          have K6 : Kept (fun k => k = q) W w6 := HK4.out.trans (Kept.of_below (by rw [hw6]; exact below_drewN2 _ _) (fun k => k = q)) (fun k hk => Or.inl hk)
          have S6 := P6.step GP.out
          have c6 := cell_at (i := 2) P6.blk rfl
          have f6 := thawed_at (i := 2) P6.blk
          have HS6 := Lib.hid S6
          have HK6 := Lib.hid K6
          clear P6 K6 hw6 S6 hrv
          cases o with
          | false =>
            go_wp2_with fail
            refine ⟨⟨min (10 * a + (c - 48)) 1099511627776, (false && decide (10 * a + (c - 48) ≤ 1099511627776)), J + 1, r + 1, congrArg (Value.int .i64) (by omega), rfl, Nat.min_le_right _ _, HS6.out.1, HK6.out.trans HS6.out.2 (fun k hk => Or.inl hk), G1.out, G2.out, G3.out, GL.out, by omega, fun e => by omega⟩, ?_⟩
            change (cps s).length - mI (w6.setCell ⟨q, 2, none⟩ (.int .i64 ((J + 1 : Nat) : Int))) q < (cps s).length - mI wr q
            rw [HS6.out.1.mI, HM.out]
            omega
          | true =>
            go_wp2_with fail
            refine ⟨⟨min (10 * a + (c - 48)) 1099511627776, (true && decide (10 * a + (c - 48) ≤ 1099511627776)), J + 1, r + 1, congrArg (Value.int .i64) (by omega), congrArg Value.bool (by rw [Bool.true_and]; exact decide_eq_decide.mpr (by omega)), Nat.min_le_right _ _, HS6.out.1, HK6.out.trans HS6.out.2 (fun k hk => Or.inl hk), G1.out, G2.out, G3.out, GL.out, by omega, fun e => by omega⟩, ?_⟩
            change (cps s).length - mI (w6.setCell ⟨q, 2, none⟩ (.int .i64 ((J + 1 : Nat) : Int))) q < (cps s).length - mI wr q
            rw [HS6.out.1.mI, HM.out]
            omega
        | false =>
          have hst := numR_stop (v := a) (ok := o) hdc
          have h1 := H1.out
          have h2 := H2.out
          have h3 := H3.out
          have hl := HL.out
          rw [hst] at h1 h2 h3 hl
          dsimp only at h1 h2 h3 hl
          have G1 := Lib.hid h1
          have G2 := Lib.hid h2
          have G3 := Lib.hid h3
          have GL := Lib.hid hl
          clear h1 h2 h3 hl hst
          have HLT : I0 < J := by
            rcases Nat.lt_or_ge I0 J with h | h
            · exact h
            · have h1 := HIR.out (by omega)
              rw [h1, HD0.out] at hdc
              cases hdc
          have HLT := Lib.hid HLT
          clear hdc
          have kk : Kept (fun k => k = q) w w5 := (Kept.of_below HB0.out (fun k => k = q)).trans HK4.out (fun k hk => Or.inl hk)
          have KK := Lib.hid kk
          clear kk
          cases o with
          | false =>
            have z3 : w5.heap[w.heap.size]? = some refZ := (HK4.out.block _ (by omega) (fun e => hqw e.symm)).trans N0.out
            obtain ⟨y4, P4, K4⟩ := ref_end (N := w.heap.size) HP4.out KK.out (Nat.le_refl _) hqw z3 (.int .i64 2) (.string ⟨#[]⟩) (.int .i64 (((a : Nat) : Int))) (.int .i64 (I0 : Nat))
            have HY := Lib.hid y4
            have HPY := Lib.hid P4
            have HKY := Lib.hid K4
            have d0 := cell_at (i := 0) z3 rfl
            have d1 := cell_at (i := 1) z3 rfl
            have d2 := cell_at (i := 2) z3 rfl
            have d3 := cell_at (i := 3) z3 rfl
            have f0 := thawed_at (i := 0) z3
            have f1 := thawed_at (i := 1) z3
            have f2 := thawed_at (i := 2) z3
            have f3 := thawed_at (i := 3) z3
            clear y4 P4 K4 z3
            go_wp2
            try simp only [Exit.inBlock, Exit.then]
            refine bodyPost_ret (results_c2 rfl _ _ w.heap.size _ _ _ _ rfl HY.out Tryd.underlying32 rfl (by kernel_rfl)) rfl ⟨false, _, _, _, _, J, r, rfl, HPY.out, HKY.out, (fun h => by cases h), fun _ => by rw [HN2.out, if_neg (fun h => by rw [← G2.out] at h; exact absurd h.1 (by decide))], fun h => by cases h⟩
          | true =>
            go_wp2_with fail
            refine (plet_any false _ HP4.out hs).mono ?_
            rintro e w8 ⟨rfl, b8⟩
            rw [Bool.false_and, Bool.or_false]
            have P8 := HP4.out.below b8
            have K8 : Kept (fun k => k = q) w w8 := KK.out.trans (Kept.of_below b8 (fun k => k = q)) (fun k hk => Or.inl hk)
            have z3 : w8.heap[w.heap.size]? = some refZ := (b8.block _ (by have := HK4.out.size; omega)).trans ((HK4.out.block _ (by omega) (fun e => hqw e.symm)).trans N0.out)
            obtain ⟨y4, P4, K4⟩ := ref_end (N := w.heap.size) P8 K8 (Nat.le_refl _) hqw z3 (.int .i64 2) (.string ⟨#[]⟩) (.int .i64 (((a : Nat) : Int))) (.int .i64 (I0 : Nat))
            have HY := Lib.hid y4
            have HPY := Lib.hid P4
            have HKY := Lib.hid K4
            have d0 := cell_at (i := 0) z3 rfl
            have d1 := cell_at (i := 1) z3 rfl
            have d2 := cell_at (i := 2) z3 rfl
            have d3 := cell_at (i := 3) z3 rfl
            have f0 := thawed_at (i := 0) z3
            have f1 := thawed_at (i := 1) z3
            have f2 := thawed_at (i := 2) z3
            have f3 := thawed_at (i := 3) z3
            clear y4 P4 K4 z3 P8 K8 b8
            cases hlt : ltrC (Lib.decodeL (s.data.toList.drop r)) with
            | true =>
              rw [hlt] at G3
              go_wp2
              try simp only [Exit.inBlock, Exit.then]
              refine bodyPost_ret (results_c2 rfl _ _ w.heap.size _ _ _ _ rfl HY.out Tryd.underlying32 rfl (by kernel_rfl)) rfl ⟨false, _, _, _, _, J, r, rfl, HPY.out, HKY.out, (fun h => by cases h), fun _ => by rw [HN2.out, if_neg (fun h => by rw [← G3.out] at h; exact absurd h.2 (by decide))], fun h => by cases h⟩
            | false =>
              rw [hlt] at G3
              go_wp2
              try simp only [Exit.inBlock, Exit.then]
              refine bodyPost_ret (results_c2 rfl _ _ w.heap.size _ _ _ _ rfl HY.out Tryd.underlying32 rfl (by kernel_rfl)) rfl ⟨true, _, _, _, _, J, r, rfl, HPY.out, HKY.out, (fun _ => ⟨_, by rw [HN2.out, if_pos ⟨G2.out.symm, G3.out.symm⟩], rfl, rfl, by rw [← G1.out], rfl, GL.out⟩), (fun h => by cases h), fun _ => HLT.out⟩
end Go.Proofs.YtdbdlgmejddbhaaDoor
