/-
  The document's own reader: words.
-/
import Derived.Test.YtdbdlgmejddbhaaDoorLxv
set_option linter.unusedVariables false
namespace Go.Proofs.YtdbdlgmejddbhaaDoor
open Go Go.RowKit Go.Proofs

theorem results_c2 {P : Program} {fn : Func} {p u : Tmp} {ty : TypeId} (h : fn.results = #[.cell p ty, .tmp u]) (tmps : Array Value) (w : World) (g : Nat) (t : TypeId) (cs : Array Value) (fr : Nat × Nat) (d : TypeDesc)
    (hp : tmps.getD p undef = .pointer (some ⟨g, 0, none⟩)) (hg : w.heap[g]? = some (.cells cs t fr))
    (hu : P.underlying ty = some d) (hd : (match d with | .struct _ | .array _ _ => true | _ => false) = true) (hi : (P.info? ty).map (·.size) = some cs.size) :
    (results fn tmps).run P w = .ok (.tuple #[.agg cs, tmps.getD u undef]) w := by
  have hp' : tmps[p]?.getD undef = .pointer (some ⟨g, 0, none⟩) := by simpa using hp
  simp [results, h, hp', asAddr, run_loadVar_row w g t ty cs fr d hg hu hd hi]
abbrev refZ : Obj := .cells #[.int .i64 0, .string ⟨#[]⟩, .int .i64 0, .int .i64 0] 32 (0, 0)
/-- The token's block, written: new to the call. -/
theorem ref_end {B : Nat} {w0 w : World} {q : Nat} {s : ByteArray} {v : Value} {I p N : Nat} {a b c d : Value} (hP : PSt B w q s v I p) (hk : Kept (fun k => k = q) w0 w) (hN : w0.heap.size ≤ N) (hq : q ≠ N) (h : w.heap[N]? = some (.cells #[a, b, c, d] 32 (0, 0))) (x y z u : Value) :
    ((((w.setCell ⟨N, 0, none⟩ x).setCell ⟨N, 1, none⟩ y).setCell ⟨N, 2, none⟩ z).setCell ⟨N, 3, none⟩ u).heap[N]? = some (.cells #[x, y, z, u] 32 (0, 0)) ∧
      PSt B ((((w.setCell ⟨N, 0, none⟩ x).setCell ⟨N, 1, none⟩ y).setCell ⟨N, 2, none⟩ z).setCell ⟨N, 3, none⟩ u) q s v I p ∧
      Kept (fun k => k = q) w0 ((((w.setCell ⟨N, 0, none⟩ x).setCell ⟨N, 1, none⟩ y).setCell ⟨N, 2, none⟩ z).setCell ⟨N, 3, none⟩ u) := by
  obtain ⟨h1, h2⟩ := four_at h x y z u
  refine ⟨h1, ⟨(h2.block _ hP.lt hq).trans hP.blk, own_set hP.all h2 h (by decide), hP.pos⟩, hk.trans h2 fun k hk => .inr ?_⟩
  subst hk
  exact hN

set_option maxHeartbeats 4000000 in
set_option maxRecDepth 100000 in
theorem pword_any {B q I0 p0 : Nat} {s : ByteArray} {v : Value} (w : World) (h : PSt B w q s v I0 p0) (hs : s.size ≤ 1000) (hl : ltrC (Lib.decodeL (s.data.toList.drop p0)) = true) :
    Calls Tryd.prog 31 #[.pointer (some ⟨q, 0, none⟩)] w fun e w' => e = .returned (.tuple #[.agg #[.int .i64 1, .string ⟨(foldL ((s.data.toList.drop p0).take (run (s.data.toList.drop p0)))).toArray⟩, .int .i64 0, .int .i64 (I0 : Nat)], .bool (decide (run (s.data.toList.drop p0) ≤ 100))]) ∧
      ∃ I p, PSt B w' q s v I p ∧ Kept (fun k => k = q) w w' ∧ lx (s.data.toList.drop p0) I0 (run (s.data.toList.drop p0)) = lx (s.data.toList.drop p) I 0 ∧ I0 < I := by
  have hld : ldC (Lib.decodeL (s.data.toList.drop p0)) = true := by unfold ldC; rw [hl]; simp
  have hp0 : p0 < s.size := by
    by_cases hp : p0 < s.size
    · exact hp
    · have h0 := ne_of_ld hld
      exact absurd (List.drop_eq_nil_of_le (by rw [← Lib.size_eq]; omega)) h0
  have hlen := cps_length s
  have hI0 : I0 ≤ 1000 := by have := h.pos.2.1; omega
  obtain ⟨RR, hRR⟩ : ∃ RR, RR = run (s.data.toList.drop p0) := ⟨_, rfl⟩
  rw [← hRR]
  obtain ⟨W, hW⟩ : ∃ W, w.alloc refZ = W := ⟨_, rfl⟩
  have b0 : Below w.heap.size w W := by rw [← hW]; exact (Below.refl _ _).alloc (Nat.le_refl _) _
  have n0 : W.heap[w.heap.size]? = some refZ := by rw [← hW]; exact heap_alloc_new w _
  have hsz : W.heap.size = w.heap.size + 1 := by rw [← hW]; simp
  have PW := h.below b0
  have hqw : q ≠ w.heap.size := by have := h.lt; omega
  have HPW := Lib.hid PW
  have HB0 := Lib.hid b0
  have N0 := Lib.hid n0
  have HRR := Lib.hid hRR
  have HPos := Lib.hid h.pos
  have HLT := Lib.hid hl
  clear h PW b0 n0 hRR hl hld
  go_enter Tryd.func31, Tryd.ntmps31
  have c2 := cell_at (i := 2) HPW.out.blk rfl
  go_wp2_with fail
  clear c2
  go_loopw [] (fun wr => ∃ J r, PSt B wr q s v J r ∧ Kept (fun k => k = q) W wr ∧ lx (s.data.toList.drop p0) I0 RR = lx (s.data.toList.drop r) J (run (s.data.toList.drop r)) ∧ RR = (r - p0) + run (s.data.toList.drop r) ∧ p0 ≤ r ∧ I0 ≤ J ∧ (J = I0 → r = p0)) (fun wr => (cps s).length - mI wr q)
  case atStart => exact ⟨I0, p0, HPW.out, Kept.refl _ _, by rw [HRR.out], by rw [HRR.out]; omega, Nat.le_refl _, Nat.le_refl _, fun _ => rfl⟩
  case round =>
    obtain ⟨J, r, hP, hk, hlx, hrun, hpr, hij, hir⟩ := hrel
    have c2 := cell_at (i := 2) hP.blk rfl
    have hJ : J ≤ 1000 := by have := hP.pos.2.1; omega
    have HP := Lib.hid hP
    have HK := Lib.hid hk
    have HLX := Lib.hid hlx
    have HRUN := Lib.hid hrun
    have HIR := Lib.hid hir
    have HM := Lib.hid hP.mI
    clear hP hk hlx hrun hir
    go_wp2_with fail
    refine (plet_any (decide (I0 < J)) _ HP.out hs).mono ?_
    rintro e w1 ⟨rfl, b1⟩
    have P1 := HP.out.below b1
    have K1 : Kept (fun k => k = q) W w1 := HK.out.trans (Kept.of_below b1 (fun k => k = q)) (fun k hk => Or.inl hk)
    have HP1 := Lib.hid P1
    have HK1 := Lib.hid K1
    have c3 := cell_at (i := 2) P1.blk rfl
    have f3 := thawed_at (i := 2) P1.blk
    clear P1 K1 b1 c2
    obtain ⟨lb, hlb⟩ : ∃ lb, lb = (ltrC (Lib.decodeL (s.data.toList.drop r)) || (decide (I0 < J) && dgtC (Lib.decodeL (s.data.toList.drop r)))) := ⟨_, rfl⟩
    rw [← hlb]
    cases lb with
    | true =>
      have hld : ldC (Lib.decodeL (s.data.toList.drop r)) = true := by
        unfold ldC
        cases h1 : ltrC (Lib.decodeL (s.data.toList.drop r)) with
        | true => simp
        | false => rw [h1] at hlb; simp at hlb; rw [hlb.2]; rfl
      have hr : r < s.size := by
        by_cases hp : r < s.size
        · exact hp
        · exact absurd (List.drop_eq_nil_of_le (by rw [← Lib.size_eq]; omega)) (ne_of_ld hld)
      obtain ⟨g1, _, g3⟩ := HP1.out.pos.get hr
      have hst := run_step hld
      rw [List.drop_drop, Lib.decodeL_drop] at hst
      have hwd := width_pos s r hr
      have hnew : lx (s.data.toList.drop p0) I0 RR = lx (s.data.toList.drop (r + (Utf8.decode s r).2)) (J + 1) (run (s.data.toList.drop (r + (Utf8.decode s r).2))) := by
        rw [HLX.out, lx_skip (drop_ne s r hr) (by omega), List.drop_drop, Lib.decodeL_drop, hst, Nat.add_sub_cancel_left]
      have hrn : RR = (r + (Utf8.decode s r).2 - p0) + run (s.data.toList.drop (r + (Utf8.decode s r).2)) := by
        have := HRUN.out
        rw [hst] at this
        omega
      have S1 := HP1.out.step g3
      have HS1 := Lib.hid S1
      have HNEW := Lib.hid hnew
      have HRN := Lib.hid hrn
      clear hst hnew hrn S1 g3 hlb hld
      go_wp2_with fail
      refine ⟨⟨J + 1, r + (Utf8.decode s r).2, HS1.out.1, HK1.out.trans HS1.out.2 (fun k hk => Or.inl hk), HNEW.out, HRN.out, by omega, by omega, fun e => by omega⟩, ?_⟩
      change (cps s).length - mI (w1.setCell ⟨q, 2, none⟩ (.int .i64 ((J + 1 : Nat) : Int))) q < (cps s).length - mI wr q
      rw [HS1.out.1.mI, HM.out]
      omega
    | false =>
      have hJI : I0 < J := by
        by_cases hc : I0 < J
        · exact hc
        · have e := HIR.out (by omega)
          rw [e, HLT.out] at hlb
          simp at hlb
      have hld : ldC (Lib.decodeL (s.data.toList.drop r)) = false := by
        unfold ldC
        rw [decide_eq_true hJI] at hlb
        simp at hlb
        rw [hlb.1, hlb.2]
        rfl
      have hz := run_stop hld
      have hfin : lx (s.data.toList.drop p0) I0 RR = lx (s.data.toList.drop r) J 0 := by rw [HLX.out, hz]
      have hrr : RR = r - p0 := by have := HRUN.out; rw [hz] at this; omega
      have HFIN := Lib.hid hfin
      have HR2 := Lib.hid hrr
      have hps : r ≤ s.size := HP1.out.pos.1
      have hX : (s.extract p0 r).data.toList = (s.data.toList.drop p0).take RR := by rw [Lib.extract_data, hrr]
      have hXs : (s.extract p0 r).size = RR := by rw [ByteArray.size_extract]; omega
      have hRs : RR ≤ 1000 := by omega
      clear hz hfin hld hlb c3 f3
      have hfr := fun w h => pfrom_any (I0 := I0) (p0 := p0) (p := r) (q := q) (B := B) (v := v) (I := J) w h hs HPos.out hp0 hpr
      generalize s.extract p0 r = X at *
      have HX := Lib.hid hX
      have HFR := Lib.hid hfr
      clear hX hfr hrr
      go_wp2_with fail
      refine (HFR.out _ HP1.out).mono ?_
      rintro e w2 ⟨rfl, n2, hw2⟩
      have P2 : PSt B w2 q s v J r := by rw [hw2]; exact HP1.out.drewN n2
      have K2 : Kept (fun k => k = q) W w2 := HK1.out.trans (Kept.of_below (by rw [hw2]; exact below_drewN2 _ _) (fun k => k = q)) (fun k hk => Or.inl hk)
      have HP2 := Lib.hid P2
      have HK2 := Lib.hid K2
      clear P2 K2 hw2
      go_wp2_with fail
      refine (rfold_any X _ (by omega)).mono ?_
      rintro e w3 ⟨rfl, b3⟩
      rw [HX.out]
      have P3 := HP2.out.below b3
      have K3 : Kept (fun k => k = q) W w3 := HK2.out.trans (Kept.of_below b3 (fun k => k = q)) (fun k hk => Or.inl hk)
      have z3 : w3.heap[w.heap.size]? = some refZ := (K3.block _ (by omega) (fun e => hqw e.symm)).trans N0.out
      obtain ⟨y4, P4, K4⟩ := ref_end (N := w.heap.size) P3 ((Kept.of_below HB0.out (fun k => k = q)).trans K3 (fun k hk => Or.inl hk)) (Nat.le_refl _) hqw z3 (.int .i64 1) (.string ⟨(foldL ((s.data.toList.drop p0).take RR)).toArray⟩) (.int .i64 0) (.int .i64 (I0 : Nat))
      have HY := Lib.hid y4
      have HP4 := Lib.hid P4
      have HK4 := Lib.hid K4
      have d0 := cell_at (i := 0) z3 rfl
      have d1 := cell_at (i := 1) z3 rfl
      have d2 := cell_at (i := 2) z3 rfl
      have d3 := cell_at (i := 3) z3 rfl
      have f0 := thawed_at (i := 0) z3
      have f1 := thawed_at (i := 1) z3
      have f2 := thawed_at (i := 2) z3
      have f3 := thawed_at (i := 3) z3
      clear y4 P4 K4 P3 K3 z3 b3
      go_wp2
      try simp only [Exit.inBlock, Exit.then]
      refine bodyPost_ret (results_c2 rfl _ _ w.heap.size _ _ _ _ rfl HY.out Tryd.underlying32 rfl (by kernel_rfl)) rfl ⟨?_, J, r, HP4.out, HK4.out, HFIN.out, hJI⟩
      rw [show decide (((RR : Nat) : Int) ≤ 100) = decide (RR ≤ 100) from decide_eq_decide.mpr (by omega)]
      rfl
end Go.Proofs.YtdbdlgmejddbhaaDoor
