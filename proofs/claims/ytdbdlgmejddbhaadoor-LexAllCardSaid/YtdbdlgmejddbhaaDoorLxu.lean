/-
  The document's own reader: blanks and comments.
-/
import Derived.Test.YtdbdlgmejddbhaaDoorLxt
import Derived.Test.YtdbdlgmejddbhaaDoorRn4
set_option linter.unusedVariables false
namespace Go.Proofs.YtdbdlgmejddbhaaDoor
open Go Go.RowKit Go.Proofs

theorem lineLen_pre (A Z : List UInt8) (h : ∀ c ∈ A, c ≠ 10) : lineLen (A ++ Z) = A.length + lineLen Z := by
  induction A with
  | nil => simp
  | cons a A ih =>
    have ha := h a (by simp)
    have := ih (fun c hc => h c (by simp [hc]))
    unfold lineLen at *
    rw [List.cons_append, List.takeWhile_cons, if_pos (by simp [ha]), List.length_cons, this, List.length_cons]
    omega
theorem line_step (s : ByteArray) (p : Nat) (hp : p < s.size) (h : (Utf8.decode s p).1 ≠ 10) : lineLen (s.data.toList.drop p) = (Utf8.decode s p).2 + lineLen (s.data.toList.drop (p + (Utf8.decode s p).2)) := by
  have h1 := drop_piece s p hp
  have h2 := piece_length s p hp
  have h3 := piece_other s p 10 hp (by omega) h
  rw [h1, lineLen_pre _ _ h3, h2]
theorem line_end (s : ByteArray) (p : Nat) (h : p < s.size → (Utf8.decode s p).1 = 10) : lineLen (s.data.toList.drop p) = 0 := by
  by_cases hp : p < s.size
  · have h2 := piece_low s p 10 hp (by omega) (h hp)
    have h1 := drop_piece s p hp
    rw [h1, h2]
    rfl
  · have : s.data.toList.drop p = [] := List.drop_eq_nil_of_le (by rw [← Lib.size_eq]; omega)
    rw [this]
    rfl
/-- Where a reader is, off its block. -/
def mI (w : World) (q : Nat) : Nat := match w.cell? ⟨q, 2, none⟩ with
  | some (.int _ i) => i.toNat
  | _ => 0
theorem PSt.mI {B : Nat} {w : World} {q : Nat} {s : ByteArray} {v : Value} {I p : Nat} (h : PSt B w q s v I p) : mI w q = I := by
  unfold Go.Proofs.YtdbdlgmejddbhaaDoor.mI
  rw [cell_at (i := 2) h.blk rfl]
  simp
theorem take2_iff (s : ByteArray) (p : Nat) : (s.data.toList.drop p).take 2 = [45, 45] ↔ (rV s p = 45 ∧ rV s (p + 1) = 45) := by
  constructor
  · intro h
    obtain ⟨hd, r, hr⟩ := dec45 h
    have hp : p < s.size := by
      have := congrArg List.length hr
      rw [List.length_drop, ← Lib.size_eq] at this
      simp at this
      omega
    have hp1 : p + 1 < s.size := by
      have := congrArg List.length hr
      rw [List.length_drop, ← Lib.size_eq] at this
      simp at this
      omega
    have h2 : s.data.toList.drop (p + 1) = 45 :: r := by
      have := congrArg (List.drop 1) hr
      rw [List.drop_drop] at this
      exact this
    unfold rV
    rw [if_pos hp, if_pos hp1, ← Lib.decodeL_drop, ← Lib.decodeL_drop, hd, h2, Lib.decodeL_ascii _ _ (by decide)]
    exact ⟨rfl, rfl⟩
  · rintro ⟨h1, h2⟩
    unfold rV at h1 h2
    by_cases hp : p < s.size
    · rw [if_pos hp] at h1
      by_cases hp1 : p + 1 < s.size
      · rw [if_pos hp1] at h2
        have e1 : (Utf8.decode s p).1 = 45 := by omega
        have e2 : (Utf8.decode s (p + 1)).1 = 45 := by omega
        have a1 := drop_piece s p hp
        rw [piece_low s p 45 hp (by omega) e1] at a1
        have a2 := drop_piece s (p + 1) hp1
        rw [piece_low s (p + 1) 45 hp1 (by omega) e2] at a2
        rw [a1]
        show (UInt8.ofNat 45 :: s.data.toList.drop (p + 1)).take 2 = _
        rw [a2]
        rfl
      · rw [if_neg hp1] at h2; omega
    · rw [if_neg hp] at h1; omega

set_option maxHeartbeats 4000000 in
set_option maxRecDepth 100000 in
theorem pblank_any {B q I0 p0 : Nat} {s : ByteArray} {v : Value} (w : World) (h : PSt B w q s v I0 p0) (hs : s.size ≤ 1000) :
    Calls Tryd.prog 18 #[.pointer (some ⟨q, 0, none⟩)] w fun e w' => e = .returned (.tuple #[]) ∧ ∃ I p, PSt B w' q s v I p ∧ Kept (fun k => k = q) w w' ∧ lx (s.data.toList.drop p0) I0 0 = lx (s.data.toList.drop p) I 0 ∧
      (p < s.size → blankB (Utf8.decode s p).1 = false ∧ (s.data.toList.drop p).take 2 ≠ [45, 45]) := by
  have hlen := cps_length s
  obtain ⟨A, cap, rfl, hcap, hmax, _⟩ := h.all.form
  unfold maxLen at hmax
  have H := Lib.hid h
  clear h
  go_enter Tryd.func18, Tryd.ntmps18
  go_wp2_with fail
  go_loopw [] (fun wr => ∃ I p, PSt B wr q s (.slice A (cps s).length cap) I p ∧ Kept (fun k => k = q) w wr ∧ lx (s.data.toList.drop p0) I0 0 = lx (s.data.toList.drop p) I 0) (fun wr => (cps s).length - mI wr q)
  case atStart => exact ⟨I0, p0, H.out, Kept.refl _ _, rfl⟩
  case round =>
    obtain ⟨I, p, hP, hk, hl⟩ := hrel
    have c1 := cell_at (i := 1) hP.blk rfl
    have c2 := cell_at (i := 2) hP.blk rfl
    have hI : I ≤ 1000 := by have := hP.pos.2.1; omega
    have HP := Lib.hid hP
    have HK := Lib.hid hk
    have HLX := Lib.hid hl
    have HM := Lib.hid hP.mI
    clear hP hk hl
    by_cases hp : p < s.size
    · obtain ⟨g1, g2, g3⟩ := HP.out.pos.get hp
      have hd : decide ((I : Int) < ((cps s).length : Int)) = true := by simp; omega
      have hii : (I : Int) < ((cps s).length : Int) := by omega
      have HG3 := Lib.hid g3
      clear g2 g3
      go_wp2_with fail
      go_quiet (fail)
      go_wp2_with fail
      refine (pr0_any _ (HP.out.drewN nq) hs).mono ?_
      rintro e w1 ⟨rfl, n1, hw1⟩
      have P1 : PSt B w1 q s (.slice A (cps s).length cap) I p := by rw [hw1]; exact (HP.out.drewN nq).drewN n1
      have K1 : Kept (fun k => k = q) w w1 := HK.out.trans (Kept.of_below (by rw [hw1]; exact (below_drewN2 _ _).trans ((below_drewN2 _ _).mono (Nat.le_refl _))) (fun k => k = q)) (fun k hk => Or.inl hk)
      have S1 := P1.step HG3.out
      have c1 := cell_at (i := 1) P1.blk rfl
      have c2 := cell_at (i := 2) P1.blk rfl
      have f2 := thawed_at (i := 2) P1.blk
      rw [show rV s p = ((Utf8.decode s p).1 : Nat) from if_pos hp]
      have HP1 := Lib.hid P1
      have HK1 := Lib.hid K1
      have HS1 := Lib.hid S1
      clear P1 K1 S1 hw1 hd
      obtain ⟨cc, hcc⟩ : ∃ cc, cc = (Utf8.decode s p).1 := ⟨_, rfl⟩
      rw [← hcc]
      have HC := Lib.hid hcc
      clear hcc
      have hnum : IntKind.i64.wrap ((I : Int) + 1) = ((I + 1 : Nat) : Int) := by rw [wrap_small _ (by omega) (by omega)]; omega
      by_cases hbl : blankB cc = true
      · have hst : lx (s.data.toList.drop p0) I0 0 = lx (s.data.toList.drop (p + (Utf8.decode s p).2)) (I + 1) 0 := by
          rw [HLX.out, lx_blank I (by rw [Lib.decodeL_drop, ← HC.out]; exact hbl), List.drop_drop, Lib.decodeL_drop]
        have HST := Lib.hid hst
        have h4 : cc = 32 ∨ cc = 9 ∨ cc = 10 ∨ cc = 13 := by
          unfold blankB at hbl
          simpa [or_assoc] using hbl
        clear hst hbl
        rcases h4 with rfl | rfl | rfl | rfl
        · go_wp2
          refine ⟨⟨I + 1, p + (Utf8.decode s p).2, HS1.out.1, HK1.out.trans HS1.out.2 (fun k hk => Or.inl hk), HST.out⟩, ?_⟩
          change (cps s).length - mI (w1.setCell ⟨q, 2, none⟩ (.int .i64 ((I + 1 : Nat) : Int))) q < (cps s).length - mI wr q
          rw [HS1.out.1.mI, HM.out]
          omega
        · go_wp2
          refine ⟨⟨I + 1, p + (Utf8.decode s p).2, HS1.out.1, HK1.out.trans HS1.out.2 (fun k hk => Or.inl hk), HST.out⟩, ?_⟩
          change (cps s).length - mI (w1.setCell ⟨q, 2, none⟩ (.int .i64 ((I + 1 : Nat) : Int))) q < (cps s).length - mI wr q
          rw [HS1.out.1.mI, HM.out]
          omega
        · go_wp2
          refine ⟨⟨I + 1, p + (Utf8.decode s p).2, HS1.out.1, HK1.out.trans HS1.out.2 (fun k hk => Or.inl hk), HST.out⟩, ?_⟩
          change (cps s).length - mI (w1.setCell ⟨q, 2, none⟩ (.int .i64 ((I + 1 : Nat) : Int))) q < (cps s).length - mI wr q
          rw [HS1.out.1.mI, HM.out]
          omega
        · go_wp2
          refine ⟨⟨I + 1, p + (Utf8.decode s p).2, HS1.out.1, HK1.out.trans HS1.out.2 (fun k hk => Or.inl hk), HST.out⟩, ?_⟩
          change (cps s).length - mI (w1.setCell ⟨q, 2, none⟩ (.int .i64 ((I + 1 : Nat) : Int))) q < (cps s).length - mI wr q
          rw [HS1.out.1.mI, HM.out]
          omega
      · have hne : ¬ (cc = 32 ∨ cc = 9 ∨ cc = 10 ∨ cc = 13) := by
          unfold blankB at hbl
          simpa [or_assoc] using hbl
        have e1 : ((cc : Int) == 32) = false := by rw [beq_eq_false_iff_ne]; omega
        have e2 : ((cc : Int) == 9) = false := by rw [beq_eq_false_iff_ne]; omega
        have e3 : ((cc : Int) == 10) = false := by rw [beq_eq_false_iff_ne]; omega
        have e4 : ((cc : Int) == 13) = false := by rw [beq_eq_false_iff_ne]; omega
        have HNB := Lib.hid (show blankB (Utf8.decode s p).1 = false from by rw [← HC.out]; simpa using hbl)
        clear hne hbl
        by_cases h45 : cc = 45
        · have e5 : ((cc : Int) == 45) = true := by rw [h45]; rfl
          have hw1 : (Utf8.decode s p).2 = 1 := ((low_width s p 45 (by omega)).1 (by rw [← HC.out]; exact h45)).1
          have hg4 : Pos s (I + 1) (p + 1) := by have := HG3.out; rw [hw1] at this; exact this
          go_wp2_with fail
          refine (pr_any (J := I + 1) (r := p + 1) (m := 1) _ HP1.out hs rfl hg4 (by omega)).mono ?_
          rintro e w2 ⟨rfl, n2, hw2⟩
          have P2 : PSt B w2 q s (.slice A (cps s).length cap) I p := by rw [hw2]; exact HP1.out.drewN n2
          have K2 : Kept (fun k => k = q) w w2 := HK1.out.trans (Kept.of_below (by rw [hw2]; exact below_drewN2 _ _) (fun k => k = q)) (fun k hk => Or.inl hk)
          have HP2 := Lib.hid P2
          have HK2 := Lib.hid K2
          clear P2 K2 hw2 c1 c2 f2
          by_cases h452 : rV s (p + 1) = 45
          · have e6 : (rV s (p + 1) == 45) = true := by rw [h452]; rfl
            have hcom : (s.data.toList.drop p).take 2 = [45, 45] := (take2_iff s p).2 ⟨by unfold rV; rw [if_pos hp, ← HC.out, h45]; rfl, h452⟩
            have hln := lx_line I hcom
            rw [← HLX.out] at hln
            have HLN := Lib.hid hln
            clear hcom hln h452 e5 hg4
            go_wp2_with fail
            obtain ⟨U, hU⟩ : ∃ U, U = wr := ⟨_, rfl⟩
            subst hU
            go_loopw [] (fun wq => ∃ J r, PSt B wq q s (.slice A (cps s).length cap) J r ∧ Kept (fun k => k = q) w wq ∧ lx (s.data.toList.drop p0) I0 0 = lx (s.data.toList.drop r) J (lineLen (s.data.toList.drop r)) ∧ I ≤ J ∧ (J = I → r = p)) (fun wq => (cps s).length - mI wq q)
            case atStart => exact ⟨I, p, HP2.out, HK2.out, HLN.out, Nat.le_refl _, fun _ => rfl⟩
            case round =>
              obtain ⟨J, r, hP3, hK3, hl3, hij, hir⟩ := hrel
              have c1 := cell_at (i := 1) hP3.blk rfl
              have c2 := cell_at (i := 2) hP3.blk rfl
              have hJ : J ≤ 1000 := by have := hP3.pos.2.1; omega
              have HP3 := Lib.hid hP3
              have HK3 := Lib.hid hK3
              have HL3 := Lib.hid hl3
              have HM3 := Lib.hid hP3.mI
              have HIR := Lib.hid hir
              clear hP3 hK3 hl3 hir
              by_cases hr : r < s.size
              · obtain ⟨g1', _, g3'⟩ := HP3.out.pos.get hr
                have HG4 := Lib.hid g3'
                have hd' : decide ((J : Int) < ((cps s).length : Int)) = true := by simp; omega
                have hdn' : decide (J < (cps s).length) = true := by simp; omega
                clear g3'
                by_cases h10 : rV s r = 10
                · have e10 : (rV s r != 10) = false := by rw [h10]; rfl
                  have hz : lineLen (s.data.toList.drop r) = 0 := line_end s r (fun _ => by unfold rV at h10; rw [if_pos hr] at h10; omega)
                  have hfin : lx (s.data.toList.drop p0) I0 0 = lx (s.data.toList.drop r) J 0 := by rw [HL3.out, hz]
                  have hrp : J ≠ I := fun e => by
                    have h1 := HIR.out e
                    rw [h1] at h10
                    unfold rV at h10
                    rw [if_pos hp, ← HC.out, h45] at h10
                    omega
                  have HFIN := Lib.hid hfin
                  clear hz hfin h10
                  go_wp2_with fail
                  go_quiet (exact Calls.quiet_of (pr0_any _ (HP3.out.drewN _) hs))
                  go_wp2_with fail
                  refine ⟨⟨J, r, HP3.out.drewN _, HK3.out.trans (Kept.of_below (below_drewN2 _ _) (fun k => k = q)) (fun k hk => Or.inl hk), HFIN.out⟩, ?_⟩
                  rw [(HP3.out.drewN _).mI, HM.out]
                  omega
                · have e10 : (rV s r != 10) = true := by rw [bne_iff_ne]; exact h10
                  have hne10 : (Utf8.decode s r).1 ≠ 10 := fun e => h10 (by unfold rV; rw [if_pos hr, e]; rfl)
                  have hls := line_step s r hr hne10
                  have hwd := width_pos s r hr
                  have hnew : lx (s.data.toList.drop p0) I0 0 = lx (s.data.toList.drop (r + (Utf8.decode s r).2)) (J + 1) (lineLen (s.data.toList.drop (r + (Utf8.decode s r).2))) := by
                    rw [HL3.out, lx_skip (drop_ne s r hr) (by omega), List.drop_drop, Lib.decodeL_drop, hls]
                    congr 1
                    omega
                  have HNEW := Lib.hid hnew
                  clear hls hnew h10 hne10
                  go_wp2_with fail
                  go_quiet (exact Calls.quiet_of (pr0_any _ (HP3.out.drewN _) hs))
                  have P5 := HP3.out.drewN nq
                  have K5 : Kept (fun k => k = q) w (wr.drewN nq) := HK3.out.trans (Kept.of_below (below_drewN2 _ _) (fun k => k = q)) (fun k hk => Or.inl hk)
                  have S5 := P5.step HG4.out
                  have d2 := cell_at (i := 2) P5.blk rfl
                  have d3 := thawed_at (i := 2) P5.blk
                  have HS5 := Lib.hid S5
                  have HK5 := Lib.hid K5
                  clear P5 K5 S5
                  go_wp2_with fail
                  refine ⟨⟨J + 1, r + (Utf8.decode s r).2, HS5.out.1, HK5.out.trans HS5.out.2 (fun k hk => Or.inl hk), HNEW.out, by omega, fun e => by omega⟩, ?_⟩
                  change (cps s).length - mI ((wr.drewN nq).setCell ⟨q, 2, none⟩ (.int .i64 ((J + 1 : Nat) : Int))) q < (cps s).length - mI wr q
                  rw [HS5.out.1.mI, HM3.out]
                  omega
              · obtain ⟨g1', _⟩ := HP3.out.pos.fin hr
                have hd' : decide ((J : Int) < ((cps s).length : Int)) = false := by simp; omega
                have hdn' : decide (J < (cps s).length) = false := by simp; omega
                have hz : lineLen (s.data.toList.drop r) = 0 := line_end s r (fun h => absurd h hr)
                have hfin : lx (s.data.toList.drop p0) I0 0 = lx (s.data.toList.drop r) J 0 := by rw [HL3.out, hz]
                have HFIN := Lib.hid hfin
                have hJI : I < J := by omega
                clear hz hfin
                go_wp2_with fail
                go_quiet (exact Calls.quiet_of (pr0_any _ (HP3.out.drewN _) hs))
                go_wp2_with fail
                refine ⟨⟨J, r, HP3.out.drewN _, HK3.out.trans (Kept.of_below (below_drewN2 _ _) (fun k => k = q)) (fun k hk => Or.inl hk), HFIN.out⟩, ?_⟩
                rw [(HP3.out.drewN _).mI, HM.out]
                omega
          · have e6 : (rV s (p + 1) == 45) = false := by rw [beq_eq_false_iff_ne]; exact h452
            have hnc : (s.data.toList.drop p).take 2 ≠ [45, 45] := fun h => h452 ((take2_iff s p).1 h).2
            have HNC := Lib.hid hnc
            clear hnc h452
            go_wp2_with fail
            try simp only [Exit.inBlock, Exit.then]
            refine bodyPost_ret (results_none rfl _ _ _) rfl ?_
            exact ⟨rfl, I, p, HP2.out, HK2.out, HLX.out, fun _ => ⟨HNB.out, HNC.out⟩⟩
        · have e5 : ((cc : Int) == 45) = false := by rw [beq_eq_false_iff_ne]; omega
          have hnc : (s.data.toList.drop p).take 2 ≠ [45, 45] := fun h => h45 (by
            have := ((take2_iff s p).1 h).1
            unfold rV at this
            rw [if_pos hp, ← HC.out] at this
            omega)
          have HNC := Lib.hid hnc
          clear hnc
          go_wp2_with fail
          try simp only [Exit.inBlock, Exit.then]
          refine bodyPost_ret (results_none rfl _ _ _) rfl ?_
          exact ⟨rfl, I, p, HP1.out, HK1.out, HLX.out, fun _ => ⟨HNB.out, HNC.out⟩⟩
    · obtain ⟨g1, _⟩ := HP.out.pos.fin hp
      have hd : decide ((I : Int) < ((cps s).length : Int)) = false := by simp; omega
      have hii : ¬ (I : Int) < ((cps s).length : Int) := by omega
      go_wp2_with fail
      go_quiet (fail)
      go_wp2_with fail
      go_end0
      exact ⟨rfl, I, p, HP.out.drewN _, HK.out.trans (Kept.of_below (below_drewN2 _ _) (fun k => k = q)) (fun k hk => Or.inl hk), HLX.out, fun h => absurd h hp⟩
end Go.Proofs.YtdbdlgmejddbhaaDoor
