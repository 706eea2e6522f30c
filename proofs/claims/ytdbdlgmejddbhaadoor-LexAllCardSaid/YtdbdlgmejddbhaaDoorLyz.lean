/-
  The document's own reader: one token.
-/
import Derived.Test.YtdbdlgmejddbhaaDoorLsA
import Derived.Test.YtdbdlgmejddbhaaDoorLsB
import Derived.RegionTactic
import Derived.ChangeAlike
import Derived.BigRegion
import Derived.Laws.IdiomStrings
import Derived.Lib.SmallJoins
set_option linter.unusedVariables false
namespace Go.Proofs.YtdbdlgmejddbhaaDoor
open Go Go.RowKit Go.Proofs

set_option maxHeartbeats 4000000 in
set_option maxRecDepth 100000 in
theorem pone_any {B q I0 p0 : Nat} {s : ByteArray} {v : Value} (w : World) (h : PSt B w q s v I0 p0) (hs : s.size ≤ 1000) (hp0 : p0 < s.size) :
    Calls Tryd.prog 19 #[.pointer (some ⟨q, 0, none⟩)] w fun e w' => POut B q s v I0 p0 (tok (s.data.toList.drop p0)) w e w' := by
  by_cases h6 : (Utf8.decode s p0).1 = 40 ∨ (Utf8.decode s p0).1 = 41 ∨ (Utf8.decode s p0).1 = 44 ∨ (Utf8.decode s p0).1 = 59 ∨ (Utf8.decode s p0).1 = 61 ∨ (Utf8.decode s p0).1 = 42
  · rcases h6 with h6 | h6 | h6 | h6 | h6 | h6
    · exact psg40_any w h hs hp0 h6
    · exact psg41_any w h hs hp0 h6
    · exact psg44_any w h hs hp0 h6
    · exact psg59_any w h hs hp0 h6
    · exact psg61_any w h hs hp0 h6
    · exact psg42_any w h hs hp0 h6
  have HNS0 := h6
  have hlen := cps_length s
  have hI0 : I0 ≤ 1000 := by have := h.pos.2.1; omega
  obtain ⟨W, hW⟩ : ∃ W, w.alloc refZ = W := ⟨_, rfl⟩
  have b0 : Below w.heap.size w W := by rw [← hW]; exact (Below.refl _ _).alloc (Nat.le_refl _) _
  have n0 : W.heap[w.heap.size]? = some refZ := by rw [← hW]; exact heap_alloc_new w _
  have hsz : W.heap.size = w.heap.size + 1 := by rw [← hW]; simp
  have PW := h.below b0
  have hqw : q ≠ w.heap.size := by have := h.lt; omega
  have HPW := Lib.hid PW
  have HB0 := Lib.hid b0
  have N0 := Lib.hid n0
  have hrv : rV s p0 = ((Utf8.decode s p0).1 : Nat) := if_pos hp0
  have hdl : Lib.decodeL (s.data.toList.drop p0) = Utf8.decode s p0 := Lib.decodeL_drop ..
  have HRV := Lib.hid hrv
  have HDL := Lib.hid hdl
  clear h PW b0 n0 hrv hdl
  go_enter Tryd.func19, Tryd.ntmps19
  go_wp2_with fail
  refine (pr0_any _ HPW.out hs).mono ?_
  rintro e w1 ⟨rfl, n1, hw1⟩
  have P1 : PSt B w1 q s v I0 p0 := by rw [hw1]; exact HPW.out.drewN n1
  have K1 : Kept (fun k => k = q) W w1 := Kept.of_below (by rw [hw1]; exact below_drewN2 _ _) (fun k => k = q)
  have HP1 := Lib.hid P1
  have HK1 := Lib.hid K1
  clear P1 K1 hw1
  rw [HRV.out]
  obtain ⟨c, hc⟩ : ∃ c, c = (Utf8.decode s p0).1 := ⟨_, rfl⟩
  rw [← hc]
  rw [← hc] at HNS0
  have HNS := Lib.hid HNS0
  clear HNS0 h6
  have HC := Lib.hid hc
  clear hc
  go_wp2_with fail
  refine (plet_any false _ HP1.out hs).mono ?_
  rintro e w2 ⟨rfl, b2⟩
  rw [Bool.false_and, Bool.or_false]
  have P2 := HP1.out.below b2
  have K2 : Kept (fun k => k = q) W w2 := HK1.out.trans (Kept.of_below b2 (fun k => k = q)) (fun k hk => Or.inl hk)
  have HP2 := Lib.hid P2
  have HK2 := Lib.hid K2
  clear P2 K2 b2
  cases hlt : ltrC (Lib.decodeL (s.data.toList.drop p0)) with
  | true =>
    have HLT := Lib.hid hlt
    clear hlt
    have HT := Lib.hid (rfl : tok (s.data.toList.drop p0) = tok (s.data.toList.drop p0))
    go_wp2_with fail
    refine (pword_out _ HP2.out hs HLT.out).mono ?_
    rintro e w3 ⟨ok, a, b, c', d, I, p, rfl, hP, hK, h1, h2, h3⟩
    have K3 : Kept (fun k => k = q) W w3 := HK2.out.trans hK (fun k hk => Or.inl hk)
    have z3 : w3.heap[w.heap.size]? = some refZ := (K3.block _ (by omega) (fun e => hqw e.symm)).trans N0.out
    obtain ⟨y4, P4, K4⟩ := ref_end (N := w.heap.size) hP ((Kept.of_below HB0.out (fun k => k = q)).trans K3 (fun k hk => Or.inl hk)) (Nat.le_refl _) hqw z3 (.int .i64 a) (.string b) (.int .i64 c') (.int .i64 d)
    have H1 := Lib.hid h1
    have H2 := Lib.hid h2
    have Z3 := Lib.hid z3
    clear hP hK h1 h2 K3 z3
    have HY := Lib.hid y4
    have HPY := Lib.hid P4
    have HKY := Lib.hid K4
    have d0 := cell_at (i := 0) Z3.out rfl
    have d1 := cell_at (i := 1) Z3.out rfl
    have d2 := cell_at (i := 2) Z3.out rfl
    have d3 := cell_at (i := 3) Z3.out rfl
    have f0 := thawed_at (i := 0) Z3.out
    have f1 := thawed_at (i := 1) Z3.out
    have f2 := thawed_at (i := 2) Z3.out
    have f3 := thawed_at (i := 3) Z3.out
    clear y4 P4 K4
    go_wp2
    try simp only [Exit.inBlock, Exit.then]
    refine bodyPost_ret (results_c2 rfl _ _ w.heap.size _ _ _ _ rfl HY.out Tryd.underlying32 rfl (by kernel_rfl)) rfl ⟨ok, a, b, c', d, I, p, rfl, HPY.out, HKY.out, by first | exact H1.out | (rw [HT.out]; exact H1.out), by first | exact H2.out | (rw [HT.out]; exact H2.out), h3⟩
  | false =>
    have HLT := Lib.hid hlt
    clear hlt
    go_wp2_with fail
    refine (pdig_any _ _).mono ?_
    rintro e w9 ⟨rfl, rfl⟩
    have hdg : (decide (48 ≤ (c : Int)) && decide ((c : Int) ≤ 57)) = dgtC (Utf8.decode s p0) := by
      unfold dgtC
      rw [← HC.out, Bool.eq_iff_iff]
      simp
      omega
    rw [hdg]
    clear hdg
    cases hdc : dgtC (Utf8.decode s p0) with
    | true =>
      have ht : tok (s.data.toList.drop p0) = numTok (s.data.toList.drop p0) := by
        unfold tok
        rw [HDL.out, if_neg (by unfold dgtC at hdc; simp at hdc; omega), if_pos (Or.inr hdc)]
      have HT := Lib.hid ht
      have HDC := Lib.hid hdc
      clear hdc ht
      go_wp2_with fail
      refine (pnum_any _ HP2.out hs (Or.inr (by rw [HDL.out]; exact HDC.out))).mono ?_
      rintro e w3 ⟨ok, a, b, c', d, I, p, rfl, hP, hK, h1, h2, h3⟩
      have K3 : Kept (fun k => k = q) W w3 := HK2.out.trans hK (fun k hk => Or.inl hk)
      have z3 : w3.heap[w.heap.size]? = some refZ := (K3.block _ (by omega) (fun e => hqw e.symm)).trans N0.out
      obtain ⟨y4, P4, K4⟩ := ref_end (N := w.heap.size) hP ((Kept.of_below HB0.out (fun k => k = q)).trans K3 (fun k hk => Or.inl hk)) (Nat.le_refl _) hqw z3 (.int .i64 a) (.string b) (.int .i64 c') (.int .i64 d)
      have H1 := Lib.hid h1
      have H2 := Lib.hid h2
      have Z3 := Lib.hid z3
      clear hP hK h1 h2 K3 z3
      have HY := Lib.hid y4
      have HPY := Lib.hid P4
      have HKY := Lib.hid K4
      have d0 := cell_at (i := 0) Z3.out rfl
      have d1 := cell_at (i := 1) Z3.out rfl
      have d2 := cell_at (i := 2) Z3.out rfl
      have d3 := cell_at (i := 3) Z3.out rfl
      have f0 := thawed_at (i := 0) Z3.out
      have f1 := thawed_at (i := 1) Z3.out
      have f2 := thawed_at (i := 2) Z3.out
      have f3 := thawed_at (i := 3) Z3.out
      clear y4 P4 K4
      go_wp2
      try simp only [Exit.inBlock, Exit.then]
      refine bodyPost_ret (results_c2 rfl _ _ w.heap.size _ _ _ _ rfl HY.out Tryd.underlying32 rfl (by kernel_rfl)) rfl ⟨ok, a, b, c', d, I, p, rfl, HPY.out, HKY.out, by first | exact H1.out | (rw [HT.out]; exact H1.out), by first | exact H2.out | (rw [HT.out]; exact H2.out), h3⟩
    | false =>
      have HDC := Lib.hid hdc
      clear hdc
      by_cases h45 : c = 45
      · have ht : tok (s.data.toList.drop p0) = numTok (s.data.toList.drop p0) := by
          unfold tok
          rw [HDL.out, ← HC.out, if_neg (by omega), if_pos (Or.inl h45)]
        have HT := Lib.hid ht
        have e1 : ((c : Int) == 45) = true := by rw [h45]; rfl
        clear ht
        go_wp2_with fail
        refine (pnum_any _ HP2.out hs (Or.inl (by rw [HRV.out, ← HC.out, h45]; rfl))).mono ?_
        rintro e w3 ⟨ok, a, b, c', d, I, p, rfl, hP, hK, h1, h2, h3⟩
        have K3 : Kept (fun k => k = q) W w3 := HK2.out.trans hK (fun k hk => Or.inl hk)
        have z3 : w3.heap[w.heap.size]? = some refZ := (K3.block _ (by omega) (fun e => hqw e.symm)).trans N0.out
        obtain ⟨y4, P4, K4⟩ := ref_end (N := w.heap.size) hP ((Kept.of_below HB0.out (fun k => k = q)).trans K3 (fun k hk => Or.inl hk)) (Nat.le_refl _) hqw z3 (.int .i64 a) (.string b) (.int .i64 c') (.int .i64 d)
        have H1 := Lib.hid h1
        have H2 := Lib.hid h2
        have Z3 := Lib.hid z3
        clear hP hK h1 h2 K3 z3
        have HY := Lib.hid y4
        have HPY := Lib.hid P4
        have HKY := Lib.hid K4
        have d0 := cell_at (i := 0) Z3.out rfl
        have d1 := cell_at (i := 1) Z3.out rfl
        have d2 := cell_at (i := 2) Z3.out rfl
        have d3 := cell_at (i := 3) Z3.out rfl
        have f0 := thawed_at (i := 0) Z3.out
        have f1 := thawed_at (i := 1) Z3.out
        have f2 := thawed_at (i := 2) Z3.out
        have f3 := thawed_at (i := 3) Z3.out
        clear y4 P4 K4
        go_wp2
        try simp only [Exit.inBlock, Exit.then]
        refine bodyPost_ret (results_c2 rfl _ _ w.heap.size _ _ _ _ rfl HY.out Tryd.underlying32 rfl (by kernel_rfl)) rfl ⟨ok, a, b, c', d, I, p, rfl, HPY.out, HKY.out, by first | exact H1.out | (rw [HT.out]; exact H1.out), by first | exact H2.out | (rw [HT.out]; exact H2.out), h3⟩
      · have e1 : ((c : Int) == 45) = false := by rw [beq_eq_false_iff_ne]; omega
        by_cases h39 : c = 39
        · have e2 : ((c : Int) == 39) = true := by rw [h39]; rfl
          have ht : tok (s.data.toList.drop p0) = textTok (s.data.toList.drop p0) := by
            unfold tok
            rw [HDL.out, ← HC.out, if_pos h39]
          have HT := Lib.hid ht
          clear ht
          go_wp2_with fail
          refine (ptext_any _ HP2.out hs hp0 (by rw [← HC.out]; exact h39)).mono ?_
          rintro e w3 ⟨ok, a, b, c', d, I, p, rfl, hP, hK, h1, h2, h3⟩
          have K3 : Kept (fun k => k = q) W w3 := HK2.out.trans hK (fun k hk => Or.inl hk)
          have z3 : w3.heap[w.heap.size]? = some refZ := (K3.block _ (by omega) (fun e => hqw e.symm)).trans N0.out
          obtain ⟨y4, P4, K4⟩ := ref_end (N := w.heap.size) hP ((Kept.of_below HB0.out (fun k => k = q)).trans K3 (fun k hk => Or.inl hk)) (Nat.le_refl _) hqw z3 (.int .i64 a) (.string b) (.int .i64 c') (.int .i64 d)
          have H1 := Lib.hid h1
          have H2 := Lib.hid h2
          have Z3 := Lib.hid z3
          clear hP hK h1 h2 K3 z3
          have HY := Lib.hid y4
          have HPY := Lib.hid P4
          have HKY := Lib.hid K4
          have d0 := cell_at (i := 0) Z3.out rfl
          have d1 := cell_at (i := 1) Z3.out rfl
          have d2 := cell_at (i := 2) Z3.out rfl
          have d3 := cell_at (i := 3) Z3.out rfl
          have f0 := thawed_at (i := 0) Z3.out
          have f1 := thawed_at (i := 1) Z3.out
          have f2 := thawed_at (i := 2) Z3.out
          have f3 := thawed_at (i := 3) Z3.out
          clear y4 P4 K4
          go_wp2
          try simp only [Exit.inBlock, Exit.then]
          refine bodyPost_ret (results_c2 rfl _ _ w.heap.size _ _ _ _ rfl HY.out Tryd.underlying32 rfl (by kernel_rfl)) rfl ⟨ok, a, b, c', d, I, p, rfl, HPY.out, HKY.out, by first | exact H1.out | (rw [HT.out]; exact H1.out), by first | exact H2.out | (rw [HT.out]; exact H2.out), h3⟩
        · have e2 : ((c : Int) == 39) = false := by rw [beq_eq_false_iff_ne]; omega
          have ht : tok (s.data.toList.drop p0) = if signB c = true then some (4, [UInt8.ofNat c], 0, 1) else none := by
            unfold tok
            rw [HLT.out, HDL.out, ← HC.out, if_neg h39, if_neg (by rw [HDC.out]; simp; exact h45), if_neg (by simp)]
          have HT := Lib.hid ht
          clear ht
          by_cases hsb : signB c = true
          · have h6 : c = 40 ∨ c = 41 ∨ c = 44 ∨ c = 59 ∨ c = 61 ∨ c = 42 := by
              unfold signB at hsb
              simpa [or_assoc] using hsb
            exact absurd h6 HNS.out
          · have h6 : ¬ (c = 40 ∨ c = 41 ∨ c = 44 ∨ c = 59 ∨ c = 61 ∨ c = 42) := by
              unfold signB at hsb
              simpa [or_assoc] using hsb
            have s1 : ((c : Int) == 40) = false := by rw [beq_eq_false_iff_ne]; omega
            have s2 : ((c : Int) == 41) = false := by rw [beq_eq_false_iff_ne]; omega
            have s3 : ((c : Int) == 44) = false := by rw [beq_eq_false_iff_ne]; omega
            have s4 : ((c : Int) == 59) = false := by rw [beq_eq_false_iff_ne]; omega
            have s5 : ((c : Int) == 61) = false := by rw [beq_eq_false_iff_ne]; omega
            have s6 : ((c : Int) == 42) = false := by rw [beq_eq_false_iff_ne]; omega
            have z3 : w9.heap[w.heap.size]? = some refZ := (HK2.out.block _ (by omega) (fun e => hqw e.symm)).trans N0.out
            obtain ⟨y4, P4, K4⟩ := ref_end (N := w.heap.size) HP2.out ((Kept.of_below HB0.out (fun k => k = q)).trans HK2.out (fun k hk => Or.inl hk)) (Nat.le_refl _) hqw z3 (.int .i64 0) (.string ⟨#[]⟩) (.int .i64 0) (.int .i64 0)
            have HY := Lib.hid y4
            have HPY := Lib.hid P4
            have HKY := Lib.hid K4
            have d0 := cell_at (i := 0) z3 rfl
            have d1 := cell_at (i := 1) z3 rfl
            have d2 := cell_at (i := 2) z3 rfl
            have d3 := cell_at (i := 3) z3 rfl
            have f0 := thawed_at (i := 0) z3
            have f1 := thawed_at (i := 1) z3
            have f2 := thawed_at (i := 2) z3
            have f3 := thawed_at (i := 3) z3
            clear y4 P4 K4
            clear h6
            go_wp2
            try simp only [Exit.inBlock, Exit.then]
            refine bodyPost_ret (results_c2 rfl _ _ w.heap.size _ _ _ _ rfl HY.out Tryd.underlying32 rfl (by kernel_rfl)) rfl ⟨false, _, _, _, _, I0, p0, rfl, HPY.out, HKY.out, (fun h => by cases h), fun _ => by rw [HT.out, if_neg hsb], fun h => by cases h⟩
end Go.Proofs.YtdbdlgmejddbhaaDoor
