/-
  Contracts of lex: first.
-/
import Derived.Test.YtdbdlgmejddbhaaDoorLx4
set_option linter.unusedVariables false
namespace Go.Proofs.YtdbdlgmejddbhaaDoor
open Go Go.RowKit Go.Proofs Go.Lib

theorem tokV_form (R : Option (Nat × List UInt8 × Int × Nat)) : ∃ (a : Int) (b : ByteArray) (c d k : Int) (o : Bool), tokV R = .tuple #[.agg #[.int .i64 a, .string b, .int .i64 c, .int .i64 d], .int .i64 k, .bool o] := by
  cases R with
  | none => exact ⟨_, _, _, _, _, _, rfl⟩
  | some t => exact ⟨_, _, _, _, _, _, rfl⟩

set_option maxHeartbeats 4000000 in
set_option maxRecDepth 100000 in
theorem lfirst_any (s : ByteArray) (w : World) (hs : s.size ≤ 1099511627776) (h0 : s.data.toList ≠ []) (hE : Two w) :
    Calls Tryd.prog 16 #[.string s, .int .i32 ((decodeL s.data.toList).1 : Nat)] w fun e w' => e = .returned (tokV (tok s.data.toList)) ∧ Below w.heap.size w w' := by
  have htok : tok s.data.toList = if (decodeL s.data.toList).1 = 39 then textTok s.data.toList
      else if (decodeL s.data.toList).1 = 45 ∨ dgtC (decodeL s.data.toList) = true then numTok s.data.toList
      else if ltrC (decodeL s.data.toList) = true then wordTok s.data.toList
      else if signB (decodeL s.data.toList).1 = true then some (4, [UInt8.ofNat (decodeL s.data.toList).1], 0, 1) else none := rfl
  generalize tok s.data.toList = R at *
  have hlet := fun w => llet_any s w hs h0
  have hval := dec_valid s.data.toList
  have hdg : dgtC (decodeL s.data.toList) = dgtC ((decodeL s.data.toList).1, 0) := rfl
  have htx := fun w => ltext_any s w hs
  generalize hlc : ltrC (decodeL s.data.toList) = lb at *
  rw [hdg] at htok
  generalize hc : (decodeL s.data.toList).1 = c at *
  clear hdg hlc hc
  have HT := Lib.hid htok
  have HL := Lib.hid hlet
  have HV := Lib.hid hval
  have HX := Lib.hid htx
  clear htok hlet hval htx
  have b01 : Below w.heap.size w (w.alloc tokZ) := (Below.refl _ _).alloc (Nat.le_refl _) _
  have z01 : (w.alloc tokZ).heap[w.heap.size]? = some tokZ := heap_alloc_new w _
  have E01 := hE.below b01
  have s01 : (w.alloc tokZ).heap.size = w.heap.size + 1 := by simp
  obtain ⟨W, hW⟩ : ∃ W, w.alloc tokZ = W := ⟨_, rfl⟩
  rw [hW] at b01 z01 E01 s01
  have Z1 := Lib.hid z01
  have B1 := Lib.hid b01
  have HE := Lib.hid E01
  have HS := Lib.hid s01
  clear z01 b01 E01 s01 hE
  by_cases h39 : c = 39
  · have hR : R = textTok s.data.toList := HT.out.trans (if_pos h39)
    have hb : ((c : Int) == 39) = true := by rw [h39]; rfl
    obtain ⟨a, b, cc, d, k, o, hv⟩ := tokV_form R
    have HR := Lib.hid hR
    have HVV := Lib.hid hv
    clear hR hv
    go_enter Tryd.func16, Tryd.ntmps16
    go_wp2_with fail
    refine (HX.out _ h39).mono ?_
    rintro e w1 ⟨rfl, b1⟩
    rw [← HR.out, HVV.out]
    have z2 : w1.heap[w.heap.size]? = some tokZ := (b1.block _ (by rw [HS.out]; omega)).trans Z1.out
    have B2 : Below w.heap.size w w1 := B1.out.trans (b1.mono B1.out.size)
    obtain ⟨y3, B3⟩ := tok_end (Nat.le_refl _) B2 z2 (.int .i64 a) (.string b) (.int .i64 cc) (.int .i64 d)
    have Y3 := Lib.hid y3
    have BB := Lib.hid B3
    have c0 := cell_at (i := 0) z2 rfl
    have c1 := cell_at (i := 1) z2 rfl
    have c2 := cell_at (i := 2) z2 rfl
    have c3 := cell_at (i := 3) z2 rfl
    have f0 := thawed_at (i := 0) z2
    have f1 := thawed_at (i := 1) z2
    have f2 := thawed_at (i := 2) z2
    have f3 := thawed_at (i := 3) z2
    clear y3 B3 z2 B2 b1 h39 hW
    go_wp2
    try simp only [Exit.inBlock, Exit.then]
    refine bodyPost_ret (results_c3 rfl _ _ w.heap.size _ _ _ _ rfl Y3.out Tryd.underlying31 rfl (by kernel_rfl)) rfl ⟨by rw [HVV.out]; rfl, BB.out⟩
  · have hb : ((c : Int) == 39) = false := by simp; omega
    by_cases h45 : c = 45 ∨ dgtC (c, 0) = true
    · have hR : R = numTok s.data.toList := (HT.out.trans (if_neg h39)).trans (if_pos h45)
      obtain ⟨a, b, cc, d, k, o, hv⟩ := tokV_form R
      have HR := Lib.hid hR
      have HVV := Lib.hid hv
      clear hR hv
      have fin : ∀ w1 : World, Below W.heap.size W w1 → True := fun _ _ => trivial
      clear fin
      by_cases h4 : c = 45
      · have hb4 : ((c : Int) == 45) = true := by rw [h4]; rfl
        go_enter Tryd.func16, Tryd.ntmps16
        go_wp2_with fail
        refine (lnum_any s _ hs HE.out).mono ?_
        rintro e w1 ⟨rfl, b1⟩
        rw [← HR.out, HVV.out]
        have z2 : w1.heap[w.heap.size]? = some tokZ := (b1.block _ (by rw [HS.out]; omega)).trans Z1.out
        have B2 : Below w.heap.size w w1 := B1.out.trans (b1.mono B1.out.size)
        obtain ⟨y3, B3⟩ := tok_end (Nat.le_refl _) B2 z2 (.int .i64 a) (.string b) (.int .i64 cc) (.int .i64 d)
        have Y3 := Lib.hid y3
        have BB := Lib.hid B3
        have c0 := cell_at (i := 0) z2 rfl
        have c1 := cell_at (i := 1) z2 rfl
        have c2 := cell_at (i := 2) z2 rfl
        have c3 := cell_at (i := 3) z2 rfl
        have f0 := thawed_at (i := 0) z2
        have f1 := thawed_at (i := 1) z2
        have f2 := thawed_at (i := 2) z2
        have f3 := thawed_at (i := 3) z2
        clear y3 B3 z2 B2 b1 hW
        go_wp2
        try simp only [Exit.inBlock, Exit.then]
        refine bodyPost_ret (results_c3 rfl _ _ w.heap.size _ _ _ _ rfl Y3.out Tryd.underlying31 rfl (by kernel_rfl)) rfl ⟨by rw [HVV.out]; rfl, BB.out⟩
      · have hb4 : ((c : Int) == 45) = false := by simp; omega
        have hdg : dgtC (c, 0) = true := by rcases h45 with h | h; exact absurd h h4; exact h
        have HDG := Lib.hid hdg
        clear hdg h45
        go_enter Tryd.func16, Tryd.ntmps16
        go_wp2_with fail
        refine (ldig_any c _).mono ?_
        rintro e w1 ⟨rfl, rfl⟩
        rw [HDG.out]
        go_wp2_with fail
        refine (lnum_any s _ hs HE.out).mono ?_
        rintro e w1 ⟨rfl, b1⟩
        rw [← HR.out, HVV.out]
        have z2 : w1.heap[w.heap.size]? = some tokZ := (b1.block _ (by rw [HS.out]; omega)).trans Z1.out
        have B2 : Below w.heap.size w w1 := B1.out.trans (b1.mono B1.out.size)
        obtain ⟨y3, B3⟩ := tok_end (Nat.le_refl _) B2 z2 (.int .i64 a) (.string b) (.int .i64 cc) (.int .i64 d)
        have Y3 := Lib.hid y3
        have BB := Lib.hid B3
        have c0 := cell_at (i := 0) z2 rfl
        have c1 := cell_at (i := 1) z2 rfl
        have c2 := cell_at (i := 2) z2 rfl
        have c3 := cell_at (i := 3) z2 rfl
        have f0 := thawed_at (i := 0) z2
        have f1 := thawed_at (i := 1) z2
        have f2 := thawed_at (i := 2) z2
        have f3 := thawed_at (i := 3) z2
        clear y3 B3 z2 B2 b1 hW
        go_wp2
        try simp only [Exit.inBlock, Exit.then]
        refine bodyPost_ret (results_c3 rfl _ _ w.heap.size _ _ _ _ rfl Y3.out Tryd.underlying31 rfl (by kernel_rfl)) rfl ⟨by rw [HVV.out]; rfl, BB.out⟩
    · have hb4 : ((c : Int) == 45) = false := by
        simp only [not_or] at h45
        simp
        omega
      have hdg : dgtC (c, 0) = false := by
        simp only [not_or] at h45
        simpa using h45.2
      have hR2 := (HT.out.trans (if_neg h39)).trans (if_neg h45)
      have HDG := Lib.hid hdg
      clear hdg h45
      cases lb with
      | true =>
        have hR : R = wordTok s.data.toList := hR2.trans (if_pos rfl)
        obtain ⟨a, b, cc, d, k, o, hv⟩ := tokV_form R
        have HR := Lib.hid hR
        have HVV := Lib.hid hv
        clear hR hv hR2
        go_enter Tryd.func16, Tryd.ntmps16
        go_wp2_with fail
        refine (ldig_any c _).mono ?_
        rintro e w1 ⟨rfl, rfl⟩
        rw [HDG.out]
        go_wp2_with fail
        refine (HL.out _).mono ?_
        rintro e w1 ⟨rfl, b1⟩
        go_wp2_with fail
        refine (lword_any s _ hs).mono ?_
        rintro e w2 ⟨rfl, b2⟩
        rw [← HR.out, HVV.out]
        have b12 := b1.trans (b2.mono b1.size)
        clear b1 b2
        generalize w2 = w1 at *
        have b1 := b12
        clear b12
        have z2 : w1.heap[w.heap.size]? = some tokZ := (b1.block _ (by rw [HS.out]; omega)).trans Z1.out
        have B2 : Below w.heap.size w w1 := B1.out.trans (b1.mono B1.out.size)
        obtain ⟨y3, B3⟩ := tok_end (Nat.le_refl _) B2 z2 (.int .i64 a) (.string b) (.int .i64 cc) (.int .i64 d)
        have Y3 := Lib.hid y3
        have BB := Lib.hid B3
        have c0 := cell_at (i := 0) z2 rfl
        have c1 := cell_at (i := 1) z2 rfl
        have c2 := cell_at (i := 2) z2 rfl
        have c3 := cell_at (i := 3) z2 rfl
        have f0 := thawed_at (i := 0) z2
        have f1 := thawed_at (i := 1) z2
        have f2 := thawed_at (i := 2) z2
        have f3 := thawed_at (i := 3) z2
        clear y3 B3 z2 B2 b1 hW
        go_wp2
        try simp only [Exit.inBlock, Exit.then]
        refine bodyPost_ret (results_c3 rfl _ _ w.heap.size _ _ _ _ rfl Y3.out Tryd.underlying31 rfl (by kernel_rfl)) rfl ⟨by rw [HVV.out]; rfl, BB.out⟩
      | false =>
        have hR3 := hR2.trans (if_neg (by simp))
        clear hR2
        cases hsg : signB c with
        | true =>
          have hR : R = some (4, [UInt8.ofNat c], 0, 1) := by rw [hR3, if_pos hsg]
          have hclt : c < 128 := by
            unfold signB at hsg
            simp at hsg
            omega
          have hen : Utf8.encode (c : Nat) = ⟨#[UInt8.ofNat c]⟩ := by
            unfold Utf8.encode
            rw [HV.out]
            simp only [if_true, Int.toNat_natCast]
            rw [if_pos hclt]
          have hv : tokV R = .tuple #[.agg #[.int .i64 4, .string (Utf8.encode (c : Nat)), .int .i64 0, .int .i64 0], .int .i64 1, .bool true] := by rw [hR, hen]; rfl
          have HVV := Lib.hid hv
          have HSG := Lib.hid hsg
          clear hR hv hR3 hsg hen hclt
          go_enter Tryd.func16, Tryd.ntmps16
          go_wp2_with fail
          refine (ldig_any c _).mono ?_
          rintro e w1 ⟨rfl, rfl⟩
          rw [HDG.out]
          go_wp2_with fail
          refine (HL.out _).mono ?_
          rintro e w1 ⟨rfl, b1⟩
          go_wp2_with fail
          refine (sign_any c _ HV.out).mono ?_
          rintro e w2 ⟨rfl, b2⟩
          rw [HSG.out]
          have b12 := b1.trans (b2.mono b1.size)
          clear b1 b2
          generalize w2 = w1 at *
          have b1 := b12
          clear b12
          have z2 : w1.heap[w.heap.size]? = some tokZ := (b1.block _ (by rw [HS.out]; omega)).trans Z1.out
          have B2 : Below w.heap.size w w1 := B1.out.trans (b1.mono B1.out.size)
          obtain ⟨y3, B3⟩ := tok_end (Nat.le_refl _) B2 z2 (.int .i64 4) (.string (Utf8.encode (c : Nat))) (.int .i64 0) (.int .i64 0)
          have Y3 := Lib.hid y3
          have BB := Lib.hid B3
          have c0 := cell_at (i := 0) z2 rfl
          have c1 := cell_at (i := 1) z2 rfl
          have c2 := cell_at (i := 2) z2 rfl
          have c3 := cell_at (i := 3) z2 rfl
          have f0 := thawed_at (i := 0) z2
          have f1 := thawed_at (i := 1) z2
          have f2 := thawed_at (i := 2) z2
          have f3 := thawed_at (i := 3) z2
          clear y3 B3 z2 B2 b1 hW
          go_wp2
          try simp only [Exit.inBlock, Exit.then]
          refine bodyPost_ret (results_c3 rfl _ _ w.heap.size _ _ _ _ rfl Y3.out Tryd.underlying31 rfl (by kernel_rfl)) rfl ⟨by rw [HVV.out]; rfl, BB.out⟩
        | false =>
          have hR : R = none := by rw [hR3, if_neg (by rw [hsg]; simp)]
          have HR := Lib.hid hR
          have HSG := Lib.hid hsg
          clear hR hR3 hsg
          go_enter Tryd.func16, Tryd.ntmps16
          go_wp2_with fail
          refine (ldig_any c _).mono ?_
          rintro e w1 ⟨rfl, rfl⟩
          rw [HDG.out]
          go_wp2_with fail
          refine (HL.out _).mono ?_
          rintro e w1 ⟨rfl, b1⟩
          go_wp2_with fail
          refine (sign_any c _ HV.out).mono ?_
          rintro e w2 ⟨rfl, b2⟩
          rw [HSG.out]
          have b12 := b1.trans (b2.mono b1.size)
          clear b1 b2
          generalize w2 = w1 at *
          have b1 := b12
          clear b12
          have z2 : w1.heap[w.heap.size]? = some tokZ := (b1.block _ (by rw [HS.out]; omega)).trans Z1.out
          have B2 : Below w.heap.size w w1 := B1.out.trans (b1.mono B1.out.size)
          obtain ⟨y3, B3⟩ := tok_end (Nat.le_refl _) B2 z2 (.int .i64 0) (.string ⟨#[]⟩) (.int .i64 0) (.int .i64 0)
          have Y3 := Lib.hid y3
          have BB := Lib.hid B3
          have c0 := cell_at (i := 0) z2 rfl
          have c1 := cell_at (i := 1) z2 rfl
          have c2 := cell_at (i := 2) z2 rfl
          have c3 := cell_at (i := 3) z2 rfl
          have f0 := thawed_at (i := 0) z2
          have f1 := thawed_at (i := 1) z2
          have f2 := thawed_at (i := 2) z2
          have f3 := thawed_at (i := 3) z2
          clear y3 B3 z2 B2 b1 hW
          go_wp2
          try simp only [Exit.inBlock, Exit.then]
          refine bodyPost_ret (results_c3 rfl _ _ w.heap.size _ _ _ _ rfl Y3.out Tryd.underlying31 rfl (by kernel_rfl)) rfl ⟨by rw [HR.out]; rfl, BB.out⟩
end Go.Proofs.YtdbdlgmejddbhaaDoor
