/-
  The document's own reader: all tokens.
-/
import Derived.Test.YtdbdlgmejddbhaaDoorLyz
import Derived.Test.YtdbdlgmejddbhaaDoorLub
import Derived.Test.YtdbdlgmejddbhaaDoorLx7
import Derived.Test.YtdbdlgmejddbhaaDoorApp
import Derived.Test.YtdbdlgmejddbhaaDoorRf4
set_option linter.unusedVariables false
namespace Go.Proofs.YtdbdlgmejddbhaaDoor
open Go Go.RowKit Go.Proofs Go.Lib

/-- A slice of the call's own with the reader's tokens. -/
def IsRefs (B : Nat) (v : Value) (L : List Tk4) (w : World) : Prop := w.ownsRow B 32 4 v L.length (L.flatMap tcells)
/-- What the reader's All answers. -/
def RefV (B : Nat) (s : ByteArray) (e : Ending) (w : World) : Prop :=
  (1000 < s.size ∧ e = .returned (.tuple #[.slice none 0 0, .int .i64 0, .int .i64 2])) ∨
  (s.size ≤ 1000 ∧ ∃ n : Nat, lx s.data.toList 0 0 = .error n ∧ e = .returned (.tuple #[.slice none 0 0, .int .i64 (n : Nat), .int .i64 3])) ∨
  (s.size ≤ 1000 ∧ ∃ L v, lx s.data.toList 0 0 = .ok L ∧ IsRefs B v L w ∧ e = .returned (.tuple #[v, .int .i64 0, .int .i64 0]))
theorem infoRef : (Tryd.prog.info? 32).map (fun i => (i.zero, i.size, i.bytes)) = some (some (.agg #[.int .i64 0, .string ⟨#[]⟩, .int .i64 0, .int .i64 0]), 4, 40) := by kernel_rfl
theorem refs_below {w w' : World} {B : Nat} {v : Value} {L : List Tk4} (h : IsRefs B v L w) (hb : Below w.heap.size w w') : IsRefs B v L w' := own_kept h fun g hg => hb.block g (own_block_lt h g hg)
theorem rall_big (s : ByteArray) (w : World) (hs : s.size ≤ 1099511627776) (hb : 1000 < s.size) :
    Calls Tryd.prog 9 #[.string s] w fun e w' => RefV w.heap.size s e w' ∧ Below w.heap.size w w' := by
  have h2 : (1000 : Int) < (s.size : Nat) := by omega
  go_enter Tryd.func9, Tryd.ntmps9
  go_wp2
  go_ret3
  exact ⟨.inl ⟨hb, rfl⟩, Below.refl _ _⟩

set_option maxHeartbeats 1000000 in
set_option maxRecDepth 100000 in
theorem rall_any (s : ByteArray) (w : World) (hs : s.size ≤ 1000) :
    Calls Tryd.prog 9 #[.string s] w fun e w' => RefV w.heap.size s e w' ∧ Below w.heap.size w w' := by
  have hl : s.data.toList.length = s.size := by rw [Lib.size_eq]
  have hlen := cps_length s
  have h2 : ¬ (1000 : Int) < (s.size : Nat) := by omega
  obtain ⟨i0, hi, hz0, hz1, hz2⟩ := info_parts infoRef
  have HL := Lib.hid hl
  obtain ⟨R, hR⟩ : ∃ R, R = lx s.data.toList 0 0 := ⟨_, rfl⟩
  have HRR := Lib.hid hR
  clear hl hR
  go_enter Tryd.func9, Tryd.ntmps9
  go_wp2_with fail
  refine (all_any s _ (by omega)).mono ?_
  rintro e w1 ⟨va, rfl, hall, b1⟩
  have HA := Lib.hid hall
  have B1 := Lib.hid b1
  obtain ⟨A, cap, rfl, _, _, _⟩ := hall.form
  clear hall b1
  obtain ⟨W, hW⟩ : ∃ W, w1.alloc (.cells #[.string s, .slice A (cps s).length cap, .int .i64 0] 53) = W := ⟨_, rfl⟩
  have bW : Below w1.heap.size w1 W := by rw [← hW]; exact (Below.refl _ _).alloc (Nat.le_refl _) _
  have nW : W.heap[w1.heap.size]? = some (.cells #[.string s, .slice A (cps s).length cap, .int .i64 0] 53 (0, 0)) := by rw [← hW]; exact heap_alloc_new w1 _
  have hsW : W.heap.size = w1.heap.size + 1 := by rw [← hW]; simp
  have PW : PSt w.heap.size W w1.heap.size s (.slice A (cps s).length cap) 0 0 := ⟨nW, owns_below HA.out bW, Pos.start s⟩
  have HPW := Lib.hid PW
  have BW : Below w.heap.size w W := B1.out.trans (bW.mono B1.out.size)
  have HBW := Lib.hid BW
  have hq : w.heap.size ≤ w1.heap.size := B1.out.size
  clear PW BW bW nW HA
  go_wp2_with fail
  clear hW B1
  generalize w1.heap.size = q at *
  go_loopw [6] (fun tk wr => ∃ (v : Value) (I p : Nat) (L : List Tk4), v = tk ∧ PSt w.heap.size wr q s (.slice A (cps s).length cap) I p ∧ IsRefs w.heap.size v L wr ∧ Below w.heap.size w wr ∧ R = appE L (lx (s.data.toList.drop p) I 0) ∧ L.length ≤ I) (fun _ wr => (cps s).length - mI wr q)
  case atStart => exact ⟨_, 0, 0, [], rfl, HPW.out, ⟨by simp, .inl ⟨rfl, rfl⟩⟩, HBW.out, by rw [appE_nil, List.drop_zero]; exact HRR.out, Nat.le_refl _⟩
  case round =>
    obtain ⟨v, I, p, L, rfl, hP, hO, hB, hR, hLI⟩ := hrel
    have HM := Lib.hid hP.mI
    have hI : I ≤ 1000 := by have := hP.pos.2.1; omega
    have HP := Lib.hid hP
    have HO := Lib.hid hO
    have HB := Lib.hid hB
    have HR := Lib.hid hR
    clear hP hO hB hR
    go_wp2_with fail
    refine (pblank_up _ HP.out hs).mono ?_
    rintro e w2 ⟨rfl, I1, p1, hP1, hK1, hx1, hst1, hup1⟩
    have hO1 : IsRefs w.heap.size v L w2 := own_set HO.out hK1 HP.out.blk (by decide)
    have hB1 : Below w.heap.size w w2 := HB.out.trans (hK1.below (fun k hk => by subst hk; exact hq) HB.out.size)
    have hR1 : R = appE L (lx (s.data.toList.drop p1) I1 0) := by rw [HR.out, hx1]
    have hI1 : I1 ≤ 1000 := by have := hP1.pos.2.1; omega
    have c1 := cell_at (i := 1) hP1.blk rfl
    have c2 := cell_at (i := 2) hP1.blk rfl
    have HP1 := Lib.hid hP1
    have HO1 := Lib.hid hO1
    have HB1 := Lib.hid hB1
    have HR1 := Lib.hid hR1
    have HST := Lib.hid hst1
    clear hP1 hO1 hB1 hR1 hst1 hx1 hK1
    by_cases hp : p1 < s.size
    · obtain ⟨g1, _, _⟩ := HP1.out.pos.get hp
      have hd : decide (((cps s).length : Int) ≤ (I1 : Int)) = false := by simp; omega
      have hne := drop_ne s p1 hp
      obtain ⟨hbl, hcm⟩ := HST.out hp
      rw [← Lib.decodeL_drop] at hbl
      have HNE := Lib.hid hne
      have HBL := Lib.hid hbl
      have HCM := Lib.hid hcm
      clear hne hbl hcm HST
      go_wp2_with fail
      go_quiet (fail)
      have hP2 := HP1.out.drewN nq
      have hO2 := refs_below HO1.out (below_drewN2 w2 nq)
      have hB2 : Below w.heap.size w (w2.drewN nq) := HB1.out.trans ((below_drewN2 w2 nq).mono HB1.out.size)
      generalize w2.drewN nq = w3 at *
      have c3 := cell_at (i := 2) hP2.blk rfl
      have HP2 := Lib.hid hP2
      have HO2 := Lib.hid hO2
      have HB2 := Lib.hid hB2
      clear hP2 hO2 hB2 c1 c2
      go_wp2_with fail
      refine (pone_any _ HP2.out hs hp).mono ?_
      rintro e w4 ⟨ok, a, b, c, d, I4, p4, rfl, hP4, hK4, h1, h2, h3⟩
      have hO4 : IsRefs w.heap.size v L w4 := own_set HO2.out hK4 HP2.out.blk (by decide)
      have hB4 : Below w.heap.size w w4 := HB2.out.trans (hK4.below (fun k hk => by subst hk; exact hq) HB2.out.size)
      have HP4 := Lib.hid hP4
      have HO4 := Lib.hid hO4
      have HB4 := Lib.hid hB4
      have H1 := Lib.hid h1
      have H2 := Lib.hid h2
      have H3 := Lib.hid h3
      clear hP4 hO4 hB4 h1 h2 h3 hK4
      cases ok with
      | false =>
        have hn := H2.out rfl
        have herr : R = .error I1 := by
          rw [HR1.out, lx_none I1 HNE.out HBL.out HCM.out hn]
          rfl
        have HERR := Lib.hid herr
        clear hn herr
        go_wp2
        go_ret3
        refine ⟨.inr (.inl ⟨hs, I1, HRR.out.symm.trans HERR.out, rfl⟩), ?_⟩
        exact HB4.out.alloc HB4.out.size _
      | true =>
        obtain ⟨⟨k, T, z, m⟩, ht, rfl, rfl, rfl, rfl, hx4⟩ := H1.out rfl
        have hlt := H3.out rfl
        dsimp only at hx4 ⊢
        have hI4 : I4 ≤ 1000 := by have := HP4.out.pos.2.1; omega
        have hnew : R = appE (L ++ [(k, T, c, I1)]) (lx (s.data.toList.drop p4) I4 0) := by
          rw [HR1.out, lx_tok I1 HNE.out HBL.out HCM.out ht, appE_cons]
          dsimp only
          rw [hx4]
        have HNEW := Lib.hid hnew
        clear hnew ht hx4
        generalize hTT : ByteArray.mk T.toArray = TT
        have HTT := Lib.hid hTT
        clear hTT
        have hown4 := HO4.out
        unfold IsRefs at hown4
        have hlt4 := hown4.lt
        have HO5 := Lib.hid hown4
        have HLT := Lib.hid hlt4
        have hq4 : q < w4.heap.size := HP4.out.lt
        clear hown4 hlt4
        go_wp2_with (at_builtin; refine wpList_append_own _ rfl _ _ 27 rfl w.heap.size 32 i0 (.agg #[.int .i64 0, .string ⟨#[]⟩, .int .i64 0, .int .i64 0]) 4 40 Tryd.underlying27 hi hz0 hz1 hz2 rfl (by decide) _ _ _ rfl ((HO5.out.alloc _).alloc _) ⟨w4.heap.size + 1, 0, none⟩ 1 1 [.int .i64 (k : Nat), .string TT, .int .i64 c, .int .i64 (I1 : Nat)] rfl rfl ?c1 ?c2 ?c3 ?c4 ?c5 ?_)
        case c2 => exact ⟨rfl, rfl, rfl, rfl⟩
        case c3 => unfold maxLen; omega
        case c4 => have := HB4.out.size; omega
        case c5 => first | omega | (have := HB4.out.size; omega)
        intro v' w5 hown' hgrow _
        have tag : ∀ (g : Nat) (cs : Array Value) (ty : TypeId), w4.heap[g]? = some (.cells cs ty (0, 0)) → 32 ≠ ty → v.ownBlock ≠ some g := fun g cs ty hg hne e => by
          obtain ⟨cs', h5⟩ := own_tag HO4.out _ e
          rw [hg] at h5
          injection h5 with h5
          injection h5 with _ h6
          exact hne h6.symm
        have kb : ∀ g, g < w4.heap.size → v.ownBlock ≠ some g → w5.heap[g]? = w4.heap[g]? := fun g hg hx => by
          have h1 := hgrow.block g (by simp; omega) (fun e => hx e.symm)
          rw [Below.heap_alloc _ _ _ (by simp; omega), Below.heap_alloc _ _ _ (by omega)] at h1
          exact h1
        have hP5 : PSt w.heap.size w5 q s (.slice A (cps s).length cap) I4 p4 := by
          refine ⟨(kb q hq4 (tag q _ _ HP4.out.blk (by decide))).trans HP4.out.blk, ?_, HP4.out.pos⟩
          refine own_kept HP4.out.all fun g hg => ?_
          have hgl := own_block_lt HP4.out.all g hg
          refine kb g hgl fun e => ?_
          obtain ⟨cs1, t1⟩ := own_tag HP4.out.all g hg
          obtain ⟨cs2, t2⟩ := own_tag HO4.out g e
          rw [t1] at t2
          injection t2 with t2
          injection t2 with _ t3
          exact absurd t3 (by decide)
        have hB5 : Below w.heap.size w w5 := ((HB4.out.alloc (HB4.out.size) _).alloc (by have := HB4.out.size; simp; omega) _).grown hgrow (by have := HB4.out.size; simp; omega) (fun k hk => (HLT.out k hk).1)
        have hO6 : IsRefs w.heap.size v' (L ++ [(k, T, c, I1)]) w5 := by
          unfold IsRefs
          rw [List.length_append, List.flatMap_append]
          rw [← HTT.out] at hown'
          simpa [tcells] using hown'
        have HP5 := Lib.hid hP5
        have HB5 := Lib.hid hB5
        have HO6 := Lib.hid hO6
        clear hown' hgrow tag kb hP5 hB5 hO6
        go_wp2
        refine ⟨⟨v', I4, p4, L ++ [(k, T, c, I1)], rfl, HP5.out, HO6.out, HB5.out, HNEW.out, by simp; omega⟩, ?_⟩
        rw [HP5.out.mI, HM.out]
        omega
    · obtain ⟨g1, g2⟩ := HP1.out.pos.fin hp
      have hd : decide (((cps s).length : Int) ≤ (I1 : Int)) = true := by simp; omega
      have hfin : R = .ok L := by
        rw [HR1.out, show s.data.toList.drop p1 = [] from List.drop_eq_nil_of_le (by rw [← Lib.size_eq]; omega), lx_nil]
        simp [appE]
      have HF := Lib.hid hfin
      clear hfin
      go_wp2_with fail
      go_quiet (fail)
      have hO2 := refs_below HO1.out (below_drewN2 w2 nq)
      have hB2 : Below w.heap.size w (w2.drewN nq) := HB1.out.trans ((below_drewN2 w2 nq).mono HB1.out.size)
      have HO2 := Lib.hid hO2
      have HB2 := Lib.hid hB2
      clear hO2 hB2
      go_wp2
      go_ret3
      exact ⟨.inr (.inr ⟨hs, L, v, HRR.out.symm.trans HF.out, HO2.out, rfl⟩), HB2.out⟩
end Go.Proofs.YtdbdlgmejddbhaaDoor
