/-
  PackAll: for every input the law returns true, and each argument reads as it read. No condition.
-/
import Derived.Test.YthfanonjokpflaaGreatTkl
import Derived.Test.YthfanonjokpflaaGreatLawPkAllA
import Derived.Test.YthfanonjokpflaaGreatLawPkAllC
import Derived.Test.YthfanonjokpflaaGreatLawPkAllB
import Derived.Test.YthfanonjokpflaaGreatProg
import Derived.ProofKit
import Derived.OpenShut
import Derived.ChangeOld
import Derived.Carry
import Derived.Test.YthfanonjokpflaaGreatRoK
import Derived.Lib.SmallJoins
import Derived.Deep.Slices
import Derived.ChangeSame
import Derived.Test.YthfanonjokpflaaGreatPo
import Derived.Deep.Strs
import Derived.Test.YthfanonjokpflaaGreatRows
import Derived.WalkKit
import Derived.ShutString
import Derived.Below
set_option linter.unusedVariables false
set_option linter.unusedSimpArgs false
namespace Go.Proofs.YthfanonjokpflaaGreat
open Go Go.RowKit

theorem BatQ.keptK {w0 w w' : World} {z : BA} {r i : Nat} {s : ByteArray} {e : Int} (h : BatQ w0 w z) (hk : Kept (fun k => k = r) w w') (hr : RB w r s i e) : BatQ w0 w' z :=
  ⟨h.muts.kept3 hk hr (by decide) (by decide) (by decide), own_keptQ h.notes hk hr (by decide), own_keptQ h.drops hk hr (by decide)⟩
/-- A batch under way: its block p, all of it one's own. -/
structure RQ (w0 w : World) (p : Nat) (z : BA) : Prop where
  blk : w.heap[p]? = some (bO z)
  bat : BatQ w0 w z
theorem RQ.on {w0 w w' : World} {p : Nat} {z : BA} (h : RQ w0 w p z) (hb : Below w.heap.size w w') : RQ w0 w' p z := ⟨(hb.block p (Array.getElem?_eq_some_iff.1 h.blk).1).trans h.blk, h.bat.on hb⟩
theorem RQ.rd {w0 w w' : World} {p r i : Nat} {s : ByteArray} {e : Int} {z : BA} (h : RQ w0 w p z) (hk : KeptR r w w') (hr : RB w r s i e) (hpr : p ≠ r) : RQ w0 w' p z := ⟨Kept.at hk h.blk hpr, h.bat.keptK hk hr⟩
theorem own_offQ {w w' : World} {b b' n n' size size' : Nat} {e e' : TypeId} {v v' : Value} {xs xs' : List Value} (h : w.ownsRow b e size v n xs) (h' : w.ownsRow b' e' size' v' n' xs') (he : e ≠ e') (hk : Kept (fun k => v.ownBlock = some k) w w') : w'.ownsRow b' e' size' v' n' xs' :=
  own_kept h' fun g hg => hk.block g (own_block_lt h' g hg) fun hp => by
    obtain ⟨cs, h1⟩ := own_tag h g hp
    obtain ⟨cs', h2⟩ := own_tag h' g hg
    rw [h1] at h2
    injection h2 with h2
    injection h2 with _ h3 _
    exact he h3
theorem batch_put1 {w : World} {r : Nat} {v0 v1 v2 : Value} (hr : w.heap[r]? = some (.cells #[v0, v1, v2] 29 (0, 0))) (u : Value) : (w.setCell ⟨r, 1, none⟩ u).heap[r]? = some (.cells #[v0, u, v2] 29 (0, 0)) := by
  have m := Joins.block_setCell (i := 1) hr u
  simp only [List.setIfInBounds_toArray, List.set_cons_zero, List.set_cons_succ] at m
  exact m
theorem batch_put2 {w : World} {r : Nat} {v0 v1 v2 : Value} (hr : w.heap[r]? = some (.cells #[v0, v1, v2] 29 (0, 0))) (u : Value) : (w.setCell ⟨r, 2, none⟩ u).heap[r]? = some (.cells #[v0, v1, u] 29 (0, 0)) := by
  have m := Joins.block_setCell (i := 2) hr u
  simp only [List.setIfInBounds_toArray, List.set_cons_zero, List.set_cons_succ] at m
  exact m
theorem RQ.appN {w0 w w' : World} {p : Nat} {z : BA} (h : RQ w0 w p z) {x : NA} {A7 : Option Addr} {c7 : Nat} (ho : w'.ownsRow w0.heap.size 60 2 (.slice A7 (z.N.length + 1) c7) (z.N.length + 1) (nRow (z.N ++ [x]))) (hg : w.grownBy w' (Value.slice z.AN z.N.length z.cN).ownBlock) :
    w'.heap[p]? = some (bO z) ∧ RQ w0 (w'.setCell ⟨p, 1, none⟩ (.slice A7 (z.N.length + 1) c7)) p { z with N := z.N ++ [x], AN := A7, cN := c7 } := by
  have hk := Kept.of_grown (F := fun k => (Value.slice z.AN z.N.length z.cN).ownBlock = some k) hg fun k hk => hk
  have hp := (hk.block p (Array.getElem?_eq_some_iff.1 h.blk).1 fun hp => own_ne h.bat.notes h.blk (by decide) p hp rfl).trans h.blk
  have hlen : (z.N ++ [x]).length = z.N.length + 1 := by rw [List.length_append]; rfl
  have hb : BatQ w0 w' { z with N := z.N ++ [x], AN := A7, cN := c7 } := ⟨⟨own_offQ h.bat.notes h.bat.muts.own (by decide) hk, fun y hy => (h.bat.muts.parts y hy).grown h.bat.notes (by decide) (by decide) hg⟩, by dsimp only; rw [hlen]; exact ho, own_offQ h.bat.notes h.bat.drops (by decide) hk⟩
  refine ⟨hp, ?_, hb.keptB (Kept.setCell (fun k => k = p) w' ⟨p, 1, none⟩ _ rfl) hp⟩
  unfold bO
  dsimp only
  rw [hlen]
  exact batch_put1 hp _
theorem RQ.appD {w0 w w' : World} {p : Nat} {z : BA} (h : RQ w0 w p z) {x : Int} {A7 : Option Addr} {c7 : Nat} (ho : w'.ownsRow w0.heap.size 3 1 (.slice A7 (z.D.length + 1) c7) (z.D.length + 1) (zRow (z.D ++ [x]))) (hg : w.grownBy w' (Value.slice z.AD z.D.length z.cD).ownBlock) :
    w'.heap[p]? = some (bO z) ∧ RQ w0 (w'.setCell ⟨p, 2, none⟩ (.slice A7 (z.D.length + 1) c7)) p { z with D := z.D ++ [x], AD := A7, cD := c7 } := by
  have hk := Kept.of_grown (F := fun k => (Value.slice z.AD z.D.length z.cD).ownBlock = some k) hg fun k hk => hk
  have hp := (hk.block p (Array.getElem?_eq_some_iff.1 h.blk).1 fun hp => own_ne h.bat.drops h.blk (by decide) p hp rfl).trans h.blk
  have hlen : (z.D ++ [x]).length = z.D.length + 1 := by rw [List.length_append]; rfl
  have hb : BatQ w0 w' { z with D := z.D ++ [x], AD := A7, cD := c7 } := ⟨⟨own_offQ h.bat.drops h.bat.muts.own (by decide) hk, fun y hy => (h.bat.muts.parts y hy).grown h.bat.drops (by decide) (by decide) hg⟩, own_offQ h.bat.drops h.bat.notes (by decide) hk, by dsimp only; rw [hlen]; exact ho⟩
  refine ⟨hp, ?_, hb.keptB (Kept.setCell (fun k => k = p) w' ⟨p, 2, none⟩ _ rfl) hp⟩
  unfold bO
  dsimp only
  rw [hlen]
  exact batch_put2 hp _
set_option maxRecDepth 8000 in
set_option maxHeartbeats 16000000 in
theorem rgetbatch9 (s : ByteArray) (w : World) (hs : s.size ≤ 3000) : Calls Tryz.prog 16 #[.string s] w (GivesH w (getBatch s.data.toList)) := by
  have bz := (Below.refl w.heap.size w).alloc (Nat.le_refl _) (.cells #[.slice none 0 0, .slice none 0 0, .slice none 0 0] 29)
  have hz := heap_alloc_new w (.cells #[.slice none 0 0, .slice none 0 0, .slice none 0 0] 29)
  obtain ⟨V1, hV1⟩ : ∃ V, V = w.alloc (.cells #[.slice none 0 0, .slice none 0 0, .slice none 0 0] 29) := ⟨_, rfl⟩
  rw [← hV1] at bz hz
  have hs1 : V1.heap.size = w.heap.size + 1 := by rw [hV1]; simp
  have bz2 := (Below.refl V1.heap.size V1).alloc (Nat.le_refl _) (.cells #[.string s, .int .i64 0, .int .i64 0] 77)
  have hr0 := heap_alloc_new V1 (.cells #[.string s, .int .i64 0, .int .i64 0] 77)
  have hz2 := at_newQ hz (.cells #[.string s, .int .i64 0, .int .i64 0] 77)
  obtain ⟨V2, hV2⟩ : ∃ V, V = V1.alloc (.cells #[.string s, .int .i64 0, .int .i64 0] 77) := ⟨_, rfl⟩
  rw [← hV2] at bz2 hr0 hz2
  rw [hs1] at hr0
  have hb2 : Below w.heap.size w V2 := bz.trans (bz2.mono bz.size)
  have d1 : decide ((262144 : Int) < (s.size : Int)) = false := by simp; omega
  have d2 : decide (262144 < s.size) = false := by simp; omega
  have R0 : Hid (RB V2 (w.heap.size + 1) s 0 0) := Lib.hid hr0
  have HZ2 := Lib.hid hz2; have B2 := Lib.hid hb2; have HS := Lib.hid hs
  have hsl : s.data.toList.length = s.size := rfl
  have HSL := Lib.hid hsl
  clear bz hz bz2 hr0 hz2 hb2 hs1 hs hsl
  go_enter Tryz.func16, Tryz.ntmps16
  go_wp2_with fail
  rw [← hV1, ← hV2]
  clear hV1 hV2
  refine (rmutsR (w.heap.size + 1) 0 0 s V2 R0.out (Nat.zero_le _) (by have := HS.out; omega)).mono ?_
  rintro x w1 ⟨M, Am, m, cm, j1, f1, rfl, hmq, hml, hmn, h1, k1, hw1⟩
  subst hml
  have ba := (Below.refl w1.heap.size w1).alloc (Nat.le_refl _) (.cells #[.slice Am M.length cm, .slice none 0 0, .slice none 0 0] 29)
  have hp1 := heap_alloc_new w1 (.cells #[.slice Am M.length cm, .slice none 0 0, .slice none 0 0] 29)
  have hz1 := at_newQ (Kept.atQ k1 HZ2.out (by omega)) (.cells #[.slice Am M.length cm, .slice none 0 0, .slice none 0 0] 29)
  have h1' := h1.below ba
  have hb1 : Below w.heap.size w (w1.alloc (.cells #[.slice Am M.length cm, .slice none 0 0, .slice none 0 0] 29)) := B2.out.trans ((KeptR.new k1 ba).below (fun k hk => by subst hk; exact Nat.le_succ _) B2.out.size)
  have hmq1 := (hmq.lower (w0 := w) B2.out.size).on ba
  obtain ⟨U1, hU1⟩ : ∃ U, U = w1.alloc (.cells #[.slice Am M.length cm, .slice none 0 0, .slice none 0 0] 29) := ⟨_, rfl⟩
  rw [← hU1] at hp1 hz1 h1' hb1 hmq1
  have hrq : RQ w U1 w1.heap.size ⟨Am, cm, M, none, 0, [], none, 0, []⟩ := ⟨hp1, ⟨hmq1, own_nilN _ _, own_nilZ _ _⟩⟩
  have HWQ : Hid (w.heap.size + 1 < w1.heap.size) := Lib.hid h1.lt
  have Q1 := Lib.hid hrq; have Z1 := Lib.hid hz1; have R1 := Lib.hid h1'; have B1 := Lib.hid hb1; have W1 := Lib.hid hw1
  clear hp1 hz1 h1' hmq1 hb1 hw1 h1 k1 hmq ba hrq hmn
  go_wp2_with fail
  rw [← hU1]
  clear hU1
  refine (rcount (w.heap.size + 1) j1 f1 s U1 R1.out W1.out.len (by have := HS.out; omega)).mono ?_
  rintro x w2 ⟨n, j2, f2, rfl, hn, h2, k2, hw2⟩
  have HN : Hid (n ≤ s.size) := Lib.hid (by omega)
  have Q2 := Lib.hid (Q1.out.rd k2 R1.out (by have := HWQ.out; omega)); have Z2 := Lib.hid (Kept.at k2 Z1.out (by omega)); have R2 := Lib.hid h2; have B3 := Lib.hid (B1.out.trans (k2.below (fun k hk => by subst hk; omega) B1.out.size)); have W2 := Lib.hid hw2
  clear hn h2 k2 hw2 Q1 Z1 R1 B1
  go_upto_block 0 with fail
  go_cut [7, 8] from 22 to 44 (fun _ _ wx => ∃ wy, wx = wy ∧ ∃ (Ks : List NA) (A3 : Option Addr) (c3 j : Nat) (f : Int), RB wy (w.heap.size + 1) s j f ∧ wy.heap[w.heap.size]? = some (.cells #[.slice none 0 0, .slice none 0 0, .slice none 0 0] 29 (0, 0)) ∧ Below w.heap.size w wy ∧ RQ w wy w1.heap.size ⟨Am, cm, M, A3, c3, Ks, none, 0, []⟩ ∧ Went (listP addP) s.data.toList j1 f1 Ks j f)
  case first =>
    go_wp2_with fail
    go_loopw [7] (fun i' wr => ∃ (t : Nat) (Ks : List NA) (A3 : Option Addr) (c3 j : Nat) (f : Int), i' = .int .i64 t ∧ Ks.length = t ∧ RB wr (w.heap.size + 1) s j f ∧ wr.heap[w.heap.size]? = some (.cells #[.slice none 0 0, .slice none 0 0, .slice none 0 0] 29 (0, 0)) ∧ Below w.heap.size w wr ∧ RQ w wr w1.heap.size ⟨Am, cm, M, A3, c3, Ks, none, 0, []⟩ ∧ Loops addP s.data.toList n j2 f2 Ks j f) (fun i' _ => n - (intOf i').toNat)
    case atStart => exact ⟨0, [], none, 0, j2, f2, rfl, rfl, R2.out, Z2.out, B3.out, Q2.out, Loops.start _ _ W2.out.len _⟩
    case round =>
      obtain ⟨t, Ks, A3, c3, j, f, rfl, ht, hr, hzr, hbr, hqr, hl⟩ := hrel
      have i8 : n ≤ 1000000 := by have := HN.out; have := HS.out; omega
      have htn : t ≤ n := by rw [← ht]; exact hl.many
      obtain ⟨_, _, c2⟩ := hr.cells
      have RR := Lib.hid hr; have ZR := Lib.hid hzr; have BR := Lib.hid hbr; have QR := Lib.hid hqr; have LR := Lib.hid hl; have HT := Lib.hid ht; have HTN := Lib.hid htn
      clear hr hzr hbr hqr hl ht
      by_cases hgo : t < n ∧ f = 0
      · obtain ⟨hlt, rfl⟩ := hgo
        have i1 : (t : Int) < n := by omega
        have i2 : decide ((t : Int) < (n : Int)) = true := decide_eq_true (by omega)
        clear htn
        go_wp2_with fail
        refine (rnumR (w.heap.size + 1) j 0 s wr RR.out LR.out.len (by have := HS.out; omega)).mono ?_
        rintro x w6 ⟨id, j6, f6, rfl, hid, h6, k6, hw6⟩
        have Q6 := Lib.hid (QR.out.rd k6 RR.out (by have := HWQ.out; omega)); have Z6 := Lib.hid (Kept.at k6 ZR.out (by omega)); have R6 := Lib.hid h6; have B6 := Lib.hid (BR.out.trans (k6.below (fun k hk => by subst hk; omega) BR.out.size)); have W6 := Lib.hid hw6
        have bk6 : w6.heap[w1.heap.size]? = some (.cells #[.slice Am M.length cm, .slice A3 Ks.length c3, .slice none 0 0] 29 (0, 0)) := Q6.out.blk
        rw [HT.out] at bk6
        have BK6 := Lib.hid bk6
        clear hid h6 k6 hw6 bk6 c2
        go_wp2_with fail
        refine wp_region_z (S := fun w' => w'.heap[w1.heap.size]? = some (.cells #[.slice Am M.length cm, .slice A3 t c3, .slice none 0 0] 29 (0, 0))) 9 (by kernel_rfl) ?_ (fun hHeld => ?_)
        · exact BK6.out
        refine takesZ [0, 1, 2, 3] ?_
        repeat
          refine takesZ_one (v := ?_) ?_ ?_
          rotate_left
          · first | (refine Or.inr ⟨by rfl, ?_⟩; with_reducible rfl) | (refine Or.inl ⟨by rfl, ?_⟩; intro wx hSw; (try dsimp only at hSw); first | (go_simp; first | done | with_reducible rfl) | (have hc2 := cell_at (i := 1) hSw rfl; go_simp; first | done | with_reducible rfl))
          try simp only [Act.put, List.getElem_toArray, List.getElem_cons_succ, List.getElem_cons_zero, List.setIfInBounds_toArray, List.set_cons_zero, List.set_cons_succ]
        refine takesZ_nil ?_
        refine wpAnyZ_one (i := 4) (by kernel_rfl) rfl (fun K hK => ?_)
        go_simp
        refine (rtextR (w.heap.size + 1) j6 f6 s w6.drew R6.out.drew W6.out.len (by have := HS.out; omega)).mono ?_
        rintro e' v7 ⟨bv, j7, f7, rfl, hbv, h7, k7, hw7⟩
        have k7 : KeptR (w.heap.size + 1) w6 v7 := ⟨k7.os, k7.tape, k7.output, k7.size, k7.block⟩
        have T7 := Lib.hid (Q6.out.rd k7 R6.out (by have := HWQ.out; omega))
        have Z7 := Lib.hid (Kept.at k7 Z6.out (by omega))
        have R7 := Lib.hid h7
        have HW7 := Lib.hid hw7
        have B7 := Lib.hid (B6.out.trans (k7.below (fun k hk => by subst hk; omega) B6.out.size))
        have ba := (Below.refl v7.heap.size v7).alloc (Nat.le_refl _) (.cells #[.int .i64 id, .string bv] 60)
        have T8 := Lib.hid (T7.out.on ba)
        have Z8 := Lib.hid ((ba.block _ (Array.getElem?_eq_some_iff.1 Z7.out).1).trans Z7.out)
        have R8 := Lib.hid (R7.out.below ba)
        have B8 := Lib.hid (B7.out.trans (ba.mono B7.out.size))
        have RD := Lib.hid (RdN.laid v7 (id, bv))
        have on8 : (v7.alloc (.cells #[.int .i64 id, .string bv] 60)).ownsRow w.heap.size 60 2 (.slice A3 Ks.length c3) Ks.length (nRow Ks) := T8.out.bat.notes
        rw [HT.out] at on8
        have ON8 := Lib.hid on8
        have bk7 : v7.heap[w1.heap.size]? = some (.cells #[.slice Am M.length cm, .slice A3 Ks.length c3, .slice none 0 0] 29 (0, 0)) := T7.out.blk
        rw [HT.out] at bk7
        have BK7 := Lib.hid bk7
        have BK8 := Lib.hid ((ba.block _ (Array.getElem?_eq_some_iff.1 bk7).1).trans bk7)
        clear on8 bk7
        clear h7 k7 hw7 hbv ba
        try go_wp2_with fail
        refine hK.out _ _ ?_ (fun hHeld => ?_)
        · exact BK7.out
        clear hK K
        try simp only [Act.put, List.getElem_toArray, List.getElem_cons_succ, List.getElem_cons_zero, List.setIfInBounds_toArray, List.set_cons_zero, List.set_cons_succ]
        refine takesZ [5] ?_
        repeat
          refine takesZ_one (v := ?_) ?_ ?_
          rotate_left
          · first | (refine Or.inr ⟨by rfl, ?_⟩; with_reducible rfl) | (refine Or.inl ⟨by rfl, ?_⟩; intro wx hSw; (try dsimp only at hSw); first | (go_simp; first | done | with_reducible rfl))
          try simp only [Act.put, List.getElem_toArray, List.getElem_cons_succ, List.getElem_cons_zero, List.setIfInBounds_toArray, List.set_cons_zero, List.set_cons_succ]
        refine takesZ_nil ?_
        refine wpAnyZ_one (i := 6) (by kernel_rfl) rfl (fun K hK => ?_)
        go_simp
        refine hK.out _ _ ?_ (fun hHeld => ?_)
        · exact BK8.out
        clear hK K
        try simp only [Act.put, List.getElem_toArray, List.getElem_cons_succ, List.getElem_cons_zero, List.setIfInBounds_toArray, List.set_cons_zero, List.set_cons_succ]
        refine wpAnyZ_one (i := 7) (by kernel_rfl) rfl (fun K hK => ?_)
        refine step_ex rfl (.tmp 37) (.tmp 42) _ _ rfl (.slice A3 t c3) (.slice (some ⟨v7.heap.size, 0, none⟩) 1 1) (by simp [Act.eval]) (by simp [Act.eval]) (run_appN w.heap.size ON8.out RD.out ?s3 ?s4) ?_
        case s3 => have := HTN.out; have := HN.out; have := HS.out; omega
        case s4 => exact B8.out.size
        intro v9 w9 ho9 hg9
        obtain ⟨hg9, _⟩ := hg9
        obtain ⟨A9, c9, rfl, _⟩ := own_slice ho9
        have Z9 := Lib.hid ((hg9.block w.heap.size (Array.getElem?_eq_some_iff.1 Z8.out).1 (fun hp => own_ne ON8.out Z8.out (by decide) _ hp.symm rfl)).trans Z8.out)
        have R9 : Hid (RB w9 (w.heap.size + 1) s j7 f7) := Lib.hid (R8.out.grown ON8.out (by decide) hg9)
        have B9 := Lib.hid (B8.out.trans ((Kept.of_grown (F := fun k => (Value.slice A3 t c3).ownBlock = some k) hg9 fun k hk => hk).below (fun k hk => (ON8.out.lt k hk).1) B8.out.size))
        have TT9 := T8.out.appN (x := (id, bv)) (A7 := A9) (c7 := c9) (by rw [HT.out]; exact ho9) (by rw [HT.out]; exact hg9)
        have bk9 : w9.heap[w1.heap.size]? = some (.cells #[.slice Am M.length cm, .slice A3 Ks.length c3, .slice none 0 0] 29 (0, 0)) := TT9.1
        rw [HT.out] at bk9
        have BK9 := Lib.hid bk9
        have TQ9 := Lib.hid TT9.2
        clear ho9 hg9 TT9 bk9
        refine hK.out _ _ ?_ (fun hHeld => ?_)
        · exact BK9.out
        clear hK K
        try simp only [Act.put, List.getElem_toArray, List.getElem_cons_succ, List.getElem_cons_zero, List.setIfInBounds_toArray, List.set_cons_zero, List.set_cons_succ]
        have k7c := cell_at (i := 1) hHeld rfl
        have f7c := thawed_at (i := 1) hHeld
        refine takesZ [8] ?_
        repeat
          refine takesZ_one (v := ?_) ?_ ?_
          rotate_left
          · first | (refine Or.inr ⟨by rfl, ?_⟩; with_reducible rfl) | (refine Or.inl ⟨by rfl, ?_⟩; intro wx hSw; (try dsimp only at hSw); first | (go_simp; first | done | with_reducible rfl))
          try simp only [Act.put, List.getElem_toArray, List.getElem_cons_succ, List.getElem_cons_zero, List.setIfInBounds_toArray, List.set_cons_zero, List.set_cons_succ]
        refine takesZ_nil ?_
        refine wpAnyZ_last (by kernel_rfl) rfl (fun K hK => ?_)
        go_simp
        refine hK.out _ _ ?_
        clear hK K
        try simp only [Act.put, List.getElem_toArray, List.getElem_cons_succ, List.getElem_cons_zero, List.setIfInBounds_toArray, List.set_cons_zero, List.set_cons_succ]
        refine wpAnyZ_done (by kernel_rfl) ?_ _
        have kp := Kept.setCell (fun k => k = w1.heap.size) w9 ⟨w1.heap.size, 1, none⟩ (.slice A9 (t + 1) c9) rfl
        have hqn : RQ w (w9.setCell ⟨w1.heap.size, 1, none⟩ (.slice A9 (t + 1) c9)) w1.heap.size ⟨Am, cm, M, A9, c9, Ks ++ [(id, bv)], none, 0, []⟩ := by
          have h := TQ9.out
          dsimp only at h
          rw [HT.out] at h
          exact h
        have hzn := Kept.at kp Z9.out (by have := HWQ.out; omega)
        have hrn : RB (w9.setCell ⟨w1.heap.size, 1, none⟩ (.slice A9 (t + 1) c9)) (w.heap.size + 1) s j7 f7 := Kept.at kp R9.out (by have := HWQ.out; omega)
        have hbn := B9.out.trans (kp.below (B := w.heap.size) (fun k hk => by subst hk; have := HWQ.out; omega) B9.out.size)
        generalize w9.setCell ⟨w1.heap.size, 1, none⟩ (.slice A9 (t + 1) c9) = wn at hqn hzn hrn hbn ⊢
        have QN := Lib.hid hqn; have ZN := Lib.hid hzn; have RN := Lib.hid hrn; have BN := Lib.hid hbn
        have hw67 : Went addP s.data.toList j 0 ((id, bv) : Int × ByteArray) j7 f7 := W6.out.bind (HW7.out.bind (Went.ret _ HW7.out.len f7))
        have LN := Lib.hid (LR.out.step (by rw [HT.out]; exact hlt) hw67)
        have HT1 : Hid ((Ks ++ [(id, bv)]).length = t + 1) := Lib.hid (by rw [List.length_append, HT.out]; rfl)
        clear kp hqn hzn hrn hbn hHeld k7c f7c hw67
        go_wp2
        go_roundw
        case rel => exact ⟨t + 1, _, A9, c9, j7, f7, by go_num, HT1.out, RN.out, ZN.out, BN.out, QN.out, LN.out⟩
        case measure => simp [intOf]; omega
      · have HLD : Hid (Went (listP addP) s.data.toList j1 f1 Ks j f) := Lib.hid (Loops.list W2.out LR.out (fun hf => by rw [HT.out]; exact Nat.le_antisymm htn (Decidable.byContradiction fun h => hgo ⟨by omega, hf⟩)))
        by_cases h1 : t < n
        · have hf : f ≠ 0 := fun h => hgo ⟨h1, h⟩
          have i1 : (t : Int) < n := by omega
          have i2 : decide ((t : Int) < (n : Int)) = true := decide_eq_true (by omega)
          have e1 : (f == 0) = false := by simp; exact hf
          clear hgo hf htn
          go_wp2
          go_meet
          exact ⟨wr, rfl, Ks, A3, c3, j, f, RR.out, ZR.out, BR.out, QR.out, HLD.out⟩
        · obtain rfl : t = n := by omega
          have i2 : decide ((t : Int) < (t : Int)) = false := decide_eq_false (by omega)
          clear hgo htn h1
          go_wp2
          go_meet
          exact ⟨wr, rfl, Ks, A3, c3, j, f, RR.out, ZR.out, BR.out, QR.out, HLD.out⟩
  case rest =>
    obtain ⟨w3, rfl, Ns, AN, cN, j3, f3, hr3, hz3, hb3, hq3, hw3⟩ := hcut
    have Q3 := Lib.hid hq3; have Z3 := Lib.hid hz3; have R3 := Lib.hid hr3; have B3' := Lib.hid hb3; have W3 := Lib.hid hw3
    clear hq3 hz3 hr3 hb3 hw3 Q2 Z2 R2 B3 W2 HN
    go_wp2_with fail
    refine (rcount (w.heap.size + 1) j3 f3 s _ R3.out W3.out.len (by have := HS.out; omega)).mono ?_
    rintro x w4 ⟨n, j2, f2, rfl, hn, h2, k2, hw2⟩
    have HN : Hid (n ≤ s.size) := Lib.hid (by omega)
    have Q2 := Lib.hid (Q3.out.rd k2 R3.out (by have := HWQ.out; omega)); have Z2 := Lib.hid (Kept.at k2 Z3.out (by omega)); have R2 := Lib.hid h2; have B3 := Lib.hid (B3'.out.trans (k2.below (fun k hk => by subst hk; omega) B3'.out.size)); have W2 := Lib.hid hw2
    clear hn h2 k2 hw2 Q3 Z3 R3 B3'
    go_upto_block 2 with fail
    go_cut [9] from 47 to 65 (fun _ wx => ∃ wy, wx = wy ∧ ∃ (Ks : List Int) (A3 : Option Addr) (c3 j : Nat) (f : Int), RB wy (w.heap.size + 1) s j f ∧ wy.heap[w.heap.size]? = some (.cells #[.slice none 0 0, .slice none 0 0, .slice none 0 0] 29 (0, 0)) ∧ Below w.heap.size w wy ∧ RQ w wy w1.heap.size ⟨Am, cm, M, AN, cN, Ns, A3, c3, Ks⟩ ∧ Went (listP numP) s.data.toList j3 f3 Ks j f)
    case first =>
      go_wp2_with fail
      go_loopw [9] (fun i' wr => ∃ (t : Nat) (Ks : List Int) (A3 : Option Addr) (c3 j : Nat) (f : Int), i' = .int .i64 t ∧ Ks.length = t ∧ RB wr (w.heap.size + 1) s j f ∧ wr.heap[w.heap.size]? = some (.cells #[.slice none 0 0, .slice none 0 0, .slice none 0 0] 29 (0, 0)) ∧ Below w.heap.size w wr ∧ RQ w wr w1.heap.size ⟨Am, cm, M, AN, cN, Ns, A3, c3, Ks⟩ ∧ Loops numP s.data.toList n j2 f2 Ks j f) (fun i' _ => n - (intOf i').toNat)
      case atStart => exact ⟨0, [], none, 0, j2, f2, rfl, rfl, R2.out, Z2.out, B3.out, Q2.out, Loops.start _ _ W2.out.len _⟩
      case round =>
        obtain ⟨t, Ks, A3, c3, j, f, rfl, ht, hr, hzr, hbr, hqr, hl⟩ := hrel
        have i8 : n ≤ 1000000 := by have := HN.out; have := HS.out; omega
        have htn : t ≤ n := by rw [← ht]; exact hl.many
        obtain ⟨_, _, c2⟩ := hr.cells
        have bkr : wr.heap[w1.heap.size]? = some (.cells #[.slice Am M.length cm, .slice AN Ns.length cN, .slice A3 Ks.length c3] 29 (0, 0)) := hqr.blk
        rw [ht] at bkr
        have RR := Lib.hid hr; have ZR := Lib.hid hzr; have BR := Lib.hid hbr; have QR := Lib.hid hqr; have LR := Lib.hid hl; have HT := Lib.hid ht; have HTN := Lib.hid htn; have BKR := Lib.hid bkr
        clear hr hzr hbr hqr hl ht bkr
        by_cases hgo : t < n ∧ f = 0
        · obtain ⟨hlt, rfl⟩ := hgo
          have i1 : (t : Int) < n := by omega
          have i2 : decide ((t : Int) < (n : Int)) = true := decide_eq_true (by omega)
          clear htn
          go_wp2_with fail
          clear c2
          refine wp_region_z (S := fun w' => w'.heap[w1.heap.size]? = some (.cells #[.slice Am M.length cm, .slice AN Ns.length cN, .slice A3 t c3] 29 (0, 0))) 7 (by kernel_rfl) ?_ (fun hHeld => ?_)
          · exact BKR.out
          refine takesZ [0, 1, 2] ?_
          repeat
            refine takesZ_one (v := ?_) ?_ ?_
            rotate_left
            · first | (refine Or.inr ⟨by rfl, ?_⟩; with_reducible rfl) | (refine Or.inl ⟨by rfl, ?_⟩; intro wx hSw; (try dsimp only at hSw); first | (go_simp; first | done | with_reducible rfl) | (have hc2 := cell_at (i := 2) hSw rfl; go_simp; first | done | with_reducible rfl))
            try simp only [Act.put, List.getElem_toArray, List.getElem_cons_succ, List.getElem_cons_zero, List.setIfInBounds_toArray, List.set_cons_zero, List.set_cons_succ]
          refine takesZ_nil ?_
          refine wpAnyZ_one (i := 3) (by kernel_rfl) rfl (fun K hK => ?_)
          go_simp
          refine (rnumR (w.heap.size + 1) j 0 s wr.drew RR.out.drew LR.out.len (by have := HS.out; omega)).mono ?_
          rintro e' v7 ⟨dv, j7, f7, rfl, hbv, h7, k7, hw7⟩
          have k7 : KeptR (w.heap.size + 1) wr v7 := ⟨k7.os, k7.tape, k7.output, k7.size, k7.block⟩
          have T7 := Lib.hid (QR.out.rd k7 RR.out (by have := HWQ.out; omega))
          have Z7 := Lib.hid (Kept.at k7 ZR.out (by omega))
          have R7 := Lib.hid h7
          have HW7 := Lib.hid hw7
          have B7 := Lib.hid (BR.out.trans (k7.below (fun k hk => by subst hk; omega) BR.out.size))
          have ba := (Below.refl v7.heap.size v7).alloc (Nat.le_refl _) (.cells #[.int .i64 dv] 3)
          have T8 := Lib.hid (T7.out.on ba)
          have Z8 := Lib.hid ((ba.block _ (Array.getElem?_eq_some_iff.1 Z7.out).1).trans Z7.out)
          have R8 := Lib.hid (R7.out.below ba)
          have B8 := Lib.hid (B7.out.trans (ba.mono B7.out.size))
          have RD := Lib.hid (RdZ.lay1 v7 dv)
          have on8 : (v7.alloc (.cells #[.int .i64 dv] 3)).ownsRow w.heap.size 3 1 (.slice A3 Ks.length c3) Ks.length (zRow Ks) := T8.out.bat.drops
          rw [HT.out] at on8
          have ON8 := Lib.hid on8
          have bk7 : v7.heap[w1.heap.size]? = some (.cells #[.slice Am M.length cm, .slice AN Ns.length cN, .slice A3 Ks.length c3] 29 (0, 0)) := T7.out.blk
          rw [HT.out] at bk7
          have BK7 := Lib.hid bk7
          have BK8 := Lib.hid ((ba.block _ (Array.getElem?_eq_some_iff.1 bk7).1).trans bk7)
          clear on8 bk7
          clear h7 k7 hw7 hbv ba
          try go_wp2_with fail
          refine hK.out _ _ ?_ (fun hHeld => ?_)
          · exact BK7.out
          clear hK K
          try simp only [Act.put, List.getElem_toArray, List.getElem_cons_succ, List.getElem_cons_zero, List.setIfInBounds_toArray, List.set_cons_zero, List.set_cons_succ]
          refine wpAnyZ_one (i := 4) (by kernel_rfl) rfl (fun K hK => ?_)
          go_simp
          refine hK.out _ _ ?_ (fun hHeld => ?_)
          · exact BK8.out
          clear hK K
          try simp only [Act.put, List.getElem_toArray, List.getElem_cons_succ, List.getElem_cons_zero, List.setIfInBounds_toArray, List.set_cons_zero, List.set_cons_succ]
          refine wpAnyZ_one (i := 5) (by kernel_rfl) rfl (fun K hK => ?_)
          refine step_ex rfl (.tmp 60) (.tmp 63) _ _ rfl (.slice A3 t c3) (.slice (some ⟨v7.heap.size, 0, none⟩) 1 1) (by simp [Act.eval]) (by simp [Act.eval]) (run_appZ w.heap.size ON8.out RD.out ?s3 ?s4) ?_
          case s3 => have := HTN.out; have := HN.out; have := HS.out; omega
          case s4 => exact B8.out.size
          intro v9 w9 ho9 hg9
          obtain ⟨hg9, _⟩ := hg9
          obtain ⟨A9, c9, rfl, _⟩ := own_slice ho9
          have Z9 := Lib.hid ((hg9.block w.heap.size (Array.getElem?_eq_some_iff.1 Z8.out).1 (fun hp => own_ne ON8.out Z8.out (by decide) _ hp.symm rfl)).trans Z8.out)
          have R9 : Hid (RB w9 (w.heap.size + 1) s j7 f7) := Lib.hid (R8.out.grown ON8.out (by decide) hg9)
          have B9 := Lib.hid (B8.out.trans ((Kept.of_grown (F := fun k => (Value.slice A3 t c3).ownBlock = some k) hg9 fun k hk => hk).below (fun k hk => (ON8.out.lt k hk).1) B8.out.size))
          have TT9 := T8.out.appD (x := dv) (A7 := A9) (c7 := c9) (by rw [HT.out]; exact ho9) (by rw [HT.out]; exact hg9)
          have bk9 : w9.heap[w1.heap.size]? = some (.cells #[.slice Am M.length cm, .slice AN Ns.length cN, .slice A3 Ks.length c3] 29 (0, 0)) := TT9.1
          rw [HT.out] at bk9
          have BK9 := Lib.hid bk9
          have TQ9 := Lib.hid TT9.2
          clear ho9 hg9 TT9 bk9
          refine hK.out _ _ ?_ (fun hHeld => ?_)
          · exact BK9.out
          clear hK K
          try simp only [Act.put, List.getElem_toArray, List.getElem_cons_succ, List.getElem_cons_zero, List.setIfInBounds_toArray, List.set_cons_zero, List.set_cons_succ]
          have k7c := cell_at (i := 2) hHeld rfl
          have f7c := thawed_at (i := 2) hHeld
          refine takesZ [6] ?_
          repeat
            refine takesZ_one (v := ?_) ?_ ?_
            rotate_left
            · first | (refine Or.inr ⟨by rfl, ?_⟩; with_reducible rfl) | (refine Or.inl ⟨by rfl, ?_⟩; intro wx hSw; (try dsimp only at hSw); first | (go_simp; first | done | with_reducible rfl))
            try simp only [Act.put, List.getElem_toArray, List.getElem_cons_succ, List.getElem_cons_zero, List.setIfInBounds_toArray, List.set_cons_zero, List.set_cons_succ]
          refine takesZ_nil ?_
          refine wpAnyZ_last (by kernel_rfl) rfl (fun K hK => ?_)
          go_simp
          refine hK.out _ _ ?_
          clear hK K
          try simp only [Act.put, List.getElem_toArray, List.getElem_cons_succ, List.getElem_cons_zero, List.setIfInBounds_toArray, List.set_cons_zero, List.set_cons_succ]
          refine wpAnyZ_done (by kernel_rfl) ?_ _
          have kp := Kept.setCell (fun k => k = w1.heap.size) w9 ⟨w1.heap.size, 2, none⟩ (.slice A9 (t + 1) c9) rfl
          have hqn : RQ w (w9.setCell ⟨w1.heap.size, 2, none⟩ (.slice A9 (t + 1) c9)) w1.heap.size ⟨Am, cm, M, AN, cN, Ns, A9, c9, Ks ++ [dv]⟩ := by
            have h := TQ9.out
            dsimp only at h
            rw [HT.out] at h
            exact h
          have hzn := Kept.at kp Z9.out (by have := HWQ.out; omega)
          have hrn : RB (w9.setCell ⟨w1.heap.size, 2, none⟩ (.slice A9 (t + 1) c9)) (w.heap.size + 1) s j7 f7 := Kept.at kp R9.out (by have := HWQ.out; omega)
          have hbn := B9.out.trans (kp.below (B := w.heap.size) (fun k hk => by subst hk; have := HWQ.out; omega) B9.out.size)
          generalize w9.setCell ⟨w1.heap.size, 2, none⟩ (.slice A9 (t + 1) c9) = wn at hqn hzn hrn hbn ⊢
          have QN := Lib.hid hqn; have ZN := Lib.hid hzn; have RN := Lib.hid hrn; have BN := Lib.hid hbn
          have LN := Lib.hid (LR.out.step (by rw [HT.out]; exact hlt) HW7.out)
          have HT1 : Hid ((Ks ++ [dv]).length = t + 1) := Lib.hid (by rw [List.length_append, HT.out]; rfl)
          clear kp hqn hzn hrn hbn hHeld k7c f7c
          go_wp2
          go_roundw
          case rel => exact ⟨t + 1, _, A9, c9, j7, f7, by go_num, HT1.out, RN.out, ZN.out, BN.out, QN.out, LN.out⟩
          case measure => simp [intOf]; omega
        · have HLD : Hid (Went (listP numP) s.data.toList j3 f3 Ks j f) := Lib.hid (Loops.list W2.out LR.out (fun hf => by rw [HT.out]; exact Nat.le_antisymm htn (Decidable.byContradiction fun h => hgo ⟨by omega, hf⟩)))
          by_cases h1 : t < n
          · have hf : f ≠ 0 := fun h => hgo ⟨h1, h⟩
            have i1 : (t : Int) < n := by omega
            have i2 : decide ((t : Int) < (n : Int)) = true := decide_eq_true (by omega)
            have e1 : (f == 0) = false := by simp; exact hf
            clear hgo hf htn
            go_wp2
            go_meet
            exact ⟨wr, rfl, Ks, A3, c3, j, f, RR.out, ZR.out, BR.out, QR.out, HLD.out⟩
          · obtain rfl : t = n := by omega
            have i2 : decide ((t : Int) < (t : Int)) = false := decide_eq_false (by omega)
            clear hgo htn h1
            go_wp2
            go_meet
            exact ⟨wr, rfl, Ks, A3, c3, j, f, RR.out, ZR.out, BR.out, QR.out, HLD.out⟩
    case rest =>
      obtain ⟨w5, rfl, Ds, AD, cD, j4, f4, hr5, hz5, hb5, hq5, hw5⟩ := hcut
      have Q5 := Lib.hid hq5; have Z5 := Lib.hid hz5; have R5 := Lib.hid hr5; have B5 := Lib.hid hb5
      have HW : Hid (Went batchP s.data.toList 0 0 (⟨muts M, Ns, Ds⟩ : Bt) j4 f4) := Lib.hid (W1.out.batchL W3.out hw5)
      clear hq5 hz5 hr5 hb5 hw5 Q2 Z2 R2 B3 W2 HN
      go_wp2_with fail
      refine (rendR (w.heap.size + 1) j4 f4 s _ R5.out (by have := HS.out; omega)).mono ?_
      rintro x w6 ⟨rfl, h6, k6⟩
      obtain ⟨F, hF⟩ : ∃ F, (if f4 = 0 ∧ j4 < s.size then (6 : Int) else f4) = F := ⟨_, rfl⟩
      rw [hF] at h6
      have R6 := Lib.hid h6
      have Z6 := Lib.hid (Kept.at k6 Z5.out (by omega)); have Q6 := Lib.hid (Q5.out.rd k6 R5.out (by have := HWQ.out; omega))
      have B6 := Lib.hid (B5.out.trans (k6.below (fun k hk => by subst hk; omega) B5.out.size))
      have hres : F ≠ 0 → getBatch s.data.toList = .error F := fun h => by
        have hlen := HSL.out
        have hnn := HS.out
        unfold getBatch getP
        rw [if_neg (by omega)]
        by_cases hf : f4 = 0
        · subst hf
          have h5 := HW.out.ok rfl rfl
          rw [List.drop_zero] at h5
          rw [h5]
          dsimp only
          by_cases hjn : j4 < s.size
          · rw [if_pos ⟨rfl, hjn⟩] at hF
            rw [if_neg (fun h => by have := congrArg List.length h; rw [List.length_drop, List.length_nil] at this; omega), ← hF]
          · rw [if_neg (fun h => hjn h.2)] at hF
            exact absurd hF.symm h
        · rw [if_neg (fun h => hf h.1)] at hF
          have h5 := HW.out.no rfl hf
          rw [List.drop_zero] at h5
          rw [h5, ← hF]
      have hres0 : F = 0 → batchP s.data.toList = .ok ((⟨muts M, Ns, Ds⟩ : Bt), []) := fun h => by
        have hlen := HSL.out
        subst h
        have hf : f4 = 0 := by
          refine Decidable.byContradiction fun hf => ?_
          rw [if_neg (fun h => hf h.1)] at hF
          exact hf hF
        subst hf
        have hjn : ¬ j4 < s.size := fun hjn => by
          rw [if_pos ⟨rfl, hjn⟩] at hF
          cases hF
        have h5 := HW.out.ok rfl rfl
        rw [List.drop_zero, List.drop_eq_nil_of_le (by omega)] at h5
        exact h5
      have HRES := Lib.hid hres; have HRES0 := Lib.hid hres0
      clear hres hres0 h6 k6 hF Q5 Z5 B5
      obtain ⟨_, _, c2⟩ := R6.out.cells
      by_cases hF0 : F = 0
      · subst hF0
        have hpp := HRES0.out rfl
        obtain ⟨z, hz⟩ : ∃ z : BA, z = ⟨Am, cm, M, AN, cN, Ns, AD, cD, Ds⟩ := ⟨_, rfl⟩
        have hzb : z.bt = ⟨muts M, Ns, Ds⟩ := by rw [hz]; rfl
        rw [← hzb] at hpp
        have hcn := batch_codecT.canon hpp
        rw [List.append_nil] at hcn
        have hfb : BtF z := btF_of hcn.2 (n := 3000) (by omega) (by rw [← hcn.1, HSL.out]; exact HS.out)
        obtain ⟨u, hu⟩ : ∃ u, z.bt.ok = u := ⟨_, rfl⟩
        have hgp : getBatch s.data.toList = (if u = true then .ok z.bt else .error 1) := by
          unfold getBatch getP
          rw [if_neg (by have := HS.out; have := HSL.out; omega), hpp]
          dsimp only
          rw [if_pos rfl, hu]
        have Q6z : Hid (RQ w w6 w1.heap.size z) := Lib.hid (by rw [hz]; exact Q6.out)
        have N := rcheckbatch z w6.heap.size w6 Q6z.out.bat.lies (Nat.le_refl _) hfb
        rw [hu] at N
        have hb := Q6z.out.blk
        have ez : bV z = .agg #[.slice Am M.length cm, .slice AN Ns.length cN, .slice AD Ds.length cD] := by rw [hz]
        have eo : bO z = .cells #[.slice Am M.length cm, .slice AN Ns.length cN, .slice AD Ds.length cD] 29 (0, 0) := by rw [hz]
        rw [ez] at N
        rw [eo] at hb
        have HNC := Lib.hid N; have HGP := Lib.hid hgp; have EZ := Lib.hid ez; have EO := Lib.hid eo; have HBK := Lib.hid hb
        have k0 := cell_at (i := 0) HBK.out rfl
        have k1 := cell_at (i := 1) HBK.out rfl
        have k2 := cell_at (i := 2) HBK.out rfl
        clear hpp hcn hfb hu hgp N HRES HRES0 hb ez eo hzb hz Q6
        go_wp2_with fail
        clear c2
        refine HNC.out.mono ?_
        rintro x w7 ⟨rfl, b4⟩
        have HZ9 := Lib.hid ((b4.block _ (Array.getElem?_eq_some_iff.1 Z6.out).1).trans Z6.out)
        have HP9 := Lib.hid ((b4.block _ (Array.getElem?_eq_some_iff.1 HBK.out).1).trans HBK.out)
        have Q9 := Lib.hid (Q6z.out.on b4)
        have R4 := Lib.hid (R6.out.below b4)
        have B4 := Lib.hid (B6.out.trans (b4.mono B6.out.size))
        clear b4 k0 k1 k2
        cases u with
        | false =>
          go_wp2_with fail
          refine (rwrong (w.heap.size + 1) j4 0 1 s w7 R4.out).mono ?_
          rintro x w8 ⟨rfl, h5, k5⟩
          rw [if_pos rfl] at h5
          have R8 := Lib.hid h5
          have HZ5 := Lib.hid (Kept.atQ k5 HZ9.out (by omega))
          have B8 := Lib.hid (B4.out.trans (k5.below (fun k hk => by subst hk; omega) B4.out.size))
          have HRR : Hid (getBatch s.data.toList = .error 1) := Lib.hid HGP.out
          have c2 := h5.cells.2.2
          clear h5 k5 HGP
          go_wp2_with fail
          have HS8 := Lib.hid c2
          clear c2
          refine wp_region_held_drew (S := fun w' => w'.cell? ⟨w.heap.size + 1, 2, none⟩ = some (.int .i64 1)) (by kernel_rfl) ?_ (fun hHeld => ?_)
          · exact HS8.out
          refine takesH [0, 1, 2, 3, 4] ?_
          repeat
            refine takesH_one (v := ?_) ?_ ?_
            rotate_left
            · first | (refine Or.inr ⟨by rfl, ?_⟩; with_reducible rfl) | (refine Or.inl ⟨by rfl, ?_⟩; intro wx hSw; (try dsimp only at hSw); first | (go_simp; first | done | with_reducible rfl))
            try simp only [Act.put, List.getElem_toArray, List.getElem_cons_succ, List.getElem_cons_zero, List.setIfInBounds_toArray, List.set_cons_zero, List.set_cons_succ]
          refine takesH_nil ?_
          refine wpAnyH_ready (rs := [5]) (by kernel_rfl) (by simp) (AllReadyH.cons rfl (fun K hK => ?_) AllReadyH.nil)
          obtain ⟨U, hU⟩ : ∃ U, U = w8.drew := ⟨_, rfl⟩
          rw [← hU]
          have HZ : Hid (U.heap[w.heap.size]? = some (.cells #[.slice none 0 0, .slice none 0 0, .slice none 0 0] 29)) := Lib.hid (by rw [hU]; exact HZ5.out)
          have hr4 : RB U (w.heap.size + 1) s j4 1 := by rw [hU]; exact RB.drew R8.out
          have hbU : Below w.heap.size w U := by rw [hU]; exact B8.out.drew
          clear hU
          have z0 := cell_at (i := 0) HZ.out rfl
          have z1 := cell_at (i := 1) HZ.out rfl
          have z2 := cell_at (i := 2) HZ.out rfl
          have y0 := thawed_at (i := 0) HZ.out
          have y1 := thawed_at (i := 1) HZ.out
          have y2 := thawed_at (i := 2) HZ.out
          have m9 := set3Q_block HZ.out (.slice none 0 0) (.slice none 0 0) (.slice none 0 0)
          have b9 := (kept_set3Q (w := U) w.heap.size (.slice none 0 0) (.slice none 0 0) (.slice none 0 0))
          have B9 := Lib.hid (hbU.trans (b9.below (fun k hk => by subst hk; exact Nat.le_refl _) hbU.size))
          have hb9 := Kept.atQ b9 hr4 (by omega)
          have S9 := Lib.hid (cell_at (i := 2) hb9 rfl)
          clear hr4 hbU b9 hb9
          go_simp
          refine hK.out _ _ ?_ (fun hHeld => ?_)
          · exact S9.out
          clear hK K
          try simp only [Act.put, List.getElem_toArray, List.getElem_cons_succ, List.getElem_cons_zero, List.setIfInBounds_toArray, List.set_cons_zero, List.set_cons_succ]
          clear z0 z1 z2 y0 y1 y2
          refine takesH [6] ?_
          repeat
            refine takesH_one (v := ?_) ?_ ?_
            rotate_left
            · first | (refine Or.inr ⟨by rfl, ?_⟩; with_reducible rfl) | (refine Or.inl ⟨by rfl, ?_⟩; intro wx hSw; (try dsimp only at hSw); first | (go_simp; first | done | with_reducible rfl))
            try simp only [Act.put, List.getElem_toArray, List.getElem_cons_succ, List.getElem_cons_zero, List.setIfInBounds_toArray, List.set_cons_zero, List.set_cons_succ]
          refine takesH_nil ?_
          refine wpAnyH_done (by kernel_rfl) ?_ _
          generalize World.setCell (World.setCell (World.setCell U ⟨w.heap.size, 0, none⟩ (.slice none 0 0)) ⟨w.heap.size, 1, none⟩ (.slice none 0 0)) ⟨w.heap.size, 2, none⟩ (.slice none 0 0) = w9 at m9 B9 S9 hHeld ⊢
          go_wp2
          have q0 := cell_at (i := 0) m9 rfl
          have q1 := cell_at (i := 1) m9 rfl
          have q2 := cell_at (i := 2) m9 rfl
          refine bodyPost_ret (v := .tuple #[.agg #[.slice none 0 0, .slice none 0 0, .slice none 0 0], .int .i64 1]) ?_ rfl ?_
          · simp [results, Tryz.results16, go_sem, q0, q1, q2]
          · rw [HRR.out]
            exact ⟨rfl, B9.out⟩
        | true =>
          have HRR : Hid (getBatch s.data.toList = .ok z.bt) := Lib.hid HGP.out
          obtain ⟨_, _, c2⟩ := R4.out.cells
          have k0 := cell_at (i := 0) HP9.out rfl
          have k1 := cell_at (i := 1) HP9.out rfl
          have k2 := cell_at (i := 2) HP9.out rfl
          have m9 := set3Q_block HZ9.out (.slice Am M.length cm) (.slice AN Ns.length cN) (.slice AD Ds.length cD)
          have b9 := kept_set3Q (w := w7) w.heap.size (.slice Am M.length cm) (.slice AN Ns.length cN) (.slice AD Ds.length cD)
          have z0 := cell_at (i := 0) HZ9.out rfl
          have z1 := cell_at (i := 1) HZ9.out rfl
          have z2 := cell_at (i := 2) HZ9.out rfl
          have y0 := thawed_at (i := 0) HZ9.out
          have y1 := thawed_at (i := 1) HZ9.out
          have y2 := thawed_at (i := 2) HZ9.out
          have B9 := Lib.hid (show _ ∧ _ from ⟨B4.out.trans (b9.below (fun k hk => by subst hk; exact Nat.le_refl _) B4.out.size), Q9.out.bat.keptB b9 HZ9.out⟩)
          clear b9
          go_wp2
          generalize World.setCell (World.setCell (World.setCell w7 ⟨w.heap.size, 0, none⟩ (.slice Am M.length cm)) ⟨w.heap.size, 1, none⟩ (.slice AN Ns.length cN)) ⟨w.heap.size, 2, none⟩ (.slice AD Ds.length cD) = w9 at m9 B9 ⊢
          clear z0 z1 z2 y0 y1 y2
          have q0 := cell_at (i := 0) m9 rfl
          have q1 := cell_at (i := 1) m9 rfl
          have q2 := cell_at (i := 2) m9 rfl
          refine bodyPost_ret (v := .tuple #[.agg #[.slice Am M.length cm, .slice AN Ns.length cN, .slice AD Ds.length cD], .int .i64 0]) ?_ rfl ?_
          · simp [results, Tryz.results16, go_sem, q0, q1, q2]
          · rw [HRR.out]
            exact ⟨z, rfl, by rw [EZ.out], B9.out.2, B9.out.1⟩
      · have e0 : (F == 0) = false := by simp; exact hF0
        have HRR := Lib.hid (HRES.out hF0)
        clear hF0 HRES HRES0
        go_wp2_with fail
        have HS8 := Lib.hid c2
        clear c2
        refine wp_region_held_drew (S := fun w' => w'.cell? ⟨w.heap.size + 1, 2, none⟩ = some (.int .i64 F)) (by kernel_rfl) ?_ (fun hHeld => ?_)
        · exact HS8.out
        refine takesH [0, 1, 2, 3, 4] ?_
        repeat
          refine takesH_one (v := ?_) ?_ ?_
          rotate_left
          · first | (refine Or.inr ⟨by rfl, ?_⟩; with_reducible rfl) | (refine Or.inl ⟨by rfl, ?_⟩; intro wx hSw; (try dsimp only at hSw); first | (go_simp; first | done | with_reducible rfl))
          try simp only [Act.put, List.getElem_toArray, List.getElem_cons_succ, List.getElem_cons_zero, List.setIfInBounds_toArray, List.set_cons_zero, List.set_cons_succ]
        refine takesH_nil ?_
        refine wpAnyH_ready (rs := [5]) (by kernel_rfl) (by simp) (AllReadyH.cons rfl (fun K hK => ?_) AllReadyH.nil)
        obtain ⟨U, hU⟩ : ∃ U, U = w6.drew := ⟨_, rfl⟩
        rw [← hU]
        have HZ : Hid (U.heap[w.heap.size]? = some (.cells #[.slice none 0 0, .slice none 0 0, .slice none 0 0] 29)) := Lib.hid (by rw [hU]; exact Z6.out)
        have hr4 : RB U (w.heap.size + 1) s j4 F := by rw [hU]; exact RB.drew R6.out
        have hbU : Below w.heap.size w U := by rw [hU]; exact B6.out.drew
        clear hU
        have z0 := cell_at (i := 0) HZ.out rfl
        have z1 := cell_at (i := 1) HZ.out rfl
        have z2 := cell_at (i := 2) HZ.out rfl
        have y0 := thawed_at (i := 0) HZ.out
        have y1 := thawed_at (i := 1) HZ.out
        have y2 := thawed_at (i := 2) HZ.out
        have m9 := set3Q_block HZ.out (.slice none 0 0) (.slice none 0 0) (.slice none 0 0)
        have b9 := (kept_set3Q (w := U) w.heap.size (.slice none 0 0) (.slice none 0 0) (.slice none 0 0))
        have B9 := Lib.hid (hbU.trans (b9.below (fun k hk => by subst hk; exact Nat.le_refl _) hbU.size))
        have hb9 := Kept.atQ b9 hr4 (by omega)
        have S9 := Lib.hid (cell_at (i := 2) hb9 rfl)
        clear hr4 hbU b9 hb9
        go_simp
        refine hK.out _ _ ?_ (fun hHeld => ?_)
        · exact S9.out
        clear hK K
        try simp only [Act.put, List.getElem_toArray, List.getElem_cons_succ, List.getElem_cons_zero, List.setIfInBounds_toArray, List.set_cons_zero, List.set_cons_succ]
        clear z0 z1 z2 y0 y1 y2
        refine takesH [6] ?_
        repeat
          refine takesH_one (v := ?_) ?_ ?_
          rotate_left
          · first | (refine Or.inr ⟨by rfl, ?_⟩; with_reducible rfl) | (refine Or.inl ⟨by rfl, ?_⟩; intro wx hSw; (try dsimp only at hSw); first | (go_simp; first | done | with_reducible rfl))
          try simp only [Act.put, List.getElem_toArray, List.getElem_cons_succ, List.getElem_cons_zero, List.setIfInBounds_toArray, List.set_cons_zero, List.set_cons_succ]
        refine takesH_nil ?_
        refine wpAnyH_done (by kernel_rfl) ?_ _
        generalize World.setCell (World.setCell (World.setCell U ⟨w.heap.size, 0, none⟩ (.slice none 0 0)) ⟨w.heap.size, 1, none⟩ (.slice none 0 0)) ⟨w.heap.size, 2, none⟩ (.slice none 0 0) = w9 at m9 B9 S9 hHeld ⊢
        go_wp2
        have q0 := cell_at (i := 0) m9 rfl
        have q1 := cell_at (i := 1) m9 rfl
        have q2 := cell_at (i := 2) m9 rfl
        refine bodyPost_ret (v := .tuple #[.agg #[.slice none 0 0, .slice none 0 0, .slice none 0 0], .int .i64 F]) ?_ rfl ?_
        · simp [results, Tryz.results16, go_sem, q0, q1, q2]
        · rw [HRR.out]
          exact ⟨rfl, B9.out⟩
end Go.Proofs.YthfanonjokpflaaGreat
set_option linter.unusedVariables false
set_option linter.unusedSimpArgs false
namespace Go.Proofs.YthfanonjokpflaaGreat
open Go Go.RowKit

/-- What is joined to a partition, few enough to be copied. -/
def MuC (x : MA) : Prop := x.p.L.length ≤ 1000 ∧ ∀ r ∈ x.p.L, r.ro.cols.length ≤ 1000
theorem Fresh.rowsQ {w0 w : World} {A : Option Addr} {n c : Nat} {L : List RA} (h : Fresh w0 w (.slice A n c) L) : n = L.length ∧ RowsQ w0 w A L.length c L := by
  have h1 := h.lies.1
  subst h1
  exact ⟨rfl, h.cur.own, h.cols⟩
theorem muts_take {L : List MA} {t : Nat} (h : t < L.length) : muts (L.take (t + 1)) = muts (L.take t) ++ [mutOf L[t]] := by
  rw [List.take_succ_eq_append_getElem h]
  unfold muts
  rw [List.map_append]
  rfl
set_option maxRecDepth 8000 in
set_option maxHeartbeats 8000000 in
theorem lmuts (A : Option Addr) (n c B : Nat) (L : List MA) (w : World) (hr : LiesM w B A n c L) (hB : B ≤ w.heap.size) (hx : ∀ x ∈ L, MuC x) (hn : n ≤ 1000) :
    Calls Tryz.prog 31 #[.slice A n c] w fun e w' => ∃ (Ks : List MA) (A' : Option Addr) (m c' : Nat), e = .returned (.slice A' m c') ∧ muts Ks = muts L ∧ Ks.length = m ∧ MutsQ w w' A' m c' Ks ∧ Below w.heap.size w w' := by
  have hl := hr.rd.1
  have HR := Lib.hid hr; have HB := Lib.hid hB; have HX := Lib.hid hx; have HL := Lib.hid hl; have HNN := Lib.hid hn
  clear hr hB hx hl hn
  go_enter Tryz.func31, Tryz.ntmps31
  go_wp2_with fail
  go_loopw [3, 4] (fun a i' wr => ∃ (t : Nat) (Ks : List MA) (A3 : Option Addr) (c3 : Nat), a = .slice A3 t c3 ∧ i' = .int .i64 t ∧ t ≤ n ∧ Ks.length = t ∧ muts Ks = muts (L.take t) ∧ MutsQ w wr A3 t c3 Ks ∧ Below w.heap.size w wr) (fun _ i' _ => n - (intOf i').toNat)
  case atStart => exact ⟨0, [], none, 0, rfl, rfl, Nat.zero_le _, rfl, rfl, MutsQ.nil _ _, Below.refl _ _⟩
  case round =>
    obtain ⟨t, Ks, A3, c3, rfl, rfl, ht, hkl, hk, hm, hb⟩ := hrel
    have HK := Lib.hid hk; have HMI := Lib.hid hm; have HBW := Lib.hid hb; have HKL := Lib.hid hkl
    clear hk hm hkl
    by_cases hlt : t < n
    · have i1 : (t : Int) < n := by omega
      have i0 : (0 : Int) ≤ t := by omega
      have i8 : n ≤ 1000 := HNN.out
      have htl : t < L.length := by rw [HL.out]; exact hlt
      have htk := muts_take htl
      obtain ⟨g0, o0, rfl, hg0⟩ := HR.out.rd.ex (by omega)
      have hcolf := fun (w' : World) (hb' : Below w.heap.size w w') => (HR.out.rd.below (hb'.mono HB.out)).part htl
      have hinf := fun (w' : World) (hb' : Below w.heap.size w w') => Lies.below (HR.out.parts L[t] (List.getElem_mem htl)) (hb'.mono HB.out)
      have hszf : ∀ w', Below w.heap.size w w' → B ≤ w'.heap.size := fun w' hb' => Nat.le_trans HB.out hb'.size
      have hs := HX.out L[t] (List.getElem_mem htl)
      obtain ⟨x, hcx⟩ : ∃ y, L[t] = y := ⟨_, rfl⟩
      rw [hcx] at hs htk
      simp only [hcx] at hcolf hinf
      have S1 := Lib.hid hs; have HCOL := Lib.hid hcolf; have HINF := Lib.hid hinf; have HSZ := Lib.hid hszf; have HTK := Lib.hid htk
      clear hs hcolf hinf hszf htk hcx htl hg0 ht hb
      go_wp2_with fail
      refine wp_region_held_drew (S := fun w' => Below w.heap.size w w') (by kernel_rfl) ?_ (fun hHeld => ?_)
      · exact HBW.out.drew
      refine takesH [0, 1, 2, 3, 4, 5, 6, 7, 8, 9, 10] ?_
      repeat
        refine takesH_one (v := ?_) ?_ ?_
        rotate_left
        · first | (refine Or.inr ⟨by rfl, ?_⟩; with_reducible rfl) | (refine Or.inl ⟨by rfl, ?_⟩; intro wx hSw; (try dsimp only at hSw); first | (go_simp; first | done | with_reducible rfl) | (obtain ⟨_, _, _, _⟩ := HCOL.out _ hSw; go_simp; first | done | with_reducible rfl))
        try simp only [Act.put, List.getElem_toArray, List.getElem_cons_succ, List.getElem_cons_zero, List.setIfInBounds_toArray, List.set_cons_zero, List.set_cons_succ]
      refine takesH_nil ?_
      refine wpAnyH_ready (rs := [11]) (by kernel_rfl) (by simp) (AllReadyH.cons rfl (fun K hK => ?_) AllReadyH.nil)
      go_simp
      refine (lpart_any x.p.k x.p.g x.p.A x.p.L.length x.p.c B x.p.L wr.drew (HINF.out _ HBW.out.drew) (HSZ.out _ HBW.out.drew) S1.out.1 S1.out.2).mono ?_
      rintro e' v4 ⟨N9, A9', n9, c9', rfl, hros, hfr⟩
      have hb4 : Below wr.heap.size wr v4 := next (w := wr) (w1 := wr.drew) ((Below.refl wr.heap.size wr).drew) hfr.below
      obtain ⟨rfl, hrq⟩ := (hfr.lower (w := w) HBW.out.drew).rowsQ
      have M4 := Lib.hid (HMI.out.on hb4)
      have B4 := Lib.hid (next HBW.out hb4)
      have ba := (Below.refl v4.heap.size v4).alloc (Nat.le_refl _) (.cells #[.string x.tb, .string x.p.k, .int .i64 x.p.g, .slice A9' N9.length c9'] 91)
      have RD := Lib.hid (RdM.laid v4 ⟨x.tb, ⟨x.p.k, x.p.g, N9, A9', c9'⟩⟩)
      have M5 := Lib.hid (M4.out.on ba)
      have B5 := Lib.hid (next B4.out ba)
      have P5 := Lib.hid (hrq.on ba)
      have HY : Hid (mutOf ⟨x.tb, ⟨x.p.k, x.p.g, N9, A9', c9'⟩⟩ = mutOf x) := Lib.hid (by unfold mutOf; dsimp only; rw [hros])
      clear hros hfr hb4 hrq ba
      try go_wp2_with fail
      refine hK.out _ _ ?_ (fun hHeld => ?_)
      · exact B4.out
      clear hK K
      try simp only [Act.put, List.getElem_toArray, List.getElem_cons_succ, List.getElem_cons_zero, List.setIfInBounds_toArray, List.set_cons_zero, List.set_cons_succ]
      refine takesH [12] ?_
      repeat
        refine takesH_one (v := ?_) ?_ ?_
        rotate_left
        · first | (refine Or.inr ⟨by rfl, ?_⟩; with_reducible rfl) | (refine Or.inl ⟨by rfl, ?_⟩; intro wx hSw; (try dsimp only at hSw); first | (go_simp; first | done | with_reducible rfl))
        try simp only [Act.put, List.getElem_toArray, List.getElem_cons_succ, List.getElem_cons_zero, List.setIfInBounds_toArray, List.set_cons_zero, List.set_cons_succ]
      refine takesH_nil ?_
      refine wpAnyH_ready (rs := [13]) (by kernel_rfl) (by simp) (AllReadyH.cons rfl (fun K hK => ?_) AllReadyH.nil)
      go_simp
      refine hK.out _ _ ?_ (fun hHeld => ?_)
      · exact B5.out
      clear hK K
      try simp only [Act.put, List.getElem_toArray, List.getElem_cons_succ, List.getElem_cons_zero, List.setIfInBounds_toArray, List.set_cons_zero, List.set_cons_succ]
      refine wpAnyH_ready (rs := [14]) (by kernel_rfl) (by simp) (AllReadyH.cons rfl (fun K hK => ?_) AllReadyH.nil)
      refine step_ex rfl (.tmp 11) (.tmp 24) _ _ rfl (.slice A3 t c3) (.slice (some ⟨v4.heap.size, 0, none⟩) 1 1) (by simp [Act.eval]) (by simp [Act.eval]) (run_appM w.heap.size M5.out.own RD.out ?s3 ?s4) ?_
      case s3 => omega
      case s4 => exact B5.out.size
      intro v9 w9 ho9 hg9
      obtain ⟨hg9, _⟩ := hg9
      obtain ⟨A9, c9, rfl, _⟩ := own_slice ho9
      have M9 : Hid (MutsQ w w9 A9 (t + 1) c9 (Ks ++ [⟨x.tb, ⟨x.p.k, x.p.g, N9, A9', c9'⟩⟩])) := Lib.hid (M5.out.snoc P5.out ho9 hg9)
      have B9 := Lib.hid (B5.out.trans ((Kept.of_grown (F := fun k => (Value.slice A3 t c3).ownBlock = some k) hg9 fun k hk => hk).below (fun k hk => (M5.out.own.lt k hk).1) B5.out.size))
      clear ho9 hg9
      refine hK.out _ _ ?_ (fun hHeld => ?_)
      · exact B9.out
      clear hK K
      try simp only [Act.put, List.getElem_toArray, List.getElem_cons_succ, List.getElem_cons_zero, List.setIfInBounds_toArray, List.set_cons_zero, List.set_cons_succ]
      refine takesH [15] ?_
      repeat
        refine takesH_one (v := ?_) ?_ ?_
        rotate_left
        · first | (refine Or.inr ⟨by rfl, ?_⟩; with_reducible rfl) | (refine Or.inl ⟨by rfl, ?_⟩; intro wx hSw; (try dsimp only at hSw); first | (go_simp; first | done | with_reducible rfl))
        try simp only [Act.put, List.getElem_toArray, List.getElem_cons_succ, List.getElem_cons_zero, List.setIfInBounds_toArray, List.set_cons_zero, List.set_cons_succ]
      refine takesH_nil ?_
      refine wpAnyH_done (by kernel_rfl) ?_ _
      have HK1 : Hid (muts (Ks ++ [⟨x.tb, ⟨x.p.k, x.p.g, N9, A9', c9'⟩⟩]) = muts (L.take (t + 1))) := Lib.hid (by
        rw [HTK.out, ← HK.out, ← HY.out]
        unfold muts
        rw [List.map_append]
        rfl)
      have HT1 : Hid ((Ks ++ [(⟨x.tb, ⟨x.p.k, x.p.g, N9, A9', c9'⟩⟩ : MA)]).length = t + 1) := Lib.hid (by rw [List.length_append, HKL.out]; rfl)
      clear hHeld
      go_wp2
      go_roundw
      case rel => exact ⟨t + 1, _, A9, c9, rfl, by go_num, by omega, HT1.out, HK1.out, M9.out, B9.out⟩
      case measure => simp [intOf]; omega
    · obtain rfl : t = n := by omega
      have hkk := HK.out
      rw [List.take_of_length_le (by rw [HL.out]; exact Nat.le_refl _)] at hkk
      have HKK := Lib.hid hkk
      have j1 : decide ((t : Int) < (t : Int)) = false := decide_eq_false (by omega)
      clear hkk hb
      go_wp2
      go_ret
      exact ⟨Ks, A3, t, c3, rfl, HKK.out, HKL.out, HMI.out, HBW.out⟩
end Go.Proofs.YthfanonjokpflaaGreat
set_option linter.unusedVariables false
set_option linter.unusedSimpArgs false
namespace Go.Proofs.YthfanonjokpflaaGreat
open Go Go.RowKit

set_option maxRecDepth 8000 in
set_option maxHeartbeats 8000000 in
theorem lbatch (x : BA) (B : Nat) (w : World) (hr : LiesB w B x) (hB : B ≤ w.heap.size) (hx : ∀ y ∈ x.M, MuC y) (h1 : x.M.length ≤ 1000) (h2 : x.N.length ≤ 1000) (h3 : x.D.length ≤ 1000) :
    Calls Tryz.prog 11 #[bV x] w fun e w' => ∃ z : BA, e = .returned (bV z) ∧ z.bt = x.bt ∧ BatQ w w' z ∧ Below w.heap.size w w' := by
  obtain ⟨nm, hnm⟩ : ∃ nm, x.M.length = nm := ⟨_, rfl⟩
  obtain ⟨nn, hnn⟩ : ∃ nn, x.N.length = nn := ⟨_, rfl⟩
  obtain ⟨nd, hnd⟩ : ∃ nd, x.D.length = nd := ⟨_, rfl⟩
  have bz := ((Below.refl w.heap.size w).alloc (Nat.le_refl _) (.cells #[.slice x.AM nm x.cM, .slice x.AN nn x.cN, .slice x.AD nd x.cD] 29)).alloc (by simp) (.cells #[.slice none 0 0, .slice none 0 0, .slice none 0 0] 29)
  have hz0 := new_at (heap_alloc_new w (.cells #[.slice x.AM nm x.cM, .slice x.AN nn x.cN, .slice x.AD nd x.cD] 29)) (.cells #[.slice none 0 0, .slice none 0 0, .slice none 0 0] 29)
  have hz1 := heap_alloc_new (w.alloc (.cells #[.slice x.AM nm x.cM, .slice x.AN nn x.cN, .slice x.AD nd x.cD] 29)) (.cells #[.slice none 0 0, .slice none 0 0, .slice none 0 0] 29)
  simp only [World.size_alloc] at hz1
  obtain ⟨V, hV⟩ : ∃ V, V = (w.alloc (.cells #[.slice x.AM nm x.cM, .slice x.AN nn x.cN, .slice x.AD nd x.cD] 29)).alloc (.cells #[.slice none 0 0, .slice none 0 0, .slice none 0 0] 29) := ⟨_, rfl⟩
  have hVs : V.heap.size = w.heap.size + 2 := by rw [hV]; simp
  rw [← hV] at bz hz0 hz1
  have hlv := hr.below (bz.mono hB)
  have hbv : B ≤ V.heap.size := Nat.le_trans hB bz.size
  have hlm : ∀ w', Below V.heap.size V w' → LiesM w' B x.AM nm x.cM x.M := fun w' hb => by rw [← hnm]; exact hlv.muts.below (hb.mono hbv)
  have hln : ∀ w', Below V.heap.size V w' → RdN w' B x.AN nn x.N := fun w' hb => by rw [← hnn]; exact hlv.notes.below (hb.mono hbv)
  have hld : ∀ w', Below V.heap.size V w' → RdZ w' B x.AD nd x.D := fun w' hb => by rw [← hnd]; exact hlv.drops.below (hb.mono hbv)
  have hsz : ∀ w', Below V.heap.size V w' → B ≤ w'.heap.size := fun w' hb => Nat.le_trans hbv hb.size
  have hcs : ∀ w', Below V.heap.size V w' → w'.cell? ⟨w.heap.size, 0, none⟩ = some (.slice x.AM nm x.cM) ∧ w'.cell? ⟨w.heap.size, 1, none⟩ = some (.slice x.AN nn x.cN) ∧ w'.cell? ⟨w.heap.size, 2, none⟩ = some (.slice x.AD nd x.cD) := fun w' hb => by
    have h := (hb.block w.heap.size (by omega)).trans hz0
    exact ⟨cell_at h rfl, cell_at h rfl, cell_at h rfl⟩
  have HLM := Lib.hid hlm; have HLN := Lib.hid hln; have HLD := Lib.hid hld; have HSZ := Lib.hid hsz; have HCS := Lib.hid hcs; have HMC := Lib.hid hx; have HNM := Lib.hid (show nm ≤ 1000 by omega); have BZ := Lib.hid bz; have HZ1 := Lib.hid hz1; have HVS := Lib.hid hVs; have HNN := Lib.hid hnn; have HND := Lib.hid hnd
  have i2 : nn ≤ 1000 := by omega
  have i3 : nd ≤ 1000 := by omega
  have hbx : bV x = .agg #[.slice x.AM nm x.cM, .slice x.AN nn x.cN, .slice x.AD nd x.cD] := by unfold bV; rw [hnm, hnn, hnd]
  rw [hbx]
  obtain ⟨XT, hXT⟩ : ∃ X, x.bt = X := ⟨_, rfl⟩
  have hXB : XT = ⟨muts x.M, x.N, x.D⟩ := by rw [← hXT]; rfl
  rw [hXT]
  have HXB := Lib.hid hXB
  clear hlm hln hld hsz hcs hx h1 h2 h3 bz hz0 hz1 hVs hnm hnn hnd hlv hbv hr hB hbx hXT hXB
  go_enter Tryz.func11, Tryz.ntmps11
  go_wp2_with fail
  rw [← hV]
  clear hV
  go_wp2_with fail
  refine wp_region_z (S := fun w' => Below V.heap.size V w') 10 (by kernel_rfl) ?_ (fun hHeld => ?_)
  · exact (Below.refl _ _).drew
  refine takesZ [0, 1, 3, 4, 6, 7] ?_
  repeat
    refine takesZ_one (v := ?_) ?_ ?_
    rotate_left
    · first | (refine Or.inr ⟨by rfl, ?_⟩; with_reducible rfl) | (refine Or.inl ⟨by rfl, ?_⟩; intro wx hSw; (try dsimp only at hSw); first | (go_simp; first | done | with_reducible rfl) | (obtain ⟨_, _, _⟩ := HCS.out _ hSw; go_simp; first | done | with_reducible rfl))
    try simp only [Act.put, List.getElem_toArray, List.getElem_cons_succ, List.getElem_cons_zero, List.setIfInBounds_toArray, List.set_cons_zero, List.set_cons_succ]
  refine takesZ_nil ?_
  refine wpAnyZ_one (i := 2) (by kernel_rfl) rfl (fun K hK => ?_)
  go_simp
  refine (lmuts x.AM nm x.cM B x.M V.drew (HLM.out _ hHeld) (HSZ.out _ hHeld) HMC.out HNM.out).mono ?_
  rintro e' v3 ⟨Ks, Am, m, cm, rfl, hks, hkl, hmq, hb3⟩
  subst hkl
  have B3 : Hid (Below V.heap.size V v3) := Lib.hid (next (w := V) (w1 := V.drew) ((Below.refl V.heap.size V).drew) hb3)
  have M3 := Lib.hid (hmq.lower (w0 := V) (Nat.le_refl _))
  have HKS := Lib.hid hks
  clear hmq hb3 hks
  try go_wp2_with fail
  refine hK.out _ _ ?_ (fun hHeld => ?_)
  · exact B3.out
  clear hK K
  try simp only [Act.put, List.getElem_toArray, List.getElem_cons_succ, List.getElem_cons_zero, List.setIfInBounds_toArray, List.set_cons_zero, List.set_cons_succ]
  refine wpAnyZ_one (i := 5) (by kernel_rfl) rfl (fun K hK => ?_)
  refine step_ex rfl (.const (.slice none 0 0)) (.tmp 7) _ _ rfl (.slice none 0 0) (.slice x.AN nn x.cN) (by simp [Act.eval]) (by simp [Act.eval]) (run_appN V.heap.size (own_nilN _ _) (HLN.out _ B3.out) ?s3 ?s4) ?_
  case s3 => omega
  case s4 => exact B3.out.size
  intro v4 w4 ho4 hg4
  obtain ⟨hg4, _⟩ := hg4
  rw [Nat.zero_add, List.nil_append] at ho4
  obtain ⟨A4, c4, rfl, _⟩ := own_slice ho4
  have b4 : Below v3.heap.size v3 w4 := ⟨hg4.os, hg4.tape, hg4.output, hg4.size, fun k hk => hg4.block k hk (fun h => by cases h)⟩
  have B4 := Lib.hid (B3.out.trans (b4.mono B3.out.size))
  have M4 := Lib.hid (M3.out.on b4)
  have O4 := Lib.hid ho4
  clear ho4 hg4 b4
  refine hK.out _ _ ?_ (fun hHeld => ?_)
  · exact B4.out
  clear hK K
  try simp only [Act.put, List.getElem_toArray, List.getElem_cons_succ, List.getElem_cons_zero, List.setIfInBounds_toArray, List.set_cons_zero, List.set_cons_succ]
  refine wpAnyZ_one (i := 8) (by kernel_rfl) rfl (fun K hK => ?_)
  refine step_ex rfl (.const (.slice none 0 0)) (.tmp 10) _ _ rfl (.slice none 0 0) (.slice x.AD nd x.cD) (by simp [Act.eval]) (by simp [Act.eval]) (run_appZ V.heap.size (own_nilZ _ _) (HLD.out _ B4.out) ?s5 ?s6) ?_
  case s5 => omega
  case s6 => exact B4.out.size
  intro v5 w5 ho5 hg5
  obtain ⟨hg5, _⟩ := hg5
  rw [Nat.zero_add, List.nil_append] at ho5
  obtain ⟨A5, c5, rfl, _⟩ := own_slice ho5
  have b5 : Below w4.heap.size w4 w5 := ⟨hg5.os, hg5.tape, hg5.output, hg5.size, fun k hk => hg5.block k hk (fun h => by cases h)⟩
  have B5 := Lib.hid (B4.out.trans (b5.mono B4.out.size))
  have Q5 : Hid (BatQ V w5 ⟨Am, cm, Ks, A4, c4, x.N, A5, c5, x.D⟩) := Lib.hid ⟨M4.out.on b5, by dsimp only; rw [HNN.out]; exact own_below O4.out b5, by dsimp only; rw [HND.out]; exact ho5⟩
  have Z5 := Lib.hid ((B5.out.block (w.heap.size + 1) (by have := HVS.out; omega)).trans HZ1.out)
  clear ho5 hg5 b5
  refine hK.out _ _ ?_ (fun hHeld => ?_)
  · exact B5.out
  clear hK K
  try simp only [Act.put, List.getElem_toArray, List.getElem_cons_succ, List.getElem_cons_zero, List.setIfInBounds_toArray, List.set_cons_zero, List.set_cons_succ]
  have z0 := cell_at (i := 0) Z5.out rfl
  have z1 := cell_at (i := 1) Z5.out rfl
  have z2 := cell_at (i := 2) Z5.out rfl
  have y0 := thawed_at (i := 0) Z5.out
  have y1 := thawed_at (i := 1) Z5.out
  have y2 := thawed_at (i := 2) Z5.out
  refine takesZ [9] ?_
  repeat
    refine takesZ_one (v := ?_) ?_ ?_
    rotate_left
    · first | (refine Or.inr ⟨by rfl, ?_⟩; with_reducible rfl) | (refine Or.inl ⟨by rfl, ?_⟩; intro wx hSw; (try dsimp only at hSw); first | (go_simp; first | done | with_reducible rfl))
    try simp only [Act.put, List.getElem_toArray, List.getElem_cons_succ, List.getElem_cons_zero, List.setIfInBounds_toArray, List.set_cons_zero, List.set_cons_succ]
  refine takesZ_nil ?_
  refine wpAnyZ_last (by kernel_rfl) rfl (fun K hK => ?_)
  go_simp
  refine hK.out _ _ ?_
  clear hK K
  try simp only [Act.put, List.getElem_toArray, List.getElem_cons_succ, List.getElem_cons_zero, List.setIfInBounds_toArray, List.set_cons_zero, List.set_cons_succ]
  refine wpAnyZ_done (by kernel_rfl) ?_ _
  have m9 := set3Q_block Z5.out (.slice Am Ks.length cm) (.slice A4 nn c4) (.slice A5 nd c5)
  have b9 := kept_set3Q (w := w5) (w.heap.size + 1) (.slice Am Ks.length cm) (.slice A4 nn c4) (.slice A5 nd c5)
  have Q9 := Lib.hid ((Q5.out.keptB b9 Z5.out).lower (w0 := w) BZ.out.size)
  have B9 := Lib.hid ((next BZ.out B5.out).trans (b9.below (B := w.heap.size) (fun k hk => by subst hk; exact Nat.le_succ _) (next BZ.out B5.out).size))
  clear b9
  go_wp2
  generalize ((w5.setCell ⟨w.heap.size + 1, 0, none⟩ (.slice Am Ks.length cm)).setCell ⟨w.heap.size + 1, 1, none⟩ (.slice A4 nn c4)).setCell ⟨w.heap.size + 1, 2, none⟩ (.slice A5 nd c5) = w9 at m9 Q9 B9 ⊢
  clear z0 z1 z2 y0 y1 y2
  have q0 := cell_at (i := 0) m9 rfl
  have q1 := cell_at (i := 1) m9 rfl
  have q2 := cell_at (i := 2) m9 rfl
  refine bodyPost_ret (v := .agg #[.slice Am Ks.length cm, .slice A4 nn c4, .slice A5 nd c5]) ?_ rfl ?_
  · simp [results, Tryz.results11, go_sem, q0, q1, q2]
  · refine ⟨⟨Am, cm, Ks, A4, c4, x.N, A5, c5, x.D⟩, ?_, ?_, Q9.out, B9.out⟩
    · unfold bV
      dsimp only
      rw [HNN.out, HND.out]
    · rw [HXB.out, ← HKS.out]
      rfl
end Go.Proofs.YthfanonjokpflaaGreat
set_option linter.unusedVariables false
set_option linter.unusedSimpArgs false
namespace Go.Proofs.YthfanonjokpflaaGreat
open Go Go.RowKit

set_option maxRecDepth 8000 in
set_option maxHeartbeats 2000000 in
theorem yinner : InnerOk := by
  intro q i n c e A l w h hi hs
  have hqw := h.lt
  have bz := (Below.refl w.heap.size w).alloc (Nat.le_refl _) (.cells #[.string ⟨#[]⟩, .int .i64 0, .slice none 0 0] 24)
  have hz := heap_alloc_new w (.cells #[.string ⟨#[]⟩, .int .i64 0, .slice none 0 0] 24)
  have h0 := h.below bz
  obtain ⟨V, hV⟩ : ∃ V, V = w.alloc (.cells #[.string ⟨#[]⟩, .int .i64 0, .slice none 0 0] 24) := ⟨_, rfl⟩
  rw [← hV] at bz hz h0
  have H0 := Lib.hid h0; have HZ0 := Lib.hid hz; have BZ := Lib.hid bz; have HQ := Lib.hid hqw; have HS := Lib.hid hs
  clear h bz hz h0 hqw hs
  go_enter Tryz.func101, Tryz.ntmps101
  go_wp2_with fail
  rw [← hV]
  clear hV
  refine (ybytes q i n c e A l _ H0.out hi (by have := HS.out; omega)).mono ?_
  rintro x w1 ⟨B, m, k, j, f, rfl, hm, hrd, hA, hf0, hj, h1, k1, hw1⟩
  have hlen : k.length = m := hrd.1
  have hmax : m ≤ maxLen := by have := HS.out; unfold maxLen; omega
  have hz1 := Kept.atQ k1 HZ0.out (by have := HQ.out; omega)
  have K1 := Lib.hid (KeptQ.on (Kept.of_below BZ.out _) k1)
  have hq1 := h1.lt
  have hs1 : w.heap.size < w1.heap.size := (Array.getElem?_eq_some_iff.1 hz1).1
  have ba := (Below.refl w1.heap.size w1).alloc (Nat.le_refl _) (.cells #[.slice B m m, .int .i64 0, .int .i64 f] 115)
  have hin := heap_alloc_new w1 (.cells #[.slice B m m, .int .i64 0, .int .i64 f] 115)
  obtain ⟨U, hU⟩ : ∃ U, U = w1.alloc (.cells #[.slice B m m, .int .i64 0, .int .i64 f] 115) := ⟨_, rfl⟩
  rw [← hU] at ba hin
  have hry : RY U w1.heap.size B m m k 0 f := ⟨hin, (hrd.below (ba.mono (Nat.le_of_lt hq1))).up (Nat.le_of_lt hq1), Nat.le_refl _, hmax, hA⟩
  have HIN := Lib.hid hry
  have H1 := Lib.hid (h1.below ba)
  have HZ1 := Lib.hid ((ba.block _ hs1).trans hz1)
  have KU := Lib.hid (K1.out.new ba)
  have HW1 := Lib.hid hw1; have HJ := Lib.hid hj; have HM := Lib.hid (show m ≤ 900000 by have := HS.out; omega); have HK := Lib.hid hlen
  have HS1 := Lib.hid hs1; have HQ1 := Lib.hid hq1; have HSU := Lib.hid (show w1.heap.size < U.heap.size from hry.lt)
  obtain ⟨_, _, _⟩ := h1.cells
  clear hrd hA hf0 hm hj h1 k1 hw1 hlen hmax hz1 hs1 hq1 ba hin hry hi
  go_wp2_with fail
  rw [← hU]
  clear hU
  refine (ypart w1.heap.size 0 m m f B k U HIN.out (Nat.zero_le _) HM.out).mono ?_
  rintro x w2 ⟨⟨zk, zg, zL, zA, zc⟩, j2, f2, rfl, hrows, hj2, h2, k2, hw2⟩
  dsimp only at hrows hw2
  have bp := (Below.refl w2.heap.size w2).alloc (Nat.le_refl _) (.cells #[.string zk, .int .i64 zg, .slice zA zL.length zc] 24)
  have hp2 := heap_alloc_new w2 (.cells #[.string zk, .int .i64 zg, .slice zA zL.length zc] 24)
  obtain ⟨P, hP⟩ : ∃ P, P = w2.alloc (.cells #[.string zk, .int .i64 zg, .slice zA zL.length zc] 24) := ⟨_, rfl⟩
  rw [← hP] at bp hp2
  have hr2 := (hrows.lower (w0 := w) KU.out.size).on bp
  have hq2 := (RY.other H1.out k2 HQ1.out).below bp
  have hz2 := (bp.block _ (Nat.lt_of_lt_of_le (Nat.lt_trans HS1.out HSU.out) k2.size)).trans (Kept.atQ k2 HZ1.out (by have := HS1.out; omega))
  have kp := (KU.out.own k2 (Nat.le_of_lt HS1.out)).new bp
  have hl2 : w1.heap.size < w2.heap.size := Nat.lt_of_lt_of_le HSU.out k2.size
  have H2 := Lib.hid (h2.below bp); have HR2 := Lib.hid hr2; have HQ2 := Lib.hid hq2; have HZ2 := Lib.hid hz2; have KP := Lib.hid kp; have HP2 := Lib.hid hp2
  have HW2 := Lib.hid hw2; have HJ2 := Lib.hid hj2; have HL2 := Lib.hid hl2
  clear hrows hj2 h2 k2 hw2 bp hp2 hr2 hq2 hz2 kp hl2
  go_wp2_with fail
  rw [← hP]
  clear hP
  refine (yend w1.heap.size j2 m m f2 B k P H2.out HJ2.out).mono ?_
  rintro x w3 ⟨rfl, h3, k3⟩
  obtain ⟨F, hF⟩ : ∃ F, (if f2 = 0 ∧ j2 < m then (6 : Int) else f2) = F := ⟨_, rfl⟩
  rw [hF] at h3
  have HW : Hid (Went (nestP partP) l i e ⟨zk, zg, ros zL⟩ j F) := by
    have h4 := HW1.out.nest HW2.out
    rw [HK.out, hF] at h4
    exact Lib.hid h4
  have hq3 := RY.other HQ2.out k3 HQ1.out
  have hz3 := Kept.atQ k3 HZ2.out (by have := HS1.out; omega)
  have hp3 := Kept.atQ k3 HP2.out (by have := HL2.out; omega)
  have hr3 := HR2.out.kept1 k3 H2.out.blk (by decide) (by decide)
  have kq3 := KP.out.own k3 (Nat.le_of_lt HS1.out)
  have c3 := h3.cells.2.2
  have y3 := hq3.thaw 2
  have hq4 := hq3.put2 F
  have k4 : Kept (fun k => k = q) w3 (w3.setCell ⟨q, 2, none⟩ (.int .i64 F)) := Kept.setCell (fun k => k = q) w3 ⟨q, 2, none⟩ (.int .i64 F) rfl
  have hz4 := Kept.atQ k4 hz3 (by have := HQ.out; omega)
  have hp4 := Kept.atQ k4 hp3 (by have := HL2.out; have := HQ1.out; omega)
  have hr4 := hr3.kept1 k4 hq3.blk (by decide) (by decide)
  have kq4 := kq3.on k4
  obtain ⟨_, _, c2⟩ := hq3.cells
  have HQ4 := Lib.hid hq4; have HZ4 := Lib.hid hz4; have HP4 := Lib.hid hp4; have HR4 := Lib.hid hr4; have KQ4 := Lib.hid kq4
  clear h3 k3 hF hq3 hz3 hp3 hr3 kq3 hq4 k4 hz4 hp4 hr4 kq4
  have k0 := cell_at (i := 0) HP4.out rfl
  have k1 := cell_at (i := 1) HP4.out rfl
  have k2 := cell_at (i := 2) HP4.out rfl
  have z0 := cell_at (i := 0) HZ4.out rfl
  have z1 := cell_at (i := 1) HZ4.out rfl
  have z2 := cell_at (i := 2) HZ4.out rfl
  have y0 := thawed_at (i := 0) HZ4.out
  have y1 := thawed_at (i := 1) HZ4.out
  have y2 := thawed_at (i := 2) HZ4.out
  obtain ⟨W4, hW4⟩ : ∃ W, W = w3.setCell ⟨q, 2, none⟩ (.int .i64 F) := ⟨_, rfl⟩
  have m9 := set3Q_block HZ4.out (.string zk) (.int .i64 zg) (.slice zA zL.length zc)
  have n9 := kept_set3Q (w := w3.setCell ⟨q, 2, none⟩ (.int .i64 F)) w.heap.size (.string zk) (.int .i64 zg) (.slice zA zL.length zc)
  have R9 := Lib.hid (RY.other HQ4.out n9 HQ.out)
  have K9 := Lib.hid (KQ4.out.own n9 (Nat.le_refl _))
  have RW9 := Lib.hid (HR4.out.kept1 n9 HZ4.out (by decide) (by decide))
  clear n9 hW4
  go_wp2
  generalize World.setCell (World.setCell (World.setCell (w3.setCell ⟨q, 2, none⟩ (.int .i64 F)) ⟨w.heap.size, 0, none⟩ (.string zk)) ⟨w.heap.size, 1, none⟩ (.int .i64 zg)) ⟨w.heap.size, 2, none⟩ (.slice zA zL.length zc) = w9 at m9 K9 R9 RW9 ⊢
  clear z0 z1 z2 y0 y1 y2 k0 k1 k2
  have q0 := cell_at (i := 0) m9 rfl
  have q1 := cell_at (i := 1) m9 rfl
  have q2 := cell_at (i := 2) m9 rfl
  refine bodyPost_ret (v := .agg #[.string zk, .int .i64 zg, .slice zA zL.length zc]) ?_ rfl ?_
  · simp [results, Tryz.results101, go_sem, q0, q1, q2]
  · exact ⟨⟨zk, zg, zL, zA, zc⟩, j, F, rfl, RW9.out, HJ.out, R9.out, K9.out, HW.out⟩
end Go.Proofs.YthfanonjokpflaaGreat
set_option linter.unusedVariables false
set_option linter.unusedSimpArgs false
namespace Go.Proofs.YthfanonjokpflaaGreat
open Go Go.RowKit

theorem lies_nil (w : World) (B : Nat) : Lies w B none 0 0 [] := ⟨RdR.nil _ _ _, fun x hx => (by cases hx), Nat.le_refl _⟩
def bt0 : BA := ⟨none, 0, [], none, 0, [], none, 0, []⟩
theorem bt0_lies (w : World) (B : Nat) : LiesB w B bt0 := ⟨⟨⟨rfl, fun h => absurd h (by simp [bt0])⟩, fun x hx => (by cases hx), Nat.le_refl _⟩, ⟨rfl, fun h => absurd h (by simp [bt0])⟩, ⟨rfl, fun h => absurd h (by simp [bt0])⟩, Nat.le_refl _, Nat.le_refl _⟩
theorem bt0_few : BtF bt0 := ⟨fun y hy => (by cases hy), fun y hy => (by cases hy), by simp [bt0], by simp [bt0], by simp [bt0]⟩
theorem put_a : putPart ⟨⟨#[97]⟩, 0, ros []⟩ = .ok [1, 1, 97, 0, 0] := by kernel_rfl
theorem bt0_ok : bt0.bt.ok = true := by rfl
set_option maxHeartbeats 1000000 in
theorem awake9_any (w : World) : Calls Tryz.prog 6 #[] w fun x w' => x = .returned (.bool true) ∧ Below w.heap.size w w' := by
  have N := pack_part ⟨#[97]⟩ 0 none 0 0 0 [] w (lies_nil _ _) (Nat.zero_le _) (by omega) (fun x hx => by cases hx)
  rw [put_a] at N
  have HN := Lib.hid N
  clear N
  go_enter Tryz.func6, Tryz.ntmps6
  go_wp2_with fail
  refine (HN.out).mono ?_
  rintro e w1 ⟨A, n, c, rfl, h1, h2, h3, h4, h5, h6⟩
  obtain ⟨_, _, e, _, _, _, hrd⟩ := Rd.of_own h5
  injection e with e1 e2 e3
  subst e1; subst e3
  have hcv := cv_string hrd c
  have B1 := Lib.hid h6
  clear h1 h2 h3 h4 h5 h6 hrd
  have hcv : (convert 33 9 (.slice A n c)).run Tryz.prog w1 = .ok (.string ⟨#[1, 1, 97, 0, 0]⟩) w1 := hcv
  go_wp2_with fail
  refine (checkBatch_any bt0 0 w1 (bt0_lies _ _) (Nat.zero_le _) bt0_few).mono ?_
  rintro e w2 ⟨rfl, b2⟩
  rw [bt0_ok]
  have B2 := Lib.hid (next B1.out b2)
  clear b2 hcv
  go_wp2
  go_ret
  exact ⟨rfl, B2.out⟩
end Go.Proofs.YthfanonjokpflaaGreat
set_option linter.unusedVariables false
set_option linter.unusedSimpArgs false
namespace Go.Proofs.YthfanonjokpflaaGreat
open Go Go.RowKit

theorem fewR_eq {L M : List RA} (h : ros M = ros L) (hf : FewR L) : FewR M := fun x hx => by
  have h4 : x.ro ∈ ros L := by rw [← h]; exact List.mem_map.2 ⟨x, hx, rfl⟩
  obtain ⟨r', hr', hrr⟩ := List.mem_map.1 h4
  have h5 := hf r' hr'
  rw [hrr] at h5
  exact h5
theorem len_eq {L M : List RA} (h : ros M = ros L) : M.length = L.length := by have := congrArg List.length h; rwa [List.length_map, List.length_map] at this
theorem btF_eq {y z : BA} (he : y.bt = z.bt) (h : BtF z) : BtF y := by
  have e1 : muts y.M = muts z.M := congrArg Bt.muts he
  have e2 : y.N = z.N := congrArg Bt.add he
  have e3 : y.D = z.D := congrArg Bt.drop he
  have l1 : y.M.length = z.M.length := by have := congrArg List.length e1; simpa using this
  refine ⟨fun m hm => ?_, by rw [e2]; exact h.notes, by rw [l1]; exact h.lm, by rw [e2]; exact h.ln, by rw [e3]; exact h.ld⟩
  have h1 : mutOf m ∈ muts z.M := by rw [← e1]; exact List.mem_map.2 ⟨m, hm, rfl⟩
  obtain ⟨m', hm', hmm⟩ := List.mem_map.1 h1
  have h2 := h.muts m' hm'
  have h3 : ros m.p.L = ros m'.p.L := (congrArg (fun p : ByteArray × Pa => p.2.rows) hmm).symm
  have h4 : m'.tb = m.tb := congrArg Prod.fst hmm
  exact ⟨by rw [← h4]; exact h2.1, by rw [len_eq h3]; exact h2.2.1, fewR_eq h3 h2.2.2⟩
theorem muC_few {z : BA} (h : FewBt z) : ∀ y ∈ z.M, MuC y := fun y hy => by
  have h2 := fewR_of (h.muts y hy).2
  exact ⟨by have := h2.2.1; omega, h2.2.2⟩
set_option maxRecDepth 8000 in
set_option maxHeartbeats 16000000 in
theorem pkall_law (k : ByteArray) (g : Int) (A : Option Addr) (n c : Nat) (L : List RA) (z : BA) (s : ByteArray) (w : World) (hr : Lies w w.heap.size A n c L) (hz : LiesB w w.heap.size z) (hss : s.size ≤ maxLen) :
    Calls Tryz.prog 3 #[.agg #[.string k, .int .i64 g, .slice A n c], bV z, .string s] w fun e w' => e = .returned (.bool true) ∧ Below w.heap.size w w' := by
  have bz := (Below.refl w.heap.size w).alloc (Nat.le_refl _) (.cells #[.string k, .int .i64 g, .slice A n c] 24)
  have hp := heap_alloc_new w (.cells #[.string k, .int .i64 g, .slice A n c] 24)
  obtain ⟨V1, hV1⟩ : ∃ V, V = w.alloc (.cells #[.string k, .int .i64 g, .slice A n c] 24) := ⟨_, rfl⟩
  rw [← hV1] at bz hp
  have hs1 : V1.heap.size = w.heap.size + 1 := by rw [hV1]; simp
  have bz2 := (Below.refl V1.heap.size V1).alloc (Nat.le_refl _) (bO z)
  have hx := heap_alloc_new V1 (bO z)
  have hp2 := at_newQ hp (bO z)
  obtain ⟨V2, hV2⟩ : ∃ V, V = V1.alloc (bO z) := ⟨_, rfl⟩
  rw [← hV2] at bz2 hx hp2
  rw [hs1] at hx
  have hs2 : V2.heap.size = w.heap.size + 1 + 1 := by rw [hV2, ← hs1]; simp
  have hb2 : Below w.heap.size w V2 := next bz bz2
  have hev : Ever V2 (fun w' => (w'.cell? ⟨w.heap.size, 0, none⟩ = some (.string k) ∧ w'.cell? ⟨w.heap.size, 1, none⟩ = some (.int .i64 g) ∧ w'.cell? ⟨w.heap.size, 2, none⟩ = some (.slice A n c)) ∧ (w'.cell? ⟨w.heap.size + 1, 0, none⟩ = some (.slice z.AM z.M.length z.cM) ∧ w'.cell? ⟨w.heap.size + 1, 1, none⟩ = some (.slice z.AN z.N.length z.cN) ∧ w'.cell? ⟨w.heap.size + 1, 2, none⟩ = some (.slice z.AD z.D.length z.cD)) ∧ Lies w' w.heap.size A n c L ∧ LiesB w' w.heap.size z ∧ w.heap.size ≤ w'.heap.size) := fun w' hb => by
    have h1 := (hb.block w.heap.size (by omega)).trans hp2
    have h2 := (hb.block (w.heap.size + 1) (by omega)).trans hx
    have h3 := hb2.trans (hb.mono hb2.size)
    exact ⟨⟨cell_at h1 rfl, cell_at h1 rfl, cell_at h1 rfl⟩, ⟨cell_at h2 rfl, cell_at h2 rfl, cell_at h2 rfl⟩, hr.below h3, hz.below h3, h3.size⟩
  have N0 := fewpart_any k g A n c w.heap.size 30 L V2 (hr.below hb2) hb2.size (by omega)
  obtain ⟨u1, hu1⟩ : ∃ u, fewPB k 30 (ros L) = u := ⟨_, rfl⟩
  rw [hu1] at N0
  have HEV := Lib.hid hev; have HB2 := Lib.hid hb2; have HN0 := Lib.hid N0; have U1 := Lib.hid hu1; have HSS := Lib.hid hss; have HL := Lib.hid hr.len
  obtain ⟨⟨q0, q1, q2⟩, _⟩ := hev.now
  clear bz hp bz2 hx hp2 hs1 hs2 hb2 N0 hu1 hr hz hss hev
  go_enter Tryz.func3, Tryz.ntmps3
  go_wp2_with fail
  try unfold bO at hV2
  rw [← hV1, ← hV2]
  clear hV1 hV2
  refine HN0.out.mono ?_
  rintro e w1 ⟨rfl, b1⟩
  have B1 := Lib.hid b1
  clear b1 q0 q1 q2
  cases u1 with
  | false =>
    go_wp2_with fail
    refine (awake9_any _).mono ?_
    rintro e wz ⟨rfl, bz⟩
    have BZ9 := Lib.hid (next (next HB2.out B1.out) bz)
    clear bz
    go_wp2
    go_ret
    exact ⟨rfl, BZ9.out⟩
  | true =>
    obtain ⟨hfr, hfl, hfc⟩ := fewR_of U1.out
    have HFR := Lib.hid hfr; have HFL := Lib.hid (show n ≤ 30 by have := HL.out; omega); have HFC := Lib.hid hfc
    obtain ⟨_, ⟨x0, x1, x2⟩, _, hzl, hzs⟩ := HEV.out _ B1.out
    have N1 := few_batch z w.heap.size w1 hzl hzs
    have HN1 := Lib.hid N1
    clear hfr hfl hfc N1 hzl hzs
    go_wp2_with fail
    refine HN1.out.mono ?_
    rintro e w2 ⟨u2, rfl, hu2, b2⟩
    have B2 := Lib.hid (next B1.out b2)
    have U2 := Lib.hid hu2
    clear b2 hu2 x0 x1 x2
    cases u2 with
    | false =>
      go_wp2_with fail
      refine (awake9_any _).mono ?_
      rintro e wz ⟨rfl, bz⟩
      have BZ9 := Lib.hid (next (next HB2.out B2.out) bz)
      clear bz
      go_wp2
      go_ret
      exact ⟨rfl, BZ9.out⟩
    | true =>
      have HFB := Lib.hid (U2.out rfl)
      by_cases hs3 : s.size ≤ 3000
      · have d1 : decide ((3000 : Int) < (s.size : Int)) = false := decide_eq_false (by omega)
        have d2 : decide (3000 < s.size) = false := decide_eq_false (by omega)
        have HS3 := Lib.hid hs3
        have E0 := Lib.hid (HEV.out.on B2.out)
        have HBF := Lib.hid (btF_few HFB.out)
        clear hs3
        -- region 3
        obtain ⟨⟨p0, p1, p2⟩, _, hpl, _, hps⟩ := E0.out.now
        have N3 := lpart_any k g A n c w.heap.size L w2 hpl hps (by have := HFL.out; omega) HFC.out
        have HN3 := Lib.hid N3
        clear hpl hps N3
        go_wp2_with fail
        refine HN3.out.mono ?_
        rintro e w3 ⟨M3, A3, n3, c3, rfl, hM3, hfr3⟩
        obtain ⟨rfl, hl3, _⟩ := hfr3.lies
        have B3 := Lib.hid (next B2.out hfr3.below)
        have E3 := Lib.hid (E0.out.on hfr3.below)
        have N4 := pack_part k g A3 M3.length c3 w3.heap.size M3 w3 hl3 (Nat.le_refl _) (by have := len_eq hM3; have := HFL.out; have := HL.out; omega) (fewR_eq hM3 HFR.out)
        rw [hM3] at N4
        have HN4 := Lib.hid N4
        clear hM3 hfr3 hl3 N4 p0 p1 p2 E0
        go_wp2_with fail
        refine HN4.out.mono ?_
        intro e w4 hg4
        obtain ⟨A4, n4, c4, rfl, hrd4, b4⟩ := hg4.all
        obtain ⟨E1, hE1⟩ : ∃ e, codeR (putPart ⟨k, g, ros L⟩) = e := ⟨_, rfl⟩
        obtain ⟨T1, hT1⟩ : ∃ T, bs (bytesR (putPart ⟨k, g, ros L⟩)) = T := ⟨_, rfl⟩
        have hc1 : Ever w4 (fun w' => (convert 33 9 (.slice A4 n4 c4)).run Tryz.prog w' = .ok (.string T1) w') := fun w' hb => by
          have h := cv_string (hrd4.below hb) c4
          rw [← hT1]
          exact h
        rw [hE1]
        have C1 := Lib.hid hc1; have HE1 := Lib.hid hE1; have HT1 := Lib.hid hT1
        have B4 := Lib.hid (next B3.out b4); have E4 := Lib.hid (E3.out.on b4)
        clear hg4 hrd4 b4 hE1 hT1 hc1 E3 B3
        -- region 4
        obtain ⟨⟨p0, p1, p2⟩, _, hpl, _, hps⟩ := E4.out.now
        have N5 := rpart9 k g A n c w.heap.size L w4 hpl hps (by have := HFL.out; omega) HFR.out
        have HN5 := Lib.hid N5
        clear hpl hps N5
        go_wp2_with fail
        refine HN5.out.mono ?_
        intro e w5 hg5
        obtain ⟨rfl, b5⟩ := hg5.all
        rw [HE1.out, HT1.out]
        have B5 := Lib.hid (next B4.out b5); have E5 := Lib.hid (E4.out.on b5); have C1 := Lib.hid (C1.out.on b5)
        clear hg5 b5 p0 p1 p2 E4 B4
        -- region 5
        obtain ⟨_, ⟨p0, p1, p2⟩, _, hpl, hps⟩ := E5.out.now
        have N6 := lbatch z w.heap.size w5 hpl hps (muC_few HFB.out) (by have := HFB.out.lm; omega) (by have := HFB.out.ln; omega) (by have := HFB.out.ld; omega)
        have HN6 := Lib.hid N6
        clear hpl hps N6
        go_wp2_with fail
        refine HN6.out.mono ?_
        rintro e w6 ⟨y6, rfl, hy6, hq6, b6⟩
        have N7 := pack_batch y6 w6.heap.size w6 hq6.lies (Nat.le_refl _) (btF_eq hy6 HBF.out)
        rw [hy6] at N7
        have HN7 := Lib.hid N7
        have B6 := Lib.hid (next B5.out b6); have E6 := Lib.hid (E5.out.on b6); have C1 := Lib.hid (C1.out.on b6)
        clear hy6 hq6 b6 N7 p0 p1 p2 E5 B5
        go_wp2_with fail
        refine HN7.out.mono ?_
        intro e w7 hg7
        obtain ⟨A7, n7, c7, rfl, hrd7, b7⟩ := hg7.all
        obtain ⟨E2, hE2⟩ : ∃ e, codeR (putBatch z.bt) = e := ⟨_, rfl⟩
        obtain ⟨T2, hT2⟩ : ∃ T, bs (bytesR (putBatch z.bt)) = T := ⟨_, rfl⟩
        have hc2 : Ever w7 (fun w' => (convert 33 9 (.slice A7 n7 c7)).run Tryz.prog w' = .ok (.string T2) w') := fun w' hb => by
          have h := cv_string (hrd7.below hb) c7
          rw [← hT2]
          exact h
        rw [hE2]
        have C2 := Lib.hid hc2; have HE2 := Lib.hid hE2; have HT2 := Lib.hid hT2
        have B7 := Lib.hid (next B6.out b7); have E7 := Lib.hid (E6.out.on b7); have C1 := Lib.hid (C1.out.on b7)
        clear hg7 hrd7 b7 hE2 hT2 hc2 E6 B6
        -- region 6
        obtain ⟨_, ⟨p0, p1, p2⟩, _, hpl, hps⟩ := E7.out.now
        have N8 := rbatch9 z w.heap.size w7 hpl hps HBF.out
        have HN8 := Lib.hid N8
        clear hpl hps N8
        go_wp2_with fail
        refine HN8.out.mono ?_
        intro e w8 hg8
        obtain ⟨rfl, b8⟩ := hg8.all
        rw [HE2.out, HT2.out]
        have B8 := Lib.hid (next B7.out b8); have E8 := Lib.hid (E7.out.on b8); have C1 := Lib.hid (C1.out.on b8); have C2 := Lib.hid (C2.out.on b8)
        clear hg8 b8 p0 p1 p2 E7 B7
        -- region 7
        obtain ⟨j1, hcv, hc4, hc5, hrd, hsz⟩ := conv_bytes w8 s HSS.out
        have hbc := conv_below w8 5 s
        obtain ⟨X8, hX8⟩ : ∃ W, W = Lib.bytesWorld w8 5 s := ⟨_, rfl⟩
        rw [← hX8] at hcv hrd hsz hbc
        have N9 := getPart_any (some ⟨w8.heap.size, 0, none⟩) s.size j1 (w8.heap.size + 1) s.data.toList X8 hrd (by omega) hc4 hc5 (fun h => by cases h)
        have HN9 := Lib.hid N9; have B9 := Lib.hid (next B8.out hbc); have E9 := Lib.hid (E8.out.on hbc); have C1 := Lib.hid (C1.out.on hbc); have C2 := Lib.hid (C2.out.on hbc)
        clear hX8 hc4 hc5 hrd hsz hbc N9 E8 B8
        go_wp2_with fail
        clear hcv
        refine HN9.out.mono ?_
        intro e w9 hg9
        obtain ⟨⟨zk, zg, zL, zA, zc⟩, rfl, hze, hzq, b9⟩ := hg9.all
        dsimp only at hze hzq
        obtain ⟨E3, hE3⟩ : ∃ e, codeR (getPart s.data.toList) = e := ⟨_, rfl⟩
        rw [hE3]
        have F1 := Lib.hid (partR_few (z := ⟨zk, zg, zL, zA, zc⟩) hze)
        have HZE := Lib.hid hze; have HE3 := Lib.hid hE3
        have ba := (Below.refl w9.heap.size w9).alloc (Nat.le_refl _) (.cells #[.string zk, .int .i64 zg, .slice zA zL.length zc] 24)
        have hn := heap_alloc_new w9 (.cells #[.string zk, .int .i64 zg, .slice zA zL.length zc] 24)
        have hlz := (hzq.on ba).lies
        obtain ⟨Y1, hY1⟩ : ∃ W, W = w9.alloc (.cells #[.string zk, .int .i64 zg, .slice zA zL.length zc] 24) := ⟨_, rfl⟩
        rw [← hY1] at ba hn hlz
        have hk1 : Ever Y1 (fun w' => (w'.cell? ⟨w9.heap.size, 0, none⟩ = some (.string zk) ∧ w'.cell? ⟨w9.heap.size, 1, none⟩ = some (.int .i64 zg) ∧ w'.cell? ⟨w9.heap.size, 2, none⟩ = some (.slice zA zL.length zc)) ∧ Lies w' Y1.heap.size zA zL.length zc zL ∧ Y1.heap.size ≤ w'.heap.size) := fun w' hb => by
          have h1 := (hb.block _ (Array.getElem?_eq_some_iff.1 hn).1).trans hn
          exact ⟨⟨cell_at h1 rfl, cell_at h1 rfl, cell_at h1 rfl⟩, hlz.below hb, hb.size⟩
        have K1 := Lib.hid hk1
        have b9' := next b9 ba
        have B10 := Lib.hid (next B9.out b9'); have E10 := Lib.hid (E9.out.on b9'); have C1 := Lib.hid (C1.out.on b9'); have C2 := Lib.hid (C2.out.on b9')
        have N10 := rgetpart9 s Y1 HS3.out
        have HN10 := Lib.hid N10
        clear hg9 b9 b9' ba hn hlz hk1 hze hzq hE3 N10 E9 B9
        go_wp2_with fail
        rw [← hY1]
        clear hY1
        -- region 8
        refine HN10.out.mono ?_
        intro e w10 hg10
        obtain ⟨⟨yk, yg, yL, yA, yc⟩, rfl, hye, hyq, b10⟩ := hg10.all
        dsimp only at hye hyq
        rw [HE3.out]
        have F2 := Lib.hid (partR_few (z := ⟨yk, yg, yL, yA, yc⟩) hye)
        have hps : psame zk zg (ros zL) yk yg (ros yL) = true := by
          have h := HZE.out.trans hye.symm
          injection h with h1 h2 h3
          exact psame_iff.2 ⟨h1, h2, h3⟩
        have PS := Lib.hid hps
        have ba := (Below.refl w10.heap.size w10).alloc (Nat.le_refl _) (.cells #[.string yk, .int .i64 yg, .slice yA yL.length yc] 24)
        have hn := heap_alloc_new w10 (.cells #[.string yk, .int .i64 yg, .slice yA yL.length yc] 24)
        have hlz := (hyq.on ba).lies
        obtain ⟨Y2, hY2⟩ : ∃ W, W = w10.alloc (.cells #[.string yk, .int .i64 yg, .slice yA yL.length yc] 24) := ⟨_, rfl⟩
        rw [← hY2] at ba hn hlz
        have hk1 : Ever Y2 (fun w' => (w'.cell? ⟨w10.heap.size, 0, none⟩ = some (.string yk) ∧ w'.cell? ⟨w10.heap.size, 1, none⟩ = some (.int .i64 yg) ∧ w'.cell? ⟨w10.heap.size, 2, none⟩ = some (.slice yA yL.length yc)) ∧ Lies w' Y2.heap.size yA yL.length yc yL ∧ Y2.heap.size ≤ w'.heap.size) := fun w' hb => by
          have h1 := (hb.block _ (Array.getElem?_eq_some_iff.1 hn).1).trans hn
          exact ⟨⟨cell_at h1 rfl, cell_at h1 rfl, cell_at h1 rfl⟩, hlz.below hb, hb.size⟩
        have K2 := Lib.hid hk1
        have b9' := next b10 ba
        have B11 := Lib.hid (next B10.out b9'); have E11 := Lib.hid (E10.out.on b9'); have C1 := Lib.hid (C1.out.on b9'); have C2 := Lib.hid (C2.out.on b9'); have K1 := Lib.hid (K1.out.on b9')
        clear hg10 b10 b9' ba hn hlz hk1 hye hyq hps HZE E10 B10
        -- region 9
        obtain ⟨j2, hcv, hc4, hc5, hrd, hsz⟩ := conv_bytes Y2 s HSS.out
        have hbc := conv_below Y2 5 s
        obtain ⟨X9, hX9⟩ : ∃ W, W = Lib.bytesWorld Y2 5 s := ⟨_, rfl⟩
        rw [← hX9] at hcv hrd hsz hbc
        have N11 := getBatch_any yinner (some ⟨Y2.heap.size, 0, none⟩) s.size j2 (Y2.heap.size + 1) s.data.toList X9 hrd (by omega) hc4 hc5 (fun h => by cases h)
        have HN11 := Lib.hid N11; have B12 := Lib.hid (next B11.out hbc); have E12 := Lib.hid (E11.out.on hbc); have C1 := Lib.hid (C1.out.on hbc); have C2 := Lib.hid (C2.out.on hbc); have K1 := Lib.hid (K1.out.on hbc); have K2 := Lib.hid (K2.out.on hbc)
        clear hX9 hc4 hc5 hrd hsz hbc N11 E11 B11
        have hcv' : (convert 9 33 (.string s)).run Tryz.prog (w10.alloc (.cells #[.string yk, .int .i64 yg, .slice yA yL.length yc] 24)) = .ok (.slice (some ⟨Y2.heap.size, 0, none⟩) s.size j2) X9 := by rw [← hY2]; exact hcv
        clear hcv hY2
        go_wp2_with fail
        clear hcv'
        refine HN11.out.mono ?_
        intro e w11 hg11
        obtain ⟨z3, rfl, hze, hzq, b11⟩ := hg11.all
        obtain ⟨E4, hE4⟩ : ∃ e, codeR (getBatch s.data.toList) = e := ⟨_, rfl⟩
        rw [hE4]
        have F3 := Lib.hid (batR_c hze); have HZE := Lib.hid hze; have HE4 := Lib.hid hE4
        have ba := (Below.refl w11.heap.size w11).alloc (Nat.le_refl _) (.cells #[.slice z3.AM z3.M.length z3.cM, .slice z3.AN z3.N.length z3.cN, .slice z3.AD z3.D.length z3.cD] 29)
        have hn := heap_alloc_new w11 (.cells #[.slice z3.AM z3.M.length z3.cM, .slice z3.AN z3.N.length z3.cN, .slice z3.AD z3.D.length z3.cD] 29)
        have hlz := (hzq.on ba).lies
        obtain ⟨Y3, hY3⟩ : ∃ W, W = w11.alloc (.cells #[.slice z3.AM z3.M.length z3.cM, .slice z3.AN z3.N.length z3.cN, .slice z3.AD z3.D.length z3.cD] 29) := ⟨_, rfl⟩
        rw [← hY3] at ba hn hlz
        have hk1 : Ever Y3 (fun w' => (w'.cell? ⟨w11.heap.size, 0, none⟩ = some (.slice z3.AM z3.M.length z3.cM) ∧ w'.cell? ⟨w11.heap.size, 1, none⟩ = some (.slice z3.AN z3.N.length z3.cN) ∧ w'.cell? ⟨w11.heap.size, 2, none⟩ = some (.slice z3.AD z3.D.length z3.cD)) ∧ LiesB w' Y3.heap.size z3 ∧ Y3.heap.size ≤ w'.heap.size) := fun w' hb => by
          have h1 := (hb.block _ (Array.getElem?_eq_some_iff.1 hn).1).trans hn
          exact ⟨⟨cell_at h1 rfl, cell_at h1 rfl, cell_at h1 rfl⟩, hlz.below hb, hb.size⟩
        have K3 := Lib.hid hk1
        have b9' := next b11 ba
        have B13 := Lib.hid (next B12.out b9'); have E13 := Lib.hid (E12.out.on b9'); have C1 := Lib.hid (C1.out.on b9'); have C2 := Lib.hid (C2.out.on b9'); have K1 := Lib.hid (K1.out.on b9'); have K2 := Lib.hid (K2.out.on b9')
        have N12 := rgetbatch9 s Y3 HS3.out
        have HN12 := Lib.hid N12
        clear hg11 b11 b9' ba hn hlz hk1 hze hzq hE4 N12 E12 B12
        go_wp2_with fail
        rw [← hY3]
        clear hY3
        -- region 10
        refine HN12.out.mono ?_
        intro e w12 hg12
        obtain ⟨z4, rfl, hye, hyq, b12⟩ := hg12.all
        rw [HE4.out]
        have F4 := Lib.hid (batR_c hye); have HBE := Lib.hid (HZE.out.trans hye.symm)
        have ba := (Below.refl w12.heap.size w12).alloc (Nat.le_refl _) (.cells #[.slice z4.AM z4.M.length z4.cM, .slice z4.AN z4.N.length z4.cN, .slice z4.AD z4.D.length z4.cD] 29)
        have hn := heap_alloc_new w12 (.cells #[.slice z4.AM z4.M.length z4.cM, .slice z4.AN z4.N.length z4.cN, .slice z4.AD z4.D.length z4.cD] 29)
        have hlz := (hyq.on ba).lies
        obtain ⟨W9, hW9⟩ : ∃ W, W = w12.alloc (.cells #[.slice z4.AM z4.M.length z4.cM, .slice z4.AN z4.N.length z4.cN, .slice z4.AD z4.D.length z4.cD] 29) := ⟨_, rfl⟩
        rw [← hW9] at ba hn hlz
        have hk1 : Ever W9 (fun w' => (w'.cell? ⟨w12.heap.size, 0, none⟩ = some (.slice z4.AM z4.M.length z4.cM) ∧ w'.cell? ⟨w12.heap.size, 1, none⟩ = some (.slice z4.AN z4.N.length z4.cN) ∧ w'.cell? ⟨w12.heap.size, 2, none⟩ = some (.slice z4.AD z4.D.length z4.cD)) ∧ LiesB w' W9.heap.size z4 ∧ W9.heap.size ≤ w'.heap.size) := fun w' hb => by
          have h1 := (hb.block _ (Array.getElem?_eq_some_iff.1 hn).1).trans hn
          exact ⟨⟨cell_at h1 rfl, cell_at h1 rfl, cell_at h1 rfl⟩, hlz.below hb, hb.size⟩
        have K4 := Lib.hid hk1
        have b9' := next b12 ba
        have B14 := Lib.hid (next B13.out b9'); have E0 := Lib.hid (E13.out.on b9'); have C1 := Lib.hid (C1.out.on b9'); have C2 := Lib.hid (C2.out.on b9'); have K1 := Lib.hid (K1.out.on b9'); have K2 := Lib.hid (K2.out.on b9'); have K3 := Lib.hid (K3.out.on b9')
        obtain ⟨ub, hub⟩ : ∃ u, z.bt.ok = u := ⟨_, rfl⟩
        have UB := Lib.hid hub
        clear hg12 b12 b9' ba hn hlz hk1 hye hyq E13 B13 HZE hub
        go_wp2_with fail
        rw [← hW9]
        clear hW9
        go_wp2_with fail
        try simp only [List.append_eq, List.cons_append, List.nil_append]
        refine wp_region_held_drew (S := fun w' => Below W9.heap.size W9 w') (by kernel_rfl) ?_ (fun hHeld => ?_)
        · exact (Below.refl _ _).drew
        refine takesH [0, 1, 2, 3, 4, 5, 6, 7, 8, 9, 10, 11, 12, 13, 14, 15, 16, 17, 18, 19, 20, 21, 22] ?_
        repeat
          refine takesH_one (v := ?_) ?_ ?_
          rotate_left
          · first | (refine Or.inr ⟨by rfl, ?_⟩; with_reducible rfl) | (refine Or.inl ⟨by rfl, ?_⟩; intro wx hSw; (try dsimp only at hSw); first | (go_simp; first | done | with_reducible rfl) | (have cv1 := C1.out _ hSw; dsimp only at cv1; go_simp; first | done | with_reducible rfl) | (have cv2 := C2.out _ hSw; dsimp only at cv2; go_simp; first | done | with_reducible rfl) | (obtain ⟨⟨_, _, _⟩, _⟩ := K1.out _ hSw; go_simp; first | done | with_reducible rfl) | (obtain ⟨⟨_, _, _⟩, _⟩ := K2.out _ hSw; go_simp; first | done | with_reducible rfl))
          try simp only [Act.put, List.getElem_toArray, List.getElem_cons_succ, List.getElem_cons_zero, List.setIfInBounds_toArray, List.set_cons_zero, List.set_cons_succ]
        refine takesH_nil ?_
        refine wpAnyH_ready (rs := [23]) (by kernel_rfl) (by simp) (AllReadyH.cons rfl (fun K hK => ?_) AllReadyH.nil)
        go_simp
        obtain ⟨_, l1, s1⟩ := K1.out _ hHeld
        obtain ⟨_, l2, s2⟩ := K2.out _ hHeld
        refine (rpsame_any zk yk zg yg zA yA zL.length yL.length zc yc _ _ zL yL _ l1 l2 s1 s2 F1.out.1 F2.out.1 F1.out.2 F2.out.2).mono ?_
        rintro e' q1 ⟨rfl, b1⟩
        rw [PS.out]
        clear l1 l2 s1 s2
        try go_wp2_with fail
        refine hK.out _ _ ?_ (fun hHeld => ?_)
        · exact next hHeld b1
        clear hK K
        try simp only [Act.put, List.getElem_toArray, List.getElem_cons_succ, List.getElem_cons_zero, List.setIfInBounds_toArray, List.set_cons_zero, List.set_cons_succ]
        refine takesH [24, 25, 26, 27, 28, 29, 30, 31, 32] ?_
        repeat
          refine takesH_one (v := ?_) ?_ ?_
          rotate_left
          · first | (refine Or.inr ⟨by rfl, ?_⟩; with_reducible rfl) | (refine Or.inl ⟨by rfl, ?_⟩; intro wx hSw; (try dsimp only at hSw); first | (go_simp; first | done | with_reducible rfl) | (obtain ⟨⟨_, _, _⟩, _⟩ := K3.out _ hSw; go_simp; first | done | with_reducible rfl) | (obtain ⟨⟨_, _, _⟩, _⟩ := K4.out _ hSw; go_simp; first | done | with_reducible rfl))
          try simp only [Act.put, List.getElem_toArray, List.getElem_cons_succ, List.getElem_cons_zero, List.setIfInBounds_toArray, List.set_cons_zero, List.set_cons_succ]
        refine takesH_nil ?_
        refine wpAnyH_ready (rs := [33]) (by kernel_rfl) (by simp) (AllReadyH.cons rfl (fun K hK => ?_) AllReadyH.nil)
        go_simp
        obtain ⟨_, l1, s1⟩ := K3.out _ hHeld
        obtain ⟨_, l2, s2⟩ := K4.out _ hHeld
        refine (same_batch z3 z4 _ _ _ l1 l2 s1 s2 F3.out F4.out HBE.out).mono ?_
        rintro e' q2 ⟨rfl, b1⟩
        clear l1 l2 s1 s2
        try go_wp2_with fail
        refine hK.out _ _ ?_ (fun hHeld => ?_)
        · exact next hHeld b1
        clear hK K
        try simp only [Act.put, List.getElem_toArray, List.getElem_cons_succ, List.getElem_cons_zero, List.setIfInBounds_toArray, List.set_cons_zero, List.set_cons_succ]
        refine takesH [34, 35, 36, 37, 38, 39, 40, 41, 43] ?_
        repeat
          refine takesH_one (v := ?_) ?_ ?_
          rotate_left
          · first | (refine Or.inr ⟨by rfl, ?_⟩; with_reducible rfl) | (refine Or.inl ⟨by rfl, ?_⟩; intro wx hSw; (try dsimp only at hSw); first | (go_simp; first | done | with_reducible rfl) | (obtain ⟨_, ⟨_, _, _⟩, _⟩ := E0.out _ hSw; go_simp; first | done | with_reducible rfl))
          try simp only [Act.put, List.getElem_toArray, List.getElem_cons_succ, List.getElem_cons_zero, List.setIfInBounds_toArray, List.set_cons_zero, List.set_cons_succ]
        refine takesH_nil ?_
        refine wpAnyH_ready (rs := [42]) (by kernel_rfl) (by simp) (AllReadyH.cons rfl (fun K hK => ?_) AllReadyH.nil)
        go_simp
        obtain ⟨_, _, _, l1, s1⟩ := E0.out _ hHeld
        refine (checkBatch_any z w.heap.size _ l1 s1 HBF.out).mono ?_
        rintro e' q3 ⟨rfl, b1⟩
        rw [UB.out]
        clear l1 s1
        try go_wp2_with fail
        refine hK.out _ _ ?_ (fun hHeld => ?_)
        · exact next hHeld b1
        clear hK K
        try simp only [Act.put, List.getElem_toArray, List.getElem_cons_succ, List.getElem_cons_zero, List.setIfInBounds_toArray, List.set_cons_zero, List.set_cons_succ]
        refine wpAnyH_ready (rs := [44]) (by kernel_rfl) (by simp) (AllReadyH.cons rfl (fun K hK => ?_) AllReadyH.nil)
        go_simp
        obtain ⟨_, _, _, l1, s1⟩ := E0.out _ hHeld
        refine (rcheckbatch z w.heap.size _ l1 s1 HBF.out).mono ?_
        rintro e' q4 ⟨rfl, b1⟩
        rw [UB.out]
        clear l1 s1
        try go_wp2_with fail
        refine hK.out _ _ ?_ (fun hHeld => ?_)
        · exact next hHeld b1
        clear hK K
        try simp only [Act.put, List.getElem_toArray, List.getElem_cons_succ, List.getElem_cons_zero, List.setIfInBounds_toArray, List.set_cons_zero, List.set_cons_succ]
        refine takesH [45, 46, 47] ?_
        repeat
          refine takesH_one (v := ?_) ?_ ?_
          rotate_left
          · first | (refine Or.inr ⟨by rfl, ?_⟩; with_reducible rfl) | (refine Or.inl ⟨by rfl, ?_⟩; intro wx hSw; (try dsimp only at hSw); first | (go_simp; first | done | with_reducible rfl))
          try simp only [Act.put, List.getElem_toArray, List.getElem_cons_succ, List.getElem_cons_zero, List.setIfInBounds_toArray, List.set_cons_zero, List.set_cons_succ]
        refine takesH_nil ?_
        refine wpAnyH_ready (rs := [48]) (by kernel_rfl) (by simp) (AllReadyH.cons rfl (fun K hK => ?_) AllReadyH.nil)
        go_simp
        refine (awake9_any _).mono ?_
        rintro e' q5 ⟨rfl, b1⟩
        try go_wp2_with fail
        refine hK.out _ _ ?_ (fun hHeld => ?_)
        · exact next hHeld b1
        clear hK K
        try simp only [Act.put, List.getElem_toArray, List.getElem_cons_succ, List.getElem_cons_zero, List.setIfInBounds_toArray, List.set_cons_zero, List.set_cons_succ]
        refine takesH [49, 50] ?_
        repeat
          refine takesH_one (v := ?_) ?_ ?_
          rotate_left
          · first | (refine Or.inr ⟨by rfl, ?_⟩; with_reducible rfl) | (refine Or.inl ⟨by rfl, ?_⟩; intro wx hSw; (try dsimp only at hSw); first | (go_simp; first | done | with_reducible rfl))
          try simp only [Act.put, List.getElem_toArray, List.getElem_cons_succ, List.getElem_cons_zero, List.setIfInBounds_toArray, List.set_cons_zero, List.set_cons_succ]
        refine takesH_nil ?_
        refine wpAnyH_done (by kernel_rfl) ?_ _
        have BZ9 := Lib.hid (next HB2.out (next B14.out hHeld))
        clear hHeld
        go_wp2
        go_ret
        exact ⟨rfl, BZ9.out⟩
      · have d1 : decide ((3000 : Int) < (s.size : Int)) = true := decide_eq_true (by omega)
        have d2 : decide (3000 < s.size) = true := decide_eq_true (by omega)
        clear hs3
        go_wp2_with fail
        refine (awake9_any _).mono ?_
        rintro e wz ⟨rfl, bz⟩
        have BZ9 := Lib.hid (next (next HB2.out B2.out) bz)
        clear bz
        go_wp2
        go_ret
        exact ⟨rfl, BZ9.out⟩
theorem pkall_lawZ (k : ByteArray) (g : Int) (A : Option Addr) (n c : Nat) (L : List RA) (z : BA) (s : ByteArray) (w : World) (hr : Lies w w.heap.size A n c L) (_ : c ≤ maxLen) (_ : A = none → c = 0) (_ : k.size ≤ maxLen) (_ : (Lit.int .i64 g).wf = true) (hz : LiesB w w.heap.size z) (_ : z.cM ≤ maxLen) (_ : ∀ y ∈ z.M, y.tb.size ≤ maxLen) (_ : ∀ y ∈ z.N, y.2.size ≤ maxLen) (hss : s.size ≤ maxLen) :
    Calls Tryz.prog 3 #[.agg #[.string k, .int .i64 g, .slice A n c], bV z, .string s] w fun e w' => e = .returned (.bool true) ∧ Below w.heap.size w w' :=
  pkall_law k g A n c L z s w hr hz hss
end Go.Proofs.YthfanonjokpflaaGreat
set_option linter.unusedVariables false
namespace Go.Proofs.YthfanonjokpflaaGreat
open Go Go.ChangeShapes Go.WideShapes Go.ChangeAt Go.RowKit

theorem trod_lt1 {H : Type} {enc : TypeId × Value → H} {P : Program} {w : World} {base : Nat} {sp : Nat → Bool} {held : Bool} {t : TypeId} {v : Value} {d : DataW H} {ps : List MemPlace} (h : DataW.Trod enc P w base sp held t v d ps) : ∀ p ∈ ps, p.block < w.heap.size := by
  obtain ⟨f, hf⟩ := h
  exact DataW.trod_lt f t _ _ hf
end Go.Proofs.YthfanonjokpflaaGreat
set_option linter.unusedVariables false
set_option linter.unusedSimpArgs false
namespace Go.Proofs.YthfanonjokpflaaGreat
open Go Go.ChangeShapes Go.WideShapes Go.ChangeAt Go.RowKit Go.Joins

theorem cellsRow : Tryz.prog.cellsOf 57 = 8 := by kernel_rfl
theorem cellsCol : Tryz.prog.cellsOf 99 = 5 := by kernel_rfl
theorem cellsCe : Tryz.prog.cellsOf 54 = 4 := by kernel_rfl
theorem cellsInt : Tryz.prog.cellsOf 3 = 1 := by kernel_rfl
theorem cellsBool : Tryz.prog.cellsOf 4 = 1 := by kernel_rfl
theorem cellsStr : Tryz.prog.cellsOf 9 = 1 := by kernel_rfl
theorem cellsSl : Tryz.prog.cellsOf 55 = 1 := by kernel_rfl
section
variable {H : Type} {enc : TypeId × Value → H} {W : World}
/-- A cell's four values. -/
theorem trod_ce {fuel : Nat} {x0 x1 x2 x3 : Value} {x : DataW H × List MemPlace} (h : DataW.trod enc Tryz.prog W 0 (fun _ => true) true fuel 54 [x0, x1, x2, x3] = some x) :
    ∃ c : Ce, x0 = .string c.s ∧ x1 = .bool c.d ∧ x2 = .int .i64 c.a ∧ x3 = .int .i64 c.e ∧ c.s.size ≤ maxLen ∧ (Lit.int .i64 c.a).wf = true ∧ (Lit.int .i64 c.e).wf = true := by
  obtain ⟨y0, y1, y2, y3, n, _, _, t0, t1, t2, t3⟩ := trod_struct4 Tryz.underlying54 h
  simp only [cellsInt, cellsBool, cellsStr] at t0 t1 t2 t3
  obtain ⟨s, e0, _, w0⟩ := DataW.trod_string Tryz.underlying9 t0
  obtain ⟨b, e1, _⟩ := DataW.trod_bool Tryz.underlying4 t1
  obtain ⟨a, e2, _, w2⟩ := DataW.trod_int Tryz.underlying3 t2
  obtain ⟨e, e3, _, w3⟩ := DataW.trod_int Tryz.underlying3 t3
  simp at e0 e1 e2 e3
  exact ⟨⟨s, b, a, e⟩, e0, e1, e2, e3, w0, w2, w3⟩
def ColOk (x : ByteArray × Ce) : Prop := x.1.size ≤ maxLen ∧ x.2.s.size ≤ maxLen ∧ (Lit.int .i64 x.2.a).wf = true ∧ (Lit.int .i64 x.2.e).wf = true
theorem trod_cols {fuel : Nat} {v : Value} {x : DataW H × List MemPlace} (h : DataW.trod enc Tryz.prog W 0 (fun _ => true) true fuel 55 [v] = some x) :
    ∃ A n c l, v = .slice A n c ∧ RdK W W.heap.size A n l ∧ n ≤ c ∧ c ≤ maxLen ∧ (A = none → c = 0) ∧ ∀ x ∈ l, ColOk x := by
  rcases Go.Deep.open_slice Tryz.underlying55 h with ⟨hcs, hx⟩ | ⟨a, len, cap, m, n, D, Pl, hcs, _, hl, hm, hmm, hx, hel⟩
  · simp at hcs
    subst hcs
    exact ⟨none, 0, 0, [], rfl, RdK.nil _ _ _, Nat.le_refl _, Nat.zero_le _, fun _ => rfl, fun x hx => by cases hx⟩
  · simp at hcs
    subst hcs
    simp only [if_true] at hmm
    have hmc : m = cap := hmm
    have hone : ∀ i, i < len → ∃ x : ByteArray × Ce, (∀ j u, (kcs x)[j]? = some u → W.cell? (a.add (i * 5 + j)) = some u) ∧ ColOk x := by
      intro i hi
      obtain ⟨cs', hc, ht⟩ := hel i (by omega)
      rw [cellsCol] at hc
      obtain ⟨_, hcl, hat⟩ := World.cells?_some hc
      match cs', hcl with
      | [x0, x1, x2, x3, x4], _ =>
        obtain ⟨y0, y1, n', _, _, t0, t1⟩ := trod_struct2 Tryz.underlying99 ht
        simp only [cellsCe, cellsStr] at t0 t1
        obtain ⟨s, e0, _, w0⟩ := DataW.trod_string Tryz.underlying9 t0
        simp at e0
        obtain ⟨c, e1, e2, e3, e4, w1, w2, w3⟩ := trod_ce (enc := enc) (W := W) t1
        refine ⟨(s, c), fun j u hu => ?_, w0, w1, w2, w3⟩
        have hj : j < 5 := by
          rcases Nat.lt_or_ge j 5 with h1 | h1
          · exact h1
          · rw [List.getElem?_eq_none (by simpa [kcs] using h1)] at hu; cases hu
        have := hat j hj
        rw [← Go.Deep.add_add, this, ← hu]
        unfold kcs
        rw [e0, e1, e2, e3, e4]
    let f : Nat → ByteArray × Ce := fun i => if h : i < len then (hone i h).choose else (⟨#[]⟩, noC)
    have hf' : ∀ i, i < len → (∀ j u, (kcs (f i))[j]? = some u → W.cell? (a.add (i * 5 + j)) = some u) ∧ ColOk (f i) := by
      intro i hi
      have := (hone i hi).choose_spec
      simp only [f, dif_pos hi]
      exact this
    refine ⟨some a, len, cap, (List.range len).map f, rfl, ⟨by simp, fun hn => ?_⟩, hl, hm, (fun h => by cases h), fun x hx => ?_⟩
    · have h0 := (hf' 0 hn).1 0 _ rfl
      have hs : a.spot = none := by simpa [Addr.add] using World.cell?_spot h0
      obtain ⟨g, o, sp⟩ := a
      simp only at hs
      subst hs
      refine ⟨g, o, rfl, World.block_lt_of_cell? W ⟨g, o, none⟩ (by simpa [Addr.add] using h0), fun j hj => ?_⟩
      have hj2 : j < len := by simpa using hj
      have q := (hf' j hj2).1
      have q0 := q 0 _ rfl
      have q1 := q 1 _ rfl
      have q2 := q 2 _ rfl
      have q3 := q 3 _ rfl
      have q4 := q 4 _ rfl
      simp only [Addr.add_lit, Nat.add_zero] at q0 q1 q2 q3 q4
      simp only [List.getElem_map, List.getElem_range]
      exact ⟨q0, by rw [Nat.add_assoc]; exact q1, by rw [Nat.add_assoc]; exact q2, by rw [Nat.add_assoc]; exact q3, by rw [Nat.add_assoc]; exact q4⟩
    · obtain ⟨i, hi, rfl⟩ := List.mem_map.1 hx
      exact (hf' i (List.mem_range.1 hi)).2
end
end Go.Proofs.YthfanonjokpflaaGreat
set_option linter.unusedVariables false
set_option linter.unusedSimpArgs false
namespace Go.Proofs.YthfanonjokpflaaGreat
open Go Go.ChangeShapes Go.WideShapes Go.ChangeAt Go.RowKit Go.Joins

theorem cellsPart : Tryz.prog.cellsOf 24 = 3 := by kernel_rfl
theorem cellsSlR : Tryz.prog.cellsOf 22 = 1 := by kernel_rfl
section
variable {H : Type} {enc : TypeId × Value → H} {W : World}
/-- A row's eight values. -/
theorem trod_row {fuel : Nat} {x0 x1 x2 x3 x4 x5 x6 x7 : Value} {x : DataW H × List MemPlace} (h : DataW.trod enc Tryz.prog W 0 (fun _ => true) true fuel 57 [x0, x1, x2, x3, x4, x5, x6, x7] = some x) :
    ∃ z : RA, racs z = [x0, x1, x2, x3, x4, x5, x6, x7] ∧ RaIn W W.heap.size z := by
  obtain ⟨ys, n', _, _, _, hyl, hfs⟩ := DataW.trod_struct Tryz.underlying57 h
  match ys, hyl with
  | [y0, y1, y2, y3, y4], _ =>
    have t0 := hfs 0 _ rfl
    have t1 := hfs 1 _ rfl
    have t2 := hfs 2 _ rfl
    have t3 := hfs 3 _ rfl
    have t4 := hfs 4 _ rfl
    obtain ⟨k, e0, _, w0⟩ := DataW.trod_string Tryz.underlying9 (x := y0) (by simpa [cellsStr] using t0)
    obtain ⟨c, e1, e2, e3, e4, w1, w2, w3⟩ := trod_ce (enc := enc) (W := W) (x := y1) (by simpa [cellsCe] using t1)
    obtain ⟨g, e5, _, w5⟩ := DataW.trod_int Tryz.underlying3 (x := y2) (by simpa [cellsInt] using t2)
    obtain ⟨hs, e6, _, w6⟩ := DataW.trod_int Tryz.underlying3 (x := y3) (by simpa [cellsInt] using t3)
    obtain ⟨A, n, cap, l, e7, hr, hn, hc, hA, hok⟩ := trod_cols (enc := enc) (W := W) (x := y4) (by simpa [cellsSl] using t4)
    simp at e0 e5 e6
    have el : l.length = n := hr.1
    subst el
    refine ⟨⟨⟨k, c, g, hs, l⟩, A, cap⟩, ?_, hr, hn⟩
    unfold racs
    rw [e0, e1, e2, e3, e4, e5, e6, e7]
/-- Rows in a slice. -/
theorem trod_rows {fuel : Nat} {v : Value} {x : DataW H × List MemPlace} (h : DataW.trod enc Tryz.prog W 0 (fun _ => true) true fuel 22 [v] = some x) :
    ∃ A n c L, v = .slice A n c ∧ Lies W W.heap.size A n c L ∧ c ≤ maxLen ∧ (A = none → c = 0) := by
  rcases Go.Deep.open_slice Tryz.underlying22 h with ⟨hcs, hx⟩ | ⟨a, len, cap, m, n, D, Pl, hcs, _, hl, hm, hmm, hx, hel⟩
  · simp at hcs
    subst hcs
    exact ⟨none, 0, 0, [], rfl, ⟨RdR.nil _ _ _, fun x hx => (by cases hx), Nat.le_refl _⟩, Nat.zero_le _, fun _ => rfl⟩
  · simp at hcs
    subst hcs
    simp only [if_true] at hmm
    have hmc : m = cap := hmm
    have hone : ∀ i, i < len → ∃ z : RA, (∀ j u, (racs z)[j]? = some u → W.cell? (a.add (i * 8 + j)) = some u) ∧ RaIn W W.heap.size z := by
      intro i hi
      obtain ⟨cs', hc, ht⟩ := hel i (by omega)
      rw [cellsRow] at hc
      obtain ⟨_, hcl, hat⟩ := World.cells?_some hc
      match cs', hcl with
      | [x0, x1, x2, x3, x4, x5, x6, x7], _ =>
        obtain ⟨z, hz, hin⟩ := trod_row (enc := enc) (W := W) ht
        refine ⟨z, fun j u hu => ?_, hin⟩
        have hj : j < 8 := by
          rcases Nat.lt_or_ge j 8 with h1 | h1
          · exact h1
          · rw [List.getElem?_eq_none (by simpa [racs] using h1)] at hu; cases hu
        have := hat j hj
        rw [← Go.Deep.add_add, this, ← hu, hz]
    let f : Nat → RA := fun i => if h : i < len then (hone i h).choose else zeroR
    have hf' : ∀ i, i < len → (∀ j u, (racs (f i))[j]? = some u → W.cell? (a.add (i * 8 + j)) = some u) ∧ RaIn W W.heap.size (f i) := by
      intro i hi
      have := (hone i hi).choose_spec
      simp only [f, dif_pos hi]
      exact this
    refine ⟨some a, len, cap, (List.range len).map f, rfl, ⟨⟨by simp, fun hn => ?_⟩, fun x hx => ?_, hl⟩, hm, fun h => by cases h⟩
    · have h0 := (hf' 0 hn).1 0 _ rfl
      have hs : a.spot = none := by simpa [Addr.add] using World.cell?_spot h0
      obtain ⟨g, o, sp⟩ := a
      simp only at hs
      subst hs
      refine ⟨g, o, rfl, World.block_lt_of_cell? W ⟨g, o, none⟩ (by simpa [Addr.add] using h0), fun j hj i u hu => ?_⟩
      have hj2 : j < len := by simpa using hj
      simp only [List.getElem_map, List.getElem_range] at hu
      have q := (hf' j hj2).1 i u hu
      simp only [Addr.add_lit] at q
      rw [Nat.add_assoc]
      exact q
    · obtain ⟨i, hi, rfl⟩ := List.mem_map.1 hx
      exact (hf' i (List.mem_range.1 hi)).2
set_option maxRecDepth 8000 in
theorem open_part {base : Nat} {v : Value} {d : DataW H} {p : List MemPlace} (hval : Value.okWide Tryz.prog W .any base 24 v) (h : DataW.Trod enc Tryz.prog W 0 (fun _ => true) true 24 v d p) :
    ∃ (k : ByteArray) (g : Int) (A : Option Addr) (n c : Nat) (L : List RA), v = .agg #[.string k, .int .i64 g, .slice A n c] ∧ Lies W W.heap.size A n c L ∧ c ≤ maxLen ∧ (A = none → c = 0) ∧ k.size ≤ maxLen ∧ (Lit.int .i64 g).wf = true := by
  obtain ⟨cs, rfl, hsz⟩ := okWide_struct Tryz.underlying24 hval
  rw [cellsPart] at hsz
  obtain ⟨l⟩ := cs
  match l, hsz with
  | [x0, x1, x2], _ =>
    obtain ⟨fuel, hf⟩ := h
    obtain ⟨ys, n', _, _, _, hyl, hfs⟩ := DataW.trod_struct Tryz.underlying24 hf
    match ys, hyl with
    | [y0, y1, y2], _ =>
      have t0 := hfs 0 _ rfl
      have t1 := hfs 1 _ rfl
      have t2 := hfs 2 _ rfl
      obtain ⟨k, e0, _, w0⟩ := DataW.trod_string Tryz.underlying9 (x := y0) (by simpa [cellsStr, Value.cells] using t0)
      obtain ⟨g, e1, _, w1⟩ := DataW.trod_int Tryz.underlying3 (x := y1) (by simpa [cellsInt, Value.cells] using t1)
      obtain ⟨A, n, c, L, e2, hl, hc, hA⟩ := trod_rows (enc := enc) (W := W) (x := y2) (by simpa [cellsSlR, Value.cells] using t2)
      simp at e0 e1
      subst e0; subst e1; subst e2
      exact ⟨k, g, A, n, c, L, rfl, hl, hc, hA, w0, w1⟩
end
end Go.Proofs.YthfanonjokpflaaGreat
set_option linter.unusedVariables false
set_option linter.unusedSimpArgs false
namespace Go.Proofs.YthfanonjokpflaaGreat
open Go Go.ChangeShapes Go.WideShapes Go.ChangeAt Go.RowKit Go.Joins

theorem cellsMut : Tryz.prog.cellsOf 91 = 4 := by kernel_rfl
theorem cellsNote : Tryz.prog.cellsOf 60 = 2 := by kernel_rfl
theorem cellsBatch : Tryz.prog.cellsOf 29 = 3 := by kernel_rfl
theorem cellsSlM : Tryz.prog.cellsOf 25 = 1 := by kernel_rfl
theorem cellsSlN : Tryz.prog.cellsOf 26 = 1 := by kernel_rfl
theorem cellsSlI : Tryz.prog.cellsOf 27 = 1 := by kernel_rfl
theorem cellsIntB : Tryz.prog.cellsOf 3 = 1 := by kernel_rfl
section
variable {H : Type} {enc : TypeId × Value → H} {W : World}
theorem trod_partB {fuel : Nat} {x0 x1 x2 : Value} {x : DataW H × List MemPlace} (h : DataW.trod enc Tryz.prog W 0 (fun _ => true) true fuel 24 [x0, x1, x2] = some x) :
    ∃ z : PA, pcs z = [x0, x1, x2] ∧ Lies W W.heap.size z.A z.L.length z.c z.L ∧ z.k.size ≤ maxLen := by
  obtain ⟨ys, n', _, _, _, hyl, hfs⟩ := DataW.trod_struct Tryz.underlying24 h
  match ys, hyl with
  | [y0, y1, y2], _ =>
    have t0 := hfs 0 _ rfl
    have t1 := hfs 1 _ rfl
    have t2 := hfs 2 _ rfl
    obtain ⟨k, e0, _, w0⟩ := DataW.trod_string Tryz.underlying9 (x := y0) (by simpa [cellsStr] using t0)
    obtain ⟨g, e1, _, w1⟩ := DataW.trod_int Tryz.underlying3 (x := y1) (by simpa [cellsInt] using t1)
    obtain ⟨A, n, c, L, e2, hl, hc, hA⟩ := trod_rows (enc := enc) (W := W) (x := y2) (by simpa [cellsSlR] using t2)
    simp at e0 e1
    have el : L.length = n := hl.len
    subst el
    refine ⟨⟨k, g, L, A, c⟩, ?_, hl, w0⟩
    unfold pcs
    rw [e0, e1, e2]
theorem trod_mutB {fuel : Nat} {x0 x1 x2 x3 : Value} {x : DataW H × List MemPlace} (h : DataW.trod enc Tryz.prog W 0 (fun _ => true) true fuel 91 [x0, x1, x2, x3] = some x) :
    ∃ z : MA, mcs z = [x0, x1, x2, x3] ∧ Lies W W.heap.size z.p.A z.p.L.length z.p.c z.p.L ∧ z.tb.size ≤ maxLen ∧ z.p.k.size ≤ maxLen := by
  obtain ⟨ys, n', _, _, _, hyl, hfs⟩ := DataW.trod_struct Tryz.underlying91 h
  match ys, hyl with
  | [y0, y1], _ =>
    have t0 := hfs 0 _ rfl
    have t1 := hfs 1 _ rfl
    obtain ⟨k, e0, _, w0⟩ := DataW.trod_string Tryz.underlying9 (x := y0) (by simpa [cellsStr] using t0)
    obtain ⟨p, e1, hl, w1⟩ := trod_partB (enc := enc) (W := W) (x := y1) (by simpa [cellsPart] using t1)
    simp at e0
    refine ⟨⟨k, p⟩, ?_, hl, w0, w1⟩
    unfold pcs at e1
    unfold mcs
    rw [e0]
    exact congrArg (Value.string k :: ·) e1
theorem trod_noteB {fuel : Nat} {x0 x1 : Value} {x : DataW H × List MemPlace} (h : DataW.trod enc Tryz.prog W 0 (fun _ => true) true fuel 60 [x0, x1] = some x) :
    ∃ z : NA, ncs z = [x0, x1] ∧ z.2.size ≤ maxLen := by
  obtain ⟨ys, n', _, _, _, hyl, hfs⟩ := DataW.trod_struct Tryz.underlying60 h
  match ys, hyl with
  | [y0, y1], _ =>
    have t0 := hfs 0 _ rfl
    have t1 := hfs 1 _ rfl
    obtain ⟨g, e0, _, w0⟩ := DataW.trod_int Tryz.underlying3 (x := y0) (by simpa [cellsInt] using t0)
    obtain ⟨k, e1, _, w1⟩ := DataW.trod_string Tryz.underlying9 (x := y1) (by simpa [cellsStr] using t1)
    simp at e0 e1
    refine ⟨(g, k), ?_, w1⟩
    unfold ncs
    rw [e0, e1]
theorem trod_muts {fuel : Nat} {v : Value} {x : DataW H × List MemPlace} (h : DataW.trod enc Tryz.prog W 0 (fun _ => true) true fuel 25 [v] = some x) :
    ∃ A n c L, v = .slice A n c ∧ LiesM W W.heap.size A n c L ∧ c ≤ maxLen ∧ (A = none → c = 0) ∧ ∀ y ∈ L, y.tb.size ≤ maxLen := by
  rcases Go.Deep.open_slice Tryz.underlying25 h with ⟨hcs, hx⟩ | ⟨a, len, cap, m, n, D, Pl, hcs, _, hl, hm, hmm, hx, hel⟩
  · simp at hcs
    subst hcs
    exact ⟨none, 0, 0, [], rfl, ⟨⟨rfl, fun h => absurd h (by omega)⟩, fun x hx => (by cases hx), Nat.le_refl _⟩, Nat.zero_le _, fun _ => rfl, fun x hx => by cases hx⟩
  · simp at hcs
    subst hcs
    simp only [if_true] at hmm
    have hmc : m = cap := hmm
    have hone : ∀ i, i < len → ∃ z : MA, (∀ j u, (mcs z)[j]? = some u → W.cell? (a.add (i * 4 + j)) = some u) ∧ (Lies W W.heap.size z.p.A z.p.L.length z.p.c z.p.L ∧ z.tb.size ≤ maxLen) := by
      intro i hi
      obtain ⟨cs', hc, ht⟩ := hel i (by omega)
      rw [cellsMut] at hc
      obtain ⟨_, hcl, hat⟩ := World.cells?_some hc
      match cs', hcl with
      | [x0, x1, x2, x3], _ =>
        obtain ⟨z, hz, hin, hs1, hs2⟩ := trod_mutB (enc := enc) (W := W) ht
        refine ⟨z, fun j u hu => ?_, hin, hs1⟩
        have hj : j < 4 := by
          rcases Nat.lt_or_ge j 4 with h1 | h1
          · exact h1
          · rw [List.getElem?_eq_none (by simpa [mcs] using h1)] at hu; cases hu
        have := hat j hj
        rw [← Go.Deep.add_add, this, ← hu, hz]
    let f : Nat → MA := fun i => if h : i < len then (hone i h).choose else ⟨⟨#[]⟩, ⟨⟨#[]⟩, 0, [], none, 0⟩⟩
    have hf' : ∀ i, i < len → (∀ j u, (mcs (f i))[j]? = some u → W.cell? (a.add (i * 4 + j)) = some u) ∧ (Lies W W.heap.size (f i).p.A (f i).p.L.length (f i).p.c (f i).p.L ∧ (f i).tb.size ≤ maxLen) := by
      intro i hi
      have := (hone i hi).choose_spec
      simp only [f, dif_pos hi]
      exact this
    refine ⟨some a, len, cap, (List.range len).map f, rfl, ⟨⟨by simp, fun hn => ?_⟩, fun x hx => ?_, hl⟩, hm, fun h => (by cases h), fun x hx => ?_⟩
    · have h0 := (hf' 0 hn).1 0 _ rfl
      have hs : a.spot = none := by simpa [Addr.add] using World.cell?_spot h0
      obtain ⟨g, o, sp⟩ := a
      simp only at hs
      subst hs
      refine ⟨g, o, rfl, World.block_lt_of_cell? W ⟨g, o, none⟩ (by simpa [Addr.add] using h0), fun j hj i u hu => ?_⟩
      have hj2 : j < len := by simpa using hj
      simp only [List.getElem_map, List.getElem_range] at hu
      have q := (hf' j hj2).1 i u hu
      simp only [Addr.add_lit] at q
      rw [Nat.add_assoc]
      exact q
    · obtain ⟨i, hi, rfl⟩ := List.mem_map.1 hx
      exact (hf' i (List.mem_range.1 hi)).2.1
    · obtain ⟨i, hi, rfl⟩ := List.mem_map.1 hx
      exact (hf' i (List.mem_range.1 hi)).2.2
theorem trod_notes {fuel : Nat} {v : Value} {x : DataW H × List MemPlace} (h : DataW.trod enc Tryz.prog W 0 (fun _ => true) true fuel 26 [v] = some x) :
    ∃ A n c L, v = .slice A n c ∧ RdN W W.heap.size A n L ∧ n ≤ c ∧ c ≤ maxLen ∧ (A = none → c = 0) ∧ ∀ y ∈ L, y.2.size ≤ maxLen := by
  rcases Go.Deep.open_slice Tryz.underlying26 h with ⟨hcs, hx⟩ | ⟨a, len, cap, m, n, D, Pl, hcs, _, hl, hm, hmm, hx, hel⟩
  · simp at hcs
    subst hcs
    exact ⟨none, 0, 0, [], rfl, ⟨rfl, fun h => absurd h (by omega)⟩, Nat.le_refl _, Nat.zero_le _, fun _ => rfl, fun x hx => by cases hx⟩
  · simp at hcs
    subst hcs
    simp only [if_true] at hmm
    have hmc : m = cap := hmm
    have hone : ∀ i, i < len → ∃ z : NA, (∀ j u, (ncs z)[j]? = some u → W.cell? (a.add (i * 2 + j)) = some u) ∧ z.2.size ≤ maxLen := by
      intro i hi
      obtain ⟨cs', hc, ht⟩ := hel i (by omega)
      rw [cellsNote] at hc
      obtain ⟨_, hcl, hat⟩ := World.cells?_some hc
      match cs', hcl with
      | [x0, x1], _ =>
        obtain ⟨z, hz, hs1⟩ := trod_noteB (enc := enc) (W := W) ht
        refine ⟨z, fun j u hu => ?_, hs1⟩
        have hj : j < 2 := by
          rcases Nat.lt_or_ge j 2 with h1 | h1
          · exact h1
          · rw [List.getElem?_eq_none (by simpa [ncs] using h1)] at hu; cases hu
        have := hat j hj
        rw [← Go.Deep.add_add, this, ← hu, hz]
    let f : Nat → NA := fun i => if h : i < len then (hone i h).choose else (0, ⟨#[]⟩)
    have hf' : ∀ i, i < len → (∀ j u, (ncs (f i))[j]? = some u → W.cell? (a.add (i * 2 + j)) = some u) ∧ (f i).2.size ≤ maxLen := by
      intro i hi
      have := (hone i hi).choose_spec
      simp only [f, dif_pos hi]
      exact this
    refine ⟨some a, len, cap, (List.range len).map f, rfl, ⟨by simp, fun hn => ?_⟩, hl, hm, fun h => (by cases h), fun x hx => ?_⟩
    · have h0 := (hf' 0 hn).1 0 _ rfl
      have hs : a.spot = none := by simpa [Addr.add] using World.cell?_spot h0
      obtain ⟨g, o, sp⟩ := a
      simp only at hs
      subst hs
      refine ⟨g, o, rfl, World.block_lt_of_cell? W ⟨g, o, none⟩ (by simpa [Addr.add] using h0), fun j hj i u hu => ?_⟩
      have hj2 : j < len := by simpa using hj
      simp only [List.getElem_map, List.getElem_range] at hu
      have q := (hf' j hj2).1 i u hu
      simp only [Addr.add_lit] at q
      rw [Nat.add_assoc]
      exact q
    · obtain ⟨i, hi, rfl⟩ := List.mem_map.1 hx
      exact (hf' i (List.mem_range.1 hi)).2
theorem trod_intsB {fuel : Nat} {v : Value} {x : DataW H × List MemPlace} (h : DataW.trod enc Tryz.prog W 0 (fun _ => true) true fuel 27 [v] = some x) :
    ∃ A n c l, v = .slice A n c ∧ RdZ W W.heap.size A n l ∧ n ≤ c ∧ c ≤ maxLen := by
  rcases open_ints Tryz.underlying27 Tryz.underlying3 cellsIntB h with ⟨hcs, hx⟩ | ⟨a, len, cap, zs, hcs, _, hl, hm, hz, hx, hcell, hwz⟩
  · simp at hcs
    subst hcs
    exact ⟨none, 0, 0, [], rfl, ⟨rfl, fun h => absurd h (by omega)⟩, Nat.le_refl _, Nat.zero_le _⟩
  · simp at hcs
    subst hcs
    simp only [if_true] at hz
    refine ⟨some a, len, cap, zs.take len, rfl, ⟨by simp; omega, fun hn => ?_⟩, hl, hm⟩
    have h0 := hcell 0 (by omega)
    have hs : a.spot = none := by simpa [Addr.add] using World.cell?_spot h0
    obtain ⟨g, o, sp⟩ := a
    simp only at hs
    subst hs
    refine ⟨g, o, rfl, World.block_lt_of_cell? W ⟨g, o, none⟩ (by simpa [Addr.add] using h0), fun j hj => ?_⟩
    have hj2 : j < zs.length := by simp at hj; omega
    have e : zs.getD j 0 = zs[j] := by simp [List.getD, hj2]
    have := hcell j hj2
    rw [e] at this
    simp only [Addr.add_lit] at this
    rw [this, List.getElem_take]
set_option maxRecDepth 8000 in
theorem open_batch {base : Nat} {v : Value} {d : DataW H} {p : List MemPlace} (hval : Value.okWide Tryz.prog W .any base 29 v) (h : DataW.Trod enc Tryz.prog W 0 (fun _ => true) true 29 v d p) :
    ∃ z : BA, v = bV z ∧ LiesB W W.heap.size z ∧ z.cM ≤ maxLen ∧ (∀ y ∈ z.M, y.tb.size ≤ maxLen) ∧ (∀ y ∈ z.N, y.2.size ≤ maxLen) := by
  obtain ⟨cs, rfl, hsz⟩ := okWide_struct Tryz.underlying29 hval
  rw [cellsBatch] at hsz
  obtain ⟨l⟩ := cs
  match l, hsz with
  | [x0, x1, x2], _ =>
    obtain ⟨fuel, hf⟩ := h
    obtain ⟨ys, n', _, _, _, hyl, hfs⟩ := DataW.trod_struct Tryz.underlying29 hf
    match ys, hyl with
    | [y0, y1, y2], _ =>
      have t0 := hfs 0 _ rfl
      have t1 := hfs 1 _ rfl
      have t2 := hfs 2 _ rfl
      obtain ⟨A, n, c, L, e0, hl, hc, hA, hs⟩ := trod_muts (enc := enc) (W := W) (x := y0) (by simpa [cellsSlM, Value.cells] using t0)
      obtain ⟨A1, n1, c1, N, e1, hr, hn1, _, _, hs1⟩ := trod_notes (enc := enc) (W := W) (x := y1) (by simpa [cellsSlN, Value.cells] using t1)
      obtain ⟨A2, n2, c2, D, e2, hr2, hn2, _⟩ := trod_intsB (enc := enc) (W := W) (x := y2) (by simpa [cellsSlI, Value.cells] using t2)
      subst e0; subst e1; subst e2
      have l0 : L.length = n := hl.rd.1
      have l1 : N.length = n1 := hr.1
      have l2 : D.length = n2 := hr2.1
      subst l0; subst l1; subst l2
      exact ⟨⟨A, c, L, A1, c1, N, A2, c2, D⟩, rfl, ⟨hl, hr, hr2, hn1, hn2⟩, hc, hs, hs1⟩
end
end Go.Proofs.YthfanonjokpflaaGreat
set_option linter.unusedVariables false
namespace Go.Proofs.YthfanonjokpflaaGreat.lawPackAll
open Go Go.ChangeShapes Go.WideShapes Go.ChangeAt Go.RowKit
open Go.ChangeMaps (open_string shut_string)

theorem own : ownKnob Tryz.prog.godebug = none := by kernel_rfl
theorem laidOut : laidOutB Tryz.prog = true := by kernel_rfl

set_option maxRecDepth 100000 in
theorem lifted (os : Os) (started : os.Started) (H : Type) (enc : TypeId × Value → H) :
    ReturnsInHanded {} Tryz.checked os 3 .any (Rows.packAllSpec.pre6 enc Tryz.prog Tryz.f3 Rows.packAllRow.domain false) (Rows.packAllSpec.post enc Tryz.prog Tryz.f3 false true false false) := by
  refine returnsInHanded_of_change (C := Tryz.checked) own started (by kernel_rfl) Tryz.func3
    (ChangeSpec.witness6 (enc := enc) (C := Tryz.checked) false ⟨#[], #[.agg #[.string ⟨#[]⟩, .int .i64 0, .slice none 0 0], .agg #[.slice none 0 0, .slice none 0 0, .slice none 0 0], .string ⟨#[]⟩], []⟩ 8 (by kernel_rfl) (by kernel_rfl) (by kernel_rfl) (by kernel_rfl)) ?_
  intro W base args ds gs before hval0 hW hcnd _
  have hval : ∀ (j : Nat) t v, Tryz.f3.params[j]? = some t → args[j]? = some v → Value.okWide Tryz.prog W .any base t v := hval0
  have hW' := hW
  obtain ⟨p, q, hA0, hV, rfl, hfz, hnd⟩ := hW
  have hA : DataW.TrodAll enc Tryz.prog W 0 (fun _ => true) true Tryz.f3.params.toList args.toList ds p := hA0
  rw [Tryz.params3] at hA hval
  obtain ⟨v0, vs0, d0, ds0, p0, q0, hargs, rfl, rfl, h0, r0⟩ := trodAll_cons hA
  obtain ⟨v1, vs1, d1, ds1, p1, q1, rfl, rfl, rfl, h1, r1⟩ := trodAll_cons r0
  obtain ⟨v2, vs2, d2, ds2, p2, q2, rfl, rfl, rfl, h2, r2⟩ := trodAll_cons r1
  obtain ⟨rfl, rfl, rfl⟩ := trodAll_nil r2
  obtain rfl : args = #[v0, v1, v2] := by cases args; simp_all
  obtain ⟨rfl, rfl⟩ := trodVars_none hV
  have t0 := h0
  obtain ⟨k0, g0, A0, n0, c0, l0, rfl, wr0, wc0, we0, wk0, wg0⟩ := open_part (hval 0 24 v0 rfl rfl) h0
  have t1 := h1
  obtain ⟨z1, rfl, wr1, wc1, ws1, wt1⟩ := open_batch (hval 1 29 v1 rfl rfl) h1
  obtain ⟨a2, rfl, rfl, rfl, w2⟩ := open_string Tryz.underlying9 (hval 2 9 v2 rfl rfl) h2
  clear hA0 hval0
  refine (pkall_lawZ k0 g0 A0 n0 c0 l0 z1 a2 W wr0 wc0 we0 wk0 wg0 wr1 wc1 ws1 wt1 w2).mono fun e W' ⟨he, bel⟩ => ?_
  subst he
  exact ⟨_, rfl, _, _, _, [], _, [], hW', trodAll_mk1 (shut_bool Tryz.underlying4 _), (trodAll_cons_mk (Below.trod laidOut (by kernel_rfl) (of_decide_eq_true (by kernel_rfl)) t0 bel (trod_lt1 t0)) (trodAll_cons_mk (Below.trod laidOut (by kernel_rfl) (of_decide_eq_true (by kernel_rfl)) t1 bel (trod_lt1 t1)) (trodAll_cons_mk (shut_string Tryz.underlying9 w2) trodAll_mk0))), rfl, bel.frame _, fun h => by cases h⟩

theorem over : Rows.packAllRow.holds Tryz.pinned (OpenSpec.ofChange Rows.packAllSpec) :=
  OpenClaim.holds_of_wide 3 Tryz.f3 rfl rfl rfl rfl rfl rfl rfl ⟨rfl, rfl, rfl, rfl, rfl⟩ rfl rfl rfl rfl rfl (by kernel_rfl) Tryz.func3 (by kernel_rfl)
    (of_decide_eq_true (by kernel_rfl)) (by unfold Func.isWrapper; first | (rw [if_pos (by decide +kernel)]; kernel_rfl) | (rw [if_neg (by decide +kernel)]; exact ⟨rfl, rfl⟩))
    (fun os started H enc _ => lifted os started H enc)

theorem proved : Rows.PackAllSaid := over
end Go.Proofs.YthfanonjokpflaaGreat.lawPackAll
