/-
  PackNumbers: for every input the law returns true, and each argument reads as it read. No condition.
-/
import Derived.Test.YthfanonjokpflaaTkl
import Derived.Test.YthfanonjokpflaaLawPNumbersA
import Derived.Test.YthfanonjokpflaaKq
import Derived.Test.YthfanonjokpflaaCeA
import Derived.Test.YthfanonjokpflaaSab
import Derived.Test.YthfanonjokpflaaKf
import Derived.Test.YthfanonjokpflaaPb
import Derived.Test.YthfanonjokpflaaRo2
import Derived.Deep.RegionHeld3
import Derived.Test.YthfanonjokpflaaRoK
import Derived.Test.YthfanonjokpflaaRoB
import Derived.Test.YthfanonjokpflaaCe5
import Derived.Test.YthfanonjokpflaaRw7
import Derived.Deep.RegionLaw
import Derived.Deep.DeepCutAuto
import Derived.Deep.CutBlock
import Derived.Laws.IdiomStrings
import Derived.Laws.IdiomRangeMap
import Derived.Test.YthfanonjokpflaaRw2
import Derived.Lib.SmallJoins
import Derived.Test.YthfanonjokpflaaRoU
import Derived.Test.YthfanonjokpflaaRgz
import Derived.Test.YthfanonjokpflaaRo1
import Derived.Test.YthfanonjokpflaaRc3
import Derived.Test.YthfanonjokpflaaRnN
import Derived.Test.YthfanonjokpflaaPlc
import Derived.Test.YthfanonjokpflaaRw4
import Derived.Deep.QuietTactic
import Derived.BigQuiet
import Derived.WalkSpells
import Derived.Test.YthfanonjokpflaaPk
import Derived.Test.YthfanonjokpflaaRgy
import Derived.Test.YthfanonjokpflaaProg
import Derived.ProofKit
import Derived.OpenShut
import Derived.ChangeOld
import Derived.Carry
import Derived.Test.YthfanonjokpflaaCeZ
import Derived.Test.YthfanonjokpflaaRows
import Derived.WalkKit
import Derived.ShutString
import Derived.Below
set_option linter.unusedVariables false
set_option linter.unusedSimpArgs false
namespace Go.Proofs.Ythfanonjokpflaa
open Go Go.RowKit

theorem btS_of {x : BA} (h : x.bt.ok = true) : BtS x := by
  have hg := Bt.gd_of h
  rw [bt_ok] at h
  simp only [Bool.and_eq_true, decide_eq_true_iff, List.all_eq_true] at h
  obtain ⟨⟨⟨h1, h2⟩, h3, h4⟩, h5, h6⟩ := h
  refine ⟨fun y hy => ?_, fun y hy => ?_, fun y hy => ?_, by omega, by omega, by omega⟩
  · have h7 := h2 y hy
    unfold mutB nameB mutOf at h7
    simp only [Bool.and_eq_true, decide_eq_true_iff] at h7
    exact ⟨by omega, paS_of h7.2⟩
  · have h7 := h4 y hy
    unfold addB at h7
    simp only [Bool.and_eq_true, decide_eq_true_iff] at h7
    exact ⟨⟨by omega, h7.2.1⟩, by omega⟩
  · have h7 := h6 y hy
    unfold dropB at h7
    simp only [Bool.and_eq_true, decide_eq_true_iff] at h7
    exact ⟨by omega, by omega⟩
theorem bt_len {b : Bt} (h : b.ok = true) : (bE b).length ≤ 30000000 := by
  unfold Bt.ok at h
  simp only [Bool.and_eq_true, decide_eq_true_iff, List.all_eq_true] at h
  obtain ⟨h1, h2, h3, h4, h5, h6⟩ := h
  have l1 : (b.muts.flatMap mE).length ≤ b.muts.length * 246300 := flat_le fun m hm => by
    have h7 := h2 m hm
    unfold mutB nameB at h7
    simp only [Bool.and_eq_true, decide_eq_true_iff] at h7
    have := pa_len h7.2
    have h8 : (tE m.1).length ≤ 9 + 100 := tE_le h7.1.1.2 (by omega)
    have h9 : (numL (pE m.2).length).length ≤ 9 := numL_le (by omega)
    unfold mE
    simp only [List.length_append]
    omega
  have l2 : (b.add.flatMap aE).length ≤ b.add.length * 4200 := flat_le fun m hm => by
    have h7 := h4 m hm
    unfold addB at h7
    simp only [Bool.and_eq_true, decide_eq_true_iff] at h7
    have h8 : (tE m.2).length ≤ 9 + 4096 := tE_le h7.2.2 (by omega)
    have h9 : (numL m.1.toNat).length ≤ 9 := numL_le (by omega)
    unfold aE
    simp only [List.length_append]
    omega
  have l3 : (b.drop.flatMap fun v => numL v.toNat).length ≤ b.drop.length * 9 := flat_le fun m hm => by
    have h7 := h6 m hm
    unfold dropB at h7
    simp only [Bool.and_eq_true, decide_eq_true_iff] at h7
    exact numL_le (by omega)
  have n1 : (numL b.muts.length).length ≤ 9 := numL_le (by omega)
  have n2 : (numL b.add.length).length ≤ 9 := numL_le (by omega)
  have n3 : (numL b.drop.length).length ≤ 9 := numL_le (by omega)
  have m1 : b.muts.length * 246300 ≤ 64 * 246300 := Nat.mul_le_mul_right _ h1
  have m2 : b.add.length * 4200 ≤ 300 * 4200 := Nat.mul_le_mul_right _ h3
  have m3 : b.drop.length * 9 ≤ 300 * 9 := Nat.mul_le_mul_right _ h5
  unfold bE
  simp only [List.length_append]
  omega
theorem putBatch_no {b : Bt} (h : b.ok = false) : putBatch b = .error 1 := by
  unfold putBatch putP
  rw [if_neg (by rw [h]; simp)]
set_option maxRecDepth 8000 in
set_option maxHeartbeats 600000 in
theorem put_batch (x : BA) (B : Nat) (w : World) (hr : LiesB w B x) (hB : B ≤ w.heap.size) (hf : BtF x) :
    Calls Try.prog 28 #[bV x, .func (.func 18) #[] #[], .func (.func 29) #[] #[]] w (GivesP w (putBatch x.bt)) := by
  have bz := (Below.refl w.heap.size w).alloc (Nat.le_refl _) (bO x)
  have hz := heap_alloc_new w (bO x)
  obtain ⟨V, hV⟩ : ∃ V, V = w.alloc (bO x) := ⟨_, rfl⟩
  rw [← hV] at bz hz
  have hVs := bz.size
  have hc0 := cell_at (i := 0) hz rfl
  have hc1 := cell_at (i := 1) hz rfl
  have hc2 := cell_at (i := 2) hz rfl
  obtain ⟨u, hu⟩ : ∃ u, x.bt.ok = u := ⟨_, rfl⟩
  have C1 := checkBatch_any x B V (hr.below (bz.mono hB)) (by omega) hf
  rw [hu] at C1
  have HU := Lib.hid hu; have HZ := Lib.hid hz; have BZ := Lib.hid bz; have HC1 := Lib.hid C1; have HR := Lib.hid hr; have HB := Lib.hid hB; have HVS := Lib.hid hVs
  obtain ⟨R, hR⟩ : ∃ R, putBatch x.bt = R := ⟨_, rfl⟩
  rw [hR]
  have HRR := Lib.hid hR
  clear hu hz bz C1 hr hf hVs hR
  go_enter Try.func28, Try.ntmps28
  go_wp2_with fail
  try unfold bO at hV
  rw [← hV]
  clear hV
  refine (HC1.out).mono ?_
  rintro e w1 ⟨rfl, b1⟩
  have hz1 := (b1.block _ (Array.getElem?_eq_some_iff.1 HZ.out).1).trans HZ.out
  have B1 := Lib.hid b1
  clear hc0 hc1 hc2 b1
  have hc0 := cell_at (i := 0) hz1 rfl
  have hc1 := cell_at (i := 1) hz1 rfl
  have hc2 := cell_at (i := 2) hz1 rfl
  have HZ1 := Lib.hid hz1
  clear hz1
  cases u with
  | false =>
    go_wp2
    go_ret2
    rw [← HRR.out, putBatch_no HU.out]
    exact ⟨rfl, next BZ.out B1.out⟩
  | true =>
    have hps := btS_of HU.out
    have hle := bt_len HU.out
    obtain ⟨P, hP⟩ : ∃ P, bE x.bt = P := ⟨_, rfl⟩
    have hb1 := next BZ.out B1.out
    have N := putBatch_any w1.heap.size (.slice none 0 0) [] x.AM x.AN x.AD x.M.length x.cM x.N.length x.cN x.D.length x.cD B x.M x.N x.D w1 (own_nilY _ _) (Nat.le_refl _) (by have h := HR.out.below (hb1.mono HB.out); exact ⟨h.muts, h.notes, h.drops⟩) (by have := hb1.size; have := HB.out; omega) ⟨hps.muts, hps.notes, hps.drops⟩ ⟨hps.lm, hps.ln, hps.ld⟩ (by rw [List.nil_append]; show (bE x.bt).length ≤ _; omega)
    rw [List.nil_append] at N
    have e : bE ⟨muts x.M, x.N, x.D⟩ = P := hP
    rw [e] at N
    rw [hP] at hle
    have HP : putBatch x.bt = (if 262144 < P.length then .error 2 else .ok P) := by
      unfold putBatch putP
      rw [if_pos HU.out, hP]
    rw [HRR.out] at HP
    have HN := Lib.hid N; have HPP := Lib.hid HP; have HB1 := Lib.hid hb1; have HLE := Lib.hid hle
    clear hps hle HP hP hb1 N e
    go_wp2_with fail
    refine (HN.out).mono ?_
    rintro e w2 ⟨v2, rfl, l2⟩
    have hb2 := l2.base (own_nilY _ _) (Nat.le_refl _)
    obtain ⟨A2, n2, c2, rfl, hl2, g1, g2, g3, ho⟩ := l2.own.slice
    have hn2 : n2 ≤ 30000000 := by have := HLE.out; omega
    have HG : Hid (P.length = n2 ∧ n2 ≤ c2 ∧ c2 ≤ maxLen ∧ (A2 = none → c2 = 0) ∧ w2.ownsRow w.heap.size 5 1 (.slice A2 n2 c2) n2 (Lib.byteCells P) ∧ Below w.heap.size w w2) := Lib.hid ⟨hl2, g1, g2, g3, own_down ho HB1.out.size, next HB1.out hb2⟩
    clear hl2 g1 g2 g3 ho hb2 l2 hc0 hc1 hc2
    by_cases h8 : 262144 < n2
    · have d1 : decide ((262144 : Int) < (n2 : Int)) = true := by simp; omega
      have d2 : decide (262144 < n2) = true := by simp; omega
      have hRe : R = .error 2 := by rw [HPP.out, HG.out.1, if_pos h8]
      subst hRe
      clear h8
      go_wp2
      go_ret2
      exact ⟨rfl, HG.out.2.2.2.2.2⟩
    · have d1 : decide ((262144 : Int) < (n2 : Int)) = false := by simp; omega
      have d2 : decide (262144 < n2) = false := by simp; omega
      have hRe : R = .ok P := by rw [HPP.out, HG.out.1, if_neg h8]
      subst hRe
      clear h8
      go_wp2
      go_ret2
      exact ⟨A2, n2, c2, rfl, HG.out⟩
set_option maxRecDepth 8000 in
set_option maxHeartbeats 600000 in
theorem pack_batch (x : BA) (B : Nat) (w : World) (hr : LiesB w B x) (hB : B ≤ w.heap.size) (hf : BtF x) :
    Calls Try.prog 14 #[bV x] w (GivesP w (putBatch x.bt)) := by
  have bz := (Below.refl w.heap.size w).alloc (Nat.le_refl _) (bO x)
  have hz := heap_alloc_new w (bO x)
  obtain ⟨V, hV⟩ : ∃ V, V = w.alloc (bO x) := ⟨_, rfl⟩
  rw [← hV] at bz hz
  have hVs := bz.size
  have hc0 := cell_at (i := 0) hz rfl
  have hc1 := cell_at (i := 1) hz rfl
  have hc2 := cell_at (i := 2) hz rfl
  have N := put_batch x B V (hr.below (bz.mono hB)) (by omega) hf
  have BZ := Lib.hid bz; have HN := Lib.hid N
  obtain ⟨R, hR⟩ : ∃ R, putBatch x.bt = R := ⟨_, rfl⟩
  rw [hR] at HN ⊢
  clear hz bz hr hf hVs N hR hB
  go_enter Try.func14, Try.ntmps14
  go_wp2_with fail
  try unfold bO at hV
  rw [← hV]
  clear hV
  refine (HN.out).mono ?_
  intro e w1 hg
  cases R with
  | error y =>
    obtain ⟨rfl, b1⟩ := hg
    have B1 := Lib.hid b1
    clear b1
    go_wp2
    go_ret2
    exact ⟨rfl, next BZ.out B1.out⟩
  | ok b =>
    obtain ⟨A2, n2, c2, rfl, h1, h2, h3, h4, h5, h6⟩ := hg
    have HG : Hid (b.length = n2 ∧ n2 ≤ c2 ∧ c2 ≤ maxLen ∧ (A2 = none → c2 = 0) ∧ w1.ownsRow w.heap.size 5 1 (.slice A2 n2 c2) n2 (Lib.byteCells b) ∧ Below w.heap.size w w1) := Lib.hid ⟨h1, h2, h3, h4, own_down h5 BZ.out.size, next BZ.out h6⟩
    clear h1 h2 h3 h4 h5 h6
    go_wp2
    go_ret2
    exact ⟨A2, n2, c2, rfl, HG.out⟩
end Go.Proofs.Ythfanonjokpflaa
set_option linter.unusedVariables false
set_option linter.unusedSimpArgs false
namespace Go.Proofs.Ythfanonjokpflaa
open Go Go.RowKit

abbrev zRow (l : List Int) : List Value := l.map (Value.int .i64)
theorem RdZ.ofOwn {w : World} {base n : Nat} {A : Option Addr} {c : Nat} {l : List Int} (h : w.ownsRow base 3 1 (.slice A n c) n (zRow l)) : RdZ w w.heap.size A n l := by
  have hl : l.length = n := by have := h.1; rw [List.length_map] at this; omega
  rcases h.2 with ⟨e, rfl⟩ | ⟨g, cap, cur, e, hb, hh, hn, hm, hs, ht⟩
  · exact ⟨hl, fun h => absurd h (by omega)⟩
  · injection e with e1 e2 e3
    subst e1
    refine ⟨hl, fun _ => ⟨g, 0, rfl, (Array.getElem?_eq_some_iff.1 hh).1, fun j hj => ?_⟩⟩
    have := h.cells (g := g) rfl j (.int .i64 l[j]) (by simp [zRow, hj])
    rw [Addr.add_lit] at this
    exact this
theorem RdZ.lay1 (w : World) (x : Int) : RdZ (w.alloc (.cells #[.int .i64 x] 3)) (w.heap.size + 1) (some ⟨w.heap.size, 0, none⟩) 1 [x] := by
  refine ⟨rfl, fun _ => ⟨_, 0, rfl, by omega, fun j hj => ?_⟩⟩
  have : j = 0 := by simpa using hj
  subst this
  exact cell_at (i := 0) (heap_alloc_new w _) rfl
theorem RdZ.up {w : World} {B B' n : Nat} {A : Option Addr} {l : List Int} (h : RdZ w B A n l) (hB : B ≤ B') : RdZ w B' A n l :=
  ⟨h.1, fun hn => by
    obtain ⟨g, o, e, hg, hc⟩ := h.2 hn
    exact ⟨g, o, e, by omega, hc⟩⟩
theorem infoZi : (Try.prog.info? 3).map (fun i => (i.zero, i.size, i.bytes)) = some (some (.int .i64 0), 1, 8) := by kernel_rfl
end Go.Proofs.Ythfanonjokpflaa
set_option linter.unusedVariables false
set_option linter.unusedSimpArgs false
namespace Go.Proofs.Ythfanonjokpflaa
open Go Go.RowKit

theorem own_nilZ (w : World) (b : Nat) : w.ownsRow b 3 1 (.slice none 0 0) 0 (zRow []) := World.ownsRow_nil w b _ _
theorem zRow_one' (l : List Int) : ∀ u ∈ zRow l, u.oneCell' = true := fun u hu => by
  obtain ⟨x, _, rfl⟩ := List.mem_map.1 hu
  rfl
theorem RdZ.allZ {w : World} {B n : Nat} {ad : Addr} {l : List Int} (h : RdZ w B (some ad) n l) : ∀ j u, (zRow l)[j]? = some u → w.cell? (ad.add j) = some u := by
  intro j u hu
  have hj : j < l.length := by
    rcases Nat.lt_or_ge j l.length with h1 | h1
    · exact h1
    · rw [List.getElem?_eq_none (by rw [List.length_map]; exact h1)] at hu; cases hu
  obtain ⟨g, o, e, _, hc⟩ := h.2 (by have := h.1; omega)
  injection e with e
  subst e
  rw [Addr.add_lit]
  have : u = .int .i64 l[j] := by
    rw [List.getElem?_map, List.getElem?_eq_getElem hj] at hu
    injection hu with hu
    exact hu.symm
  rw [this]
  exact hc j hj
/-- append(own, whole numbers...). -/
theorem run_appZ {w : World} (base : Nat) {v : Value} {n : Nat} {l : List Int} (hown : w.ownsRow base 3 1 v n (zRow l)) {B m c : Nat} {A : Option Addr} {k : List Int} (hr : RdZ w B A m k)
    (hsz : n + m ≤ 1000000) (hbase : base ≤ w.heap.size) (ty : TypeId) :
    ∃ v' w', (Builtin.append_ #[27, 27] ty #[v, .slice A m c]).run Try.prog w = .ok v' w' ∧ (w'.ownsRow base 3 1 v' (n + m) (zRow (l ++ k)) ∧ (w.grownBy w' v.ownBlock ∧ (v'.ownBlock = v.ownBlock ∨ v'.ownBlock = some w.heap.size))) := by
  obtain ⟨i, hi, hz0, hz1, hz2⟩ := info_parts infoZi
  cases A with
  | none =>
    have h0 : m = 0 := by
      rcases Nat.eq_zero_or_pos m with h1 | h1
      · exact h1
      · obtain ⟨g, o, e, _⟩ := hr.2 h1; cases e
    subst h0
    obtain rfl : k = [] := List.eq_nil_of_length_eq_zero hr.1
    refine ⟨v, w, ?_, by simpa using hown, ⟨rfl, rfl, rfl, Nat.le_refl _, fun _ _ _ => rfl⟩, Or.inl rfl⟩
    rcases hown.2 with ⟨rfl, rfl⟩ | ⟨g, cap, cur, rfl, _, _, hnc, _⟩
    · simp [Builtin.append_, run_underlying Try.underlying27, sizeOf, typeInfo, hi, Builtin.lenOf, Builtin.firstCells]
    · simp [Builtin.append_, run_underlying Try.underlying27, sizeOf, typeInfo, hi, Builtin.lenOf, Builtin.firstCells, hnc, storeCells]
  | some ad =>
    obtain ⟨v', w', h1, h2, h3, _, h5⟩ := run_append_own_at (P := Try.prog) w base 27 ty 3 i (.int .i64 0) 1 8 Try.underlying27 hi hz0 hz1 hz2 rfl (by decide) v n (zRow l) hown ad m c (zRow k)
      (by rw [List.length_map, hr.1]; omega) hr.allZ (zRow_one' k) (by unfold maxLen; omega) (by omega) hbase
    exact ⟨v', w', h1, by unfold zRow; rw [List.map_append]; exact h2, h3, h5⟩
theorem set2Q_block {w : World} {q : Nat} {v0 v1 : Value} {T : TypeId} (h : w.heap[q]? = some (.cells #[v0, v1] T (0, 0))) (u0 u1 : Value) :
    ((w.setCell ⟨q, 0, none⟩ u0).setCell ⟨q, 1, none⟩ u1).heap[q]? = some (.cells #[u0, u1] T (0, 0)) := by
  have h0 := Joins.block_setCell (i := 0) h u0
  simp only [List.setIfInBounds_toArray, List.set_cons_zero, List.set_cons_succ] at h0
  have h1 := Joins.block_setCell (i := 1) h0 u1
  simpa only [List.setIfInBounds_toArray, List.set_cons_zero, List.set_cons_succ] using h1
theorem kept_set2Q {w : World} (q : Nat) (u0 u1 : Value) : Kept (fun k => k = q) w ((w.setCell ⟨q, 0, none⟩ u0).setCell ⟨q, 1, none⟩ u1) :=
  (Kept.setCell (fun k => k = q) w ⟨q, 0, none⟩ u0 rfl).trans (Kept.setCell (fun k => k = q) _ ⟨q, 1, none⟩ u1 rfl) fun _ h => Or.inl h
theorem set4T_block {w : World} {q : Nat} {v0 v1 v2 v3 : Value} {T : TypeId} (h : w.heap[q]? = some (.cells #[v0, v1, v2, v3] T (0, 0))) (u0 u1 u2 u3 : Value) :
    ((((w.setCell ⟨q, 0, none⟩ u0).setCell ⟨q, 1, none⟩ u1).setCell ⟨q, 2, none⟩ u2).setCell ⟨q, 3, none⟩ u3).heap[q]? = some (.cells #[u0, u1, u2, u3] T (0, 0)) := by
  have m := Joins.block_setCell (i := 0) h u0
  simp only [List.setIfInBounds_toArray, List.set_cons_zero, List.set_cons_succ] at m
  have m1 := Joins.block_setCell (i := 1) m u1
  simp only [List.setIfInBounds_toArray, List.set_cons_zero, List.set_cons_succ] at m1
  have m2 := Joins.block_setCell (i := 2) m1 u2
  simp only [List.setIfInBounds_toArray, List.set_cons_zero, List.set_cons_succ] at m2
  have m3 := Joins.block_setCell (i := 3) m2 u3
  simp only [List.setIfInBounds_toArray, List.set_cons_zero, List.set_cons_succ] at m3
  exact m3
set_option maxRecDepth 8000 in
set_option maxHeartbeats 2000000 in
theorem ynote (q i n c : Nat) (e : Int) (A : Option Addr) (l : Bs) (w : World) (h : RY w q A n c l i e) (hi : i ≤ n) (hs : n ≤ 1000000000) :
    Calls Try.prog 62 #[.pointer (some ⟨q, 0, none⟩)] w fun x w' => ∃ (y : NA) (j : Nat) (f : Int), x = .returned (.agg #[.int .i64 y.1, .string y.2]) ∧ y.2.size ≤ n ∧ j ≤ n ∧ RY w' q A n c l j f ∧ KeptQ q w w' ∧ Went addP l i e y j f := by
  have hqw := h.lt
  have bz := (Below.refl w.heap.size w).alloc (Nat.le_refl _) (.cells #[.int .i64 0, .string ⟨#[]⟩] 51)
  have hz := heap_alloc_new w (.cells #[.int .i64 0, .string ⟨#[]⟩] 51)
  have h0 := h.below bz
  obtain ⟨V, hV⟩ : ∃ V, V = w.alloc (.cells #[.int .i64 0, .string ⟨#[]⟩] 51) := ⟨_, rfl⟩
  rw [← hV] at bz hz h0
  have H0 := Lib.hid h0; have HZ0 := Lib.hid hz; have BZ := Lib.hid bz; have HQ := Lib.hid hqw; have HS := Lib.hid hs
  clear h bz hz h0 hqw hs
  go_enter Try.func62, Try.ntmps62
  go_wp2_with fail
  rw [← hV]
  clear hV
  refine (ystamp q i n c e A l _ H0.out hi HS.out).mono ?_
  rintro x w1 ⟨g, j1, f1, rfl, _, _, hj1, h1, k1, hw1⟩
  have H1 := Lib.hid h1; have HZ1 := Lib.hid (Kept.atQ k1 HZ0.out (by have := HQ.out; omega)); have K1 := Lib.hid (KeptQ.on (Kept.of_below BZ.out _) k1); have HW1 := Lib.hid hw1; have HJ1 := Lib.hid hj1
  clear h1 k1 hw1 hj1 hi
  go_wp2_with fail
  refine (ytext q j1 n c f1 A l _ H1.out HJ1.out HS.out).mono ?_
  rintro x w2 ⟨v, j2, f2, rfl, hv, hj2, h2, k2, hw2⟩
  have HZ2 := Lib.hid (Kept.atQ k2 HZ1.out (by have := HQ.out; omega))
  have z0 := cell_at (i := 0) HZ2.out rfl
  have z1 := cell_at (i := 1) HZ2.out rfl
  have y0 := thawed_at (i := 0) HZ2.out
  have y1 := thawed_at (i := 1) HZ2.out
  have m9 := set2Q_block HZ2.out (.int .i64 g) (.string v)
  have n9 := kept_set2Q (w := w2) w.heap.size (.int .i64 g) (.string v)
  have R9 := Lib.hid (RY.other h2 n9 HQ.out)
  have K9 := Lib.hid ((K1.out.on k2).own n9 (Nat.le_refl _))
  have HW : Hid (Went addP l i e ((g, v) : Int × ByteArray) j2 f2) := Lib.hid (HW1.out.bind (hw2.bind (Went.ret _ hw2.len f2)))
  have HV := Lib.hid hv; have HJ := Lib.hid hj2
  clear n9 h2 k2 hw2 hv hj2
  go_wp2
  generalize (World.setCell w2 ⟨w.heap.size, 0, none⟩ (.int .i64 g)).setCell ⟨w.heap.size, 1, none⟩ (.string v) = w9 at m9 K9 R9 ⊢
  clear z0 z1 y0 y1
  have q0 := cell_at (i := 0) m9 rfl
  have q1 := cell_at (i := 1) m9 rfl
  refine bodyPost_ret (v := .agg #[.int .i64 g, .string v]) ?_ rfl ?_
  · simp [results, Try.results62, go_sem, q0, q1]
  · exact ⟨(g, v), j2, f2, rfl, HV.out, HJ.out, R9.out, K9.out, HW.out⟩
/-- What is to be known of the reader of inner partitions. -/
def InnerOk : Prop := ∀ (q i n c : Nat) (e : Int) (A : Option Addr) (l : Bs) (w : World), RY w q A n c l i e → i ≤ n → n ≤ 900000 →
    Calls Try.prog 81 #[.pointer (some ⟨q, 0, none⟩)] w fun x w' => ∃ (z : PA) (j : Nat) (f : Int), x = .returned (.agg #[.string z.k, .int .i64 z.g, .slice z.A z.L.length z.c]) ∧ RowsQ w w' z.A z.L.length z.c z.L ∧ j ≤ n ∧ RY w' q A n c l j f ∧ KeptQ q w w' ∧ Went (nestP partP) l i e ⟨z.k, z.g, ros z.L⟩ j f
theorem RowsQ.grown {w0 w w' : World} {A : Option Addr} {m c b n size : Nat} {T : TypeId} {v : Value} {xs : List Value} {M : List RA} (h : RowsQ w0 w A m c M) (ho : w.ownsRow b T size v n xs) (hT : 90 ≠ T) (hT' : 61 ≠ T) (hg : w.grownBy w' v.ownBlock) : RowsQ w0 w' A m c M :=
  ⟨own_kept h.own fun g hg2 => hg.block g (own_block_lt h.own g hg2) fun hp => by
    obtain ⟨cs, h1⟩ := own_tag h.own g hg2
    obtain ⟨cs', h2⟩ := own_tag ho g hp.symm
    rw [h1] at h2
    injection h2 with h2
    injection h2 with _ h3 _
    exact hT' h3, fun x hx => (h.cols x hx).grownQ ho hT hg⟩
/-- What is joined to partitions, of one's own, down to the columns. -/
structure MutsQ (w0 w : World) (A : Option Addr) (m c : Nat) (M : List MA) : Prop where
  own : w.ownsRow w0.heap.size 49 4 (.slice A m c) m (mRow M)
  parts : ∀ x ∈ M, RowsQ w0 w x.p.A x.p.L.length x.p.c x.p.L
theorem MutsQ.nil (w0 w : World) : MutsQ w0 w none 0 0 [] := ⟨own_nilM _ _, fun x hx => by cases hx⟩
theorem MutsQ.on {w0 w w' : World} {A : Option Addr} {m c : Nat} {M : List MA} (h : MutsQ w0 w A m c M) (hb : Below w.heap.size w w') : MutsQ w0 w' A m c M := ⟨own_below h.own hb, fun x hx => (h.parts x hx).on hb⟩
theorem MutsQ.kept3 {w0 w w' : World} {A : Option Addr} {m c r : Nat} {M : List MA} {cs : Array Value} {e : TypeId} (h : MutsQ w0 w A m c M) (hk : Kept (fun k => k = r) w w') (hr : w.heap[r]? = some (.cells cs e (0, 0))) (h1 : 90 ≠ e) (h2 : 61 ≠ e) (h3 : 49 ≠ e) : MutsQ w0 w' A m c M :=
  ⟨own_keptQ h.own hk hr h3, fun x hx => (h.parts x hx).kept1 hk hr h1 h2⟩
theorem MutsQ.kept1 {w0 w w' : World} {A : Option Addr} {m c r : Nat} {M : List MA} {cs : Array Value} (h : MutsQ w0 w A m c M) (hk : Kept (fun k => k = r) w w') (hr : w.heap[r]? = some (.cells cs 97 (0, 0))) : MutsQ w0 w' A m c M := h.kept3 hk hr (by decide) (by decide) (by decide)
theorem MutsQ.snoc {w0 w w' : World} {A A' : Option Addr} {m c c' : Nat} {M : List MA} {y : MA} (h : MutsQ w0 w A m c M) (hy : RowsQ w0 w y.p.A y.p.L.length y.p.c y.p.L) (ho : w'.ownsRow w0.heap.size 49 4 (.slice A' (m + 1) c') (m + 1) (mRow (M ++ [y]))) (hg : w.grownBy w' (Value.slice A m c).ownBlock) : MutsQ w0 w' A' (m + 1) c' (M ++ [y]) :=
  ⟨ho, fun x hx => by
    rcases List.mem_append.1 hx with h1 | h1
    · exact (h.parts x h1).grown h.own (by decide) (by decide) hg
    · rw [List.mem_singleton.1 h1]; exact hy.grown h.own (by decide) (by decide) hg⟩
theorem MutsQ.lower {w0 w1 w : World} {A : Option Addr} {m c : Nat} {M : List MA} (h : MutsQ w1 w A m c M) (hb : w0.heap.size ≤ w1.heap.size) : MutsQ w0 w A m c M := ⟨own_down h.own hb, fun x hx => (h.parts x hx).lower hb⟩
theorem MutsQ.lies {w0 w : World} {A : Option Addr} {m c : Nat} {M : List MA} (h : MutsQ w0 w A m c M) : LiesM w w.heap.size A m c M := by
  obtain ⟨_, _, e, h1, _⟩ := own_slice h.own
  injection e with _ _ e3
  subst e3
  exact ⟨RdM.of_own h.own, fun x hx => (h.parts x hx).lies, h1⟩
set_option maxRecDepth 8000 in
set_option maxHeartbeats 2000000 in
theorem ymut (YI : InnerOk) (q i n c : Nat) (e : Int) (A : Option Addr) (l : Bs) (w : World) (h : RY w q A n c l i e) (hi : i ≤ n) (hs : n ≤ 900000) :
    Calls Try.prog 60 #[.pointer (some ⟨q, 0, none⟩)] w fun x w' => ∃ (y : MA) (j : Nat) (f : Int), x = .returned (.agg #[.string y.tb, .string y.p.k, .int .i64 y.p.g, .slice y.p.A y.p.L.length y.p.c]) ∧ RowsQ w w' y.p.A y.p.L.length y.p.c y.p.L ∧ j ≤ n ∧ RY w' q A n c l j f ∧ KeptQ q w w' ∧ Went mutP l i e (mutOf y) j f := by
  have hqw := h.lt
  have bz := (Below.refl w.heap.size w).alloc (Nat.le_refl _) (.cells #[.string ⟨#[]⟩, .string ⟨#[]⟩, .int .i64 0, .slice none 0 0] 49)
  have hz := heap_alloc_new w (.cells #[.string ⟨#[]⟩, .string ⟨#[]⟩, .int .i64 0, .slice none 0 0] 49)
  have h0 := h.below bz
  obtain ⟨V, hV⟩ : ∃ V, V = w.alloc (.cells #[.string ⟨#[]⟩, .string ⟨#[]⟩, .int .i64 0, .slice none 0 0] 49) := ⟨_, rfl⟩
  rw [← hV] at bz hz h0
  have H0 := Lib.hid h0; have HZ0 := Lib.hid hz; have BZ := Lib.hid bz; have HQ := Lib.hid hqw; have HS := Lib.hid hs
  clear h bz hz h0 hqw hs
  go_enter Try.func60, Try.ntmps60
  go_wp2_with fail
  rw [← hV]
  clear hV
  refine (ytext q i n c e A l _ H0.out hi (by have := HS.out; omega)).mono ?_
  rintro x w1 ⟨v, j1, f1, rfl, hv, hj1, h1, k1, hw1⟩
  have H1 := Lib.hid h1; have HZ1 := Lib.hid (Kept.atQ k1 HZ0.out (by have := HQ.out; omega)); have K1 := Lib.hid (KeptQ.on (Kept.of_below BZ.out _) k1); have HW1 := Lib.hid hw1; have HJ1 := Lib.hid hj1
  clear h1 k1 hw1 hv hj1 hi
  go_wp2_with fail
  refine (YI q j1 n c f1 A l _ H1.out HJ1.out HS.out).mono ?_
  rintro x w5 ⟨⟨zk, zg, zL, zA, zc⟩, j5, f5, rfl, ho5, hj5, h5, k5, hw5⟩
  dsimp only at ho5 hw5
  have HZ5 := Lib.hid (Kept.atQ k5 HZ1.out (by have := HQ.out; omega))
  have z0 := cell_at (i := 0) HZ5.out rfl
  have z1 := cell_at (i := 1) HZ5.out rfl
  have z2 := cell_at (i := 2) HZ5.out rfl
  have z3 := cell_at (i := 3) HZ5.out rfl
  have y0 := thawed_at (i := 0) HZ5.out
  have y1 := thawed_at (i := 1) HZ5.out
  have y2 := thawed_at (i := 2) HZ5.out
  have y3 := thawed_at (i := 3) HZ5.out
  have m9 := set4T_block HZ5.out (.string v) (.string zk) (.int .i64 zg) (.slice zA zL.length zc)
  have n9 := kept_set4q (w := w5) w.heap.size (.string v) (.string zk) (.int .i64 zg) (.slice zA zL.length zc)
  have R9 := Lib.hid (RY.other h5 n9 HQ.out)
  have K9 := Lib.hid ((K1.out.on k5).own n9 (Nat.le_refl _))
  have O9 := Lib.hid ((ho5.lower (w0 := w) K1.out.size).kept1 n9 HZ5.out (by decide) (by decide))
  have HW : Hid (Went mutP l i e ((v, ⟨zk, zg, ros zL⟩) : ByteArray × Pa) j5 f5) := Lib.hid (HW1.out.bind (hw5.bind (Went.ret _ hw5.len f5)))
  have HJ := Lib.hid hj5
  clear n9 h5 k5 hw5 hj5 ho5
  go_wp2
  generalize World.setCell (World.setCell (World.setCell (World.setCell w5 ⟨w.heap.size, 0, none⟩ (.string v)) ⟨w.heap.size, 1, none⟩ (.string zk)) ⟨w.heap.size, 2, none⟩ (.int .i64 zg)) ⟨w.heap.size, 3, none⟩ (.slice zA zL.length zc) = w9 at m9 K9 R9 O9 ⊢
  clear z0 z1 z2 z3 y0 y1 y2 y3
  have q0 := cell_at (i := 0) m9 rfl
  have q1 := cell_at (i := 1) m9 rfl
  have q2 := cell_at (i := 2) m9 rfl
  have q3 := cell_at (i := 3) m9 rfl
  refine bodyPost_ret (v := .agg #[.string v, .string zk, .int .i64 zg, .slice zA zL.length zc]) ?_ rfl ?_
  · simp [results, Try.results60, go_sem, q0, q1, q2, q3]
  · exact ⟨⟨v, ⟨zk, zg, zL, zA, zc⟩⟩, j5, f5, rfl, O9.out, HJ.out, R9.out, K9.out, HW.out⟩
set_option maxRecDepth 8000 in
set_option maxHeartbeats 2000000 in
theorem ymuts (YI : InnerOk) (q i n c : Nat) (e : Int) (A : Option Addr) (l : Bs) (w : World) (h : RY w q A n c l i e) (hi : i ≤ n) (hs : n ≤ 900000) :
    Calls Try.prog 59 #[.pointer (some ⟨q, 0, none⟩), .func (.func 60) #[] #[]] w fun x w' => ∃ (Ks : List MA) (A' : Option Addr) (m c' j : Nat) (f : Int), x = .returned (.slice A' m c') ∧ MutsQ w w' A' m c' Ks ∧ Ks.length = m ∧ m ≤ n ∧ j ≤ n ∧ RY w' q A n c l j f ∧ KeptQ q w w' ∧ Went (listP mutP) l i e (muts Ks) j f := by
  have hqw := h.lt
  have HQ := Lib.hid hqw; have HS := Lib.hid hs
  go_enter Try.func59, Try.ntmps59
  go_wp2_with fail
  refine (ycount q i n c e A l w h hi (by omega)).mono ?_
  rintro x w1 ⟨m, j0, f0, rfl, hm, hf00, hj0, h1, k1, hw1⟩
  have hmn : m ≤ n := by omega
  have HM := Lib.hid hmn; have HF0 := Lib.hid hf00; have HJ0 := Lib.hid hj0; have H1 := Lib.hid h1; have K1 := Lib.hid k1; have HW1 := Lib.hid hw1
  clear hm hf00 hj0 h1 k1 hw1 h hi hs hqw hmn
  go_wp2_with fail
  go_loopw [5, 9] (fun a i' wr => ∃ (t : Nat) (Ks : List MA) (A' : Option Addr) (c' j : Nat) (f : Int), a = .slice A' t c' ∧ i' = .int .i64 t ∧ Ks.length = t ∧ t ≤ m ∧ (f ≠ 0 → m = 0) ∧ j ≤ n ∧ RY wr q A n c l j f ∧ KeptQ q w wr ∧ (MutsQ w wr A' t c' Ks) ∧ Loops mutP l m j0 f0 (muts Ks) j f) (fun _ i' _ => m - (intOf i').toNat)
  case atStart => exact ⟨0, [], none, 0, j0, f0, rfl, rfl, rfl, Nat.zero_le _, HF0.out, HJ0.out, H1.out, K1.out, MutsQ.nil _ _, Loops.start _ _ HW1.out.len _⟩
  case round =>
    obtain ⟨t, Ks, A3, c3, j, f, rfl, rfl, ht, htm, hfm, hj, hr, hk, hmine, hl⟩ := hrel
    have i8 : m ≤ 900000 := by have := HM.out; have := HS.out; omega
    have HRY := Lib.hid hr; have HKR := Lib.hid hk; have HLR := Lib.hid hl; have HT := Lib.hid ht; have HJ := Lib.hid hj; have HFM := Lib.hid hfm
    clear hr hk hl ht hj hfm
    by_cases hlt : t < m
    · have i1 : (t : Int) < m := by omega
      have hf : f = 0 := Decidable.byContradiction fun hf => by have := HFM.out hf; omega
      subst hf
      have HMI := Lib.hid hmine
      clear hmine
      go_wp2_with fail
      refine (ymut YI q j n c 0 A l wr HRY.out HJ.out (by have := HS.out; omega)).mono ?_
      rintro x w2 ⟨y, j2, f2, rfl, hoc, hj2, h2, k2, hw2⟩
      have hmine := HMI.out
      have hm2 := hmine.kept1 k2 HRY.out.blk
      have hk2 := HKR.out.on k2
      have ba := (Below.refl w2.heap.size w2).alloc (Nat.le_refl _) (.cells #[.string y.tb, .string y.p.k, .int .i64 y.p.g, .slice y.p.A y.p.L.length y.p.c] 49)
      have hstep := HLR.out.step (by rw [List.length_map, HT.out]; exact hlt) hw2
      by_cases hf2 : f2 = 0
      · subst hf2
        obtain ⟨U, hU⟩ : ∃ U, U = w2.alloc (.cells #[.string y.tb, .string y.p.k, .int .i64 y.p.g, .slice y.p.A y.p.L.length y.p.c] 49) := ⟨_, rfl⟩
        have ba2 := (Below.refl (w2.alloc (.cells #[.string y.tb, .string y.p.k, .int .i64 y.p.g, .slice y.p.A y.p.L.length y.p.c] 49)).heap.size (w2.alloc (.cells #[.string y.tb, .string y.p.k, .int .i64 y.p.g, .slice y.p.A y.p.L.length y.p.c] 49))).alloc (Nat.le_refl _) (.cells #[.string y.tb, .string y.p.k, .int .i64 y.p.g, .slice y.p.A y.p.L.length y.p.c] 49)
        have hm8 := (hm2.on ba).on ba2
        have h8 := (h2.below ba).below ba2
        have hk8 := (hk2.new ba).new ba2
        have hsz8 : (w2.alloc (.cells #[.string y.tb, .string y.p.k, .int .i64 y.p.g, .slice y.p.A y.p.L.length y.p.c] 49)).heap.size = w2.heap.size + 1 := by simp
        have hrd8 := RdM.laid (w2.alloc (.cells #[.string y.tb, .string y.p.k, .int .i64 y.p.g, .slice y.p.A y.p.L.length y.p.c] 49)) y
        try rw [hsz8] at hrd8
        have HRD8 := Lib.hid hrd8
        clear hU hsz8 hrd8
        have HOC := Lib.hid (((hoc.lower HKR.out.size).on ba).on ba2)
        have HM8 := Lib.hid hm8; have H8 := Lib.hid h8; have HK8 := Lib.hid hk8; have HST := Lib.hid hstep; have HJ2 := Lib.hid hj2
        obtain ⟨_, _, _⟩ := (h2.below ba).cells
        clear hm8 h8 hk8 hstep hj2 hw2 h2 k2 hm2 hk2 hmine hoc ba ba2
        go_wp2_with (at_builtin; refine list_ex rfl (.tmp 19) (.tmp 21) _ _ rfl (.slice A3 t c3) (.slice (some ⟨w2.heap.size + 1, 0, none⟩) 1 1) rfl rfl (run_appM w.heap.size HM8.out.own HRD8.out ?s3 ?s4) ?_)
        case s3 => omega
        case s4 => exact HK8.out.size
        intro v9 w9 ho9 hg9 _
        obtain ⟨A9, c9, rfl, _⟩ := own_slice ho9
        have h9 := H8.out.grown HM8.out.own HQ.out hg9
        have hk9 := HK8.out.grown HM8.out.own hg9
        have hm9 : MutsQ w w9 A9 (t + 1) c9 (Ks ++ [y]) := HM8.out.snoc HOC.out ho9 hg9
        have H9 := Lib.hid h9; have HK9 := Lib.hid hk9; have HM9 := Lib.hid hm9
        clear h9 hk9 hm9 ho9 hg9
        go_wp2
        go_roundw
        case rel => exact ⟨t + 1, Ks ++ [y], A9, c9, j2, 0, rfl, by go_num, by rw [List.length_append, HT.out]; rfl, by omega, fun h => absurd rfl h, HJ2.out, H9.out, HK9.out, HM9.out, by have := HST.out; simpa using this⟩
        case measure => simp [intOf]; omega
      · have e0 : (f2 == 0) = false := by simp; exact hf2
        have hw := (Loops.list HW1.out hstep (fun e => absurd e hf2)).any hf2 ([] : List (ByteArray × Pa))
        have HW := Lib.hid hw; have HJ2 := Lib.hid hj2; have HH := Lib.hid (h2.below ba); have HKK := Lib.hid (hk2.new ba)
        obtain ⟨_, _, _⟩ := HH.out.cells
        clear hw hstep hw2 h2 k2 hm2 hk2 hmine hj2 hf2 hoc ba
        go_wp2
        go_ret
        exact ⟨[], none, 0, 0, j2, f2, rfl, MutsQ.nil _ _, rfl, Nat.zero_le _, HJ2.out, HH.out, HKK.out, HW.out⟩
    · obtain rfl : t = m := by omega
      have hw := Loops.list HW1.out HLR.out (fun _ => by rw [List.length_map, HT.out])
      have HW := Lib.hid hw; have HMI := Lib.hid hmine
      clear hw hmine
      go_wp2
      go_ret
      exact ⟨Ks, A3, t, c3, j, f, rfl, HMI.out, HT.out, HM.out, HJ.out, HRY.out, HKR.out, HW.out⟩

set_option maxRecDepth 8000 in
set_option maxHeartbeats 2000000 in
theorem ynotes (q i n c : Nat) (e : Int) (A : Option Addr) (l : Bs) (w : World) (h : RY w q A n c l i e) (hi : i ≤ n) (hs : n ≤ 900000) :
    Calls Try.prog 61 #[.pointer (some ⟨q, 0, none⟩), .func (.func 62) #[] #[]] w fun x w' => ∃ (Ks : List NA) (A' : Option Addr) (m c' j : Nat) (f : Int), x = .returned (.slice A' m c') ∧ w'.ownsRow w.heap.size 51 2 (.slice A' m c') m (nRow Ks) ∧ Ks.length = m ∧ m ≤ n ∧ j ≤ n ∧ RY w' q A n c l j f ∧ KeptQ q w w' ∧ Went (listP addP) l i e (Ks) j f := by
  have hqw := h.lt
  have HQ := Lib.hid hqw; have HS := Lib.hid hs
  go_enter Try.func61, Try.ntmps61
  go_wp2_with fail
  refine (ycount q i n c e A l w h hi (by omega)).mono ?_
  rintro x w1 ⟨m, j0, f0, rfl, hm, hf00, hj0, h1, k1, hw1⟩
  have hmn : m ≤ n := by omega
  have HM := Lib.hid hmn; have HF0 := Lib.hid hf00; have HJ0 := Lib.hid hj0; have H1 := Lib.hid h1; have K1 := Lib.hid k1; have HW1 := Lib.hid hw1
  clear hm hf00 hj0 h1 k1 hw1 h hi hs hqw hmn
  go_wp2_with fail
  go_loopw [5, 9] (fun a i' wr => ∃ (t : Nat) (Ks : List NA) (A' : Option Addr) (c' j : Nat) (f : Int), a = .slice A' t c' ∧ i' = .int .i64 t ∧ Ks.length = t ∧ t ≤ m ∧ (f ≠ 0 → m = 0) ∧ j ≤ n ∧ RY wr q A n c l j f ∧ KeptQ q w wr ∧ (wr.ownsRow w.heap.size 51 2 (.slice A' t c') t (nRow Ks)) ∧ Loops addP l m j0 f0 (Ks) j f) (fun _ i' _ => m - (intOf i').toNat)
  case atStart => exact ⟨0, [], none, 0, j0, f0, rfl, rfl, rfl, Nat.zero_le _, HF0.out, HJ0.out, H1.out, K1.out, own_nilN _ _, Loops.start _ _ HW1.out.len _⟩
  case round =>
    obtain ⟨t, Ks, A3, c3, j, f, rfl, rfl, ht, htm, hfm, hj, hr, hk, hmine, hl⟩ := hrel
    have i8 : m ≤ 900000 := by have := HM.out; have := HS.out; omega
    have HRY := Lib.hid hr; have HKR := Lib.hid hk; have HLR := Lib.hid hl; have HT := Lib.hid ht; have HJ := Lib.hid hj; have HFM := Lib.hid hfm
    clear hr hk hl ht hj hfm
    by_cases hlt : t < m
    · have i1 : (t : Int) < m := by omega
      have hf : f = 0 := Decidable.byContradiction fun hf => by have := HFM.out hf; omega
      subst hf
      have HMI := Lib.hid hmine
      clear hmine
      go_wp2_with fail
      refine (ynote q j n c 0 A l wr HRY.out HJ.out (by have := HS.out; omega)).mono ?_
      rintro x w2 ⟨y, j2, f2, rfl, hy1, hj2, h2, k2, hw2⟩
      have hmine := HMI.out
      have hm2 := own_keptQ hmine k2 HRY.out.blk (by decide)
      have hk2 := HKR.out.on k2
      have ba := (Below.refl w2.heap.size w2).alloc (Nat.le_refl _) (.cells #[.int .i64 y.1, .string y.2] 51)
      have hstep := HLR.out.step (by rw [HT.out]; exact hlt) hw2
      by_cases hf2 : f2 = 0
      · subst hf2
        obtain ⟨U, hU⟩ : ∃ U, U = w2.alloc (.cells #[.int .i64 y.1, .string y.2] 51) := ⟨_, rfl⟩
        have ba2 := (Below.refl (w2.alloc (.cells #[.int .i64 y.1, .string y.2] 51)).heap.size (w2.alloc (.cells #[.int .i64 y.1, .string y.2] 51))).alloc (Nat.le_refl _) (.cells #[.int .i64 y.1, .string y.2] 51)
        have hm8 := own_below (own_below hm2 ba) ba2
        have h8 := (h2.below ba).below ba2
        have hk8 := (hk2.new ba).new ba2
        have hsz8 : (w2.alloc (.cells #[.int .i64 y.1, .string y.2] 51)).heap.size = w2.heap.size + 1 := by simp
        have hrd8 := RdN.laid (w2.alloc (.cells #[.int .i64 y.1, .string y.2] 51)) y
        try rw [hsz8] at hrd8
        have HRD8 := Lib.hid hrd8
        clear hU hsz8 hrd8
        have HM8 := Lib.hid hm8; have H8 := Lib.hid h8; have HK8 := Lib.hid hk8; have HST := Lib.hid hstep; have HJ2 := Lib.hid hj2
        obtain ⟨_, _, _⟩ := (h2.below ba).cells
        clear hm8 h8 hk8 hstep hj2 hw2 h2 k2 hm2 hk2 hmine hy1 ba ba2
        go_wp2_with (at_builtin; refine list_ex rfl (.tmp 19) (.tmp 21) _ _ rfl (.slice A3 t c3) (.slice (some ⟨w2.heap.size + 1, 0, none⟩) 1 1) rfl rfl (run_appN w.heap.size HM8.out HRD8.out ?s3 ?s4) ?_)
        case s3 => omega
        case s4 => exact HK8.out.size
        intro v9 w9 ho9 hg9 _
        obtain ⟨A9, c9, rfl, _⟩ := own_slice ho9
        have h9 := H8.out.grown HM8.out HQ.out hg9
        have hk9 := HK8.out.grown HM8.out hg9
        have hm9 : w9.ownsRow w.heap.size 51 2 (.slice A9 (t + 1) c9) (t + 1) (nRow (Ks ++ [y])) := ho9
        have H9 := Lib.hid h9; have HK9 := Lib.hid hk9; have HM9 := Lib.hid hm9
        clear h9 hk9 hm9 ho9 hg9
        go_wp2
        go_roundw
        case rel => exact ⟨t + 1, Ks ++ [y], A9, c9, j2, 0, rfl, by go_num, by rw [List.length_append, HT.out]; rfl, by omega, fun h => absurd rfl h, HJ2.out, H9.out, HK9.out, HM9.out, by exact HST.out⟩
        case measure => simp [intOf]; omega
      · have e0 : (f2 == 0) = false := by simp; exact hf2
        have hw := (Loops.list HW1.out hstep (fun e => absurd e hf2)).any hf2 ([] : List NA)
        have HW := Lib.hid hw; have HJ2 := Lib.hid hj2; have HH := Lib.hid (h2.below ba); have HKK := Lib.hid (hk2.new ba)
        obtain ⟨_, _, _⟩ := HH.out.cells
        clear hw hstep hw2 h2 k2 hm2 hk2 hmine hj2 hf2 hy1 ba
        go_wp2
        go_ret
        exact ⟨[], none, 0, 0, j2, f2, rfl, own_nilN _ _, rfl, Nat.zero_le _, HJ2.out, HH.out, HKK.out, HW.out⟩
    · obtain rfl : t = m := by omega
      have hw := Loops.list HW1.out HLR.out (fun _ => by rw [HT.out])
      have HW := Lib.hid hw; have HMI := Lib.hid hmine
      clear hw hmine
      go_wp2
      go_ret
      exact ⟨Ks, A3, t, c3, j, f, rfl, HMI.out, HT.out, HM.out, HJ.out, HRY.out, HKR.out, HW.out⟩

set_option maxRecDepth 8000 in
set_option maxHeartbeats 2000000 in
theorem yints (q i n c : Nat) (e : Int) (A : Option Addr) (l : Bs) (w : World) (h : RY w q A n c l i e) (hi : i ≤ n) (hs : n ≤ 900000) :
    Calls Try.prog 63 #[.pointer (some ⟨q, 0, none⟩), .func (.func 50) #[] #[]] w fun x w' => ∃ (Ks : List Int) (A' : Option Addr) (m c' j : Nat) (f : Int), x = .returned (.slice A' m c') ∧ w'.ownsRow w.heap.size 3 1 (.slice A' m c') m (zRow Ks) ∧ Ks.length = m ∧ m ≤ n ∧ j ≤ n ∧ RY w' q A n c l j f ∧ KeptQ q w w' ∧ Went (listP numP) l i e (Ks) j f := by
  have hqw := h.lt
  have HQ := Lib.hid hqw; have HS := Lib.hid hs
  go_enter Try.func63, Try.ntmps63
  go_wp2_with fail
  refine (ycount q i n c e A l w h hi (by omega)).mono ?_
  rintro x w1 ⟨m, j0, f0, rfl, hm, hf00, hj0, h1, k1, hw1⟩
  have hmn : m ≤ n := by omega
  have HM := Lib.hid hmn; have HF0 := Lib.hid hf00; have HJ0 := Lib.hid hj0; have H1 := Lib.hid h1; have K1 := Lib.hid k1; have HW1 := Lib.hid hw1
  clear hm hf00 hj0 h1 k1 hw1 h hi hs hqw hmn
  go_wp2_with fail
  go_loopw [5, 9] (fun a i' wr => ∃ (t : Nat) (Ks : List Int) (A' : Option Addr) (c' j : Nat) (f : Int), a = .slice A' t c' ∧ i' = .int .i64 t ∧ Ks.length = t ∧ t ≤ m ∧ (f ≠ 0 → m = 0) ∧ j ≤ n ∧ RY wr q A n c l j f ∧ KeptQ q w wr ∧ (wr.ownsRow w.heap.size 3 1 (.slice A' t c') t (zRow Ks)) ∧ Loops numP l m j0 f0 (Ks) j f) (fun _ i' _ => m - (intOf i').toNat)
  case atStart => exact ⟨0, [], none, 0, j0, f0, rfl, rfl, rfl, Nat.zero_le _, HF0.out, HJ0.out, H1.out, K1.out, own_nilZ _ _, Loops.start _ _ HW1.out.len _⟩
  case round =>
    obtain ⟨t, Ks, A3, c3, j, f, rfl, rfl, ht, htm, hfm, hj, hr, hk, hmine, hl⟩ := hrel
    have i8 : m ≤ 900000 := by have := HM.out; have := HS.out; omega
    have HRY := Lib.hid hr; have HKR := Lib.hid hk; have HLR := Lib.hid hl; have HT := Lib.hid ht; have HJ := Lib.hid hj; have HFM := Lib.hid hfm
    clear hr hk hl ht hj hfm
    by_cases hlt : t < m
    · have i1 : (t : Int) < m := by omega
      have hf : f = 0 := Decidable.byContradiction fun hf => by have := HFM.out hf; omega
      subst hf
      have HMI := Lib.hid hmine
      clear hmine
      go_wp2_with fail
      refine (ystamp q j n c 0 A l wr HRY.out HJ.out (by have := HS.out; omega)).mono ?_
      rintro x w2 ⟨y, j2, f2, rfl, hy1, hy2, hj2, h2, k2, hw2⟩
      have hmine := HMI.out
      have hm2 := own_keptQ hmine k2 HRY.out.blk (by decide)
      have hk2 := HKR.out.on k2
      have hstep := HLR.out.step (by rw [HT.out]; exact hlt) hw2
      by_cases hf2 : f2 = 0
      · subst hf2
        have ba := (Below.refl w2.heap.size w2).alloc (Nat.le_refl _) (.cells #[.int .i64 y] 3)
        have hm8 := own_below hm2 ba
        have h8 := h2.below ba
        have hk8 := hk2.new ba
        have HRD8 := Lib.hid (RdZ.lay1 w2 y)
        have HM8 := Lib.hid hm8; have H8 := Lib.hid h8; have HK8 := Lib.hid hk8; have HST := Lib.hid hstep; have HJ2 := Lib.hid hj2
        obtain ⟨_, _, _⟩ := h2.cells
        clear hm8 h8 hk8 hstep hj2 hw2 h2 k2 hm2 hk2 hmine hy1 hy2 ba
        go_wp2_with (at_builtin; refine list_ex rfl (.tmp 19) (.tmp 21) _ _ rfl (.slice A3 t c3) (.slice (some ⟨w2.heap.size, 0, none⟩) 1 1) rfl rfl (run_appZ w.heap.size HM8.out HRD8.out ?s3 ?s4) ?_)
        case s3 => omega
        case s4 => exact HK8.out.size
        intro v9 w9 ho9 hg9 _
        obtain ⟨A9, c9, rfl, _⟩ := own_slice ho9
        have h9 := H8.out.grown HM8.out HQ.out hg9
        have hk9 := HK8.out.grown HM8.out hg9
        have hm9 : w9.ownsRow w.heap.size 3 1 (.slice A9 (t + 1) c9) (t + 1) (zRow (Ks ++ [y])) := (by unfold zRow; rw [List.map_append]; exact ho9)
        have H9 := Lib.hid h9; have HK9 := Lib.hid hk9; have HM9 := Lib.hid hm9
        clear h9 hk9 hm9 ho9 hg9
        go_wp2
        go_roundw
        case rel => exact ⟨t + 1, Ks ++ [y], A9, c9, j2, 0, rfl, by go_num, by rw [List.length_append, HT.out]; rfl, by omega, fun h => absurd rfl h, HJ2.out, H9.out, HK9.out, HM9.out, by exact HST.out⟩
        case measure => simp [intOf]; omega
      · have e0 : (f2 == 0) = false := by simp; exact hf2
        have hw := (Loops.list HW1.out hstep (fun e => absurd e hf2)).any hf2 ([] : List Int)
        have HW := Lib.hid hw; have HJ2 := Lib.hid hj2; have HH := Lib.hid (h2); have HKK := Lib.hid (hk2)
        obtain ⟨_, _, _⟩ := HH.out.cells
        clear hw hstep hw2 h2 k2 hm2 hk2 hmine hj2 hf2 hy1 hy2 
        go_wp2
        go_ret
        exact ⟨[], none, 0, 0, j2, f2, rfl, own_nilZ _ _, rfl, Nat.zero_le _, HJ2.out, HH.out, HKK.out, HW.out⟩
    · obtain rfl : t = m := by omega
      have hw := Loops.list HW1.out HLR.out (fun _ => by rw [HT.out])
      have HW := Lib.hid hw; have HMI := Lib.hid hmine
      clear hw hmine
      go_wp2
      go_ret
      exact ⟨Ks, A3, t, c3, j, f, rfl, HMI.out, HT.out, HM.out, HJ.out, HRY.out, HKR.out, HW.out⟩

end Go.Proofs.Ythfanonjokpflaa
set_option linter.unusedVariables false
set_option linter.unusedSimpArgs false
namespace Go.Proofs.Ythfanonjokpflaa
open Go Go.RowKit

def Bt.Tr (b : Bt) : Prop := (b.muts.length < 18446744073709551616 ∧ ∀ m ∈ b.muts, m.1.size < 18446744073709551616 ∧ m.2.Gd) ∧ ((b.add.length < 18446744073709551616 ∧ ∀ x ∈ b.add, Stm x.1 ∧ x.2.size < 18446744073709551616) ∧ (b.drop.length < 18446744073709551616 ∧ ∀ v ∈ b.drop, Stm v))
theorem batch_codecT : Codec batchP bE Bt.Gd Bt.Tr :=
  batchT_codec.map (fun z => (⟨z.1, z.2.1, z.2.2⟩ : Bt)) (fun b => (b.muts, b.add, b.drop)) Bt.Gd Bt.Tr (fun _ _ => rfl) (fun _ h => h) (fun _ _ => rfl) (fun _ h => h)
theorem Went.batchL {l : Bs} {i j1 j2 j : Nat} {e f1 f2 f : Int} {M : List (ByteArray × Pa)} {N : List (Int × ByteArray)} {D : List Int} (H1 : Went (listP mutP) l i e M j1 f1) (H2 : Went (listP addP) l j1 f1 N j2 f2) (H6 : Went (listP numP) l j2 f2 D j f) : Went batchP l i e (⟨M, N, D⟩ : Bt) j f := by
  have W1 : Went (bindP (listP addP) fun a => bindP (listP numP) fun d => retP (a, d)) l j1 f1 (N, D) j f := H2.bind (H6.bind (Went.ret (N, D) H6.len f))
  have W2 : Went batchT l i e (M, (N, D)) j f := H1.bind (W1.bind (Went.ret (M, (N, D)) H6.len f))
  exact W2.map (q := fun z => (⟨z.1, z.2.1, z.2.2⟩ : Bt))
/-- A batch of one's own. -/
structure BatQ (w0 w : World) (z : BA) : Prop where
  muts : MutsQ w0 w z.AM z.M.length z.cM z.M
  notes : w.ownsRow w0.heap.size 51 2 (.slice z.AN z.N.length z.cN) z.N.length (nRow z.N)
  drops : w.ownsRow w0.heap.size 3 1 (.slice z.AD z.D.length z.cD) z.D.length (zRow z.D)
theorem BatQ.on {w0 w w' : World} {z : BA} (h : BatQ w0 w z) (hb : Below w.heap.size w w') : BatQ w0 w' z := ⟨h.muts.on hb, own_below h.notes hb, own_below h.drops hb⟩
theorem BatQ.lower {w0 w1 w : World} {z : BA} (h : BatQ w1 w z) (hb : w0.heap.size ≤ w1.heap.size) : BatQ w0 w z := ⟨h.muts.lower hb, own_down h.notes hb, own_down h.drops hb⟩
theorem BatQ.keptB {w0 w w' : World} {z : BA} {r : Nat} {cs : Array Value} (h : BatQ w0 w z) (hk : Kept (fun k => k = r) w w') (hr : w.heap[r]? = some (.cells cs 29 (0, 0))) : BatQ w0 w' z :=
  ⟨h.muts.kept3 hk hr (by decide) (by decide) (by decide), own_keptQ h.notes hk hr (by decide), own_keptQ h.drops hk hr (by decide)⟩
theorem BatQ.keptR {w0 w w' : World} {z : BA} {r : Nat} {cs : Array Value} (h : BatQ w0 w z) (hk : Kept (fun k => k = r) w w') (hr : w.heap[r]? = some (.cells cs 97 (0, 0))) : BatQ w0 w' z :=
  ⟨h.muts.kept1 hk hr, own_keptQ h.notes hk hr (by decide), own_keptQ h.drops hk hr (by decide)⟩
theorem own_capQ {w : World} {b n c size : Nat} {T : TypeId} {A : Option Addr} {xs : List Value} (h : w.ownsRow b T size (.slice A n c) n xs) : n ≤ c := by
  obtain ⟨_, _, e, h1, _⟩ := own_slice h
  injection e with _ _ e3
  subst e3
  exact h1
theorem BatQ.lies {w0 w : World} {z : BA} (h : BatQ w0 w z) : LiesB w w.heap.size z := ⟨h.muts.lies, RdN.of_own h.notes, RdZ.ofOwn h.drops, own_capQ h.notes, own_capQ h.drops⟩
set_option maxRecDepth 8000 in
set_option maxHeartbeats 2000000 in
theorem ybatch (YI : InnerOk) (q i n c : Nat) (e : Int) (A : Option Addr) (l : Bs) (w : World) (h : RY w q A n c l i e) (hi : i ≤ n) (hs : n ≤ 900000) :
    Calls Try.prog 31 #[.pointer (some ⟨q, 0, none⟩)] w fun x w' => ∃ (z : BA) (j : Nat) (f : Int), x = .returned (bV z) ∧ BatQ w w' z ∧ j ≤ n ∧ RY w' q A n c l j f ∧ KeptQ q w w' ∧ Went batchP l i e z.bt j f := by
  have hqw := h.lt
  have bz := (Below.refl w.heap.size w).alloc (Nat.le_refl _) (.cells #[.slice none 0 0, .slice none 0 0, .slice none 0 0] 29)
  have hz := heap_alloc_new w (.cells #[.slice none 0 0, .slice none 0 0, .slice none 0 0] 29)
  have h0 := h.below bz
  obtain ⟨V, hV⟩ : ∃ V, V = w.alloc (.cells #[.slice none 0 0, .slice none 0 0, .slice none 0 0] 29) := ⟨_, rfl⟩
  rw [← hV] at bz hz h0
  have H0 := Lib.hid h0; have HZ0 := Lib.hid hz; have BZ := Lib.hid bz; have HQ := Lib.hid hqw; have HS := Lib.hid hs
  clear h bz hz h0 hqw hs
  go_enter Try.func31, Try.ntmps31
  go_wp2_with fail
  rw [← hV]
  clear hV
  refine (ymuts YI q i n c e A l _ H0.out hi HS.out).mono ?_
  rintro x w1 ⟨M, A1, m1, c1, j1, f1, rfl, ho1, hl1, _, hj1, h1, k1, hw1⟩
  have H1 := Lib.hid h1; have HZ1 := Lib.hid (Kept.atQ k1 HZ0.out (by have := HQ.out; omega)); have K1 := Lib.hid (KeptQ.on (Kept.of_below BZ.out _) k1); have HW1 := Lib.hid hw1; have HJ1 := Lib.hid hj1; have HL1 := Lib.hid hl1
  have HO1 := Lib.hid (ho1.lower (w0 := w) BZ.out.size)
  clear h1 k1 hw1 hj1 hi ho1 hl1
  go_wp2_with fail
  refine (ynotes q j1 n c f1 A l _ H1.out HJ1.out HS.out).mono ?_
  rintro x w3 ⟨N, A3, m3, c3, j3, f3, rfl, ho3, hl3, _, hj3, h3, k3, hw3⟩
  have H3 := Lib.hid h3; have HZ3 := Lib.hid (Kept.atQ k3 HZ1.out (by have := HQ.out; omega)); have HO13 := Lib.hid (HO1.out.kept1 k3 H1.out.blk); have HO3 := Lib.hid (own_down ho3 K1.out.size); have K3 := Lib.hid (K1.out.on k3); have HW3 := Lib.hid hw3; have HJ3 := Lib.hid hj3; have HL3 := Lib.hid hl3
  clear h3 k3 hw3 hj3 ho3 hl3
  go_wp2_with fail
  refine (yints q j3 n c f3 A l _ H3.out HJ3.out HS.out).mono ?_
  rintro x w5 ⟨D, A5, m5, c5, j5, f5, rfl, ho5, hl5, _, hj5, h5, k5, hw5⟩
  have HZ5 := Lib.hid (Kept.atQ k5 HZ3.out (by have := HQ.out; omega))
  have hb5 : BatQ w w5 ⟨A1, c1, M, A3, c3, N, A5, c5, D⟩ := by
    have e1 := HL1.out
    have e3 := HL3.out
    subst e1
    subst e3
    subst hl5
    exact ⟨HO13.out.kept1 k5 H3.out.blk, own_keptQ HO3.out k5 H3.out.blk (by decide), own_down ho5 K3.out.size⟩
  have z0 := cell_at (i := 0) HZ5.out rfl
  have z1 := cell_at (i := 1) HZ5.out rfl
  have z2 := cell_at (i := 2) HZ5.out rfl
  have y0 := thawed_at (i := 0) HZ5.out
  have y1 := thawed_at (i := 1) HZ5.out
  have y2 := thawed_at (i := 2) HZ5.out
  have m9 := set3Q_block HZ5.out (.slice A1 m1 c1) (.slice A3 m3 c3) (.slice A5 m5 c5)
  have n9 := kept_set3Q (w := w5) w.heap.size (.slice A1 m1 c1) (.slice A3 m3 c3) (.slice A5 m5 c5)
  have R9 := Lib.hid (RY.other h5 n9 HQ.out)
  have K9 := Lib.hid ((K3.out.on k5).own n9 (Nat.le_refl _))
  have O9 := Lib.hid (hb5.keptB n9 HZ5.out)
  have HW : Hid (Went batchP l i e (⟨muts M, N, D⟩ : Bt) j5 f5) := Lib.hid (HW1.out.batchL HW3.out hw5)
  have HJ := Lib.hid hj5; have HL5 := Lib.hid hl5
  clear n9 h5 k5 hw5 hj5 ho5 hb5 hl5
  go_wp2
  generalize World.setCell (World.setCell (World.setCell w5 ⟨w.heap.size, 0, none⟩ (.slice A1 m1 c1)) ⟨w.heap.size, 1, none⟩ (.slice A3 m3 c3)) ⟨w.heap.size, 2, none⟩ (.slice A5 m5 c5) = w9 at m9 K9 R9 O9 ⊢
  clear z0 z1 z2 y0 y1 y2
  have q0 := cell_at (i := 0) m9 rfl
  have q1 := cell_at (i := 1) m9 rfl
  have q2 := cell_at (i := 2) m9 rfl
  refine bodyPost_ret (v := .agg #[.slice A1 m1 c1, .slice A3 m3 c3, .slice A5 m5 c5]) ?_ rfl ?_
  · simp [results, Try.results31, go_sem, q0, q1, q2]
  · have e1 := HL1.out
    have e3 := HL3.out
    have e5 := HL5.out
    subst e1
    subst e3
    subst e5
    exact ⟨⟨A1, c1, M, A3, c3, N, A5, c5, D⟩, j5, f5, rfl, O9.out, HJ.out, R9.out, K9.out, HW.out⟩
/-- A call that hands back a batch, or what is wrong. -/
def GivesH (w : World) (r : Except Int Bt) (x : Ending) (w' : World) : Prop := match r with
  | .ok p => ∃ z : BA, z.bt = p ∧ x = .returned (.tuple #[bV z, .int .i64 0]) ∧ BatQ w w' z ∧ Below w.heap.size w w'
  | .error e => x = .returned (.tuple #[.agg #[.slice none 0 0, .slice none 0 0, .slice none 0 0], .int .i64 e]) ∧ Below w.heap.size w w'
theorem btF_of {z : BA} (h : z.bt.Tr) {n : Nat} (hN : n ≤ 900000) (hn : (bE z.bt).length ≤ n) : BtF z := by
  obtain ⟨⟨h1, h2⟩, ⟨h3, h4⟩, h5, h6⟩ := h
  unfold bE at hn
  simp only [List.length_append] at hn
  have l1 : (muts z.M).length ≤ ((muts z.M).flatMap mE).length := flat_length fun x _ => tE_pos x.1 _
  have l2 : z.N.length ≤ (z.N.flatMap aE).length := flat_length fun x _ => by unfold aE; rw [List.length_append]; have := numL_pos x.1.toNat; omega
  have l3 : z.D.length ≤ (z.D.flatMap fun v => numL v.toNat).length := flat_length fun x _ => numL_pos x.toNat
  have e1 : (z.bt.muts.flatMap mE).length = ((muts z.M).flatMap mE).length := rfl
  have e2 : (z.bt.add.flatMap aE).length = (z.N.flatMap aE).length := rfl
  have e3 : (z.bt.drop.flatMap fun v => numL v.toNat).length = (z.D.flatMap fun v => numL v.toNat).length := rfl
  rw [List.length_map] at l1
  refine ⟨fun y hy => ?_, fun y hy => ?_, by omega, by omega, by omega⟩
  · have hm : mutOf y ∈ z.bt.muts := List.mem_map.2 ⟨y, hy, rfl⟩
    have l4 : (mE (mutOf y)).length ≤ ((muts z.M).flatMap mE).length := flat_in hm
    have l5 : (mE (mutOf y)).length = (tE y.tb).length + ((numL (pE (mutOf y).2).length).length + (pE (mutOf y).2).length) := by
      unfold mE
      simp only [List.length_append]
      rfl
    have l6 := tE_size y.tb
    have hgd := (h2 _ hm).2
    have hpn : (pE (mutOf y).2).length ≤ n := by omega
    have hp := pa_sizes hgd hpn
    have hpl : y.p.L.length ≤ n := by
      have := hp.2.1
      unfold mutOf at this
      dsimp only at this
      rw [List.length_map] at this
      exact this
    exact ⟨by omega, by omega, few_of_sizes hgd hN hpn rfl⟩
  · have l4 : (aE y).length ≤ (z.N.flatMap aE).length := flat_in hy
    have l5 : (aE y).length = (numL y.1.toNat).length + (tE y.2).length := by unfold aE; rw [List.length_append]
    have l6 := tE_size y.2
    unfold maxLen
    omega
set_option maxRecDepth 8000 in
set_option maxHeartbeats 2000000 in
theorem get_batch (YI : InnerOk) (A : Option Addr) (n c B : Nat) (l : Bs) (w : World) (hr : Rd w B A n l) (hB : B ≤ w.heap.size) (hnc : n ≤ c) (hc : c ≤ maxLen) (hA : A = none → c = 0) :
    Calls Try.prog 30 #[.slice A n c, .func (.func 31) #[] #[], .func (.func 18) #[] #[]] w (GivesH w (getBatch l)) := by
  have hl := hr.1
  have bz := (Below.refl w.heap.size w).alloc (Nat.le_refl _) (.cells #[.slice none 0 0, .slice none 0 0, .slice none 0 0] 29)
  have hz := heap_alloc_new w (.cells #[.slice none 0 0, .slice none 0 0, .slice none 0 0] 29)
  obtain ⟨V1, hV1⟩ : ∃ V, V = w.alloc (.cells #[.slice none 0 0, .slice none 0 0, .slice none 0 0] 29) := ⟨_, rfl⟩
  rw [← hV1] at bz hz
  have hs1 : V1.heap.size = w.heap.size + 1 := by rw [hV1]; simp
  have bz2 := (Below.refl V1.heap.size V1).alloc (Nat.le_refl _) (.cells #[.slice none 0 0, .slice none 0 0, .slice none 0 0] 29)
  have hy := heap_alloc_new V1 (.cells #[.slice none 0 0, .slice none 0 0, .slice none 0 0] 29)
  have hz2 := at_newQ hz (.cells #[.slice none 0 0, .slice none 0 0, .slice none 0 0] 29)
  obtain ⟨V2, hV2⟩ : ∃ V, V = V1.alloc (.cells #[.slice none 0 0, .slice none 0 0, .slice none 0 0] 29) := ⟨_, rfl⟩
  rw [← hV2] at bz2 hy hz2
  rw [hs1] at hy
  have hs2 : V2.heap.size = w.heap.size + 1 + 1 := by rw [hV2, ← hs1]; simp
  have hb2 : Below w.heap.size w V2 := bz.trans (bz2.mono bz.size)
  have HS2 := Lib.hid hs2
  by_cases hbig : 262144 < n
  · have hres : getBatch l = .error 2 := by unfold getBatch getP; rw [if_pos (by omega)]
    rw [hres]
    have d1 : decide ((262144 : Int) < (n : Int)) = true := by simp; omega
    have d2 : decide (262144 < n) = true := by simp; omega
    have HB2 := Lib.hid hb2
    clear hbig hres hs1 bz bz2 hb2 hl hr hB hnc hc hA hs2 hz HS2
    subst hV2
    subst hV1
    have k0 := cell_at (i := 0) hy rfl
    have k1 := cell_at (i := 1) hy rfl
    have k2 := cell_at (i := 2) hy rfl
    have z0 := cell_at (i := 0) hz2 rfl
    have z1 := cell_at (i := 1) hz2 rfl
    have z2 := cell_at (i := 2) hz2 rfl
    have y0 := thawed_at (i := 0) hz2
    have y1 := thawed_at (i := 1) hz2
    have y2 := thawed_at (i := 2) hz2
    clear hz2 hy
    go_enter Try.func30, Try.ntmps30
    go_wp2
    refine bodyPost_ret (v := .tuple #[.agg #[.slice none 0 0, .slice none 0 0, .slice none 0 0], .int .i64 2]) ?_ rfl ?_
    · simp [results, Try.results30, go_sem, z0, z1, z2]
    · exact ⟨rfl, HB2.out⟩
  · have d1 : decide ((262144 : Int) < (n : Int)) = false := by simp; omega
    have d2 : decide (262144 < n) = false := by simp; omega
    have bz3 := (Below.refl V2.heap.size V2).alloc (Nat.le_refl _) (.cells #[.slice A n c, .int .i64 0, .int .i64 0] 97)
    have hrb := heap_alloc_new V2 (.cells #[.slice A n c, .int .i64 0, .int .i64 0] 97)
    have hz3 := at_newQ hz2 (.cells #[.slice A n c, .int .i64 0, .int .i64 0] 97)
    have hy3 := at_newQ hy (.cells #[.slice A n c, .int .i64 0, .int .i64 0] 97)
    obtain ⟨V3, hV3⟩ : ∃ V, V = V2.alloc (.cells #[.slice A n c, .int .i64 0, .int .i64 0] 97) := ⟨_, rfl⟩
    rw [← hV3] at bz3 hrb hz3 hy3
    rw [hs2] at hrb
    have hb3 : Below w.heap.size w V3 := hb2.trans (bz3.mono hb2.size)
    have hry : RY V3 (w.heap.size + 1 + 1) A n c l 0 0 := ⟨hrb, (hr.below (hb3.mono hB)).up (by omega), hnc, hc, hA⟩
    have HRY := Lib.hid hry; have HZ3' := Lib.hid hz3; have HY3' := Lib.hid hy3; have B3' := Lib.hid hb3; have HN := Lib.hid (show n ≤ 262144 by omega); have HL := Lib.hid hl
    clear hry hz3 hy3 hb3 hbig hs1 bz bz2 bz3 hb2 hl hr hB hnc hc hA hs2 hz hz2 hy hrb
    go_enter Try.func30, Try.ntmps30
    go_wp2_with fail
    rw [← hV1, ← hV2, ← hV3]
    clear hV1 hV2 hV3
    refine (ybatch YI (w.heap.size + 1 + 1) 0 n c 0 A l V3 HRY.out (Nat.zero_le _) (by have := HN.out; omega)).mono ?_
    rintro x w1 ⟨z, j, f, rfl, hrows, hj, h1, k1, hw⟩
    have ba := (Below.refl w1.heap.size w1).alloc (Nat.le_refl _) (bO z)
    have hp1 := heap_alloc_new w1 (bO z)
    have hz1 := at_newQ (Kept.atQ k1 HZ3'.out (by omega)) (bO z)
    have hy1 := at_newQ (Kept.atQ k1 HY3'.out (by omega)) (bO z)
    have h1' := h1.below ba
    have hrows1 := hrows.on ba
    have hb1 := B3'.out.trans ((k1.new ba).below (fun k hk => by subst hk; exact Nat.le_trans (Nat.le_add_right _ 2) (Nat.le_refl _)) (Nat.le_trans (Nat.le_refl _) B3'.out.size) : Below w.heap.size V3 _)
    obtain ⟨U1, hU1⟩ : ∃ U, U = w1.alloc (bO z) := ⟨_, rfl⟩
    rw [← hU1] at hp1 hz1 hy1 h1' hrows1 hb1
    have HQW : Hid (w.heap.size + 1 + 1 < w1.heap.size) := Lib.hid h1.lt
    have HP1 := Lib.hid hp1; have HZ1 := Lib.hid hz1; have HY1 := Lib.hid hy1; have H1 := Lib.hid h1'; have HR1 := Lib.hid hrows1; have HB1 := Lib.hid hb1; have HW := Lib.hid hw; have HJ := Lib.hid hj
    clear hp1 hz1 hy1 h1' hrows1 hb1 hw hj h1 k1 hrows ba
    go_wp2_with fail
    rw [← hU1]
    clear hU1
    refine (yend (w.heap.size + 1 + 1) j n c f A l U1 H1.out HJ.out).mono ?_
    rintro x w3 ⟨rfl, h3, k3⟩
    obtain ⟨F, hF⟩ : ∃ F, (if f = 0 ∧ j < n then (6 : Int) else f) = F := ⟨_, rfl⟩
    rw [hF] at h3
    have R3 := Lib.hid h3
    have HZ3 := Lib.hid (Kept.atQ k3 HZ1.out (by omega)); have HY3 := Lib.hid (Kept.atQ k3 HY1.out (by omega)); have HP3 := Lib.hid (Kept.atQ k3 HP1.out (by have := HQW.out; omega))
    have HR3 := Lib.hid (HR1.out.keptR k3 H1.out.blk)
    have B3 := Lib.hid (HB1.out.trans (k3.below (fun k hk => by subst hk; omega) HB1.out.size))
    have hres : F ≠ 0 → getBatch l = .error F := fun h => by
      have hlen := HL.out
      have hnn := HN.out
      unfold getBatch getP
      rw [if_neg (by omega)]
      by_cases hf : f = 0
      · subst hf
        have h5 := HW.out.ok rfl rfl
        rw [List.drop_zero] at h5
        rw [h5]
        dsimp only
        by_cases hjn : j < n
        · rw [if_pos ⟨rfl, hjn⟩] at hF
          rw [if_neg (fun h => by have := congrArg List.length h; rw [List.length_drop, List.length_nil] at this; omega), ← hF]
        · rw [if_neg (fun h => hjn h.2)] at hF
          exact absurd hF.symm h
      · rw [if_neg (fun h => hf h.1)] at hF
        have h5 := HW.out.no rfl hf
        rw [List.drop_zero] at h5
        rw [h5, ← hF]
    have hres0 : F = 0 → batchP l = .ok (z.bt, []) := fun h => by
      have hlen := HL.out
      subst h
      have hf : f = 0 := by
        refine Decidable.byContradiction fun hf => ?_
        rw [if_neg (fun h => hf h.1)] at hF
        exact hf hF
      subst hf
      have hjn : ¬ j < n := fun hjn => by
        rw [if_pos ⟨rfl, hjn⟩] at hF
        cases hF
      have h5 := HW.out.ok rfl rfl
      rw [List.drop_zero, List.drop_eq_nil_of_le (by omega)] at h5
      exact h5
    have HRES := Lib.hid hres; have HRES0 := Lib.hid hres0
    clear hres hres0 h3 k3 hF HZ1 HY1 HP1 H1 HR1 HB1
    obtain ⟨_, _, c2⟩ := R3.out.cells
    by_cases hF0 : F = 0
    · subst hF0
      have hpp := HRES0.out rfl
      have hcn := batch_codecT.canon hpp
      rw [List.append_nil] at hcn
      have hfew : BtF z := btF_of hcn.2 (n := n) (by have := HN.out; omega) (by rw [← hcn.1, HL.out]; exact Nat.le_refl _)
      obtain ⟨u, hu⟩ : ∃ u, z.bt.ok = u := ⟨_, rfl⟩
      have hgp : getBatch l = (if u = true then .ok z.bt else .error 1) := by
        unfold getBatch getP
        rw [if_neg (by have := HN.out; have := HL.out; omega), hpp]
        dsimp only
        rw [if_pos rfl, hu]
      have N := checkBatch_any z w3.heap.size w3 HR3.out.lies (Nat.le_refl _) hfew
      rw [hu] at N
      have HNC := Lib.hid N; have HGP := Lib.hid hgp
      have k0 := cell_at (i := 0) HP3.out rfl
      have k1 := cell_at (i := 1) HP3.out rfl
      have k2 := cell_at (i := 2) HP3.out rfl
      clear hpp hcn hfew hu hgp N HRES HRES0
      go_wp2_with fail
      clear c2
      refine HNC.out.mono ?_
      rintro x w4 ⟨rfl, b4⟩
      have HZ9 := Lib.hid ((b4.block _ (Array.getElem?_eq_some_iff.1 HZ3.out).1).trans HZ3.out)
      have HY9 := Lib.hid ((b4.block _ (Array.getElem?_eq_some_iff.1 HY3.out).1).trans HY3.out)
      have HP9 := Lib.hid ((b4.block _ (Array.getElem?_eq_some_iff.1 HP3.out).1).trans HP3.out)
      have HR9 := Lib.hid (HR3.out.on b4)
      have B4 := Lib.hid (B3.out.trans (b4.mono B3.out.size))
      clear b4 k0 k1 k2
      cases u with
      | false =>
        have k0 := cell_at (i := 0) HY9.out rfl
        have k1 := cell_at (i := 1) HY9.out rfl
        have k2 := cell_at (i := 2) HY9.out rfl
        have m9 := set3Q_block HZ9.out (.slice none 0 0) (.slice none 0 0) (.slice none 0 0)
        have b9 := kept_set3Q (w := w4) w.heap.size (.slice none 0 0) (.slice none 0 0) (.slice none 0 0)
        have z0 := cell_at (i := 0) HZ9.out rfl
        have z1 := cell_at (i := 1) HZ9.out rfl
        have z2 := cell_at (i := 2) HZ9.out rfl
        have y0 := thawed_at (i := 0) HZ9.out
        have y1 := thawed_at (i := 1) HZ9.out
        have y2 := thawed_at (i := 2) HZ9.out
        have B9 := Lib.hid (B4.out.trans (b9.below (fun k hk => by subst hk; exact Nat.le_refl _) B4.out.size))
        clear b9
        go_wp2
        generalize World.setCell (World.setCell (World.setCell w4 ⟨w.heap.size, 0, none⟩ (.slice none 0 0)) ⟨w.heap.size, 1, none⟩ (.slice none 0 0)) ⟨w.heap.size, 2, none⟩ (.slice none 0 0) = w9 at m9 B9 ⊢
        clear z0 z1 z2 y0 y1 y2
        have q0 := cell_at (i := 0) m9 rfl
        have q1 := cell_at (i := 1) m9 rfl
        have q2 := cell_at (i := 2) m9 rfl
        refine bodyPost_ret (v := .tuple #[.agg #[.slice none 0 0, .slice none 0 0, .slice none 0 0], .int .i64 1]) ?_ rfl ?_
        · simp [results, Try.results30, go_sem, q0, q1, q2]
        · rw [HGP.out]
          exact ⟨rfl, B9.out⟩
      | true =>
        have k0 := cell_at (i := 0) HP9.out rfl
        have k1 := cell_at (i := 1) HP9.out rfl
        have k2 := cell_at (i := 2) HP9.out rfl
        have m9 := set3Q_block HZ9.out (.slice z.AM z.M.length z.cM) (.slice z.AN z.N.length z.cN) (.slice z.AD z.D.length z.cD)
        have b9 := kept_set3Q (w := w4) w.heap.size (.slice z.AM z.M.length z.cM) (.slice z.AN z.N.length z.cN) (.slice z.AD z.D.length z.cD)
        have z0 := cell_at (i := 0) HZ9.out rfl
        have z1 := cell_at (i := 1) HZ9.out rfl
        have z2 := cell_at (i := 2) HZ9.out rfl
        have y0 := thawed_at (i := 0) HZ9.out
        have y1 := thawed_at (i := 1) HZ9.out
        have y2 := thawed_at (i := 2) HZ9.out
        have B9 := Lib.hid (show _ ∧ _ from ⟨B4.out.trans (b9.below (fun k hk => by subst hk; exact Nat.le_refl _) B4.out.size), (HR9.out.lower (w0 := w) B3'.out.size).keptB b9 HZ9.out⟩)
        clear b9
        go_wp2
        generalize World.setCell (World.setCell (World.setCell w4 ⟨w.heap.size, 0, none⟩ (.slice z.AM z.M.length z.cM)) ⟨w.heap.size, 1, none⟩ (.slice z.AN z.N.length z.cN)) ⟨w.heap.size, 2, none⟩ (.slice z.AD z.D.length z.cD) = w9 at m9 B9 ⊢
        clear z0 z1 z2 y0 y1 y2
        have q0 := cell_at (i := 0) m9 rfl
        have q1 := cell_at (i := 1) m9 rfl
        have q2 := cell_at (i := 2) m9 rfl
        refine bodyPost_ret (v := .tuple #[.agg #[.slice z.AM z.M.length z.cM, .slice z.AN z.N.length z.cN, .slice z.AD z.D.length z.cD], .int .i64 0]) ?_ rfl ?_
        · simp [results, Try.results30, go_sem, q0, q1, q2]
        · rw [HGP.out]
          exact ⟨z, rfl, rfl, B9.out.2, B9.out.1⟩
    · have e0 : (F == 0) = false := by simp; exact hF0
      have HRR := Lib.hid (HRES.out hF0)
      have HS8 := Lib.hid (show _ ∧ _ ∧ _ ∧ _ from ⟨cell_at (i := 0) HY3.out rfl, cell_at (i := 1) HY3.out rfl, cell_at (i := 2) HY3.out rfl, c2⟩)
      clear hF0 HRES HRES0
      go_wp2_with fail
      clear c2
      refine wp_region_held_drew (S := fun w' => w'.cell? ⟨w.heap.size + 1, 0, none⟩ = some (.slice none 0 0) ∧ w'.cell? ⟨w.heap.size + 1, 1, none⟩ = some (.slice none 0 0) ∧ w'.cell? ⟨w.heap.size + 1, 2, none⟩ = some (.slice none 0 0) ∧ w'.cell? ⟨w.heap.size + 1 + 1, 2, none⟩ = some (.int .i64 F)) (by kernel_rfl) ?_ (fun hHeld => ?_)
      · exact HS8.out
      refine takesH [0, 1, 2] ?_
      repeat
        refine takesH_one (v := ?_) ?_ ?_
        rotate_left
        · first | (refine Or.inr ⟨by rfl, ?_⟩; with_reducible rfl) | (refine Or.inl ⟨by rfl, ?_⟩; intro wx hSw; (try dsimp only at hSw); first | (go_simp; first | done | with_reducible rfl) | (obtain ⟨_, _, _, _⟩ := hSw; go_simp; first | done | with_reducible rfl))
        try simp only [Act.put, List.getElem_toArray, List.getElem_cons_succ, List.getElem_cons_zero, List.setIfInBounds_toArray, List.set_cons_zero, List.set_cons_succ]
      refine takesH_nil ?_
      refine wpAnyH_ready (rs := [3]) (by kernel_rfl) (by simp) (AllReadyH.cons rfl (fun K hK => ?_) AllReadyH.nil)
      obtain ⟨U, hU⟩ : ∃ U, U = w3.drew := ⟨_, rfl⟩
      rw [← hU]
      have HZ : Hid (U.heap[w.heap.size]? = some (.cells #[.slice none 0 0, .slice none 0 0, .slice none 0 0] 29)) := Lib.hid (by rw [hU]; exact HZ3.out)
      have hz4 : U.heap[w.heap.size + 1]? = some (.cells #[.slice none 0 0, .slice none 0 0, .slice none 0 0] 29) := by rw [hU]; exact HY3.out
      have hr4 : RY U (w.heap.size + 1 + 1) A n c l j F := by rw [hU]; exact R3.out.drew
      have hbU : Below w.heap.size w U := by rw [hU]; exact B3.out.drew
      clear hU
      have z0 := cell_at (i := 0) HZ.out rfl
      have z1 := cell_at (i := 1) HZ.out rfl
      have z2 := cell_at (i := 2) HZ.out rfl
      have y0 := thawed_at (i := 0) HZ.out
      have y1 := thawed_at (i := 1) HZ.out
      have y2 := thawed_at (i := 2) HZ.out
      have m9 := set3Q_block HZ.out (.slice none 0 0) (.slice none 0 0) (.slice none 0 0)
      have b9 := (kept_set3Q (w := U) w.heap.size (.slice none 0 0) (.slice none 0 0) (.slice none 0 0))
      have B9 := Lib.hid (hbU.trans (b9.below (fun k hk => by subst hk; exact Nat.le_refl _) hbU.size))
      have hy9 := Kept.atQ b9 hz4 (by omega)
      have hb9 := Kept.atQ b9 hr4.blk (by omega)
      have S9 := Lib.hid (show _ ∧ _ ∧ _ ∧ _ from ⟨cell_at (i := 0) hy9 rfl, cell_at (i := 1) hy9 rfl, cell_at (i := 2) hy9 rfl, cell_at (i := 2) hb9 rfl⟩)
      clear hz4 hr4 hbU b9 hy9 hb9
      go_simp
      refine hK.out _ _ ?_ (fun hHeld => ?_)
      · exact S9.out
      clear hK K
      try simp only [Act.put, List.getElem_toArray, List.getElem_cons_succ, List.getElem_cons_zero, List.setIfInBounds_toArray, List.set_cons_zero, List.set_cons_succ]
      clear z0 z1 z2 y0 y1 y2
      refine takesH [4] ?_
      repeat
        refine takesH_one (v := ?_) ?_ ?_
        rotate_left
        · first | (refine Or.inr ⟨by rfl, ?_⟩; with_reducible rfl) | (refine Or.inl ⟨by rfl, ?_⟩; intro wx hSw; (try dsimp only at hSw); first | (go_simp; first | done | with_reducible rfl))
        try simp only [Act.put, List.getElem_toArray, List.getElem_cons_succ, List.getElem_cons_zero, List.setIfInBounds_toArray, List.set_cons_zero, List.set_cons_succ]
      refine takesH_nil ?_
      refine wpAnyH_done (by kernel_rfl) ?_ _
      generalize World.setCell (World.setCell (World.setCell U ⟨w.heap.size, 0, none⟩ (.slice none 0 0)) ⟨w.heap.size, 1, none⟩ (.slice none 0 0)) ⟨w.heap.size, 2, none⟩ (.slice none 0 0) = w9 at m9 B9 S9 hHeld ⊢
      go_wp2
      have q0 := cell_at (i := 0) m9 rfl
      have q1 := cell_at (i := 1) m9 rfl
      have q2 := cell_at (i := 2) m9 rfl
      refine bodyPost_ret (v := .tuple #[.agg #[.slice none 0 0, .slice none 0 0, .slice none 0 0], .int .i64 F]) ?_ rfl ?_
      · simp [results, Try.results30, go_sem, q0, q1, q2]
      · rw [HRR.out]
        exact ⟨rfl, B9.out⟩
set_option maxRecDepth 8000 in
set_option maxHeartbeats 4000000 in
theorem getBatch_any (YI : InnerOk) (A : Option Addr) (n c B : Nat) (l : Bs) (w : World) (hr : Rd w B A n l) (hB : B ≤ w.heap.size) (hnc : n ≤ c) (hc : c ≤ maxLen) (hA : A = none → c = 0) :
    Calls Try.prog 15 #[.slice A n c] w (GivesH w (getBatch l)) := by
  have bz := (Below.refl w.heap.size w).alloc (Nat.le_refl _) (.cells #[.slice none 0 0, .slice none 0 0, .slice none 0 0] 29)
  have hz := heap_alloc_new w (.cells #[.slice none 0 0, .slice none 0 0, .slice none 0 0] 29)
  obtain ⟨V, hV⟩ : ∃ V, V = w.alloc (.cells #[.slice none 0 0, .slice none 0 0, .slice none 0 0] 29) := ⟨_, rfl⟩
  rw [← hV] at bz hz
  have N := get_batch YI A n c B l V (hr.below (bz.mono hB)) (Nat.le_trans hB bz.size) hnc hc hA
  obtain ⟨R, hR⟩ : ∃ R, getBatch l = R := ⟨_, rfl⟩
  rw [hR] at N ⊢
  have HZ := Lib.hid hz; have BZ := Lib.hid bz; have HN := Lib.hid N
  clear bz hz N hr hB hnc hc hA hR
  go_enter Try.func15, Try.ntmps15
  go_wp2_with fail
  rw [← hV]
  clear hV
  refine HN.out.mono ?_
  intro x w1 hg
  cases R with
  | error e =>
    obtain ⟨rfl, b1⟩ := hg
    have HZ1 := Lib.hid ((b1.block _ (Array.getElem?_eq_some_iff.1 HZ.out).1).trans HZ.out)
    have B1 := Lib.hid (next BZ.out b1)
    have z0 := cell_at (i := 0) HZ1.out rfl
    have z1 := cell_at (i := 1) HZ1.out rfl
    have z2 := cell_at (i := 2) HZ1.out rfl
    have y0 := thawed_at (i := 0) HZ1.out
    have y1 := thawed_at (i := 1) HZ1.out
    have y2 := thawed_at (i := 2) HZ1.out
    have m9 := set3Q_block HZ1.out (.slice none 0 0) (.slice none 0 0) (.slice none 0 0)
    have b9 := (kept_set3Q (w := w1) w.heap.size (.slice none 0 0) (.slice none 0 0) (.slice none 0 0)).below (B := w.heap.size) (fun k hk => by subst hk; exact Nat.le_refl _) B1.out.size
    have B9 := Lib.hid (B1.out.trans b9)
    clear b1 b9
    go_wp2
    generalize World.setCell (World.setCell (World.setCell w1 ⟨w.heap.size, 0, none⟩ (.slice none 0 0)) ⟨w.heap.size, 1, none⟩ (.slice none 0 0)) ⟨w.heap.size, 2, none⟩ (.slice none 0 0) = w9 at m9 B9 ⊢
    clear z0 z1 z2 y0 y1 y2
    have q0 := cell_at (i := 0) m9 rfl
    have q1 := cell_at (i := 1) m9 rfl
    have q2 := cell_at (i := 2) m9 rfl
    refine bodyPost_ret (v := .tuple #[.agg #[.slice none 0 0, .slice none 0 0, .slice none 0 0], .int .i64 e]) ?_ rfl ?_
    · simp [results, Try.results15, go_sem, q0, q1, q2]
    · exact ⟨rfl, B9.out⟩
  | ok p =>
    obtain ⟨z, hp, rfl, hrows, b1⟩ := hg
    have HZ1 := Lib.hid ((b1.block _ (Array.getElem?_eq_some_iff.1 HZ.out).1).trans HZ.out)
    have B1 := Lib.hid (next BZ.out b1)
    have z0 := cell_at (i := 0) HZ1.out rfl
    have z1 := cell_at (i := 1) HZ1.out rfl
    have z2 := cell_at (i := 2) HZ1.out rfl
    have y0 := thawed_at (i := 0) HZ1.out
    have y1 := thawed_at (i := 1) HZ1.out
    have y2 := thawed_at (i := 2) HZ1.out
    have m9 := set3Q_block HZ1.out (.slice z.AM z.M.length z.cM) (.slice z.AN z.N.length z.cN) (.slice z.AD z.D.length z.cD)
    have k9 := kept_set3Q (w := w1) w.heap.size (.slice z.AM z.M.length z.cM) (.slice z.AN z.N.length z.cN) (.slice z.AD z.D.length z.cD)
    have b9 := k9.below (B := w.heap.size) (fun k hk => by subst hk; exact Nat.le_refl _) B1.out.size
    have B9 := Lib.hid (show _ ∧ _ from ⟨B1.out.trans b9, (hrows.lower (w0 := w) BZ.out.size).keptB k9 HZ1.out⟩)
    have HP := Lib.hid hp
    clear b1 b9 k9 hrows hp
    go_wp2
    generalize World.setCell (World.setCell (World.setCell w1 ⟨w.heap.size, 0, none⟩ (.slice z.AM z.M.length z.cM)) ⟨w.heap.size, 1, none⟩ (.slice z.AN z.N.length z.cN)) ⟨w.heap.size, 2, none⟩ (.slice z.AD z.D.length z.cD) = w9 at m9 B9 ⊢
    clear z0 z1 z2 y0 y1 y2
    have q0 := cell_at (i := 0) m9 rfl
    have q1 := cell_at (i := 1) m9 rfl
    have q2 := cell_at (i := 2) m9 rfl
    refine bodyPost_ret (v := .tuple #[.agg #[.slice z.AM z.M.length z.cM, .slice z.AN z.N.length z.cN, .slice z.AD z.D.length z.cD], .int .i64 0]) ?_ rfl ?_
    · simp [results, Try.results15, go_sem, q0, q1, q2]
    · exact ⟨z, HP.out, rfl, B9.out.2, B9.out.1⟩
end Go.Proofs.Ythfanonjokpflaa
set_option linter.unusedVariables false
set_option linter.unusedSimpArgs false
namespace Go.Proofs.Ythfanonjokpflaa
open Go Go.RowKit

theorem partin_len {p : Pa} (h : PartIn p) : (pE p).length ≤ 10000 := by
  have hg := Pa.gd_of h.ok
  obtain ⟨h1, h2, h3, h4⟩ := Pa.ok_of h.ok
  have hl := h.len
  have hf : (p.rows.flatMap rE).length ≤ p.rows.length * 2460 := flat_le fun x hx => ro_len (rowsB_each h4 x hx)
  have a := tE_le h.key (by omega)
  have b := stm_num hg.2.1
  have c := numL_le (v := p.rows.length) (by omega)
  have f : p.rows.length * 2460 ≤ 4 * 2460 := Nat.mul_le_mul_right _ hl
  unfold pE
  simp only [List.length_append]
  omega
structure BtN (b : Bt) : Prop where
  lm : b.muts.length ≤ 4
  muts : ∀ m ∈ b.muts, m.1 = ⟨#[116, 95, 49]⟩ ∧ PartIn m.2
  ln : b.add.length ≤ 40
  add : ∀ x ∈ b.add, 1 ≤ x.1 ∧ x.1 ≤ 1048577 ∧ x.2.size ≤ 3
  ld : b.drop.length ≤ 40
  drop : ∀ v ∈ b.drop, 1 ≤ v ∧ v ≤ 1048577
theorem name_t1 : nameB ⟨#[116, 95, 49]⟩ = true := by decide +kernel
theorem BtN.ok {b : Bt} (h : BtN b) : b.ok = true := by
  unfold Bt.ok
  simp only [Bool.and_eq_true, decide_eq_true_iff, List.all_eq_true]
  have h1 := h.lm
  have h2 := h.ln
  have h3 := h.ld
  refine ⟨by omega, fun m hm => ?_, by omega, fun x hx => ?_, by omega, fun v hv => ?_⟩
  · obtain ⟨e, hp⟩ := h.muts m hm
    unfold mutB
    rw [e, name_t1, hp.ok]
    rfl
  · obtain ⟨a, b, c⟩ := h.add x hx
    unfold addB
    simp only [Bool.and_eq_true, decide_eq_true_iff]
    omega
  · obtain ⟨a, b⟩ := h.drop v hv
    unfold dropB
    simp only [Bool.and_eq_true, decide_eq_true_iff]
    omega
theorem BtN.len {b : Bt} (h : BtN b) : (bE b).length ≤ 262144 := by
  have h1 := h.lm
  have h2 := h.ln
  have h3 := h.ld
  have fm : (b.muts.flatMap mE).length ≤ b.muts.length * 10021 := flat_le fun m hm => by
    obtain ⟨e, hp⟩ := h.muts m hm
    have a1 := partin_len hp
    have a2 := numL_le (v := (pE m.2).length) (by omega)
    have a3 : (tE m.1).length ≤ 9 + 3 := tE_le (by rw [e]; exact Nat.le_refl 3) (by omega)
    unfold mE
    simp only [List.length_append]
    omega
  have fa : (b.add.flatMap aE).length ≤ b.add.length * 21 := flat_le fun x hx => by
    obtain ⟨a, b, c⟩ := h.add x hx
    have a2 := numL_le (v := x.1.toNat) (by omega)
    have a3 := tE_le c (by omega)
    unfold aE
    simp only [List.length_append]
    omega
  have fd : (b.drop.flatMap fun v => numL v.toNat).length ≤ b.drop.length * 9 := flat_le fun v hv => by
    obtain ⟨a, b⟩ := h.drop v hv
    exact numL_le (by omega)
  have g1 : b.muts.length * 10021 ≤ 4 * 10021 := Nat.mul_le_mul_right _ h1
  have g2 : b.add.length * 21 ≤ 40 * 21 := Nat.mul_le_mul_right _ h2
  have g3 : b.drop.length * 9 ≤ 40 * 9 := Nat.mul_le_mul_right _ h3
  have n1 := numL_le (v := b.muts.length) (by omega)
  have n2 := numL_le (v := b.add.length) (by omega)
  have n3 := numL_le (v := b.drop.length) (by omega)
  unfold bE
  simp only [List.length_append]
  omega
theorem BtN.put {b : Bt} (h : BtN b) : putBatch b = .ok (bE b) := by
  unfold putBatch putP
  rw [if_pos h.ok, if_neg (by have := h.len; omega)]
theorem BtN.got {b : Bt} (h : BtN b) : getBatch (bE b) = .ok b := batch_codecT.got (ok := Bt.ok) (fun x h => Bt.gd_of h) h.put
theorem partin_got {p : Pa} (h : PartIn p) : getPart (pE p) = .ok p := part_codec.got (ok := Pa.ok) (fun x h => Pa.gd_of h) (putPart_ok h.ok)
theorem partin_few {k : ByteArray} {g : Int} {L : List RA} (h : PartIn ⟨k, g, ros L⟩) : FewR L := few_of_sizes (Pa.gd_of h.ok) (N := 10000) (by omega) (partin_len h) rfl
theorem partin_cols {k : ByteArray} {g : Int} {L : List RA} (h : PartIn ⟨k, g, ros L⟩) : L.length ≤ 4 ∧ ∀ x ∈ L, x.ro.cols.length ≤ 4 := by
  have h1 := h.len
  rw [List.length_map] at h1
  exact ⟨h1, fun x hx => (h.rows x.ro (List.mem_map.2 ⟨x, hx, rfl⟩)).1.cols.len⟩
end Go.Proofs.Ythfanonjokpflaa
set_option linter.unusedVariables false
set_option linter.unusedSimpArgs false
namespace Go.Proofs.Ythfanonjokpflaa
open Go Go.RowKit Go.Joins

theorem stm_ofP {n : Int} (h0 : 0 ≤ n) (h1 : n ≤ 1099511627776) : stm n = true := by unfold stm; rw [decide_eq_true h0, decide_eq_true h1]; rfl
/-- The row that was made by numbers may be. -/
theorem rowIn_gen {key : ByteArray} (hk : key.size ≤ 400) {a e g : Int} (h : 0 ≤ a ∧ a ≤ 8 ∧ 0 ≤ e ∧ e ≤ 11 ∧ 0 ≤ g ∧ g ≤ 8 ∧ (a = 0 → e = 0)) {l : Cols} (hc : ColsTo 4 l) : RowIn ⟨key, ⟨⟨#[]⟩, false, a, e⟩, g, 0, l⟩ := by
  obtain ⟨h0, h1, h2, h3, h4, h5, h6⟩ := h
  refine ⟨?_, hc.in4⟩
  have hok : Ce.ok ⟨⟨#[]⟩, false, a, e⟩ = true := by
    unfold Ce.ok
    simp only
    by_cases h7 : a = 0
    · rw [if_pos h7]
      have h8 := h6 h7
      subst h7; subst h8
      unfold Ce.same
      simp
    · rw [if_neg h7, stm_ofP h0 (by omega), if_neg (by decide), if_neg (by decide), stm_ofP h2 (by omega)]
      rfl
  have hlive : liveB ⟨⟨#[]⟩, false, a, e⟩ = true := by
    unfold liveB
    rw [hok, Lib.toList_data]
    rfl
  unfold Ro.ok
  simp only
  rw [hlive, stm_ofP h4 (by omega), stm_ofP (Int.le_refl 0) (by omega), hc.ok, decide_eq_true hk, decide_eq_true (show l.length ≤ 8 by have := hc.len; omega)]
  rfl
/-- Each of the rows has columns of its own. -/
def OwnR (w : World) (b : Nat) (L : List RA) : Prop := ∀ x ∈ L, w.ownsRow b 90 5 (.slice x.A x.ro.cols.length x.c) x.ro.cols.length (kRow x.ro.cols)
theorem OwnR.kept {w w' : World} {b : Nat} {L : List RA} (h : OwnR w b L) (hk : ∀ x ∈ L, ∀ g, (Value.slice x.A x.ro.cols.length x.c).ownBlock = some g → w'.heap[g]? = w.heap[g]?) : OwnR w' b L := fun x hx => own_kept (h x hx) (hk x hx)
theorem OwnR.below {w w' : World} {b : Nat} {L : List RA} (h : OwnR w b L) (hb : Below w.heap.size w w') : OwnR w' b L := fun x hx => own_below (h x hx) hb
/-- What rows own and what columns own lies apart. -/
theorem own_apartRC {w : World} {b b' n m s s' : Nat} {v v' : Value} {xs ys : List Value} (h : w.ownsRow b 61 s v n xs) (h' : w.ownsRow b' 90 s' v' m ys) : ∀ g, v'.ownBlock = some g → v.ownBlock ≠ some g := fun g hg e => by
  obtain ⟨cs, h1⟩ := own_tag h g e
  obtain ⟨cs', h2⟩ := own_tag h' g hg
  rw [h1] at h2
  injection h2 with h2
  injection h2 with _ h3 _
  exact absurd h3 (by decide)
/-- Rows whose keys are those of the numbers below t. -/
structure RowsTo (t : Nat) (L : List RA) : Prop where
  rise : RiseR (L.map RA.ro)
  all : ∀ x ∈ L, RowIn x.ro ∧ ∃ i, i < t ∧ x.ro.key = dg i
  len : L.length ≤ t
theorem RowsTo.nil (t : Nat) : RowsTo t [] := ⟨trivial, fun x hx => (by cases hx), Nat.zero_le _⟩
theorem RowsTo.next {t : Nat} {L : List RA} (h : RowsTo t L) : RowsTo (t + 1) L := ⟨h.rise, fun x hx => by
  obtain ⟨h1, i, hi, e⟩ := h.all x hx
  exact ⟨h1, i, by omega, e⟩, Nat.le_succ_of_le h.len⟩
theorem RowsTo.snoc {t : Nat} {L : List RA} (h : RowsTo t L) (ht : t < 4) {x : RA} (hx : RowIn x.ro) (hk : x.ro.key = dg t) : RowsTo (t + 1) (L ++ [x]) := by
  refine ⟨?_, fun y hy => ?_, by have := h.len; simp; omega⟩
  · rw [List.map_append]
    refine riseK_snoc h.rise fun y hy => ?_
    obtain ⟨z, hz, rfl⟩ := List.mem_map.1 hy
    obtain ⟨_, i, hi, e⟩ := h.all z hz
    rw [e, hk]
    exact dg_facts.2 t ht i hi
  · rcases List.mem_append.1 hy with h1 | h1
    · exact h.next.all y h1
    · rw [List.mem_singleton.1 h1]
      exact ⟨hx, t, by omega, hk⟩
theorem RowsTo.part {L : List RA} (h : RowsTo 4 L) {k : ByteArray} {g : Int} (hk : k.size ≤ 100) (hg : 0 ≤ g ∧ g ≤ 8) : PartIn ⟨k, g, L.map RA.ro⟩ :=
  ⟨hk, stm_ofP hg.1 (Int.le_trans hg.2 (by omega)), h.rise, fun r hr => by
    obtain ⟨x, hx, rfl⟩ := List.mem_map.1 hr
    obtain ⟨h1, i, hi, e⟩ := h.all x hx
    refine ⟨h1, ?_⟩
    rw [e]
    have : i = 0 ∨ i = 1 ∨ i = 2 ∨ i = 3 := by omega
    rcases this with rfl | rfl | rfl | rfl <;> simp⟩
/-- The partition under way, at block r. -/
def PB (w : World) (r : Nat) (k : ByteArray) (g : Int) (A : Option Addr) (n c : Nat) : Prop := w.heap[r]? = some (.cells #[.string k, .int .i64 g, .slice A n c] 24 (0, 0))
theorem PB.cells {w : World} {r : Nat} {k : ByteArray} {g : Int} {A : Option Addr} {n c : Nat} (h : PB w r k g A n c) : w.cell? ⟨r, 0, none⟩ = some (.string k) ∧ w.cell? ⟨r, 1, none⟩ = some (.int .i64 g) ∧ w.cell? ⟨r, 2, none⟩ = some (.slice A n c) :=
  ⟨cell_at (i := 0) h rfl, cell_at (i := 1) h rfl, cell_at (i := 2) h rfl⟩
set_option maxRecDepth 8000 in
set_option maxHeartbeats 4000000 in
theorem part_gen (q B : Nat) (key : ByteArray) (w : World) (h : LQ w q B) (hBq : B ≤ q) :
    Calls Try.prog 35 #[.pointer (some ⟨q, 0, none⟩), .string key] w fun x w' => ∃ (g : Int) (L : List RA) (A : Option Addr) (c : Nat), x = .returned (.agg #[.string key, .int .i64 g, .slice A L.length c]) ∧ (0 ≤ g ∧ g ≤ 8) ∧ RowsTo 4 L ∧ w'.ownsRow w.heap.size 61 8 (.slice A L.length c) L.length (rRow L) ∧ OwnR w' w.heap.size L ∧ LQ w' q B ∧ Kept (fun k => k = q) w w' := by
  have hq := h.lt
  have hz0 := heap_alloc_new w (.cells #[.string ⟨#[]⟩, .int .i64 0, .slice none 0 0] 24)
  have hz1 := heap_alloc_new (w.alloc (.cells #[.string ⟨#[]⟩, .int .i64 0, .slice none 0 0] 24)) (.cells #[.string key, .int .i64 0, .slice none 0 0] 24)
  simp only [World.size_alloc] at hz1
  have hz0' := at_new hz0 (.cells #[.string key, .int .i64 0, .slice none 0 0] 24)
  have bz := ((Below.refl w.heap.size w).alloc (Nat.le_refl _) (.cells #[.string ⟨#[]⟩, .int .i64 0, .slice none 0 0] 24)).alloc (by simp) (.cells #[.string key, .int .i64 0, .slice none 0 0] 24)
  obtain ⟨U, hU⟩ : ∃ U, U = (w.alloc (.cells #[.string ⟨#[]⟩, .int .i64 0, .slice none 0 0] 24)).alloc (.cells #[.string key, .int .i64 0, .slice none 0 0] 24) := ⟨_, rfl⟩
  have hUs : U.heap.size = w.heap.size + 2 := by rw [hU]; simp
  rw [← hU] at hz0' hz1 bz
  have HL := Lib.hid (h.below bz (by omega)); have HZ0 := Lib.hid hz0'; have HZ1 := Lib.hid hz1; have BZ := Lib.hid bz; have HUS := Lib.hid hUs
  clear hz0 hz0' hz1 bz hUs h
  go_enter Try.func35, Try.ntmps35
  go_wp2_with fail
  rw [← hU]
  clear hU
  refine (next_gen q B 1048576 _ HL.out hBq (by omega) (by omega)).mono ?_
  rintro x w1 ⟨v, rfl, v0, v1, hl1, hk1⟩
  have hs1 := hk1.size
  have R1 : Hid (PB w1 (w.heap.size + 1) key 0 none 0 0) := Lib.hid ((hk1.block (w.heap.size + 1) (by have := HUS.out; omega) (by omega)).trans HZ1.out)
  have Z1 := Lib.hid ((hk1.block w.heap.size (by have := HUS.out; omega) (by omega)).trans HZ0.out)
  have K1 : Hid (Kept (fun k => k = q) w w1) := Lib.hid ((Kept.of_below BZ.out _).trans hk1 fun k hk => Or.inl hk)
  have L1 := Lib.hid hl1
  have V0 := Lib.hid v0; have V1 := Lib.hid v1
  have HS1 := Lib.hid hs1
  have y0 : 0 ≤ v.tdiv 5 := by rw [Int.tdiv_eq_ediv_of_nonneg v0]; exact Int.ediv_nonneg v0 (by omega)
  have y1 : v.tdiv 5 < 1048576 := by rw [Int.tdiv_eq_ediv_of_nonneg v0]; exact Int.lt_of_le_of_lt (Int.ediv_le_self _ v0) v1
  obtain ⟨y, hy⟩ : ∃ p, v.tdiv 5 = p := ⟨_, rfl⟩
  rw [hy] at y0 y1
  have b0 : 0 ≤ y.tmod 8 := by rw [Int.tmod_eq_emod_of_nonneg y0]; exact Int.emod_nonneg _ (by omega)
  have b1 : y.tmod 8 < 8 := by rw [Int.tmod_eq_emod_of_nonneg y0]; exact Int.emod_lt_of_pos _ (by omega)
  obtain ⟨b, hb⟩ : ∃ b, y.tmod 8 = b := ⟨_, rfl⟩
  rw [hb] at b0 b1
  have wy : wrap64 y = y := by unfold wrap64; omega
  obtain ⟨i, hi⟩ : ∃ i, v.tmod 5 = i := ⟨_, rfl⟩
  clear hl1 hk1 hs1 v0 v1
  go_upto_if 14 with fail
  go_cut [] from 15 to 18 (fun wx => ∃ g : Int, (0 ≤ g ∧ g ≤ 8) ∧ PB wx (w.heap.size + 1) key g none 0 0 ∧ Kept (fun k => k = w.heap.size + 1) w1 wx)
  case first =>
    by_cases h4 : i = 0
    · have hi2 : (i == 0) = true := by rw [beq_iff_eq]; exact h4
      clear h4
      have m0 := block_setCell (i := 1) R1.out (.int .i64 b)
      have M0 := Lib.hid m0
      have k0 := cell_at (i := 1) R1.out rfl
      have f0 := thawed_at (i := 1) R1.out
      clear m0
      go_wp2_with fail
      go_meet
      exact ⟨b, by omega, M0.out, Kept.setCell (fun k => k = w.heap.size + 1) w1 ⟨w.heap.size + 1, 1, none⟩ _ rfl⟩
    · have hi2 : (i == 0) = false := by rw [beq_eq_false_iff_ne]; exact h4
      clear h4
      go_wp2_with fail
      go_meet
      exact ⟨0, by omega, R1.out, Kept.refl _ _⟩
  case rest =>
    obtain ⟨g, hg, hr3, hk3⟩ := hcut
    generalize wc = w3 at hr3 hk3 ⊢
    clear hb b0 b1 wy hy y0 y1 hi
    have hs3 := hk3.size
    have hl3 : LQ w3 q B := L1.out.kept hk3 (fun k hk => by omega) hBq
    have hz3 := (hk3.block w.heap.size (by have := HUS.out; have := HS1.out; omega) (by omega)).trans Z1.out
    have hk3' : Kept (fun k => k = q) w w3 := K1.out.trans hk3 fun k hk => Or.inr (by omega)
    have HS3 := Lib.hid (show w.heap.size + 2 ≤ w3.heap.size by have := HUS.out; have := HS1.out; omega)
    have HG := Lib.hid hg; have R3 := Lib.hid hr3; have L3 := Lib.hid hl3; have Z3 := Lib.hid hz3; have K3 := Lib.hid hk3'
    clear hg hr3 hk3 hs3 hl3 hz3 hk3' K1 L1 Z1 R1 HS1 HUS BZ HZ0 HZ1
    go_wp2_with fail
    go_loopw [7] (fun i wr => ∃ (t : Nat) (ti : Int) (L : List RA) (A : Option Addr) (c : Nat), t ≤ 4 ∧ i = .int .i64 ti ∧ ti = (t : Int) ∧ RowsTo t L ∧ PB wr (w.heap.size + 1) key g A L.length c ∧ wr.ownsRow (w.heap.size + 2) 61 8 (.slice A L.length c) L.length (rRow L) ∧ OwnR wr (w.heap.size + 2) L ∧ LQ wr q B ∧ Kept (fun k => k = q) w wr ∧ w.heap.size + 2 ≤ wr.heap.size ∧ wr.heap[w.heap.size]? = some (.cells #[.string ⟨#[]⟩, .int .i64 0, .slice none 0 0] 24 (0, 0))) (fun i _ => 4 - (intOf i).toNat)
    case atStart => exact ⟨0, 0, [], none, 0, by omega, rfl, rfl, RowsTo.nil 0, R3.out, own_nilR _ _, (fun x hx => by cases hx), L3.out, K3.out, HS3.out, Z3.out⟩
    case round =>
      obtain ⟨t, ti, L, A, c, ht, rfl, hti, hct, hrb, how, hor, hlq, hkp, hsz, hz⟩ := hrel
      have CT := Lib.hid hct; have RBl := Lib.hid hrb; have OW := Lib.hid how; have OR := Lib.hid hor; have LQ_ := Lib.hid hlq; have KP := Lib.hid hkp; have ZZ := Lib.hid hz; have SZ := Lib.hid hsz
      clear hct hrb how hor hlq hkp hz hsz
      by_cases h4 : t = 4
      · subst h4
        obtain rfl : ti = 4 := hti
        obtain ⟨p0, p1, p2⟩ := PB.cells RBl.out
        have m0 := block_setCell (i := 0) ZZ.out (.string key)
        simp only [List.setIfInBounds_toArray, List.set_cons_zero, List.set_cons_succ] at m0
        have kc0 := cell_at (i := 0) ZZ.out rfl
        have f0 := thawed_at (i := 0) ZZ.out
        have m1 := block_setCell (i := 1) m0 (.int .i64 g)
        simp only [List.setIfInBounds_toArray, List.set_cons_zero, List.set_cons_succ] at m1
        have kc1 := cell_at (i := 1) m0 rfl
        have f1 := thawed_at (i := 1) m0
        have m2 := block_setCell (i := 2) m1 (.slice A L.length c)
        simp only [List.setIfInBounds_toArray, List.set_cons_zero, List.set_cons_succ] at m2
        have kc2 := cell_at (i := 2) m1 rfl
        have f2 := thawed_at (i := 2) m1
        have M2 := Lib.hid m2
        have KF : Hid (Kept (fun k => k = w.heap.size) wr (((wr.setCell ⟨w.heap.size, 0, none⟩ (.string key)).setCell ⟨w.heap.size, 1, none⟩ (.int .i64 g)).setCell ⟨w.heap.size, 2, none⟩ (.slice A L.length c))) := Lib.hid ((((Kept.refl (fun k => k = w.heap.size) wr).trans (Kept.setCell (fun k => k = w.heap.size) _ ⟨w.heap.size, 0, none⟩ (.string key) rfl) fun _ h => Or.inl h).trans (Kept.setCell (fun k => k = w.heap.size) _ ⟨w.heap.size, 1, none⟩ (.int .i64 g) rfl) fun _ h => Or.inl h).trans (Kept.setCell (fun k => k = w.heap.size) _ ⟨w.heap.size, 2, none⟩ (.slice A L.length c) rfl) fun _ h => Or.inl h)
        clear m0 m1 m2
        go_wp2
        generalize hw9 : (((wr.setCell ⟨w.heap.size, 0, none⟩ (.string key)).setCell ⟨w.heap.size, 1, none⟩ (.int .i64 g)).setCell ⟨w.heap.size, 2, none⟩ (.slice A L.length c)) = w9 at KF M2 ⊢
        clear hw9 kc0 kc1 kc2 f0 f1 f2
        have z0 := cell_at (i := 0) M2.out rfl
        have z1 := cell_at (i := 1) M2.out rfl
        have z2 := cell_at (i := 2) M2.out rfl
        have hown : w9.ownsRow w.heap.size 61 8 (.slice A L.length c) L.length (rRow L) := own_lower (own_kept OW.out fun k hk => KF.out.block k (own_block_lt OW.out k hk) (by have := (OW.out.lt k hk).1; omega)) (by omega)
        have hor9 : OwnR w9 w.heap.size L := fun x hx => own_lower (own_kept (OR.out x hx) fun k hk => KF.out.block k (own_block_lt (OR.out x hx) k hk) (by have := ((OR.out x hx).lt k hk).1; omega)) (by omega)
        have hlq9 := LQ_.out.kept KF.out (fun k hk => by omega) hBq
        have hkp9 : Kept (fun k => k = q) w w9 := KP.out.trans KF.out fun k hk => Or.inr (by omega)
        have hct := CT.out
        have hg9 := HG.out
        exact bodyPost_ret (v := .agg #[.string key, .int .i64 g, .slice A L.length c]) (by simp [results, Try.results35, go_sem, z0, z1, z2]) rfl ⟨g, L, A, c, rfl, hg9, hct, hown, hor9, hlq9, hkp9⟩
      have ht4 : t < 4 := by omega
      have e8 : wrap64 (8 + ti) = 8 + ti := by unfold wrap64; omega
      go_wp2_with fail
      · refine wp_region_z (S := fun w' => PB w' (w.heap.size + 1) key g A L.length c) 9 (by kernel_rfl) ?_ (fun hHeld => ?_)
        · exact RBl.out
        refine wpAnyZ_take (i := 0) (v := ?_) rfl (by kernel_rfl) (by kernel_rfl) (by kernel_rfl) (by kernel_rfl) (fun _ _ _ h => h) (Or.inl ⟨by rfl, ?_⟩) (by assumption) ?_
        rotate_left
        · (intro wx hSw; (try dsimp only at hSw); go_simp; try with_reducible rfl)
        try simp only [Act.put, List.getElem_toArray, List.getElem_cons_succ, List.getElem_cons_zero, List.setIfInBounds_toArray, List.set_cons_zero, List.set_cons_succ]
        refine wpAnyZ_take (i := 1) (v := ?_) rfl (by kernel_rfl) (by kernel_rfl) (by kernel_rfl) (by kernel_rfl) (fun _ _ _ h => h) (Or.inl ⟨by rfl, ?_⟩) (by assumption) ?_
        rotate_left
        · (intro wx hSw; (try dsimp only at hSw); obtain ⟨_, _, _⟩ := PB.cells hSw; go_simp; try with_reducible rfl)
        try simp only [Act.put, List.getElem_toArray, List.getElem_cons_succ, List.getElem_cons_zero, List.setIfInBounds_toArray, List.set_cons_zero, List.set_cons_succ]
        refine wpAnyZ_take (i := 2) (v := ?_) rfl (by kernel_rfl) (by kernel_rfl) (by kernel_rfl) (by kernel_rfl) (fun _ _ _ h => h) (Or.inl ⟨by rfl, ?_⟩) (by assumption) ?_
        rotate_left
        · (intro wx hSw; (try dsimp only at hSw); go_simp; try with_reducible rfl)
        try simp only [Act.put, List.getElem_toArray, List.getElem_cons_succ, List.getElem_cons_zero, List.setIfInBounds_toArray, List.set_cons_zero, List.set_cons_succ]
        refine wpAnyZ_take (i := 3) (v := ?_) rfl (by kernel_rfl) (by kernel_rfl) (by kernel_rfl) (by kernel_rfl) (fun _ _ _ h => h) (Or.inl ⟨by rfl, ?_⟩) (by assumption) ?_
        rotate_left
        · (intro wx hSw; (try dsimp only at hSw); go_simp; try with_reducible rfl)
        try simp only [Act.put, List.getElem_toArray, List.getElem_cons_succ, List.getElem_cons_zero, List.setIfInBounds_toArray, List.set_cons_zero, List.set_cons_succ]
        refine wpAnyZ_one (i := 4) (by kernel_rfl) rfl (fun K hK => ?_)
        go_simp
        refine (rint_anyE _ _ (by omega) (by omega)).mono ?_
        rintro x v1 ⟨s, rfl, hs, hb1⟩
        have es : s = dg t := ba_ext (by rw [hs]; rfl)
        subst es
        replace hb1 : Below wr.heap.size wr v1 := next ((Below.refl wr.heap.size wr).drew) hb1
        have HB1 := Lib.hid hb1; have LQ1 := Lib.hid (LQ_.out.below hb1 (by have := LQ_.out.lt; omega)); have HV1 := Lib.hid hb1.size
        clear hs hb1
        try go_wp2_with fail
        refine hK.out _ _ ?_ (fun hHeld => ?_)
        · exact (HB1.out.block (w.heap.size + 1) (by have := SZ.out; have := (Array.getElem?_eq_some_iff.1 RBl.out).1; omega)).trans RBl.out
        clear hK K
        try simp only [Act.put, List.getElem_toArray, List.getElem_cons_succ, List.getElem_cons_zero, List.setIfInBounds_toArray, List.set_cons_zero, List.set_cons_succ]
        refine wpAnyZ_one (i := 5) (by kernel_rfl) rfl (fun K hK => ?_)
        go_simp
        refine (row_gen q B (dg t) _ LQ1.out hBq).mono ?_
        rintro x v2 ⟨a2, e2, g2, l2, A2, c2, rfl, hae2, hc2, ho2, hlq2, hkp2⟩
        have HAE := Lib.hid hae2; have HC2 := Lib.hid hc2; have HO2 := Lib.hid ho2; have LQ2 := Lib.hid hlq2; have KP2 := Lib.hid hkp2
        clear hae2 hc2 ho2 hlq2 hkp2
        try go_wp2_with fail
        refine hK.out _ _ ?_ (fun hHeld => ?_)
        · exact (KP2.out.block (w.heap.size + 1) (by have := (Array.getElem?_eq_some_iff.1 hHeld).1; omega) (by omega)).trans hHeld
        clear hK K
        try simp only [Act.put, List.getElem_toArray, List.getElem_cons_succ, List.getElem_cons_zero, List.setIfInBounds_toArray, List.set_cons_zero, List.set_cons_succ]
        have hs2 : wr.heap.size ≤ v1.heap.size ∧ v1.heap.size ≤ v2.heap.size := ⟨HV1.out, KP2.out.size⟩
        have HS2 := Lib.hid hs2
        have kC : Kept (fun k => k = q) wr v2 := (Kept.of_below HB1.out _).trans KP2.out fun k hk => Or.inl hk
        have hown2 := own_kept OW.out fun k hk => kC.block k (own_block_lt OW.out k hk) (by have := (OW.out.lt k hk).1; omega)
        have hor2 : OwnR v2 (w.heap.size + 2) L := OR.out.kept fun x hx k hk => kC.block k (own_block_lt (OR.out x hx) k hk) (by have := ((OR.out x hx).lt k hk).1; omega)
        have hb3 := (Below.refl v2.heap.size v2).alloc (Nat.le_refl _) (.cells #[.string (dg t), .string ⟨#[]⟩, .bool false, .int .i64 a2, .int .i64 e2, .int .i64 g2, .int .i64 0, .slice A2 l2.length c2] 61)
        have OWN := Lib.hid (own_below hown2 hb3)
        have OR2 := Lib.hid (hor2.below hb3)
        have HO3' := Lib.hid (own_below HO2.out hb3)
        have RD : Hid (RdR (v2.alloc (.cells #[.string (dg t), .string ⟨#[]⟩, .bool false, .int .i64 a2, .int .i64 e2, .int .i64 g2, .int .i64 0, .slice A2 l2.length c2] 61)) (v2.heap.size + 1) (some ⟨v2.heap.size, 0, none⟩) 1 [⟨⟨dg t, ⟨⟨#[]⟩, false, a2, e2⟩, g2, 0, l2⟩, A2, c2⟩]) := Lib.hid (RdR.one v2 ⟨⟨dg t, ⟨⟨#[]⟩, false, a2, e2⟩, g2, 0, l2⟩, A2, c2⟩ v2.heap.size rfl)
        clear hown2 hor2 hb3 hs2 kC
        refine wpAnyZ_one (i := 6) (by kernel_rfl) rfl (fun K hK => ?_)
        go_simp
        refine hK.out _ _ ?_ (fun hHeld => ?_)
        · exact at_new hHeld _
        clear hK K
        try simp only [Act.put, List.getElem_toArray, List.getElem_cons_succ, List.getElem_cons_zero, List.setIfInBounds_toArray, List.set_cons_zero, List.set_cons_succ]
        refine wpAnyZ_one (i := 7) (by kernel_rfl) rfl (fun K hK => ?_)
        refine step_ex rfl (.tmp 31) (.tmp 36) _ _ rfl (.slice A L.length c) (.slice (some ⟨v2.heap.size, 0, none⟩) 1 1) (by simp [Act.eval]) (by simp [Act.eval]) (run_appR (w.heap.size + 2) OWN.out RD.out ?s1 ?s2) ?_
        case s1 => have := CT.out.len; omega
        case s2 => have := SZ.out; have := HS2.out; simp; omega
        intro v3 w3 ho3 hg3
        obtain ⟨hg3, _⟩ := hg3
        obtain ⟨A3, c3, rfl, _⟩ := own_slice ho3
        have HO3 := Lib.hid ho3; have HG3 := Lib.hid hg3
        clear ho3 hg3
        refine hK.out _ _ ?_ (fun hHeld => ?_)
        · exact (HG3.out.block (w.heap.size + 1) (by have := SZ.out; have := HS2.out; simp; omega) (fun e => by have := (OWN.out.lt _ e.symm).1; omega)).trans hHeld
        clear hK K
        try simp only [Act.put, List.getElem_toArray, List.getElem_cons_succ, List.getElem_cons_zero, List.setIfInBounds_toArray, List.set_cons_zero, List.set_cons_succ]
        have k2 := cell_at (i := 2) hHeld rfl
        have f2 := thawed_at (i := 2) hHeld
        have RB3 := Lib.hid hHeld
        refine wpAnyZ_take (i := 8) (v := ?_) rfl (by kernel_rfl) (by kernel_rfl) (by kernel_rfl) (by kernel_rfl) (fun _ _ _ h => h) (Or.inl ⟨by rfl, ?_⟩) (by assumption) ?_
        rotate_left
        · (intro wx hSw; (try dsimp only at hSw); go_simp; try with_reducible rfl)
        try simp only [Act.put, List.getElem_toArray, List.getElem_cons_succ, List.getElem_cons_zero, List.setIfInBounds_toArray, List.set_cons_zero, List.set_cons_succ]
        refine wpAnyZ_last (by kernel_rfl) rfl (fun K hK => ?_)
        go_simp
        refine hK.out _ _ ?_
        clear hK K
        try simp only [Act.put, List.getElem_toArray, List.getElem_cons_succ, List.getElem_cons_zero, List.setIfInBounds_toArray, List.set_cons_zero, List.set_cons_succ]
        refine wpAnyZ_done (by kernel_rfl) ?_ _
        have kA : Kept (fun k => w.heap.size + 1 ≤ k) v2 (w3.setCell ⟨w.heap.size + 1, 2, none⟩ (.slice A3 (L.length + 1) c3)) := ((Kept.alloc (fun k => w.heap.size + 1 ≤ k) v2 _).trans (Kept.of_grown (F := fun k => w.heap.size + 1 ≤ k) HG3.out (fun k hk => by have := (OWN.out.lt k hk).1; omega)) (fun k hk => Or.inl hk)).trans (Kept.setCell (fun k => w.heap.size + 1 ≤ k) w3 ⟨w.heap.size + 1, 2, none⟩ _ (Nat.le_refl _)) fun k hk => Or.inl hk
        have kB : Kept (fun k => k = q ∨ w.heap.size + 1 ≤ k) wr _ := ((Kept.of_below HB1.out (fun k => k = q ∨ w.heap.size + 1 ≤ k)).trans KP2.out (fun k hk => Or.inl (Or.inl hk))).trans kA (fun k hk => Or.inl (Or.inr hk))
        have hm2 := block_setCell (i := 2) RB3.out (.slice A3 (L.length + 1) c3)
        simp only [List.setIfInBounds_toArray, List.set_cons_zero, List.set_cons_succ] at hm2
        have hl9 : LQ _ q B := LQ2.out.kept kA (fun k hk => by omega) hBq
        have hz9 := (kB.block w.heap.size (by have := SZ.out; omega) (by omega)).trans ZZ.out
        have hk9 : Kept (fun k => k = q) w _ := KP.out.trans kB fun k hk => by omega
        have ho9 := own_kept HO3.out (w' := w3.setCell ⟨w.heap.size + 1, 2, none⟩ (.slice A3 (L.length + 1) c3)) fun g hg => Below.heap_setCell _ _ _ _ (by have := (HO3.out.lt g hg).1; show g ≠ w.heap.size + 1; omega)
        have hgo : ∀ {m : Nat} {vv : Value} {ys : List Value}, ((v2.alloc (.cells #[.string (dg t), .string ⟨#[]⟩, .bool false, .int .i64 a2, .int .i64 e2, .int .i64 g2, .int .i64 0, .slice A2 l2.length c2] 61))).ownsRow (w.heap.size + 2) 90 5 vv m ys → (w3.setCell ⟨w.heap.size + 1, 2, none⟩ (.slice A3 (L.length + 1) c3)).ownsRow (w.heap.size + 2) 90 5 vv m ys := fun {m vv ys} ho =>
          own_kept (own_kept ho fun g hg => HG3.out.block g (own_block_lt ho g hg) fun e => own_apartRC OWN.out ho g hg e.symm) fun g hg => Below.heap_setCell _ _ _ _ (by have := (ho.lt g hg).1; show g ≠ w.heap.size + 1; omega)
        have hor9 : OwnR (w3.setCell ⟨w.heap.size + 1, 2, none⟩ (.slice A3 (L.length + 1) c3)) (w.heap.size + 2) (L ++ [⟨⟨dg t, ⟨⟨#[]⟩, false, a2, e2⟩, g2, 0, l2⟩, A2, c2⟩]) := fun x hx => by
          rcases List.mem_append.1 hx with h1 | h1
          · exact hgo (OR2.out x h1)
          · rw [List.mem_singleton.1 h1]
            exact hgo (own_lower HO3'.out (by have := SZ.out; have := HS2.out; omega))
        have hs9 := kB.size
        generalize w3.setCell ⟨w.heap.size + 1, 2, none⟩ (.slice A3 (L.length + 1) c3) = w9 at *
        have HM2 := Lib.hid hm2; have HL9 := Lib.hid hl9; have HZ9 := Lib.hid hz9; have HK9 := Lib.hid hk9; have HO9 := Lib.hid ho9; have HOR9 := Lib.hid hor9
        clear kA kB hm2 hl9 hz9 hk9 ho9 hor9 hgo k2 f2 hHeld
        go_wp2
        go_roundw
        case rel => exact ⟨t + 1, (t : Int) + 1, L ++ [⟨⟨dg t, ⟨⟨#[]⟩, false, a2, e2⟩, g2, 0, l2⟩, A2, c2⟩], A3, c3, by omega, rfl, by omega, CT.out.snoc ht4 (rowIn_gen (by rw [dg_facts.1 t ht4]; omega) HAE.out HC2.out) rfl, by rw [List.length_append]; exact HM2.out, by rw [List.length_append]; exact HO9.out, HOR9.out, HL9.out, HK9.out, by have := SZ.out; omega, HZ9.out⟩
        case measure => simp [intOf]; omega
      · go_roundw
        case rel => exact ⟨t + 1, (t : Int) + 1, L, A, c, by omega, rfl, by omega, CT.out.next, RBl.out, OW.out, OR.out, LQ_.out, KP.out, SZ.out, ZZ.out⟩
        case measure => simp [intOf]; omega
end Go.Proofs.Ythfanonjokpflaa
set_option linter.unusedVariables false
set_option linter.unusedSimpArgs false
namespace Go.Proofs.Ythfanonjokpflaa
open Go Go.RowKit

set_option maxRecDepth 8000 in
set_option maxHeartbeats 2000000 in
theorem getPart_any (A : Option Addr) (n c B : Nat) (l : Bs) (w : World) (hr : Rd w B A n l) (hB : B ≤ w.heap.size) (hnc : n ≤ c) (hc : c ≤ maxLen) (hA : A = none → c = 0) :
    Calls Try.prog 11 #[.slice A n c] w (GivesG w (getPart l)) := by
  have bz := (Below.refl w.heap.size w).alloc (Nat.le_refl _) (.cells #[.string ⟨#[]⟩, .int .i64 0, .slice none 0 0] 24)
  have hz := heap_alloc_new w (.cells #[.string ⟨#[]⟩, .int .i64 0, .slice none 0 0] 24)
  obtain ⟨V, hV⟩ : ∃ V, V = w.alloc (.cells #[.string ⟨#[]⟩, .int .i64 0, .slice none 0 0] 24) := ⟨_, rfl⟩
  rw [← hV] at bz hz
  have N := get_part A n c B l V (hr.below (bz.mono hB)) (Nat.le_trans hB bz.size) hnc hc hA
  obtain ⟨R, hR⟩ : ∃ R, getPart l = R := ⟨_, rfl⟩
  rw [hR] at N ⊢
  have HZ := Lib.hid hz; have BZ := Lib.hid bz; have HN := Lib.hid N
  clear bz hz N hr hB hnc hc hA hR
  go_enter Try.func11, Try.ntmps11
  go_wp2_with fail
  rw [← hV]
  clear hV
  refine HN.out.mono ?_
  intro x w1 hg
  cases R with
  | error e =>
    obtain ⟨rfl, b1⟩ := hg
    have HZ1 := Lib.hid ((b1.block _ (Array.getElem?_eq_some_iff.1 HZ.out).1).trans HZ.out)
    have B1 := Lib.hid (next BZ.out b1)
    have z0 := cell_at (i := 0) HZ1.out rfl
    have z1 := cell_at (i := 1) HZ1.out rfl
    have z2 := cell_at (i := 2) HZ1.out rfl
    have y0 := thawed_at (i := 0) HZ1.out
    have y1 := thawed_at (i := 1) HZ1.out
    have y2 := thawed_at (i := 2) HZ1.out
    have m9 := set3Q_block HZ1.out (.string ⟨#[]⟩) (.int .i64 0) (.slice none 0 0)
    have b9 := (kept_set3Q (w := w1) w.heap.size (.string ⟨#[]⟩) (.int .i64 0) (.slice none 0 0)).below (B := w.heap.size) (fun k hk => by subst hk; exact Nat.le_refl _) B1.out.size
    have B9 := Lib.hid (B1.out.trans b9)
    clear b1 b9
    go_wp2
    generalize World.setCell (World.setCell (World.setCell w1 ⟨w.heap.size, 0, none⟩ (.string ⟨#[]⟩)) ⟨w.heap.size, 1, none⟩ (.int .i64 0)) ⟨w.heap.size, 2, none⟩ (.slice none 0 0) = w9 at m9 B9 ⊢
    clear z0 z1 z2 y0 y1 y2
    have q0 := cell_at (i := 0) m9 rfl
    have q1 := cell_at (i := 1) m9 rfl
    have q2 := cell_at (i := 2) m9 rfl
    refine bodyPost_ret (v := .tuple #[.agg #[.string ⟨#[]⟩, .int .i64 0, .slice none 0 0], .int .i64 e]) ?_ rfl ?_
    · simp [results, Try.results11, go_sem, q0, q1, q2]
    · exact ⟨rfl, B9.out⟩
  | ok p =>
    obtain ⟨⟨zk, zg, zL, zA, zc⟩, hp, rfl, hrows, b1⟩ := hg
    dsimp only at hp hrows
    have HZ1 := Lib.hid ((b1.block _ (Array.getElem?_eq_some_iff.1 HZ.out).1).trans HZ.out)
    have B1 := Lib.hid (next BZ.out b1)
    have z0 := cell_at (i := 0) HZ1.out rfl
    have z1 := cell_at (i := 1) HZ1.out rfl
    have z2 := cell_at (i := 2) HZ1.out rfl
    have y0 := thawed_at (i := 0) HZ1.out
    have y1 := thawed_at (i := 1) HZ1.out
    have y2 := thawed_at (i := 2) HZ1.out
    have m9 := set3Q_block HZ1.out (.string zk) (.int .i64 zg) (.slice zA zL.length zc)
    have k9 := kept_set3Q (w := w1) w.heap.size (.string zk) (.int .i64 zg) (.slice zA zL.length zc)
    have b9 := k9.below (B := w.heap.size) (fun k hk => by subst hk; exact Nat.le_refl _) B1.out.size
    have B9 := Lib.hid (show _ ∧ _ from ⟨B1.out.trans b9, (hrows.lower (w0 := w) BZ.out.size).kept1 k9 HZ1.out (by decide) (by decide)⟩)
    have HP := Lib.hid hp
    clear b1 b9 k9 hrows hp
    go_wp2
    generalize World.setCell (World.setCell (World.setCell w1 ⟨w.heap.size, 0, none⟩ (.string zk)) ⟨w.heap.size, 1, none⟩ (.int .i64 zg)) ⟨w.heap.size, 2, none⟩ (.slice zA zL.length zc) = w9 at m9 B9 ⊢
    clear z0 z1 z2 y0 y1 y2
    have q0 := cell_at (i := 0) m9 rfl
    have q1 := cell_at (i := 1) m9 rfl
    have q2 := cell_at (i := 2) m9 rfl
    refine bodyPost_ret (v := .tuple #[.agg #[.string zk, .int .i64 zg, .slice zA zL.length zc], .int .i64 0]) ?_ rfl ?_
    · simp [results, Try.results11, go_sem, q0, q1, q2]
    · exact ⟨⟨zk, zg, zL, zA, zc⟩, HP.out, rfl, B9.out.2, B9.out.1⟩
end Go.Proofs.Ythfanonjokpflaa
set_option linter.unusedVariables false
set_option linter.unusedSimpArgs false
namespace Go.Proofs.Ythfanonjokpflaa
open Go Go.RowKit

theorem rsame_ra (x y : RA) (B B' : Nat) (w : World) (h : RaIn w B x) (h' : RaIn w B' y) (hB : B ≤ w.heap.size) (hB' : B' ≤ w.heap.size) (hn : x.ro.cols.length ≤ 1000) (hn' : y.ro.cols.length ≤ 1000) :
    Calls Try.prog 53 #[.agg #[.string x.ro.key, .string x.ro.live.s, .bool x.ro.live.d, .int .i64 x.ro.live.a, .int .i64 x.ro.live.e, .int .i64 x.ro.gone, .int .i64 x.ro.shade, .slice x.A x.ro.cols.length x.c], .agg #[.string y.ro.key, .string y.ro.live.s, .bool y.ro.live.d, .int .i64 y.ro.live.a, .int .i64 y.ro.live.e, .int .i64 y.ro.gone, .int .i64 y.ro.shade, .slice y.A y.ro.cols.length y.c]] w fun e w' => e = .returned (.bool (x.ro.same y.ro)) ∧ Below w.heap.size w w' :=
  rsamerow_any x.ro.key x.ro.live.s y.ro.key y.ro.live.s x.ro.live.d y.ro.live.d x.ro.live.a x.ro.live.e x.ro.gone x.ro.shade y.ro.live.a y.ro.live.e y.ro.gone y.ro.shade x.A y.A x.ro.cols.length x.c y.ro.cols.length y.c B B' x.ro.cols y.ro.cols w h.rd h'.rd hB hB' (by omega) (by omega)
set_option maxRecDepth 8000 in
set_option maxHeartbeats 4000000 in
theorem rsamerows_any (A A' : Option Addr) (n n' c c' B B' : Nat) (L M : List RA) (w : World) (h : Lies w B A n c L) (h' : Lies w B' A' n' c' M) (hB : B ≤ w.heap.size) (hB' : B' ≤ w.heap.size) (hn : n ≤ 1000000) (hn' : n' ≤ 1000000) (hf : ∀ x ∈ L, x.ro.cols.length ≤ 1000) (hf' : ∀ x ∈ M, x.ro.cols.length ≤ 1000) :
    Calls Try.prog 27 #[.slice A n c, .slice A' n' c'] w fun e w' => e = .returned (.bool (decide (ros L = ros M))) ∧ Below w.heap.size w w' := by
  have hl := h.len
  have hl' := h'.len
  obtain ⟨v, hv⟩ : ∃ v : Bool, decide (ros L = ros M) = v := ⟨_, rfl⟩
  rw [hv]
  have HV := Lib.hid hv
  clear hv
  by_cases hne : n = n'
  · subst hne
    have HL := Lib.hid hl
    have HL' := Lib.hid hl'
    have HH := Lib.hid h; have HH' := Lib.hid h'
    have HF := Lib.hid hf; have HF' := Lib.hid hf'
    clear hl hl' h h' hf hf'
    go_enter Try.func27, Try.ntmps27
    go_wp2
    go_loopw [5] (fun i wr => ∃ t : Nat, t ≤ n ∧ i = .int .i64 t ∧ ros (L.take t) = ros (M.take t) ∧ Below w.heap.size w wr) (fun i _ => n - (intOf i).toNat)
    case atStart => exact ⟨0, Nat.zero_le _, rfl, rfl, Below.refl _ _⟩
    case round =>
      obtain ⟨t, ht, rfl, hz, hb⟩ := hrel
      have HZ := Lib.hid hz; have HB := Lib.hid hb
      clear hz hb
      by_cases hlt : t < n
      · have i1 : (t : Int) < n := by omega
        have i0 : (0 : Int) ≤ t := by omega
        have htl : t < L.length := by rw [HL.out]; exact hlt
        have htl' : t < M.length := by rw [HL'.out]; exact hlt
        obtain ⟨g, o, rfl, hgb⟩ := HH.out.rd.ex (by omega)
        obtain ⟨g', o', rfl, hgb'⟩ := HH'.out.rd.ex (by omega)
        have hrow := (HH.out.below (HB.out.mono hB)).rd.row htl
        have hrow' := (HH'.out.below (HB.out.mono hB')).rd.row htl'
        have hin := (HH.out.below (HB.out.mono hB)).held L[t] (List.getElem_mem htl)
        have hin' := (HH'.out.below (HB.out.mono hB')).held M[t] (List.getElem_mem htl')
        have hcl := HF.out L[t] (List.getElem_mem htl)
        have hcl' := HF'.out M[t] (List.getElem_mem htl')
        have htk := ros_take htl
        have htk' := ros_take htl'
        have hne : L[t].ro ≠ M[t].ro → v = false := fun hh => by
          rw [← HV.out, decide_eq_false_iff_not]
          intro he
          refine hh ?_
          have h1 : (ros L)[t]? = (ros M)[t]? := by rw [he]
          rw [List.getElem?_map, List.getElem?_map, List.getElem?_eq_getElem htl, List.getElem?_eq_getElem htl'] at h1
          injection h1
        obtain ⟨x, hx⟩ : ∃ x, L[t] = x := ⟨_, rfl⟩
        obtain ⟨y, hy⟩ : ∃ y, M[t] = y := ⟨_, rfl⟩
        rw [hx] at hrow hin hcl htk hne
        rw [hy] at hrow' hin' hcl' htk' hne
        obtain ⟨u, hu⟩ : ∃ u, x.ro.same y.ro = u := ⟨_, rfl⟩
        have HRX := Lib.hid hrow; have HRY := Lib.hid hrow'; have HU := Lib.hid hu; have HTK := Lib.hid htk; have HTK' := Lib.hid htk'; have HNE := Lib.hid hne
        have HIN := Lib.hid hin; have HIN' := Lib.hid hin'; have HCL := Lib.hid hcl; have HCL' := Lib.hid hcl'
        have HGW : Hid (g < wr.heap.size) := Lib.hid (by have := HB.out.size; omega)
        have HGW' : Hid (g' < wr.heap.size) := Lib.hid (by have := HB.out.size; omega)
        have HUB : Hid (B ≤ wr.heap.size) := Lib.hid (Nat.le_trans hB HB.out.size)
        have HUB' : Hid (B' ≤ wr.heap.size) := Lib.hid (Nat.le_trans hB' HB.out.size)
        clear hrow hrow' hu htk htk' hne hin hin' hcl hcl' hx hy
        go_wp2_with fail
        refine wp_region_held_drew (S := fun w' => Below wr.heap.size wr w') (by kernel_rfl) ?_ (fun hHeld => ?_)
        · exact (Below.refl _ _).drew
        refine takesH [0, 1, 2, 3, 4, 5, 6, 7] ?_
        repeat
          refine takesH_one (v := ?_) ?_ ?_
          rotate_left
          · first | (refine Or.inr ⟨by rfl, ?_⟩; with_reducible rfl) | (refine Or.inl ⟨by rfl, ?_⟩; intro wx hSw; (try dsimp only at hSw); first | (go_simp; first | done | with_reducible rfl) | (obtain ⟨_, _, _, _, _, _, _, _⟩ := HRX.out.below hSw HGW.out; go_simp; first | done | with_reducible rfl) | (obtain ⟨_, _, _, _, _, _, _, _⟩ := HRY.out.below hSw HGW'.out; go_simp; first | done | with_reducible rfl))
          try simp only [Act.put, List.getElem_toArray, List.getElem_cons_succ, List.getElem_cons_zero, List.setIfInBounds_toArray, List.set_cons_zero, List.set_cons_succ]
        refine takesH_nil ?_
        refine wpAnyH_ready (rs := [8]) (by kernel_rfl) (by simp) (AllReadyH.cons rfl (fun K hK => ?_) AllReadyH.nil)
        go_simp
        refine (rsame_ra x y B B' _ (HIN.out.below (hHeld.mono HUB.out)) (HIN'.out.below (hHeld.mono HUB'.out)) (Nat.le_trans HUB.out hHeld.size) (Nat.le_trans HUB'.out hHeld.size) HCL.out HCL'.out).mono ?_
        rintro e w1 ⟨rfl, b1⟩
        rw [HU.out]
        try go_wp2_with fail
        refine hK.out _ _ ?_ (fun hHeld => ?_)
        · exact next hHeld b1
        clear hK K
        try simp only [Act.put, List.getElem_toArray, List.getElem_cons_succ, List.getElem_cons_zero, List.setIfInBounds_toArray, List.set_cons_zero, List.set_cons_succ]
        refine takesH [9] ?_
        repeat
          refine takesH_one (v := ?_) ?_ ?_
          rotate_left
          · first | (refine Or.inr ⟨by rfl, ?_⟩; with_reducible rfl) | (refine Or.inl ⟨by rfl, ?_⟩; intro wx hSw; (try dsimp only at hSw); first | (go_simp; first | done | with_reducible rfl))
          try simp only [Act.put, List.getElem_toArray, List.getElem_cons_succ, List.getElem_cons_zero, List.setIfInBounds_toArray, List.set_cons_zero, List.set_cons_succ]
        refine takesH_nil ?_
        refine wpAnyH_done (by kernel_rfl) ?_ _
        cases u
        · have hv0 : v = false := HNE.out fun he => by have := (rosame_iff _ _).2 he; rw [HU.out] at this; cases this
          subst hv0
          go_wp2
          go_ret
          exact ⟨rfl, next HB.out hHeld⟩
        · go_wp2
          go_roundw
          case rel => exact ⟨t + 1, by omega, by go_num, by rw [HTK.out, HTK'.out, HZ.out, (rosame_iff _ _).1 HU.out], next HB.out hHeld⟩
          case measure => simp [intOf]; omega
      · obtain rfl : t = n := by omega
        have hf : v = true := by
          rw [← HV.out, decide_eq_true_iff]
          have := HZ.out
          rwa [List.take_of_length_le (by rw [HL.out]; exact Nat.le_refl _), List.take_of_length_le (by rw [HL'.out]; exact Nat.le_refl _)] at this
        subst hf
        go_wp2
        go_ret
        exact ⟨rfl, HB.out⟩
  · have hf : v = false := by
      rw [← HV.out, decide_eq_false_iff_not]
      intro he
      have := congrArg List.length he
      rw [List.length_map, List.length_map, hl, hl'] at this
      exact hne this
    subst hf
    have hb : ((n : Int) != n') = true := by rw [bne_iff_ne]; omega
    go_enter Try.func27, Try.ntmps27
    go_wp2
    go_ret
    exact ⟨rfl, Below.refl _ _⟩
set_option maxRecDepth 8000 in
set_option maxHeartbeats 4000000 in
theorem rpsame_any (k k' : ByteArray) (g g' : Int) (A A' : Option Addr) (n n' c c' B B' : Nat) (L M : List RA) (w : World) (h : Lies w B A n c L) (h' : Lies w B' A' n' c' M) (hB : B ≤ w.heap.size) (hB' : B' ≤ w.heap.size) (hn : n ≤ 1000000) (hn' : n' ≤ 1000000) (hf : ∀ x ∈ L, x.ro.cols.length ≤ 1000) (hf' : ∀ x ∈ M, x.ro.cols.length ≤ 1000) :
    Calls Try.prog 12 #[.agg #[.string k, .int .i64 g, .slice A n c], .agg #[.string k', .int .i64 g', .slice A' n' c']] w fun e w' => e = .returned (.bool (psame k g (ros L) k' g' (ros M))) ∧ Below w.heap.size w w' := by
  obtain ⟨r, hrr⟩ : ∃ r, psame k g (ros L) k' g' (ros M) = r := ⟨_, rfl⟩
  rw [hrr]
  have bz := ((Below.refl w.heap.size w).alloc (Nat.le_refl _) (.cells #[.string k, .int .i64 g, .slice A n c] 24)).alloc (by simp) (.cells #[.string k', .int .i64 g', .slice A' n' c'] 24)
  have HL := Lib.hid (h.below (bz.mono hB)); have HL' := Lib.hid (h'.below (bz.mono hB')); have BZ := Lib.hid bz; have HR := Lib.hid hrr; have HF := Lib.hid hf; have HF' := Lib.hid hf'
  clear hrr bz h h' hf hf'
  unfold psame at HR
  cases h1 : (k.toList == k'.toList)
  · have hv : r = false := by rw [← HR.out, h1]; rfl
    subst hv
    go_enter Try.func12, Try.ntmps12
    go_wp2
    go_ret
    exact ⟨rfl, BZ.out⟩
  · cases h3 : (g == g')
    · have hv : r = false := by rw [← HR.out, h1, h3]; rfl
      subst hv
      go_enter Try.func12, Try.ntmps12
      go_wp2
      go_ret
      exact ⟨rfl, BZ.out⟩
    · have hv : decide (ros L = ros M) = r := by rw [← HR.out, h1, h3]; simp
      have HV := Lib.hid hv
      clear hv
      go_enter Try.func12, Try.ntmps12
      go_wp2_with fail
      refine (rsamerows_any A A' n n' c c' B B' L M _ HL.out HL'.out ?hb ?hb' hn hn' HF.out HF'.out).mono ?_
      case hb => simp; omega
      case hb' => simp; omega
      rintro e w2 ⟨rfl, b2⟩
      rw [HV.out]
      go_wp2
      go_ret
      exact ⟨rfl, next BZ.out b2⟩
end Go.Proofs.Ythfanonjokpflaa
set_option linter.unusedVariables false
set_option linter.unusedSimpArgs false
namespace Go.Proofs.Ythfanonjokpflaa
open Go Go.RowKit

set_option maxRecDepth 8000 in
set_option maxHeartbeats 4000000 in
theorem same_ints (A A' : Option Addr) (n c c' B B' : Nat) (L : List Int) (w : World) (h : RdZ w B A n L) (h' : RdZ w B' A' n L) (hB : B ≤ w.heap.size) (hB' : B' ≤ w.heap.size) (hn : n ≤ 1000000) :
    Calls Try.prog 34 #[.slice A n c, .slice A' n c'] w fun e w' => e = .returned (.bool true) ∧ Below w.heap.size w w' := by
  have hl := h.1
  have HH := Lib.hid h; have HH' := Lib.hid h'; have HB := Lib.hid hB; have HB' := Lib.hid hB'; have HL := Lib.hid hl; have HN := Lib.hid hn
  have d1 : ((n : Int) == (n : Int)) = true := by simp
  clear h h' hB hB' hn hl
  go_enter Try.func34, Try.ntmps34
  go_wp2
  clear d1
  go_loopw [5] (fun i wr => ∃ t : Nat, t ≤ n ∧ i = .int .i64 t ∧ Below w.heap.size w wr) (fun i _ => n - (intOf i).toNat)
  case atStart => exact ⟨0, Nat.zero_le _, rfl, Below.refl _ _⟩
  case round =>
    obtain ⟨t, ht, rfl, hb⟩ := hrel
    have i8 : n ≤ 1000000 := HN.out
    have BB := Lib.hid hb
    by_cases hlt : t < n
    · have i1 : (t : Int) < n := by omega
      have i0 : (0 : Int) ≤ t := by omega
      have htl : t < L.length := by rw [HL.out]; exact hlt
      have hq := HH.out.below (hb.mono HB.out)
      have hq' := HH'.out.below (hb.mono HB'.out)
      obtain ⟨g, o, rfl, hg, hc⟩ := hq.2 (by omega)
      obtain ⟨g', o', rfl, hg', hc'⟩ := hq'.2 (by omega)
      have z := hc t htl
      have z' := hc' t htl
      obtain ⟨x, hx⟩ : ∃ x, L[t] = x := ⟨_, rfl⟩
      rw [hx] at z z'
      have e0 : (x != x) = false := by simp
      have e1 : (x == x) = true := by simp
      have hgw : g < wr.heap.size := by have := HB.out; have := hb.size; omega
      have hgw' : g' < wr.heap.size := by have := HB'.out; have := hb.size; omega
      have hall : ∀ w', Below wr.heap.size wr w' → w'.cell? ⟨g, o + t, none⟩ = some (.int .i64 x) ∧ w'.cell? ⟨g', o' + t, none⟩ = some (.int .i64 x) := fun w' hb' => ⟨(hb'.cell (p := ⟨g, o + t, none⟩) hgw).trans z, (hb'.cell (p := ⟨g', o' + t, none⟩) hgw').trans z'⟩
      have HALL := Lib.hid hall
      clear hall hb hq hq' hc hc' z z' hx hg hg' hgw hgw'
      go_wp2_with fail
      refine wp_region_held_drew (S := fun w' => Below wr.heap.size wr w') (by kernel_rfl) ?_ (fun hHeld => ?_)
      · exact (Below.refl _ _).drew
      refine takesH [0, 1, 2, 3, 4, 5, 6, 7, 8] ?_
      repeat
        refine takesH_one (v := ?_) ?_ ?_
        rotate_left
        · first | (refine Or.inr ⟨by rfl, ?_⟩; with_reducible rfl) | (refine Or.inl ⟨by rfl, ?_⟩; intro wx hSw; (try dsimp only at hSw); first | (go_simp; first | done | with_reducible rfl) | (obtain ⟨_, _⟩ := HALL.out _ hSw; go_simp; first | done | with_reducible rfl))
        try simp only [Act.put, List.getElem_toArray, List.getElem_cons_succ, List.getElem_cons_zero, List.setIfInBounds_toArray, List.set_cons_zero, List.set_cons_succ]
      refine takesH_nil ?_
      refine wpAnyH_done (by kernel_rfl) ?_ _
      have BD := Lib.hid (next BB.out hHeld)
      go_wp2
      go_roundw
      case rel => exact ⟨t + 1, by omega, by go_num, BD.out⟩
      case measure => simp [intOf]; omega
    · obtain rfl : t = n := by omega
      clear hb
      go_wp2
      go_ret
      exact ⟨rfl, BB.out⟩
set_option maxRecDepth 8000 in
set_option maxHeartbeats 4000000 in
theorem same_notes (A A' : Option Addr) (n c c' B B' : Nat) (L : List NA) (w : World) (h : RdN w B A n L) (h' : RdN w B' A' n L) (hB : B ≤ w.heap.size) (hB' : B' ≤ w.heap.size) (hn : n ≤ 1000000) :
    Calls Try.prog 33 #[.slice A n c, .slice A' n c'] w fun e w' => e = .returned (.bool true) ∧ Below w.heap.size w w' := by
  have hl := h.1
  have HH := Lib.hid h; have HH' := Lib.hid h'; have HB := Lib.hid hB; have HB' := Lib.hid hB'; have HL := Lib.hid hl; have HN := Lib.hid hn
  have d1 : ((n : Int) == (n : Int)) = true := by simp
  clear h h' hB hB' hn hl
  go_enter Try.func33, Try.ntmps33
  go_wp2
  clear d1
  go_loopw [5] (fun i wr => ∃ t : Nat, t ≤ n ∧ i = .int .i64 t ∧ Below w.heap.size w wr) (fun i _ => n - (intOf i).toNat)
  case atStart => exact ⟨0, Nat.zero_le _, rfl, Below.refl _ _⟩
  case round =>
    obtain ⟨t, ht, rfl, hb⟩ := hrel
    have i8 : n ≤ 1000000 := HN.out
    have BB := Lib.hid hb
    by_cases hlt : t < n
    · have i1 : (t : Int) < n := by omega
      have i0 : (0 : Int) ≤ t := by omega
      have htl : t < L.length := by rw [HL.out]; exact hlt
      have hq := HH.out.below (hb.mono HB.out)
      have hq' := HH'.out.below (hb.mono HB'.out)
      obtain ⟨g, o, rfl, hg⟩ := hq.ex (by omega)
      obtain ⟨g', o', rfl, hg'⟩ := hq'.ex (by omega)
      have z := hq.part htl
      have z' := hq'.part htl
      obtain ⟨⟨x, s⟩, hx⟩ : ∃ x, L[t] = x := ⟨_, rfl⟩
      rw [hx] at z z'
      dsimp only at z z'
      have e0 : (x != x) = false := by simp
      have e1 : (x == x) = true := by simp
      have e2 : (s.toList != s.toList) = false := by simp
      have e3 : (s.toList == s.toList) = true := by simp
      have hgw : g < wr.heap.size := by have := HB.out; have := hb.size; omega
      have hgw' : g' < wr.heap.size := by have := HB'.out; have := hb.size; omega
      have hall : ∀ w', Below wr.heap.size wr w' → w'.cell? ⟨g, o + t * 2, none⟩ = some (.int .i64 x) ∧ w'.cell? ⟨g, o + t * 2 + 1, none⟩ = some (.string s) ∧ w'.cell? ⟨g', o' + t * 2, none⟩ = some (.int .i64 x) ∧ w'.cell? ⟨g', o' + t * 2 + 1, none⟩ = some (.string s) := fun w' hb' => ⟨(hb'.cell (p := ⟨g, _, none⟩) hgw).trans z.1, (hb'.cell (p := ⟨g, _, none⟩) hgw).trans z.2, (hb'.cell (p := ⟨g', _, none⟩) hgw').trans z'.1, (hb'.cell (p := ⟨g', _, none⟩) hgw').trans z'.2⟩
      have HALL := Lib.hid hall
      clear hall hb hq hq' z z' hx hg hg' hgw hgw'
      go_wp2_with fail
      refine wp_region_held_drew (S := fun w' => Below wr.heap.size wr w') (by kernel_rfl) ?_ (fun hHeld => ?_)
      · exact (Below.refl _ _).drew
      refine takesH [0, 1, 2, 3, 4, 5, 6, 7, 8, 9, 10, 11, 12, 13, 14, 15, 16, 17, 18, 19, 20, 21, 22, 23] ?_
      repeat
        refine takesH_one (v := ?_) ?_ ?_
        rotate_left
        · first | (refine Or.inr ⟨by rfl, ?_⟩; with_reducible rfl) | (refine Or.inl ⟨by rfl, ?_⟩; intro wx hSw; (try dsimp only at hSw); first | (go_simp; first | done | with_reducible rfl) | (obtain ⟨_, _, _, _⟩ := HALL.out _ hSw; go_simp; first | done | with_reducible rfl))
        try simp only [Act.put, List.getElem_toArray, List.getElem_cons_succ, List.getElem_cons_zero, List.setIfInBounds_toArray, List.set_cons_zero, List.set_cons_succ]
      refine takesH_nil ?_
      refine wpAnyH_done (by kernel_rfl) ?_ _
      have BD := Lib.hid (next BB.out hHeld)
      go_wp2
      go_roundw
      case rel => exact ⟨t + 1, by omega, by go_num, BD.out⟩
      case measure => simp [intOf]; omega
    · obtain rfl : t = n := by omega
      clear hb
      go_wp2
      go_ret
      exact ⟨rfl, BB.out⟩
set_option maxRecDepth 8000 in
set_option maxHeartbeats 4000000 in
theorem same_muts (A A' : Option Addr) (n c c' B B' : Nat) (L M : List MA) (w : World) (h : LiesM w B A n c L) (h' : LiesM w B' A' n c' M) (hB : B ≤ w.heap.size) (hB' : B' ≤ w.heap.size) (hn : n ≤ 1000000) (hf : ∀ x ∈ L, x.p.L.length ≤ 1000000 ∧ ∀ y ∈ x.p.L, y.ro.cols.length ≤ 1000) (hf' : ∀ x ∈ M, x.p.L.length ≤ 1000000 ∧ ∀ y ∈ x.p.L, y.ro.cols.length ≤ 1000) (he : muts L = muts M) :
    Calls Try.prog 32 #[.slice A n c, .slice A' n c'] w fun e w' => e = .returned (.bool true) ∧ Below w.heap.size w w' := by
  have hl := h.rd.1
  have HH := Lib.hid h; have HH' := Lib.hid h'; have HB := Lib.hid hB; have HB' := Lib.hid hB'; have HL := Lib.hid hl; have HN := Lib.hid hn; have HM := Lib.hid h'.rd.1; have HF := Lib.hid hf; have HF' := Lib.hid hf'; have HE := Lib.hid he
  clear hf hf' he
  have d1 : ((n : Int) == (n : Int)) = true := by simp
  clear h h' hB hB' hn hl
  go_enter Try.func32, Try.ntmps32
  go_wp2
  clear d1
  go_loopw [5] (fun i wr => ∃ t : Nat, t ≤ n ∧ i = .int .i64 t ∧ Below w.heap.size w wr) (fun i _ => n - (intOf i).toNat)
  case atStart => exact ⟨0, Nat.zero_le _, rfl, Below.refl _ _⟩
  case round =>
    obtain ⟨t, ht, rfl, hb⟩ := hrel
    have i8 : n ≤ 1000000 := HN.out
    have BB := Lib.hid hb
    by_cases hlt : t < n
    · have i1 : (t : Int) < n := by omega
      have i0 : (0 : Int) ≤ t := by omega
      have htl : t < L.length := by rw [HL.out]; exact hlt
      have hq := HH.out.below (hb.mono HB.out)
      have hq' := HH'.out.below (hb.mono HB'.out)
      have htm : t < M.length := by rw [HM.out]; exact hlt
      obtain ⟨g, o, rfl, hg⟩ := hq.rd.ex (by omega)
      obtain ⟨g', o', rfl, hg'⟩ := hq'.rd.ex (by omega)
      have z := hq.rd.part htl
      have z' := hq'.rd.part htm
      have p := hq.parts L[t] (List.getElem_mem htl)
      have p' := hq'.parts M[t] (List.getElem_mem htm)
      have f := HF.out L[t] (List.getElem_mem htl)
      have f' := HF'.out M[t] (List.getElem_mem htm)
      have em : mutOf L[t] = mutOf M[t] := by
        have h1 : (muts L)[t]'(by rw [List.length_map]; exact htl) = (muts M)[t]'(by rw [List.length_map]; exact htm) := by simp only [HE.out]
        simpa using h1
      obtain ⟨⟨tb, pk, pg, pL, pA, pc⟩, hx⟩ : ∃ x, L[t] = x := ⟨_, rfl⟩
      obtain ⟨⟨tb', pk', pg', pM, pA', pc'⟩, hx'⟩ : ∃ x, M[t] = x := ⟨_, rfl⟩
      rw [hx] at z p f em
      rw [hx'] at z' p' f' em
      dsimp only at z z' p p' f f'
      unfold mutOf at em
      injection em with em1 em2
      injection em2 with em2 em3 em4
      dsimp only at em1 em2 em3 em4
      subst em1
      subst em2
      subst em3
      have ps : psame pk pg (ros pL) pk pg (ros pM) = true := by rw [em4]; exact psame_self _ _ _
      have e2 : (tb.toList != tb.toList) = false := by simp
      have e3 : (tb.toList == tb.toList) = true := by simp
      have hgw : g < wr.heap.size := by have := HB.out; have := hb.size; omega
      have hgw' : g' < wr.heap.size := by have := HB'.out; have := hb.size; omega
      have PP := Lib.hid (show _ ∧ _ from ⟨p, p'⟩); have FF := Lib.hid (show _ ∧ _ from ⟨f, f'⟩); have PS := Lib.hid ps; have BW := Lib.hid (show B ≤ wr.heap.size ∧ B' ≤ wr.heap.size from ⟨Nat.le_trans HB.out hb.size, Nat.le_trans HB'.out hb.size⟩)
      have hall : ∀ w', Below wr.heap.size wr w' → w'.cell? ⟨g, o + t * 4, none⟩ = some (.string tb) ∧ w'.cell? ⟨g, o + t * 4 + 1, none⟩ = some (.string pk) ∧ w'.cell? ⟨g, o + t * 4 + 2, none⟩ = some (.int .i64 pg) ∧ w'.cell? ⟨g, o + t * 4 + 3, none⟩ = some (.slice pA pL.length pc) ∧ w'.cell? ⟨g', o' + t * 4, none⟩ = some (.string tb) ∧ w'.cell? ⟨g', o' + t * 4 + 1, none⟩ = some (.string pk) ∧ w'.cell? ⟨g', o' + t * 4 + 2, none⟩ = some (.int .i64 pg) ∧ w'.cell? ⟨g', o' + t * 4 + 3, none⟩ = some (.slice pA' pM.length pc') := fun w' hb' => ⟨(hb'.cell (p := ⟨g, _, none⟩) hgw).trans z.1, (hb'.cell (p := ⟨g, _, none⟩) hgw).trans z.2.1, (hb'.cell (p := ⟨g, _, none⟩) hgw).trans z.2.2.1, (hb'.cell (p := ⟨g, _, none⟩) hgw).trans z.2.2.2, (hb'.cell (p := ⟨g', _, none⟩) hgw').trans z'.1, (hb'.cell (p := ⟨g', _, none⟩) hgw').trans z'.2.1, (hb'.cell (p := ⟨g', _, none⟩) hgw').trans z'.2.2.1, (hb'.cell (p := ⟨g', _, none⟩) hgw').trans z'.2.2.2⟩
      have HALL := Lib.hid hall
      clear hall hb hq hq' z z' p p' f f' hx hx' hg hg' hgw hgw' ps em4
      go_wp2_with fail
      refine wp_region_held_drew (S := fun w' => Below wr.heap.size wr w') (by kernel_rfl) ?_ (fun hHeld => ?_)
      · exact (Below.refl _ _).drew
      refine takesH [0, 1, 2, 3, 4, 5, 6, 7, 8, 9, 10, 11, 12, 13, 14, 15, 16, 17, 18, 19, 20, 21] ?_
      repeat
        refine takesH_one (v := ?_) ?_ ?_
        rotate_left
        · first | (refine Or.inr ⟨by rfl, ?_⟩; with_reducible rfl) | (refine Or.inl ⟨by rfl, ?_⟩; intro wx hSw; (try dsimp only at hSw); first | (go_simp; first | done | with_reducible rfl) | (obtain ⟨_, _, _, _, _, _, _, _⟩ := HALL.out _ hSw; go_simp; first | done | with_reducible rfl))
        try simp only [Act.put, List.getElem_toArray, List.getElem_cons_succ, List.getElem_cons_zero, List.setIfInBounds_toArray, List.set_cons_zero, List.set_cons_succ]
      refine takesH_nil ?_
      refine wpAnyH_ready (rs := [22]) (by kernel_rfl) (by simp) (AllReadyH.cons rfl (fun K hK => ?_) AllReadyH.nil)
      go_simp
      refine (rpsame_any pk pk pg pg pA pA' pL.length pM.length pc pc' B B' pL pM _ (PP.out.1.below (hHeld.mono BW.out.1)) (PP.out.2.below (hHeld.mono BW.out.2)) (Nat.le_trans BW.out.1 hHeld.size) (Nat.le_trans BW.out.2 hHeld.size) FF.out.1.1 FF.out.2.1 FF.out.1.2 FF.out.2.2).mono ?_
      rintro e v1 ⟨rfl, b1⟩
      rw [PS.out]
      try go_wp2_with fail
      refine hK.out _ _ ?_ (fun hHeld => ?_)
      · exact next hHeld b1
      clear hK K
      try simp only [Act.put, List.getElem_toArray, List.getElem_cons_succ, List.getElem_cons_zero, List.setIfInBounds_toArray, List.set_cons_zero, List.set_cons_succ]
      refine takesH [23, 24] ?_
      repeat
        refine takesH_one (v := ?_) ?_ ?_
        rotate_left
        · first | (refine Or.inr ⟨by rfl, ?_⟩; with_reducible rfl) | (refine Or.inl ⟨by rfl, ?_⟩; intro wx hSw; (try dsimp only at hSw); first | (go_simp; first | done | with_reducible rfl))
        try simp only [Act.put, List.getElem_toArray, List.getElem_cons_succ, List.getElem_cons_zero, List.setIfInBounds_toArray, List.set_cons_zero, List.set_cons_succ]
      refine takesH_nil ?_
      refine wpAnyH_done (by kernel_rfl) ?_ _
      have BD := Lib.hid (next BB.out hHeld)
      go_wp2
      go_roundw
      case rel => exact ⟨t + 1, by omega, by go_num, BD.out⟩
      case measure => simp [intOf]; omega
    · obtain rfl : t = n := by omega
      clear hb
      go_wp2
      go_ret
      exact ⟨rfl, BB.out⟩
end Go.Proofs.Ythfanonjokpflaa
set_option linter.unusedVariables false
set_option linter.unusedSimpArgs false
namespace Go.Proofs.Ythfanonjokpflaa
open Go Go.RowKit

theorem Cur.lower {w V w9 : World} {v : Value} {C : Cols} (h : Cur V w9 v C) (hV : Below w.heap.size w V) : Cur w w9 v C := ⟨own_base h.own hV.size, next hV h.below⟩
end Go.Proofs.Ythfanonjokpflaa
set_option linter.unusedVariables false
set_option linter.unusedSimpArgs false
namespace Go.Proofs.Ythfanonjokpflaa
open Go Go.RowKit Go.Joins

/-- A row's block, the columns as they are. -/
def RJ (w : World) (r : Nat) (k s : ByteArray) (d : Bool) (a e g h : Int) (A : Option Addr) (n c : Nat) : Prop := w.heap[r]? = some (.cells #[.string k, .string s, .bool d, .int .i64 a, .int .i64 e, .int .i64 g, .int .i64 h, .slice A n c] 61 (0, 0))
theorem RJ.cells {w : World} {r : Nat} {k s : ByteArray} {d : Bool} {a e g h : Int} {A : Option Addr} {n c : Nat} (hr : RJ w r k s d a e g h A n c) : RoAt w r k s d a e g h A n c :=
  ⟨cell_at hr rfl, cell_at hr rfl, cell_at hr rfl, cell_at hr rfl, cell_at hr rfl, cell_at hr rfl, cell_at hr rfl, cell_at hr rfl⟩
theorem RJ.set {w : World} {r : Nat} {k s : ByteArray} {d : Bool} {a e g h : Int} {A : Option Addr} {n c : Nat} (hr : RJ w r k s d a e g h A n c) (k' s' : ByteArray) (d' : Bool) (a' e' g' h' : Int) (A' : Option Addr) (n' c' : Nat) :
    RJ ((((((((w.setCell ⟨r, 0, none⟩ (.string k')).setCell ⟨r, 1, none⟩ (.string s')).setCell ⟨r, 2, none⟩ (.bool d')).setCell ⟨r, 3, none⟩ (.int .i64 a')).setCell ⟨r, 4, none⟩ (.int .i64 e')).setCell ⟨r, 5, none⟩ (.int .i64 g')).setCell ⟨r, 6, none⟩ (.int .i64 h')).setCell ⟨r, 7, none⟩ (.slice A' n' c')) r k' s' d' a' e' g' h' A' n' c' := by
  have m := block_setCell (i := 7) (block_setCell (i := 6) (block_setCell (i := 5) (block_setCell (i := 4) (block_setCell (i := 3) (block_setCell (i := 2) (block_setCell (i := 1) (block_setCell (i := 0) hr (.string k')) (.string s')) (.bool d')) (.int .i64 a')) (.int .i64 e')) (.int .i64 g')) (.int .i64 h')) (.slice A' n' c')
  simp only [List.setIfInBounds_toArray, List.set_cons_zero, List.set_cons_succ] at m
  exact m
/-- Eight stores into one block. -/
theorem eight_heap (w : World) (r : Nat) (v0 v1 v2 v3 v4 v5 v6 v7 : Value) (j : Nat) (hj : j ≠ r) :
    ((((((((w.setCell ⟨r, 0, none⟩ v0).setCell ⟨r, 1, none⟩ v1).setCell ⟨r, 2, none⟩ v2).setCell ⟨r, 3, none⟩ v3).setCell ⟨r, 4, none⟩ v4).setCell ⟨r, 5, none⟩ v5).setCell ⟨r, 6, none⟩ v6).setCell ⟨r, 7, none⟩ v7).heap[j]? = w.heap[j]? := by
  iterate 8 rw [Below.heap_setCell _ _ _ _ hj]
theorem eight_below {B : Nat} {w0 w : World} (h : Below B w0 w) (r : Nat) (hr : B ≤ r) (v0 v1 v2 v3 v4 v5 v6 v7 : Value) :
    Below B w0 ((((((((w.setCell ⟨r, 0, none⟩ v0).setCell ⟨r, 1, none⟩ v1).setCell ⟨r, 2, none⟩ v2).setCell ⟨r, 3, none⟩ v3).setCell ⟨r, 4, none⟩ v4).setCell ⟨r, 5, none⟩ v5).setCell ⟨r, 6, none⟩ v6).setCell ⟨r, 7, none⟩ v7) :=
  (((((((h.setCell (p := ⟨r, 0, none⟩) hr v0).setCell (p := ⟨r, 1, none⟩) hr v1).setCell (p := ⟨r, 2, none⟩) hr v2).setCell (p := ⟨r, 3, none⟩) hr v3).setCell (p := ⟨r, 4, none⟩) hr v4).setCell (p := ⟨r, 5, none⟩) hr v5).setCell (p := ⟨r, 6, none⟩) hr v6).setCell (p := ⟨r, 7, none⟩) hr v7

theorem own_ne {w : World} {b n size : Nat} {e e' : TypeId} {v : Value} {xs : List Value} {r : Nat} {cs : Array Value} (h : w.ownsRow b e size v n xs) (hr : w.heap[r]? = some (.cells cs e' (0, 0))) (he : e ≠ e') : ∀ g, v.ownBlock = some g → g ≠ r := fun g hg hgr => by
  subst hgr
  obtain ⟨cs', h1⟩ := own_tag h g hg
  rw [h1] at hr
  injection hr with hr
  injection hr with _ h2
  exact he h2
theorem Cur.eight {w0 w : World} {v : Value} {C : Cols} (hc : Cur w0 w v C) {r : Nat} {k s : ByteArray} {d : Bool} {a e g h : Int} {A : Option Addr} {n c : Nat} (hr : RJ w r k s d a e g h A n c) (hb : w0.heap.size ≤ r) (v0 v1 v2 v3 v4 v5 v6 v7 : Value) :
    Cur w0 ((((((((w.setCell ⟨r, 0, none⟩ v0).setCell ⟨r, 1, none⟩ v1).setCell ⟨r, 2, none⟩ v2).setCell ⟨r, 3, none⟩ v3).setCell ⟨r, 4, none⟩ v4).setCell ⟨r, 5, none⟩ v5).setCell ⟨r, 6, none⟩ v6).setCell ⟨r, 7, none⟩ v7) v C :=
  ⟨own_kept hc.own fun g hg => eight_heap _ _ _ _ _ _ _ _ _ _ g (own_ne hc.own hr (by decide) g hg), eight_below hc.below r hb _ _ _ _ _ _ _ _⟩
end Go.Proofs.Ythfanonjokpflaa
set_option linter.unusedVariables false
set_option linter.unusedSimpArgs false
namespace Go.Proofs.Ythfanonjokpflaa
open Go Go.RowKit

def fewC (x : ByteArray × Ce) : Bool := decide (x.1.size ≤ 300) && decide (x.2.s.size ≤ 300)
def fewB (R : Ro) : Bool := decide (R.key.size ≤ 1000) && (decide (R.cols.length ≤ 20) && (decide (R.live.s.size ≤ 1000) && R.cols.all fewC))
structure Ro.IsFew (R : Ro) : Prop where
  key : R.key.size ≤ 1000
  len : R.cols.length ≤ 20
  live : R.live.s.size ≤ 1000
  cols : ∀ x ∈ R.cols, x.1.size ≤ 300 ∧ x.2.s.size ≤ 300
theorem Ro.IsFew.few {R : Ro} (h : R.IsFew) : Few R.cols := fun x hx => by
  have h1 := h.cols x hx
  refine ⟨by omega, by unfold maxLen; omega⟩

end Go.Proofs.Ythfanonjokpflaa
set_option linter.unusedVariables false
set_option linter.unusedSimpArgs false
namespace Go.Proofs.Ythfanonjokpflaa
open Go Go.RowKit

def fewPB (k : ByteArray) (m : Nat) (l : List Ro) : Bool := decide (k.size ≤ 300) && (decide (l.length ≤ m) && l.all fewB)
end Go.Proofs.Ythfanonjokpflaa
set_option linter.unusedVariables false
set_option linter.unusedSimpArgs false
namespace Go.Proofs.Ythfanonjokpflaa
open Go Go.RowKit

theorem at_newS {W : World} {r : Nat} {cs : Array Value} {t : TypeId} (h : W.heap[r]? = some (.cells cs t (0, 0))) (o : Obj) : (W.alloc o).heap[r]? = some (.cells cs t (0, 0)) :=
  (((Below.refl W.heap.size W).alloc (Nat.le_refl _) o).block r (Array.getElem?_eq_some_iff.1 h).1).trans h
/-- A batch whose partitions are not too great to be held against others. -/
structure BtC (x : BA) : Prop where
  muts : ∀ y ∈ x.M, y.p.L.length ≤ 1000000 ∧ ∀ r ∈ y.p.L, r.ro.cols.length ≤ 1000
  lm : x.M.length ≤ 1000000
  ln : x.N.length ≤ 1000000
  ld : x.D.length ≤ 1000000
set_option maxRecDepth 8000 in
set_option maxHeartbeats 2000000 in
theorem same_batch (x y : BA) (B B' : Nat) (w : World) (h : LiesB w B x) (h' : LiesB w B' y) (hB : B ≤ w.heap.size) (hB' : B' ≤ w.heap.size) (hc : BtC x) (hc' : BtC y) (he : x.bt = y.bt) :
    Calls Try.prog 16 #[bV x, bV y] w fun e w' => e = .returned (.bool true) ∧ Below w.heap.size w w' := by
  have e1 : muts x.M = muts y.M := congrArg Bt.muts he
  have e2 : x.N = y.N := congrArg Bt.add he
  have e3 : x.D = y.D := congrArg Bt.drop he
  have l1 : x.M.length = y.M.length := by have := congrArg List.length e1; simpa using this
  obtain ⟨AM, cM, M, AN, cN, N, AD, cD, D⟩ := x
  obtain ⟨AM', cM', M', AN', cN', N', AD', cD', D'⟩ := y
  dsimp only at e1 e2 e3 l1
  subst e2
  subst e3
  obtain ⟨m, hm⟩ : ∃ m, M'.length = m := ⟨_, rfl⟩
  rw [hm] at l1
  have hv : bV ⟨AM, cM, M, AN, cN, N, AD, cD, D⟩ = .agg #[.slice AM m cM, .slice AN N.length cN, .slice AD D.length cD] := by unfold bV; rw [l1]
  have hv' : bV ⟨AM', cM', M', AN', cN', N, AD', cD', D⟩ = .agg #[.slice AM' m cM', .slice AN' N.length cN', .slice AD' D.length cD'] := by unfold bV; rw [hm]
  rw [hv, hv']
  have hm1 := h.muts
  have hm1' := h'.muts
  dsimp only at hm1 hm1'
  rw [l1] at hm1
  rw [hm] at hm1'
  have bz := (Below.refl w.heap.size w).alloc (Nat.le_refl _) (.cells #[.slice AM m cM, .slice AN N.length cN, .slice AD D.length cD] 29)
  have hz := heap_alloc_new w (.cells #[.slice AM m cM, .slice AN N.length cN, .slice AD D.length cD] 29)
  obtain ⟨V1, hV1⟩ : ∃ V, V = w.alloc (.cells #[.slice AM m cM, .slice AN N.length cN, .slice AD D.length cD] 29) := ⟨_, rfl⟩
  rw [← hV1] at bz hz
  have hs1 : V1.heap.size = w.heap.size + 1 := by rw [hV1]; simp
  have bz2 := (Below.refl V1.heap.size V1).alloc (Nat.le_refl _) (.cells #[.slice AM' m cM', .slice AN' N.length cN', .slice AD' D.length cD'] 29)
  have hy := heap_alloc_new V1 (.cells #[.slice AM' m cM', .slice AN' N.length cN', .slice AD' D.length cD'] 29)
  have hz2 := at_newS hz (.cells #[.slice AM' m cM', .slice AN' N.length cN', .slice AD' D.length cD'] 29)
  obtain ⟨V2, hV2⟩ : ∃ V, V = V1.alloc (.cells #[.slice AM' m cM', .slice AN' N.length cN', .slice AD' D.length cD'] 29) := ⟨_, rfl⟩
  rw [← hV2] at bz2 hy hz2
  rw [hs1] at hy
  have hb2 : Below w.heap.size w V2 := next bz bz2
  have N1 := same_muts AM AM' m cM cM' B B' M M' V2 (hm1.below (hb2.mono hB)) (hm1'.below (hb2.mono hB')) (Nat.le_trans hB hb2.size) (Nat.le_trans hB' hb2.size) (by rw [← l1]; exact hc.lm) hc.muts hc'.muts e1
  have HN1 := Lib.hid N1; have HZ := Lib.hid hz2; have HY := Lib.hid hy; have HB2 := Lib.hid hb2; have HH := Lib.hid h; have HH' := Lib.hid h'; have HB := Lib.hid hB; have HB' := Lib.hid hB'; have HC := Lib.hid hc
  have x0 := cell_at (i := 0) hz2 rfl
  have y0 := cell_at (i := 0) hy rfl
  clear bz hz bz2 hy hz2 hb2 N1 hs1 hm1 hm1' h h' hB hB' hc hc' he e1 l1 hm hv hv'
  go_enter Try.func16, Try.ntmps16
  go_wp2_with fail
  rw [← hV1, ← hV2]
  clear hV1 hV2
  refine HN1.out.mono ?_
  rintro e w3 ⟨rfl, b3⟩
  have hz3 := (b3.block _ (Array.getElem?_eq_some_iff.1 HZ.out).1).trans HZ.out
  have hy3 := (b3.block _ (Array.getElem?_eq_some_iff.1 HY.out).1).trans HY.out
  have B3 := Lib.hid (next HB2.out b3)
  have HZ3 := Lib.hid hz3; have HY3 := Lib.hid hy3
  clear x0 y0 hz3 hy3 b3
  have x1 := cell_at (i := 1) HZ3.out rfl
  have y1 := cell_at (i := 1) HY3.out rfl
  have N2 := same_notes AN AN' N.length cN cN' B B' N w3 (HH.out.notes.below (B3.out.mono HB.out)) (HH'.out.notes.below (B3.out.mono HB'.out)) (Nat.le_trans HB.out B3.out.size) (Nat.le_trans HB'.out B3.out.size) HC.out.ln
  have HN2 := Lib.hid N2
  clear N2
  go_wp2_with fail
  refine HN2.out.mono ?_
  rintro e w4 ⟨rfl, b4⟩
  have hz4 := (b4.block _ (Array.getElem?_eq_some_iff.1 HZ3.out).1).trans HZ3.out
  have hy4 := (b4.block _ (Array.getElem?_eq_some_iff.1 HY3.out).1).trans HY3.out
  have B4 := Lib.hid (next B3.out b4)
  clear x1 y1 b4
  have x2 := cell_at (i := 2) hz4 rfl
  have y2 := cell_at (i := 2) hy4 rfl
  clear hz4 hy4
  have N3 := same_ints AD AD' D.length cD cD' B B' D w4 (HH.out.drops.below (B4.out.mono HB.out)) (HH'.out.drops.below (B4.out.mono HB'.out)) (Nat.le_trans HB.out B4.out.size) (Nat.le_trans HB'.out B4.out.size) HC.out.ld
  have HN3 := Lib.hid N3
  clear N3
  go_wp2_with fail
  refine HN3.out.mono ?_
  rintro e w5 ⟨rfl, b5⟩
  have B5 := Lib.hid (next B4.out b5)
  clear x2 y2 b5
  go_wp2
  go_ret
  exact ⟨rfl, B5.out⟩
end Go.Proofs.Ythfanonjokpflaa
set_option linter.unusedVariables false
set_option linter.unusedSimpArgs false
namespace Go.Proofs.Ythfanonjokpflaa
open Go Go.RowKit

def fewMu (rows : Nat) (x : MA) : Prop := x.tb.size ≤ 300 ∧ fewPB x.p.k rows (ros x.p.L) = true
/-- Not too much of a batch. -/
structure FewBt (z : BA) : Prop where
  lm : z.M.length ≤ 70
  muts : ∀ x ∈ z.M, fewMu 20 x
  ln : z.N.length ≤ 310
  ld : z.D.length ≤ 310
  notes : ∀ y ∈ z.N, y.2.size ≤ 5000
end Go.Proofs.Ythfanonjokpflaa
set_option linter.unusedVariables false
set_option linter.unusedSimpArgs false
namespace Go.Proofs.Ythfanonjokpflaa
open Go Go.RowKit

theorem err_ne {p : Pz Pa} {e : Pa → Bs} {G T : Pa → Prop} (h : Codec p e G T) {ok : Pa → Bool} {b : Bs} {c : Int} (hg : getP p ok b = .error c) : c ≠ 0 := by
  unfold getP at hg
  split at hg
  · injection hg with hg; rw [← hg]; decide
  · cases hp : p b with
    | error c' =>
      rw [hp] at hg
      injection hg with hg
      rcases h.errs hp with h | h <;> omega
    | ok y =>
      rw [hp] at hg
      dsimp only at hg
      split at hg
      · split at hg
        · cases hg
        · injection hg with hg; omega
      · injection hg with hg; omega
theorem err_neB {b : Bs} {c : Int} (hg : getBatch b = .error c) : c ≠ 0 := by
  unfold getBatch getP at hg
  split at hg
  · injection hg with hg; rw [← hg]; decide
  · cases hp : batchP b with
    | error c' =>
      rw [hp] at hg
      injection hg with hg
      rcases batch_codecT.errs hp with h | h <;> omega
    | ok y =>
      rw [hp] at hg
      dsimp only at hg
      split at hg
      · split at hg
        · cases hg
        · injection hg with hg; omega
      · injection hg with hg; omega
/-- GetPart's two results, one way. -/
theorem GivesG.one {w w' : World} {b : Bs} {x : Ending} (h : GivesG w (getPart b) x w') : ∃ (z : PA) (e : Int), x = .returned (.tuple #[.agg #[.string z.k, .int .i64 z.g, .slice z.A z.L.length z.c], .int .i64 e]) ∧ Below w.heap.size w w' ∧ (e = 0 → getPart b = .ok ⟨z.k, z.g, ros z.L⟩ ∧ RowsQ w w' z.A z.L.length z.c z.L) ∧ (∀ c, getPart b = .error c → e = c) := by
  cases hR : getPart b with
  | error c =>
    rw [hR] at h
    obtain ⟨rfl, h⟩ := h
    exact ⟨⟨⟨#[]⟩, 0, [], none, 0⟩, c, rfl, h, fun e => absurd e (err_ne part_codec hR), fun c' hc => by injection hc⟩
  | ok p =>
    rw [hR] at h
    obtain ⟨z, hp, rfl, hrows, hb⟩ := h
    exact ⟨z, 0, rfl, hb, fun _ => ⟨by rw [hp], hrows⟩, fun c hc => by cases hc⟩
theorem GivesH.one {w w' : World} {b : Bs} {x : Ending} (h : GivesH w (getBatch b) x w') : ∃ (z : BA) (e : Int), x = .returned (.tuple #[bV z, .int .i64 e]) ∧ Below w.heap.size w w' ∧ (e = 0 → getBatch b = .ok z.bt ∧ BatQ w w' z) ∧ (∀ c, getBatch b = .error c → e = c) := by
  cases hR : getBatch b with
  | error c =>
    rw [hR] at h
    obtain ⟨rfl, h⟩ := h
    exact ⟨⟨none, 0, [], none, 0, [], none, 0, []⟩, c, rfl, h, fun e => absurd e (err_neB hR), fun c' hc => by injection hc⟩
  | ok p =>
    rw [hR] at h
    obtain ⟨z, hp, rfl, hrows, hb⟩ := h
    exact ⟨z, 0, rfl, hb, fun _ => ⟨by rw [hp], hrows⟩, fun c hc => by cases hc⟩
/-- Part's and Batch's two results, one way. -/
theorem GivesP.one {w w' : World} {R : Except Int Bs} {x : Ending} (hne : ∀ c, R = .error c → c ≠ 0) (h : GivesP w R x w') : ∃ (A : Option Addr) (n c : Nat) (e : Int), x = .returned (.tuple #[.slice A n c, .int .i64 e]) ∧ Below w.heap.size w w' ∧ (e = 0 → ∃ b : Bs, R = .ok b ∧ b.length = n ∧ n ≤ c ∧ c ≤ maxLen ∧ (A = none → c = 0) ∧ w'.ownsRow w.heap.size 5 1 (.slice A n c) n (Lib.byteCells b)) := by
  cases R with
  | error c =>
    obtain ⟨rfl, h⟩ := h
    exact ⟨none, 0, 0, c, rfl, h, fun e => absurd e (hne c rfl)⟩
  | ok b =>
    obtain ⟨A, n, c, rfl, h1, h2, h3, h4, h5, h6⟩ := h
    exact ⟨A, n, c, 0, rfl, h6, fun _ => ⟨b, rfl, h1, h2, h3, h4, h5⟩⟩
structure IsFewQ (R : Ro) : Prop where
  len : R.cols.length ≤ 20
  live : R.live.s.size ≤ 1000
  cols : ∀ x ∈ R.cols, x.1.size ≤ 300 ∧ x.2.s.size ≤ 300
end Go.Proofs.Ythfanonjokpflaa
set_option linter.unusedVariables false
set_option linter.unusedSimpArgs false
namespace Go.Proofs.Ythfanonjokpflaa
open Go Go.RowKit

/-- q: the batch's block; W: the world just behind it; its rows lie above W, its partitions' rows below q. -/
structure GB (W w : World) (q : Nat) (z : BA) : Prop where
  blk : w.heap[q]? = some (bO z)
  rM : w.ownsRow W.heap.size 49 4 (.slice z.AM z.M.length z.cM) z.M.length (mRow z.M)
  rN : w.ownsRow W.heap.size 51 2 (.slice z.AN z.N.length z.cN) z.N.length (nRow z.N)
  rD : w.ownsRow W.heap.size 3 1 (.slice z.AD z.D.length z.cD) z.D.length (zRow z.D)
  kept : Kept (fun k => k = q) W w
  parts : ∀ x ∈ z.M, Lies W q x.p.A x.p.L.length x.p.c x.p.L
  bel : q < W.heap.size
section
variable {W w w' : World} {q : Nat} {z : BA}
theorem GB.lt (h : GB W w q z) : q < w.heap.size := (Array.getElem?_eq_some_iff.1 h.blk).1
theorem GB.on (h : GB W w q z) (hb : Below w.heap.size w w') : GB W w' q z :=
  ⟨(hb.block q h.lt).trans h.blk, own_below h.rM hb, own_below h.rN hb, own_below h.rD hb, h.kept.trans (Kept.of_below hb (fun k => k = q)) fun k hk => Or.inl hk, h.parts, h.bel⟩
theorem GB.below (h : GB W w q z) : Below q W w := h.kept.below (B := q) (fun k hk => by omega) (by have := h.bel; omega)
theorem GB.lies (h : GB W w q z) : LiesB w w.heap.size z := by
  have h0 := h.below
  have hw := h.lt
  obtain ⟨A1, c1, e1, g1, _⟩ := own_slice h.rM
  obtain ⟨A2, c2, e2, g2, _⟩ := own_slice h.rN
  obtain ⟨A3, c3, e3, g3, _⟩ := own_slice h.rD
  injection e1 with _ _ e1
  injection e2 with _ _ e2
  injection e3 with _ _ e3
  exact ⟨⟨RdM.of_own h.rM, fun x hx => ((h.parts x hx).below h0).up (by omega), by omega⟩, RdN.of_own h.rN, RdZ.ofOwn h.rD, by omega, by omega⟩
theorem batch_set0 {r : Nat} {v0 v1 v2 : Value} (hr : w.heap[r]? = some (.cells #[v0, v1, v2] 29 (0, 0))) (u : Value) : (w.setCell ⟨r, 0, none⟩ u).heap[r]? = some (.cells #[u, v1, v2] 29 (0, 0)) := by
  have m := Joins.block_setCell (i := 0) hr u
  simp only [List.setIfInBounds_toArray, List.set_cons_zero, List.set_cons_succ] at m
  exact m
theorem batch_set1 {r : Nat} {v0 v1 v2 : Value} (hr : w.heap[r]? = some (.cells #[v0, v1, v2] 29 (0, 0))) (u : Value) : (w.setCell ⟨r, 1, none⟩ u).heap[r]? = some (.cells #[v0, u, v2] 29 (0, 0)) := by
  have m := Joins.block_setCell (i := 1) hr u
  simp only [List.setIfInBounds_toArray, List.set_cons_zero, List.set_cons_succ] at m
  exact m
theorem batch_set2 {r : Nat} {v0 v1 v2 : Value} (hr : w.heap[r]? = some (.cells #[v0, v1, v2] 29 (0, 0))) (u : Value) : (w.setCell ⟨r, 2, none⟩ u).heap[r]? = some (.cells #[v0, v1, u] 29 (0, 0)) := by
  have m := Joins.block_setCell (i := 2) hr u
  simp only [List.setIfInBounds_toArray, List.set_cons_zero, List.set_cons_succ] at m
  exact m
theorem own_off {b b' n n' size size' : Nat} {e e' : TypeId} {v v' : Value} {xs xs' : List Value} (h : w.ownsRow b e size v n xs) (h' : w.ownsRow b' e' size' v' n' xs') (he : e ≠ e') (hk : Kept (fun k => v.ownBlock = some k) w w') : w'.ownsRow b' e' size' v' n' xs' :=
  own_kept h' fun g hg => hk.block g (own_block_lt h' g hg) fun hp => by
    obtain ⟨cs, h1⟩ := own_tag h g hp
    obtain ⟨cs', h2⟩ := own_tag h' g hg
    rw [h1] at h2
    injection h2 with h2
    injection h2 with _ h3 _
    exact he h3
theorem GB.appM (h : GB W w q z) {x : MA} (hl : Lies W q x.p.A x.p.L.length x.p.c x.p.L) {A7 : Option Addr} {c7 : Nat} (ho : w'.ownsRow W.heap.size 49 4 (.slice A7 (z.M.length + 1) c7) (z.M.length + 1) (mRow (z.M ++ [x]))) (hg : w.grownBy w' (Value.slice z.AM z.M.length z.cM).ownBlock) :
    w'.heap[q]? = some (bO z) ∧ GB W (w'.setCell ⟨q, 0, none⟩ (.slice A7 (z.M.length + 1) c7)) q { z with M := z.M ++ [x], AM := A7, cM := c7 } := by
  have hk := Kept.of_grown (F := fun k => (Value.slice z.AM z.M.length z.cM).ownBlock = some k) hg fun k hk => hk
  have hp := (hk.block q h.lt fun hp => own_ne h.rM h.blk (by decide) q hp rfl).trans h.blk
  have hlen : (z.M ++ [x]).length = z.M.length + 1 := by rw [List.length_append]; rfl
  refine ⟨hp, ?_, by rw [hlen]; exact own_kept ho fun g hg' => Below.heap_setCell _ _ _ _ fun e => own_ne ho hp (by decide) g hg' e, own_kept (own_off h.rM h.rN (by decide) hk) fun g hg' => Below.heap_setCell _ _ _ _ fun e => own_ne (own_off h.rM h.rN (by decide) hk) hp (by decide) g hg' e, own_kept (own_off h.rM h.rD (by decide) hk) fun g hg' => Below.heap_setCell _ _ _ _ fun e => own_ne (own_off h.rM h.rD (by decide) hk) hp (by decide) g hg' e, ?_, fun y hy => (List.mem_append.1 hy).elim (h.parts y) fun hy => by obtain rfl := List.mem_singleton.1 hy; exact hl, h.bel⟩
  · unfold bO
    rw [hlen]
    exact batch_set0 hp _
  · exact (Kept.trans h.kept hk fun k hk' => Or.inr (h.rM.lt k hk').1).trans (Kept.setCell (fun k => k = q) w' ⟨q, 0, none⟩ _ rfl) fun k hk' => Or.inl hk'
theorem GB.appN (h : GB W w q z) {x : NA} {A7 : Option Addr} {c7 : Nat} (ho : w'.ownsRow W.heap.size 51 2 (.slice A7 (z.N.length + 1) c7) (z.N.length + 1) (nRow (z.N ++ [x]))) (hg : w.grownBy w' (Value.slice z.AN z.N.length z.cN).ownBlock) :
    w'.heap[q]? = some (bO z) ∧ GB W (w'.setCell ⟨q, 1, none⟩ (.slice A7 (z.N.length + 1) c7)) q { z with N := z.N ++ [x], AN := A7, cN := c7 } := by
  have hk := Kept.of_grown (F := fun k => (Value.slice z.AN z.N.length z.cN).ownBlock = some k) hg fun k hk => hk
  have hp := (hk.block q h.lt fun hp => own_ne h.rN h.blk (by decide) q hp rfl).trans h.blk
  have hlen : (z.N ++ [x]).length = z.N.length + 1 := by rw [List.length_append]; rfl
  refine ⟨hp, ?_, own_kept (own_off h.rN h.rM (by decide) hk) fun g hg' => Below.heap_setCell _ _ _ _ fun e => own_ne (own_off h.rN h.rM (by decide) hk) hp (by decide) g hg' e, by rw [hlen]; exact own_kept ho fun g hg' => Below.heap_setCell _ _ _ _ fun e => own_ne ho hp (by decide) g hg' e, own_kept (own_off h.rN h.rD (by decide) hk) fun g hg' => Below.heap_setCell _ _ _ _ fun e => own_ne (own_off h.rN h.rD (by decide) hk) hp (by decide) g hg' e, ?_, h.parts, h.bel⟩
  · unfold bO
    rw [hlen]
    exact batch_set1 hp _
  · exact (Kept.trans h.kept hk fun k hk' => Or.inr (h.rN.lt k hk').1).trans (Kept.setCell (fun k => k = q) w' ⟨q, 1, none⟩ _ rfl) fun k hk' => Or.inl hk'
theorem GB.appD (h : GB W w q z) {x : Int} {A7 : Option Addr} {c7 : Nat} (ho : w'.ownsRow W.heap.size 3 1 (.slice A7 (z.D.length + 1) c7) (z.D.length + 1) (zRow (z.D ++ [x]))) (hg : w.grownBy w' (Value.slice z.AD z.D.length z.cD).ownBlock) :
    w'.heap[q]? = some (bO z) ∧ GB W (w'.setCell ⟨q, 2, none⟩ (.slice A7 (z.D.length + 1) c7)) q { z with D := z.D ++ [x], AD := A7, cD := c7 } := by
  have hk := Kept.of_grown (F := fun k => (Value.slice z.AD z.D.length z.cD).ownBlock = some k) hg fun k hk => hk
  have hp := (hk.block q h.lt fun hp => own_ne h.rD h.blk (by decide) q hp rfl).trans h.blk
  have hlen : (z.D ++ [x]).length = z.D.length + 1 := by rw [List.length_append]; rfl
  refine ⟨hp, ?_, own_kept (own_off h.rD h.rM (by decide) hk) fun g hg' => Below.heap_setCell _ _ _ _ fun e => own_ne (own_off h.rD h.rM (by decide) hk) hp (by decide) g hg' e, own_kept (own_off h.rD h.rN (by decide) hk) fun g hg' => Below.heap_setCell _ _ _ _ fun e => own_ne (own_off h.rD h.rN (by decide) hk) hp (by decide) g hg' e, by rw [hlen]; exact own_kept ho fun g hg' => Below.heap_setCell _ _ _ _ fun e => own_ne ho hp (by decide) g hg' e, ?_, h.parts, h.bel⟩
  · unfold bO
    rw [hlen]
    exact batch_set2 hp _
  · exact (Kept.trans h.kept hk fun k hk' => Or.inr (h.rD.lt k hk').1).trans (Kept.setCell (fun k => k = q) w' ⟨q, 2, none⟩ _ rfl) fun k hk' => Or.inl hk'
end
end Go.Proofs.Ythfanonjokpflaa
set_option linter.unusedVariables false
set_option linter.unusedSimpArgs false
namespace Go.Proofs.Ythfanonjokpflaa
open Go Go.RowKit

theorem lies_nil (w : World) (B : Nat) : Lies w B none 0 0 [] := ⟨RdR.nil _ _ _, fun x hx => (by cases hx), Nat.le_refl _⟩
def bt0 : BA := ⟨none, 0, [], none, 0, [], none, 0, []⟩
theorem bt0_lies (w : World) (B : Nat) : LiesB w B bt0 := ⟨⟨⟨rfl, fun h => absurd h (by simp [bt0])⟩, fun x hx => (by cases hx), Nat.le_refl _⟩, ⟨rfl, fun h => absurd h (by simp [bt0])⟩, ⟨rfl, fun h => absurd h (by simp [bt0])⟩, Nat.le_refl _, Nat.le_refl _⟩
theorem bt0_few : BtF bt0 := ⟨fun y hy => (by cases hy), fun y hy => (by cases hy), by simp [bt0], by simp [bt0], by simp [bt0]⟩
theorem put_a : putPart ⟨⟨#[97]⟩, 0, ros []⟩ = .ok [1, 1, 97, 0, 0] := by kernel_rfl
theorem bt0_ok : bt0.bt.ok = true := by rfl
set_option maxHeartbeats 1000000 in
theorem awake9_any (w : World) : Calls Try.prog 9 #[] w fun x w' => x = .returned (.bool true) ∧ Below w.heap.size w w' := by
  have N := pack_part ⟨#[97]⟩ 0 none 0 0 0 [] w (lies_nil _ _) (Nat.zero_le _) (by omega) (fun x hx => by cases hx)
  rw [put_a] at N
  have HN := Lib.hid N
  clear N
  go_enter Try.func9, Try.ntmps9
  go_wp2_with fail
  refine (HN.out).mono ?_
  rintro e w1 ⟨A, n, c, rfl, h1, h2, h3, h4, h5, h6⟩
  obtain ⟨_, _, e, _, _, _, hrd⟩ := Rd.of_own h5
  injection e with e1 e2 e3
  subst e1; subst e3
  have hcv := cv_string hrd c
  have B1 := Lib.hid h6
  clear h1 h2 h3 h4 h5 h6 hrd
  have hcv : (convert 33 9 (.slice A n c)).run Try.prog w1 = .ok (.string ⟨#[1, 1, 97, 0, 0]⟩) w1 := hcv
  go_wp2_with fail
  refine (checkBatch_any bt0 0 w1 (bt0_lies _ _) (Nat.zero_le _) bt0_few).mono ?_
  rintro e w2 ⟨rfl, b2⟩
  rw [bt0_ok]
  have B2 := Lib.hid (next B1.out b2)
  clear b2 hcv
  go_wp2
  go_ret
  exact ⟨rfl, B2.out⟩
end Go.Proofs.Ythfanonjokpflaa
set_option linter.unusedVariables false
set_option linter.unusedSimpArgs false
namespace Go.Proofs.Ythfanonjokpflaa
open Go Go.RowKit Go.Joins

/-- Rows and columns that are own. -/
structure Own3 (b : Nat) (w : World) (x : PA) : Prop where
  rows : w.ownsRow b 61 8 (.slice x.A x.L.length x.c) x.L.length (rRow x.L)
  cols : OwnR w b x.L
theorem Own3.kept {b : Nat} {w w' : World} {x : PA} {F : Nat → Prop} (h : Own3 b w x) (hk : Kept F w w') (hF : ∀ k, F k → ∃ cs e, w.heap[k]? = some (.cells cs e (0, 0)) ∧ e ≠ 61 ∧ e ≠ 90) : Own3 b w' x := by
  have key : ∀ {g : Nat} {cs : Array Value} {e : TypeId}, w.heap[g]? = some (.cells cs e (0, 0)) → (e = 61 ∨ e = 90) → ¬ F g := fun {g cs e} h1 he hf => by
    obtain ⟨cs', e', h2, h3, h4⟩ := hF g hf
    rw [h1] at h2
    injection h2 with h2
    injection h2 with _ h5 _
    subst h5
    exact he.elim h3 h4
  refine ⟨own_kept h.rows fun g hg => hk.block g (own_block_lt h.rows g hg) ?_, fun y hy => own_kept (h.cols y hy) fun g hg => hk.block g (own_block_lt (h.cols y hy) g hg) ?_⟩
  · obtain ⟨cs, h1⟩ := own_tag h.rows g hg
    exact key h1 (Or.inl rfl)
  · obtain ⟨cs, h1⟩ := own_tag (h.cols y hy) g hg
    exact key h1 (Or.inr rfl)
theorem Own3.on {b : Nat} {w w' : World} {x : PA} (h : Own3 b w x) (hb : Below w.heap.size w w') : Own3 b w' x := ⟨own_below h.rows hb, h.cols.below hb⟩
theorem Own3.lies {b : Nat} {w : World} {x : PA} (h : Own3 b w x) : Lies w w.heap.size x.A x.L.length x.c x.L := by
  obtain ⟨A', c', e, h1, _⟩ := own_slice h.rows
  injection e with e1 e2 e3
  subst e3
  refine ⟨RdR.of_own h.rows, fun y hy => ?_, h1⟩
  obtain ⟨A'', c'', e, h2, _⟩ := own_slice (h.cols y hy)
  injection e with e1 e2 e3
  subst e3
  exact ⟨RdK.of_own (h.cols y hy), h2⟩
/-- A partition by numbers. -/
def PNum (key : ByteArray) (x : PA) : Prop := x.k = key ∧ PartIn ⟨key, x.g, ros x.L⟩
set_option maxRecDepth 8000 in
set_option maxHeartbeats 8000000 in
theorem several_any (A : Option Addr) (n c : Nat) (l : List Int) (k : Nat) (key : ByteArray) (w : World) (hr : RdZ w w.heap.size A n l) (hnc : n ≤ c) (hc : c ≤ maxLen) (hx : ∀ x ∈ l, (Lit.int .i64 x).wf = true) (hk : k ≤ 1000) (hkey : key.size ≤ 100) :
    Calls Try.prog 17 #[.slice A n c, .int .i64 k, .string key] w fun e w' => ∃ (Ps : List PA) (A' : Option Addr) (c' : Nat), e = .returned (.slice A' k c') ∧ Ps.length = k ∧ (∀ x ∈ Ps, PNum key x ∧ Lies w' w'.heap.size x.A x.L.length x.c x.L) ∧ RdP w' w'.heap.size A' k Ps ∧ Below w.heap.size w w' := by
  have bz := (Below.refl w.heap.size w).alloc (Nat.le_refl _) (.cells #[.slice A n c] 81)
  have hlq : LQ (w.alloc (.cells #[.slice A n c] 81)) w.heap.size w.heap.size := ⟨A, n, c, l, heap_alloc_new w _, hr.below bz, hnc, hc, fun x hx' => bounds_i64 (hx x hx')⟩
  obtain ⟨V, hV⟩ : ∃ V, V = w.alloc (.cells #[.slice A n c] 81) := ⟨_, rfl⟩
  rw [← hV] at bz hlq
  have BZ := Lib.hid bz; have HLQ := Lib.hid hlq
  clear bz hlq hr hx
  go_enter Try.func17, Try.ntmps17
  go_wp2_with fail
  rw [← hV]
  clear hV
  go_wp2_with fail
  go_loopw [9, 8] (fun iv mv wr => ∃ (t : Nat) (Ps : List PA) (A' : Option Addr) (c' : Nat), t ≤ k ∧ iv = .int .i64 t ∧ mv = .slice A' t c' ∧ wr.ownsRow w.heap.size 24 3 (.slice A' t c') t (pRow Ps) ∧ (∀ x ∈ Ps, PNum key x ∧ Own3 w.heap.size wr x) ∧ LQ wr w.heap.size w.heap.size ∧ Below w.heap.size w wr) (fun iv _ _ => k - (intOf iv).toNat)
  case atStart => exact ⟨0, [], none, 0, Nat.zero_le _, rfl, rfl, own_nilP _ _, (fun x hx => by cases hx), HLQ.out, BZ.out⟩
  case round =>
    obtain ⟨t, Ps, A', c', ht, rfl, rfl, ho, hp, hq, hb⟩ := hrel
    have HO := Lib.hid ho; have HP := Lib.hid hp; have HQ := Lib.hid hq; have HB := Lib.hid hb
    clear ho hp hq hb
    by_cases hlt : t < k
    · have i1 : (t : Int) < k := by omega
      go_wp2_with fail
      refine (part_gen w.heap.size w.heap.size key _ HQ.out (Nat.le_refl _)).mono ?_
      rintro e w1 ⟨g, L, A1, c1, rfl, hg, hrt, hor, hoc, hlq, hkp⟩
      have hL : ∃ cs e, wr.heap[w.heap.size]? = some (.cells cs e (0, 0)) ∧ e ≠ 61 ∧ e ≠ 90 ∧ e ≠ 24 := by
        obtain ⟨A2, n2, c2, l2, h1, _⟩ := HQ.out.ex
        exact ⟨_, _, h1, by decide, by decide, by decide⟩
      obtain ⟨csL, eL, hL1, hL2, hL3, hL4⟩ := hL
      have ho1 := own_kept HO.out fun j hj => hkp.block j (own_block_lt HO.out j hj) fun e => by
        subst e
        obtain ⟨cs', h2⟩ := own_tag HO.out _ hj
        rw [hL1] at h2
        injection h2 with h2
        injection h2 with _ h3 _
        exact hL4 h3
      have hws := HB.out.size
      have hnew : Own3 w.heap.size w1 (⟨key, g, L, A1, c1⟩ : PA) := ⟨own_lower hor hws, fun y hy => own_lower (hoc y hy) hws⟩
      have hold : ∀ x ∈ Ps ++ [(⟨key, g, L, A1, c1⟩ : PA)], PNum key x ∧ Own3 w.heap.size w1 x := fun x hx => by
        rcases List.mem_append.1 hx with h1 | h1
        · exact ⟨(HP.out x h1).1, (HP.out x h1).2.kept hkp fun j hj => by subst hj; exact ⟨_, _, hL1, hL2, hL3⟩⟩
        · rw [List.mem_singleton.1 h1]
          exact ⟨⟨rfl, hrt.part hkey hg⟩, hnew⟩
      have hb1 : Below w.heap.size w w1 := HB.out.trans (hkp.below (fun j hj => by omega) hws)
      have ha2 := (Below.refl w1.heap.size w1).alloc (Nat.le_refl _) (.cells #[.string key, .int .i64 g, .slice A1 L.length c1] 24)
      have HO2 := Lib.hid (own_below ho1 ha2); have RD := Lib.hid (RdP.laid w1 (⟨key, g, L, A1, c1⟩ : PA)); have HB2 := Lib.hid (next hb1 ha2); have HLQ2 := Lib.hid (hlq.below ha2 (by have := hkp.size; omega))
      have HOLD := Lib.hid (fun x hx => And.intro (hold x hx).1 ((hold x hx).2.on ha2))
      clear ho1 hnew hold hb1 ha2 hlq hkp hor hoc hrt hL1
      go_wp2_with (at_builtin; refine list_ex rfl (.tmp 18) (.tmp 22) _ _ rfl (.slice A' t c') (.slice (some ⟨w1.heap.size, 0, none⟩) 1 1) rfl rfl (run_appP w.heap.size HO2.out RD.out ?s1 ?s2) ?_)
      case s1 => omega
      case s2 => simpa using HB2.out.size
      intro v3 w3 ho3 hg3 hloc3
      obtain ⟨A3, c3, rfl, _⟩ := own_slice ho3
      have hk3 := Kept.of_grown (F := fun k => (Value.slice A' t c').ownBlock = some k) hg3 fun k hk => hk
      have hb3 : Below w.heap.size w w3 := HB2.out.trans (hk3.below (fun j hj => (HO2.out.lt j hj).1) HB2.out.size)
      have hold3 : ∀ x ∈ Ps ++ [(⟨key, g, L, A1, c1⟩ : PA)], PNum key x ∧ Own3 w.heap.size w3 x := fun x hx => ⟨(HOLD.out x hx).1, (HOLD.out x hx).2.kept hk3 fun j hj => by
        obtain ⟨cs, h1⟩ := own_tag HO2.out j hj
        exact ⟨cs, _, h1, by decide, by decide⟩⟩
      have hlq3 : LQ w3 w.heap.size w.heap.size := HLQ2.out.kept hk3 (fun j hj => Nat.lt_of_le_of_ne (HO2.out.lt j hj).1 fun e => by
        subst e
        obtain ⟨cs, h1⟩ := own_tag HO2.out _ hj
        obtain ⟨A2, n2, c2, l2, h2, _⟩ := HLQ2.out.ex
        unfold LAt at h2
        rw [h1] at h2
        injection h2 with h2
        injection h2 with _ h3 _
        exact absurd h3 (by decide)) (Nat.le_refl _)
      have HO3 := Lib.hid ho3; have HB3 := Lib.hid hb3; have HOLD3 := Lib.hid hold3; have HLQ3 := Lib.hid hlq3
      clear ho3 hg3 hloc3 hk3 hb3 hold3 hlq3
      go_wp2
      go_roundw
      case rel => exact ⟨t + 1, _, A3, c3, by omega, by go_num, rfl, HO3.out, HOLD3.out, HLQ3.out, HB3.out⟩
      case measure => simp [intOf]; omega
    · obtain rfl : t = k := by omega
      have d0 : decide ((t : Int) < (t : Int)) = false := by simp
      go_wp2
      go_ret
      have hl : Ps.length = t := by have := HO.out.1; rw [pRow_length] at this; omega
      have hps : ∀ x ∈ Ps, PNum key x ∧ Lies wr wr.heap.size x.A x.L.length x.c x.L := fun x hx => ⟨(HP.out x hx).1, (HP.out x hx).2.lies⟩
      first | exact ⟨Ps, A', c', rfl, hl, hps, RdP.of_own HO.out, HB.out⟩ | exact ⟨Ps, A', ⟨c', rfl⟩, hl, hps, RdP.of_own HO.out, HB.out⟩
end Go.Proofs.Ythfanonjokpflaa
set_option linter.unusedVariables false
set_option linter.unusedSimpArgs false
namespace Go.Proofs.Ythfanonjokpflaa
open Go Go.RowKit

abbrev mN (x : PA) : MA := ⟨⟨#[116, 95, 49]⟩, x⟩
theorem btF_ofN {y : BA} (h : BtN y.bt) : BtF y := by
  have hg := Bt.gd_of h.ok
  exact btF_of (z := y) ⟨⟨hg.1.1, fun m hm => ⟨(hg.1.2 m hm).1, (hg.1.2 m hm).2.1⟩⟩, hg.2⟩ (n := 262144) (by omega) h.len
theorem btC_ofN {y : BA} (h : BtN y.bt) : BtC y := by
  have h1 : (muts y.M).length ≤ 4 := h.lm
  have h2 : y.N.length ≤ 40 := h.ln
  have h3 : y.D.length ≤ 40 := h.ld
  rw [List.length_map] at h1
  refine ⟨fun m hm => ?_, by omega, by omega, by omega⟩
  obtain ⟨a, b⟩ := partin_cols (h.muts (mutOf m) (List.mem_map.2 ⟨m, hm, rfl⟩)).2
  exact ⟨by omega, fun r hr => Nat.le_trans (b r hr) (by omega)⟩
abbrev abcN (s : Nat) : ByteArray := (⟨#[97, 98, 99]⟩ : ByteArray).extract 0 s
theorem abcN_size (s : Nat) (h : s ≤ 3) : (abcN s).size ≤ 3 := by
  rw [ByteArray.size_extract]
  omega
theorem cols_eqN {L M : List RA} (h : ros L = ros M) {b : Nat} (hM : ∀ x ∈ M, x.ro.cols.length ≤ b) : ∀ x ∈ L, x.ro.cols.length ≤ b := fun x hx => by
  have h4 : x.ro ∈ ros M := by rw [← h]; exact List.mem_map.2 ⟨x, hx, rfl⟩
  obtain ⟨r', hr', hrr⟩ := List.mem_map.1 h4
  rw [← hrr]
  exact hM r' hr'
set_option maxRecDepth 8000 in
set_option maxHeartbeats 2000000 in
theorem nums_law (YI : InnerOk) (A : Option Addr) (n c : Nat) (l : List Int) (v : Int) (A' : Option Addr) (n' c' : Nat) (l' : List Int) (w : World) (hr : RdZ w w.heap.size A n l) (hnc : n ≤ c) (hc : c ≤ maxLen) (hx : ∀ x ∈ l, (Lit.int .i64 x).wf = true) (hv : (Lit.int .i64 v).wf = true) (hr' : RdZ w w.heap.size A' n' l') (hnc' : n' ≤ c') (hc' : c' ≤ maxLen) (hx' : ∀ x ∈ l', (Lit.int .i64 x).wf = true) (h1 : n ≤ 100) (h2 : n' ≤ 40) :
    Calls Try.prog 4 #[.slice A n c, .int .i64 v, .slice A' n' c'] w fun e w' => e = .returned (.bool true) ∧ Below w.heap.size w w' := by
  have d1 : decide ((100 : Int) < (n : Nat)) = false := by simp; omega
  have d2 : decide ((40 : Int) < (n' : Nat)) = false := by simp; omega
  have HR := Lib.hid hr; have HX := Lib.hid hx; have HR' := Lib.hid hr'; have HX' := Lib.hid hx'; have HV := Lib.hid hv; have HN := Lib.hid h1; have HN' := Lib.hid h2; have HNC := Lib.hid hnc; have HC := Lib.hid hc
  clear hr hx hr' hx' hv h1 h2 hnc hc
  go_enter Try.func4, Try.ntmps4
  go_wp2_with fail
  refine (place_any v 5 _ (by decide) (by decide) (bounds_i64 HV.out)).mono ?_
  rintro e w' ⟨rfl, rfl⟩
  obtain ⟨k, hk⟩ : ∃ k : Nat, v % 5 = (k : Int) := ⟨(v % 5).toNat, by omega⟩
  have hk4 : k ≤ 4 := by omega
  rw [hk]
  clear hk
  have HK4 := Lib.hid hk4
  clear hk4
  go_wp2_with fail
  refine (several_any A n c l k ⟨#[107]⟩ _ HR.out HNC.out HC.out HX.out (by have := HK4.out; omega) (by decide)).mono ?_
  rintro e W0 ⟨Ps, A0, c0, rfl, hlen, hps, hrd, hb0⟩
  have bz := (Below.refl W0.heap.size W0).alloc (Nat.le_refl _) (.cells #[.slice none 0 0, .slice none 0 0, .slice none 0 0] 29)
  have hz := heap_alloc_new W0 (.cells #[.slice none 0 0, .slice none 0 0, .slice none 0 0] 29)
  obtain ⟨q, hq⟩ : ∃ q, W0.heap.size = q := ⟨_, rfl⟩
  obtain ⟨W, hW⟩ : ∃ W, W = W0.alloc (.cells #[.slice none 0 0, .slice none 0 0, .slice none 0 0] 29) := ⟨_, rfl⟩
  have hws : W.heap.size = q + 1 := by rw [hW, ← hq]; simp
  rw [← hW, hq] at bz hz
  rw [hq] at hps hrd
  have HQ : Hid (w.heap.size ≤ q) := Lib.hid (by rw [← hq]; exact hb0.size)
  have BZ := Lib.hid (next hb0 (hq.symm ▸ bz)); have HZ := Lib.hid hz; have HWS := Lib.hid hws
  have HPS : Hid (∀ x ∈ Ps, PNum ⟨#[107]⟩ x ∧ Lies W q x.A x.L.length x.c x.L) := Lib.hid fun x hx => ⟨(hps x hx).1, (hps x hx).2.below bz⟩
  have HRD := Lib.hid (hrd.below bz); have HLEN := Lib.hid hlen
  clear bz hz hws hlen hps hrd hb0
  go_wp2_with fail
  try rw [← hW]
  try rw [hq]
  clear hW hq
  try go_wp2_with fail
  go_loopw [9] (fun iv wr => ∃ (i : Nat) (z : BA), i ≤ k ∧ iv = .int .i64 i ∧ GB W wr q z ∧ z.M = (Ps.take i).map mN ∧ z.N = [] ∧ z.D = []) (fun iv _ => k - (intOf iv).toNat)
  case atStart => exact ⟨0, ⟨none, 0, [], none, 0, [], none, 0, []⟩, Nat.zero_le _, rfl, ⟨HZ.out, own_nilM _ _, own_nilN _ _, World.ownsRow_nil _ _ _ _, Kept.refl _ _, (fun x hx => by cases hx), by have := HWS.out; omega⟩, rfl, rfl, rfl⟩
  case round =>
    obtain ⟨i, z, hi, rfl, hgb, hM, hN, hD⟩ := hrel
    have HGB := Lib.hid hgb; have HM := Lib.hid hM; have HNN := Lib.hid hN; have HDD := Lib.hid hD
    clear hgb hM hN hD
    by_cases hlt : i < k
    · have i1 : (i : Int) < k := by omega
      have hip : i < Ps.length := by have := HLEN.out; omega
      obtain ⟨g0, o0, hA0, hg0⟩ := HRD.out.ex (by omega)
      subst hA0
      have hpl := (HPS.out _ (List.getElem_mem hip)).2
      have hpn := (HPS.out _ (List.getElem_mem hip)).1
      have hpc := fun w' (hb : Below q W w') => (HRD.out.below hb).part hip
      have htk : Ps.take (i + 1) = Ps.take i ++ [Ps[i]] := by rw [List.take_succ_eq_append_getElem hip]
      obtain ⟨P, hP⟩ : ∃ P, Ps[i] = P := ⟨_, rfl⟩
      rw [hP] at hpl hpn hpc htk
      have HPL := Lib.hid hpl
      have HTK := Lib.hid htk
      have HPI : Hid (PartIn ⟨P.k, P.g, ros P.L⟩) := Lib.hid (by have h := hpn; rw [h.1]; exact h.2)
      clear hpn hpl htk hP
      have HPC : Hid (∀ w', Below q W w' → w'.cell? ⟨g0, o0 + i * 3, none⟩ = some (.string P.k) ∧ w'.cell? ⟨g0, o0 + i * 3 + 1, none⟩ = some (.int .i64 P.g) ∧ w'.cell? ⟨g0, o0 + i * 3 + 2, none⟩ = some (.slice P.A P.L.length P.c)) := Lib.hid hpc
      clear hpc
      have HZM : Hid (z.M.length ≤ 4) := Lib.hid (by rw [HM.out]; simp; have := HK4.out; omega)
      have HGD := Lib.hid (HGB.out.on (Below.refl wr.heap.size wr).drew)
      go_wp2_with fail
      refine wp_region_z (S := fun w' => w'.heap[q]? = some (bO z) ∧ Below q W w') 10 (by kernel_rfl) ?_ (fun hHeld => ?_)
      · exact ⟨HGD.out.blk, HGD.out.below⟩
      refine takesZ [0, 1, 2, 3, 4, 5, 6] ?_
      repeat
        refine takesZ_one (v := ?_) ?_ ?_
        rotate_left
        · first | (refine Or.inr ⟨by rfl, ?_⟩; with_reducible rfl) | (refine Or.inl ⟨by rfl, ?_⟩; intro wx hSw; (try dsimp only at hSw); first | (go_simp; first | done | with_reducible rfl) | (have hS1 := hSw.1; unfold bO at hS1; have x0 := cell_at (i := 0) hS1 rfl; have x1 := cell_at (i := 1) hS1 rfl; have x2 := cell_at (i := 2) hS1 rfl; obtain ⟨c0, c1, c2⟩ := HPC.out _ hSw.2; go_simp; first | done | with_reducible rfl))
        try simp only [Act.put, List.getElem_toArray, List.getElem_cons_succ, List.getElem_cons_zero, List.setIfInBounds_toArray, List.set_cons_zero, List.set_cons_succ]
      refine takesZ_nil ?_
      refine wpAnyZ_one (i := 7) (by kernel_rfl) rfl (fun K hK => ?_)
      go_simp
      have RD := Lib.hid (RdM.laid wr.drew (mN P))
      have HG7 := Lib.hid (HGD.out.on ((Below.refl (wr.drew).heap.size wr.drew).alloc (Nat.le_refl _) (.cells #[.string ⟨#[116, 95, 49]⟩, .string P.k, .int .i64 P.g, .slice P.A P.L.length P.c] 49)))
      refine hK.out _ _ ?_ (fun hHeld => ?_)
      · exact ⟨HG7.out.blk, HG7.out.below⟩
      clear hK K
      try simp only [Act.put, List.getElem_toArray, List.getElem_cons_succ, List.getElem_cons_zero, List.setIfInBounds_toArray, List.set_cons_zero, List.set_cons_succ]
      refine wpAnyZ_one (i := 8) (by kernel_rfl) rfl (fun K hK => ?_)
      refine step_ex rfl (.tmp 42) (.tmp 48) _ _ rfl (.slice z.AM z.M.length z.cM) (.slice (some ⟨wr.heap.size, 0, none⟩) 1 1) (by simp [Act.eval]) (by simp [Act.eval]) (run_appM W.heap.size HG7.out.rM RD.out ?s3 ?s4) ?_
      case s3 => have := HZM.out; omega
      case s4 => exact HG7.out.kept.size
      intro v8 w8 ho8 hg8
      obtain ⟨hg8, _⟩ := hg8
      obtain ⟨A8, c8, rfl, _⟩ := own_slice ho8
      have HG8 := Lib.hid (HG7.out.appM (x := mN P) HPL.out ho8 hg8)
      have HB8 := Lib.hid (HG7.out.below.trans ((Kept.of_grown (F := fun k => q ≤ k) hg8 (fun k hk => by have := (HG7.out.rM.lt k hk).1; have := HG7.out.bel; omega)).below (B := q) (fun k hk => hk) (by have := HG7.out.lt; omega)))
      clear ho8 hg8
      refine hK.out _ _ ?_ (fun hHeld => ?_)
      · exact ⟨HG8.out.1, HB8.out⟩
      clear hK K
      try simp only [Act.put, List.getElem_toArray, List.getElem_cons_succ, List.getElem_cons_zero, List.setIfInBounds_toArray, List.set_cons_zero, List.set_cons_succ]
      refine takesZ [9] ?_
      repeat
        refine takesZ_one (v := ?_) ?_ ?_
        rotate_left
        · first | (refine Or.inr ⟨by rfl, ?_⟩; with_reducible rfl) | (refine Or.inl ⟨by rfl, ?_⟩; intro wx hSw; (try dsimp only at hSw); first | (go_simp; first | done | with_reducible rfl))
        try simp only [Act.put, List.getElem_toArray, List.getElem_cons_succ, List.getElem_cons_zero, List.setIfInBounds_toArray, List.set_cons_zero, List.set_cons_succ]
      refine takesZ_nil ?_
      refine wpAnyZ_last (by kernel_rfl) rfl (fun K hK => ?_)
      have hS1 := HG8.out.1
      unfold bO at hS1
      have z0 := cell_at (i := 0) hS1 rfl
      have y0 := thawed_at (i := 0) hS1
      go_simp
      refine hK.out _ _ ?_
      clear hK K
      try simp only [Act.put, List.getElem_toArray, List.getElem_cons_succ, List.getElem_cons_zero, List.setIfInBounds_toArray, List.set_cons_zero, List.set_cons_succ]
      refine wpAnyZ_done (by kernel_rfl) ?_ _
      have HG9 := Lib.hid HG8.out.2
      clear HB8 HG8 HG7 HGD
      generalize (w8.setCell ⟨q, 0, none⟩ (.slice A8 (z.M.length + 1) c8)) = w9 at HG9 ⊢
      obtain ⟨z', hz'⟩ : ∃ z', z' = { z with M := z.M ++ [mN P], AM := A8, cM := c8 } := ⟨_, rfl⟩
      have HM' : Hid (z'.M = (Ps.take (i + 1)).map mN ∧ z'.N = [] ∧ z'.D = []) := Lib.hid ⟨by rw [hz', HTK.out, List.map_append, ← HM.out]; rfl, by rw [hz']; exact HNN.out, by rw [hz']; exact HDD.out⟩
      rw [← hz'] at HG9
      clear hz' HM HNN HDD HGB
      obtain ⟨c0, c1, c2⟩ := HPC.out _ HG9.out.below
      have hlen4 := partin_cols HPI.out
      have N9 := pack_part P.k P.g P.A P.L.length P.c q P.L w9 (HPL.out.below HG9.out.below) (Nat.le_of_lt HG9.out.lt) (by have := hlen4.1; omega) (partin_few HPI.out)
      rw [putPart_ok HPI.out.ok] at N9
      have HN9 := Lib.hid N9; have HL4 := Lib.hid hlen4
      clear N9 hlen4
      go_wp2_with fail
      refine HN9.out.mono ?_
      rintro e w10 ⟨A6, n6, c6, rfl, g1, g2, g3, g4, ho6, b10⟩
      have HG10 := Lib.hid (HG9.out.on b10)
      have N10 := getPart_any A6 n6 c6 w10.heap.size _ w10 (Rd.of_own1 ho6) (Nat.le_refl _) g2 g3 g4
      have hgo := partin_got HPI.out
      rw [hgo] at N10
      have HN10 := Lib.hid N10
      clear N10 hgo g1 g2 g3 g4 ho6 b10 c0 c1 c2
      go_wp2_with fail
      refine HN10.out.mono ?_
      rintro e w11 ⟨⟨zk, zg, zL, zA, zc⟩, hpe, rfl, hrows, b11⟩
      dsimp only at hpe hrows
      injection hpe with e1 e2 e4
      subst e1
      subst e2
      have ba := (Below.refl w11.heap.size w11).alloc (Nat.le_refl _) (.cells #[.string P.k, .int .i64 P.g, .slice zA zL.length zc] 24)
      have hzz := heap_alloc_new w11 (.cells #[.string P.k, .int .i64 P.g, .slice zA zL.length zc] 24)
      have hg12 := (HG10.out.on b11).on ba
      obtain ⟨V, hV⟩ : ∃ V, V = w11.alloc (.cells #[.string P.k, .int .i64 P.g, .slice zA zL.length zc] 24) := ⟨_, rfl⟩
      have hsv : V.heap.size = w11.heap.size + 1 := by rw [hV]; simp
      rw [← hV] at ba hzz hg12
      have HG12 := Lib.hid hg12; have HZZ := Lib.hid hzz; have HROW := Lib.hid (hrows.on ba); have HE4 := Lib.hid e4; have HSV := Lib.hid hsv
      have HZL : Hid (zL.length = P.L.length) := Lib.hid (by have := congrArg List.length e4; rwa [List.length_map, List.length_map] at this)
      clear hrows b11 ba hzz e4 hg12 hsv
      go_wp2_with fail
      try rw [← hV]
      clear hV
      refine wp_region_held_drew (S := fun w' => w'.heap[w11.heap.size]? = some (.cells #[.string P.k, .int .i64 P.g, .slice zA zL.length zc] 24) ∧ Below q W w') (by kernel_rfl) ?_ (fun hHeld => ?_)
      · exact ⟨HZZ.out, (HG12.out.on (Below.refl V.heap.size V).drew).below⟩
      refine takesH [0, 1, 2, 3, 4, 5, 6, 7, 8, 9, 10, 11] ?_
      repeat
        refine takesH_one (v := ?_) ?_ ?_
        rotate_left
        · first | (refine Or.inr ⟨by rfl, ?_⟩; with_reducible rfl) | (refine Or.inl ⟨by rfl, ?_⟩; intro wx hSw; (try dsimp only at hSw); first | (go_simp; first | done | with_reducible rfl) | (obtain ⟨p0, p1, p2⟩ := PtAt.of hSw.1; obtain ⟨c0, c1, c2⟩ := HPC.out _ hSw.2; go_simp; first | done | with_reducible rfl))
        try simp only [Act.put, List.getElem_toArray, List.getElem_cons_succ, List.getElem_cons_zero, List.setIfInBounds_toArray, List.set_cons_zero, List.set_cons_succ]
      refine takesH_nil ?_
      refine wpAnyH_ready (rs := [12]) (by kernel_rfl) (by simp) (AllReadyH.cons rfl (fun K hK => ?_) AllReadyH.nil)
      go_simp
      have NS := rpsame_any P.k P.k P.g P.g zA P.A zL.length P.L.length zc P.c V.heap.size q zL P.L V.drew ((HROW.out.on (Below.refl V.heap.size V).drew).lies) (HPL.out.below (HG12.out.on (Below.refl V.heap.size V).drew).below) (Nat.le_refl _) (Nat.le_of_lt HG12.out.lt) (by have := HL4.out.1; have := HZL.out; omega) (by have := HL4.out.1; omega) (cols_eqN HE4.out fun x hx => Nat.le_trans (HL4.out.2 x hx) (by omega)) (fun x hx => Nat.le_trans (HL4.out.2 x hx) (by omega))
      rw [HE4.out, psame_self] at NS
      refine NS.mono ?_
      rintro e w13 ⟨rfl, b13⟩
      have HG13 := Lib.hid ((HG12.out.on (Below.refl V.heap.size V).drew).on b13)
      have HB13 := Lib.hid (next (Below.refl V.heap.size V).drew b13)
      clear b13
      try go_wp2_with fail
      refine hK.out _ _ ?_ (fun hHeld => ?_)
      · exact ⟨(HB13.out.block w11.heap.size (by have := HSV.out; omega)).trans HZZ.out, HG13.out.below⟩
      clear hK K
      try simp only [Act.put, List.getElem_toArray, List.getElem_cons_succ, List.getElem_cons_zero, List.setIfInBounds_toArray, List.set_cons_zero, List.set_cons_succ]
      refine takesH [13, 14] ?_
      repeat
        refine takesH_one (v := ?_) ?_ ?_
        rotate_left
        · first | (refine Or.inr ⟨by rfl, ?_⟩; with_reducible rfl) | (refine Or.inl ⟨by rfl, ?_⟩; intro wx hSw; (try dsimp only at hSw); first | (go_simp; first | done | with_reducible rfl))
        try simp only [Act.put, List.getElem_toArray, List.getElem_cons_succ, List.getElem_cons_zero, List.setIfInBounds_toArray, List.set_cons_zero, List.set_cons_succ]
      refine takesH_nil ?_
      refine wpAnyH_done (by kernel_rfl) ?_ _
      have hk4 := HK4.out
      go_wp2
      go_roundw
      case rel => exact ⟨i + 1, z', by omega, by go_num, HG13.out, HM'.out.1, HM'.out.2.1, HM'.out.2.2⟩
      case measure => simp [intOf]; omega
    · obtain rfl : k = i := by omega
      have d0 : decide ((k : Int) < (k : Int)) = false := by simp
      have hall : z.M = Ps.map mN := by rw [HM.out, List.take_of_length_le (by have := HLEN.out; omega)]
      have HAL := Lib.hid hall
      have HRW := Lib.hid (HR'.out.below BZ.out)
      clear hall HM hi hlt
      go_wp2_with fail
      go_loopw [14] (fun iv wr => ∃ (t : Nat) (y : BA), t ≤ n' ∧ iv = .int .i64 t ∧ GB W wr q y ∧ y.M = Ps.map mN ∧ y.N.length + y.D.length ≤ t ∧ (∀ x ∈ y.N, 1 ≤ x.1 ∧ x.1 ≤ 1048577 ∧ x.2.size ≤ 3) ∧ (∀ v ∈ y.D, 1 ≤ v ∧ v ≤ 1048577)) (fun iv _ => n' - (intOf iv).toNat)
      case atStart => exact ⟨0, z, Nat.zero_le _, rfl, HGB.out, HAL.out, by rw [HNN.out, HDD.out]; exact Nat.le_refl _, (fun x hx => by rw [HNN.out] at hx; cases hx), (fun x hx => by rw [HDD.out] at hx; cases hx)⟩
      case round =>
        clear HGB HNN HDD HAL
        obtain ⟨t, y, ht, rfl, hgb, hM, hc40, hNs, hDs⟩ := hrel
        have HGB := Lib.hid hgb; have HM := Lib.hid hM; have H40 := Lib.hid hc40; have HNS := Lib.hid hNs; have HDS := Lib.hid hDs
        clear hgb hM hc40 hNs hDs
        have hblk := HGB.out.blk
        unfold bO at hblk
        have x0 := cell_at (i := 0) hblk rfl
        have x1 := cell_at (i := 1) hblk rfl
        have x2 := cell_at (i := 2) hblk rfl
        by_cases hlt : t < n'
        · have i1 : (t : Int) < n' := by omega
          have hrr := HRW.out.below (HGB.out.below.mono HQ.out)
          obtain ⟨g1, o1, hA1, hg1, hcz⟩ := hrr.2 (by omega)
          subst hA1
          have hlt' : t < l'.length := by have := hrr.1; omega
          have hcell := hcz t hlt'
          have HWF := Lib.hid (HX'.out _ (List.getElem_mem hlt'))
          obtain ⟨u0, hu0⟩ : ∃ u0, l'[t] = u0 := ⟨_, rfl⟩
          rw [hu0] at hcell HWF
          clear hcz hrr hu0
          go_wp2_with fail
          refine (place_any u0 1048576 _ (by decide) (by decide) (bounds_i64 HWF.out)).mono ?_
          rintro e w' ⟨rfl, rfl⟩
          obtain ⟨u, hu⟩ : ∃ u : Nat, u0 % 1048576 = (u : Int) := ⟨(u0 % 1048576).toNat, by omega⟩
          have hu1 : u < 1048576 := by omega
          rw [hu]
          clear hu
          by_cases hev : u % 2 = 0
          · have d3 : decide ((u : Int) % 2 = 0) = true := by simp; omega
            have d4 : (u : Int).tmod 2 = 0 := by rw [Int.tmod_eq_emod_of_nonneg (by omega)]; omega
            have HG7 := Lib.hid (HGB.out.on ((Below.refl wr.heap.size wr).alloc (Nat.le_refl _) (.cells #[.int .i64 (1 + (u : Int))] 3)))
            have HND : Hid (y.D.length ≤ 40) := Lib.hid (by have := H40.out; have := HN'.out; omega)
            go_wp2_with (at_builtin; refine list_ex rfl (.tmp 94) (.tmp 97) _ _ rfl (.slice y.AD y.D.length y.cD) (.slice (some ⟨wr.heap.size, 0, none⟩) 1 1) rfl rfl (run_appZ W.heap.size HG7.out.rD (RdZ.lay1 wr (1 + (u : Int))) ?s3 ?s4) ?_)
            case s3 => have := HND.out; omega
            case s4 => exact HG7.out.kept.size
            intro v8 w8 ho8 hg8 _
            obtain ⟨A8, c8, rfl, _⟩ := own_slice ho8
            have HG8 := Lib.hid (HG7.out.appD (x := 1 + (u : Int)) (by rw [show zRow (y.D ++ [1 + (u : Int)]) = zRow y.D ++ [.int .i64 (1 + (u : Int))] from List.map_append]; exact ho8) hg8)
            have hS1 := HG8.out.1
            unfold bO at hS1
            have z2 := cell_at (i := 2) hS1 rfl
            have y2 := thawed_at (i := 2) hS1
            have hn40 := HN'.out
            clear ho8 hg8
            go_wp2
            go_roundw
            case rel => exact ⟨t + 1, { y with D := y.D ++ [1 + (u : Int)], AD := A8, cD := c8 }, by omega, by go_num, HG8.out.2, HM.out, by have := H40.out; simp only [List.length_append, List.length_cons, List.length_nil]; omega, HNS.out, fun x hx => (List.mem_append.1 hx).elim (HDS.out x) fun hx => by obtain rfl := List.mem_singleton.1 hx; omega⟩
            case measure => simp [intOf]; omega
          · have d3 : decide ((u : Int) % 2 = 0) = false := by simp; omega
            have d4 : (u : Int).tmod 2 = 1 := by rw [Int.tmod_eq_emod_of_nonneg (by omega)]; omega
            obtain ⟨s, hs, hs4⟩ : ∃ s : Nat, u / 2 % 4 = s ∧ s ≤ 3 := ⟨_, rfl, by omega⟩
            obtain ⟨m, hm⟩ : ∃ m : Nat, u / 2 = m := ⟨_, rfl⟩
            have d5 : IntKind.i64.wrap ((u : Int) / 2) = (m : Int) := by rw [IntKind.wrap_i64]; omega
            have d6 : (m : Int).tmod 4 = (s : Int) := by rw [Int.tmod_eq_emod_of_nonneg (by omega)]; omega
            have hs5 : (s : Int) ≤ 3 := by omega
            have HTX := Lib.hid (abcN_size s hs4)
            clear hs hm
            have HGD := Lib.hid (HGB.out.on (Below.refl wr.heap.size wr).drew)
            have HND : Hid (y.N.length ≤ 40) := Lib.hid (by have := H40.out; have := HN'.out; omega)
            go_wp2_with fail
            refine wp_region_z (S := fun w' => w'.heap[q]? = some (bO y)) 11 (by kernel_rfl) ?_ (fun hHeld => ?_)
            · exact HGD.out.blk
            refine takesZ [0, 1, 2, 3, 4, 5, 6, 7] ?_
            repeat
              refine takesZ_one (v := ?_) ?_ ?_
              rotate_left
              · first | (refine Or.inr ⟨by rfl, ?_⟩; with_reducible rfl) | (refine Or.inl ⟨by rfl, ?_⟩; intro wx hSw; (try dsimp only at hSw); first | (go_simp; first | done | with_reducible rfl) | (have hS1 := hSw; unfold bO at hS1; have x0 := cell_at (i := 0) hS1 rfl; have x1 := cell_at (i := 1) hS1 rfl; have x2 := cell_at (i := 2) hS1 rfl; go_simp; first | done | with_reducible rfl))
              try simp only [Act.put, List.getElem_toArray, List.getElem_cons_succ, List.getElem_cons_zero, List.setIfInBounds_toArray, List.set_cons_zero, List.set_cons_succ]
            refine takesZ_nil ?_
            refine wpAnyZ_one (i := 8) (by kernel_rfl) rfl (fun K hK => ?_)
            go_simp
            have RD := Lib.hid (RdN.laid wr.drew ((u : Int), abcN s))
            have HG7 := Lib.hid (HGD.out.on ((Below.refl (wr.drew).heap.size wr.drew).alloc (Nat.le_refl _) (.cells #[.int .i64 (u : Int), .string (abcN s)] 51)))
            refine hK.out _ _ ?_ (fun hHeld => ?_)
            · exact HG7.out.blk
            clear hK K
            try simp only [Act.put, List.getElem_toArray, List.getElem_cons_succ, List.getElem_cons_zero, List.setIfInBounds_toArray, List.set_cons_zero, List.set_cons_succ]
            refine wpAnyZ_one (i := 9) (by kernel_rfl) rfl (fun K hK => ?_)
            refine step_ex rfl (.tmp 101) (.tmp 108) _ _ rfl (.slice y.AN y.N.length y.cN) (.slice (some ⟨wr.heap.size, 0, none⟩) 1 1) (by simp [Act.eval]) (by simp [Act.eval]) (run_appN W.heap.size HG7.out.rN RD.out ?s3 ?s4) ?_
            case s3 => have := HND.out; omega
            case s4 => exact HG7.out.kept.size
            intro v8 w8 ho8 hg8
            obtain ⟨hg8, _⟩ := hg8
            obtain ⟨A8, c8, rfl, _⟩ := own_slice ho8
            have HG8 := Lib.hid (HG7.out.appN (x := ((u : Int), abcN s)) ho8 hg8)
            clear ho8 hg8
            refine hK.out _ _ ?_ (fun hHeld => ?_)
            · exact HG8.out.1
            clear hK K
            try simp only [Act.put, List.getElem_toArray, List.getElem_cons_succ, List.getElem_cons_zero, List.setIfInBounds_toArray, List.set_cons_zero, List.set_cons_succ]
            refine takesZ [10] ?_
            repeat
              refine takesZ_one (v := ?_) ?_ ?_
              rotate_left
              · first | (refine Or.inr ⟨by rfl, ?_⟩; with_reducible rfl) | (refine Or.inl ⟨by rfl, ?_⟩; intro wx hSw; (try dsimp only at hSw); first | (go_simp; first | done | with_reducible rfl))
              try simp only [Act.put, List.getElem_toArray, List.getElem_cons_succ, List.getElem_cons_zero, List.setIfInBounds_toArray, List.set_cons_zero, List.set_cons_succ]
            refine takesZ_nil ?_
            refine wpAnyZ_last (by kernel_rfl) rfl (fun K hK => ?_)
            have hS1 := HG8.out.1
            unfold bO at hS1
            have z1 := cell_at (i := 1) hS1 rfl
            have y1 := thawed_at (i := 1) hS1
            go_simp
            refine hK.out _ _ ?_
            clear hK K
            try simp only [Act.put, List.getElem_toArray, List.getElem_cons_succ, List.getElem_cons_zero, List.setIfInBounds_toArray, List.set_cons_zero, List.set_cons_succ]
            refine wpAnyZ_done (by kernel_rfl) ?_ _
            have HG9 := Lib.hid HG8.out.2
            have hu1' : 1 ≤ (u : Int) := by omega
            have hu2 : (u : Int) ≤ 1048577 := by omega
            have hn40 := HN'.out
            clear HG8 HG7 HGD
            generalize (w8.setCell ⟨q, 1, none⟩ (.slice A8 (y.N.length + 1) c8)) = w9 at HG9 ⊢
            go_wp2
            go_roundw
            case rel => exact ⟨t + 1, { y with N := y.N ++ [((u : Int), abcN s)], AN := A8, cN := c8 }, by omega, by go_num, HG9.out, HM.out, by have := H40.out; simp only [List.length_append, List.length_cons, List.length_nil]; omega, (fun x hx => (List.mem_append.1 hx).elim (HNS.out x) fun hx => by obtain rfl := List.mem_singleton.1 hx; exact ⟨hu1', hu2, HTX.out⟩), HDS.out⟩
            case measure => simp [intOf]; omega
        · obtain rfl : n' = t := by omega
          have d0' : decide ((n' : Int) < (n' : Int)) = false := by simp
          have hkl := HLEN.out
          have hk4 := HK4.out
          have hn40 := HN'.out
          have h40 := H40.out
          have hbn : BtN y.bt := ⟨by show (muts y.M).length ≤ 4; rw [HM.out, List.length_map, List.length_map]; omega, fun m hm => by
            have hm' : m ∈ muts y.M := hm
            rw [HM.out] at hm'
            obtain ⟨a, ha, rfl⟩ := List.mem_map.1 hm'
            obtain ⟨x, hx, rfl⟩ := List.mem_map.1 ha
            have hp := (HPS.out x hx).1
            refine ⟨rfl, ?_⟩
            show PartIn ⟨x.k, x.g, ros x.L⟩
            rw [hp.1]
            exact hp.2, by show y.N.length ≤ 40; omega, HNS.out, by show y.D.length ≤ 40; omega, HDS.out⟩
          have HBN := Lib.hid hbn
          have N1 := pack_batch y wr.heap.size wr HGB.out.lies (Nat.le_refl _) (btF_ofN hbn)
          rw [hbn.put] at N1
          have HN1 := Lib.hid N1
          clear N1 hbn hkl hn40 h40
          go_wp2_with fail
          refine HN1.out.mono ?_
          rintro e w1 ⟨A6, n6, c6, rfl, g1, g2, g3, g4, ho6, b1⟩
          have HG1 := Lib.hid (HGB.out.on b1)
          have HO1 := Lib.hid ho6
          have N2 := getBatch_any YI A6 n6 c6 w1.heap.size _ w1 (Rd.of_own1 ho6) (Nat.le_refl _) g2 g3 g4
          rw [HBN.out.got] at N2
          have HN2 := Lib.hid N2
          clear N2 g1 g2 g3 g4 ho6 b1 x0 x1 x2 hblk
          go_wp2_with fail
          refine HN2.out.mono ?_
          rintro e w2 ⟨z2, hpe, rfl, hbq, b2⟩
          have ba := (Below.refl w2.heap.size w2).alloc (Nat.le_refl _) (bO z2)
          have hz2 := heap_alloc_new w2 (bO z2)
          have hg3 := (HG1.out.on b2).on ba
          have ho3 := own_below (own_below HO1.out b2) ba
          have hl3 := (hbq.on ba).lies
          obtain ⟨W3, hW3⟩ : ∃ W, W = w2.alloc (bO z2) := ⟨_, rfl⟩
          have hs3 : W3.heap.size = w2.heap.size + 1 := by rw [hW3]; simp
          rw [← hW3] at hz2 hg3 ho3 hl3
          have HG3 := Lib.hid hg3; have HO3 := Lib.hid ho3; have HL3 := Lib.hid hl3; have HZ2 := Lib.hid hz2; have HS3 := Lib.hid hs3; have HPE := Lib.hid hpe
          have N3 := pack_batch z2 W3.heap.size W3 hl3 (Nat.le_refl _) (btF_ofN (by rw [hpe]; exact HBN.out))
          rw [hpe, HBN.out.put] at N3
          have HN3 := Lib.hid N3
          clear N3 ba hg3 ho3 hl3 hbq b2 hs3 hpe
          unfold bO at hz2
          have y0 := cell_at (i := 0) hz2 rfl
          have y1 := cell_at (i := 1) hz2 rfl
          have y2 := cell_at (i := 2) hz2 rfl
          clear hz2
          go_wp2_with fail
          try unfold bO at hW3
          try rw [← hW3]
          clear hW3
          refine HN3.out.mono ?_
          rintro e w4 ⟨A7, n7, c7, rfl, _, _, _, _, ho7, b4⟩
          have HG4 := Lib.hid (HG3.out.on b4)
          have HO4 := Lib.hid (own_below HO3.out b4)
          have HO7 := Lib.hid ho7
          have hq4 := HG4.out.blk
          have hz4 := (b4.block w2.heap.size (by have := HS3.out; omega)).trans HZ2.out
          unfold bO at hq4 hz4
          have x0 := cell_at (i := 0) hq4 rfl
          have x1 := cell_at (i := 1) hq4 rfl
          have x2 := cell_at (i := 2) hq4 rfl
          clear y0 y1 y2
          have y0 := cell_at (i := 0) hz4 rfl
          have y1 := cell_at (i := 1) hz4 rfl
          have y2 := cell_at (i := 2) hz4 rfl
          have N5 := same_batch y z2 w4.heap.size W3.heap.size w4 HG4.out.lies (HL3.out.below b4) (Nat.le_refl _) b4.size (btC_ofN HBN.out) (btC_ofN (by rw [HPE.out]; exact HBN.out)) HPE.out.symm
          have HN5 := Lib.hid N5
          clear N5 hq4 hz4 ho7 b4
          go_wp2_with fail
          refine HN5.out.mono ?_
          rintro e w6 ⟨rfl, b6⟩
          have HG6 := Lib.hid (HG4.out.on b6)
          obtain ⟨S, hS⟩ : ∃ S : ByteArray, S.data.toList = bE y.bt := ⟨⟨⟨bE y.bt⟩⟩, rfl⟩
          have hcv1 := cv_string (Rd.of_own1 (own_below HO4.out b6)) c6
          have hcv2 := cv_string (Rd.of_own1 (own_below HO7.out b6)) c7
          rw [mk_eq _ S hS] at hcv1 hcv2
          have f2 : (S.toList == S.toList) = true := by simp
          clear b6 hS x0 x1 x2 y0 y1 y2
          go_wp2_with fail
          refine (awake9_any _).mono ?_
          rintro e wz ⟨rfl, bz⟩
          have BZ9 := Lib.hid (next (BZ.out.trans (HG6.out.below.mono HQ.out)) bz)
          clear bz
          go_wp2
          go_ret
          exact ⟨rfl, BZ9.out⟩
end Go.Proofs.Ythfanonjokpflaa
set_option linter.unusedVariables false
set_option linter.unusedSimpArgs false
namespace Go.Proofs.Ythfanonjokpflaa
open Go Go.RowKit

set_option maxRecDepth 8000 in
set_option maxHeartbeats 2000000 in
theorem nums_big (A : Option Addr) (n c : Nat) (v : Int) (A' : Option Addr) (n' c' : Nat) (w : World) (h : 100 < n ∨ n ≤ 100 ∧ 40 < n') :
    Calls Try.prog 4 #[.slice A n c, .int .i64 v, .slice A' n' c'] w fun e w' => e = .returned (.bool true) ∧ Below w.heap.size w w' := by
  rcases h with h | ⟨h1, h2⟩
  · have d1 : decide ((100 : Int) < (n : Nat)) = true := by simp; omega
    have d2 : (100 : Int) < (n : Int) := by omega
    go_enter Try.func4, Try.ntmps4
    go_wp2_with fail
    refine (awake9_any _).mono ?_
    rintro e wz ⟨rfl, bz⟩
    have BZ9 := Lib.hid bz
    clear bz
    go_wp2
    go_ret
    exact ⟨rfl, BZ9.out⟩
  · have d1 : decide ((100 : Int) < (n : Nat)) = false := by simp; omega
    have d2 : decide ((40 : Int) < (n' : Nat)) = true := by simp; omega
    have d3 : (40 : Int) < (n' : Int) := by omega
    have d4 : ¬ (100 : Int) < (n : Int) := by omega
    go_enter Try.func4, Try.ntmps4
    go_wp2_with fail
    refine (awake9_any _).mono ?_
    rintro e wz ⟨rfl, bz⟩
    have BZ9 := Lib.hid bz
    clear bz
    go_wp2
    go_ret
    exact ⟨rfl, BZ9.out⟩
theorem nums_any (YI : InnerOk) (A : Option Addr) (n c : Nat) (l : List Int) (v : Int) (A' : Option Addr) (n' c' : Nat) (l' : List Int) (w : World) (hr : RdZ w w.heap.size A n l) (hnc : n ≤ c) (hc : c ≤ maxLen) (hx : ∀ x ∈ l, (Lit.int .i64 x).wf = true) (hv : (Lit.int .i64 v).wf = true) (hr' : RdZ w w.heap.size A' n' l') (hnc' : n' ≤ c') (hc' : c' ≤ maxLen) (hx' : ∀ x ∈ l', (Lit.int .i64 x).wf = true) :
    Calls Try.prog 4 #[.slice A n c, .int .i64 v, .slice A' n' c'] w fun e w' => e = .returned (.bool true) ∧ Below w.heap.size w w' := by
  by_cases h1 : n ≤ 100
  · by_cases h2 : n' ≤ 40
    · exact nums_law YI A n c l v A' n' c' l' w hr hnc hc hx hv hr' hnc' hc' hx' h1 h2
    · exact nums_big A n c v A' n' c' w (Or.inr ⟨h1, by omega⟩)
  · exact nums_big A n c v A' n' c' w (Or.inl (by omega))
end Go.Proofs.Ythfanonjokpflaa
set_option linter.unusedVariables false
set_option linter.unusedSimpArgs false
namespace Go.Proofs.Ythfanonjokpflaa
open Go Go.RowKit

theorem Went.nest {α : Type} {p : Pz α} {l k : Bs} {i j j2 : Nat} {e f f2 : Int} {x : α} (H1 : Went bodyP l i e k j f) (H2 : Went p k 0 f x j2 f2) : Went (nestP p) l i e x j (if f2 = 0 ∧ j2 < k.length then 6 else f2) := by
  unfold nestP
  refine H1.bind ⟨fun _ => Nat.le_refl _, H1.len, fun hf => ?_, fun hf h => ?_, fun hf h => ?_⟩
  · have h2 := H2.stays hf
    rw [if_neg (fun h => hf (by rw [← h2]; exact h.1)), h2]
  · by_cases hc : f2 = 0 ∧ j2 < k.length
    · rw [if_pos hc] at h; cases h
    · rw [if_neg hc] at h
      have h3 := H2.ok hf h
      rw [List.drop_zero] at h3
      have h4 : k.drop j2 = [] := List.drop_eq_nil_of_le (by have h5 : ¬ j2 < k.length := fun h6 => hc ⟨h, h6⟩; omega)
      rw [h4] at h3
      simp only [h3]
      rfl
  · by_cases h0 : f2 = 0
    · have h5 : j2 < k.length := by
        refine Decidable.byContradiction fun h6 => h ?_
        rw [if_neg (fun h7 => h6 h7.2)]
        exact h0
      rw [if_pos ⟨h0, h5⟩]
      have h3 := H2.ok hf h0
      rw [List.drop_zero] at h3
      have h4 : k.drop j2 ≠ [] := fun h6 => by have := congrArg List.length h6; rw [List.length_drop, List.length_nil] at this; omega
      simp only [h3, if_neg h4]
    · rw [if_neg (fun h7 => h0 h7.1)]
      have h3 := H2.no hf h0
      rw [List.drop_zero] at h3
      simp only [h3]
end Go.Proofs.Ythfanonjokpflaa
set_option linter.unusedVariables false
set_option linter.unusedSimpArgs false
namespace Go.Proofs.Ythfanonjokpflaa
open Go Go.RowKit

set_option maxRecDepth 8000 in
set_option maxHeartbeats 2000000 in
theorem yinner : InnerOk := by
  intro q i n c e A l w h hi hs
  have hqw := h.lt
  have bz := (Below.refl w.heap.size w).alloc (Nat.le_refl _) (.cells #[.string ⟨#[]⟩, .int .i64 0, .slice none 0 0] 24)
  have hz := heap_alloc_new w (.cells #[.string ⟨#[]⟩, .int .i64 0, .slice none 0 0] 24)
  have h0 := h.below bz
  obtain ⟨V, hV⟩ : ∃ V, V = w.alloc (.cells #[.string ⟨#[]⟩, .int .i64 0, .slice none 0 0] 24) := ⟨_, rfl⟩
  rw [← hV] at bz hz h0
  have H0 := Lib.hid h0; have HZ0 := Lib.hid hz; have BZ := Lib.hid bz; have HQ := Lib.hid hqw; have HS := Lib.hid hs
  clear h bz hz h0 hqw hs
  go_enter Try.func81, Try.ntmps81
  go_wp2_with fail
  rw [← hV]
  clear hV
  refine (ybytes q i n c e A l _ H0.out hi (by have := HS.out; omega)).mono ?_
  rintro x w1 ⟨B, m, k, j, f, rfl, hm, hrd, hA, hf0, hj, h1, k1, hw1⟩
  have hlen : k.length = m := hrd.1
  have hmax : m ≤ maxLen := by have := HS.out; unfold maxLen; omega
  have hz1 := Kept.atQ k1 HZ0.out (by have := HQ.out; omega)
  have K1 := Lib.hid (KeptQ.on (Kept.of_below BZ.out _) k1)
  have hq1 := h1.lt
  have hs1 : w.heap.size < w1.heap.size := (Array.getElem?_eq_some_iff.1 hz1).1
  have ba := (Below.refl w1.heap.size w1).alloc (Nat.le_refl _) (.cells #[.slice B m m, .int .i64 0, .int .i64 f] 97)
  have hin := heap_alloc_new w1 (.cells #[.slice B m m, .int .i64 0, .int .i64 f] 97)
  obtain ⟨U, hU⟩ : ∃ U, U = w1.alloc (.cells #[.slice B m m, .int .i64 0, .int .i64 f] 97) := ⟨_, rfl⟩
  rw [← hU] at ba hin
  have hry : RY U w1.heap.size B m m k 0 f := ⟨hin, (hrd.below (ba.mono (Nat.le_of_lt hq1))).up (Nat.le_of_lt hq1), Nat.le_refl _, hmax, hA⟩
  have HIN := Lib.hid hry
  have H1 := Lib.hid (h1.below ba)
  have HZ1 := Lib.hid ((ba.block _ hs1).trans hz1)
  have KU := Lib.hid (K1.out.new ba)
  have HW1 := Lib.hid hw1; have HJ := Lib.hid hj; have HM := Lib.hid (show m ≤ 900000 by have := HS.out; omega); have HK := Lib.hid hlen
  have HS1 := Lib.hid hs1; have HQ1 := Lib.hid hq1; have HSU := Lib.hid (show w1.heap.size < U.heap.size from hry.lt)
  obtain ⟨_, _, _⟩ := h1.cells
  clear hrd hA hf0 hm hj h1 k1 hw1 hlen hmax hz1 hs1 hq1 ba hin hry hi
  go_wp2_with fail
  rw [← hU]
  clear hU
  refine (ypart w1.heap.size 0 m m f B k U HIN.out (Nat.zero_le _) HM.out).mono ?_
  rintro x w2 ⟨⟨zk, zg, zL, zA, zc⟩, j2, f2, rfl, hrows, hj2, h2, k2, hw2⟩
  dsimp only at hrows hw2
  have bp := (Below.refl w2.heap.size w2).alloc (Nat.le_refl _) (.cells #[.string zk, .int .i64 zg, .slice zA zL.length zc] 24)
  have hp2 := heap_alloc_new w2 (.cells #[.string zk, .int .i64 zg, .slice zA zL.length zc] 24)
  obtain ⟨P, hP⟩ : ∃ P, P = w2.alloc (.cells #[.string zk, .int .i64 zg, .slice zA zL.length zc] 24) := ⟨_, rfl⟩
  rw [← hP] at bp hp2
  have hr2 := (hrows.lower (w0 := w) KU.out.size).on bp
  have hq2 := (RY.other H1.out k2 HQ1.out).below bp
  have hz2 := (bp.block _ (Nat.lt_of_lt_of_le (Nat.lt_trans HS1.out HSU.out) k2.size)).trans (Kept.atQ k2 HZ1.out (by have := HS1.out; omega))
  have kp := (KU.out.own k2 (Nat.le_of_lt HS1.out)).new bp
  have hl2 : w1.heap.size < w2.heap.size := Nat.lt_of_lt_of_le HSU.out k2.size
  have H2 := Lib.hid (h2.below bp); have HR2 := Lib.hid hr2; have HQ2 := Lib.hid hq2; have HZ2 := Lib.hid hz2; have KP := Lib.hid kp; have HP2 := Lib.hid hp2
  have HW2 := Lib.hid hw2; have HJ2 := Lib.hid hj2; have HL2 := Lib.hid hl2
  clear hrows hj2 h2 k2 hw2 bp hp2 hr2 hq2 hz2 kp hl2
  go_wp2_with fail
  rw [← hP]
  clear hP
  refine (yend w1.heap.size j2 m m f2 B k P H2.out HJ2.out).mono ?_
  rintro x w3 ⟨rfl, h3, k3⟩
  obtain ⟨F, hF⟩ : ∃ F, (if f2 = 0 ∧ j2 < m then (6 : Int) else f2) = F := ⟨_, rfl⟩
  rw [hF] at h3
  have HW : Hid (Went (nestP partP) l i e ⟨zk, zg, ros zL⟩ j F) := by
    have h4 := HW1.out.nest HW2.out
    rw [HK.out, hF] at h4
    exact Lib.hid h4
  have hq3 := RY.other HQ2.out k3 HQ1.out
  have hz3 := Kept.atQ k3 HZ2.out (by have := HS1.out; omega)
  have hp3 := Kept.atQ k3 HP2.out (by have := HL2.out; omega)
  have hr3 := HR2.out.kept1 k3 H2.out.blk (by decide) (by decide)
  have kq3 := KP.out.own k3 (Nat.le_of_lt HS1.out)
  have c3 := h3.cells.2.2
  have y3 := hq3.thaw 2
  have hq4 := hq3.put2 F
  have k4 : Kept (fun k => k = q) w3 (w3.setCell ⟨q, 2, none⟩ (.int .i64 F)) := Kept.setCell (fun k => k = q) w3 ⟨q, 2, none⟩ (.int .i64 F) rfl
  have hz4 := Kept.atQ k4 hz3 (by have := HQ.out; omega)
  have hp4 := Kept.atQ k4 hp3 (by have := HL2.out; have := HQ1.out; omega)
  have hr4 := hr3.kept1 k4 hq3.blk (by decide) (by decide)
  have kq4 := kq3.on k4
  obtain ⟨_, _, c2⟩ := hq3.cells
  have HQ4 := Lib.hid hq4; have HZ4 := Lib.hid hz4; have HP4 := Lib.hid hp4; have HR4 := Lib.hid hr4; have KQ4 := Lib.hid kq4
  clear h3 k3 hF hq3 hz3 hp3 hr3 kq3 hq4 k4 hz4 hp4 hr4 kq4
  have k0 := cell_at (i := 0) HP4.out rfl
  have k1 := cell_at (i := 1) HP4.out rfl
  have k2 := cell_at (i := 2) HP4.out rfl
  have z0 := cell_at (i := 0) HZ4.out rfl
  have z1 := cell_at (i := 1) HZ4.out rfl
  have z2 := cell_at (i := 2) HZ4.out rfl
  have y0 := thawed_at (i := 0) HZ4.out
  have y1 := thawed_at (i := 1) HZ4.out
  have y2 := thawed_at (i := 2) HZ4.out
  obtain ⟨W4, hW4⟩ : ∃ W, W = w3.setCell ⟨q, 2, none⟩ (.int .i64 F) := ⟨_, rfl⟩
  have m9 := set3Q_block HZ4.out (.string zk) (.int .i64 zg) (.slice zA zL.length zc)
  have n9 := kept_set3Q (w := w3.setCell ⟨q, 2, none⟩ (.int .i64 F)) w.heap.size (.string zk) (.int .i64 zg) (.slice zA zL.length zc)
  have R9 := Lib.hid (RY.other HQ4.out n9 HQ.out)
  have K9 := Lib.hid (KQ4.out.own n9 (Nat.le_refl _))
  have RW9 := Lib.hid (HR4.out.kept1 n9 HZ4.out (by decide) (by decide))
  clear n9 hW4
  go_wp2
  generalize World.setCell (World.setCell (World.setCell (w3.setCell ⟨q, 2, none⟩ (.int .i64 F)) ⟨w.heap.size, 0, none⟩ (.string zk)) ⟨w.heap.size, 1, none⟩ (.int .i64 zg)) ⟨w.heap.size, 2, none⟩ (.slice zA zL.length zc) = w9 at m9 K9 R9 RW9 ⊢
  clear z0 z1 z2 y0 y1 y2 k0 k1 k2
  have q0 := cell_at (i := 0) m9 rfl
  have q1 := cell_at (i := 1) m9 rfl
  have q2 := cell_at (i := 2) m9 rfl
  refine bodyPost_ret (v := .agg #[.string zk, .int .i64 zg, .slice zA zL.length zc]) ?_ rfl ?_
  · simp [results, Try.results81, go_sem, q0, q1, q2]
  · exact ⟨⟨zk, zg, zL, zA, zc⟩, j, F, rfl, RW9.out, HJ.out, R9.out, K9.out, HW.out⟩
end Go.Proofs.Ythfanonjokpflaa
set_option linter.unusedVariables false
namespace Go.Proofs.Ythfanonjokpflaa
open Go Go.ChangeShapes Go.WideShapes Go.ChangeAt Go.RowKit

theorem trod_lt1 {H : Type} {enc : TypeId × Value → H} {P : Program} {w : World} {base : Nat} {sp : Nat → Bool} {held : Bool} {t : TypeId} {v : Value} {d : DataW H} {ps : List MemPlace} (h : DataW.Trod enc P w base sp held t v d ps) : ∀ p ∈ ps, p.block < w.heap.size := by
  obtain ⟨f, hf⟩ := h
  exact DataW.trod_lt f t _ _ hf
end Go.Proofs.Ythfanonjokpflaa
set_option linter.unusedVariables false
namespace Go.Proofs.Ythfanonjokpflaa
open Go Go.ChangeShapes Go.WideShapes Go.ChangeAt Go.RowKit Go.Joins

theorem cellsI : Try.prog.cellsOf 3 = 1 := by kernel_rfl
set_option maxRecDepth 8000 in
theorem open_rdz {H : Type} {enc : TypeId × Value → H} {W : World} {base : Nat} {v : Value} {d : DataW H} {p : List MemPlace} (hval : Value.okWide Try.prog W .any base 27 v) (h : DataW.Trod enc Try.prog W 0 (fun _ => true) true 27 v d p) :
    ∃ A n c l, v = .slice A n c ∧ RdZ W W.heap.size A n l ∧ n ≤ c ∧ c ≤ maxLen ∧ (∀ x ∈ l, (Lit.int .i64 x).wf = true) := by
  obtain ⟨a1, len, cap, rfl⟩ := okWide_slice Try.underlying27 hval
  obtain ⟨fuel, hf⟩ := h
  rcases open_ints Try.underlying27 Try.underlying3 cellsI hf with ⟨hcs, hx⟩ | ⟨a, len', cap', zs, hcs, _, hl, hm, hz, hx, hcell, hwz⟩
  · simp [Value.cells] at hcs
    obtain ⟨rfl, rfl, rfl⟩ := hcs
    exact ⟨none, 0, 0, [], rfl, ⟨rfl, fun h => absurd h (by omega)⟩, Nat.le_refl _, Nat.zero_le _, fun x hx => by cases hx⟩
  · simp [Value.cells] at hcs
    obtain ⟨rfl, rfl, rfl⟩ := hcs
    simp only [if_true] at hz
    refine ⟨some a, len, cap, zs.take len, rfl, ⟨by simp; omega, fun hn => ?_⟩, hl, hm, fun x hx => ?_⟩
    · have h0 := hcell 0 (by omega)
      have hs : a.spot = none := by simpa [Addr.add] using World.cell?_spot h0
      obtain ⟨g, o, sp⟩ := a
      simp only at hs
      subst hs
      refine ⟨g, o, rfl, World.block_lt_of_cell? W ⟨g, o, none⟩ (by simpa [Addr.add] using h0), fun j hj => ?_⟩
      have hj2 : j < zs.length := by simp at hj; omega
      have e : zs.getD j 0 = zs[j] := by simp [List.getD, hj2]
      have := hcell j hj2
      rw [e] at this
      simp only [Addr.add_lit] at this
      rw [this, List.getElem_take]
    · exact hwz x (List.mem_of_mem_take hx)
end Go.Proofs.Ythfanonjokpflaa
set_option linter.unusedVariables false
namespace Go.Proofs.Ythfanonjokpflaa.lawPackNumbers
open Go Go.ChangeShapes Go.WideShapes Go.ChangeAt Go.RowKit
open Go.ChangeMaps (open_string shut_string)

theorem own : ownKnob Try.prog.godebug = none := by kernel_rfl
theorem laidOut : laidOutB Try.prog = true := by kernel_rfl

set_option maxRecDepth 100000 in
theorem lifted (os : Os) (started : os.Started) (H : Type) (enc : TypeId × Value → H) :
    ReturnsInHanded {} Try.checked os 4 .any (Rows.packNumbersSpec.pre6 enc Try.prog Try.f4 Rows.packNumbersRow.domain false) (Rows.packNumbersSpec.post enc Try.prog Try.f4 false true false false) := by
  refine returnsInHanded_of_change (C := Try.checked) own started (by kernel_rfl) Try.func4
    (ChangeSpec.witness6 (enc := enc) (C := Try.checked) false ⟨#[], #[.slice none 0 0, .int .i64 0, .slice none 0 0], []⟩ 8 (by kernel_rfl) (by kernel_rfl) (by kernel_rfl) (by kernel_rfl)) ?_
  intro W base args ds gs before hval0 hW hcnd _
  have hval : ∀ (j : Nat) t v, Try.f4.params[j]? = some t → args[j]? = some v → Value.okWide Try.prog W .any base t v := hval0
  have hW' := hW
  obtain ⟨p, q, hA0, hV, rfl, hfz, hnd⟩ := hW
  have hA : DataW.TrodAll enc Try.prog W 0 (fun _ => true) true Try.f4.params.toList args.toList ds p := hA0
  rw [Try.params4] at hA hval
  obtain ⟨v0, vs0, d0, ds0, p0, q0, hargs, rfl, rfl, h0, r0⟩ := trodAll_cons hA
  obtain ⟨v1, vs1, d1, ds1, p1, q1, rfl, rfl, rfl, h1, r1⟩ := trodAll_cons r0
  obtain ⟨v2, vs2, d2, ds2, p2, q2, rfl, rfl, rfl, h2, r2⟩ := trodAll_cons r1
  obtain ⟨rfl, rfl, rfl⟩ := trodAll_nil r2
  obtain rfl : args = #[v0, v1, v2] := by cases args; simp_all
  obtain ⟨rfl, rfl⟩ := trodVars_none hV
  have t0 := h0
  obtain ⟨A0, n0, c0, l0, rfl, wr0, wn0, wc0, ws0⟩ := open_rdz (hval 0 27 v0 rfl rfl) h0
  obtain ⟨a1, rfl, rfl, rfl, w1⟩ := open_int Try.underlying3 (hval 1 3 v1 rfl rfl) h1
  have t2 := h2
  obtain ⟨A2, n2, c2, l2, rfl, wr2, wn2, wc2, ws2⟩ := open_rdz (hval 2 27 v2 rfl rfl) h2
  clear hA0 hval0
  refine (nums_any yinner A0 n0 c0 l0 a1 A2 n2 c2 l2 W wr0 wn0 wc0 ws0 w1 wr2 wn2 wc2 ws2).mono fun e W' ⟨he, bel⟩ => ?_
  subst he
  exact ⟨_, rfl, _, _, _, [], _, [], hW', trodAll_mk1 (shut_bool Try.underlying4 _), (trodAll_cons_mk (Below.trod laidOut (by kernel_rfl) (of_decide_eq_true (by kernel_rfl)) t0 bel (trod_lt1 t0)) (trodAll_cons_mk (shut_int Try.underlying3 w1) (trodAll_cons_mk (Below.trod laidOut (by kernel_rfl) (of_decide_eq_true (by kernel_rfl)) t2 bel (trod_lt1 t2)) trodAll_mk0))), rfl, bel.frame _, fun h => by cases h⟩

theorem over : Rows.packNumbersRow.holds Try.pinned (OpenSpec.ofChange Rows.packNumbersSpec) :=
  OpenClaim.holds_of_wide 4 Try.f4 rfl rfl rfl rfl rfl rfl rfl ⟨rfl, rfl, rfl, rfl, rfl⟩ rfl rfl rfl rfl rfl (by kernel_rfl) Try.func4 (by kernel_rfl)
    (of_decide_eq_true (by kernel_rfl)) (by unfold Func.isWrapper; first | (rw [if_pos (by decide +kernel)]; kernel_rfl) | (rw [if_neg (by decide +kernel)]; exact ⟨rfl, rfl⟩))
    (fun os started H enc _ => lifted os started H enc)

theorem proved : Rows.PackNumbersSaid := over
end Go.Proofs.Ythfanonjokpflaa.lawPackNumbers
