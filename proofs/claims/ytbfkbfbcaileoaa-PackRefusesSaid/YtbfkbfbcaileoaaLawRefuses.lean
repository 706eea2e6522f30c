/-
  PackRefuses: for every input the law returns true, and each argument reads as it read. No condition.
-/
import Derived.Test.YtbfkbfbcaileoaaTkl
import Derived.Test.YtbfkbfbcaileoaaPt9
import Derived.Test.YtbfkbfbcaileoaaMu
import Derived.Test.YtbfkbfbcaileoaaKq
import Derived.Test.YtbfkbfbcaileoaaCeA
import Derived.Test.YtbfkbfbcaileoaaSab
import Derived.Lib.SmallJoins
import Derived.Test.YtbfkbfbcaileoaaPlc
import Derived.Deep.DeepCutAuto
import Derived.Deep.CutBlock
import Derived.Test.YtbfkbfbcaileoaaRows
import Derived.WalkKit
import Derived.ProofKit
import Derived.OpenShut
import Derived.ShutString
import Derived.ChangeOld
import Derived.Below
set_option linter.unusedVariables false
set_option linter.unusedSimpArgs false
namespace Go.Proofs.Ytbfkbfbcaileoaa
open Go Go.RowKit

theorem btS_of {x : BA} (h : x.bt.ok = true) : BtS x := by
  have hg := Bt.gd_of h
  rw [bt_ok] at h
  simp only [Bool.and_eq_true, decide_eq_true_iff, List.all_eq_true] at h
  obtain ⟨⟨⟨h1, h2⟩, h3, h4⟩, h5, h6⟩ := h
  refine ⟨fun y hy => ?_, fun y hy => ?_, fun y hy => ?_, by omega, by omega, by omega⟩
  · have h7 := h2 y hy
    unfold mutB nameB mutOf at h7
    simp only [Bool.and_eq_true, decide_eq_true_iff] at h7
    exact ⟨by omega, paS_of h7.2⟩
  · have h7 := h4 y hy
    unfold addB at h7
    simp only [Bool.and_eq_true, decide_eq_true_iff] at h7
    exact ⟨⟨by omega, h7.2.1⟩, by omega⟩
  · have h7 := h6 y hy
    unfold dropB at h7
    simp only [Bool.and_eq_true, decide_eq_true_iff] at h7
    exact ⟨by omega, by omega⟩
theorem bt_len {b : Bt} (h : b.ok = true) : (bE b).length ≤ 30000000 := by
  unfold Bt.ok at h
  simp only [Bool.and_eq_true, decide_eq_true_iff, List.all_eq_true] at h
  obtain ⟨h1, h2, h3, h4, h5, h6⟩ := h
  have l1 : (b.muts.flatMap mE).length ≤ b.muts.length * 246300 := flat_le fun m hm => by
    have h7 := h2 m hm
    unfold mutB nameB at h7
    simp only [Bool.and_eq_true, decide_eq_true_iff] at h7
    have := pa_len h7.2
    have h8 : (tE m.1).length ≤ 9 + 100 := tE_le h7.1.1.2 (by omega)
    have h9 : (numL (pE m.2).length).length ≤ 9 := numL_le (by omega)
    unfold mE
    simp only [List.length_append]
    omega
  have l2 : (b.add.flatMap aE).length ≤ b.add.length * 4200 := flat_le fun m hm => by
    have h7 := h4 m hm
    unfold addB at h7
    simp only [Bool.and_eq_true, decide_eq_true_iff] at h7
    have h8 : (tE m.2).length ≤ 9 + 4096 := tE_le h7.2.2 (by omega)
    have h9 : (numL m.1.toNat).length ≤ 9 := numL_le (by omega)
    unfold aE
    simp only [List.length_append]
    omega
  have l3 : (b.drop.flatMap fun v => numL v.toNat).length ≤ b.drop.length * 9 := flat_le fun m hm => by
    have h7 := h6 m hm
    unfold dropB at h7
    simp only [Bool.and_eq_true, decide_eq_true_iff] at h7
    exact numL_le (by omega)
  have n1 : (numL b.muts.length).length ≤ 9 := numL_le (by omega)
  have n2 : (numL b.add.length).length ≤ 9 := numL_le (by omega)
  have n3 : (numL b.drop.length).length ≤ 9 := numL_le (by omega)
  have m1 : b.muts.length * 246300 ≤ 64 * 246300 := Nat.mul_le_mul_right _ h1
  have m2 : b.add.length * 4200 ≤ 300 * 4200 := Nat.mul_le_mul_right _ h3
  have m3 : b.drop.length * 9 ≤ 300 * 9 := Nat.mul_le_mul_right _ h5
  unfold bE
  simp only [List.length_append]
  omega
theorem putBatch_no {b : Bt} (h : b.ok = false) : putBatch b = .error 1 := by
  unfold putBatch putP
  rw [if_neg (by rw [h]; simp)]
set_option maxRecDepth 8000 in
set_option maxHeartbeats 600000 in
theorem put_batch (x : BA) (B : Nat) (w : World) (hr : LiesB w B x) (hB : B ≤ w.heap.size) (hf : BtF x) :
    Calls Try.prog 28 #[bV x, .func (.func 18) #[] #[], .func (.func 29) #[] #[]] w (GivesP w (putBatch x.bt)) := by
  have bz := (Below.refl w.heap.size w).alloc (Nat.le_refl _) (bO x)
  have hz := heap_alloc_new w (bO x)
  obtain ⟨V, hV⟩ : ∃ V, V = w.alloc (bO x) := ⟨_, rfl⟩
  rw [← hV] at bz hz
  have hVs := bz.size
  have hc0 := cell_at (i := 0) hz rfl
  have hc1 := cell_at (i := 1) hz rfl
  have hc2 := cell_at (i := 2) hz rfl
  obtain ⟨u, hu⟩ : ∃ u, x.bt.ok = u := ⟨_, rfl⟩
  have C1 := checkBatch_any x B V (hr.below (bz.mono hB)) (by omega) hf
  rw [hu] at C1
  have HU := Lib.hid hu; have HZ := Lib.hid hz; have BZ := Lib.hid bz; have HC1 := Lib.hid C1; have HR := Lib.hid hr; have HB := Lib.hid hB; have HVS := Lib.hid hVs
  obtain ⟨R, hR⟩ : ∃ R, putBatch x.bt = R := ⟨_, rfl⟩
  rw [hR]
  have HRR := Lib.hid hR
  clear hu hz bz C1 hr hf hVs hR
  go_enter Try.func28, Try.ntmps28
  go_wp2_with fail
  try unfold bO at hV
  rw [← hV]
  clear hV
  refine (HC1.out).mono ?_
  rintro e w1 ⟨rfl, b1⟩
  have hz1 := (b1.block _ (Array.getElem?_eq_some_iff.1 HZ.out).1).trans HZ.out
  have B1 := Lib.hid b1
  clear hc0 hc1 hc2 b1
  have hc0 := cell_at (i := 0) hz1 rfl
  have hc1 := cell_at (i := 1) hz1 rfl
  have hc2 := cell_at (i := 2) hz1 rfl
  have HZ1 := Lib.hid hz1
  clear hz1
  cases u with
  | false =>
    go_wp2
    go_ret2
    rw [← HRR.out, putBatch_no HU.out]
    exact ⟨rfl, next BZ.out B1.out⟩
  | true =>
    have hps := btS_of HU.out
    have hle := bt_len HU.out
    obtain ⟨P, hP⟩ : ∃ P, bE x.bt = P := ⟨_, rfl⟩
    have hb1 := next BZ.out B1.out
    have N := putBatch_any w1.heap.size (.slice none 0 0) [] x.AM x.AN x.AD x.M.length x.cM x.N.length x.cN x.D.length x.cD B x.M x.N x.D w1 (own_nilY _ _) (Nat.le_refl _) (by have h := HR.out.below (hb1.mono HB.out); exact ⟨h.muts, h.notes, h.drops⟩) (by have := hb1.size; have := HB.out; omega) ⟨hps.muts, hps.notes, hps.drops⟩ ⟨hps.lm, hps.ln, hps.ld⟩ (by rw [List.nil_append]; show (bE x.bt).length ≤ _; omega)
    rw [List.nil_append] at N
    have e : bE ⟨muts x.M, x.N, x.D⟩ = P := hP
    rw [e] at N
    rw [hP] at hle
    have HP : putBatch x.bt = (if 262144 < P.length then .error 2 else .ok P) := by
      unfold putBatch putP
      rw [if_pos HU.out, hP]
    rw [HRR.out] at HP
    have HN := Lib.hid N; have HPP := Lib.hid HP; have HB1 := Lib.hid hb1; have HLE := Lib.hid hle
    clear hps hle HP hP hb1 N e
    go_wp2_with fail
    refine (HN.out).mono ?_
    rintro e w2 ⟨v2, rfl, l2⟩
    have hb2 := l2.base (own_nilY _ _) (Nat.le_refl _)
    obtain ⟨A2, n2, c2, rfl, hl2, g1, g2, g3, ho⟩ := l2.own.slice
    have hn2 : n2 ≤ 30000000 := by have := HLE.out; omega
    have HG : Hid (P.length = n2 ∧ n2 ≤ c2 ∧ c2 ≤ maxLen ∧ (A2 = none → c2 = 0) ∧ w2.ownsRow w.heap.size 5 1 (.slice A2 n2 c2) n2 (Lib.byteCells P) ∧ Below w.heap.size w w2) := Lib.hid ⟨hl2, g1, g2, g3, own_down ho HB1.out.size, next HB1.out hb2⟩
    clear hl2 g1 g2 g3 ho hb2 l2 hc0 hc1 hc2
    by_cases h8 : 262144 < n2
    · have d1 : decide ((262144 : Int) < (n2 : Int)) = true := by simp; omega
      have d2 : decide (262144 < n2) = true := by simp; omega
      have hRe : R = .error 2 := by rw [HPP.out, HG.out.1, if_pos h8]
      subst hRe
      clear h8
      go_wp2
      go_ret2
      exact ⟨rfl, HG.out.2.2.2.2.2⟩
    · have d1 : decide ((262144 : Int) < (n2 : Int)) = false := by simp; omega
      have d2 : decide (262144 < n2) = false := by simp; omega
      have hRe : R = .ok P := by rw [HPP.out, HG.out.1, if_neg h8]
      subst hRe
      clear h8
      go_wp2
      go_ret2
      exact ⟨A2, n2, c2, rfl, HG.out⟩
set_option maxRecDepth 8000 in
set_option maxHeartbeats 600000 in
theorem pack_batch (x : BA) (B : Nat) (w : World) (hr : LiesB w B x) (hB : B ≤ w.heap.size) (hf : BtF x) :
    Calls Try.prog 14 #[bV x] w (GivesP w (putBatch x.bt)) := by
  have bz := (Below.refl w.heap.size w).alloc (Nat.le_refl _) (bO x)
  have hz := heap_alloc_new w (bO x)
  obtain ⟨V, hV⟩ : ∃ V, V = w.alloc (bO x) := ⟨_, rfl⟩
  rw [← hV] at bz hz
  have hVs := bz.size
  have hc0 := cell_at (i := 0) hz rfl
  have hc1 := cell_at (i := 1) hz rfl
  have hc2 := cell_at (i := 2) hz rfl
  have N := put_batch x B V (hr.below (bz.mono hB)) (by omega) hf
  have BZ := Lib.hid bz; have HN := Lib.hid N
  obtain ⟨R, hR⟩ : ∃ R, putBatch x.bt = R := ⟨_, rfl⟩
  rw [hR] at HN ⊢
  clear hz bz hr hf hVs N hR hB
  go_enter Try.func14, Try.ntmps14
  go_wp2_with fail
  try unfold bO at hV
  rw [← hV]
  clear hV
  refine (HN.out).mono ?_
  intro e w1 hg
  cases R with
  | error y =>
    obtain ⟨rfl, b1⟩ := hg
    have B1 := Lib.hid b1
    clear b1
    go_wp2
    go_ret2
    exact ⟨rfl, next BZ.out B1.out⟩
  | ok b =>
    obtain ⟨A2, n2, c2, rfl, h1, h2, h3, h4, h5, h6⟩ := hg
    have HG : Hid (b.length = n2 ∧ n2 ≤ c2 ∧ c2 ≤ maxLen ∧ (A2 = none → c2 = 0) ∧ w1.ownsRow w.heap.size 5 1 (.slice A2 n2 c2) n2 (Lib.byteCells b) ∧ Below w.heap.size w w1) := Lib.hid ⟨h1, h2, h3, h4, own_down h5 BZ.out.size, next BZ.out h6⟩
    clear h1 h2 h3 h4 h5 h6
    go_wp2
    go_ret2
    exact ⟨A2, n2, c2, rfl, HG.out⟩
end Go.Proofs.Ytbfkbfbcaileoaa
set_option linter.unusedVariables false
set_option linter.unusedSimpArgs false
namespace Go.Proofs.Ytbfkbfbcaileoaa
open Go Go.RowKit

theorem lies_nil (w : World) (B : Nat) : Lies w B none 0 0 [] := ⟨RdR.nil _ _ _, fun x hx => (by cases hx), Nat.le_refl _⟩
def bt0 : BA := ⟨none, 0, [], none, 0, [], none, 0, []⟩
theorem bt0_lies (w : World) (B : Nat) : LiesB w B bt0 := ⟨⟨⟨rfl, fun h => absurd h (by simp [bt0])⟩, fun x hx => (by cases hx), Nat.le_refl _⟩, ⟨rfl, fun h => absurd h (by simp [bt0])⟩, ⟨rfl, fun h => absurd h (by simp [bt0])⟩, Nat.le_refl _, Nat.le_refl _⟩
theorem bt0_few : BtF bt0 := ⟨fun y hy => (by cases hy), fun y hy => (by cases hy), by simp [bt0], by simp [bt0], by simp [bt0]⟩
theorem put_a : putPart ⟨⟨#[97]⟩, 0, ros []⟩ = .ok [1, 1, 97, 0, 0] := by kernel_rfl
theorem bt0_ok : bt0.bt.ok = true := by rfl
set_option maxHeartbeats 1000000 in
theorem awake9_any (w : World) : Calls Try.prog 9 #[] w fun x w' => x = .returned (.bool true) ∧ Below w.heap.size w w' := by
  have N := pack_part ⟨#[97]⟩ 0 none 0 0 0 [] w (lies_nil _ _) (Nat.zero_le _) (by omega) (fun x hx => by cases hx)
  rw [put_a] at N
  have HN := Lib.hid N
  clear N
  go_enter Try.func9, Try.ntmps9
  go_wp2_with fail
  refine (HN.out).mono ?_
  rintro e w1 ⟨A, n, c, rfl, h1, h2, h3, h4, h5, h6⟩
  obtain ⟨_, _, e, _, _, _, hrd⟩ := Rd.of_own h5
  injection e with e1 e2 e3
  subst e1; subst e3
  have hcv := cv_string hrd c
  have B1 := Lib.hid h6
  clear h1 h2 h3 h4 h5 h6 hrd
  have hcv : (convert 33 9 (.slice A n c)).run Try.prog w1 = .ok (.string ⟨#[1, 1, 97, 0, 0]⟩) w1 := hcv
  go_wp2_with fail
  refine (checkBatch_any bt0 0 w1 (bt0_lies _ _) (Nat.zero_le _) bt0_few).mono ?_
  rintro e w2 ⟨rfl, b2⟩
  rw [bt0_ok]
  have B2 := Lib.hid (next B1.out b2)
  clear b2 hcv
  go_wp2
  go_ret
  exact ⟨rfl, B2.out⟩
end Go.Proofs.Ytbfkbfbcaileoaa
set_option linter.unusedVariables false
set_option linter.unusedSimpArgs false
namespace Go.Proofs.Ytbfkbfbcaileoaa
open Go Go.RowKit

abbrev zRow (l : List Int) : List Value := l.map (Value.int .i64)
theorem cell_of_block {w w' : World} {g : Nat} (h : w'.heap[g]? = w.heap[g]?) (i : Nat) : w'.cell? ⟨g, i, none⟩ = w.cell? ⟨g, i, none⟩ := by
  unfold World.cell?
  rw [h]
theorem RdM.moved {w w' : World} {B n g o : Nat} {l : List MA} (h : RdM w B (some ⟨g, o, none⟩) n l) (hk : w'.heap[g]? = w.heap[g]?) : RdM w' B (some ⟨g, o, none⟩) n l :=
  ⟨h.1, fun hn => by
    obtain ⟨g', o', e, hg, hc⟩ := h.2 hn
    injection e with e
    injection e with e1 e2 _
    subst e1; subst e2
    exact ⟨g, o, rfl, hg, fun j hj i u hu => (cell_of_block hk _).trans (hc j hj i u hu)⟩⟩
theorem RdN.moved {w w' : World} {B n g o : Nat} {l : List NA} (h : RdN w B (some ⟨g, o, none⟩) n l) (hk : w'.heap[g]? = w.heap[g]?) : RdN w' B (some ⟨g, o, none⟩) n l :=
  ⟨h.1, fun hn => by
    obtain ⟨g', o', e, hg, hc⟩ := h.2 hn
    injection e with e
    injection e with e1 e2 _
    subst e1; subst e2
    exact ⟨g, o, rfl, hg, fun j hj i u hu => (cell_of_block hk _).trans (hc j hj i u hu)⟩⟩
theorem RdZ.moved {w w' : World} {B n g o : Nat} {l : List Int} (h : RdZ w B (some ⟨g, o, none⟩) n l) (hk : w'.heap[g]? = w.heap[g]?) : RdZ w' B (some ⟨g, o, none⟩) n l :=
  ⟨h.1, fun hn => by
    obtain ⟨g', o', e, hg, hc⟩ := h.2 hn
    injection e with e
    injection e with e1 e2 _
    subst e1; subst e2
    exact ⟨g, o, rfl, hg, fun j hj => (cell_of_block hk _).trans (hc j hj)⟩⟩
theorem RdZ.ofOwn {w : World} {base n : Nat} {A : Option Addr} {c : Nat} {l : List Int} (h : w.ownsRow base 3 1 (.slice A n c) n (zRow l)) : RdZ w w.heap.size A n l := by
  have hl : l.length = n := by have := h.1; rw [List.length_map] at this; omega
  rcases h.2 with ⟨e, rfl⟩ | ⟨g, cap, cur, e, hb, hh, hn, hm, hs, ht⟩
  · exact ⟨hl, fun h => absurd h (by omega)⟩
  · injection e with e1 e2 e3
    subst e1
    refine ⟨hl, fun _ => ⟨g, 0, rfl, (Array.getElem?_eq_some_iff.1 hh).1, fun j hj => ?_⟩⟩
    have := h.cells (g := g) rfl j (.int .i64 l[j]) (by simp [zRow, hj])
    rw [Addr.add_lit] at this
    exact this
theorem RdZ.lay1 (w : World) (x : Int) : RdZ (w.alloc (.cells #[.int .i64 x] 3)) (w.heap.size + 1) (some ⟨w.heap.size, 0, none⟩) 1 [x] := by
  refine ⟨rfl, fun _ => ⟨_, 0, rfl, by omega, fun j hj => ?_⟩⟩
  have : j = 0 := by simpa using hj
  subst this
  exact cell_at (i := 0) (heap_alloc_new w _) rfl
theorem RdZ.up {w : World} {B B' n : Nat} {A : Option Addr} {l : List Int} (h : RdZ w B A n l) (hB : B ≤ B') : RdZ w B' A n l :=
  ⟨h.1, fun hn => by
    obtain ⟨g, o, e, hg, hc⟩ := h.2 hn
    exact ⟨g, o, e, by omega, hc⟩⟩
theorem zRow_set (l : List Int) (j : Nat) (x : Int) : (zRow l).set j (.int .i64 x) = zRow (l.set j x) := by
  unfold zRow
  rw [List.map_set]
theorem nRow_set : ∀ (l : List NA) (j : Nat) (x : Int) (hj : j < l.length), (nRow l).set (j * 2) (.int .i64 x) = nRow (l.set j (x, (l[j]).2))
  | [], j, x, hj => by cases hj
  | c :: l, 0, x, hj => by
    simp only [nRow, List.flatMap_cons, ncs, Nat.zero_mul, List.set_cons_zero, List.cons_append, List.getElem_cons_zero]
  | c :: l, j + 1, x, hj => by
    have ih := nRow_set l j x (by simpa using hj)
    simp only [nRow, List.flatMap_cons, ncs, List.set_cons_succ, List.cons_append, List.nil_append, List.getElem_cons_succ] at ih ⊢
    rw [show (j + 1) * 2 = j * 2 + 1 + 1 by omega, List.set_cons_succ, List.set_cons_succ, ih]
theorem madeN (n : Nat) : (madeCells #[.int .i64 0, .string ⟨#[]⟩] (n * 2)).toList = nRow (List.replicate n ((0 : Int), (⟨#[]⟩ : ByteArray))) := by
  apply List.ext_getElem?
  intro i
  by_cases hi : i < n * 2
  · have h := nRow_at (List.replicate n ((0 : Int), (⟨#[]⟩ : ByteArray))) (i / 2) (i % 2) (by simp; omega) (by omega)
    rw [show i / 2 * 2 + i % 2 = i by omega] at h
    rw [h, List.getElem_replicate]
    unfold madeCells
    rw [Array.getElem?_toList, Array.getElem?_map, Array.getElem?_range, if_pos hi]
    simp only [Option.map_some]
    have hm : i % 2 < 2 := by omega
    show some (#[Value.int .i64 0, .string ⟨#[]⟩][i % 2]!) = (ncs ((0 : Int), (⟨#[]⟩ : ByteArray)))[i % 2]?
    generalize i % 2 = r at hm
    match r, hm with
    | 0, _ => rfl
    | 1, _ => rfl
  · rw [List.getElem?_eq_none (by rw [Array.length_toList, size_madeCells]; omega), List.getElem?_eq_none (by rw [nRow_length, List.length_replicate]; omega)]
theorem run_makeN (w : World) (n : Nat) (hn : n ≤ 1000000) :
    (Instr.makeSlice 26 (.int .i64 (n : Nat)) (.int .i64 (n : Nat))).run Try.prog w = .ok (.slice (some ⟨w.heap.size, 0, none⟩) n n) (w.alloc (.cells (madeCells #[.int .i64 0, .string ⟨#[]⟩] (n * 2)) 51)) := by
  obtain ⟨i, hi, hz0, hz1, hz2⟩ := info_parts infoN
  have h := run_make (P := Try.prog) w 26 51 i _ Try.underlying26 hi hz0 .i64 .i64 (n : Int) (n : Int) (by omega) (by omega) (by rw [hz2]; omega) (by omega)
  rw [hz1, Int.toNat_natCast] at h
  exact h
theorem own_madeN (w : World) (n : Nat) (hn : n ≤ 1000000) : (w.alloc (.cells (madeCells #[.int .i64 0, .string ⟨#[]⟩] (n * 2)) 51)).ownsRow w.heap.size 51 2 (.slice (some ⟨w.heap.size, 0, none⟩) n n) n (nRow (List.replicate n ((0 : Int), (⟨#[]⟩ : ByteArray)))) := by
  refine ⟨by rw [nRow_length, List.length_replicate], Or.inr ⟨w.heap.size, n, _, rfl, Nat.le_refl _, heap_alloc_new w _, Nat.le_refl _, by unfold maxLen; omega, size_madeCells _ _, ?_⟩⟩
  rw [List.take_of_length_le (by rw [Array.length_toList, size_madeCells]; exact Nat.le_refl _), madeN]
theorem infoZi : (Try.prog.info? 3).map (fun i => (i.zero, i.size, i.bytes)) = some (some (.int .i64 0), 1, 8) := by kernel_rfl
theorem run_makeZ (w : World) (n : Nat) (hn : n ≤ 1000000) :
    (Instr.makeSlice 27 (.int .i64 (n : Nat)) (.int .i64 (n : Nat))).run Try.prog w = .ok (.slice (some ⟨w.heap.size, 0, none⟩) n n) (w.alloc (.cells (madeCells (Value.int .i64 0).cells (n * 1)) 3)) := by
  obtain ⟨i, hi, hz0, hz1, hz2⟩ := info_parts infoZi
  have h := run_make (P := Try.prog) w 27 3 i _ Try.underlying27 hi hz0 .i64 .i64 (n : Int) (n : Int) (by omega) (by omega) (by rw [hz2]; omega) (by omega)
  rw [hz1, Int.toNat_natCast] at h
  exact h
theorem own_madeZ (w : World) (n : Nat) (hn : n ≤ 1000000) : (w.alloc (.cells (madeCells (Value.int .i64 0).cells (n * 1)) 3)).ownsRow w.heap.size 3 1 (.slice (some ⟨w.heap.size, 0, none⟩) n n) n (zRow (List.replicate n 0)) := by
  refine ⟨by rw [List.length_map, List.length_replicate]; omega, Or.inr ⟨w.heap.size, n, _, rfl, Nat.le_refl _, heap_alloc_new w _, Nat.le_refl _, by unfold maxLen; omega, size_madeCells _ _, ?_⟩⟩
  rw [List.take_of_length_le (by rw [Array.length_toList, size_madeCells]; exact Nat.le_refl _)]
  have e : (Value.int .i64 0).cells = #[Value.int .i64 0] := rfl
  rw [e, Nat.mul_one, toList_madeCells_one]
  unfold zRow
  rw [List.map_replicate]
end Go.Proofs.Ytbfkbfbcaileoaa
set_option linter.unusedVariables false
set_option linter.unusedSimpArgs false
namespace Go.Proofs.Ytbfkbfbcaileoaa
open Go Go.RowKit

/-- The numbers left, at block q. -/
def LAt (w : World) (q : Nat) (A : Option Addr) (n c : Nat) : Prop := w.heap[q]? = some (.cells #[.slice A n c] 81 (0, 0))
theorem RdZ.cut {w : World} {B n c : Nat} {A : Option Addr} {l : List Int} (h : RdZ w B A n l) {k : Nat} (hk : k ≤ n) (hn : n ≤ c) : RdZ w B (if c = k then A else A.map (·.add k)) (n - k) (l.drop k) := by
  refine ⟨by rw [List.length_drop, h.1], fun h0 => ?_⟩
  obtain ⟨g, o, rfl, hb, hc⟩ := h.2 (by omega)
  rw [if_neg (by omega)]
  refine ⟨g, o + k, by rw [Option.map_some, Addr.add_lit], hb, fun j hj => ?_⟩
  rw [List.length_drop] at hj
  rw [Nat.add_assoc, hc (k + j) (by omega), List.getElem_drop]
theorem infoZ : (Try.prog.info? 3).map (fun i => (i.zero, i.size, i.bytes)) = some (some (.int .i64 0), 1, 8) := by kernel_rfl
theorem elemZ : Try.prog.elem 27 = 3 := by kernel_rfl
theorem slZ_l {w : World} {B n : Nat} {A : Option Addr} {l : List Int} (h : RdZ w B A n l) {c : Nat} (hn : n ≤ c) (x : Int) (lo : Nat) (ex : x = (lo : Nat)) (h1 : lo ≤ n) :
    ∃ A', (∀ wx : World, (Instr.slice 27 (.slice A n c) (some (.int .i64 x)) none none).run Try.prog wx = .ok (.slice A' (n - lo) (c - lo)) wx) ∧ RdZ w B A' (n - lo) (l.drop lo) := by
  refine ⟨if c = lo then A else A.map (·.add lo), fun wx => ?_, h.cut h1 hn⟩
  obtain ⟨i, hi', hz0, hz1, hz2⟩ := info_parts infoZ
  subst ex
  rw [run_slice_l (P := Try.prog) (t := 27) (ht := by rw [elemZ]; exact Try.underlying27) (h0 := by omega) (h1 := by omega), elemZ]
  simp [sizeOf, typeInfo, hi', hz1, sliced, Result.andThen]

set_option maxHeartbeats 2000000 in
theorem next_num (q n c B : Nat) (A : Option Addr) (x k : Int) (l : List Int) (w : World) (h : LAt w q A n c) (hr : RdZ w B A n (x :: l)) (hnc : n ≤ c) (hc : c ≤ maxLen) (hk1 : 1 ≤ k) (hk2 : k ≤ 4611686018427387904) (hx : -9223372036854775808 ≤ x ∧ x ≤ 9223372036854775807) :
    Calls Try.prog 64 #[.pointer (some ⟨q, 0, none⟩), .int .i64 k] w fun e w' => e = .returned (.int .i64 (x % k)) ∧ ∃ A', w' = w.setCell ⟨q, 0, none⟩ (.slice A' (n - 1) (c - 1)) ∧ RdZ w B A' (n - 1) l := by
  have hn : 0 < n := by have := hr.1; simp at this; omega
  obtain ⟨A', hsl, hr'⟩ := slZ_l hr hnc 1 1 rfl hn
  rw [List.drop_one, List.tail_cons] at hr'
  obtain ⟨g, o, rfl, _, hcl⟩ := hr.2 hn
  have c0 := hcl 0 (by simp)
  rw [Nat.add_zero, List.getElem_cons_zero] at c0
  have b0 : w.cell? ⟨q, 0, none⟩ = some (.slice (some ⟨g, o, none⟩) n c) := cell_at h rfl
  have f0 : w.frozen? ⟨q, 0, none⟩ = false := thawed_at h
  have n0 : ((n : Int) == 0) = false := by simp; omega
  have n1 : (0 : Int) < n := by omega
  have HR := Lib.hid hr'
  have HX := Lib.hid hx
  clear hr hr' hcl h hx
  go_enter Try.func64, Try.ntmps64
  go_wp2_with fail
  refine (place_any x k _ hk1 hk2 HX.out).mono ?_
  rintro e w1 ⟨rfl, rfl⟩
  go_wp2
  go_ret
  exact ⟨rfl, A', rfl, HR.out⟩
end Go.Proofs.Ytbfkbfbcaileoaa
set_option linter.unusedVariables false
set_option linter.unusedSimpArgs false
namespace Go.Proofs.Ytbfkbfbcaileoaa
open Go Go.RowKit Go.Joins

theorem at_new {W : World} {r : Nat} {cs : Array Value} {t : TypeId} (h : W.heap[r]? = some (.cells cs t (0, 0))) (o : Obj) : (W.alloc o).heap[r]? = some (.cells cs t (0, 0)) :=
  (((Below.refl W.heap.size W).alloc (Nat.le_refl _) o).block r (Array.getElem?_eq_some_iff.1 h).1).trans h

theorem nx_end {w w1 w5 : World} {q n c n' c' B : Nat} {A A' : Option Addr} {l : List Int} {Z : Obj} (hq : q < w.heap.size) (hB : B ≤ q) (h1 : LAt (w.alloc Z) q A n c) (hw1 : w1 = (w.alloc Z).setCell ⟨q, 0, none⟩ (.slice A' n' c')) (hr : RdZ (w.alloc Z) B A' n' l)
    (hk : Kept (fun k => k = w.heap.size) w1 w5) : LAt w5 q A' n' c' ∧ RdZ w5 B A' n' l ∧ Kept (fun k => k = q) w w5 := by
  have hl : LAt w1 q A' n' c' := by rw [hw1]; exact block_setCell (i := 0) h1 _
  have k1 : Kept (fun k => k = q) (w.alloc Z) w1 := by rw [hw1]; exact Kept.setCell _ _ _ _ rfl
  have hs1 : w1.heap.size = w.heap.size + 1 := by rw [hw1]; simp [World.setCell]
  refine ⟨(hk.block q (by omega) (by omega)).trans hl, (hr.below (k1.below (fun k hk => by omega) (by simp; omega))).below (hk.below (fun k hk => by omega) (by omega)), ?_⟩
  exact ((Kept.alloc _ w Z).trans k1 fun k hk => Or.inl hk).trans hk fun k hk => Or.inr (by omega)
theorem kept4 (w : World) (r : Nat) (v0 v1 v2 v3 : Value) (o : Obj) : Kept (fun k => k = r) w (((((w.setCell ⟨r, 0, none⟩ v0).setCell ⟨r, 1, none⟩ v1).setCell ⟨r, 2, none⟩ v2).setCell ⟨r, 3, none⟩ v3).alloc o) :=
  ((((Kept.setCell (fun k => k = r) w ⟨r, 0, none⟩ v0 rfl).trans (Kept.setCell (fun k => k = r) _ ⟨r, 1, none⟩ v1 rfl) fun _ h => Or.inl h).trans (Kept.setCell (fun k => k = r) _ ⟨r, 2, none⟩ v2 rfl) fun _ h => Or.inl h).trans (Kept.setCell (fun k => k = r) _ ⟨r, 3, none⟩ v3 rfl) fun _ h => Or.inl h).trans (Kept.alloc (fun k => k = r) _ o) fun _ h => Or.inl h

set_option maxHeartbeats 4000000 in
theorem cell_dead (q n c B : Nat) (A : Option Addr) (x v m a p : Int) (l : List Int) (w : World) (h : LAt w q A n c) (hr : RdZ w B A n (x :: l)) (hnc : n ≤ c) (hc : c ≤ maxLen) (hBq : B ≤ q) (hx : -9223372036854775808 ≤ x ∧ x ≤ 9223372036854775807)
    (hv : x % 1048576 = v) (v0 : 0 ≤ v) (v1 : v < 1048576) (ha : v.tmod 7 = a) (a0 : 0 ≤ a) (a1 : a < 7) (hp : v.tdiv 7 = p) (hm : p.tmod 4 = m) (hm0 : m = 0) (p0 : 0 ≤ p) (p1 : p < 1048576) :
    Calls Try.prog 83 #[.pointer (some ⟨q, 0, none⟩)] w fun e w' => e = .returned (.agg #[.string ⟨#[]⟩, .bool true, .int .i64 (1 + a), .int .i64 0]) ∧ ∃ A', LAt w' q A' (n - 1) (c - 1) ∧ RdZ w' B A' (n - 1) l ∧ Kept (fun k => k = q) w w' := by
  have hq : q < w.heap.size := (Array.getElem?_eq_some_iff.1 h).1
  subst hm0
  have h1 : LAt (w.alloc (.cells #[.string ⟨#[]⟩, .bool false, .int .i64 0, .int .i64 0] 58)) q A n c := by unfold LAt; rw [((Below.refl w.heap.size w).alloc (Nat.le_refl _) _).block q hq]; exact h
  have hr1 : RdZ (w.alloc (.cells #[.string ⟨#[]⟩, .bool false, .int .i64 0, .int .i64 0] 58)) B A n (x :: l) := hr.below ((Below.refl B w).alloc (by omega) _)
  have hz := heap_alloc_new w (.cells #[.string ⟨#[]⟩, .bool false, .int .i64 0, .int .i64 0] 58)
  have wp : wrap64 p = p := by unfold wrap64; omega
  have wr : IntKind.i64.wrap (1 + a) = 1 + a := by rw [IntKind.wrap_i64]; omega
  have HX := Lib.hid hx; have H1 := Lib.hid h1; have HR1 := Lib.hid hr1; have HV := Lib.hid hv; have HZ := Lib.hid hz
  clear h hr h1 hr1 hx hv hz
  go_enter Try.func83, Try.ntmps83
  go_wp2_with fail
  refine (next_num q n c B A x 1048576 l _ H1.out HR1.out hnc hc (by omega) (by omega) HX.out).mono ?_
  rintro e w1 ⟨rfl, A', hw1, hr2⟩
  rw [HV.out]
  have hs1 : w1.heap.size = w.heap.size + 1 := by rw [hw1]; simp [World.setCell]
  have hkz : w1.heap[w.heap.size]? = some (.cells #[.string ⟨#[]⟩, .bool false, .int .i64 0, .int .i64 0] 58) := by rw [hw1, Below.heap_setCell _ _ _ _ (show w.heap.size ≠ (⟨q, 0, none⟩ : Addr).block from by show w.heap.size ≠ q; omega)]; exact HZ.out
  have HK := Lib.hid hkz
  have HW := Lib.hid hw1
  have HR2 := Lib.hid hr2
  have m0 := block_setCell (i := 0) hkz (.string ⟨#[]⟩)
  have m1 := block_setCell (i := 1) m0 (.bool true)
  have m2 := block_setCell (i := 2) m1 (.int .i64 (1 + a))
  have m3 := block_setCell (i := 3) m2 (.int .i64 0)
  have M3 := Lib.hid m3
  have k0 := fun o => cell_at (i := 0) (at_new hkz o) rfl
  have k1 := fun o => cell_at (i := 1) (at_new m0 o) rfl
  have k2 := fun o => cell_at (i := 2) (at_new m1 o) rfl
  have k3 := fun o => cell_at (i := 3) (at_new m2 o) rfl
  have f0 := fun o => thawed_at (i := 0) (at_new hkz o)
  have f1 := fun o => thawed_at (i := 1) (at_new m0 o)
  have f2 := fun o => thawed_at (i := 2) (at_new m1 o)
  have f3 := fun o => thawed_at (i := 3) (at_new m2 o)
  clear m0 m1 m2 m3
  clear hkz hw1 hr2
  go_wp2
  refine bodyPost_ret (v := .agg #[.string ⟨#[]⟩, .bool true, .int .i64 (1 + a), .int .i64 0]) (by simp [results, Try.results83, go_sem, cell_at (i := 0) (at_new M3.out _) rfl, cell_at (i := 1) (at_new M3.out _) rfl, cell_at (i := 2) (at_new M3.out _) rfl, cell_at (i := 3) (at_new M3.out _) rfl]) rfl ⟨rfl, A', ?_⟩
  exact nx_end hq hBq H1.out HW.out HR2.out (kept4 _ _ _ _ _ _ _)
set_option maxHeartbeats 4000000 in
theorem cell_alive (q n c B : Nat) (A : Option Addr) (x v m a p y i z e u : Int) (s : ByteArray) (l : List Int) (w : World) (h : LAt w q A n c) (hr : RdZ w B A n (x :: l)) (hnc : n ≤ c) (hc : c ≤ maxLen) (hBq : B ≤ q) (hx : -9223372036854775808 ≤ x ∧ x ≤ 9223372036854775807)
    (hv : x % 1048576 = v) (v0 : 0 ≤ v) (v1 : v < 1048576) (ha : v.tmod 7 = a) (a0 : 0 ≤ a) (a1 : a < 7) (hp : v.tdiv 7 = p) (hm : p.tmod 4 = m) (hm0 : (m == 0) = false) (p0 : 0 ≤ p) (p1 : p < 1048576) (hy : v.tdiv 28 = y) (y0 : 0 ≤ y) (y1 : y < 1048576) (hi : y.tmod 3 = i) (i0 : 0 ≤ i) (i1 : i < 3) (hz : v.tdiv 84 = z) (z0 : 0 ≤ z) (z1 : z < 1048576) (he : z.tmod 4 = e) (hu : v.tdiv 336 = u) (u0 : 0 ≤ u) (u1 : u < 1048576) (b f : Int) (hb : u.tmod 10 = b) (b0 : 0 ≤ b) (b1 : b < 10) (heb : ∃ t, (e == 0) = t ∧ f = if t = true then 1 + b else 0)
    (hs : ∀ wx : World, (Instr.slice 9 (.string ⟨#[120, 121, 122]⟩) (some (.int .i64 i)) (some (.int .i64 (i + 1))) none).run Try.prog wx = .ok (.string s) wx) :
    Calls Try.prog 83 #[.pointer (some ⟨q, 0, none⟩)] w fun e w' => e = .returned (.agg #[.string s, .bool false, .int .i64 (1 + a), .int .i64 f]) ∧ ∃ A', LAt w' q A' (n - 1) (c - 1) ∧ RdZ w' B A' (n - 1) l ∧ Kept (fun k => k = q) w w' := by
  have hq : q < w.heap.size := (Array.getElem?_eq_some_iff.1 h).1
  obtain ⟨t, het, hf⟩ := heb
  have wy : wrap64 y = y := by unfold wrap64; omega
  have wz : wrap64 z = z := by unfold wrap64; omega
  have wu : wrap64 u = u := by unfold wrap64; omega
  have wi : IntKind.i64.wrap (i + 1) = i + 1 := by rw [IntKind.wrap_i64]; omega
  have wb : IntKind.i64.wrap (1 + b) = 1 + b := by rw [IntKind.wrap_i64]; omega
  have h1 : LAt (w.alloc (.cells #[.string ⟨#[]⟩, .bool false, .int .i64 0, .int .i64 0] 58)) q A n c := by unfold LAt; rw [((Below.refl w.heap.size w).alloc (Nat.le_refl _) _).block q hq]; exact h
  have hr1 : RdZ (w.alloc (.cells #[.string ⟨#[]⟩, .bool false, .int .i64 0, .int .i64 0] 58)) B A n (x :: l) := hr.below ((Below.refl B w).alloc (by omega) _)
  have hz := heap_alloc_new w (.cells #[.string ⟨#[]⟩, .bool false, .int .i64 0, .int .i64 0] 58)
  have wp : wrap64 p = p := by unfold wrap64; omega
  have wr : IntKind.i64.wrap (1 + a) = 1 + a := by rw [IntKind.wrap_i64]; omega
  have HX := Lib.hid hx; have H1 := Lib.hid h1; have HR1 := Lib.hid hr1; have HV := Lib.hid hv; have HZ := Lib.hid hz
  clear h hr h1 hr1 hx hv hz
  cases t
  · rw [if_neg (by decide)] at hf
    subst hf
    go_enter Try.func83, Try.ntmps83
    go_wp2_with fail
    refine (next_num q n c B A x 1048576 l _ H1.out HR1.out hnc hc (by omega) (by omega) HX.out).mono ?_
    rintro e w1 ⟨rfl, A', hw1, hr2⟩
    rw [HV.out]
    have hs1 : w1.heap.size = w.heap.size + 1 := by rw [hw1]; simp [World.setCell]
    have hkz : w1.heap[w.heap.size]? = some (.cells #[.string ⟨#[]⟩, .bool false, .int .i64 0, .int .i64 0] 58) := by rw [hw1, Below.heap_setCell _ _ _ _ (show w.heap.size ≠ (⟨q, 0, none⟩ : Addr).block from by show w.heap.size ≠ q; omega)]; exact HZ.out
    have HK := Lib.hid hkz
    have HW := Lib.hid hw1
    have HR2 := Lib.hid hr2
    have m0 := block_setCell (i := 0) hkz (.string s)
    have m1 := block_setCell (i := 1) m0 (.bool false)
    have m2 := block_setCell (i := 2) m1 (.int .i64 (1 + a))
    have m3 := block_setCell (i := 3) m2 (.int .i64 0)
    have M3 := Lib.hid m3
    have k0 := fun o => cell_at (i := 0) (at_new hkz o) rfl
    have k1 := fun o => cell_at (i := 1) (at_new m0 o) rfl
    have k2 := fun o => cell_at (i := 2) (at_new m1 o) rfl
    have k3 := fun o => cell_at (i := 3) (at_new m2 o) rfl
    have f0 := fun o => thawed_at (i := 0) (at_new hkz o)
    have f1 := fun o => thawed_at (i := 1) (at_new m0 o)
    have f2 := fun o => thawed_at (i := 2) (at_new m1 o)
    have f3 := fun o => thawed_at (i := 3) (at_new m2 o)
    clear m0 m1 m2 m3
    clear hkz hw1 hr2
    go_wp2
    refine bodyPost_ret (v := .agg #[.string s, .bool false, .int .i64 (1 + a), .int .i64 0]) (by simp [results, Try.results83, go_sem, cell_at (i := 0) (at_new M3.out _) rfl, cell_at (i := 1) (at_new M3.out _) rfl, cell_at (i := 2) (at_new M3.out _) rfl, cell_at (i := 3) (at_new M3.out _) rfl]) rfl ⟨rfl, A', ?_⟩
    exact nx_end hq hBq H1.out HW.out HR2.out (kept4 _ _ _ _ _ _ _)
  · rw [if_pos rfl] at hf
    subst hf
    go_enter Try.func83, Try.ntmps83
    go_wp2_with fail
    refine (next_num q n c B A x 1048576 l _ H1.out HR1.out hnc hc (by omega) (by omega) HX.out).mono ?_
    rintro e w1 ⟨rfl, A', hw1, hr2⟩
    rw [HV.out]
    have hs1 : w1.heap.size = w.heap.size + 1 := by rw [hw1]; simp [World.setCell]
    have hkz : w1.heap[w.heap.size]? = some (.cells #[.string ⟨#[]⟩, .bool false, .int .i64 0, .int .i64 0] 58) := by rw [hw1, Below.heap_setCell _ _ _ _ (show w.heap.size ≠ (⟨q, 0, none⟩ : Addr).block from by show w.heap.size ≠ q; omega)]; exact HZ.out
    have HK := Lib.hid hkz
    have HW := Lib.hid hw1
    have HR2 := Lib.hid hr2
    have m0 := block_setCell (i := 0) hkz (.string s)
    have m1 := block_setCell (i := 1) m0 (.bool false)
    have m2 := block_setCell (i := 2) m1 (.int .i64 (1 + a))
    have m3 := block_setCell (i := 3) m2 (.int .i64 (1 + b))
    have M3 := Lib.hid m3
    have k0 := fun o => cell_at (i := 0) (at_new hkz o) rfl
    have k1 := fun o => cell_at (i := 1) (at_new m0 o) rfl
    have k2 := fun o => cell_at (i := 2) (at_new m1 o) rfl
    have k3 := fun o => cell_at (i := 3) (at_new m2 o) rfl
    have f0 := fun o => thawed_at (i := 0) (at_new hkz o)
    have f1 := fun o => thawed_at (i := 1) (at_new m0 o)
    have f2 := fun o => thawed_at (i := 2) (at_new m1 o)
    have f3 := fun o => thawed_at (i := 3) (at_new m2 o)
    clear m0 m1 m2 m3
    clear hkz hw1 hr2
    go_wp2
    refine bodyPost_ret (v := .agg #[.string s, .bool false, .int .i64 (1 + a), .int .i64 (1 + b)]) (by simp [results, Try.results83, go_sem, cell_at (i := 0) (at_new M3.out _) rfl, cell_at (i := 1) (at_new M3.out _) rfl, cell_at (i := 2) (at_new M3.out _) rfl, cell_at (i := 3) (at_new M3.out _) rfl]) rfl ⟨rfl, A', ?_⟩
    exact nx_end hq hBq H1.out HW.out HR2.out (kept4 _ _ _ _ _ _ _)
end Go.Proofs.Ytbfkbfbcaileoaa
set_option linter.unusedVariables false
set_option linter.unusedSimpArgs false
namespace Go.Proofs.Ytbfkbfbcaileoaa
open Go Go.RowKit Go.Joins

abbrev mO (tb k : ByteArray) (g : Int) : Obj := .cells #[.string tb, .string k, .int .i64 g, .slice none 0 0] 49
def mA (tb k : ByteArray) (g : Int) : MA := ⟨tb, ⟨k, g, [], none, 0⟩⟩
/-- What the law made, but for the batch's own block. -/
structure RS (w W : World) : Prop where
  mu0 : W.heap[w.heap.size]? = some (mO ⟨#[116]⟩ ⟨#[97]⟩ 0)
  muts : LiesM W (w.heap.size + 4) (some ⟨w.heap.size + 1, 0, none⟩) 1 1 [mA ⟨#[116]⟩ ⟨#[97]⟩ 0]
  notes : RdN W (w.heap.size + 4) (some ⟨w.heap.size + 1 + 1, 0, none⟩) 1 [(1, ⟨#[120]⟩)]
  drops : RdZ W (w.heap.size + 4) (some ⟨w.heap.size + 1 + 1 + 1, 0, none⟩) 1 [2]
  below : Below w.heap.size w W
  size : w.heap.size + 5 ≤ W.heap.size
theorem RS.on {w W W' : World} (h : RS w W) (hb : Below (w.heap.size + 4) W W') : RS w W' :=
  ⟨(hb.block _ (by omega)).trans h.mu0, h.muts.below hb, h.notes.below hb, h.drops.below hb, h.below.trans (hb.mono (by omega)), Nat.le_trans h.size hb.size⟩
theorem own_neM {w : World} {b n size : Nat} {e e' : TypeId} {v : Value} {xs : List Value} {r : Nat} {cs : Array Value} (h : w.ownsRow b e size v n xs) (hr : w.heap[r]? = some (.cells cs e' (0, 0))) (he : e ≠ e') : ∀ g, v.ownBlock = some g → g ≠ r := fun g hg hgr => by
  subst hgr
  obtain ⟨cs', h1⟩ := own_tag h g hg
  rw [h1] at hr
  injection hr with hr
  injection hr with _ h2
  exact he h2
def bad (w wx : World) (q : Nat) : Prop := ∃ (x : BA) (B : Nat), wx.heap[q]? = some (bO x) ∧ LiesB wx B x ∧ B ≤ wx.heap.size ∧ BtF x ∧ x.bt.ok = false ∧ Below w.heap.size w wx
theorem lies_one (w : World) (B : Nat) (A : Option Addr) (tb k : ByteArray) (g : Int) (h : RdM w B A 1 [mA tb k g]) : LiesM w B A 1 1 [mA tb k g] :=
  ⟨h, fun x hx => by rw [List.mem_singleton.1 hx]; exact lies_nil _ _, Nat.le_refl _⟩
theorem muf_one (tb k : ByteArray) (g : Int) (h : tb.size ≤ 1099511627776) : MuF (mA tb k g) := ⟨h, by simp [mA], fun x hx => by cases hx⟩
theorem refuses_start (w W : World) (h : W = ((((w.alloc (mO ⟨#[116]⟩ ⟨#[97]⟩ 0)).alloc (mO ⟨#[116]⟩ ⟨#[97]⟩ 0)).alloc (.cells #[.int .i64 1, .string ⟨#[120]⟩] 51)).alloc (.cells #[.int .i64 2] 3)).alloc (.cells #[.slice (some ⟨w.heap.size + 1, 0, none⟩) 1 1, .slice (some ⟨w.heap.size + 1 + 1, 0, none⟩) 1 1, .slice (some ⟨w.heap.size + 1 + 1 + 1, 0, none⟩) 1 1] 29)) :
    RS w W ∧ W.heap[w.heap.size + 1 + 1 + 1 + 1]? = some (.cells #[.slice (some ⟨w.heap.size + 1, 0, none⟩) 1 1, .slice (some ⟨w.heap.size + 1 + 1, 0, none⟩) 1 1, .slice (some ⟨w.heap.size + 1 + 1 + 1, 0, none⟩) 1 1] 29) := by
  obtain ⟨w1, e1⟩ : ∃ x, x = w.alloc (mO ⟨#[116]⟩ ⟨#[97]⟩ 0) := ⟨_, rfl⟩
  rw [← e1] at h
  obtain ⟨w2, e2⟩ : ∃ x, x = w1.alloc (mO ⟨#[116]⟩ ⟨#[97]⟩ 0) := ⟨_, rfl⟩
  rw [← e2] at h
  obtain ⟨w3, e3⟩ : ∃ x, x = w2.alloc (.cells #[.int .i64 1, .string ⟨#[120]⟩] 51) := ⟨_, rfl⟩
  rw [← e3] at h
  obtain ⟨w4, e4⟩ : ∃ x, x = w3.alloc (.cells #[.int .i64 2] 3) := ⟨_, rfl⟩
  rw [← e4] at h
  have s1 : w1.heap.size = w.heap.size + 1 := by rw [e1]; simp
  have s2 : w2.heap.size = w.heap.size + 1 + 1 := by rw [e2, ← s1]; simp
  have s3 : w3.heap.size = w.heap.size + 1 + 1 + 1 := by rw [e3, ← s2]; simp
  have s4 : w4.heap.size = w.heap.size + 1 + 1 + 1 + 1 := by rw [e4, ← s3]; simp
  have s5 : W.heap.size = w.heap.size + 1 + 1 + 1 + 1 + 1 := by rw [h, ← s4]; simp
  have b1 : Below w.heap.size w w1 := by rw [e1]; exact (Below.refl _ _).alloc (Nat.le_refl _) _
  have b2 : Below w1.heap.size w1 w2 := by rw [e2]; exact (Below.refl _ _).alloc (Nat.le_refl _) _
  have b3 : Below w2.heap.size w2 w3 := by rw [e3]; exact (Below.refl _ _).alloc (Nat.le_refl _) _
  have b4 : Below w3.heap.size w3 w4 := by rw [e4]; exact (Below.refl _ _).alloc (Nat.le_refl _) _
  have b5 : Below w4.heap.size w4 W := by rw [h]; exact (Below.refl _ _).alloc (Nat.le_refl _) _
  have c4 := b4.trans (b5.mono b4.size)
  have c3 := b3.trans (c4.mono b3.size)
  have c2 := b2.trans (c3.mono b2.size)
  have z1 := heap_alloc_new w (mO ⟨#[116]⟩ ⟨#[97]⟩ 0)
  rw [← e1] at z1
  have r1 := RdM.laid w1 (mA ⟨#[116]⟩ ⟨#[97]⟩ 0)
  have r1 : RdM w2 (w1.heap.size + 1) (some ⟨w1.heap.size, 0, none⟩) 1 [mA ⟨#[116]⟩ ⟨#[97]⟩ 0] := by rw [e2]; exact r1
  have r2 : RdN w3 (w2.heap.size + 1) (some ⟨w2.heap.size, 0, none⟩) 1 [(1, ⟨#[120]⟩)] := by rw [e3]; exact RdN.laid w2 (1, ⟨#[120]⟩)
  have r3 : RdZ w4 (w3.heap.size + 1) (some ⟨w3.heap.size, 0, none⟩) 1 [2] := by rw [e4]; exact RdZ.lay1 w3 2
  have z5 := heap_alloc_new w4 (.cells #[.slice (some ⟨w.heap.size + 1, 0, none⟩) 1 1, .slice (some ⟨w.heap.size + 1 + 1, 0, none⟩) 1 1, .slice (some ⟨w.heap.size + 1 + 1 + 1, 0, none⟩) 1 1] 29)
  rw [← h, s4] at z5
  rw [s1] at r1
  rw [s2] at r2
  rw [s3] at r3
  refine ⟨⟨?_, lies_one _ _ _ _ _ _ ((r1.below (c3.mono (by omega))).up (by omega)), (r2.below (c4.mono (by omega))).up (by omega), (r3.below (b5.mono (by omega))).up (by omega), b1.trans (c2.mono (by omega)), by omega⟩, z5⟩
  exact (c2.block _ (by omega)).trans z1
def bt1 (a1 a2 a3 : Nat) : BA := ⟨some ⟨a1, 0, none⟩, 1, [mA ⟨#[116]⟩ ⟨#[97]⟩ 0], some ⟨a2, 0, none⟩, 1, [(1, ⟨#[120]⟩)], some ⟨a3, 0, none⟩, 1, [2]⟩
theorem bt1_ok (a1 a2 a3 : Nat) : (bt1 a1 a2 a3).bt.ok = true := by kernel_rfl
theorem bt1_len (a1 a2 a3 : Nat) : ¬ 262144 < (bE (bt1 a1 a2 a3).bt).length := show ¬ 262144 < (bE ⟨[(⟨#[116]⟩, ⟨⟨#[97]⟩, 0, []⟩)], [(1, ⟨#[120]⟩)], [2]⟩).length by decide
theorem bt1_put (a1 a2 a3 : Nat) : ∃ P, putBatch (bt1 a1 a2 a3).bt = .ok P := by
  unfold putBatch putP
  rw [if_pos (bt1_ok _ _ _), if_neg (bt1_len a1 a2 a3)]
  exact ⟨_, rfl⟩
theorem lt_max {n : Nat} (h : n ≤ 100000) : n ≤ maxLen := by unfold maxLen; omega
theorem bt1_few (a1 a2 a3 : Nat) : BtF (bt1 a1 a2 a3) := ⟨fun y hy => by rw [List.mem_singleton.1 hy]; exact muf_one _ _ _ (by decide), fun y hy => by rw [List.mem_singleton.1 hy]; exact lt_max (by decide), by simp [bt1], by simp [bt1], by simp [bt1]⟩
theorem RS.lies {w W : World} (h : RS w W) : LiesB W (w.heap.size + 4) (bt1 (w.heap.size + 1) (w.heap.size + 1 + 1) (w.heap.size + 1 + 1 + 1)) := ⟨h.muts, h.notes, h.drops, Nat.le_refl _, Nat.le_refl _⟩
theorem not_ok {x : BA} (h : (decide (x.M.length ≤ 64) && x.M.all (fun x : MA => mutB (mutOf x))) = false ∨ (decide (x.N.length ≤ 300) && x.N.all addB) = false ∨ (decide (x.D.length ≤ 300) && x.D.all dropB) = false) : x.bt.ok = false := by
  rw [bt_ok]
  rcases h with h | h | h <;> rw [h] <;> simp
theorem mut_gone (k : Int) (h : 1 ≤ k) : mutB (mutOf (mA ⟨#[116]⟩ ⟨#[]⟩ (-k))) = false := by
  unfold mutB mutOf mA Pa.ok
  dsimp only
  rw [show stm (-k) = false by unfold stm; rw [decide_eq_false (show ¬ (0 ≤ -k) by omega)]; rfl]
  simp
set_option maxRecDepth 8000 in
set_option maxHeartbeats 16000000 in
theorem refuses_law (v1 v2 : Int) (w : World) (h1 : (Lit.int .i64 v1).wf = true) (h2 : (Lit.int .i64 v2).wf = true) :
    Calls Try.prog 5 #[.int .i64 v1, .int .i64 v2] w fun e w' => e = .returned (.bool true) ∧ Below w.heap.size w w' := by
  obtain ⟨p, hp, p0, p1⟩ : ∃ r : Int, v1 % 8 = r ∧ 0 ≤ r ∧ r < 8 := ⟨_, rfl, Int.emod_nonneg _ (by decide), Int.emod_lt_of_pos _ (by decide)⟩
  obtain ⟨s, hs, s0, s1⟩ : ∃ r : Int, v2 % 100 = r ∧ 0 ≤ r ∧ r < 100 := ⟨_, rfl, Int.emod_nonneg _ (by decide), Int.emod_lt_of_pos _ (by decide)⟩
  obtain ⟨k, hk⟩ : ∃ k, 1 + s = k := ⟨_, rfl⟩
  have wk : IntKind.i64.wrap (1 + s) = k := by rw [IntKind.wrap_i64]; omega
  have k0 : 1 ≤ k := by omega
  have k1 : k ≤ 100 := by omega
  have HP := Lib.hid hp; have HSv := Lib.hid hs; have WK := Lib.hid wk; have V1 := Lib.hid h1; have V2 := Lib.hid h2
  clear hp hs hk wk h1 h2
  go_enter Try.func5, Try.ntmps5
  go_wp2_with fail
  refine (place_any v2 100 _ (by decide) (by decide) (bounds_i64 V2.out)).mono ?_
  rintro x w4 ⟨rfl, rfl⟩
  rw [HSv.out]
  have wk := WK.out
  go_wp2_with fail
  clear wk
  obtain ⟨W, hW⟩ : ∃ W, W = ((((w.alloc (mO ⟨#[116]⟩ ⟨#[97]⟩ 0)).alloc (mO ⟨#[116]⟩ ⟨#[97]⟩ 0)).alloc (.cells #[.int .i64 1, .string ⟨#[120]⟩] 51)).alloc (.cells #[.int .i64 2] 3)).alloc (.cells #[.slice (some ⟨w.heap.size + 1, 0, none⟩) 1 1, .slice (some ⟨w.heap.size + 1 + 1, 0, none⟩) 1 1, .slice (some ⟨w.heap.size + 1 + 1 + 1, 0, none⟩) 1 1] 29) := ⟨_, rfl⟩
  have hst := refuses_start w W hW
  unfold mO at hW
  rw [← hW]
  clear hW
  have R1 := Lib.hid hst.1; have ZB1 := Lib.hid hst.2
  clear hst
  obtain ⟨P1, hP1⟩ := bt1_put (w.heap.size + 1) (w.heap.size + 1 + 1) (w.heap.size + 1 + 1 + 1)
  have N1 := pack_batch (bt1 (w.heap.size + 1) (w.heap.size + 1 + 1) (w.heap.size + 1 + 1 + 1)) (w.heap.size + 4) W R1.out.lies (by have := R1.out.size; omega) (bt1_few _ _ _)
  rw [hP1] at N1
  refine N1.mono ?_
  rintro e w5 ⟨A, n, c, rfl, _, _, _, _, _, b5⟩
  have R5 := Lib.hid (R1.out.on (b5.mono (by have := R1.out.size; omega)))
  have ZB5 := Lib.hid ((b5.block _ (Array.getElem?_eq_some_iff.1 ZB1.out).1).trans ZB1.out)
  have y0 := cell_at (i := 0) ZB5.out rfl
  have y1 := cell_at (i := 1) ZB5.out rfl
  have y2 := cell_at (i := 2) ZB5.out rfl
  clear b5 hP1 N1
  go_wp2_with fail
  have N2 := checkBatch_any (bt1 (w.heap.size + 1) (w.heap.size + 1 + 1) (w.heap.size + 1 + 1 + 1)) (w.heap.size + 4) w5 R5.out.lies (by have := R5.out.size; omega) (bt1_few _ _ _)
  rw [bt1_ok] at N2
  refine N2.mono ?_
  rintro e W3 ⟨rfl, b6⟩
  have R3 := Lib.hid (R5.out.on (b6.mono (by have := R5.out.size; omega)))
  have ZB := Lib.hid ((b6.block _ (Array.getElem?_eq_some_iff.1 ZB5.out).1).trans ZB5.out)
  clear b6 N2 y0 y1 y2
  go_wp2_with fail
  refine (place_any v1 8 _ (by decide) (by decide) (bounds_i64 V1.out)).mono ?_
  rintro x w4 ⟨rfl, rfl⟩
  rw [HP.out]
  have u0 := cell_at (i := 0) R3.out.mu0 rfl
  have u1 := cell_at (i := 1) R3.out.mu0 rfl
  have u2 := cell_at (i := 2) R3.out.mu0 rfl
  have u3 := cell_at (i := 3) R3.out.mu0 rfl
  clear R1 ZB1 R5 ZB5
  go_upto_block 0 with fail
  go_cut [] from 40 to 129 (fun wx => bad w wx (w.heap.size + 1 + 1 + 1 + 1))
  case first =>
    have hcase : p = 0 ∨ p = 1 ∨ p = 2 ∨ p = 3 ∨ p = 4 ∨ p = 5 ∨ p = 6 ∨ p = 7 := by omega
    clear p0 p1
    rcases hcase with rfl | rfl | rfl | rfl | rfl | rfl | rfl | rfl
    · have z4 : (W3.alloc (mO ⟨#[84]⟩ ⟨#[97]⟩ 0)).heap[w.heap.size + 1 + 1 + 1 + 1]? = some (.cells #[.slice (some ⟨w.heap.size + 1, 0, none⟩) 1 1, .slice (some ⟨w.heap.size + 1 + 1, 0, none⟩) 1 1, .slice (some ⟨w.heap.size + 1 + 1 + 1, 0, none⟩) 1 1] 29 (0, 0)) := at_new ZB.out _
      have q0 := cell_at (i := 0) z4 rfl
      have f0 := thawed_at (i := 0) z4
      have m0 := block_setCell (i := 0) z4 (.slice (some ⟨W3.heap.size, 0, none⟩) 1 1)
      simp only [List.setIfInBounds_toArray, List.set_cons_zero, List.set_cons_succ] at m0
      have M0 := Lib.hid m0
      have hb9 : Below (w.heap.size + 4) W3 ((W3.alloc (mO ⟨#[84]⟩ ⟨#[97]⟩ 0)).setCell ⟨w.heap.size + 1 + 1 + 1 + 1, 0, none⟩ (.slice (some ⟨W3.heap.size, 0, none⟩) 1 1)) := ((Below.refl (w.heap.size + 4) W3).alloc (by have := R3.out.size; omega) (mO ⟨#[84]⟩ ⟨#[97]⟩ 0)).setCell (p := ⟨w.heap.size + 1 + 1 + 1 + 1, 0, none⟩) (Nat.le_refl _) _
      have HB9 := Lib.hid hb9
      have hrd9 := RdM.moved (RdM.laid W3 (mA ⟨#[84]⟩ ⟨#[97]⟩ 0)) (Below.heap_setCell (W3.alloc (mO ⟨#[84]⟩ ⟨#[97]⟩ 0)) ⟨w.heap.size + 1 + 1 + 1 + 1, 0, none⟩ (.slice (some ⟨W3.heap.size, 0, none⟩) 1 1) W3.heap.size (by have := R3.out.size; show W3.heap.size ≠ w.heap.size + 1 + 1 + 1 + 1; omega))
      have RD9 := Lib.hid hrd9
      clear z4 m0 hb9 hrd9
      go_wp2_with fail
      go_meet
      have r9 := R3.out.on HB9.out
      exact ⟨⟨some ⟨W3.heap.size, 0, none⟩, 1, [mA ⟨#[84]⟩ ⟨#[97]⟩ 0], some ⟨w.heap.size + 1 + 1, 0, none⟩, 1, [(1, ⟨#[120]⟩)], some ⟨w.heap.size + 1 + 1 + 1, 0, none⟩, 1, [2]⟩, W3.heap.size + 1, M0.out, ⟨lies_one _ _ _ _ _ _ RD9.out, r9.notes.up (by have := R3.out.size; omega), r9.drops.up (by have := R3.out.size; omega), Nat.le_refl _, Nat.le_refl _⟩, by simp, ⟨fun y hy => by rw [List.mem_singleton.1 hy]; exact muf_one _ _ _ (by decide), fun y hy => by rw [List.mem_singleton.1 hy]; exact lt_max (by decide), by simp, by simp, by simp⟩, not_ok (Or.inl ((by rfl))), r9.below⟩
    · have wn : IntKind.i64.wrap (-k) = -k := by rw [IntKind.wrap_i64]; omega
      have wn2 : wrap64 (-k) = -k := by unfold wrap64; omega
      have z4 : (W3.alloc (mO ⟨#[116]⟩ ⟨#[]⟩ (-k))).heap[w.heap.size + 1 + 1 + 1 + 1]? = some (.cells #[.slice (some ⟨w.heap.size + 1, 0, none⟩) 1 1, .slice (some ⟨w.heap.size + 1 + 1, 0, none⟩) 1 1, .slice (some ⟨w.heap.size + 1 + 1 + 1, 0, none⟩) 1 1] 29 (0, 0)) := at_new ZB.out _
      have q0 := cell_at (i := 0) z4 rfl
      have f0 := thawed_at (i := 0) z4
      have m0 := block_setCell (i := 0) z4 (.slice (some ⟨W3.heap.size, 0, none⟩) 1 1)
      simp only [List.setIfInBounds_toArray, List.set_cons_zero, List.set_cons_succ] at m0
      have M0 := Lib.hid m0
      have hb9 : Below (w.heap.size + 4) W3 ((W3.alloc (mO ⟨#[116]⟩ ⟨#[]⟩ (-k))).setCell ⟨w.heap.size + 1 + 1 + 1 + 1, 0, none⟩ (.slice (some ⟨W3.heap.size, 0, none⟩) 1 1)) := ((Below.refl (w.heap.size + 4) W3).alloc (by have := R3.out.size; omega) (mO ⟨#[116]⟩ ⟨#[]⟩ (-k))).setCell (p := ⟨w.heap.size + 1 + 1 + 1 + 1, 0, none⟩) (Nat.le_refl _) _
      have HB9 := Lib.hid hb9
      have hrd9 := RdM.moved (RdM.laid W3 (mA ⟨#[116]⟩ ⟨#[]⟩ (-k))) (Below.heap_setCell (W3.alloc (mO ⟨#[116]⟩ ⟨#[]⟩ (-k))) ⟨w.heap.size + 1 + 1 + 1 + 1, 0, none⟩ (.slice (some ⟨W3.heap.size, 0, none⟩) 1 1) W3.heap.size (by have := R3.out.size; show W3.heap.size ≠ w.heap.size + 1 + 1 + 1 + 1; omega))
      have RD9 := Lib.hid hrd9
      clear z4 m0 hb9 hrd9
      go_wp2_with fail
      go_meet
      have r9 := R3.out.on HB9.out
      exact ⟨⟨some ⟨W3.heap.size, 0, none⟩, 1, [mA ⟨#[116]⟩ ⟨#[]⟩ (-k)], some ⟨w.heap.size + 1 + 1, 0, none⟩, 1, [(1, ⟨#[120]⟩)], some ⟨w.heap.size + 1 + 1 + 1, 0, none⟩, 1, [2]⟩, W3.heap.size + 1, M0.out, ⟨lies_one _ _ _ _ _ _ RD9.out, r9.notes.up (by have := R3.out.size; omega), r9.drops.up (by have := R3.out.size; omega), Nat.le_refl _, Nat.le_refl _⟩, by simp, ⟨fun y hy => by rw [List.mem_singleton.1 hy]; exact muf_one _ _ _ (by decide), fun y hy => by rw [List.mem_singleton.1 hy]; exact lt_max (by decide), by simp, by simp, by simp⟩, not_ok (Or.inl ((by rw [List.all_cons, mut_gone k k0]; simp))), r9.below⟩
    · obtain ⟨m, hm⟩ : ∃ m : Nat, (m : Int) = 64 + k := ⟨(64 + k).toNat, by omega⟩
      have wn : IntKind.i64.wrap (64 + k) = (m : Int) := by rw [IntKind.wrap_i64]; omega
      have wn2 : wrap64 (64 + k) = (m : Int) := by unfold wrap64; omega
      have m8 : m ≤ 200 := by omega
      have m9 : 64 < m := by omega
      have q0 := cell_at (i := 0) ZB.out rfl
      have f0 := thawed_at (i := 0) ZB.out
      have m0 := block_setCell (i := 0) ZB.out (.slice none 0 0)
      simp only [List.setIfInBounds_toArray, List.set_cons_zero, List.set_cons_succ] at m0
      have hb9 : Below (w.heap.size + 4) W3 (W3.setCell ⟨w.heap.size + 1 + 1 + 1 + 1, 0, none⟩ (.slice none 0 0)) := (Below.refl (w.heap.size + 4) W3).setCell (p := ⟨w.heap.size + 1 + 1 + 1 + 1, 0, none⟩) (Nat.le_refl _) _
      have M0 := Lib.hid m0; have HB9 := Lib.hid hb9; have MM := Lib.hid hm; have WN := Lib.hid wn; have WN2 := Lib.hid wn2; have M8 := Lib.hid m8; have M9 := Lib.hid m9
      clear m0 hb9 hm wn wn2 m8 m9 u0 u1 u2 u3
      go_wp2
      clear q0 f0
      go_loopw [10] (fun i wr => ∃ (t c : Nat) (A : Option Addr), t ≤ m ∧ i = .int .i64 t ∧ Below (w.heap.size + 4) W3 wr ∧ wr.heap[w.heap.size + 1 + 1 + 1 + 1]? = some (.cells #[.slice A t c, .slice (some ⟨w.heap.size + 1 + 1, 0, none⟩) 1 1, .slice (some ⟨w.heap.size + 1 + 1 + 1, 0, none⟩) 1 1] 29 (0, 0)) ∧ wr.ownsRow (w.heap.size + 4) 49 4 (.slice A t c) t (mRow (List.replicate t (mA ⟨#[116]⟩ ⟨#[97]⟩ 0)))) (fun i _ => m - (intOf i).toNat)
      case atStart => exact ⟨0, 0, none, Nat.zero_le _, rfl, HB9.out, M0.out, own_nilM _ _⟩
      case round =>
        obtain ⟨t, c, A, ht, rfl, hb, hq, ho⟩ := hrel
        have wn := WN.out
        have wn2 := WN2.out
        have hr := R3.out.on hb
        by_cases hlt : t < m
        · have i1 : (t : Int) < m := by omega
          have i8 : m ≤ 200 := M8.out
          have u0 := cell_at (i := 0) hr.mu0 rfl
          have u1 := cell_at (i := 1) hr.mu0 rfl
          have u2 := cell_at (i := 2) hr.mu0 rfl
          have u3 := cell_at (i := 3) hr.mu0 rfl
          have q0 := cell_at (i := 0) hq rfl
          have ba := (Below.refl wr.heap.size wr).alloc (Nat.le_refl _) (mO ⟨#[116]⟩ ⟨#[97]⟩ 0)
          have ho2 := own_below ho ba
          have hq2 := at_new hq (mO ⟨#[116]⟩ ⟨#[97]⟩ 0)
          have hb2 := hb.trans (ba.mono (by have := hr.size; omega))
          have hz2 := hr.size
          have HO2 := Lib.hid ho2; have HQ2 := Lib.hid hq2; have HB2 := Lib.hid hb2; have HZ2 := Lib.hid hz2
          clear hb hr hq ho ba ho2 hq2 hb2 hz2
          go_wp2_with (at_builtin; refine list_ex rfl (.tmp 82) (.tmp 84) _ _ rfl (.slice A t c) (.slice (some ⟨wr.heap.size, 0, none⟩) 1 1) rfl rfl (run_appM (w.heap.size + 4) HO2.out (RdM.laid wr (mA ⟨#[116]⟩ ⟨#[97]⟩ 0)) ?s1 ?s2) ?_)
          case s1 => omega
          case s2 => have := HB2.out.size; have := HZ2.out; simp; omega
          intro v6 w6 ho6 hg6 _
          obtain ⟨A6, c6, rfl, _⟩ := own_slice ho6
          have hq6 := (hg6.block (w.heap.size + 1 + 1 + 1 + 1) (Array.getElem?_eq_some_iff.1 HQ2.out).1 (fun hp => own_neM HO2.out HQ2.out (by decide) _ hp.symm rfl)).trans HQ2.out
          have hb6 : Below (w.heap.size + 4) W3 w6 := HB2.out.grown hg6 (by have := HB2.out.size; have := R3.out.size; omega) (fun g hg => (World.ownsRow.lt HO2.out g hg).1)
          have q7 := cell_at (i := 0) hq6 rfl
          have f7 := thawed_at (i := 0) hq6
          have m7 := block_setCell (i := 0) hq6 (.slice A6 (t + 1) c6)
          simp only [List.setIfInBounds_toArray, List.set_cons_zero, List.set_cons_succ] at m7
          have ho7 := own_kept ho6 (w' := w6.setCell ⟨w.heap.size + 1 + 1 + 1 + 1, 0, none⟩ (.slice A6 (t + 1) c6)) fun g hg => Below.heap_setCell _ _ _ _ (own_neM ho6 hq6 (by decide) g hg)
          have hb7 : Below (w.heap.size + 4) W3 (w6.setCell ⟨w.heap.size + 1 + 1 + 1 + 1, 0, none⟩ (.slice A6 (t + 1) c6)) := hb6.setCell (p := ⟨w.heap.size + 1 + 1 + 1 + 1, 0, none⟩) (Nat.le_refl _) _
          rw [← List.replicate_succ'] at ho7
          have M7 := Lib.hid m7; have HO7 := Lib.hid ho7; have HB7 := Lib.hid hb7
          clear hq6 hb6 m7 ho7 hb7 ho6 hg6 q0 u0 u1 u2 u3
          go_wp2
          go_roundw
          case rel => exact ⟨t + 1, c6, A6, by omega, by go_num, HB7.out, M7.out, HO7.out⟩
          case measure => simp [intOf]; omega
        · obtain rfl : t = m := by omega
          have hrd : RdM wr wr.heap.size A t (List.replicate t (mA ⟨#[116]⟩ ⟨#[97]⟩ 0)) := RdM.of_own ho
          obtain ⟨_, _, e1, hcp, _⟩ := own_slice ho
          injection e1 with _ _ e1
          subst e1
          have HRD := Lib.hid hrd; have HRR := Lib.hid hr; have HQ := Lib.hid hq; have HCP := Lib.hid hcp
          clear hrd hr hq hcp ho hb
          go_wp2_with fail
          go_meet
          exact ⟨⟨A, c, List.replicate t (mA ⟨#[116]⟩ ⟨#[97]⟩ 0), some ⟨w.heap.size + 1 + 1, 0, none⟩, 1, [(1, ⟨#[120]⟩)], some ⟨w.heap.size + 1 + 1 + 1, 0, none⟩, 1, [2]⟩, wr.heap.size, by rw [HQ.out]; simp, ⟨⟨by simpa using HRD.out, fun x hx => by rw [List.eq_of_mem_replicate hx]; exact lies_nil _ _, by simpa using HCP.out⟩, HRR.out.notes.up (by have := HRR.out.size; omega), HRR.out.drops.up (by have := HRR.out.size; omega), Nat.le_refl _, Nat.le_refl _⟩, Nat.le_refl _, ⟨fun y hy => by rw [List.eq_of_mem_replicate hy]; exact muf_one _ _ _ (by decide), fun y hy => by rw [List.mem_singleton.1 hy]; exact lt_max (by decide), by simp; have := M8.out; omega, by simp, by simp⟩, not_ok (Or.inl (by rw [decide_eq_false (by simp; exact M9.out)]; rfl)), HRR.out.below⟩
    · have wn : IntKind.i64.wrap (1 - k) = 1 - k := by rw [IntKind.wrap_i64]; omega
      have wn2 : wrap64 (1 - k) = 1 - k := by unfold wrap64; omega
      have hsz : (W3).heap.size = W3.heap.size := by first | rfl | simp
      have z4 : ((W3).alloc (.cells #[.int .i64 (1 - k), .string (⟨#[]⟩)] 51)).heap[w.heap.size + 1 + 1 + 1 + 1]? = some (.cells #[.slice (some ⟨w.heap.size + 1, 0, none⟩) 1 1, .slice (some ⟨w.heap.size + 1 + 1, 0, none⟩) 1 1, .slice (some ⟨w.heap.size + 1 + 1 + 1, 0, none⟩) 1 1] 29 (0, 0)) := at_new ZB.out _
      have q1 := cell_at (i := 1) z4 rfl
      have f1 := thawed_at (i := 1) z4
      have m1 := block_setCell (i := 1) z4 (.slice (some ⟨W3.heap.size, 0, none⟩) 1 1)
      simp only [List.setIfInBounds_toArray, List.set_cons_zero, List.set_cons_succ] at m1
      have hb9 : Below (w.heap.size + 4) (W3) (((W3).alloc (.cells #[.int .i64 (1 - k), .string (⟨#[]⟩)] 51)).setCell ⟨w.heap.size + 1 + 1 + 1 + 1, 1, none⟩ (.slice (some ⟨W3.heap.size, 0, none⟩) 1 1)) := ((Below.refl (w.heap.size + 4) (W3)).alloc (by have := R3.out.size; omega) (.cells #[.int .i64 (1 - k), .string (⟨#[]⟩)] 51)).setCell (p := ⟨w.heap.size + 1 + 1 + 1 + 1, 1, none⟩) (Nat.le_refl _) _
      have hrd9 := RdN.moved (RdN.laid (W3) (1 - k, ⟨#[]⟩)) (Below.heap_setCell ((W3).alloc (.cells #[.int .i64 (1 - k), .string (⟨#[]⟩)] 51)) ⟨w.heap.size + 1 + 1 + 1 + 1, 1, none⟩ (.slice (some ⟨W3.heap.size, 0, none⟩) 1 1) (W3).heap.size (by have := R3.out.size; show (W3).heap.size ≠ w.heap.size + 1 + 1 + 1 + 1; omega))
      rw [hsz] at hrd9
      have HB9 := Lib.hid hb9; have RD9 := Lib.hid hrd9; have M1 := Lib.hid m1; have HSZ := Lib.hid hsz
      clear z4 m1 hb9 hrd9 hsz
      go_wp2_with fail
      go_meet
      have r9 := R3.out.on HB9.out
      exact ⟨⟨some ⟨w.heap.size + 1, 0, none⟩, 1, [mA ⟨#[116]⟩ ⟨#[97]⟩ 0], some ⟨W3.heap.size, 0, none⟩, 1, [(1 - k, ⟨#[]⟩)], some ⟨w.heap.size + 1 + 1 + 1, 0, none⟩, 1, [2]⟩, W3.heap.size + 1, M1.out, ⟨r9.muts.up (by have := R3.out.size; have := HSZ.out; omega), RD9.out, r9.drops.up (by have := R3.out.size; have := HSZ.out; omega), Nat.le_refl _, Nat.le_refl _⟩, by have := HSZ.out; simp, ⟨fun y hy => by rw [List.mem_singleton.1 hy]; exact muf_one _ _ _ (by decide), fun y hy => by rw [List.mem_singleton.1 hy]; exact lt_max (by show (⟨#[]⟩ : ByteArray).size ≤ 100000; decide), by simp, by simp, by simp⟩, not_ok (Or.inr (Or.inl (by unfold addB; rw [List.all_cons, decide_eq_false (show ¬ (1 ≤ 1 - k) by omega)]; simp))), r9.below⟩
    · obtain ⟨x, hx⟩ : ∃ x, 4096 + k = x := ⟨_, rfl⟩
      have wx : IntKind.i64.wrap (4096 + k) = x := by rw [IntKind.wrap_i64]; omega
      have wx2 : wrap64 (4096 + k) = x := by unfold wrap64; omega
      obtain ⟨N, hN⟩ : ∃ N : Nat, (N : Int) = x := ⟨x.toNat, by omega⟩
      obtain ⟨big, hbig⟩ : ∃ big : ByteArray, (⟨(List.replicate N 0).toArray⟩ : ByteArray) = big := ⟨_, rfl⟩
      have hbs : big.size = N := by rw [← hbig, Lib.size_eq]; simp
      obtain ⟨CS, hCS⟩ : ∃ CS, madeCells (Value.int .u8 0).cells (N * 1) = CS := ⟨_, rfl⟩
      have hmk : ∀ wx : World, (Instr.makeSlice 33 (.int .i64 x) (.int .i64 x)).run Try.prog wx = .ok (.slice (some ⟨wx.heap.size, 0, none⟩) N N) (wx.alloc (.cells CS 5)) := fun wx => by
        have h := run_makeB wx N (by omega)
        rw [hN, hCS] at h
        exact h
      have hcv : ∀ wx : World, (convert 33 9 (.slice (some ⟨wx.heap.size, 0, none⟩) N N)).run Try.prog (wx.alloc (.cells CS 5)) = .ok (.string big) (wx.alloc (.cells CS 5)) := fun wx => by
        rw [← hbig, ← hCS]
        exact cv_string (made_rd wx N) N
      have hbk : 4096 < big.size ∧ big.size ≤ 10000 := by omega
      have HBK := Lib.hid hbk
      have R4 := Lib.hid (R3.out.on ((Below.refl (w.heap.size + 4) W3).alloc (by have := R3.out.size; omega) (.cells CS 5)))
      have Z4 := Lib.hid (at_new ZB.out (.cells CS 5))
      clear hbs hN hx hbig hCS hbk
      have hsz : (W3.alloc (.cells CS 5)).heap.size = W3.heap.size + 1 := by first | rfl | simp
      have z4 : ((W3.alloc (.cells CS 5)).alloc (.cells #[.int .i64 (1), .string (big)] 51)).heap[w.heap.size + 1 + 1 + 1 + 1]? = some (.cells #[.slice (some ⟨w.heap.size + 1, 0, none⟩) 1 1, .slice (some ⟨w.heap.size + 1 + 1, 0, none⟩) 1 1, .slice (some ⟨w.heap.size + 1 + 1 + 1, 0, none⟩) 1 1] 29 (0, 0)) := at_new Z4.out _
      have q1 := cell_at (i := 1) z4 rfl
      have f1 := thawed_at (i := 1) z4
      have m1 := block_setCell (i := 1) z4 (.slice (some ⟨W3.heap.size + 1, 0, none⟩) 1 1)
      simp only [List.setIfInBounds_toArray, List.set_cons_zero, List.set_cons_succ] at m1
      have hb9 : Below (w.heap.size + 4) (W3.alloc (.cells CS 5)) (((W3.alloc (.cells CS 5)).alloc (.cells #[.int .i64 (1), .string (big)] 51)).setCell ⟨w.heap.size + 1 + 1 + 1 + 1, 1, none⟩ (.slice (some ⟨W3.heap.size + 1, 0, none⟩) 1 1)) := ((Below.refl (w.heap.size + 4) (W3.alloc (.cells CS 5))).alloc (by have := R4.out.size; omega) (.cells #[.int .i64 (1), .string (big)] 51)).setCell (p := ⟨w.heap.size + 1 + 1 + 1 + 1, 1, none⟩) (Nat.le_refl _) _
      have hrd9 := RdN.moved (RdN.laid (W3.alloc (.cells CS 5)) (1, big)) (Below.heap_setCell ((W3.alloc (.cells CS 5)).alloc (.cells #[.int .i64 (1), .string (big)] 51)) ⟨w.heap.size + 1 + 1 + 1 + 1, 1, none⟩ (.slice (some ⟨W3.heap.size + 1, 0, none⟩) 1 1) (W3.alloc (.cells CS 5)).heap.size (by have := R4.out.size; show (W3.alloc (.cells CS 5)).heap.size ≠ w.heap.size + 1 + 1 + 1 + 1; omega))
      rw [hsz] at hrd9
      have HB9 := Lib.hid hb9; have RD9 := Lib.hid hrd9; have M1 := Lib.hid m1; have HSZ := Lib.hid hsz
      clear z4 m1 hb9 hrd9 hsz
      go_wp2_with fail
      go_meet
      have r9 := R4.out.on HB9.out
      exact ⟨⟨some ⟨w.heap.size + 1, 0, none⟩, 1, [mA ⟨#[116]⟩ ⟨#[97]⟩ 0], some ⟨W3.heap.size + 1, 0, none⟩, 1, [(1, big)], some ⟨w.heap.size + 1 + 1 + 1, 0, none⟩, 1, [2]⟩, W3.heap.size + 1 + 1, M1.out, ⟨r9.muts.up (by have := R4.out.size; have := HSZ.out; omega), RD9.out, r9.drops.up (by have := R4.out.size; have := HSZ.out; omega), Nat.le_refl _, Nat.le_refl _⟩, by have := HSZ.out; simp, ⟨fun y hy => by rw [List.mem_singleton.1 hy]; exact muf_one _ _ _ (by decide), fun y hy => by rw [List.mem_singleton.1 hy]; exact lt_max (by show big.size ≤ 100000; have := HBK.out.2; omega), by simp, by simp, by simp⟩, not_ok (Or.inr (Or.inl (by unfold addB; rw [List.all_cons, decide_eq_false (show ¬ (big.size ≤ 4096) by have := HBK.out.1; omega)]; simp))), r9.below⟩
    · obtain ⟨m, hm⟩ : ∃ m : Nat, (m : Int) = 300 + k := ⟨(300 + k).toNat, by omega⟩
      have wn : IntKind.i64.wrap (300 + k) = (m : Int) := by rw [IntKind.wrap_i64]; omega
      have wn2 : wrap64 (300 + k) = (m : Int) := by unfold wrap64; omega
      have m8 : m ≤ 400 := by omega
      have m9 : 300 < m := by omega
      obtain ⟨CS, hCS⟩ : ∃ CS, madeCells #[.int .i64 0, .string ⟨#[]⟩] (m * 2) = CS := ⟨_, rfl⟩
      have hmk := fun wx : World => run_makeN wx m (by omega)
      have hom := own_madeN W3 m (by omega)
      rw [hCS] at hom
      simp only [hCS] at hmk
      have z4 := at_new ZB.out (.cells CS 51)
      have q0 := cell_at (i := 1) z4 rfl
      have f0 := thawed_at (i := 1) z4
      have m0 := block_setCell (i := 1) z4 (.slice (some ⟨W3.heap.size, 0, none⟩) m m)
      simp only [List.setIfInBounds_toArray, List.set_cons_zero, List.set_cons_succ] at m0
      have hne : W3.heap.size ≠ w.heap.size + 1 + 1 + 1 + 1 := by have := R3.out.size; omega
      have ho4 := own_kept hom (w' := (W3.alloc (.cells CS 51)).setCell ⟨w.heap.size + 1 + 1 + 1 + 1, 1, none⟩ (.slice (some ⟨W3.heap.size, 0, none⟩) m m)) fun g hg => Below.heap_setCell _ _ _ _ (own_neM hom z4 (by decide) g hg)
      have hb9 : Below (w.heap.size + 4) W3 ((W3.alloc (.cells CS 51)).setCell ⟨w.heap.size + 1 + 1 + 1 + 1, 1, none⟩ (.slice (some ⟨W3.heap.size, 0, none⟩) m m)) := ((Below.refl (w.heap.size + 4) W3).alloc (by have := R3.out.size; omega) (.cells CS 51)).setCell (p := ⟨w.heap.size + 1 + 1 + 1 + 1, 1, none⟩) (Nat.le_refl _) _
      have M0 := Lib.hid m0; have HB9 := Lib.hid hb9; have MM := Lib.hid hm; have WN := Lib.hid wn; have M8 := Lib.hid m8; have M9 := Lib.hid m9; have HO4 := Lib.hid ho4; have HNE := Lib.hid hne
      have RS3 := Lib.hid R3.out.size
      clear m0 hb9 hm m8 m9 u0 u1 u2 u3 hCS hom z4 hne ho4
      go_wp2
      clear q0 f0 hmk
      go_loopw [11] (fun i wr => ∃ (t : Nat) (N : List NA), t ≤ m ∧ i = .int .i64 t ∧ N.length = m ∧ (∀ y ∈ N, y.2.size ≤ 10) ∧ Below (w.heap.size + 4) W3 wr ∧ wr.heap[w.heap.size + 1 + 1 + 1 + 1]? = some (.cells #[.slice (some ⟨w.heap.size + 1, 0, none⟩) 1 1, .slice (some ⟨W3.heap.size, 0, none⟩) m m, .slice (some ⟨w.heap.size + 1 + 1 + 1, 0, none⟩) 1 1] 29 (0, 0)) ∧ wr.ownsRow W3.heap.size 51 2 (.slice (some ⟨W3.heap.size, 0, none⟩) m m) m (nRow N)) (fun i _ => m - (intOf i).toNat)
      case atStart => exact ⟨0, List.replicate m ((0 : Int), (⟨#[]⟩ : ByteArray)), Nat.zero_le _, rfl, by simp, fun y hy => by rw [List.eq_of_mem_replicate hy]; decide, HB9.out, M0.out, HO4.out⟩
      case round =>
        obtain ⟨t, N, ht, rfl, hn, hgd, hb, hq, ho⟩ := hrel
        have wn := WN.out
        have q0 := cell_at (i := 1) hq rfl
        by_cases hlt : t < m
        · have i1 : (t : Int) < m := by omega
          have i0 : (0 : Int) ≤ t := by omega
          have i8 : m ≤ 400 := M8.out
          have wt : IntKind.i64.wrap (1 + (t : Int)) = 1 + (t : Int) := by rw [IntKind.wrap_i64]; omega
          have htn : t < N.length := by omega
          have hcell := ho.cells (g := W3.heap.size) rfl (t * 2) (.int .i64 (N[t]).1) (by rw [show t * 2 = t * 2 + 0 by omega, nRow_at N t 0 htn (by omega)]; rfl)
          rw [Addr.add_lit, Nat.zero_add] at hcell
          have hfz := ho.frozenAt (t * 2)
          have hst := ho.stored (t * 2) (.int .i64 (1 + (t : Int)))
          rw [nRow_set N t (1 + (t : Int)) htn] at hst
          have hq2 := (Below.heap_setCell wr ⟨W3.heap.size, (t * 2), none⟩ (.int .i64 (1 + (t : Int))) (w.heap.size + 1 + 1 + 1 + 1) (fun h => HNE.out h.symm)).trans hq
          have hb2 : Below (w.heap.size + 4) W3 (wr.setCell ⟨W3.heap.size, (t * 2), none⟩ (.int .i64 (1 + (t : Int)))) := hb.setCell (p := ⟨W3.heap.size, (t * 2), none⟩) (by have := RS3.out; show w.heap.size + 4 ≤ W3.heap.size; omega) _
          have HST := Lib.hid hst.1; have HQ2 := Lib.hid hq2; have HB2 := Lib.hid hb2; have HN := Lib.hid hn; have HGD := Lib.hid hgd
          have HTN := Lib.hid htn
          clear hst hq2 hb2 ho hb hq hn hgd
          go_wp2
          go_roundw
          case rel => exact ⟨t + 1, _, by omega, by go_num, by rw [List.length_set]; exact HN.out, fun y hy => (List.mem_or_eq_of_mem_set hy).elim (fun h => HGD.out y h) (fun h => by rw [h]; exact HGD.out (N[t]'HTN.out) (List.getElem_mem HTN.out)), HB2.out, HQ2.out, HST.out⟩
          case measure => simp [intOf]; omega
        · obtain rfl : t = m := by omega
          have hr := R3.out.on hb
          have hrd := RdN.of_own ho
          have HRD := Lib.hid hrd; have HRR := Lib.hid hr; have HQ := Lib.hid hq; have HN := Lib.hid hn; have HGD := Lib.hid hgd
          clear hrd hr hq ho hb hn hgd
          go_wp2_with fail
          go_meet
          have hn := HN.out
          subst hn
          exact ⟨⟨some ⟨w.heap.size + 1, 0, none⟩, 1, [mA ⟨#[116]⟩ ⟨#[97]⟩ 0], some ⟨W3.heap.size, 0, none⟩, N.length, N, some ⟨w.heap.size + 1 + 1 + 1, 0, none⟩, 1, [2]⟩, wr.heap.size, HQ.out, ⟨HRR.out.muts.up (by have := HRR.out.size; omega), HRD.out, HRR.out.drops.up (by have := HRR.out.size; omega), Nat.le_refl _, Nat.le_refl _⟩, Nat.le_refl _, ⟨fun y hy => by rw [List.mem_singleton.1 hy]; exact muf_one _ _ _ (by decide), fun y hy => lt_max (by have := HGD.out y hy; omega), by simp, by have := M8.out; show N.length ≤ 1000000; omega, by simp⟩, not_ok (Or.inr (Or.inl (by rw [decide_eq_false (show ¬ N.length ≤ 300 by have := M9.out; omega)]; rfl))), HRR.out.below⟩
    · have wn : IntKind.i64.wrap (1099511627776 + k) = 1099511627776 + k := by rw [IntKind.wrap_i64]; omega
      have wn2 : wrap64 (1099511627776 + k) = 1099511627776 + k := by unfold wrap64; omega
      have hsz : (W3).heap.size = W3.heap.size := by first | rfl | simp
      have z4 : ((W3).alloc (.cells #[.int .i64 (1099511627776 + k)] 3)).heap[w.heap.size + 1 + 1 + 1 + 1]? = some (.cells #[.slice (some ⟨w.heap.size + 1, 0, none⟩) 1 1, .slice (some ⟨w.heap.size + 1 + 1, 0, none⟩) 1 1, .slice (some ⟨w.heap.size + 1 + 1 + 1, 0, none⟩) 1 1] 29 (0, 0)) := at_new ZB.out _
      have q1 := cell_at (i := 2) z4 rfl
      have f1 := thawed_at (i := 2) z4
      have m1 := block_setCell (i := 2) z4 (.slice (some ⟨W3.heap.size, 0, none⟩) 1 1)
      simp only [List.setIfInBounds_toArray, List.set_cons_zero, List.set_cons_succ] at m1
      have hb9 : Below (w.heap.size + 4) (W3) (((W3).alloc (.cells #[.int .i64 (1099511627776 + k)] 3)).setCell ⟨w.heap.size + 1 + 1 + 1 + 1, 2, none⟩ (.slice (some ⟨W3.heap.size, 0, none⟩) 1 1)) := ((Below.refl (w.heap.size + 4) (W3)).alloc (by have := R3.out.size; omega) (.cells #[.int .i64 (1099511627776 + k)] 3)).setCell (p := ⟨w.heap.size + 1 + 1 + 1 + 1, 2, none⟩) (Nat.le_refl _) _
      have hrd9 := RdZ.moved (RdZ.lay1 (W3) (1099511627776 + k)) (Below.heap_setCell ((W3).alloc (.cells #[.int .i64 (1099511627776 + k)] 3)) ⟨w.heap.size + 1 + 1 + 1 + 1, 2, none⟩ (.slice (some ⟨W3.heap.size, 0, none⟩) 1 1) (W3).heap.size (by have := R3.out.size; show (W3).heap.size ≠ w.heap.size + 1 + 1 + 1 + 1; omega))
      rw [hsz] at hrd9
      have HB9 := Lib.hid hb9; have RD9 := Lib.hid hrd9; have M1 := Lib.hid m1; have HSZ := Lib.hid hsz
      clear z4 m1 hb9 hrd9 hsz
      go_wp2_with fail
      go_meet
      have r9 := R3.out.on HB9.out
      exact ⟨⟨some ⟨w.heap.size + 1, 0, none⟩, 1, [mA ⟨#[116]⟩ ⟨#[97]⟩ 0], some ⟨w.heap.size + 1 + 1, 0, none⟩, 1, [(1, ⟨#[120]⟩)], some ⟨W3.heap.size, 0, none⟩, 1, [1099511627776 + k]⟩, W3.heap.size + 1, M1.out, ⟨r9.muts.up (by have := R3.out.size; have := HSZ.out; omega), r9.notes.up (by have := R3.out.size; have := HSZ.out; omega), RD9.out, Nat.le_refl _, Nat.le_refl _⟩, by have := HSZ.out; simp, ⟨fun y hy => by rw [List.mem_singleton.1 hy]; exact muf_one _ _ _ (by decide), fun y hy => by rw [List.mem_singleton.1 hy]; exact lt_max (by decide), by simp, by simp, by simp⟩, not_ok (Or.inr (Or.inr (by unfold dropB; rw [List.all_cons, decide_eq_false (show ¬ (1099511627776 + k ≤ 1099511627776) by omega)]; simp))), r9.below⟩
    · obtain ⟨m, hm⟩ : ∃ m : Nat, (m : Int) = 300 + k := ⟨(300 + k).toNat, by omega⟩
      have wn : IntKind.i64.wrap (300 + k) = (m : Int) := by rw [IntKind.wrap_i64]; omega
      have wn2 : wrap64 (300 + k) = (m : Int) := by unfold wrap64; omega
      have m8 : m ≤ 400 := by omega
      have m9 : 300 < m := by omega
      obtain ⟨CS, hCS⟩ : ∃ CS, madeCells (Value.int .i64 0).cells (m * 1) = CS := ⟨_, rfl⟩
      have hmk := fun wx : World => run_makeZ wx m (by omega)
      have hom := own_madeZ W3 m (by omega)
      rw [hCS] at hom
      simp only [hCS] at hmk
      have z4 := at_new ZB.out (.cells CS 3)
      have q0 := cell_at (i := 2) z4 rfl
      have f0 := thawed_at (i := 2) z4
      have m0 := block_setCell (i := 2) z4 (.slice (some ⟨W3.heap.size, 0, none⟩) m m)
      simp only [List.setIfInBounds_toArray, List.set_cons_zero, List.set_cons_succ] at m0
      have hne : W3.heap.size ≠ w.heap.size + 1 + 1 + 1 + 1 := by have := R3.out.size; omega
      have ho4 := own_kept hom (w' := (W3.alloc (.cells CS 3)).setCell ⟨w.heap.size + 1 + 1 + 1 + 1, 2, none⟩ (.slice (some ⟨W3.heap.size, 0, none⟩) m m)) fun g hg => Below.heap_setCell _ _ _ _ (own_neM hom z4 (by decide) g hg)
      have hb9 : Below (w.heap.size + 4) W3 ((W3.alloc (.cells CS 3)).setCell ⟨w.heap.size + 1 + 1 + 1 + 1, 2, none⟩ (.slice (some ⟨W3.heap.size, 0, none⟩) m m)) := ((Below.refl (w.heap.size + 4) W3).alloc (by have := R3.out.size; omega) (.cells CS 3)).setCell (p := ⟨w.heap.size + 1 + 1 + 1 + 1, 2, none⟩) (Nat.le_refl _) _
      have M0 := Lib.hid m0; have HB9 := Lib.hid hb9; have MM := Lib.hid hm; have WN := Lib.hid wn; have M8 := Lib.hid m8; have M9 := Lib.hid m9; have HO4 := Lib.hid ho4; have HNE := Lib.hid hne
      have RS3 := Lib.hid R3.out.size
      clear m0 hb9 hm m8 m9 u0 u1 u2 u3 hCS hom z4 hne ho4
      go_wp2
      clear q0 f0 hmk
      go_loopw [12] (fun i wr => ∃ (t : Nat) (N : List Int), t ≤ m ∧ i = .int .i64 t ∧ N.length = m ∧ True ∧ Below (w.heap.size + 4) W3 wr ∧ wr.heap[w.heap.size + 1 + 1 + 1 + 1]? = some (.cells #[.slice (some ⟨w.heap.size + 1, 0, none⟩) 1 1, .slice (some ⟨w.heap.size + 1 + 1, 0, none⟩) 1 1, .slice (some ⟨W3.heap.size, 0, none⟩) m m] 29 (0, 0)) ∧ wr.ownsRow W3.heap.size 3 1 (.slice (some ⟨W3.heap.size, 0, none⟩) m m) m (zRow N)) (fun i _ => m - (intOf i).toNat)
      case atStart => exact ⟨0, List.replicate m 0, Nat.zero_le _, rfl, by simp, trivial, HB9.out, M0.out, HO4.out⟩
      case round =>
        obtain ⟨t, N, ht, rfl, hn, hgd, hb, hq, ho⟩ := hrel
        have wn := WN.out
        have q0 := cell_at (i := 2) hq rfl
        by_cases hlt : t < m
        · have i1 : (t : Int) < m := by omega
          have i0 : (0 : Int) ≤ t := by omega
          have i8 : m ≤ 400 := M8.out
          have wt : IntKind.i64.wrap (1 + (t : Int)) = 1 + (t : Int) := by rw [IntKind.wrap_i64]; omega
          have htn : t < N.length := by omega
          have hcell := ho.cells (g := W3.heap.size) rfl t (.int .i64 (N[t])) (by simp [zRow, htn])
          rw [Addr.add_lit, Nat.zero_add] at hcell
          have hfz := ho.frozenAt t
          have hst := ho.stored t (.int .i64 (1 + (t : Int)))
          rw [zRow_set N t (1 + (t : Int))] at hst
          have hq2 := (Below.heap_setCell wr ⟨W3.heap.size, t, none⟩ (.int .i64 (1 + (t : Int))) (w.heap.size + 1 + 1 + 1 + 1) (fun h => HNE.out h.symm)).trans hq
          have hb2 : Below (w.heap.size + 4) W3 (wr.setCell ⟨W3.heap.size, t, none⟩ (.int .i64 (1 + (t : Int)))) := hb.setCell (p := ⟨W3.heap.size, t, none⟩) (by have := RS3.out; show w.heap.size + 4 ≤ W3.heap.size; omega) _
          have HST := Lib.hid hst.1; have HQ2 := Lib.hid hq2; have HB2 := Lib.hid hb2; have HN := Lib.hid hn; have HGD := Lib.hid hgd
          have HTN := Lib.hid htn
          clear hst hq2 hb2 ho hb hq hn hgd
          go_wp2
          go_roundw
          case rel => exact ⟨t + 1, _, by omega, by go_num, by rw [List.length_set]; exact HN.out, trivial, HB2.out, HQ2.out, HST.out⟩
          case measure => simp [intOf]; omega
        · obtain rfl : t = m := by omega
          have hr := R3.out.on hb
          have hrd := RdZ.ofOwn ho
          have HRD := Lib.hid hrd; have HRR := Lib.hid hr; have HQ := Lib.hid hq; have HN := Lib.hid hn; have HGD := Lib.hid hgd
          clear hrd hr hq ho hb hn hgd
          go_wp2_with fail
          go_meet
          have hn := HN.out
          subst hn
          exact ⟨⟨some ⟨w.heap.size + 1, 0, none⟩, 1, [mA ⟨#[116]⟩ ⟨#[97]⟩ 0], some ⟨w.heap.size + 1 + 1, 0, none⟩, 1, [(1, ⟨#[120]⟩)], some ⟨W3.heap.size, 0, none⟩, N.length, N⟩, wr.heap.size, HQ.out, ⟨HRR.out.muts.up (by have := HRR.out.size; omega), HRR.out.notes.up (by have := HRR.out.size; omega), HRD.out, Nat.le_refl _, Nat.le_refl _⟩, Nat.le_refl _, ⟨fun y hy => by rw [List.mem_singleton.1 hy]; exact muf_one _ _ _ (by decide), fun y hy => by rw [List.mem_singleton.1 hy]; exact lt_max (by decide), by simp, by simp, by have := M8.out; show N.length ≤ 1000000; omega⟩, not_ok (Or.inr (Or.inr (by rw [decide_eq_false (show ¬ N.length ≤ 300 by have := M9.out; omega)]; rfl))), HRR.out.below⟩
  case rest =>
    obtain ⟨x, B9, hz9, hl9, hB9, hf9, hbad, hbel⟩ := hcut
    have y0 := cell_at (i := 0) hz9 rfl
    have y1 := cell_at (i := 1) hz9 rfl
    have y2 := cell_at (i := 2) hz9 rfl
    rename_i w9
    have N1 := pack_batch x B9 _ hl9 hB9 hf9
    rw [putBatch_no hbad] at N1
    have HZ9 := Lib.hid hz9; have HL9 := Lib.hid hl9; have HB9 := Lib.hid hB9; have HF9 := Lib.hid hf9; have HBAD := Lib.hid hbad; have HBEL := Lib.hid hbel; have HN1 := Lib.hid N1
    clear hz9 hl9 hB9 hf9 hbad hbel N1 R3 ZB u0 u1 u2 u3
    go_wp2_with fail
    refine HN1.out.mono ?_
    rintro e wA ⟨rfl, bA⟩
    have hzA := (bA.block _ (Array.getElem?_eq_some_iff.1 HZ9.out).1).trans HZ9.out
    have HLA := Lib.hid (HL9.out.below (bA.mono HB9.out))
    have BA9 := Lib.hid (next HBEL.out bA)
    have HBA := Lib.hid (Nat.le_trans HB9.out bA.size)
    clear y0 y1 y2 bA
    have y0 := cell_at (i := 0) hzA rfl
    have y1 := cell_at (i := 1) hzA rfl
    have y2 := cell_at (i := 2) hzA rfl
    clear hzA
    go_wp2_with fail
    refine (checkBatch_any x B9 wA HLA.out HBA.out HF9.out).mono ?_
    rintro e wB ⟨rfl, bB⟩
    rw [HBAD.out]
    have BB9 := Lib.hid (next BA9.out bB)
    clear bB
    go_wp2_with fail
    refine (awake9_any _).mono ?_
    rintro e wC ⟨rfl, bC⟩
    have BC9 := Lib.hid (next BB9.out bC)
    clear bC
    go_wp2
    go_ret
    exact ⟨rfl, BC9.out⟩
end Go.Proofs.Ytbfkbfbcaileoaa
set_option linter.unusedVariables false
namespace Go.Proofs.Ytbfkbfbcaileoaa.lawPackRefuses
open Go Go.ChangeShapes Go.WideShapes Go.ChangeAt Go.RowKit
open Go.ChangeMaps (open_string shut_string)

theorem own : ownKnob Try.prog.godebug = none := by kernel_rfl
theorem laidOut : laidOutB Try.prog = true := by kernel_rfl

set_option maxRecDepth 100000 in
theorem lifted (os : Os) (started : os.Started) (H : Type) (enc : TypeId × Value → H) :
    ReturnsInHanded {} Try.checked os 5 .any (Rows.packRefusesSpec.pre6 enc Try.prog Try.f5 Rows.packRefusesRow.domain false) (Rows.packRefusesSpec.post enc Try.prog Try.f5 false true false false) := by
  refine returnsInHanded_of_change (C := Try.checked) own started (by kernel_rfl) Try.func5
    (ChangeSpec.witness6 (enc := enc) (C := Try.checked) false ⟨#[], #[.int .i64 0, .int .i64 0], []⟩ 8 (by kernel_rfl) (by kernel_rfl) (by kernel_rfl) (by kernel_rfl)) ?_
  intro W base args ds gs before hval0 hW hcnd _
  have hval : ∀ (j : Nat) t v, Try.f5.params[j]? = some t → args[j]? = some v → Value.okWide Try.prog W .any base t v := hval0
  have hW' := hW
  obtain ⟨p, q, hA0, hV, rfl, hfz, hnd⟩ := hW
  have hA : DataW.TrodAll enc Try.prog W 0 (fun _ => true) true Try.f5.params.toList args.toList ds p := hA0
  rw [Try.params5] at hA hval
  obtain ⟨v0, vs0, d0, ds0, p0, q0, hargs, rfl, rfl, h0, r0⟩ := trodAll_cons hA
  obtain ⟨v1, vs1, d1, ds1, p1, q1, rfl, rfl, rfl, h1, r1⟩ := trodAll_cons r0
  obtain ⟨rfl, rfl, rfl⟩ := trodAll_nil r1
  obtain rfl : args = #[v0, v1] := by cases args; simp_all
  obtain ⟨rfl, rfl⟩ := trodVars_none hV
  obtain ⟨a0, rfl, rfl, rfl, w0⟩ := open_int Try.underlying3 (hval 0 3 v0 rfl rfl) h0
  obtain ⟨a1, rfl, rfl, rfl, w1⟩ := open_int Try.underlying3 (hval 1 3 v1 rfl rfl) h1
  clear hA0 hval0
  refine (refuses_law a0 a1 W w0 w1).mono fun e W' ⟨he, bel⟩ => ?_
  subst he
  exact ⟨_, rfl, _, _, _, [], _, [], hW', trodAll_mk1 (shut_bool Try.underlying4 _), (trodAll_cons_mk (shut_int Try.underlying3 w0) (trodAll_cons_mk (shut_int Try.underlying3 w1) trodAll_mk0)), rfl, bel.frame _, fun h => by cases h⟩

theorem over : Rows.packRefusesRow.holds Try.pinned (OpenSpec.ofChange Rows.packRefusesSpec) :=
  OpenClaim.holds_of_wide 5 Try.f5 rfl rfl rfl rfl rfl rfl rfl ⟨rfl, rfl, rfl, rfl, rfl⟩ rfl rfl rfl rfl rfl (by kernel_rfl) Try.func5 (by kernel_rfl)
    (of_decide_eq_true (by kernel_rfl)) (by unfold Func.isWrapper; first | (rw [if_pos (by decide +kernel)]; kernel_rfl) | (rw [if_neg (by decide +kernel)]; exact ⟨rfl, rfl⟩))
    (fun os started H enc _ => lifted os started H enc)

theorem proved : Rows.PackRefusesSaid := over
end Go.Proofs.Ytbfkbfbcaileoaa.lawPackRefuses
