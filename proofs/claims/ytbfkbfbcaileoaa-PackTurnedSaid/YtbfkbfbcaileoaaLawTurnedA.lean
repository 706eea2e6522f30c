/-
  A partition by numbers.
-/
import Derived.Test.YtbfkbfbcaileoaaTkl
import Derived.Test.YtbfkbfbcaileoaaGt1
import Derived.Test.YtbfkbfbcaileoaaSab
import Derived.Test.YtbfkbfbcaileoaaPt6
import Derived.Test.YtbfkbfbcaileoaaRoK
import Derived.Test.YtbfkbfbcaileoaaPo
import Derived.Test.YtbfkbfbcaileoaaPa
import Derived.Test.YtbfkbfbcaileoaaRw7
import Derived.Laws.CopyOwn
import Derived.Test.YtbfkbfbcaileoaaPp
import Derived.Test.YtbfkbfbcaileoaaPk
import Derived.Test.YtbfkbfbcaileoaaPt4
import Derived.Test.YtbfkbfbcaileoaaCeA
import Derived.Test.YtbfkbfbcaileoaaKq
import Derived.Lib.SmallJoins
import Derived.Test.YtbfkbfbcaileoaaCeOk
import Derived.Test.YtbfkbfbcaileoaaRoB
import Derived.Test.YtbfkbfbcaileoaaCe5
import Derived.Deep.DeepCutAuto
import Derived.Test.YtbfkbfbcaileoaaRgz
import Derived.Test.YtbfkbfbcaileoaaOb
import Derived.Test.YtbfkbfbcaileoaaSl
import Derived.Test.YtbfkbfbcaileoaaPlc
import Derived.Laws.Bits64
import Derived.LoopTactic
import Derived.Outline
import Derived.WalkSpells
import Derived.Test.YtbfkbfbcaileoaaRoU
import Derived.Test.YtbfkbfbcaileoaaRoL
set_option linter.unusedVariables false
set_option linter.unusedSimpArgs false
namespace Go.Proofs.Ytbfkbfbcaileoaa
open Go Go.RowKit

set_option maxHeartbeats 1000000 in
theorem ystamp (q i n c : Nat) (e : Int) (A : Option Addr) (l : Bs) (w : World) (h : RY w q A n c l i e) (hi : i ≤ n) (hs : n ≤ 1000000000) :
    Calls Try.prog 50 #[.pointer (some ⟨q, 0, none⟩)] w fun x w' => ∃ (v : Int) (j : Nat) (f : Int), x = .returned (.int .i64 v) ∧ Stm v ∧ (f ≠ 0 → v = 0) ∧ j ≤ n ∧ RY w' q A n c l j f ∧ KeptQ q w w' ∧ Went numP l i e v j f := by
  have hl := h.len
  go_enter Try.func50, Try.ntmps50
  go_wp2_with fail
  refine (ynum q i n c e A l w h hi hs).mono ?_
  rintro x w1 ⟨v, j, f, rfl, hv, hf0, hj, h1, k1, hw⟩
  by_cases hb : 1099511627776 < v
  · have hf : f = 0 := Decidable.byContradiction fun hf => by have := hf0 hf; omega
    subst hf
    have d1 : decide ((1099511627776 : Int) < (v : Int)) = true := by simp; omega
    have d2 : decide (1099511627776 < v) = true := by simp; omega
    have hw2 : Went numP l i e (0 : Int) j 6 := by
      have h2 := hw.bind (q := fun (v : Nat) (l : Bs) => if 1099511627776 < v then (.error 6 : Except Int (Int × Bs)) else .ok ((v : Int), l)) (Went.wrong (0 : Int) 6 (by decide) hw.len fun _ => if_pos hb)
      rw [if_pos rfl] at h2
      exact h2
    obtain ⟨_, _, c2⟩ := h1.cells
    have f2 := h1.thaw 2
    have HW := Lib.hid hw2; have H2 := Lib.hid (h1.put2 6); have K2 := Lib.hid (k1.on (Kept.setCell (fun k => k = q) w1 ⟨q, 2, none⟩ (.int .i64 6) rfl)); have HJ := Lib.hid hj
    clear hw hw2 h1 k1 h hi hs hl hf0 hj hb
    go_wp2
    go_ret
    exact ⟨0, j, 6, rfl, ⟨by omega, by omega⟩, fun _ => rfl, HJ.out, H2.out, K2.out, HW.out⟩
  · have d1 : decide ((1099511627776 : Int) < (v : Int)) = false := by simp; omega
    have d2 : decide (1099511627776 < v) = false := by simp; omega
    have hc : IntKind.i64.wrap (v : Int) = (v : Int) := by rw [IntKind.wrap_i64]; omega
    have hw2 : Went numP l i e (v : Int) j f := by
      have h3 := hw.bind (q := fun (v : Nat) (l : Bs) => if 1099511627776 < v then (.error 6 : Except Int (Int × Bs)) else .ok ((v : Int), l)) (y := (v : Int)) (k := j) (g := f) ⟨fun _ => Nat.le_refl _, hw.len, fun _ => rfl, fun _ _ => if_neg hb, fun h h' => absurd h h'⟩
      exact h3
    have HW := Lib.hid hw2; have H1 := Lib.hid h1; have K1 := Lib.hid k1; have HJ := Lib.hid hj
    have HF : Hid (f ≠ 0 → (v : Int) = 0) := Lib.hid fun h => by have := hf0 h; omega
    clear hw hw2 h1 k1 h hi hs hl hf0 hj
    go_wp2
    go_ret
    exact ⟨v, j, f, rfl, ⟨by omega, by omega⟩, HF.out, HJ.out, H1.out, K1.out, HW.out⟩
set_option maxHeartbeats 1000000 in
theorem ycount (q i n c : Nat) (e : Int) (A : Option Addr) (l : Bs) (w : World) (h : RY w q A n c l i e) (hi : i ≤ n) (hs : n ≤ 1000000000) :
    Calls Try.prog 75 #[.pointer (some ⟨q, 0, none⟩)] w fun x w' => ∃ (v j : Nat) (f : Int), x = .returned (.int .i64 v) ∧ v ≤ n - j ∧ (f ≠ 0 → v = 0) ∧ j ≤ n ∧ RY w' q A n c l j f ∧ KeptQ q w w' ∧ Went cntP l i e v j f := by
  have hl := h.len
  go_enter Try.func75, Try.ntmps75
  go_wp2_with fail
  refine (ynum q i n c e A l w h hi hs).mono ?_
  rintro x w1 ⟨v, j, f, rfl, hv, hf0, hj, h1, k1, hw⟩
  obtain ⟨m, hm⟩ : ∃ m, j + m = n := ⟨n - j, by omega⟩
  have hdl : (l.drop j).length = m := by rw [List.length_drop]; omega
  have x1 : IntKind.i64.wrap ((n : Int) - (j : Int)) = (m : Int) := by rw [IntKind.wrap_i64]; omega
  have x2 : IntKind.u64.wrap (m : Int) = (m : Int) := by rw [IntKind.wrap_u64]; omega
  have hc : ∀ w', Below w1.heap.size w1 w' → w'.cell? ⟨q, 0, none⟩ = some (.slice A n c) ∧ w'.cell? ⟨q, 1, none⟩ = some (.int .i64 j) ∧ w'.cell? ⟨q, 2, none⟩ = some (.int .i64 f) := fun w' hb => (h1.below hb).cells
  have HC := Lib.hid hc; have H1 := Lib.hid h1; have K1 := Lib.hid k1; have HM := Lib.hid hm; have HJ := Lib.hid hj
  by_cases hb : m < v
  · have hf : f = 0 := Decidable.byContradiction fun hf => by have := hf0 hf; omega
    subst hf
    have d1 : decide ((m : Int) < (v : Int)) = true := by simp; omega
    have d2 : decide (m < v) = true := by simp; omega
    have hw2 : Went cntP l i e (0 : Nat) j 8 := by
      have h2 := hw.bind (q := fun (v : Nat) (l : Bs) => if l.length < v then (.error 8 : Except Int (Nat × Bs)) else .ok (v, l)) (Went.wrong (0 : Nat) 8 (by decide) hw.len fun _ => by rw [hdl, if_pos hb])
      rw [if_pos rfl] at h2
      exact h2
    have HW := Lib.hid hw2
    clear hw hw2 h1 k1 h hi hs hc hm hdl hj hb hl hf0
    go_wp2_with fail
    refine wp_region_held_drew (S := fun w' => Below w1.heap.size w1 w') (by kernel_rfl) ?_ (fun hHeld => ?_)
    · exact (Below.refl _ _).drew
    refine takesH [0, 1, 2, 3, 4, 5, 6, 7, 8, 9, 10, 11, 12] ?_
    repeat
      refine takesH_one (v := ?_) ?_ ?_
      rotate_left
      · first | (refine Or.inr ⟨by rfl, ?_⟩; with_reducible rfl) | (refine Or.inl ⟨by rfl, ?_⟩; intro wx hSw; (try dsimp only at hSw); first | (go_simp; first | done | with_reducible rfl) | (obtain ⟨_, _, _⟩ := HC.out _ hSw; go_simp; first | done | with_reducible rfl))
      try simp only [Act.put, List.getElem_toArray, List.getElem_cons_succ, List.getElem_cons_zero, List.setIfInBounds_toArray, List.set_cons_zero, List.set_cons_succ]
    refine takesH_nil ?_
    refine wpAnyH_done (by kernel_rfl) ?_ _
    have h2 := H1.out.below hHeld
    obtain ⟨U, hU⟩ : ∃ U, U = w1.drew := ⟨_, rfl⟩
    have hkU : KeptQ q w1 U := by rw [hU]; exact (Kept.refl _ _).drew
    have h2 : RY U q A n c l j 0 := by rw [hU]; exact H1.out.drew
    rw [← hU]
    obtain ⟨_, _, c2⟩ := h2.cells
    have f2 := h2.thaw 2
    have H3 := Lib.hid (h2.put2 8)
    have K3 := Lib.hid ((K1.out.on hkU).on (Kept.setCell (fun k => k = q) U ⟨q, 2, none⟩ (.int .i64 8) rfl))
    clear hHeld h2 hU hkU
    go_wp2
    go_ret
    exact ⟨0, j, 8, rfl, Nat.zero_le _, fun _ => rfl, HJ.out, H3.out, K3.out, HW.out⟩
  · have d1 : decide ((m : Int) < (v : Int)) = false := by simp; omega
    have d2 : decide (m < v) = false := by simp; omega
    have x3 : IntKind.i64.wrap (v : Int) = (v : Int) := by rw [IntKind.wrap_i64]; omega
    have hw2 : Went cntP l i e v j f := by
      have h3 := hw.bind (q := fun (v : Nat) (l : Bs) => if l.length < v then (.error 8 : Except Int (Nat × Bs)) else .ok (v, l)) (y := v) (k := j) (g := f) ⟨fun _ => Nat.le_refl _, hw.len, fun _ => rfl, fun _ _ => by rw [hdl]; exact if_neg hb, fun h h' => absurd h h'⟩
      exact h3
    have HW := Lib.hid hw2
    have HV : Hid (v ≤ n - j) := Lib.hid (by omega)
    have HF := Lib.hid hf0
    clear hw hw2 h1 k1 h hi hs hc hm hdl hj hb hl hf0
    go_wp2_with fail
    refine wp_region_held_drew (S := fun w' => Below w1.heap.size w1 w') (by kernel_rfl) ?_ (fun hHeld => ?_)
    · exact (Below.refl _ _).drew
    refine takesH [0, 1, 2, 3, 4, 5, 6, 7, 8, 9, 10, 11, 12] ?_
    repeat
      refine takesH_one (v := ?_) ?_ ?_
      rotate_left
      · first | (refine Or.inr ⟨by rfl, ?_⟩; with_reducible rfl) | (refine Or.inl ⟨by rfl, ?_⟩; intro wx hSw; (try dsimp only at hSw); first | (go_simp; first | done | with_reducible rfl) | (obtain ⟨_, _, _⟩ := HC.out _ hSw; go_simp; first | done | with_reducible rfl))
      try simp only [Act.put, List.getElem_toArray, List.getElem_cons_succ, List.getElem_cons_zero, List.setIfInBounds_toArray, List.set_cons_zero, List.set_cons_succ]
    refine takesH_nil ?_
    refine wpAnyH_done (by kernel_rfl) ?_ _
    have H2 := Lib.hid (H1.out.below hHeld)
    have K2 := Lib.hid (K1.out.on (show KeptQ q w1 w1.drew from Kept.of_below hHeld _))
    clear hHeld
    go_wp2
    go_ret
    exact ⟨v, j, f, rfl, HV.out, HF.out, HJ.out, H2.out, K2.out, HW.out⟩
theorem sl_lhm {w : World} {B n : Nat} {A : Option Addr} {l : List UInt8} (h : Rd w B A n l) {c : Nat} (hn : n ≤ c) (x y z : Int) (lo hi : Nat) (ex : x = (lo : Nat)) (ey : y = (hi : Nat)) (ez : z = (hi : Nat)) (h1 : lo ≤ hi) (h2 : hi ≤ n) :
    ∃ A', (∀ wx : World, (Instr.slice 33 (.slice A n c) (some (.int .i64 x)) (some (.int .i64 y)) (some (.int .i64 z))).run Try.prog wx = .ok (.slice A' (hi - lo) (hi - lo)) wx) ∧ Rd w B A' (hi - lo) ((l.take hi).drop lo) ∧ (A' = none → hi - lo = 0 ∨ A = none) := by
  refine ⟨if hi = lo then A else A.map (·.add lo), fun wx => ?_, h.cut h1 h2 (Nat.le_refl _), fun hA => ?_⟩
  · obtain ⟨i, hi', hz0, hz1, hz2⟩ := info_parts infoB
    subst ex
    subst ey
    subst ez
    rw [run_slice_lhm (P := Try.prog) (t := 33) (ht := by rw [sizeB]; exact Try.underlying33) (h0 := by omega) (h1 := by omega) (h2 := by omega) (h3 := by omega), sizeB]
    simp [sizeOf, typeInfo, hi', hz1, sliced, Result.andThen]
  · split at hA
    · exact Or.inr hA
    · cases A with
      | none => exact Or.inr rfl
      | some a => cases hA
end Go.Proofs.Ytbfkbfbcaileoaa
set_option linter.unusedVariables false
set_option linter.unusedSimpArgs false
namespace Go.Proofs.Ytbfkbfbcaileoaa
open Go Go.RowKit

set_option maxHeartbeats 1600000 in
theorem ybytes (q i n c : Nat) (e : Int) (A : Option Addr) (l : Bs) (w : World) (h : RY w q A n c l i e) (hi : i ≤ n) (hs : n ≤ 1000000000) :
    Calls Try.prog 73 #[.pointer (some ⟨q, 0, none⟩)] w fun x w' => ∃ (A' : Option Addr) (m : Nat) (k : Bs) (j : Nat) (f : Int), x = .returned (.slice A' m m) ∧ m ≤ n ∧ Rd w' q A' m k ∧ (A' = none → m = 0) ∧ (f ≠ 0 → m = 0) ∧ j ≤ n ∧ RY w' q A n c l j f ∧ KeptQ q w w' ∧ Went bodyP l i e k j f := by
  have hl := h.len
  go_enter Try.func73, Try.ntmps73
  go_wp2_with fail
  refine (ycount q i n c e A l w h hi hs).mono ?_
  rintro x w1 ⟨v, j, f, rfl, hv, hf0, hj, h1, k1, hw⟩
  have hjv : j + v ≤ n := by omega
  have x1 : IntKind.i64.wrap ((j : Int) + (v : Int)) = (j : Int) + (v : Int) := by rw [IntKind.wrap_i64]; omega
  obtain ⟨c0, c1, c2⟩ := h1.cells
  have f1 := h1.thaw 1
  have h2 := h1.put1 (j + v)
  have D1 := Lib.hid (show (j : Int) + (v : Int) = ((j + v : Nat) : Int) by omega)
  have h2 : RY (w1.setCell ⟨q, 1, none⟩ (.int .i64 ((j : Int) + (v : Int)))) q A n c l (j + v) f := by rw [D1.out]; exact h2
  have k2 : KeptQ q w (w1.setCell ⟨q, 1, none⟩ (.int .i64 ((j : Int) + (v : Int)))) := k1.on (Kept.setCell (fun k => k = q) w1 _ _ rfl)
  have hw2 : Went bodyP l i e ((l.drop j).take v) (j + v) f := by
    by_cases hf : f = 0
    · subst hf
      exact hw.bind (q := fun (n : Nat) (l : Bs) => (.ok (l.take n, l.drop n) : Except Int (Bs × Bs))) (y := (l.drop j).take v) (k := j + v) (g := 0) ⟨fun _ => by omega, by omega, fun h => absurd rfl h, fun _ _ => by rw [List.drop_drop], fun _ h => absurd rfl h⟩
    · exact hw.bind (Went.lost _ hf (by omega))
  have H2 := Lib.hid h2; have K2 := Lib.hid k2; have HW := Lib.hid hw2; have HJV := Lib.hid hjv; have HV := Lib.hid hv; have HF := Lib.hid hf0
  clear h1 k1 hw hv hf0 hj h hi hs hl h2 k2 hw2 hjv
  go_wp2_with fail
  obtain ⟨U, hU⟩ : ∃ U, U = w1.setCell ⟨q, 1, none⟩ (.int .i64 ((j : Int) + (v : Int))) := ⟨_, rfl⟩
  rw [← hU] at H2 K2 ⊢
  clear hU c0 c1 c2 f1
  obtain ⟨A', hsl, hrd, hA⟩ := sl_lhm H2.out.rd H2.out.cap (j : Int) ((j : Int) + (v : Int)) ((j : Int) + (v : Int)) j (j + v) rfl D1.out D1.out (by omega) HJV.out
  have hvv : j + v - j = v := by omega
  rw [hvv] at hsl hrd hA
  rw [List.take_add, List.drop_append_of_le_length (by rw [List.length_take]; have := H2.out.len; have := HJV.out; omega)] at hrd
  have hcells : ∀ w', Below U.heap.size U w' → w'.cell? ⟨q, 0, none⟩ = some (.slice A n c) ∧ w'.cell? ⟨q, 1, none⟩ = some (.int .i64 ((j : Int) + (v : Int))) ∧ w'.cell? ⟨q, 2, none⟩ = some (.int .i64 f) := fun w' hb => by
    have h := (H2.out.below hb).cells
    rw [← D1.out] at h
    exact h
  have hnl : (List.drop j (List.take j l)) = [] := List.drop_eq_nil_of_le (by rw [List.length_take]; omega)
  rw [hnl, List.nil_append] at hrd
  have HC := Lib.hid hcells; have HRD := Lib.hid hrd; have HA := Lib.hid hA
  clear hcells hrd hA hvv hnl x1
  refine wp_region_held_drew (S := fun w' => Below U.heap.size U w') (by kernel_rfl) ?_ (fun hHeld => ?_)
  · exact (Below.refl _ _).drew
  refine takesH [0, 1, 2, 3, 4, 5, 6, 7, 8, 9, 10, 11, 12, 13, 14] ?_
  repeat
    refine takesH_one (v := ?_) ?_ ?_
    rotate_left
    · first | (refine Or.inr ⟨by rfl, ?_⟩; with_reducible rfl) | (refine Or.inl ⟨by rfl, ?_⟩; intro wx hSw; (try dsimp only at hSw); first | (go_simp; first | done | with_reducible rfl) | (obtain ⟨_, _, _⟩ := HC.out _ hSw; go_simp; first | done | with_reducible rfl))
    try simp only [Act.put, List.getElem_toArray, List.getElem_cons_succ, List.getElem_cons_zero, List.setIfInBounds_toArray, List.set_cons_zero, List.set_cons_succ]
  refine takesH_nil ?_
  refine wpAnyH_done (by kernel_rfl) ?_ _
  have H3 := Lib.hid (H2.out.below hHeld)
  have HRD3 := Lib.hid (HRD.out.below (hHeld.mono (Nat.le_of_lt H2.out.lt)))
  have K3 := Lib.hid (K2.out.on (show KeptQ q U U.drew from Kept.of_below hHeld _))
  clear hHeld hsl
  go_wp2
  go_ret
  refine ⟨A', v, (l.drop j).take v, j + v, f, rfl, by have := HJV.out; omega, HRD3.out, fun hn => ?_, HF.out, HJV.out, H3.out, K3.out, HW.out⟩
  rcases HA.out hn with h | h
  · exact h
  · have h1 := H2.out.nil h
    have h2 := H2.out.cap
    have h3 := HJV.out
    omega
set_option maxHeartbeats 1600000 in
theorem ytext (q i n c : Nat) (e : Int) (A : Option Addr) (l : Bs) (w : World) (h : RY w q A n c l i e) (hi : i ≤ n) (hs : n ≤ 1000000000) :
    Calls Try.prog 49 #[.pointer (some ⟨q, 0, none⟩)] w fun x w' => ∃ (v : ByteArray) (j : Nat) (f : Int), x = .returned (.string v) ∧ v.size ≤ n ∧ j ≤ n ∧ RY w' q A n c l j f ∧ KeptQ q w w' ∧ Went txtP l i e v j f := by
  go_enter Try.func49, Try.ntmps49
  go_wp2_with fail
  refine (ybytes q i n c e A l w h hi hs).mono ?_
  rintro x w1 ⟨A', m, k, j, f, rfl, hm, hrd, hA, hf0, hj, h1, k1, hw⟩
  have hcv := cv_string hrd m
  have hsz : (⟨k.toArray⟩ : ByteArray).size = m := by
    have := hrd.1
    show k.toArray.size = m
    simpa using this
  have hw2 : Went txtP l i e (⟨k.toArray⟩ : ByteArray) j f := hw.map (q := bsB)
  obtain ⟨T, hT⟩ : ∃ T : ByteArray, (⟨k.toArray⟩ : ByteArray) = T := ⟨_, rfl⟩
  rw [hT] at hcv hsz hw2
  have H1 := Lib.hid h1; have K1 := Lib.hid k1; have HW := Lib.hid hw2; have HJ := Lib.hid hj; have HSZ := Lib.hid (show T.size ≤ n by omega)
  clear hrd hA hf0 hj h1 k1 hw hw2 hT hsz h hi hs hm
  go_wp2
  go_ret
  exact ⟨T, j, f, rfl, HSZ.out, HJ.out, H1.out, K1.out, HW.out⟩
set_option maxHeartbeats 1600000 in
theorem yend (q i n c : Nat) (e : Int) (A : Option Addr) (l : Bs) (w : World) (h : RY w q A n c l i e) (hi : i ≤ n) :
    Calls Try.prog 48 #[.pointer (some ⟨q, 0, none⟩)] w fun x w' => x = .returned (.tuple #[]) ∧ RY w' q A n c l i (if e = 0 ∧ i < n then 6 else e) ∧ KeptQ q w w' := by
  have hc : ∀ w', Below w.heap.size w w' → w'.cell? ⟨q, 0, none⟩ = some (.slice A n c) ∧ w'.cell? ⟨q, 1, none⟩ = some (.int .i64 i) ∧ w'.cell? ⟨q, 2, none⟩ = some (.int .i64 e) := fun w' hb => (h.below hb).cells
  have HC := Lib.hid hc; have H := Lib.hid h
  clear hc h
  by_cases he : e = 0
  · subst he
    by_cases hlt : i < n
    · rw [if_pos ⟨rfl, hlt⟩]
      have d1 : decide ((i : Int) < (n : Int)) = true := by simp; omega
      have d2 : decide (i < n) = true := by simp; omega
      clear hi hlt
      go_enter Try.func48, Try.ntmps48
      go_wp2_with fail
      refine wp_region_held_drew (S := fun w' => Below w.heap.size w w') (by kernel_rfl) ?_ (fun hHeld => ?_)
      · exact (Below.refl _ _).drew
      refine takesH [0, 1, 2, 3, 4, 5, 6, 7, 8, 9, 10, 11, 12, 13, 14, 15, 16] ?_
      repeat
        refine takesH_one (v := ?_) ?_ ?_
        rotate_left
        · first | (refine Or.inr ⟨by rfl, ?_⟩; with_reducible rfl) | (refine Or.inl ⟨by rfl, ?_⟩; intro wx hSw; (try dsimp only at hSw); first | (go_simp; first | done | with_reducible rfl) | (obtain ⟨_, _, _⟩ := HC.out _ hSw; go_simp; first | done | with_reducible rfl))
        try simp only [Act.put, List.getElem_toArray, List.getElem_cons_succ, List.getElem_cons_zero, List.setIfInBounds_toArray, List.set_cons_zero, List.set_cons_succ]
      refine takesH_nil ?_
      refine wpAnyH_done (by kernel_rfl) ?_ _
      obtain ⟨U, hU⟩ : ∃ U, U = w.drew := ⟨_, rfl⟩
      have hkU : KeptQ q w U := by rw [hU]; exact (Kept.refl _ _).drew
      have h2 : RY U q A n c l i 0 := by rw [hU]; exact H.out.drew
      rw [← hU]
      obtain ⟨_, _, c2⟩ := h2.cells
      have f2 := h2.thaw 2
      have H3 := Lib.hid (h2.put2 6)
      have K3 := Lib.hid (hkU.on (Kept.setCell (fun k => k = q) U ⟨q, 2, none⟩ (.int .i64 6) rfl))
      clear hHeld h2 hU hkU
      go_wp2
      go_end0
      exact ⟨rfl, H3.out, K3.out⟩
    · rw [if_neg (fun h => hlt h.2)]
      have d1 : decide ((i : Int) < (n : Int)) = false := by simp; omega
      have d2 : decide (i < n) = false := by simp; omega
      clear hi hlt
      go_enter Try.func48, Try.ntmps48
      go_wp2_with fail
      refine wp_region_held_drew (S := fun w' => Below w.heap.size w w') (by kernel_rfl) ?_ (fun hHeld => ?_)
      · exact (Below.refl _ _).drew
      refine takesH [0, 1, 2, 3, 4, 5, 6, 7, 8, 9, 10, 11, 12, 13, 14, 15, 16] ?_
      repeat
        refine takesH_one (v := ?_) ?_ ?_
        rotate_left
        · first | (refine Or.inr ⟨by rfl, ?_⟩; with_reducible rfl) | (refine Or.inl ⟨by rfl, ?_⟩; intro wx hSw; (try dsimp only at hSw); first | (go_simp; first | done | with_reducible rfl) | (obtain ⟨_, _, _⟩ := HC.out _ hSw; go_simp; first | done | with_reducible rfl))
        try simp only [Act.put, List.getElem_toArray, List.getElem_cons_succ, List.getElem_cons_zero, List.setIfInBounds_toArray, List.set_cons_zero, List.set_cons_succ]
      refine takesH_nil ?_
      refine wpAnyH_done (by kernel_rfl) ?_ _
      have H3 := Lib.hid (H.out.below hHeld)
      have K3 := Lib.hid (show KeptQ q w w.drew from Kept.of_below hHeld _)
      clear hHeld
      go_wp2
      go_end0
      exact ⟨rfl, H3.out, K3.out⟩
  · rw [if_neg (fun h => he h.1)]
    have e0 : (e == 0) = false := by simp; exact he
    have e1 : decide (e = 0) = false := by simp; exact he
    clear hi
    go_enter Try.func48, Try.ntmps48
    go_wp2_with fail
    refine wp_region_held_drew (S := fun w' => Below w.heap.size w w') (by kernel_rfl) ?_ (fun hHeld => ?_)
    · exact (Below.refl _ _).drew
    refine takesH [0, 1, 2, 3, 4, 5, 6, 7, 8, 9, 10, 11, 12, 13, 14, 15, 16] ?_
    repeat
      refine takesH_one (v := ?_) ?_ ?_
      rotate_left
      · first | (refine Or.inr ⟨by rfl, ?_⟩; with_reducible rfl) | (refine Or.inl ⟨by rfl, ?_⟩; intro wx hSw; (try dsimp only at hSw); first | (go_simp; first | done | with_reducible rfl) | (obtain ⟨_, _, _⟩ := HC.out _ hSw; go_simp; first | done | with_reducible rfl))
      try simp only [Act.put, List.getElem_toArray, List.getElem_cons_succ, List.getElem_cons_zero, List.setIfInBounds_toArray, List.set_cons_zero, List.set_cons_succ]
    refine takesH_nil ?_
    refine wpAnyH_done (by kernel_rfl) ?_ _
    have H3 := Lib.hid (H.out.below hHeld)
    have K3 := Lib.hid (show KeptQ q w w.drew from Kept.of_below hHeld _)
    clear hHeld
    go_wp2
    go_end0
    exact ⟨rfl, H3.out, K3.out⟩
/-- What 'dead' tells of the byte at hand. -/
def deadF (b : UInt8) : Int := if b = 0 ∨ b = 1 then 0 else 6
set_option maxHeartbeats 1600000 in
theorem ydead (q i n c : Nat) (A : Option Addr) (l : Bs) (w : World) (h : RY w q A n c l i 0) (hi : i ≤ n) (hs : n ≤ 1000000000) :
    Calls Try.prog 92 #[.pointer (some ⟨q, 0, none⟩)] w fun x w' => ∃ (d : Bool) (j : Nat) (f : Int), x = .returned (.bool d) ∧ j ≤ n ∧ RY w' q A n c l j f ∧ KeptQ q w w' ∧ ((l.drop i = [] ∧ d = false ∧ f = 8 ∧ j = i) ∨ (∃ b r, l.drop i = b :: r ∧ j = i + 1 ∧ d = decide (b = 1) ∧ f = deadF b)) := by
  have hl := h.len
  have hc : ∀ w', Below w.heap.size w w' → w'.cell? ⟨q, 0, none⟩ = some (.slice A n c) ∧ w'.cell? ⟨q, 1, none⟩ = some (.int .i64 i) ∧ w'.cell? ⟨q, 2, none⟩ = some (.int .i64 0) := fun w' hb => (h.below hb).cells
  obtain ⟨_, _, _⟩ := h.cells
  have HC := Lib.hid hc; have H := Lib.hid h; have HL := Lib.hid hl
  clear hc
  by_cases hin : i = n
  · subst hin
    have hd : l.drop i = [] := List.drop_eq_nil_of_le (by omega)
    have HD := Lib.hid hd
    have d1 : ((i : Int) == (i : Int)) = true := by simp
    clear hd hi hl h
    go_enter Try.func92, Try.ntmps92
    go_wp2_with fail
    refine wp_region_held_drew (S := fun w' => Below w.heap.size w w') (by kernel_rfl) ?_ (fun hHeld => ?_)
    · exact (Below.refl _ _).drew
    refine takesH [0, 1, 2, 3, 4, 5, 6, 7, 8, 9] ?_
    repeat
      refine takesH_one (v := ?_) ?_ ?_
      rotate_left
      · first | (refine Or.inr ⟨by rfl, ?_⟩; with_reducible rfl) | (refine Or.inl ⟨by rfl, ?_⟩; intro wx hSw; (try dsimp only at hSw); first | (go_simp; first | done | with_reducible rfl) | (obtain ⟨_, _, _⟩ := HC.out _ hSw; go_simp; first | done | with_reducible rfl))
      try simp only [Act.put, List.getElem_toArray, List.getElem_cons_succ, List.getElem_cons_zero, List.setIfInBounds_toArray, List.set_cons_zero, List.set_cons_succ]
    refine takesH_nil ?_
    refine wpAnyH_done (by kernel_rfl) ?_ _
    obtain ⟨U, hU⟩ : ∃ U, U = w.drew := ⟨_, rfl⟩
    have hkU : KeptQ q w U := by rw [hU]; exact (Kept.refl _ _).drew
    have h2 : RY U q A i c l i 0 := by rw [hU]; exact H.out.drew
    rw [← hU]
    obtain ⟨_, _, c2⟩ := h2.cells
    have f2 := h2.thaw 2
    have H3 := Lib.hid (h2.put2 8)
    have K3 := Lib.hid (hkU.on (Kept.setCell (fun k => k = q) U ⟨q, 2, none⟩ (.int .i64 8) rfl))
    clear hHeld h2 hU hkU
    go_wp2
    go_ret
    exact ⟨false, i, 8, rfl, Nat.le_refl _, H3.out, K3.out, Or.inl ⟨HD.out, rfl, rfl, rfl⟩⟩
  · have hlt : i < n := by omega
    have hil : i < l.length := by omega
    have i0 : (0 : Int) ≤ i := by omega
    have i1 : (i : Int) < n := by omega
    have d1 : ((i : Int) == (n : Int)) = false := by simp; omega
    have d2 : decide ((i : Int) = (n : Int)) = false := by simp; omega
    have d3 : (i == n) = false := by simp; omega
    have wi : IntKind.i64.wrap ((i : Int) + 1) = (i : Int) + 1 := by rw [IntKind.wrap_i64]; omega
    have hcons := List.drop_eq_getElem_cons hil
    obtain ⟨g, o, hA, hg, hcb⟩ := h.rd.at2 hlt
    have hby := hcb i hil
    obtain ⟨b, hb⟩ : ∃ b, l[i] = b := ⟨_, rfl⟩
    rw [hb] at hby hcons
    obtain ⟨x, hx⟩ : ∃ x : Int, ((b.toNat : Nat) : Int) = x := ⟨_, rfl⟩
    rw [hx] at hby
    have HX := Lib.hid hx
    subst hA
    have hc6 : ∀ w', Below w.heap.size w w' → (w'.cell? ⟨q, 0, none⟩ = some (.slice (some ⟨g, o, none⟩) n c) ∧ w'.cell? ⟨q, 1, none⟩ = some (.int .i64 i) ∧ w'.cell? ⟨q, 2, none⟩ = some (.int .i64 0)) ∧ w'.cell? ⟨g, o + i, none⟩ = some (.int .u8 x) := fun w' hb => ⟨(h.below hb).cells, (hb.cell (p := ⟨g, o + i, none⟩) (by have := h.lt; show g < w.heap.size; omega)).trans hby⟩
    have HC6 := Lib.hid hc6; have HCONS := Lib.hid hcons; have HIN := Lib.hid (show i + 1 ≤ n by omega)
    clear hc6 hcons hby hcb hb hl h hi hin hlt hil hg hx
    go_enter Try.func92, Try.ntmps92
    go_wp2_with fail
    refine wp_region_held_drew (S := fun w' => Below w.heap.size w w') (by kernel_rfl) ?_ (fun hHeld => ?_)
    · exact (Below.refl _ _).drew
    refine takesH [0, 1, 2, 3, 4, 5, 6, 7, 8, 9] ?_
    repeat
      refine takesH_one (v := ?_) ?_ ?_
      rotate_left
      · first | (refine Or.inr ⟨by rfl, ?_⟩; with_reducible rfl) | (refine Or.inl ⟨by rfl, ?_⟩; intro wx hSw; (try dsimp only at hSw); first | (go_simp; first | done | with_reducible rfl) | (obtain ⟨_, _, _⟩ := HC.out _ hSw; go_simp; first | done | with_reducible rfl))
      try simp only [Act.put, List.getElem_toArray, List.getElem_cons_succ, List.getElem_cons_zero, List.setIfInBounds_toArray, List.set_cons_zero, List.set_cons_succ]
    refine takesH_nil ?_
    refine wpAnyH_done (by kernel_rfl) ?_ _
    by_cases h0 : x = 0
    · subst h0
      have hb0 : b = 0 := UInt8.toNat_inj.1 (by have := HX.out; show b.toNat = 0; omega)
      subst hb0
      go_wp2_with fail
      refine wp_region_held_drew (S := fun w' => Below w.heap.size w w') (by kernel_rfl) ?_ (fun hHeld => ?_)
      · exact hHeld.drew
      refine takesH [0, 1, 2, 3, 4, 5, 6, 7, 8, 9, 10] ?_
      repeat
        refine takesH_one (v := ?_) ?_ ?_
        rotate_left
        · first | (refine Or.inr ⟨by rfl, ?_⟩; with_reducible rfl) | (refine Or.inl ⟨by rfl, ?_⟩; intro wx hSw; (try dsimp only at hSw); first | (go_simp; first | done | with_reducible rfl) | (obtain ⟨⟨_, _, _⟩, _⟩ := HC6.out _ hSw; go_simp; first | done | with_reducible rfl))
        try simp only [Act.put, List.getElem_toArray, List.getElem_cons_succ, List.getElem_cons_zero, List.setIfInBounds_toArray, List.set_cons_zero, List.set_cons_succ]
      refine takesH_nil ?_
      refine wpAnyH_done (by kernel_rfl) ?_ _
      obtain ⟨U, hU⟩ : ∃ U, U = w.drew.drew := ⟨_, rfl⟩
      have hkU : KeptQ q w U := by rw [hU]; exact (Kept.refl _ _).drew.drew
      have h2 : RY U q (some ⟨g, o, none⟩) n c l i 0 := by rw [hU]; exact H.out.drew.drew
      try rw [← hU]
      obtain ⟨_, c1, c2⟩ := h2.cells
      have f1 := h2.thaw 1
      have h3 : RY (U.setCell ⟨q, 1, none⟩ (.int .i64 ((i : Int) + 1))) q (some ⟨g, o, none⟩) n c l (i + 1) 0 := h2.put1 (i + 1)
      have k3 := hkU.on (Kept.setCell (fun k => k = q) U ⟨q, 1, none⟩ (.int .i64 ((i : Int) + 1)) rfl)
      have c5 := h3.cells.2.2
      have f5 := h3.thaw 2
      have H3 := Lib.hid h3; have K3 := Lib.hid k3
      clear hHeld h2 h3 k3 hU hkU
      go_wp2
      go_ret
      exact ⟨false, i + 1, 0, rfl, HIN.out, H3.out, K3.out, Or.inr ⟨0, _, HCONS.out, rfl, rfl, rfl⟩⟩
    · by_cases h1 : x = 1
      · subst h1
        have hb0 : b = 1 := UInt8.toNat_inj.1 (by have := HX.out; show b.toNat = 1; omega)
        subst hb0
        clear h0
        go_wp2_with fail
        refine wp_region_held_drew (S := fun w' => Below w.heap.size w w') (by kernel_rfl) ?_ (fun hHeld => ?_)
        · exact hHeld.drew
        refine takesH [0, 1, 2, 3, 4, 5, 6, 7, 8, 9, 10] ?_
        repeat
          refine takesH_one (v := ?_) ?_ ?_
          rotate_left
          · first | (refine Or.inr ⟨by rfl, ?_⟩; with_reducible rfl) | (refine Or.inl ⟨by rfl, ?_⟩; intro wx hSw; (try dsimp only at hSw); first | (go_simp; first | done | with_reducible rfl) | (obtain ⟨⟨_, _, _⟩, _⟩ := HC6.out _ hSw; go_simp; first | done | with_reducible rfl))
          try simp only [Act.put, List.getElem_toArray, List.getElem_cons_succ, List.getElem_cons_zero, List.setIfInBounds_toArray, List.set_cons_zero, List.set_cons_succ]
        refine takesH_nil ?_
        refine wpAnyH_done (by kernel_rfl) ?_ _
        obtain ⟨U, hU⟩ : ∃ U, U = w.drew.drew := ⟨_, rfl⟩
        have hkU : KeptQ q w U := by rw [hU]; exact (Kept.refl _ _).drew.drew
        have h2 : RY U q (some ⟨g, o, none⟩) n c l i 0 := by rw [hU]; exact H.out.drew.drew
        try rw [← hU]
        obtain ⟨_, c1, c2⟩ := h2.cells
        have f1 := h2.thaw 1
        have h3 : RY (U.setCell ⟨q, 1, none⟩ (.int .i64 ((i : Int) + 1))) q (some ⟨g, o, none⟩) n c l (i + 1) 0 := h2.put1 (i + 1)
        have k3 := hkU.on (Kept.setCell (fun k => k = q) U ⟨q, 1, none⟩ (.int .i64 ((i : Int) + 1)) rfl)
        have c5 := h3.cells.2.2
        have f5 := h3.thaw 2
        have H3 := Lib.hid h3; have K3 := Lib.hid k3
        clear hHeld h2 h3 k3 hU hkU
        go_wp2
        go_ret
        exact ⟨true, i + 1, 0, rfl, HIN.out, H3.out, K3.out, Or.inr ⟨1, _, HCONS.out, rfl, rfl, rfl⟩⟩
      · have e0 : (x == 0) = false := by simp; exact h0
        have e1 : (x == 1) = false := by simp; exact h1
        have n0 : (x != 0) = true := by simp; exact h0
        have n1 : (x != 1) = true := by simp; exact h1
        have nb0 : b ≠ 0 := fun e => h0 (by rw [← HX.out, e]; rfl)
        have nb1 : b ≠ 1 := fun e => h1 (by rw [← HX.out, e]; rfl)
        have HNB : Hid (false = decide (b = 1) ∧ (6 : Int) = deadF b) := Lib.hid ⟨(decide_eq_false nb1).symm, by unfold deadF; rw [if_neg (fun h => h.elim nb0 nb1)]⟩
        clear nb0 nb1
        go_wp2_with fail
        refine wp_region_held_drew (S := fun w' => Below w.heap.size w w') (by kernel_rfl) ?_ (fun hHeld => ?_)
        · exact hHeld.drew
        refine takesH [0, 1, 2, 3, 4, 5, 6, 7, 8, 9, 10] ?_
        repeat
          refine takesH_one (v := ?_) ?_ ?_
          rotate_left
          · first | (refine Or.inr ⟨by rfl, ?_⟩; with_reducible rfl) | (refine Or.inl ⟨by rfl, ?_⟩; intro wx hSw; (try dsimp only at hSw); first | (go_simp; first | done | with_reducible rfl) | (obtain ⟨⟨_, _, _⟩, _⟩ := HC6.out _ hSw; go_simp; first | done | with_reducible rfl))
          try simp only [Act.put, List.getElem_toArray, List.getElem_cons_succ, List.getElem_cons_zero, List.setIfInBounds_toArray, List.set_cons_zero, List.set_cons_succ]
        refine takesH_nil ?_
        refine wpAnyH_done (by kernel_rfl) ?_ _
        obtain ⟨U, hU⟩ : ∃ U, U = w.drew.drew := ⟨_, rfl⟩
        have hkU : KeptQ q w U := by rw [hU]; exact (Kept.refl _ _).drew.drew
        have h2 : RY U q (some ⟨g, o, none⟩) n c l i 0 := by rw [hU]; exact H.out.drew.drew
        try rw [← hU]
        obtain ⟨_, c1, c2⟩ := h2.cells
        have f1 := h2.thaw 1
        have h3 : RY (U.setCell ⟨q, 1, none⟩ (.int .i64 ((i : Int) + 1))) q (some ⟨g, o, none⟩) n c l (i + 1) 0 := h2.put1 (i + 1)
        have k3 := hkU.on (Kept.setCell (fun k => k = q) U ⟨q, 1, none⟩ (.int .i64 ((i : Int) + 1)) rfl)
        have c5 := h3.cells.2.2
        have f5 := h3.thaw 2
        have H3 := Lib.hid h3; have K3 := Lib.hid k3
        clear hHeld h2 h3 k3 hU hkU
        have H4 := Lib.hid (H3.out.put2 6)
        have K4 := Lib.hid (K3.out.on (Kept.setCell (fun k => k = q) _ ⟨q, 2, none⟩ (.int .i64 6) rfl))
        go_wp2
        go_ret
        exact ⟨false, i + 1, 6, rfl, HIN.out, H4.out, K4.out, Or.inr ⟨b, _, HCONS.out, rfl, HNB.out.1, HNB.out.2⟩⟩
end Go.Proofs.Ytbfkbfbcaileoaa
set_option linter.unusedVariables false
set_option linter.unusedSimpArgs false
namespace Go.Proofs.Ytbfkbfbcaileoaa
open Go Go.RowKit

theorem KeptQ.own {q p : Nat} {w w1 w2 : World} (h : KeptQ q w w1) (h' : Kept (fun k => k = p) w1 w2) (hp : w.heap.size ≤ p) : KeptQ q w w2 := Kept.trans h h' fun k hk => Or.inr (by subst hk; exact hp)
theorem KeptQ.new {q : Nat} {w w1 w2 : World} (h : KeptQ q w w1) (h' : Below w1.heap.size w1 w2) : KeptQ q w w2 := h.on (Kept.of_below h' _)
theorem Kept.atQ {F : Nat → Prop} {w w' : World} {k : Nat} {o : Obj} (h : Kept F w w') (hk : w.heap[k]? = some o) (hf : ¬ F k) : w'.heap[k]? = some o := (h.block k (Array.getElem?_eq_some_iff.1 hk).1 hf).trans hk
theorem Went.skipQ {α : Type} {p : Pz α} {q : Pz α} {l : Bs} {i k : Nat} {f : Int} {x : α} (h : Went q l (i + 1) 0 x k f) (hp : p (l.drop i) = q (l.drop (i + 1))) : Went p l i 0 x k f :=
  ⟨fun e => Nat.le_of_succ_le (h.le e), h.len, fun h => absurd rfl h, fun a b => hp.trans (h.ok a b), fun a b => hp.trans (h.no a b)⟩
theorem set4q_block {w : World} {q : Nat} {v0 v1 v2 v3 : Value} (h : w.heap[q]? = some (.cells #[v0, v1, v2, v3] 58 (0, 0))) (u0 u1 u2 u3 : Value) :
    ((((w.setCell ⟨q, 0, none⟩ u0).setCell ⟨q, 1, none⟩ u1).setCell ⟨q, 2, none⟩ u2).setCell ⟨q, 3, none⟩ u3).heap[q]? = some (.cells #[u0, u1, u2, u3] 58 (0, 0)) := by
  have m := Joins.block_setCell (i := 0) h u0
  simp only [List.setIfInBounds_toArray, List.set_cons_zero, List.set_cons_succ] at m
  have m1 := Joins.block_setCell (i := 1) m u1
  simp only [List.setIfInBounds_toArray, List.set_cons_zero, List.set_cons_succ] at m1
  have m2 := Joins.block_setCell (i := 2) m1 u2
  simp only [List.setIfInBounds_toArray, List.set_cons_zero, List.set_cons_succ] at m2
  have m3 := Joins.block_setCell (i := 3) m2 u3
  simp only [List.setIfInBounds_toArray, List.set_cons_zero, List.set_cons_succ] at m3
  exact m3
theorem one4q {w : World} {q : Nat} {v0 v1 v2 v3 : Value} (h : w.heap[q]? = some (.cells #[v0, v1, v2, v3] 58 (0, 0))) (u : Value) :
    (w.setCell ⟨q, 0, none⟩ u).heap[q]? = some (.cells #[u, v1, v2, v3] 58 (0, 0)) ∧ (w.setCell ⟨q, 1, none⟩ u).heap[q]? = some (.cells #[v0, u, v2, v3] 58 (0, 0)) ∧ (w.setCell ⟨q, 3, none⟩ u).heap[q]? = some (.cells #[v0, v1, v2, u] 58 (0, 0)) := by
  have m := Joins.block_setCell (i := 0) h u
  have m1 := Joins.block_setCell (i := 1) h u
  have m3 := Joins.block_setCell (i := 3) h u
  simp only [List.setIfInBounds_toArray, List.set_cons_zero, List.set_cons_succ] at m m1 m3
  exact ⟨m, m1, m3⟩
theorem kept_set4q {w : World} (q : Nat) (u0 u1 u2 u3 : Value) : Kept (fun k => k = q) w ((((w.setCell ⟨q, 0, none⟩ u0).setCell ⟨q, 1, none⟩ u1).setCell ⟨q, 2, none⟩ u2).setCell ⟨q, 3, none⟩ u3) :=
  (((Kept.setCell (fun k => k = q) w ⟨q, 0, none⟩ u0 rfl).trans (Kept.setCell (fun k => k = q) _ ⟨q, 1, none⟩ u1 rfl) fun _ h => Or.inl h).trans (Kept.setCell (fun k => k = q) _ ⟨q, 2, none⟩ u2 rfl) fun _ h => Or.inl h).trans (Kept.setCell (fun k => k = q) _ ⟨q, 3, none⟩ u3 rfl) fun _ h => Or.inl h
theorem tail_went {a ev : Int} (ha : a ≠ 0) {l : Bs} {j j2 j3 j4 : Nat} {f2 f3 f4 : Int} {v : ByteArray} (hj4 : j4 ≤ l.length)
    (hd : (l.drop j = [] ∧ false = false ∧ f2 = 8 ∧ j2 = j) ∨ (∃ b r, l.drop j = b :: r ∧ j2 = j + 1 ∧ false = decide (b = 1) ∧ f2 = deadF b))
    (h1 : Went txtP l j2 f2 v j3 f3) (h2 : Went numP l j3 f3 ev j4 f4) : Went (tailP a) l j 0 (⟨v, false, a, ev⟩ : Ce) j4 f4 := by
  have hcons : ∀ b r, l.drop j = b :: r → r = l.drop (j + 1) := fun b r hb => by
    rw [← List.drop_drop, hb]
    rfl
  rcases hd with ⟨h0, _, rfl, rfl⟩ | ⟨b, r, hb, rfl, hb1, rfl⟩
  · have e3 := h1.stays (by decide)
    have e4 := h2.stays (by rw [e3]; decide)
    rw [e4, e3]
    refine Went.bad _ 8 (by decide) hj4 ?_
    unfold tailP
    rw [if_neg ha, h0]
  · have hn1 : b ≠ 1 := fun e => by rw [e] at hb1; cases hb1
    by_cases h0 : b = 0
    · subst h0
      have hf : deadF 0 = 0 := rfl
      rw [hf] at h1
      have h3 := h1.bind (q := fun s => bindP numP fun e => retP (⟨s, false, a, e⟩ : Ce)) (h2.bind (q := fun e => retP (⟨v, false, a, e⟩ : Ce)) (Went.ret (⟨v, false, a, ev⟩ : Ce) h2.len f4))
      refine h3.skipQ ?_
      unfold tailP
      rw [if_neg ha, hb]
      dsimp only
      rw [if_pos rfl, hcons _ _ hb]
    · have hf : deadF b = 6 := by unfold deadF; rw [if_neg (fun h => h.elim h0 hn1)]
      rw [hf] at h1
      have e3 := h1.stays (by decide)
      have e4 := h2.stays (by rw [e3]; decide)
      rw [e4, e3]
      refine Went.bad _ 6 (by decide) hj4 ?_
      unfold tailP
      rw [if_neg ha, hb]
      dsimp only
      rw [if_neg h0, if_neg hn1]
set_option maxRecDepth 8000 in
set_option maxHeartbeats 2000000 in
theorem ycell (q i n c : Nat) (e : Int) (A : Option Addr) (l : Bs) (w : World) (h : RY w q A n c l i e) (hi : i ≤ n) (hs : n ≤ 1000000000) :
    Calls Try.prog 76 #[.pointer (some ⟨q, 0, none⟩)] w fun x w' => ∃ (y : Ce) (j : Nat) (f : Int), x = .returned (.agg #[.string y.s, .bool y.d, .int .i64 y.a, .int .i64 y.e]) ∧ y.s.size ≤ n ∧ j ≤ n ∧ RY w' q A n c l j f ∧ KeptQ q w w' ∧ Went cellP l i e y j f := by
  have hqw := h.lt
  have hl := h.len
  have bz := (Below.refl w.heap.size w).alloc (Nat.le_refl _) (.cells #[.string ⟨#[]⟩, .bool false, .int .i64 0, .int .i64 0] 58)
  have hz := heap_alloc_new w (.cells #[.string ⟨#[]⟩, .bool false, .int .i64 0, .int .i64 0] 58)
  have h0 := h.below bz
  obtain ⟨V, hV⟩ : ∃ V, V = w.alloc (.cells #[.string ⟨#[]⟩, .bool false, .int .i64 0, .int .i64 0] 58) := ⟨_, rfl⟩
  have hVs : V.heap.size = w.heap.size + 1 := by rw [hV]; simp
  rw [← hV] at bz hz h0
  have H0 := Lib.hid h0; have HZ0 := Lib.hid hz; have BZ := Lib.hid bz; have HVS := Lib.hid hVs; have HQ := Lib.hid hqw; have HS := Lib.hid hs; have HL := Lib.hid hl
  clear h bz hz h0 hVs hqw hs hl
  go_enter Try.func76, Try.ntmps76
  go_wp2_with fail
  rw [← hV]
  clear hV
  refine (ystamp q i n c e A l _ H0.out hi HS.out).mono ?_
  rintro x w1 ⟨a, j, f, rfl, ha, hf0, hj, h1, k1, hw⟩
  have hw1s : V.heap.size ≤ w1.heap.size := k1.size
  have hz1 := Kept.atQ k1 HZ0.out (by have := HQ.out; omega)
  have ba := (Below.refl w1.heap.size w1).alloc (Nat.le_refl _) (.cells #[.string ⟨#[]⟩, .bool false, .int .i64 a, .int .i64 0] 58)
  have hpu := heap_alloc_new w1 (.cells #[.string ⟨#[]⟩, .bool false, .int .i64 a, .int .i64 0] 58)
  have hzu := (ba.block w.heap.size (by have := HVS.out; omega)).trans hz1
  have hru := h1.below ba
  have hku : KeptQ q w (w1.alloc (.cells #[.string ⟨#[]⟩, .bool false, .int .i64 a, .int .i64 0] 58)) := KeptQ.new (KeptQ.on (Kept.of_below BZ.out _) k1) ba
  have hus : (w1.alloc (.cells #[.string ⟨#[]⟩, .bool false, .int .i64 a, .int .i64 0] 58)).heap.size = w1.heap.size + 1 := by simp
  have HSZ : Hid ((⟨#[]⟩ : ByteArray).size ≤ n) := Lib.hid (Nat.zero_le _)
  have l2 := cell_at (i := 2) hpu rfl
  by_cases ha0 : a = 0
  · have e1 : (a == 0) = true := by rw [ha0]; rfl
    have hw2 : Went cellP l i e (⟨⟨#[]⟩, false, a, 0⟩ : Ce) j f := hw.bind ((Went.ret (⟨⟨#[]⟩, false, a, 0⟩ : Ce) hw.len f).same fun _ => by rw [ha0]; rfl)
    have HW := Lib.hid hw2; have HP := Lib.hid hpu; have HZ := Lib.hid hzu; have HRB := Lib.hid hru; have HK := Lib.hid hku; have HJN := Lib.hid hj
    clear hw hw2 hpu hzu hru hku hus h1 k1 hz1 ba hi hw1s ha0 hf0
    have k0 := cell_at (i := 0) HP.out rfl
    have k1 := cell_at (i := 1) HP.out rfl
    have k2 := cell_at (i := 2) HP.out rfl
    have k3 := cell_at (i := 3) HP.out rfl
    have z0 := cell_at (i := 0) HZ.out rfl
    have z1 := cell_at (i := 1) HZ.out rfl
    have z2 := cell_at (i := 2) HZ.out rfl
    have z3 := cell_at (i := 3) HZ.out rfl
    have y0 := thawed_at (i := 0) HZ.out
    have y1 := thawed_at (i := 1) HZ.out
    have y2 := thawed_at (i := 2) HZ.out
    have y3 := thawed_at (i := 3) HZ.out
    have m9 := set4q_block HZ.out (.string (⟨#[]⟩ : ByteArray)) (.bool false) (.int .i64 a) (.int .i64 0)
    have n9 := kept_set4q (w := (w1.alloc (.cells #[.string ⟨#[]⟩, .bool false, .int .i64 a, .int .i64 0] 58))) w.heap.size (.string (⟨#[]⟩ : ByteArray)) (.bool false) (.int .i64 a) (.int .i64 0)
    have K9 := Lib.hid (HK.out.own n9 (Nat.le_refl _))
    have R9 := Lib.hid (RY.other HRB.out n9 HQ.out)
    clear n9
    go_wp2
    generalize (((World.setCell (w1.alloc (.cells #[.string ⟨#[]⟩, .bool false, .int .i64 a, .int .i64 0] 58)) ⟨w.heap.size, 0, none⟩ (.string (⟨#[]⟩ : ByteArray))).setCell ⟨w.heap.size, 1, none⟩ (.bool false)).setCell ⟨w.heap.size, 2, none⟩ (.int .i64 a)).setCell ⟨w.heap.size, 3, none⟩ (.int .i64 0) = w9 at m9 K9 R9 ⊢
    clear z0 z1 z2 z3 y0 y1 y2 y3 k0 k1 k2 k3
    have q0 := cell_at (i := 0) m9 rfl
    have q1 := cell_at (i := 1) m9 rfl
    have q2 := cell_at (i := 2) m9 rfl
    have q3 := cell_at (i := 3) m9 rfl
    refine bodyPost_ret (v := .agg #[.string (⟨#[]⟩ : ByteArray), .bool false, .int .i64 a, .int .i64 0]) ?_ rfl ?_
    · simp [results, Try.results76, go_sem, q0, q1, q2, q3]
    · exact ⟨⟨(⟨#[]⟩ : ByteArray), false, a, 0⟩, _, _, rfl, HSZ.out, HJN.out, R9.out, K9.out, HW.out⟩
  · have e1 : (a == 0) = false := by simp; exact ha0
    have hf : f = 0 := Decidable.byContradiction fun hf => ha0 (hf0 hf)
    subst hf
    obtain ⟨U, hU⟩ : ∃ U, U = w1.alloc (.cells #[.string ⟨#[]⟩, .bool false, .int .i64 a, .int .i64 0] 58) := ⟨_, rfl⟩
    rw [← hU] at hpu hzu hru hku hus
    have HPU := Lib.hid hpu; have HZU := Lib.hid hzu; have HRU := Lib.hid hru; have HKU := Lib.hid hku; have HUS := Lib.hid hus; have HWN := Lib.hid hw; have HA := Lib.hid ha; have HA0 := Lib.hid ha0
    have HWQ : Hid (w.heap.size < w1.heap.size ∧ q < w1.heap.size) := Lib.hid ⟨by have := HVS.out; omega, h1.lt⟩
    have HJ := Lib.hid hj
    clear hw hpu hzu hru hku hus h1 k1 hz1 ba hi hw1s ha hj hf0
    go_wp2_with fail
    try rw [← hU]
    clear hU l2
    refine (ydead q j n c A l U HRU.out HJ.out HS.out).mono ?_
    rintro x w2 ⟨d, j2, f2, rfl, hj2, h2, k2, hd⟩
    have hp2 := Kept.atQ k2 HPU.out (by have := HWQ.out; omega)
    have hz2 := Kept.atQ k2 HZU.out (by have := HQ.out; omega)
    have hc1 := cell_at (i := 1) hp2 rfl
    have hf1 := thawed_at (i := 1) hp2
    have m1 := (one4q hp2 (.bool d)).2.1
    have n1 := Kept.setCell (fun k => k = w1.heap.size) w2 ⟨w1.heap.size, 1, none⟩ (.bool d) rfl
    have HP3 := Lib.hid m1
    have HZ3 := Lib.hid (Kept.atQ n1 hz2 (by have := HWQ.out; omega))
    have HR3 := Lib.hid (RY.other h2 n1 HWQ.out.2)
    have HK3 := Lib.hid ((HKU.out.on k2).own n1 (by have := HWQ.out; omega))
    have HD := Lib.hid hd; have HJ2 := Lib.hid hj2
    clear hp2 hz2 m1 n1 h2 k2 hd hj2 HPU HZU HRU HKU
    cases d with
    | true =>
      have hw2 : Went cellP l i e (⟨⟨#[]⟩, true, a, 0⟩ : Ce) j2 f2 := by
        refine HWN.out.bind ?_
        rcases HD.out with ⟨_, h, _⟩ | ⟨b, r, hb, rfl, hb1, rfl⟩
        · cases h
        · have hb1 : b = 1 := of_decide_eq_true hb1.symm
          subst hb1
          have hf : deadF 1 = 0 := rfl
          rw [hf]
          refine ⟨fun _ => Nat.le_succ _, by have := HL.out; have := HJ2.out; omega, fun h => absurd rfl h, fun _ _ => ?_, fun _ h => absurd rfl h⟩
          have hr : r = l.drop (j + 1) := by rw [← List.drop_drop, hb]; rfl
          unfold tailP
          rw [if_neg HA0.out, hb]
          dsimp only
          rw [if_neg (by decide), if_pos rfl, hr]
      have HW := Lib.hid hw2
      clear hw2 HD
      have HP := HP3; have HZ := HZ3; have HRB := HR3; have HK := HK3; have HJN := HJ2
      have k0 := cell_at (i := 0) HP.out rfl
      have k1 := cell_at (i := 1) HP.out rfl
      have k2 := cell_at (i := 2) HP.out rfl
      have k3 := cell_at (i := 3) HP.out rfl
      have z0 := cell_at (i := 0) HZ.out rfl
      have z1 := cell_at (i := 1) HZ.out rfl
      have z2 := cell_at (i := 2) HZ.out rfl
      have z3 := cell_at (i := 3) HZ.out rfl
      have y0 := thawed_at (i := 0) HZ.out
      have y1 := thawed_at (i := 1) HZ.out
      have y2 := thawed_at (i := 2) HZ.out
      have y3 := thawed_at (i := 3) HZ.out
      have m9 := set4q_block HZ.out (.string (⟨#[]⟩ : ByteArray)) (.bool true) (.int .i64 a) (.int .i64 0)
      have n9 := kept_set4q (w := (w2.setCell ⟨w1.heap.size, 1, none⟩ (.bool true))) w.heap.size (.string (⟨#[]⟩ : ByteArray)) (.bool true) (.int .i64 a) (.int .i64 0)
      have K9 := Lib.hid (HK.out.own n9 (Nat.le_refl _))
      have R9 := Lib.hid (RY.other HRB.out n9 HQ.out)
      clear n9
      go_wp2
      generalize (((World.setCell (w2.setCell ⟨w1.heap.size, 1, none⟩ (.bool true)) ⟨w.heap.size, 0, none⟩ (.string (⟨#[]⟩ : ByteArray))).setCell ⟨w.heap.size, 1, none⟩ (.bool true)).setCell ⟨w.heap.size, 2, none⟩ (.int .i64 a)).setCell ⟨w.heap.size, 3, none⟩ (.int .i64 0) = w9 at m9 K9 R9 ⊢
      clear z0 z1 z2 z3 y0 y1 y2 y3 k0 k1 k2 k3
      have q0 := cell_at (i := 0) m9 rfl
      have q1 := cell_at (i := 1) m9 rfl
      have q2 := cell_at (i := 2) m9 rfl
      have q3 := cell_at (i := 3) m9 rfl
      refine bodyPost_ret (v := .agg #[.string (⟨#[]⟩ : ByteArray), .bool true, .int .i64 a, .int .i64 0]) ?_ rfl ?_
      · simp [results, Try.results76, go_sem, q0, q1, q2, q3]
      · exact ⟨⟨(⟨#[]⟩ : ByteArray), true, a, 0⟩, _, _, rfl, HSZ.out, HJN.out, R9.out, K9.out, HW.out⟩
    | false =>
      go_wp2_with fail
      clear hc1 hf1
      obtain ⟨X, hX⟩ : ∃ X, X = w2.setCell ⟨w1.heap.size, 1, none⟩ (.bool false) := ⟨_, rfl⟩
      rw [← hX] at HP3 HZ3 HR3 HK3 ⊢
      clear hX
      refine (ytext q j2 n c f2 A l X HR3.out HJ2.out HS.out).mono ?_
      rintro x w3 ⟨v, j3, f3, rfl, hvs, hj3, h3, k3, hw3⟩
      have hp4 := Kept.atQ k3 HP3.out (by have := HWQ.out; omega)
      have hz4 := Kept.atQ k3 HZ3.out (by have := HQ.out; omega)
      have hc0 := cell_at (i := 0) hp4 rfl
      have hf0 := thawed_at (i := 0) hp4
      have m0 := (one4q hp4 (.string v)).1
      have n0 := Kept.setCell (fun k => k = w1.heap.size) w3 ⟨w1.heap.size, 0, none⟩ (.string v) rfl
      have HP4 := Lib.hid m0
      have HZ4 := Lib.hid (Kept.atQ n0 hz4 (by have := HWQ.out; omega))
      have HR4 := Lib.hid (RY.other h3 n0 HWQ.out.2)
      have HK4 := Lib.hid ((HK3.out.on k3).own n0 (by have := HWQ.out; omega))
      have HW3 := Lib.hid hw3; have HJ3 := Lib.hid hj3
      have HSZ2 := Lib.hid hvs
      clear hp4 hz4 m0 n0 h3 k3 hw3 hj3 hvs HP3 HZ3 HR3 HK3
      go_wp2_with fail
      clear hc0 hf0
      obtain ⟨Y, hY⟩ : ∃ Y, Y = w3.setCell ⟨w1.heap.size, 0, none⟩ (.string v) := ⟨_, rfl⟩
      rw [← hY] at HP4 HZ4 HR4 HK4 ⊢
      clear hY
      refine (ystamp q j3 n c f3 A l Y HR4.out HJ3.out HS.out).mono ?_
      rintro x w4 ⟨ev, j4, f4, rfl, _, _, hj4, h4, k4, hw4⟩
      have hp5 := Kept.atQ k4 HP4.out (by have := HWQ.out; omega)
      have hz5 := Kept.atQ k4 HZ4.out (by have := HQ.out; omega)
      have hc3 := cell_at (i := 3) hp5 rfl
      have hf3 := thawed_at (i := 3) hp5
      have m3 := (one4q hp5 (.int .i64 ev)).2.2
      have n3 := Kept.setCell (fun k => k = w1.heap.size) w4 ⟨w1.heap.size, 3, none⟩ (.int .i64 ev) rfl
      have HP := Lib.hid m3
      have HZ := Lib.hid (Kept.atQ n3 hz5 (by have := HWQ.out; omega))
      have HRB := Lib.hid (RY.other h4 n3 HWQ.out.2)
      have HK := Lib.hid ((HK4.out.on k4).own n3 (by have := HWQ.out; omega))
      have HW : Hid (Went cellP l i e (⟨v, false, a, ev⟩ : Ce) j4 f4) := Lib.hid (HWN.out.bind (tail_went HA0.out (by have := HL.out; omega) (HD.out.imp (fun h => ⟨h.1, rfl, h.2.2⟩) id) HW3.out hw4))
      have HJN := Lib.hid hj4
      clear hp5 hz5 m3 n3 h4 k4 hw4 hj4 HP4 HZ4 HR4 HK4 HW3 HWN HD HSZ
      have HSZ := HSZ2
      have k0 := cell_at (i := 0) HP.out rfl
      have k1 := cell_at (i := 1) HP.out rfl
      have k2 := cell_at (i := 2) HP.out rfl
      have k3 := cell_at (i := 3) HP.out rfl
      have z0 := cell_at (i := 0) HZ.out rfl
      have z1 := cell_at (i := 1) HZ.out rfl
      have z2 := cell_at (i := 2) HZ.out rfl
      have z3 := cell_at (i := 3) HZ.out rfl
      have y0 := thawed_at (i := 0) HZ.out
      have y1 := thawed_at (i := 1) HZ.out
      have y2 := thawed_at (i := 2) HZ.out
      have y3 := thawed_at (i := 3) HZ.out
      have m9 := set4q_block HZ.out (.string v) (.bool false) (.int .i64 a) (.int .i64 ev)
      have n9 := kept_set4q (w := (w4.setCell ⟨w1.heap.size, 3, none⟩ (.int .i64 ev))) w.heap.size (.string v) (.bool false) (.int .i64 a) (.int .i64 ev)
      have K9 := Lib.hid (HK.out.own n9 (Nat.le_refl _))
      have R9 := Lib.hid (RY.other HRB.out n9 HQ.out)
      clear n9
      go_wp2
      generalize (((World.setCell (w4.setCell ⟨w1.heap.size, 3, none⟩ (.int .i64 ev)) ⟨w.heap.size, 0, none⟩ (.string v)).setCell ⟨w.heap.size, 1, none⟩ (.bool false)).setCell ⟨w.heap.size, 2, none⟩ (.int .i64 a)).setCell ⟨w.heap.size, 3, none⟩ (.int .i64 ev) = w9 at m9 K9 R9 ⊢
      clear z0 z1 z2 z3 y0 y1 y2 y3 k0 k1 k2 k3
      have q0 := cell_at (i := 0) m9 rfl
      have q1 := cell_at (i := 1) m9 rfl
      have q2 := cell_at (i := 2) m9 rfl
      have q3 := cell_at (i := 3) m9 rfl
      refine bodyPost_ret (v := .agg #[.string v, .bool false, .int .i64 a, .int .i64 ev]) ?_ rfl ?_
      · simp [results, Try.results76, go_sem, q0, q1, q2, q3]
      · exact ⟨⟨v, false, a, ev⟩, _, _, rfl, HSZ.out, HJN.out, R9.out, K9.out, HW.out⟩
end Go.Proofs.Ytbfkbfbcaileoaa
set_option linter.unusedVariables false
set_option linter.unusedSimpArgs false
namespace Go.Proofs.Ytbfkbfbcaileoaa
open Go Go.RowKit

theorem Went.any {α : Type} {p : Pz α} {l : Bs} {i j : Nat} {e f : Int} {x : α} (h : Went p l i e x j f) (hf : f ≠ 0) (y : α) : Went p l i e y j f := ⟨fun e => absurd e hf, h.len, h.stays, fun _ e => absurd e hf, h.no⟩
theorem own_geQ {w : World} {b n size : Nat} {e : TypeId} {v : Value} {xs : List Value} (h : w.ownsRow b e size v n xs) : ∀ g, v.ownBlock = some g → b ≤ g := fun g hg => (World.ownsRow.lt h g hg).1
theorem KeptQ.grown {q : Nat} {w w1 w2 : World} {n size : Nat} {e : TypeId} {v : Value} {xs : List Value} (h : KeptQ q w w1) (ho : w1.ownsRow w.heap.size e size v n xs) (hg : w1.grownBy w2 v.ownBlock) : KeptQ q w w2 :=
  Kept.trans h (Kept.of_grown (F := fun k => v.ownBlock = some k) hg fun k hk => hk) fun k hk => Or.inr (own_geQ ho k hk)
theorem own_neQ {w : World} {b n size : Nat} {e e' : TypeId} {v : Value} {xs : List Value} {r : Nat} {cs : Array Value} (h : w.ownsRow b e size v n xs) (hr : w.heap[r]? = some (.cells cs e' (0, 0))) (he : e ≠ e') : ∀ g, v.ownBlock = some g → g ≠ r := fun g hg hgr => by
  subst hgr
  obtain ⟨cs', h1⟩ := own_tag h g hg
  rw [h1] at hr
  injection hr with hr
  injection hr with _ h2
  exact he h2
/-- Own rows stay when another type's block is written. -/
theorem own_keptQ {w w' : World} {b n size : Nat} {e e' : TypeId} {v : Value} {xs : List Value} {r : Nat} {cs : Array Value} (h : w.ownsRow b e size v n xs) (hk : Kept (fun k => k = r) w w') (hr : w.heap[r]? = some (.cells cs e' (0, 0))) (he : e ≠ e') : w'.ownsRow b e size v n xs :=
  own_kept h fun g hg => hk.block g (own_block_lt h g hg) fun hf => own_neQ h hr he g hg hf
/-- A reader stays when own rows grow. -/
theorem RY.grown {w w' : World} {q n c i m size : Nat} {A : Option Addr} {l : Bs} {e : Int} {ty : TypeId} {v : Value} {xs : List Value} {B : Nat} (h : RY w q A n c l i e) (ho : w.ownsRow B ty size v m xs) (hq : q < B) (hg : w.grownBy w' v.ownBlock) : RY w' q A n c l i e :=
  have hk : ∀ k, k ≤ q → w'.heap[k]? = w.heap[k]? := fun k hk => hg.block k (by have := h.lt; omega) fun hp => by
    have := own_geQ ho k hp.symm
    omega
  ⟨(hk q (Nat.le_refl _)).trans h.blk, h.rd.keep fun p hp => by
    have := hk p.block (by omega)
    unfold World.cell?
    rw [this], h.cap, h.max, h.nil⟩
theorem set5_block {w : World} {q : Nat} {v0 v1 v2 v3 v4 : Value} {T : TypeId} (h : w.heap[q]? = some (.cells #[v0, v1, v2, v3, v4] T (0, 0))) (u0 u1 u2 u3 u4 : Value) :
    (((((w.setCell ⟨q, 0, none⟩ u0).setCell ⟨q, 1, none⟩ u1).setCell ⟨q, 2, none⟩ u2).setCell ⟨q, 3, none⟩ u3).setCell ⟨q, 4, none⟩ u4).heap[q]? = some (.cells #[u0, u1, u2, u3, u4] T (0, 0)) := by
  have m := Joins.block_setCell (i := 0) h u0
  simp only [List.setIfInBounds_toArray, List.set_cons_zero, List.set_cons_succ] at m
  have m1 := Joins.block_setCell (i := 1) m u1
  simp only [List.setIfInBounds_toArray, List.set_cons_zero, List.set_cons_succ] at m1
  have m2 := Joins.block_setCell (i := 2) m1 u2
  simp only [List.setIfInBounds_toArray, List.set_cons_zero, List.set_cons_succ] at m2
  have m3 := Joins.block_setCell (i := 3) m2 u3
  simp only [List.setIfInBounds_toArray, List.set_cons_zero, List.set_cons_succ] at m3
  have m4 := Joins.block_setCell (i := 4) m3 u4
  simp only [List.setIfInBounds_toArray, List.set_cons_zero, List.set_cons_succ] at m4
  exact m4
theorem kept_set5 {w : World} (q : Nat) (u0 u1 u2 u3 u4 : Value) : Kept (fun k => k = q) w (((((w.setCell ⟨q, 0, none⟩ u0).setCell ⟨q, 1, none⟩ u1).setCell ⟨q, 2, none⟩ u2).setCell ⟨q, 3, none⟩ u3).setCell ⟨q, 4, none⟩ u4) :=
  (kept_set4q q u0 u1 u2 u3).trans (Kept.setCell (fun k => k = q) _ ⟨q, 4, none⟩ u4 rfl) fun _ h => Or.inl h
set_option maxRecDepth 8000 in
set_option maxHeartbeats 2000000 in
theorem ycol (q i n c : Nat) (e : Int) (A : Option Addr) (l : Bs) (w : World) (h : RY w q A n c l i e) (hi : i ≤ n) (hs : n ≤ 1000000000) :
    Calls Try.prog 78 #[.pointer (some ⟨q, 0, none⟩)] w fun x w' => ∃ (y : ByteArray × Ce) (j : Nat) (f : Int), x = .returned (.agg #[.string y.1, .string y.2.s, .bool y.2.d, .int .i64 y.2.a, .int .i64 y.2.e]) ∧ y.1.size ≤ n ∧ y.2.s.size ≤ n ∧ j ≤ n ∧ RY w' q A n c l j f ∧ KeptQ q w w' ∧ Went colP l i e y j f := by
  have hqw := h.lt
  have bz := (Below.refl w.heap.size w).alloc (Nat.le_refl _) (.cells #[.string ⟨#[]⟩, .string ⟨#[]⟩, .bool false, .int .i64 0, .int .i64 0] 90)
  have hz := heap_alloc_new w (.cells #[.string ⟨#[]⟩, .string ⟨#[]⟩, .bool false, .int .i64 0, .int .i64 0] 90)
  have h0 := h.below bz
  obtain ⟨V, hV⟩ : ∃ V, V = w.alloc (.cells #[.string ⟨#[]⟩, .string ⟨#[]⟩, .bool false, .int .i64 0, .int .i64 0] 90) := ⟨_, rfl⟩
  rw [← hV] at bz hz h0
  have H0 := Lib.hid h0; have HZ0 := Lib.hid hz; have BZ := Lib.hid bz; have HQ := Lib.hid hqw; have HS := Lib.hid hs
  clear h bz hz h0 hqw hs
  go_enter Try.func78, Try.ntmps78
  go_wp2_with fail
  rw [← hV]
  clear hV
  refine (ytext q i n c e A l _ H0.out hi HS.out).mono ?_
  rintro x w1 ⟨v, j1, f1, rfl, hv, hj1, h1, k1, hw1⟩
  have H1 := Lib.hid h1; have HZ1 := Lib.hid (Kept.atQ k1 HZ0.out (by have := HQ.out; omega)); have K1 := Lib.hid (KeptQ.on (Kept.of_below BZ.out _) k1); have HW1 := Lib.hid hw1; have HV := Lib.hid hv; have HJ1 := Lib.hid hj1
  clear h1 k1 hw1 hv hj1 hi
  go_wp2_with fail
  refine (ycell q j1 n c f1 A l _ H1.out HJ1.out HS.out).mono ?_
  rintro x w2 ⟨⟨cs, cd, ca, ce⟩, j2, f2, rfl, hcs, hj2, h2, k2, hw2⟩
  have HZ2 := Lib.hid (Kept.atQ k2 HZ1.out (by have := HQ.out; omega))
  have z0 := cell_at (i := 0) HZ2.out rfl
  have z1 := cell_at (i := 1) HZ2.out rfl
  have z2 := cell_at (i := 2) HZ2.out rfl
  have z3 := cell_at (i := 3) HZ2.out rfl
  have z4 := cell_at (i := 4) HZ2.out rfl
  have y0 := thawed_at (i := 0) HZ2.out
  have y1 := thawed_at (i := 1) HZ2.out
  have y2 := thawed_at (i := 2) HZ2.out
  have y3 := thawed_at (i := 3) HZ2.out
  have y4 := thawed_at (i := 4) HZ2.out
  have m9 := set5_block HZ2.out (.string v) (.string cs) (.bool cd) (.int .i64 ca) (.int .i64 ce)
  have n9 := kept_set5 (w := w2) w.heap.size (.string v) (.string cs) (.bool cd) (.int .i64 ca) (.int .i64 ce)
  have R9 := Lib.hid (RY.other h2 n9 HQ.out)
  have K9 := Lib.hid ((K1.out.on k2).own n9 (Nat.le_refl _))
  have HW : Hid (Went colP l i e ((v, ⟨cs, cd, ca, ce⟩) : ByteArray × Ce) j2 f2) := Lib.hid (HW1.out.bind (hw2.bind (Went.ret _ hw2.len f2)))
  have HC := Lib.hid hcs; have HJ := Lib.hid hj2
  clear n9 h2 k2 hw2 hcs hj2
  go_wp2
  generalize ((((World.setCell w2 ⟨w.heap.size, 0, none⟩ (.string v)).setCell ⟨w.heap.size, 1, none⟩ (.string cs)).setCell ⟨w.heap.size, 2, none⟩ (.bool cd)).setCell ⟨w.heap.size, 3, none⟩ (.int .i64 ca)).setCell ⟨w.heap.size, 4, none⟩ (.int .i64 ce) = w9 at m9 K9 R9 ⊢
  clear z0 z1 z2 z3 z4 y0 y1 y2 y3 y4
  have q0 := cell_at (i := 0) m9 rfl
  have q1 := cell_at (i := 1) m9 rfl
  have q2 := cell_at (i := 2) m9 rfl
  have q3 := cell_at (i := 3) m9 rfl
  have q4 := cell_at (i := 4) m9 rfl
  refine bodyPost_ret (v := .agg #[.string v, .string cs, .bool cd, .int .i64 ca, .int .i64 ce]) ?_ rfl ?_
  · simp [results, Try.results78, go_sem, q0, q1, q2, q3, q4]
  · exact ⟨(v, ⟨cs, cd, ca, ce⟩), j2, f2, rfl, HV.out, HC.out, HJ.out, R9.out, K9.out, HW.out⟩
end Go.Proofs.Ytbfkbfbcaileoaa
set_option linter.unusedVariables false
set_option linter.unusedSimpArgs false
namespace Go.Proofs.Ytbfkbfbcaileoaa
open Go Go.RowKit

/-- Columns of one's own. -/
def OwnKQ (w0 w : World) (A : Option Addr) (t c : Nat) (K : Cols) : Prop := w.ownsRow w0.heap.size 90 5 (.slice A t c) t (kRow K)
theorem OwnKQ.on {w0 w w' : World} {A : Option Addr} {t c : Nat} {K : Cols} (h : OwnKQ w0 w A t c K) (hb : Below w.heap.size w w') : OwnKQ w0 w' A t c K := own_below h hb
theorem OwnKQ.kept1 {w0 w w' : World} {A : Option Addr} {t c r : Nat} {K : Cols} {cs : Array Value} {e : TypeId} (h : OwnKQ w0 w A t c K) (hk : Kept (fun k => k = r) w w') (hr : w.heap[r]? = some (.cells cs e (0, 0))) (he : 90 ≠ e) : OwnKQ w0 w' A t c K := own_keptQ h hk hr he
set_option maxRecDepth 8000 in
set_option maxHeartbeats 2000000 in
theorem ycols (q i n c : Nat) (e : Int) (A : Option Addr) (l : Bs) (w : World) (h : RY w q A n c l i e) (hi : i ≤ n) (hs : n ≤ 900000) :
    Calls Try.prog 77 #[.pointer (some ⟨q, 0, none⟩), .func (.func 78) #[] #[]] w fun x w' => ∃ (Ks : List (ByteArray × Ce)) (A' : Option Addr) (m c' j : Nat) (f : Int), x = .returned (.slice A' m c') ∧ OwnKQ w w' A' m c' Ks ∧ Ks.length = m ∧ m ≤ n ∧ j ≤ n ∧ RY w' q A n c l j f ∧ KeptQ q w w' ∧ Went (listP colP) l i e (Ks) j f := by
  have hqw := h.lt
  have HQ := Lib.hid hqw; have HS := Lib.hid hs
  go_enter Try.func77, Try.ntmps77
  go_wp2_with fail
  refine (ycount q i n c e A l w h hi (by omega)).mono ?_
  rintro x w1 ⟨m, j0, f0, rfl, hm, hf00, hj0, h1, k1, hw1⟩
  have hmn : m ≤ n := by omega
  have HM := Lib.hid hmn; have HF0 := Lib.hid hf00; have HJ0 := Lib.hid hj0; have H1 := Lib.hid h1; have K1 := Lib.hid k1; have HW1 := Lib.hid hw1
  clear hm hf00 hj0 h1 k1 hw1 h hi hs hqw hmn
  go_wp2_with fail
  go_loopw [5, 9] (fun a i' wr => ∃ (t : Nat) (Ks : List (ByteArray × Ce)) (A' : Option Addr) (c' j : Nat) (f : Int), a = .slice A' t c' ∧ i' = .int .i64 t ∧ Ks.length = t ∧ t ≤ m ∧ (f ≠ 0 → m = 0) ∧ j ≤ n ∧ RY wr q A n c l j f ∧ KeptQ q w wr ∧ (OwnKQ w wr A' t c' Ks) ∧ Loops colP l m j0 f0 (Ks) j f) (fun _ i' _ => m - (intOf i').toNat)
  case atStart => exact ⟨0, [], none, 0, j0, f0, rfl, rfl, rfl, Nat.zero_le _, HF0.out, HJ0.out, H1.out, K1.out, own_nilK _ _, Loops.start _ _ HW1.out.len _⟩
  case round =>
    obtain ⟨t, Ks, A3, c3, j, f, rfl, rfl, ht, htm, hfm, hj, hr, hk, hmine, hl⟩ := hrel
    have i8 : m ≤ 900000 := by have := HM.out; have := HS.out; omega
    have HRY := Lib.hid hr; have HKR := Lib.hid hk; have HLR := Lib.hid hl; have HT := Lib.hid ht; have HJ := Lib.hid hj; have HFM := Lib.hid hfm
    clear hr hk hl ht hj hfm
    by_cases hlt : t < m
    · have i1 : (t : Int) < m := by omega
      have hf : f = 0 := Decidable.byContradiction fun hf => by have := HFM.out hf; omega
      subst hf
      have HMI := Lib.hid hmine
      clear hmine
      go_wp2_with fail
      refine (ycol q j n c 0 A l wr HRY.out HJ.out (by have := HS.out; omega)).mono ?_
      rintro x w2 ⟨y, j2, f2, rfl, hy1, hy2, hj2, h2, k2, hw2⟩
      have hmine := HMI.out
      have hm2 := hmine.kept1 k2 HRY.out.blk (by decide)
      have hk2 := HKR.out.on k2
      have ba := (Below.refl w2.heap.size w2).alloc (Nat.le_refl _) (.cells #[.string y.1, .string y.2.s, .bool y.2.d, .int .i64 y.2.a, .int .i64 y.2.e] 90)
      have hstep := HLR.out.step (by rw [HT.out]; exact hlt) hw2
      by_cases hf2 : f2 = 0
      · subst hf2
        obtain ⟨U, hU⟩ : ∃ U, U = w2.alloc (.cells #[.string y.1, .string y.2.s, .bool y.2.d, .int .i64 y.2.a, .int .i64 y.2.e] 90) := ⟨_, rfl⟩
        have ba2 := (Below.refl (w2.alloc (.cells #[.string y.1, .string y.2.s, .bool y.2.d, .int .i64 y.2.a, .int .i64 y.2.e] 90)).heap.size (w2.alloc (.cells #[.string y.1, .string y.2.s, .bool y.2.d, .int .i64 y.2.a, .int .i64 y.2.e] 90))).alloc (Nat.le_refl _) (.cells #[.string y.1, .string y.2.s, .bool y.2.d, .int .i64 y.2.a, .int .i64 y.2.e] 90)
        have hm8 := (hm2.on ba).on ba2
        have h8 := (h2.below ba).below ba2
        have hk8 := (hk2.new ba).new ba2
        have hsz8 : (w2.alloc (.cells #[.string y.1, .string y.2.s, .bool y.2.d, .int .i64 y.2.a, .int .i64 y.2.e] 90)).heap.size = w2.heap.size + 1 := by simp
        have hrd8 := RdK.one (w2.alloc (.cells #[.string y.1, .string y.2.s, .bool y.2.d, .int .i64 y.2.a, .int .i64 y.2.e] 90)) y (w2.heap.size + 1) (by simp)
        try rw [hsz8] at hrd8
        have HRD8 := Lib.hid hrd8
        clear hU hsz8 hrd8
        have HM8 := Lib.hid hm8; have H8 := Lib.hid h8; have HK8 := Lib.hid hk8; have HST := Lib.hid hstep; have HJ2 := Lib.hid hj2
        obtain ⟨_, _, _⟩ := (h2.below ba).cells
        clear hm8 h8 hk8 hstep hj2 hw2 h2 k2 hm2 hk2 hmine hy1 hy2 ba ba2
        go_wp2_with (at_builtin; refine list_ex rfl (.tmp 19) (.tmp 21) _ _ rfl (.slice A3 t c3) (.slice (some ⟨w2.heap.size + 1, 0, none⟩) 1 1) rfl rfl (run_appK w.heap.size HM8.out HRD8.out ?s3 ?s4) ?_)
        case s3 => omega
        case s4 => exact HK8.out.size
        intro v9 w9 ho9 hg9 _
        obtain ⟨A9, c9, rfl, _⟩ := own_slice ho9
        have h9 := H8.out.grown HM8.out HQ.out hg9
        have hk9 := HK8.out.grown HM8.out hg9
        have hm9 : OwnKQ w w9 A9 (t + 1) c9 (Ks ++ [y]) := ho9
        have H9 := Lib.hid h9; have HK9 := Lib.hid hk9; have HM9 := Lib.hid hm9
        clear h9 hk9 hm9 ho9 hg9
        go_wp2
        go_roundw
        case rel => exact ⟨t + 1, Ks ++ [y], A9, c9, j2, 0, rfl, by go_num, by rw [List.length_append, HT.out]; rfl, by omega, fun h => absurd rfl h, HJ2.out, H9.out, HK9.out, HM9.out, by exact HST.out⟩
        case measure => simp [intOf]; omega
      · have e0 : (f2 == 0) = false := by simp; exact hf2
        have hw := (Loops.list HW1.out hstep (fun e => absurd e hf2)).any hf2 ([] : List (ByteArray × Ce))
        have HW := Lib.hid hw; have HJ2 := Lib.hid hj2; have HH := Lib.hid (h2.below ba); have HKK := Lib.hid (hk2.new ba)
        obtain ⟨_, _, _⟩ := HH.out.cells
        clear hw hstep hw2 h2 k2 hm2 hk2 hmine hj2 hf2 hy1 hy2 ba
        go_wp2
        go_ret
        exact ⟨[], none, 0, 0, j2, f2, rfl, own_nilK _ _, rfl, Nat.zero_le _, HJ2.out, HH.out, HKK.out, HW.out⟩
    · obtain rfl : t = m := by omega
      have hw := Loops.list HW1.out HLR.out (fun _ => by rw [HT.out])
      have HW := Lib.hid hw; have HMI := Lib.hid hmine
      clear hw hmine
      go_wp2
      go_ret
      exact ⟨Ks, A3, t, c3, j, f, rfl, HMI.out, HT.out, HM.out, HJ.out, HRY.out, HKR.out, HW.out⟩

end Go.Proofs.Ytbfkbfbcaileoaa
set_option linter.unusedVariables false
set_option linter.unusedSimpArgs false
namespace Go.Proofs.Ytbfkbfbcaileoaa
open Go Go.RowKit

def tot (L : List RA) : Nat := (L.map fun x => x.ro.cols.length).sum
theorem tot_cons (x : RA) (L : List RA) : tot (x :: L) = x.ro.cols.length + tot L := by simp [tot]
theorem tot_app (L k : List RA) : tot (L ++ k) = tot L + tot k := by simp [tot]
theorem tot_nil : tot [] = 0 := rfl
end Go.Proofs.Ytbfkbfbcaileoaa
set_option linter.unusedVariables false
set_option linter.unusedSimpArgs false
namespace Go.Proofs.Ytbfkbfbcaileoaa
open Go Go.RowKit

/-- A row's columns are the call's own. -/
def OwnC (w0 w : World) (x : RA) : Prop := w.ownsRow w0.heap.size 90 5 (.slice x.A x.ro.cols.length x.c) x.ro.cols.length (kRow x.ro.cols)
theorem OwnC.on {w0 w w' : World} {x : RA} (h : OwnC w0 w x) (hb : Below w.heap.size w w') : OwnC w0 w' x := own_below h hb
theorem OwnC.kept {w0 w w' : World} {x : RA} {F : Nat → Prop} {e : TypeId} (h : OwnC w0 w x) (hk : Kept F w w') (hF : ∀ k, F k → ∃ cs, w.heap[k]? = some (.cells cs e (0, 0))) (he : 90 ≠ e) : OwnC w0 w' x :=
  own_kept h fun g hg => hk.block g (own_block_lt h g hg) fun hf => by
    obtain ⟨cs, h1⟩ := hF g hf
    obtain ⟨cs', h2⟩ := own_tag h g hg
    rw [h1] at h2
    injection h2 with h2
    injection h2 with _ h3 _
    exact he h3.symm
/-- Rows in new memory, down to their columns. -/
structure Fresh (w0 w : World) (v : Value) (L : List RA) : Prop where
  cur : CurR w0 w v L
  cols : ∀ x ∈ L, OwnC w0 w x
theorem Fresh.own {w0 w : World} {v : Value} {L : List RA} (h : Fresh w0 w v L) : Own w0 w v L := ⟨h.cur, fun x hx => Or.inr (h.cols x hx)⟩
theorem Fresh.below {w0 w : World} {v : Value} {L : List RA} (h : Fresh w0 w v L) : Below w0.heap.size w0 w := h.cur.below
theorem Fresh.on {w0 w w' : World} {v : Value} {L : List RA} (h : Fresh w0 w v L) (hb : Below w.heap.size w w') : Fresh w0 w' v L := ⟨h.cur.on hb, fun x hx => (h.cols x hx).on hb⟩
theorem Fresh.lower {w V w9 : World} {v : Value} {L : List RA} (h : Fresh V w9 v L) (hV : Below w.heap.size w V) : Fresh w w9 v L := ⟨h.cur.lower hV, fun x hx => own_base (h.cols x hx) hV.size⟩
theorem Fresh.kept {w0 w w' : World} {v : Value} {L : List RA} {F : Nat → Prop} {e : TypeId} (h : Fresh w0 w v L) (hk : Kept F w w') (hF : ∀ k, F k → w0.heap.size ≤ k ∧ ∃ cs, w.heap[k]? = some (.cells cs e (0, 0))) (he : 90 ≠ e) (he' : 61 ≠ e) : Fresh w0 w' v L := by
  refine ⟨⟨own_kept h.cur.own fun g hg => hk.block g (own_block_lt h.cur.own g hg) fun hf => ?_, h.below.trans (hk.below (fun k hk => (hF k hk).1) h.below.size)⟩, fun x hx => (h.cols x hx).kept hk (fun k hk => (hF k hk).2) he⟩
  obtain ⟨cs, h1⟩ := (hF g hf).2
  obtain ⟨cs', h2⟩ := own_tag h.cur.own g hg
  rw [h1] at h2
  injection h2 with h2
  injection h2 with _ h3 _
  exact he' h3.symm
theorem Fresh.lies {w0 w : World} {A : Option Addr} {n c : Nat} {L : List RA} (h : Fresh w0 w (.slice A n c) L) : n = L.length ∧ Lies w w.heap.size A n c L ∧ (A = none → c = 0) := by
  obtain ⟨A', c', e, h1, _, h3, h4⟩ := h.own.slice
  injection e with e1 e2 e3
  subst e1; subst e2; subst e3
  exact ⟨rfl, h4, h3⟩

end Go.Proofs.Ytbfkbfbcaileoaa
set_option linter.unusedVariables false
set_option linter.unusedSimpArgs false
namespace Go.Proofs.Ytbfkbfbcaileoaa
open Go Go.RowKit

theorem Went.rowL {l : Bs} {i j1 j2 j3 j4 j : Nat} {e f1 f2 f3 f4 f : Int} {k : ByteArray} {c : Ce} {g h : Int} {K : Cols} (H1 : Went txtP l i e k j1 f1) (H2 : Went cellP l j1 f1 c j2 f2) (H3 : Went numP l j2 f2 g j3 f3) (H4 : Went numP l j3 f3 h j4 f4)
    (H6 : Went (listP colP) l j4 f4 K j f) : Went rowP l i e (⟨k, c, g, h, K⟩ : Ro) j f := by
  have W1 : Went (bindP numP fun h => bindP (listP colP) fun l => retP (h, l)) l j3 f3 (h, K) j f := H4.bind (H6.bind (Went.ret (h, K) H6.len f))
  have W2 : Went (bindP numP fun g => bindP (bindP numP fun h => bindP (listP colP) fun l => retP (h, l)) fun y => retP (g, y)) l j2 f2 (g, (h, K)) j f := H3.bind (W1.bind (Went.ret (g, (h, K)) H6.len f))
  have W3 : Went (bindP cellP fun c => bindP (bindP numP fun g => bindP (bindP numP fun h => bindP (listP colP) fun l => retP (h, l)) fun y => retP (g, y)) fun y => retP (c, y)) l j1 f1 (c, (g, (h, K))) j f := H2.bind (W2.bind (Went.ret (c, (g, (h, K))) H6.len f))
  have W4 : Went rowT l i e (k, (c, (g, (h, K)))) j f := H1.bind (W3.bind (Went.ret (k, (c, (g, (h, K)))) H6.len f))
  exact W4.map (q := fun z => (⟨z.1, z.2.1, z.2.2.1, z.2.2.2.1, z.2.2.2.2⟩ : Ro))
theorem Went.partL {l : Bs} {i j1 j2 j : Nat} {e f1 f2 f : Int} {k : ByteArray} {g : Int} {R : List Ro} (H1 : Went txtP l i e k j1 f1) (H2 : Went numP l j1 f1 g j2 f2) (H6 : Went (listP rowP) l j2 f2 R j f) : Went partP l i e (⟨k, g, R⟩ : Pa) j f := by
  have W1 : Went (bindP numP fun g => bindP (listP rowP) fun l => retP (g, l)) l j1 f1 (g, R) j f := H2.bind (H6.bind (Went.ret (g, R) H6.len f))
  have W2 : Went partT l i e (k, (g, R)) j f := H1.bind (W1.bind (Went.ret (k, (g, R)) H6.len f))
  exact W2.map (q := fun z => (⟨z.1, z.2.1, z.2.2⟩ : Pa))
theorem kept_set8Q {w : World} (q : Nat) (u0 u1 u2 u3 u4 u5 u6 u7 : Value) : Kept (fun k => k = q) w ((((((((w.setCell ⟨q, 0, none⟩ u0).setCell ⟨q, 1, none⟩ u1).setCell ⟨q, 2, none⟩ u2).setCell ⟨q, 3, none⟩ u3).setCell ⟨q, 4, none⟩ u4).setCell ⟨q, 5, none⟩ u5).setCell ⟨q, 6, none⟩ u6).setCell ⟨q, 7, none⟩ u7) :=
  (((kept_set5 q u0 u1 u2 u3 u4).trans (Kept.setCell (fun k => k = q) _ ⟨q, 5, none⟩ u5 rfl) fun _ h => Or.inl h).trans (Kept.setCell (fun k => k = q) _ ⟨q, 6, none⟩ u6 rfl) fun _ h => Or.inl h).trans (Kept.setCell (fun k => k = q) _ ⟨q, 7, none⟩ u7 rfl) fun _ h => Or.inl h
theorem set8Q_block {w : World} {q : Nat} {v0 v1 v2 v3 v4 v5 v6 v7 : Value} {T : TypeId} (h : w.heap[q]? = some (.cells #[v0, v1, v2, v3, v4, v5, v6, v7] T (0, 0))) (u0 u1 u2 u3 u4 u5 u6 u7 : Value) :
    ((((((((w.setCell ⟨q, 0, none⟩ u0).setCell ⟨q, 1, none⟩ u1).setCell ⟨q, 2, none⟩ u2).setCell ⟨q, 3, none⟩ u3).setCell ⟨q, 4, none⟩ u4).setCell ⟨q, 5, none⟩ u5).setCell ⟨q, 6, none⟩ u6).setCell ⟨q, 7, none⟩ u7).heap[q]? = some (.cells #[u0, u1, u2, u3, u4, u5, u6, u7] T (0, 0)) := by
  have m := Joins.block_setCell (i := 0) h u0
  simp only [List.setIfInBounds_toArray, List.set_cons_zero, List.set_cons_succ] at m
  have m1 := Joins.block_setCell (i := 1) m u1
  simp only [List.setIfInBounds_toArray, List.set_cons_zero, List.set_cons_succ] at m1
  have m2 := Joins.block_setCell (i := 2) m1 u2
  simp only [List.setIfInBounds_toArray, List.set_cons_zero, List.set_cons_succ] at m2
  have m3 := Joins.block_setCell (i := 3) m2 u3
  simp only [List.setIfInBounds_toArray, List.set_cons_zero, List.set_cons_succ] at m3
  have m4 := Joins.block_setCell (i := 4) m3 u4
  simp only [List.setIfInBounds_toArray, List.set_cons_zero, List.set_cons_succ] at m4
  have m5 := Joins.block_setCell (i := 5) m4 u5
  simp only [List.setIfInBounds_toArray, List.set_cons_zero, List.set_cons_succ] at m5
  have m6 := Joins.block_setCell (i := 6) m5 u6
  simp only [List.setIfInBounds_toArray, List.set_cons_zero, List.set_cons_succ] at m6
  have m7 := Joins.block_setCell (i := 7) m6 u7
  simp only [List.setIfInBounds_toArray, List.set_cons_zero, List.set_cons_succ] at m7
  exact m7
theorem OwnC.grownQ {w0 w w' : World} {x : RA} {b n size : Nat} {T : TypeId} {v : Value} {xs : List Value} (h : OwnC w0 w x) (ho : w.ownsRow b T size v n xs) (hT : 90 ≠ T) (hg : w.grownBy w' v.ownBlock) : OwnC w0 w' x :=
  own_kept h fun g hg2 => hg.block g (own_block_lt h g hg2) fun hp => by
    obtain ⟨cs, h1⟩ := own_tag h g hg2
    obtain ⟨cs', h2⟩ := own_tag ho g hp.symm
    rw [h1] at h2
    injection h2 with h2
    injection h2 with _ h3 _
    exact hT h3
/-- Rows of one's own, whose columns are one's own. -/
structure RowsQ (w0 w : World) (A : Option Addr) (m c : Nat) (M : List RA) : Prop where
  own : w.ownsRow w0.heap.size 61 8 (.slice A m c) m (rRow M)
  cols : ∀ x ∈ M, OwnC w0 w x
theorem RowsQ.nil (w0 w : World) : RowsQ w0 w none 0 0 [] := ⟨own_nilR _ _, fun x hx => by cases hx⟩
theorem RowsQ.on {w0 w w' : World} {A : Option Addr} {m c : Nat} {M : List RA} (h : RowsQ w0 w A m c M) (hb : Below w.heap.size w w') : RowsQ w0 w' A m c M := ⟨own_below h.own hb, fun x hx => (h.cols x hx).on hb⟩
theorem RowsQ.kept1 {w0 w w' : World} {A : Option Addr} {m c r : Nat} {M : List RA} {cs : Array Value} {e : TypeId} (h : RowsQ w0 w A m c M) (hk : Kept (fun k => k = r) w w') (hr : w.heap[r]? = some (.cells cs e (0, 0))) (he : 90 ≠ e) (he' : 61 ≠ e) : RowsQ w0 w' A m c M :=
  ⟨own_keptQ h.own hk hr he', fun x hx => own_keptQ (h.cols x hx) hk hr he⟩
theorem RowsQ.snoc {w0 w w' : World} {A A' : Option Addr} {m c c' : Nat} {M : List RA} {y : RA} (h : RowsQ w0 w A m c M) (hy : OwnC w0 w y) (ho : w'.ownsRow w0.heap.size 61 8 (.slice A' (m + 1) c') (m + 1) (rRow (M ++ [y]))) (hg : w.grownBy w' (Value.slice A m c).ownBlock) : RowsQ w0 w' A' (m + 1) c' (M ++ [y]) :=
  ⟨ho, fun x hx => by
    rcases List.mem_append.1 hx with h1 | h1
    · exact (h.cols x h1).grownQ h.own (by decide) hg
    · rw [List.mem_singleton.1 h1]; exact hy.grownQ h.own (by decide) hg⟩
theorem RowsQ.lower {w0 w1 w : World} {A : Option Addr} {m c : Nat} {M : List RA} (h : RowsQ w1 w A m c M) (hb : w0.heap.size ≤ w1.heap.size) : RowsQ w0 w A m c M := ⟨own_down h.own hb, fun x hx => own_down (h.cols x hx) hb⟩
theorem RowsQ.lies {w0 w : World} {A : Option Addr} {m c : Nat} {M : List RA} (h : RowsQ w0 w A m c M) : Lies w w.heap.size A m c M := by
  obtain ⟨_, _, e, h1, _⟩ := own_slice h.own
  injection e with _ _ e3
  subst e3
  exact ⟨RdR.of_own h.own, fun x hx => ⟨RdK.of_own (h.cols x hx), by
    obtain ⟨_, _, e, h2, _⟩ := own_slice (h.cols x hx)
    injection e with _ _ e3
    subst e3
    exact h2⟩, h1⟩
set_option maxRecDepth 8000 in
set_option maxHeartbeats 2000000 in
theorem yrow (q i n c : Nat) (e : Int) (A : Option Addr) (l : Bs) (w : World) (h : RY w q A n c l i e) (hi : i ≤ n) (hs : n ≤ 900000) :
    Calls Try.prog 52 #[.pointer (some ⟨q, 0, none⟩)] w fun x w' => ∃ (z : RA) (j : Nat) (f : Int), x = .returned (.agg #[.string z.ro.key, .string z.ro.live.s, .bool z.ro.live.d, .int .i64 z.ro.live.a, .int .i64 z.ro.live.e, .int .i64 z.ro.gone, .int .i64 z.ro.shade, .slice z.A z.ro.cols.length z.c]) ∧ OwnC w w' z ∧ z.ro.cols.length ≤ n ∧ j ≤ n ∧ RY w' q A n c l j f ∧ KeptQ q w w' ∧ Went rowP l i e z.ro j f := by
  have hqw := h.lt
  have bz := (Below.refl w.heap.size w).alloc (Nat.le_refl _) (.cells #[.string ⟨#[]⟩, .string ⟨#[]⟩, .bool false, .int .i64 0, .int .i64 0, .int .i64 0, .int .i64 0, .slice none 0 0] 61)
  have hz := heap_alloc_new w (.cells #[.string ⟨#[]⟩, .string ⟨#[]⟩, .bool false, .int .i64 0, .int .i64 0, .int .i64 0, .int .i64 0, .slice none 0 0] 61)
  have h0 := h.below bz
  obtain ⟨V, hV⟩ : ∃ V, V = w.alloc (.cells #[.string ⟨#[]⟩, .string ⟨#[]⟩, .bool false, .int .i64 0, .int .i64 0, .int .i64 0, .int .i64 0, .slice none 0 0] 61) := ⟨_, rfl⟩
  rw [← hV] at bz hz h0
  have H0 := Lib.hid h0; have HZ0 := Lib.hid hz; have BZ := Lib.hid bz; have HQ := Lib.hid hqw; have HS := Lib.hid hs
  clear h bz hz h0 hqw hs
  go_enter Try.func52, Try.ntmps52
  go_wp2_with fail
  rw [← hV]
  clear hV
  refine (ytext q i n c e A l _ H0.out hi (by have := HS.out; omega)).mono ?_
  rintro x w1 ⟨v, j1, f1, rfl, hv, hj1, h1, k1, hw1⟩
  have H1 := Lib.hid h1; have HZ1 := Lib.hid (Kept.atQ k1 HZ0.out (by have := HQ.out; omega)); have K1 := Lib.hid (KeptQ.on (Kept.of_below BZ.out _) k1); have HW1 := Lib.hid hw1; have HJ1 := Lib.hid hj1
  clear h1 k1 hw1 hv hj1 hi
  go_wp2_with fail
  refine (ycell q j1 n c f1 A l _ H1.out HJ1.out (by have := HS.out; omega)).mono ?_
  rintro x w2 ⟨⟨cs, cd, ca, ce⟩, j2, f2, rfl, hcs, hj2, h2, k2, hw2⟩
  have H2 := Lib.hid h2; have HZ2 := Lib.hid (Kept.atQ k2 HZ1.out (by have := HQ.out; omega)); have K2 := Lib.hid (K1.out.on k2); have HW2 := Lib.hid hw2; have HJ2 := Lib.hid hj2
  clear h2 k2 hw2 hcs hj2
  go_wp2_with fail
  refine (ystamp q j2 n c f2 A l _ H2.out HJ2.out (by have := HS.out; omega)).mono ?_
  rintro x w3 ⟨g, j3, f3, rfl, _, _, hj3, h3, k3, hw3⟩
  have H3 := Lib.hid h3; have HZ3 := Lib.hid (Kept.atQ k3 HZ2.out (by have := HQ.out; omega)); have K3 := Lib.hid (K2.out.on k3); have HW3 := Lib.hid hw3; have HJ3 := Lib.hid hj3
  clear h3 k3 hw3 hj3
  go_wp2_with fail
  refine (ystamp q j3 n c f3 A l _ H3.out HJ3.out (by have := HS.out; omega)).mono ?_
  rintro x w4 ⟨sh, j4, f4, rfl, _, _, hj4, h4, k4, hw4⟩
  have H4 := Lib.hid h4; have HZ4 := Lib.hid (Kept.atQ k4 HZ3.out (by have := HQ.out; omega)); have K4 := Lib.hid (K3.out.on k4); have HW4 := Lib.hid hw4; have HJ4 := Lib.hid hj4
  clear h4 k4 hw4 hj4
  go_wp2_with fail
  refine (ycols q j4 n c f4 A l _ H4.out HJ4.out HS.out).mono ?_
  rintro x w5 ⟨Ks, A5, m5, c5, j5, f5, rfl, ho5, hlen, hm5, hj5, h5, k5, hw5⟩
  have HZ5 := Lib.hid (Kept.atQ k5 HZ4.out (by have := HQ.out; omega))
  have z0 := cell_at (i := 0) HZ5.out rfl
  have z1 := cell_at (i := 1) HZ5.out rfl
  have z2 := cell_at (i := 2) HZ5.out rfl
  have z3 := cell_at (i := 3) HZ5.out rfl
  have z4 := cell_at (i := 4) HZ5.out rfl
  have z5 := cell_at (i := 5) HZ5.out rfl
  have z6 := cell_at (i := 6) HZ5.out rfl
  have z7 := cell_at (i := 7) HZ5.out rfl
  have y0 := thawed_at (i := 0) HZ5.out
  have y1 := thawed_at (i := 1) HZ5.out
  have y2 := thawed_at (i := 2) HZ5.out
  have y3 := thawed_at (i := 3) HZ5.out
  have y4 := thawed_at (i := 4) HZ5.out
  have y5 := thawed_at (i := 5) HZ5.out
  have y6 := thawed_at (i := 6) HZ5.out
  have y7 := thawed_at (i := 7) HZ5.out
  have m9 := set8Q_block HZ5.out (.string v) (.string cs) (.bool cd) (.int .i64 ca) (.int .i64 ce) (.int .i64 g) (.int .i64 sh) (.slice A5 m5 c5)
  have n9 := kept_set8Q (w := w5) w.heap.size (.string v) (.string cs) (.bool cd) (.int .i64 ca) (.int .i64 ce) (.int .i64 g) (.int .i64 sh) (.slice A5 m5 c5)
  have R9 := Lib.hid (RY.other h5 n9 HQ.out)
  have K9 := Lib.hid ((K4.out.on k5).own n9 (Nat.le_refl _))
  have ho6 := own_down (show w5.ownsRow w4.heap.size 90 5 (.slice A5 m5 c5) m5 (kRow Ks) from ho5) (show w.heap.size ≤ w4.heap.size from K4.out.size)
  have O9 := Lib.hid (own_keptQ ho6 n9 HZ5.out (by decide))
  have HW : Hid (Went rowP l i e (⟨v, ⟨cs, cd, ca, ce⟩, g, sh, Ks⟩ : Ro) j5 f5) := Lib.hid (HW1.out.rowL HW2.out HW3.out HW4.out hw5)
  have HM := Lib.hid hm5; have HJ := Lib.hid hj5; have HLEN := Lib.hid hlen
  clear n9 h5 k5 hw5 hm5 hj5 ho5 ho6 hlen
  go_wp2
  generalize World.setCell (World.setCell (World.setCell (World.setCell (World.setCell (World.setCell (World.setCell (World.setCell w5 ⟨w.heap.size, 0, none⟩ (.string v)) ⟨w.heap.size, 1, none⟩ (.string cs)) ⟨w.heap.size, 2, none⟩ (.bool cd)) ⟨w.heap.size, 3, none⟩ (.int .i64 ca)) ⟨w.heap.size, 4, none⟩ (.int .i64 ce)) ⟨w.heap.size, 5, none⟩ (.int .i64 g)) ⟨w.heap.size, 6, none⟩ (.int .i64 sh)) ⟨w.heap.size, 7, none⟩ (.slice A5 m5 c5) = w9 at m9 K9 R9 O9 ⊢
  clear z0 z1 z2 z3 z4 z5 z6 z7 y0 y1 y2 y3 y4 y5 y6 y7
  have q0 := cell_at (i := 0) m9 rfl
  have q1 := cell_at (i := 1) m9 rfl
  have q2 := cell_at (i := 2) m9 rfl
  have q3 := cell_at (i := 3) m9 rfl
  have q4 := cell_at (i := 4) m9 rfl
  have q5 := cell_at (i := 5) m9 rfl
  have q6 := cell_at (i := 6) m9 rfl
  have q7 := cell_at (i := 7) m9 rfl
  refine bodyPost_ret (v := .agg #[.string v, .string cs, .bool cd, .int .i64 ca, .int .i64 ce, .int .i64 g, .int .i64 sh, .slice A5 m5 c5]) ?_ rfl ?_
  · simp [results, Try.results52, go_sem, q0, q1, q2, q3, q4, q5, q6, q7]
  · have hl := HLEN.out
    subst hl
    exact ⟨⟨⟨v, ⟨cs, cd, ca, ce⟩, g, sh, Ks⟩, A5, c5⟩, j5, f5, rfl, O9.out, HM.out, HJ.out, R9.out, K9.out, HW.out⟩
set_option maxRecDepth 8000 in
set_option maxHeartbeats 2000000 in
theorem yrows (q i n c : Nat) (e : Int) (A : Option Addr) (l : Bs) (w : World) (h : RY w q A n c l i e) (hi : i ≤ n) (hs : n ≤ 900000) :
    Calls Try.prog 51 #[.pointer (some ⟨q, 0, none⟩), .func (.func 52) #[] #[]] w fun x w' => ∃ (Ks : List RA) (A' : Option Addr) (m c' j : Nat) (f : Int), x = .returned (.slice A' m c') ∧ RowsQ w w' A' m c' Ks ∧ Ks.length = m ∧ m ≤ n ∧ j ≤ n ∧ RY w' q A n c l j f ∧ KeptQ q w w' ∧ Went (listP rowP) l i e (ros Ks) j f := by
  have hqw := h.lt
  have HQ := Lib.hid hqw; have HS := Lib.hid hs
  go_enter Try.func51, Try.ntmps51
  go_wp2_with fail
  refine (ycount q i n c e A l w h hi (by omega)).mono ?_
  rintro x w1 ⟨m, j0, f0, rfl, hm, hf00, hj0, h1, k1, hw1⟩
  have hmn : m ≤ n := by omega
  have HM := Lib.hid hmn; have HF0 := Lib.hid hf00; have HJ0 := Lib.hid hj0; have H1 := Lib.hid h1; have K1 := Lib.hid k1; have HW1 := Lib.hid hw1
  clear hm hf00 hj0 h1 k1 hw1 h hi hs hqw hmn
  go_wp2_with fail
  go_loopw [5, 9] (fun a i' wr => ∃ (t : Nat) (Ks : List RA) (A' : Option Addr) (c' j : Nat) (f : Int), a = .slice A' t c' ∧ i' = .int .i64 t ∧ Ks.length = t ∧ t ≤ m ∧ (f ≠ 0 → m = 0) ∧ j ≤ n ∧ RY wr q A n c l j f ∧ KeptQ q w wr ∧ (RowsQ w wr A' t c' Ks) ∧ Loops rowP l m j0 f0 (ros Ks) j f) (fun _ i' _ => m - (intOf i').toNat)
  case atStart => exact ⟨0, [], none, 0, j0, f0, rfl, rfl, rfl, Nat.zero_le _, HF0.out, HJ0.out, H1.out, K1.out, RowsQ.nil _ _, Loops.start _ _ HW1.out.len _⟩
  case round =>
    obtain ⟨t, Ks, A3, c3, j, f, rfl, rfl, ht, htm, hfm, hj, hr, hk, hmine, hl⟩ := hrel
    have i8 : m ≤ 900000 := by have := HM.out; have := HS.out; omega
    have HRY := Lib.hid hr; have HKR := Lib.hid hk; have HLR := Lib.hid hl; have HT := Lib.hid ht; have HJ := Lib.hid hj; have HFM := Lib.hid hfm
    clear hr hk hl ht hj hfm
    by_cases hlt : t < m
    · have i1 : (t : Int) < m := by omega
      have hf : f = 0 := Decidable.byContradiction fun hf => by have := HFM.out hf; omega
      subst hf
      have HMI := Lib.hid hmine
      clear hmine
      go_wp2_with fail
      refine (yrow q j n c 0 A l wr HRY.out HJ.out (by have := HS.out; omega)).mono ?_
      rintro x w2 ⟨y, j2, f2, rfl, hoc, hyl, hj2, h2, k2, hw2⟩
      have hmine := HMI.out
      have hm2 := hmine.kept1 k2 HRY.out.blk (by decide) (by decide)
      have hk2 := HKR.out.on k2
      have ba := (Below.refl w2.heap.size w2).alloc (Nat.le_refl _) (.cells #[.string y.ro.key, .string y.ro.live.s, .bool y.ro.live.d, .int .i64 y.ro.live.a, .int .i64 y.ro.live.e, .int .i64 y.ro.gone, .int .i64 y.ro.shade, .slice y.A y.ro.cols.length y.c] 61)
      have hstep := HLR.out.step (by rw [List.length_map, HT.out]; exact hlt) hw2
      by_cases hf2 : f2 = 0
      · subst hf2
        obtain ⟨U, hU⟩ : ∃ U, U = w2.alloc (.cells #[.string y.ro.key, .string y.ro.live.s, .bool y.ro.live.d, .int .i64 y.ro.live.a, .int .i64 y.ro.live.e, .int .i64 y.ro.gone, .int .i64 y.ro.shade, .slice y.A y.ro.cols.length y.c] 61) := ⟨_, rfl⟩
        have ba2 := (Below.refl (w2.alloc (.cells #[.string y.ro.key, .string y.ro.live.s, .bool y.ro.live.d, .int .i64 y.ro.live.a, .int .i64 y.ro.live.e, .int .i64 y.ro.gone, .int .i64 y.ro.shade, .slice y.A y.ro.cols.length y.c] 61)).heap.size (w2.alloc (.cells #[.string y.ro.key, .string y.ro.live.s, .bool y.ro.live.d, .int .i64 y.ro.live.a, .int .i64 y.ro.live.e, .int .i64 y.ro.gone, .int .i64 y.ro.shade, .slice y.A y.ro.cols.length y.c] 61))).alloc (Nat.le_refl _) (.cells #[.string y.ro.key, .string y.ro.live.s, .bool y.ro.live.d, .int .i64 y.ro.live.a, .int .i64 y.ro.live.e, .int .i64 y.ro.gone, .int .i64 y.ro.shade, .slice y.A y.ro.cols.length y.c] 61)
        have hm8 := (hm2.on ba).on ba2
        have h8 := (h2.below ba).below ba2
        have hk8 := (hk2.new ba).new ba2
        have hsz8 : (w2.alloc (.cells #[.string y.ro.key, .string y.ro.live.s, .bool y.ro.live.d, .int .i64 y.ro.live.a, .int .i64 y.ro.live.e, .int .i64 y.ro.gone, .int .i64 y.ro.shade, .slice y.A y.ro.cols.length y.c] 61)).heap.size = w2.heap.size + 1 := by simp
        have hrd8 := RdR.one (w2.alloc (.cells #[.string y.ro.key, .string y.ro.live.s, .bool y.ro.live.d, .int .i64 y.ro.live.a, .int .i64 y.ro.live.e, .int .i64 y.ro.gone, .int .i64 y.ro.shade, .slice y.A y.ro.cols.length y.c] 61)) y (w2.heap.size + 1) (by simp)
        try rw [hsz8] at hrd8
        have HRD8 := Lib.hid hrd8
        clear hU hsz8 hrd8
        have HOC := Lib.hid (((show OwnC w w2 y from own_base hoc HKR.out.size).on ba).on ba2)
        have HM8 := Lib.hid hm8; have H8 := Lib.hid h8; have HK8 := Lib.hid hk8; have HST := Lib.hid hstep; have HJ2 := Lib.hid hj2
        obtain ⟨_, _, _⟩ := (h2.below ba).cells
        clear hm8 h8 hk8 hstep hj2 hw2 h2 k2 hm2 hk2 hmine hyl hoc ba ba2
        go_wp2_with (at_builtin; refine list_ex rfl (.tmp 19) (.tmp 21) _ _ rfl (.slice A3 t c3) (.slice (some ⟨w2.heap.size + 1, 0, none⟩) 1 1) rfl rfl (run_appR w.heap.size HM8.out.own HRD8.out ?s3 ?s4) ?_)
        case s3 => omega
        case s4 => exact HK8.out.size
        intro v9 w9 ho9 hg9 _
        obtain ⟨A9, c9, rfl, _⟩ := own_slice ho9
        have h9 := H8.out.grown HM8.out.own HQ.out hg9
        have hk9 := HK8.out.grown HM8.out.own hg9
        have hm9 : RowsQ w w9 A9 (t + 1) c9 (Ks ++ [y]) := HM8.out.snoc HOC.out ho9 hg9
        have H9 := Lib.hid h9; have HK9 := Lib.hid hk9; have HM9 := Lib.hid hm9
        clear h9 hk9 hm9 ho9 hg9
        go_wp2
        go_roundw
        case rel => exact ⟨t + 1, Ks ++ [y], A9, c9, j2, 0, rfl, by go_num, by rw [List.length_append, HT.out]; rfl, by omega, fun h => absurd rfl h, HJ2.out, H9.out, HK9.out, HM9.out, by have := HST.out; simpa using this⟩
        case measure => simp [intOf]; omega
      · have e0 : (f2 == 0) = false := by simp; exact hf2
        have hw := (Loops.list HW1.out hstep (fun e => absurd e hf2)).any hf2 ([] : List Ro)
        have HW := Lib.hid hw; have HJ2 := Lib.hid hj2; have HH := Lib.hid (h2.below ba); have HKK := Lib.hid (hk2.new ba)
        obtain ⟨_, _, _⟩ := HH.out.cells
        clear hw hstep hw2 h2 k2 hm2 hk2 hmine hj2 hf2 hyl hoc ba
        go_wp2
        go_ret
        exact ⟨[], none, 0, 0, j2, f2, rfl, RowsQ.nil _ _, rfl, Nat.zero_le _, HJ2.out, HH.out, HKK.out, HW.out⟩
    · obtain rfl : t = m := by omega
      have hw := Loops.list HW1.out HLR.out (fun _ => by rw [List.length_map, HT.out])
      have HW := Lib.hid hw; have HMI := Lib.hid hmine
      clear hw hmine
      go_wp2
      go_ret
      exact ⟨Ks, A3, t, c3, j, f, rfl, HMI.out, HT.out, HM.out, HJ.out, HRY.out, HKR.out, HW.out⟩

end Go.Proofs.Ytbfkbfbcaileoaa
set_option linter.unusedVariables false
set_option linter.unusedSimpArgs false
namespace Go.Proofs.Ytbfkbfbcaileoaa
open Go Go.RowKit

/-- Not too much of each row. -/
def FewR (L : List RA) : Prop := ∀ x ∈ L, Few x.ro.cols ∧ x.ro.live.s.size ≤ maxLen ∧ x.ro.cols.length ≤ 1000000
theorem check_ra (x : RA) (B : Nat) (w : World) (h : RaIn w B x) (hB : B ≤ w.heap.size) (hf : Few x.ro.cols ∧ x.ro.live.s.size ≤ maxLen ∧ x.ro.cols.length ≤ 1000000) :
    Calls Try.prog 68 #[.agg #[.string x.ro.key, .string x.ro.live.s, .bool x.ro.live.d, .int .i64 x.ro.live.a, .int .i64 x.ro.live.e, .int .i64 x.ro.gone, .int .i64 x.ro.shade, .slice x.A x.ro.cols.length x.c]] w fun e w' => e = .returned (.bool x.ro.ok) ∧ Below w.heap.size w w' :=
  check_ro x.ro x.A x.c B w h hB hf.2.2 hf.1 hf.2.1
theorem pstamp_any (n : Int) (w : World) : Calls Try.prog 42 #[.int .i64 n] w fun x w' => x = .returned (.bool (stm n)) ∧ w = w' := by
  go_enter Try.func42, Try.ntmps42
  by_cases h0 : 0 ≤ n
  · by_cases h1 : n ≤ 1099511627776
    · have hs : stm n = true := by unfold stm; rw [decide_eq_true h0, decide_eq_true h1]; rfl
      rw [hs]
      have d0 : decide (0 ≤ n) = true := decide_eq_true h0
      have d1 : decide (n ≤ 1099511627776) = true := decide_eq_true h1
      clear h0 h1 hs
      go_wp2
      go_ret
      exact ⟨rfl, rfl⟩
    · have hs : stm n = false := by unfold stm; rw [decide_eq_true h0, decide_eq_false h1]; rfl
      rw [hs]
      have d0 : decide (0 ≤ n) = true := decide_eq_true h0
      have d1 : decide (n ≤ 1099511627776) = false := decide_eq_false h1
      clear h0 h1 hs
      go_wp2
      go_ret
      exact ⟨rfl, rfl⟩
  · have hs : stm n = false := by unfold stm; rw [decide_eq_false h0]; rfl
    rw [hs]
    have d0 : decide (0 ≤ n) = false := decide_eq_false h0
    clear h0 hs
    go_wp2
    go_ret
    exact ⟨rfl, rfl⟩
set_option maxHeartbeats 4000000 in
theorem rows_any (A : Option Addr) (n c B : Nat) (L : List RA) (w : World) (h : Lies w B A n c L) (hB : B ≤ w.heap.size) (hn : n ≤ 1000000000) (hf : FewR L) :
    Calls Try.prog 43 #[.slice A n c] w fun x w' => x = .returned (.bool (decide (n ≤ 100) && rowsB (ros L))) ∧ Below w.heap.size w w' := by
  have hl := h.len
  obtain ⟨r, hr⟩ : ∃ r, (decide (n ≤ 100) && rowsB (ros L)) = r := ⟨_, rfl⟩
  rw [hr]
  by_cases h8 : n ≤ 100
  · have d0 : decide ((100 : Int) < (n : Nat)) = false := by simp; omega
    rw [decide_eq_true h8, Bool.true_and] at hr
    have HL := Lib.hid hl; have HR := Lib.hid hr; have HH := Lib.hid h; have HF := Lib.hid hf
    clear hl hr h hf
    go_enter Try.func43, Try.ntmps43
    go_wp2
    go_loopw [10] (fun i wr => ∃ t : Nat, t ≤ n ∧ i = .int .i64 t ∧ (List.range t).all (goodR (ros L)) = true ∧ Below w.heap.size w wr) (fun i _ => n - (intOf i).toNat)
    case atStart => exact ⟨0, Nat.zero_le _, rfl, rfl, Below.refl _ _⟩
    case round =>
      obtain ⟨t, ht, rfl, hg, hb⟩ := hrel
      have HG := Lib.hid hg; have HB := Lib.hid hb
      clear hg hb
      by_cases hlt : t < n
      · have i1 : (t : Int) < n := by omega
        have i0 : (0 : Int) ≤ t := by omega
        have htl : t < L.length := by rw [HL.out]; exact hlt
        have htr : t < (ros L).length := by rw [List.length_map]; exact htl
        obtain ⟨g0, o0, rfl, hgB⟩ := HH.out.rd.ex (by omega)
        have hrd := (HH.out.below (HB.out.mono hB)).rd
        obtain ⟨x, hx⟩ : ∃ x, L[t] = x := ⟨_, rfl⟩
        have hrow := hrd.row htl
        have hfm := HF.out L[t] (List.getElem_mem htl)
        have hin := (HH.out.below (HB.out.mono hB)).held L[t] (List.getElem_mem htl)
        rw [hx] at hrow hfm hin
        have hgw : g0 < wr.heap.size := by have := HB.out.size; omega
        obtain ⟨u1, hu1⟩ : ∃ u, x.ro.ok = u := ⟨_, rfl⟩
        have hrx : (ros L)[t] = x.ro := by rw [List.getElem_map, hx]
        have U1 := Lib.hid hu1; have FM := Lib.hid hfm; have HX := Lib.hid hrx
        have hz := heap_alloc_new wr (.cells #[.string x.ro.key, .string x.ro.live.s, .bool x.ro.live.d, .int .i64 x.ro.live.a, .int .i64 x.ro.live.e, .int .i64 x.ro.gone, .int .i64 x.ro.shade, .slice x.A x.ro.cols.length x.c] 61)
        have ha := (Below.refl wr.heap.size wr).alloc (Nat.le_refl _) (.cells #[.string x.ro.key, .string x.ro.live.s, .bool x.ro.live.d, .int .i64 x.ro.live.a, .int .i64 x.ro.live.e, .int .i64 x.ro.gone, .int .i64 x.ro.shade, .slice x.A x.ro.cols.length x.c] 61)
        have hbu := HB.out.trans (ha.mono HB.out.size)
        have hcu := fun j (hj : j < L.length) => (hrd.row hj).below ha hgw
        have hiu := hin.below (ha.mono (by have := HB.out.size; omega))
        obtain ⟨_, _, _, _, _, _, _, _⟩ := hrow
        clear hu1 hfm hx hrx hrd hin
        by_cases hz0 : t = 0
        · have hga : goodR (ros L) t = u1 := by
            subst hz0
            rw [goodR_zero htr, HX.out, U1.out]
          have j1 : decide ((0 : Int) < (t : Int)) = false := by simp; omega
          have j2 : decide (0 < t) = false := by simp; omega
          clear hz0
          have HGA := Lib.hid hga
          clear hga
          go_wp2_with fail
          obtain ⟨U, hU⟩ : ∃ U, U = wr.alloc (.cells #[.string x.ro.key, .string x.ro.live.s, .bool x.ro.live.d, .int .i64 x.ro.live.a, .int .i64 x.ro.live.e, .int .i64 x.ro.gone, .int .i64 x.ro.shade, .slice x.A x.ro.cols.length x.c] 61) := ⟨_, rfl⟩
          have hUs : U.heap.size = wr.heap.size + 1 := by rw [hU]; simp
          rw [← hU] at hz hbu hcu hiu ⊢
          have hall : ∀ w', Below U.heap.size U w' → BlkAt w' wr.heap.size x ∧ True := fun w' hb => ⟨BlkAt.of ((hb.block wr.heap.size (by omega)).trans hz), trivial⟩
          have hin2 : ∀ w', Below U.heap.size U w' → RaIn w' B x := fun w' hb => hiu.below (hb.mono (by have := HB.out.size; omega))
          have HALL := Lib.hid hall; have HBU := Lib.hid hbu; have HIN := Lib.hid hin2
          have HUB := Lib.hid (show B ≤ U.heap.size by have := HB.out.size; omega)
          clear hall hz hU ha hbu hcu hiu hin2
          cases u1
          · refine wp_region_held_drew (S := fun w' => Below U.heap.size U w') (by kernel_rfl) ?_ (fun hHeld => ?_)
            · exact (Below.refl _ _).drew
            refine takesH [0] ?_
            repeat
              refine takesH_one (v := ?_) ?_ ?_
              rotate_left
              · first | (refine Or.inr ⟨by rfl, ?_⟩; with_reducible rfl) | (refine Or.inl ⟨by rfl, ?_⟩; intro wx hSw; (try dsimp only at hSw); first | (go_simp; first | done | with_reducible rfl) | (obtain ⟨⟨_, _, _, _, _, _, _, _⟩, _⟩ := HALL.out _ hSw; go_simp; first | done | with_reducible rfl))
              try simp only [Act.put, List.getElem_toArray, List.getElem_cons_succ, List.getElem_cons_zero, List.setIfInBounds_toArray, List.set_cons_zero, List.set_cons_succ]
            refine takesH_nil ?_
            refine wpAnyH_ready (rs := [1]) (by kernel_rfl) (by simp) (AllReadyH.cons rfl (fun K hK => ?_) AllReadyH.nil)
            go_simp
            refine (check_ra x B _ ?hin1 ?hsz1 FM.out).mono ?_
            case hin1 => exact HIN.out _ (by first | exact (Below.refl _ _).drew | exact below_draws _ _ _ | exact Below.refl _ _)
            case hsz1 => exact HUB.out
            rintro y v1 ⟨rfl, b1⟩
            rw [U1.out]
            try go_wp2_with fail
            refine hK.out _ _ ?_ (fun hHeld => ?_)
            · exact next (by assumption) b1
            clear hK K
            try simp only [Act.put, List.getElem_toArray, List.getElem_cons_succ, List.getElem_cons_zero, List.setIfInBounds_toArray, List.set_cons_zero, List.set_cons_succ]
            refine takesH [2, 3, 4, 5, 6, 7, 8, 9, 10, 11, 12, 13, 14, 15, 16, 17] ?_
            repeat
              refine takesH_one (v := ?_) ?_ ?_
              rotate_left
              · first | (refine Or.inr ⟨by rfl, ?_⟩; with_reducible rfl) | (refine Or.inl ⟨by rfl, ?_⟩; intro wx hSw; (try dsimp only at hSw); first | (go_simp; first | done | with_reducible rfl))
              try simp only [Act.put, List.getElem_toArray, List.getElem_cons_succ, List.getElem_cons_zero, List.setIfInBounds_toArray, List.set_cons_zero, List.set_cons_succ]
            refine takesH_nil ?_
            refine wpAnyH_done (by kernel_rfl) ?_ _
            have hv : r = false := by rw [← HR.out]; exact goodsR_no htr HGA.out
            subst hv
            go_wp2
            go_ret
            exact ⟨rfl, next HBU.out hHeld⟩
          · refine wp_region_held_drew (S := fun w' => Below U.heap.size U w') (by kernel_rfl) ?_ (fun hHeld => ?_)
            · exact (Below.refl _ _).drew
            refine takesH [0] ?_
            repeat
              refine takesH_one (v := ?_) ?_ ?_
              rotate_left
              · first | (refine Or.inr ⟨by rfl, ?_⟩; with_reducible rfl) | (refine Or.inl ⟨by rfl, ?_⟩; intro wx hSw; (try dsimp only at hSw); first | (go_simp; first | done | with_reducible rfl) | (obtain ⟨⟨_, _, _, _, _, _, _, _⟩, _⟩ := HALL.out _ hSw; go_simp; first | done | with_reducible rfl))
              try simp only [Act.put, List.getElem_toArray, List.getElem_cons_succ, List.getElem_cons_zero, List.setIfInBounds_toArray, List.set_cons_zero, List.set_cons_succ]
            refine takesH_nil ?_
            refine wpAnyH_ready (rs := [1]) (by kernel_rfl) (by simp) (AllReadyH.cons rfl (fun K hK => ?_) AllReadyH.nil)
            go_simp
            refine (check_ra x B _ ?hin1 ?hsz1 FM.out).mono ?_
            case hin1 => exact HIN.out _ (by first | exact (Below.refl _ _).drew | exact below_draws _ _ _ | exact Below.refl _ _)
            case hsz1 => exact HUB.out
            rintro y v1 ⟨rfl, b1⟩
            rw [U1.out]
            try go_wp2_with fail
            refine hK.out _ _ ?_ (fun hHeld => ?_)
            · exact next (by assumption) b1
            clear hK K
            try simp only [Act.put, List.getElem_toArray, List.getElem_cons_succ, List.getElem_cons_zero, List.setIfInBounds_toArray, List.set_cons_zero, List.set_cons_succ]
            refine takesH [2, 3, 4, 5, 6, 7, 8, 9, 10, 11, 12, 13, 14, 15, 16, 17] ?_
            repeat
              refine takesH_one (v := ?_) ?_ ?_
              rotate_left
              · first | (refine Or.inr ⟨by rfl, ?_⟩; with_reducible rfl) | (refine Or.inl ⟨by rfl, ?_⟩; intro wx hSw; (try dsimp only at hSw); first | (go_simp; first | done | with_reducible rfl))
              try simp only [Act.put, List.getElem_toArray, List.getElem_cons_succ, List.getElem_cons_zero, List.setIfInBounds_toArray, List.set_cons_zero, List.set_cons_succ]
            refine takesH_nil ?_
            refine wpAnyH_done (by kernel_rfl) ?_ _
            go_wp2
            go_roundw
            case rel => exact ⟨t + 1, by omega, by go_num, goodsR_step HG.out HGA.out, next HBU.out hHeld⟩
            case measure => simp [intOf]; omega
        · obtain ⟨u, hu⟩ : ∃ u, u + 1 = t := ⟨t - 1, by omega⟩
          have hul : u < L.length := by omega
          have hsub : IntKind.i64.wrap ((t : Int) - 1) = (u : Int) := by rw [IntKind.wrap_i64]; omega
          have j1 : (u : Int) < n := by omega
          have j0 : (0 : Int) ≤ u := by omega
          have j2 : decide ((0 : Int) < (t : Int)) = true := by simp; omega
          have j3 : decide (0 < t) = true := by simp; omega
          have j4 : (0 : Int) < (t : Int) := by omega
          have j5 : 0 < t := by omega
          obtain ⟨y, hy⟩ : ∃ y, L[u] = y := ⟨_, rfl⟩
          have hcu2 := hcu u hul
          rw [hy] at hcu2
          have hga : goodR (ros L) t = (u1 && decide (nlt y.ro.key x.ro.key)) := by
            subst hu
            rw [goodR_succ htr, HX.out, U1.out, List.getElem_map, hy]
          have HGA := Lib.hid hga; have HY := Lib.hid hy
          clear hga hy hcu
          go_wp2_with fail
          obtain ⟨U, hU⟩ : ∃ U, U = wr.alloc (.cells #[.string x.ro.key, .string x.ro.live.s, .bool x.ro.live.d, .int .i64 x.ro.live.a, .int .i64 x.ro.live.e, .int .i64 x.ro.gone, .int .i64 x.ro.shade, .slice x.A x.ro.cols.length x.c] 61) := ⟨_, rfl⟩
          have hUs : U.heap.size = wr.heap.size + 1 := by rw [hU]; simp
          rw [← hU] at hz hbu hcu2 hiu ⊢
          have hall : ∀ w', Below U.heap.size U w' → BlkAt w' wr.heap.size x ∧ w'.cell? ⟨g0, o0 + u * 8, none⟩ = some (.string y.ro.key) := fun w' hb => ⟨BlkAt.of ((hb.block wr.heap.size (by omega)).trans hz), (hcu2.below hb (show g0 < U.heap.size by omega)).1⟩
          have hin2 : ∀ w', Below U.heap.size U w' → RaIn w' B x := fun w' hb => hiu.below (hb.mono (by have := HB.out.size; omega))
          have HALL := Lib.hid hall; have HBU := Lib.hid hbu; have HU := Lib.hid hu; have HIN := Lib.hid hin2
          have HUB := Lib.hid (show B ≤ U.heap.size by have := HB.out.size; omega)
          clear hall hz hU ha hbu hcu2 hu hiu hin2
          cases u1
          · refine wp_region_held_drew (S := fun w' => Below U.heap.size U w') (by kernel_rfl) ?_ (fun hHeld => ?_)
            · exact (Below.refl _ _).drew
            refine takesH [0] ?_
            repeat
              refine takesH_one (v := ?_) ?_ ?_
              rotate_left
              · first | (refine Or.inr ⟨by rfl, ?_⟩; with_reducible rfl) | (refine Or.inl ⟨by rfl, ?_⟩; intro wx hSw; (try dsimp only at hSw); first | (go_simp; first | done | with_reducible rfl) | (obtain ⟨⟨_, _, _, _, _, _, _, _⟩, _⟩ := HALL.out _ hSw; go_simp; first | done | with_reducible rfl))
              try simp only [Act.put, List.getElem_toArray, List.getElem_cons_succ, List.getElem_cons_zero, List.setIfInBounds_toArray, List.set_cons_zero, List.set_cons_succ]
            refine takesH_nil ?_
            refine wpAnyH_ready (rs := [1]) (by kernel_rfl) (by simp) (AllReadyH.cons rfl (fun K hK => ?_) AllReadyH.nil)
            go_simp
            refine (check_ra x B _ ?hin1 ?hsz1 FM.out).mono ?_
            case hin1 => exact HIN.out _ (by first | exact (Below.refl _ _).drew | exact below_draws _ _ _ | exact Below.refl _ _)
            case hsz1 => exact HUB.out
            rintro y v1 ⟨rfl, b1⟩
            rw [U1.out]
            try go_wp2_with fail
            refine hK.out _ _ ?_ (fun hHeld => ?_)
            · exact next (by assumption) b1
            clear hK K
            try simp only [Act.put, List.getElem_toArray, List.getElem_cons_succ, List.getElem_cons_zero, List.setIfInBounds_toArray, List.set_cons_zero, List.set_cons_succ]
            refine takesH [2, 3, 4, 5, 6, 7, 8, 9, 10, 11, 12, 13, 14, 15, 16, 17] ?_
            repeat
              refine takesH_one (v := ?_) ?_ ?_
              rotate_left
              · first | (refine Or.inr ⟨by rfl, ?_⟩; with_reducible rfl) | (refine Or.inl ⟨by rfl, ?_⟩; intro wx hSw; (try dsimp only at hSw); first | (go_simp; first | done | with_reducible rfl))
              try simp only [Act.put, List.getElem_toArray, List.getElem_cons_succ, List.getElem_cons_zero, List.setIfInBounds_toArray, List.set_cons_zero, List.set_cons_succ]
            refine takesH_nil ?_
            refine wpAnyH_done (by kernel_rfl) ?_ _
            have hv : r = false := by rw [← HR.out]; exact goodsR_no htr (by rw [HGA.out]; rfl)
            subst hv
            go_wp2
            go_ret
            exact ⟨rfl, next HBU.out hHeld⟩
          · by_cases hp : nlt y.ro.key x.ro.key
            · have hb1 : Op.bytesLess y.ro.key.toList x.ro.key.toList = true := blB_true hp
              have hga2 := HGA.out
              rw [decide_eq_true hp] at hga2
              have HG2 := Lib.hid hga2
              clear hga2
              refine wp_region_held_drew (S := fun w' => Below U.heap.size U w') (by kernel_rfl) ?_ (fun hHeld => ?_)
              · exact (Below.refl _ _).drew
              refine takesH [0] ?_
              repeat
                refine takesH_one (v := ?_) ?_ ?_
                rotate_left
                · first | (refine Or.inr ⟨by rfl, ?_⟩; with_reducible rfl) | (refine Or.inl ⟨by rfl, ?_⟩; intro wx hSw; (try dsimp only at hSw); first | (go_simp; first | done | with_reducible rfl) | (obtain ⟨⟨_, _, _, _, _, _, _, _⟩, _⟩ := HALL.out _ hSw; go_simp; first | done | with_reducible rfl))
                try simp only [Act.put, List.getElem_toArray, List.getElem_cons_succ, List.getElem_cons_zero, List.setIfInBounds_toArray, List.set_cons_zero, List.set_cons_succ]
              refine takesH_nil ?_
              refine wpAnyH_ready (rs := [1]) (by kernel_rfl) (by simp) (AllReadyH.cons rfl (fun K hK => ?_) AllReadyH.nil)
              go_simp
              refine (check_ra x B _ ?hin1 ?hsz1 FM.out).mono ?_
              case hin1 => exact HIN.out _ (by first | exact (Below.refl _ _).drew | exact below_draws _ _ _ | exact Below.refl _ _)
              case hsz1 => exact HUB.out
              rintro y v1 ⟨rfl, b1⟩
              rw [U1.out]
              try go_wp2_with fail
              refine hK.out _ _ ?_ (fun hHeld => ?_)
              · exact next (by assumption) b1
              clear hK K
              try simp only [Act.put, List.getElem_toArray, List.getElem_cons_succ, List.getElem_cons_zero, List.setIfInBounds_toArray, List.set_cons_zero, List.set_cons_succ]
              refine takesH [2, 3, 4, 5, 6, 7, 8, 9, 10, 11, 12, 13, 14, 15, 16, 17] ?_
              repeat
                refine takesH_one (v := ?_) ?_ ?_
                rotate_left
                · first | (refine Or.inr ⟨by rfl, ?_⟩; with_reducible rfl) | (refine Or.inl ⟨by rfl, ?_⟩; intro wx hSw; (try dsimp only at hSw); first | (go_simp; first | done | with_reducible rfl) | (obtain ⟨⟨_, _, _, _, _, _, _, _⟩, _⟩ := HALL.out _ hSw; go_simp; first | done | with_reducible rfl))
                try simp only [Act.put, List.getElem_toArray, List.getElem_cons_succ, List.getElem_cons_zero, List.setIfInBounds_toArray, List.set_cons_zero, List.set_cons_succ]
              refine takesH_nil ?_
              refine wpAnyH_done (by kernel_rfl) ?_ _
              go_wp2
              go_roundw
              case rel => exact ⟨t + 1, by omega, by go_num, goodsR_step HG.out HG2.out, next HBU.out hHeld⟩
              case measure => simp [intOf]; omega
            · have hb1 : Op.bytesLess y.ro.key.toList x.ro.key.toList = false := blB_false hp
              have hv : r = false := by rw [← HR.out]; exact goodsR_no htr (by rw [HGA.out, decide_eq_false hp]; rfl)
              subst hv
              refine wp_region_held_drew (S := fun w' => Below U.heap.size U w') (by kernel_rfl) ?_ (fun hHeld => ?_)
              · exact (Below.refl _ _).drew
              refine takesH [0] ?_
              repeat
                refine takesH_one (v := ?_) ?_ ?_
                rotate_left
                · first | (refine Or.inr ⟨by rfl, ?_⟩; with_reducible rfl) | (refine Or.inl ⟨by rfl, ?_⟩; intro wx hSw; (try dsimp only at hSw); first | (go_simp; first | done | with_reducible rfl) | (obtain ⟨⟨_, _, _, _, _, _, _, _⟩, _⟩ := HALL.out _ hSw; go_simp; first | done | with_reducible rfl))
                try simp only [Act.put, List.getElem_toArray, List.getElem_cons_succ, List.getElem_cons_zero, List.setIfInBounds_toArray, List.set_cons_zero, List.set_cons_succ]
              refine takesH_nil ?_
              refine wpAnyH_ready (rs := [1]) (by kernel_rfl) (by simp) (AllReadyH.cons rfl (fun K hK => ?_) AllReadyH.nil)
              go_simp
              refine (check_ra x B _ ?hin1 ?hsz1 FM.out).mono ?_
              case hin1 => exact HIN.out _ (by first | exact (Below.refl _ _).drew | exact below_draws _ _ _ | exact Below.refl _ _)
              case hsz1 => exact HUB.out
              rintro y v1 ⟨rfl, b1⟩
              rw [U1.out]
              try go_wp2_with fail
              refine hK.out _ _ ?_ (fun hHeld => ?_)
              · exact next (by assumption) b1
              clear hK K
              try simp only [Act.put, List.getElem_toArray, List.getElem_cons_succ, List.getElem_cons_zero, List.setIfInBounds_toArray, List.set_cons_zero, List.set_cons_succ]
              refine takesH [2, 3, 4, 5, 6, 7, 8, 9, 10, 11, 12, 13, 14, 15, 16, 17] ?_
              repeat
                refine takesH_one (v := ?_) ?_ ?_
                rotate_left
                · first | (refine Or.inr ⟨by rfl, ?_⟩; with_reducible rfl) | (refine Or.inl ⟨by rfl, ?_⟩; intro wx hSw; (try dsimp only at hSw); first | (go_simp; first | done | with_reducible rfl) | (obtain ⟨⟨_, _, _, _, _, _, _, _⟩, _⟩ := HALL.out _ hSw; go_simp; first | done | with_reducible rfl))
                try simp only [Act.put, List.getElem_toArray, List.getElem_cons_succ, List.getElem_cons_zero, List.setIfInBounds_toArray, List.set_cons_zero, List.set_cons_succ]
              refine takesH_nil ?_
              refine wpAnyH_done (by kernel_rfl) ?_ _
              go_wp2
              go_ret
              exact ⟨rfl, next HBU.out hHeld⟩
      · obtain rfl : t = n := by omega
        have hv : r = true := by rw [← HR.out]; unfold rowsB; rw [List.length_map, HL.out]; exact HG.out
        subst hv
        go_wp2
        go_ret
        exact ⟨rfl, HB.out⟩
  · have d0 : decide ((100 : Int) < (n : Nat)) = true := by simp; omega
    have hv : r = false := by rw [← hr, decide_eq_false h8]; rfl
    subst hv
    go_enter Try.func43, Try.ntmps43
    go_wp2
    go_ret
    exact ⟨rfl, Below.refl _ _⟩
end Go.Proofs.Ytbfkbfbcaileoaa
set_option linter.unusedVariables false
set_option linter.unusedSimpArgs false
namespace Go.Proofs.Ytbfkbfbcaileoaa
open Go Go.RowKit

instance : DecidableEq Ro := fun x y => decidable_of_iff _ (rosame_iff x y)

/-- A partition's three cells at block q. -/
def PtAt (w : World) (q : Nat) (k : ByteArray) (g : Int) (A : Option Addr) (n c : Nat) : Prop := w.cell? ⟨q, 0, none⟩ = some (.string k) ∧ w.cell? ⟨q, 1, none⟩ = some (.int .i64 g) ∧ w.cell? ⟨q, 2, none⟩ = some (.slice A n c)
theorem PtAt.of {w : World} {q : Nat} {k : ByteArray} {g : Int} {A : Option Addr} {n c : Nat} (h : w.heap[q]? = some (.cells #[.string k, .int .i64 g, .slice A n c] 24 (0, 0))) : PtAt w q k g A n c := ⟨cell_at h rfl, cell_at h rfl, cell_at h rfl⟩
theorem PtAt.below {w w' : World} {q B : Nat} {k : ByteArray} {g : Int} {A : Option Addr} {n c : Nat} (r : PtAt w q k g A n c) (hb : Below B w w') (hg : q < B) : PtAt w' q k g A n c :=
  ⟨(hb.cell (p := ⟨q, _, none⟩) hg).trans r.1, (hb.cell (p := ⟨q, _, none⟩) hg).trans r.2.1, (hb.cell (p := ⟨q, _, none⟩) hg).trans r.2.2⟩
end Go.Proofs.Ytbfkbfbcaileoaa
set_option linter.unusedVariables false
set_option linter.unusedSimpArgs false
namespace Go.Proofs.Ytbfkbfbcaileoaa
open Go Go.RowKit

set_option maxRecDepth 8000 in
set_option maxHeartbeats 4000000 in
theorem pcheck_any (k : ByteArray) (g : Int) (A : Option Addr) (n c B : Nat) (L : List RA) (w : World) (h : Lies w B A n c L) (hB : B ≤ w.heap.size) (hn : n ≤ 1000000000) (hf : FewR L) :
    Calls Try.prog 23 #[.agg #[.string k, .int .i64 g, .slice A n c]] w fun x w' => x = .returned (.bool (Pa.ok ⟨k, g, ros L⟩)) ∧ Below w.heap.size w w' := by
  obtain ⟨r, hrr⟩ : ∃ r, Pa.ok ⟨k, g, ros L⟩ = r := ⟨_, rfl⟩
  rw [hrr]
  unfold Pa.ok at hrr
  simp only at hrr
  rw [List.length_map, h.len] at hrr
  obtain ⟨u1, hu1⟩ : ∃ u, decide (k.size ≤ 100) = u := ⟨_, rfl⟩
  have hu1i : decide (((k.size : Nat) : Int) ≤ 100) = u1 := by rw [← hu1]; simp; omega
  obtain ⟨u2, hu2⟩ : ∃ u, stm g = u := ⟨_, rfl⟩
  obtain ⟨u3, hu3⟩ : ∃ u, (decide (n ≤ 100) && rowsB (ros L)) = u := ⟨_, rfl⟩
  rw [hu1, hu2, hu3] at hrr
  have RR := Lib.hid hrr; have U2 := Lib.hid hu2; have U3 := Lib.hid hu3
  have bz := (Below.refl w.heap.size w).alloc (Nat.le_refl _) (.cells #[.string k, .int .i64 g, .slice A n c] 24)
  have hz := heap_alloc_new w (.cells #[.string k, .int .i64 g, .slice A n c] 24)
  have HL := Lib.hid (h.below (bz.mono hB)); have HF := Lib.hid hf; have BZ := Lib.hid bz
  obtain ⟨_, _, _⟩ := PtAt.of hz
  clear hrr hu2 hu3 bz hz h hf
  go_enter Try.func23, Try.ntmps23
  cases u1
  · have hv : r = false := by rw [← RR.out]; rfl
    subst hv
    go_wp2
    go_ret
    exact ⟨rfl, BZ.out⟩
  · go_wp2_with fail
    refine (pstamp_any g _).mono ?_
    rintro e w1 ⟨rfl, rfl⟩
    rw [U2.out]
    cases u2
    · have hv : r = false := by rw [← RR.out]; rfl
      subst hv
      go_wp2
      go_ret
      exact ⟨rfl, BZ.out⟩
    · go_wp2_with fail
      refine (rows_any A n c B L _ HL.out (by simp; omega) hn HF.out).mono ?_
      rintro e w2 ⟨rfl, b2⟩
      rw [U3.out]
      have hv : u3 = r := by rw [← RR.out]; rfl
      subst hv
      go_wp2
      go_ret
      exact ⟨rfl, next BZ.out b2⟩
end Go.Proofs.Ytbfkbfbcaileoaa
set_option linter.unusedVariables false
set_option linter.unusedSimpArgs false
namespace Go.Proofs.Ytbfkbfbcaileoaa
open Go Go.RowKit

theorem ce_sizeD {c : Ce} (h : c.ok = true) : c.s.size ≤ 100 := by
  unfold Ce.ok at h
  split at h
  · rw [(same_iff _ _).1 h]; simp [ByteArray.size]
  · split at h
    · cases h
    · split at h
      · rw [(same_iff _ _).1 h]; simp [ByteArray.size]
      · simp only [Bool.and_eq_true, decide_eq_true_iff] at h
        exact h.1
theorem roS_of {r : Ro} (h : r.ok = true) : RoS r := by
  have hg := Ro.gd_of h
  have hc := cols_each h
  unfold Ro.ok liveB at h
  simp only [Bool.and_eq_true, decide_eq_true_iff] at h
  refine ⟨by omega, hg.2.1, ?_, hg.2.2.1, hg.2.2.2.1, by omega, fun x hx => ?_⟩
  · have := ce_sizeD h.2.1.1; omega
  · have h1 := hc x hx
    unfold colB nameB at h1
    simp only [Bool.and_eq_true, decide_eq_true_iff] at h1
    have := ce_sizeD h1.2.1
    exact ⟨by omega, Ce.gd_of h1.2.1, by omega⟩
theorem paS_of {k : ByteArray} {g : Int} {L : List RA} (h : Pa.ok ⟨k, g, ros L⟩ = true) : PaS k g L := by
  obtain ⟨hk1, hk2, hk3, hk4⟩ := Pa.ok_of h
  have hgd := Pa.gd_of h
  simp only [List.length_map] at hk3
  dsimp only at hk1
  exact ⟨by omega, hgd.2.1, by omega, fun x hx => roS_of (rowsB_each hk4 x.ro (List.mem_map.2 ⟨x, hx, rfl⟩))⟩
/-- A call that hands back bytes, or what is wrong. -/
def GivesP (w : World) (r : Except Int Bs) (e : Ending) (w' : World) : Prop := match r with
  | .ok b => ∃ A n c, e = .returned (.tuple #[.slice A n c, .int .i64 0]) ∧ b.length = n ∧ n ≤ c ∧ c ≤ maxLen ∧ (A = none → c = 0) ∧ w'.ownsRow w.heap.size 5 1 (.slice A n c) n (Lib.byteCells b) ∧ Below w.heap.size w w'
  | .error x => e = .returned (.tuple #[.slice none 0 0, .int .i64 x]) ∧ Below w.heap.size w w'
theorem OwnY.base {b b' : Nat} {w : World} {v : Value} {l : Bs} (h : OwnY b w v l) (hb : b' ≤ b) : OwnY b' w v l := own_down h hb
set_option maxRecDepth 8000 in
set_option maxHeartbeats 4000000 in
theorem put_part (k : ByteArray) (g : Int) (A : Option Addr) (n c B : Nat) (L : List RA) (w : World) (hr : Lies w B A n c L) (hB : B ≤ w.heap.size) (hn : n ≤ 1000000) (hf : FewR L) :
    Calls Try.prog 22 #[.agg #[.string k, .int .i64 g, .slice A n c], .func (.func 23) #[] #[], .func (.func 24) #[] #[]] w (GivesP w (putPart ⟨k, g, ros L⟩)) := by
  have bz := (Below.refl w.heap.size w).alloc (Nat.le_refl _) (.cells #[.string k, .int .i64 g, .slice A n c] 24)
  have hz := heap_alloc_new w (.cells #[.string k, .int .i64 g, .slice A n c] 24)
  obtain ⟨V, hV⟩ : ∃ V, V = w.alloc (.cells #[.string k, .int .i64 g, .slice A n c] 24) := ⟨_, rfl⟩
  rw [← hV] at bz hz
  have hVs := bz.size
  have hc0 := cell_at (i := 0) hz rfl
  have hc1 := cell_at (i := 1) hz rfl
  have hc2 := cell_at (i := 2) hz rfl
  obtain ⟨u, hu⟩ : ∃ u, Pa.ok ⟨k, g, ros L⟩ = u := ⟨_, rfl⟩
  have C1 := pcheck_any k g A n c B L V (hr.below (bz.mono hB)) (by omega) (by omega) hf
  rw [hu] at C1
  have HU := Lib.hid hu; have HZ := Lib.hid hz; have BZ := Lib.hid bz; have HC1 := Lib.hid C1; have HR := Lib.hid hr; have HB := Lib.hid hB; have HVS := Lib.hid hVs
  clear hu hz bz C1 hr hf hVs
  go_enter Try.func22, Try.ntmps22
  go_wp2_with fail
  rw [← hV]
  clear hV
  refine (HC1.out).mono ?_
  rintro e w1 ⟨rfl, b1⟩
  have hz1 := (b1.block _ (Array.getElem?_eq_some_iff.1 HZ.out).1).trans HZ.out
  have B1 := Lib.hid b1
  clear hc0 hc1 hc2 b1
  have hc0 := cell_at (i := 0) hz1 rfl
  have hc1 := cell_at (i := 1) hz1 rfl
  have hc2 := cell_at (i := 2) hz1 rfl
  have HZ1 := Lib.hid hz1
  clear hz1
  cases u with
  | false =>
    go_wp2
    go_ret2
    rw [putPart_no HU.out]
    exact ⟨rfl, next BZ.out B1.out⟩
  | true =>
    have hps := paS_of HU.out
    have hle := pa_len HU.out
    have HP := putPart_ok HU.out
    obtain ⟨P, hP⟩ : ∃ P, pE ⟨k, g, ros L⟩ = P := ⟨_, rfl⟩
    have hb1 := next BZ.out B1.out
    have N := putPart_any w1.heap.size (.slice none 0 0) [] k g A n c B L w1 (own_nilY _ _) (Nat.le_refl _) (HR.out.below (hb1.mono HB.out)) (by have := hb1.size; have := HB.out; omega) hps (by rw [List.nil_append]; omega)
    rw [List.nil_append] at N
    rw [hP] at N HP hle
    have HN := Lib.hid N; have HPP := Lib.hid HP; have HB1 := Lib.hid hb1; have HLE := Lib.hid hle
    clear hps hle HP hP hb1 N
    go_wp2_with fail
    refine (HN.out).mono ?_
    rintro e w2 ⟨v2, rfl, l2⟩
    have hb2 := l2.base (own_nilY _ _) (Nat.le_refl _)
    obtain ⟨A2, n2, c2, rfl, hl2, g1, g2, g3, ho⟩ := l2.own.slice
    have d1 : decide ((262144 : Int) < (n2 : Int)) = false := by have := HLE.out; simp; omega
    have d2 : decide (262144 < n2) = false := by have := HLE.out; simp; omega
    have HG : Hid (P.length = n2 ∧ n2 ≤ c2 ∧ c2 ≤ maxLen ∧ (A2 = none → c2 = 0) ∧ w2.ownsRow w.heap.size 5 1 (.slice A2 n2 c2) n2 (Lib.byteCells P) ∧ Below w.heap.size w w2) := Lib.hid ⟨hl2, g1, g2, g3, own_down ho HB1.out.size, next HB1.out hb2⟩
    clear hl2 g1 g2 g3 ho hb2 l2 hc0 hc1 hc2
    go_wp2
    go_ret2
    rw [HPP.out]
    exact ⟨A2, n2, c2, rfl, HG.out⟩
set_option maxRecDepth 8000 in
set_option maxHeartbeats 4000000 in
theorem pack_part (k : ByteArray) (g : Int) (A : Option Addr) (n c B : Nat) (L : List RA) (w : World) (hr : Lies w B A n c L) (hB : B ≤ w.heap.size) (hn : n ≤ 1000000) (hf : FewR L) :
    Calls Try.prog 10 #[.agg #[.string k, .int .i64 g, .slice A n c]] w (GivesP w (putPart ⟨k, g, ros L⟩)) := by
  have bz := (Below.refl w.heap.size w).alloc (Nat.le_refl _) (.cells #[.string k, .int .i64 g, .slice A n c] 24)
  have hz := heap_alloc_new w (.cells #[.string k, .int .i64 g, .slice A n c] 24)
  obtain ⟨V, hV⟩ : ∃ V, V = w.alloc (.cells #[.string k, .int .i64 g, .slice A n c] 24) := ⟨_, rfl⟩
  rw [← hV] at bz hz
  have hVs := bz.size
  have hc0 := cell_at (i := 0) hz rfl
  have hc1 := cell_at (i := 1) hz rfl
  have hc2 := cell_at (i := 2) hz rfl
  have N := put_part k g A n c B L V (hr.below (bz.mono hB)) (by omega) hn hf
  have BZ := Lib.hid bz; have HN := Lib.hid N
  obtain ⟨R, hR⟩ : ∃ R, putPart ⟨k, g, ros L⟩ = R := ⟨_, rfl⟩
  rw [hR] at HN ⊢
  clear hz bz hr hf hVs N hR hB
  go_enter Try.func10, Try.ntmps10
  go_wp2_with fail
  rw [← hV]
  clear hV
  refine (HN.out).mono ?_
  intro e w1 hg
  cases R with
  | error x =>
    obtain ⟨rfl, b1⟩ := hg
    have B1 := Lib.hid b1
    clear b1
    go_wp2
    go_ret2
    exact ⟨rfl, next BZ.out B1.out⟩
  | ok b =>
    obtain ⟨A2, n2, c2, rfl, h1, h2, h3, h4, h5, h6⟩ := hg
    have HG : Hid (b.length = n2 ∧ n2 ≤ c2 ∧ c2 ≤ maxLen ∧ (A2 = none → c2 = 0) ∧ w1.ownsRow w.heap.size 5 1 (.slice A2 n2 c2) n2 (Lib.byteCells b) ∧ Below w.heap.size w w1) := Lib.hid ⟨h1, h2, h3, h4, own_down h5 BZ.out.size, next BZ.out h6⟩
    clear h1 h2 h3 h4 h5 h6
    go_wp2
    go_ret2
    exact ⟨A2, n2, c2, rfl, HG.out⟩
end Go.Proofs.Ytbfkbfbcaileoaa
set_option linter.unusedVariables false
set_option linter.unusedSimpArgs false
namespace Go.Proofs.Ytbfkbfbcaileoaa
open Go Go.RowKit

theorem at_newQ {W : World} {r : Nat} {cs : Array Value} {t : TypeId} (h : W.heap[r]? = some (.cells cs t (0, 0))) (o : Obj) : (W.alloc o).heap[r]? = some (.cells cs t (0, 0)) :=
  (((Below.refl W.heap.size W).alloc (Nat.le_refl _) o).block r (Array.getElem?_eq_some_iff.1 h).1).trans h
theorem set3Q_block {w : World} {q : Nat} {v0 v1 v2 : Value} {T : TypeId} (h : w.heap[q]? = some (.cells #[v0, v1, v2] T (0, 0))) (u0 u1 u2 : Value) :
    (((w.setCell ⟨q, 0, none⟩ u0).setCell ⟨q, 1, none⟩ u1).setCell ⟨q, 2, none⟩ u2).heap[q]? = some (.cells #[u0, u1, u2] T (0, 0)) := by
  have h0 := Joins.block_setCell (i := 0) h u0
  simp only [List.setIfInBounds_toArray, List.set_cons_zero, List.set_cons_succ] at h0
  have h1 := Joins.block_setCell (i := 1) h0 u1
  simp only [List.setIfInBounds_toArray, List.set_cons_zero, List.set_cons_succ] at h1
  have h2 := Joins.block_setCell (i := 2) h1 u2
  simpa only [List.setIfInBounds_toArray, List.set_cons_zero, List.set_cons_succ] using h2
theorem kept_set3Q {w : World} (q : Nat) (u0 u1 u2 : Value) : Kept (fun k => k = q) w (((w.setCell ⟨q, 0, none⟩ u0).setCell ⟨q, 1, none⟩ u1).setCell ⟨q, 2, none⟩ u2) :=
  (((Kept.refl (fun k => k = q) w).trans (Kept.setCell (fun k => k = q) _ ⟨q, 0, none⟩ u0 rfl) fun _ h => Or.inl h).trans (Kept.setCell (fun k => k = q) _ ⟨q, 1, none⟩ u1 rfl) fun _ h => Or.inl h).trans (Kept.setCell (fun k => k = q) _ ⟨q, 2, none⟩ u2 rfl) fun _ h => Or.inl h
set_option maxRecDepth 8000 in
set_option maxHeartbeats 2000000 in
theorem ypart (q i n c : Nat) (e : Int) (A : Option Addr) (l : Bs) (w : World) (h : RY w q A n c l i e) (hi : i ≤ n) (hs : n ≤ 900000) :
    Calls Try.prog 26 #[.pointer (some ⟨q, 0, none⟩)] w fun x w' => ∃ (z : PA) (j : Nat) (f : Int), x = .returned (.agg #[.string z.k, .int .i64 z.g, .slice z.A z.L.length z.c]) ∧ RowsQ w w' z.A z.L.length z.c z.L ∧ j ≤ n ∧ RY w' q A n c l j f ∧ KeptQ q w w' ∧ Went partP l i e ⟨z.k, z.g, ros z.L⟩ j f := by
  have hqw := h.lt
  have bz := (Below.refl w.heap.size w).alloc (Nat.le_refl _) (.cells #[.string ⟨#[]⟩, .int .i64 0, .slice none 0 0] 24)
  have hz := heap_alloc_new w (.cells #[.string ⟨#[]⟩, .int .i64 0, .slice none 0 0] 24)
  have h0 := h.below bz
  obtain ⟨V, hV⟩ : ∃ V, V = w.alloc (.cells #[.string ⟨#[]⟩, .int .i64 0, .slice none 0 0] 24) := ⟨_, rfl⟩
  rw [← hV] at bz hz h0
  have H0 := Lib.hid h0; have HZ0 := Lib.hid hz; have BZ := Lib.hid bz; have HQ := Lib.hid hqw; have HS := Lib.hid hs
  clear h bz hz h0 hqw hs
  go_enter Try.func26, Try.ntmps26
  go_wp2_with fail
  rw [← hV]
  clear hV
  refine (ytext q i n c e A l _ H0.out hi (by have := HS.out; omega)).mono ?_
  rintro x w1 ⟨v, j1, f1, rfl, hv, hj1, h1, k1, hw1⟩
  have H1 := Lib.hid h1; have HZ1 := Lib.hid (Kept.atQ k1 HZ0.out (by have := HQ.out; omega)); have K1 := Lib.hid (KeptQ.on (Kept.of_below BZ.out _) k1); have HW1 := Lib.hid hw1; have HJ1 := Lib.hid hj1
  clear h1 k1 hw1 hv hj1 hi
  go_wp2_with fail
  refine (ystamp q j1 n c f1 A l _ H1.out HJ1.out (by have := HS.out; omega)).mono ?_
  rintro x w3 ⟨g, j3, f3, rfl, _, _, hj3, h3, k3, hw3⟩
  have H3 := Lib.hid h3; have HZ3 := Lib.hid (Kept.atQ k3 HZ1.out (by have := HQ.out; omega)); have K3 := Lib.hid (K1.out.on k3); have HW3 := Lib.hid hw3; have HJ3 := Lib.hid hj3
  clear h3 k3 hw3 hj3
  go_wp2_with fail
  refine (yrows q j3 n c f3 A l _ H3.out HJ3.out HS.out).mono ?_
  rintro x w5 ⟨Ks, A5, m5, c5, j5, f5, rfl, ho5, hlen, hm5, hj5, h5, k5, hw5⟩
  have HZ5 := Lib.hid (Kept.atQ k5 HZ3.out (by have := HQ.out; omega))
  have z0 := cell_at (i := 0) HZ5.out rfl
  have z1 := cell_at (i := 1) HZ5.out rfl
  have z2 := cell_at (i := 2) HZ5.out rfl
  have y0 := thawed_at (i := 0) HZ5.out
  have y1 := thawed_at (i := 1) HZ5.out
  have y2 := thawed_at (i := 2) HZ5.out
  have m9 := set3Q_block HZ5.out (.string v) (.int .i64 g) (.slice A5 m5 c5)
  have n9 := kept_set3Q (w := w5) w.heap.size (.string v) (.int .i64 g) (.slice A5 m5 c5)
  have R9 := Lib.hid (RY.other h5 n9 HQ.out)
  have K9 := Lib.hid ((K3.out.on k5).own n9 (Nat.le_refl _))
  have O9 := Lib.hid ((ho5.lower (w0 := w) K3.out.size).kept1 n9 HZ5.out (by decide) (by decide))
  have HW : Hid (Went partP l i e (⟨v, g, ros Ks⟩ : Pa) j5 f5) := Lib.hid (HW1.out.partL HW3.out hw5)
  have HJ := Lib.hid hj5; have HLEN := Lib.hid hlen
  clear n9 h5 k5 hw5 hm5 hj5 ho5 hlen
  go_wp2
  generalize World.setCell (World.setCell (World.setCell w5 ⟨w.heap.size, 0, none⟩ (.string v)) ⟨w.heap.size, 1, none⟩ (.int .i64 g)) ⟨w.heap.size, 2, none⟩ (.slice A5 m5 c5) = w9 at m9 K9 R9 O9 ⊢
  clear z0 z1 z2 y0 y1 y2
  have q0 := cell_at (i := 0) m9 rfl
  have q1 := cell_at (i := 1) m9 rfl
  have q2 := cell_at (i := 2) m9 rfl
  refine bodyPost_ret (v := .agg #[.string v, .int .i64 g, .slice A5 m5 c5]) ?_ rfl ?_
  · simp [results, Try.results26, go_sem, q0, q1, q2]
  · have hl := HLEN.out
    subst hl
    exact ⟨⟨v, g, Ks, A5, c5⟩, j5, f5, rfl, O9.out, HJ.out, R9.out, K9.out, HW.out⟩
/-- A call that hands back a partition, or what is wrong. -/
def GivesG (w : World) (r : Except Int Pa) (x : Ending) (w' : World) : Prop := match r with
  | .ok p => ∃ z : PA, (⟨z.k, z.g, ros z.L⟩ : Pa) = p ∧ x = .returned (.tuple #[.agg #[.string z.k, .int .i64 z.g, .slice z.A z.L.length z.c], .int .i64 0]) ∧ RowsQ w w' z.A z.L.length z.c z.L ∧ Below w.heap.size w w'
  | .error e => x = .returned (.tuple #[.agg #[.string ⟨#[]⟩, .int .i64 0, .slice none 0 0], .int .i64 e]) ∧ Below w.heap.size w w'
theorem few_of_sizes {p : Pa} (h : p.Gd) {N : Nat} (hN : N ≤ 900000) (hn : (pE p).length ≤ N) {M : List RA} (hM : ros M = p.rows) : FewR M := fun x hx => by
  obtain ⟨_, _, h3⟩ := pa_sizes h hn
  have hr := h3 x.ro (by rw [← hM]; exact List.mem_map.2 ⟨x, hx, rfl⟩)
  refine ⟨fun y hy => ?_, by have := hr.val; unfold maxLen; omega, by have := hr.len; omega⟩
  have := hr.cols y hy
  exact ⟨by omega, by unfold maxLen; omega⟩
set_option maxRecDepth 8000 in
set_option maxHeartbeats 2000000 in
theorem get_part (A : Option Addr) (n c B : Nat) (l : Bs) (w : World) (hr : Rd w B A n l) (hB : B ≤ w.heap.size) (hnc : n ≤ c) (hc : c ≤ maxLen) (hA : A = none → c = 0) :
    Calls Try.prog 25 #[.slice A n c, .func (.func 26) #[] #[], .func (.func 23) #[] #[]] w (GivesG w (getPart l)) := by
  have hl := hr.1
  have bz := (Below.refl w.heap.size w).alloc (Nat.le_refl _) (.cells #[.string ⟨#[]⟩, .int .i64 0, .slice none 0 0] 24)
  have hz := heap_alloc_new w (.cells #[.string ⟨#[]⟩, .int .i64 0, .slice none 0 0] 24)
  obtain ⟨V1, hV1⟩ : ∃ V, V = w.alloc (.cells #[.string ⟨#[]⟩, .int .i64 0, .slice none 0 0] 24) := ⟨_, rfl⟩
  rw [← hV1] at bz hz
  have hs1 : V1.heap.size = w.heap.size + 1 := by rw [hV1]; simp
  have bz2 := (Below.refl V1.heap.size V1).alloc (Nat.le_refl _) (.cells #[.string ⟨#[]⟩, .int .i64 0, .slice none 0 0] 24)
  have hy := heap_alloc_new V1 (.cells #[.string ⟨#[]⟩, .int .i64 0, .slice none 0 0] 24)
  have hz2 := at_newQ hz (.cells #[.string ⟨#[]⟩, .int .i64 0, .slice none 0 0] 24)
  obtain ⟨V2, hV2⟩ : ∃ V, V = V1.alloc (.cells #[.string ⟨#[]⟩, .int .i64 0, .slice none 0 0] 24) := ⟨_, rfl⟩
  rw [← hV2] at bz2 hy hz2
  rw [hs1] at hy
  have hs2 : V2.heap.size = w.heap.size + 1 + 1 := by rw [hV2, ← hs1]; simp
  have hb2 : Below w.heap.size w V2 := bz.trans (bz2.mono bz.size)
  have HS2 := Lib.hid hs2
  by_cases hbig : 262144 < n
  · have hres : getPart l = .error 2 := by unfold getPart getP; rw [if_pos (by omega)]
    rw [hres]
    have d1 : decide ((262144 : Int) < (n : Int)) = true := by simp; omega
    have d2 : decide (262144 < n) = true := by simp; omega
    have HB2 := Lib.hid hb2
    clear hbig hres hs1 bz bz2 hb2 hl hr hB hnc hc hA hs2 hz HS2
    subst hV2
    subst hV1
    have k0 := cell_at (i := 0) hy rfl
    have k1 := cell_at (i := 1) hy rfl
    have k2 := cell_at (i := 2) hy rfl
    have z0 := cell_at (i := 0) hz2 rfl
    have z1 := cell_at (i := 1) hz2 rfl
    have z2 := cell_at (i := 2) hz2 rfl
    have y0 := thawed_at (i := 0) hz2
    have y1 := thawed_at (i := 1) hz2
    have y2 := thawed_at (i := 2) hz2
    clear hz2 hy
    go_enter Try.func25, Try.ntmps25
    go_wp2
    refine bodyPost_ret (v := .tuple #[.agg #[.string ⟨#[]⟩, .int .i64 0, .slice none 0 0], .int .i64 2]) ?_ rfl ?_
    · simp [results, Try.results25, go_sem, z0, z1, z2]
    · exact ⟨rfl, HB2.out⟩
  · have d1 : decide ((262144 : Int) < (n : Int)) = false := by simp; omega
    have d2 : decide (262144 < n) = false := by simp; omega
    have bz3 := (Below.refl V2.heap.size V2).alloc (Nat.le_refl _) (.cells #[.slice A n c, .int .i64 0, .int .i64 0] 97)
    have hrb := heap_alloc_new V2 (.cells #[.slice A n c, .int .i64 0, .int .i64 0] 97)
    have hz3 := at_newQ hz2 (.cells #[.slice A n c, .int .i64 0, .int .i64 0] 97)
    have hy3 := at_newQ hy (.cells #[.slice A n c, .int .i64 0, .int .i64 0] 97)
    obtain ⟨V3, hV3⟩ : ∃ V, V = V2.alloc (.cells #[.slice A n c, .int .i64 0, .int .i64 0] 97) := ⟨_, rfl⟩
    rw [← hV3] at bz3 hrb hz3 hy3
    rw [hs2] at hrb
    have hb3 : Below w.heap.size w V3 := hb2.trans (bz3.mono hb2.size)
    have hry : RY V3 (w.heap.size + 1 + 1) A n c l 0 0 := ⟨hrb, (hr.below (hb3.mono hB)).up (by omega), hnc, hc, hA⟩
    have HRY := Lib.hid hry; have HZ3' := Lib.hid hz3; have HY3' := Lib.hid hy3; have B3' := Lib.hid hb3; have HN := Lib.hid (show n ≤ 262144 by omega); have HL := Lib.hid hl
    clear hry hz3 hy3 hb3 hbig hs1 bz bz2 bz3 hb2 hl hr hB hnc hc hA hs2 hz hz2 hy hrb
    go_enter Try.func25, Try.ntmps25
    go_wp2_with fail
    rw [← hV1, ← hV2, ← hV3]
    clear hV1 hV2 hV3
    refine (ypart (w.heap.size + 1 + 1) 0 n c 0 A l V3 HRY.out (Nat.zero_le _) (by have := HN.out; omega)).mono ?_
    rintro x w1 ⟨⟨zk, zg, zL, zA, zc⟩, j, f, rfl, hrows, hj, h1, k1, hw⟩
    dsimp only at hrows hw
    have ba := (Below.refl w1.heap.size w1).alloc (Nat.le_refl _) (.cells #[.string zk, .int .i64 zg, .slice zA zL.length zc] 24)
    have hp1 := heap_alloc_new w1 (.cells #[.string zk, .int .i64 zg, .slice zA zL.length zc] 24)
    have hz1 := at_newQ (Kept.atQ k1 HZ3'.out (by omega)) (.cells #[.string zk, .int .i64 zg, .slice zA zL.length zc] 24)
    have hy1 := at_newQ (Kept.atQ k1 HY3'.out (by omega)) (.cells #[.string zk, .int .i64 zg, .slice zA zL.length zc] 24)
    have h1' := h1.below ba
    have hrows1 := hrows.on ba
    have hb1 := B3'.out.trans ((k1.new ba).below (fun k hk => by subst hk; exact Nat.le_trans (Nat.le_add_right _ 2) (Nat.le_refl _)) (Nat.le_trans (Nat.le_refl _) B3'.out.size) : Below w.heap.size V3 _)
    obtain ⟨U1, hU1⟩ : ∃ U, U = w1.alloc (.cells #[.string zk, .int .i64 zg, .slice zA zL.length zc] 24) := ⟨_, rfl⟩
    rw [← hU1] at hp1 hz1 hy1 h1' hrows1 hb1
    have HQW : Hid (w.heap.size + 1 + 1 < w1.heap.size) := Lib.hid h1.lt
    have HP1 := Lib.hid hp1; have HZ1 := Lib.hid hz1; have HY1 := Lib.hid hy1; have H1 := Lib.hid h1'; have HR1 := Lib.hid hrows1; have HB1 := Lib.hid hb1; have HW := Lib.hid hw; have HJ := Lib.hid hj
    clear hp1 hz1 hy1 h1' hrows1 hb1 hw hj h1 k1 hrows ba
    go_wp2_with fail
    rw [← hU1]
    clear hU1
    refine (yend (w.heap.size + 1 + 1) j n c f A l U1 H1.out HJ.out).mono ?_
    rintro x w3 ⟨rfl, h3, k3⟩
    obtain ⟨F, hF⟩ : ∃ F, (if f = 0 ∧ j < n then (6 : Int) else f) = F := ⟨_, rfl⟩
    rw [hF] at h3
    have R3 := Lib.hid h3
    have HZ3 := Lib.hid (Kept.atQ k3 HZ1.out (by omega)); have HY3 := Lib.hid (Kept.atQ k3 HY1.out (by omega)); have HP3 := Lib.hid (Kept.atQ k3 HP1.out (by have := HQW.out; omega))
    have HR3 := Lib.hid (HR1.out.kept1 k3 H1.out.blk (by decide) (by decide))
    have B3 := Lib.hid (HB1.out.trans (k3.below (fun k hk => by subst hk; omega) HB1.out.size))
    have hres : F ≠ 0 → getPart l = .error F := fun h => by
      have hlen := HL.out
      have hnn := HN.out
      unfold getPart getP
      rw [if_neg (by omega)]
      by_cases hf : f = 0
      · subst hf
        have h5 := HW.out.ok rfl rfl
        rw [List.drop_zero] at h5
        rw [h5]
        dsimp only
        by_cases hjn : j < n
        · rw [if_pos ⟨rfl, hjn⟩] at hF
          rw [if_neg (fun h => by have := congrArg List.length h; rw [List.length_drop, List.length_nil] at this; omega), ← hF]
        · rw [if_neg (fun h => hjn h.2)] at hF
          exact absurd hF.symm h
      · rw [if_neg (fun h => hf h.1)] at hF
        have h5 := HW.out.no rfl hf
        rw [List.drop_zero] at h5
        rw [h5, ← hF]
    have hres0 : F = 0 → partP l = .ok (⟨zk, zg, ros zL⟩, []) := fun h => by
      have hlen := HL.out
      subst h
      have hf : f = 0 := by
        refine Decidable.byContradiction fun hf => ?_
        rw [if_neg (fun h => hf h.1)] at hF
        exact hf hF
      subst hf
      have hjn : ¬ j < n := fun hjn => by
        rw [if_pos ⟨rfl, hjn⟩] at hF
        cases hF
      have h5 := HW.out.ok rfl rfl
      rw [List.drop_zero, List.drop_eq_nil_of_le (by omega)] at h5
      exact h5
    have HRES := Lib.hid hres; have HRES0 := Lib.hid hres0
    clear hres hres0 h3 k3 hF HZ1 HY1 HP1 H1 HR1 HB1
    obtain ⟨_, _, c2⟩ := R3.out.cells
    by_cases hF0 : F = 0
    · subst hF0
      have hpp := HRES0.out rfl
      have hcn := part_codec.canon hpp
      rw [List.append_nil] at hcn
      have hfew : FewR zL := few_of_sizes hcn.2 (N := n) (by have := HN.out; omega) (by rw [← hcn.1, HL.out]; exact Nat.le_refl _) rfl
      have hzl : zL.length ≤ 900000 := by
        have h4 := (pa_sizes hcn.2 (N := n) (by rw [← hcn.1, HL.out]; exact Nat.le_refl _)).2.1
        dsimp only at h4
        rw [List.length_map] at h4
        have := HN.out
        omega
      obtain ⟨u, hu⟩ : ∃ u, Pa.ok ⟨zk, zg, ros zL⟩ = u := ⟨_, rfl⟩
      have hgp : getPart l = (if u = true then .ok ⟨zk, zg, ros zL⟩ else .error 1) := by
        unfold getPart getP
        rw [if_neg (by have := HN.out; have := HL.out; omega), hpp]
        dsimp only
        rw [if_pos rfl, hu]
      have N := pcheck_any zk zg zA zL.length zc w3.heap.size zL w3 HR3.out.lies (Nat.le_refl _) (by omega) hfew
      rw [hu] at N
      have HNC := Lib.hid N; have HGP := Lib.hid hgp
      have k0 := cell_at (i := 0) HP3.out rfl
      have k1 := cell_at (i := 1) HP3.out rfl
      have k2 := cell_at (i := 2) HP3.out rfl
      clear hpp hcn hfew hzl hu hgp N HRES HRES0
      go_wp2_with fail
      clear c2
      refine HNC.out.mono ?_
      rintro x w4 ⟨rfl, b4⟩
      have HZ9 := Lib.hid ((b4.block _ (Array.getElem?_eq_some_iff.1 HZ3.out).1).trans HZ3.out)
      have HY9 := Lib.hid ((b4.block _ (Array.getElem?_eq_some_iff.1 HY3.out).1).trans HY3.out)
      have HP9 := Lib.hid ((b4.block _ (Array.getElem?_eq_some_iff.1 HP3.out).1).trans HP3.out)
      have HR9 := Lib.hid (HR3.out.on b4)
      have B4 := Lib.hid (B3.out.trans (b4.mono B3.out.size))
      clear b4 k0 k1 k2
      cases u with
      | false =>
        have k0 := cell_at (i := 0) HY9.out rfl
        have k1 := cell_at (i := 1) HY9.out rfl
        have k2 := cell_at (i := 2) HY9.out rfl
        have m9 := set3Q_block HZ9.out (.string ⟨#[]⟩) (.int .i64 0) (.slice none 0 0)
        have b9 := kept_set3Q (w := w4) w.heap.size (.string ⟨#[]⟩) (.int .i64 0) (.slice none 0 0)
        have z0 := cell_at (i := 0) HZ9.out rfl
        have z1 := cell_at (i := 1) HZ9.out rfl
        have z2 := cell_at (i := 2) HZ9.out rfl
        have y0 := thawed_at (i := 0) HZ9.out
        have y1 := thawed_at (i := 1) HZ9.out
        have y2 := thawed_at (i := 2) HZ9.out
        have B9 := Lib.hid (B4.out.trans (b9.below (fun k hk => by subst hk; exact Nat.le_refl _) B4.out.size))
        clear b9
        go_wp2
        generalize World.setCell (World.setCell (World.setCell w4 ⟨w.heap.size, 0, none⟩ (.string ⟨#[]⟩)) ⟨w.heap.size, 1, none⟩ (.int .i64 0)) ⟨w.heap.size, 2, none⟩ (.slice none 0 0) = w9 at m9 B9 ⊢
        clear z0 z1 z2 y0 y1 y2
        have q0 := cell_at (i := 0) m9 rfl
        have q1 := cell_at (i := 1) m9 rfl
        have q2 := cell_at (i := 2) m9 rfl
        refine bodyPost_ret (v := .tuple #[.agg #[.string ⟨#[]⟩, .int .i64 0, .slice none 0 0], .int .i64 1]) ?_ rfl ?_
        · simp [results, Try.results25, go_sem, q0, q1, q2]
        · rw [HGP.out]
          exact ⟨rfl, B9.out⟩
      | true =>
        have k0 := cell_at (i := 0) HP9.out rfl
        have k1 := cell_at (i := 1) HP9.out rfl
        have k2 := cell_at (i := 2) HP9.out rfl
        have m9 := set3Q_block HZ9.out (.string zk) (.int .i64 zg) (.slice zA zL.length zc)
        have b9 := kept_set3Q (w := w4) w.heap.size (.string zk) (.int .i64 zg) (.slice zA zL.length zc)
        have z0 := cell_at (i := 0) HZ9.out rfl
        have z1 := cell_at (i := 1) HZ9.out rfl
        have z2 := cell_at (i := 2) HZ9.out rfl
        have y0 := thawed_at (i := 0) HZ9.out
        have y1 := thawed_at (i := 1) HZ9.out
        have y2 := thawed_at (i := 2) HZ9.out
        have B9 := Lib.hid (show _ ∧ _ from ⟨B4.out.trans (b9.below (fun k hk => by subst hk; exact Nat.le_refl _) B4.out.size), (HR9.out.lower (w0 := w) B3'.out.size).kept1 b9 HZ9.out (by decide) (by decide)⟩)
        clear b9
        go_wp2
        generalize World.setCell (World.setCell (World.setCell w4 ⟨w.heap.size, 0, none⟩ (.string zk)) ⟨w.heap.size, 1, none⟩ (.int .i64 zg)) ⟨w.heap.size, 2, none⟩ (.slice zA zL.length zc) = w9 at m9 B9 ⊢
        clear z0 z1 z2 y0 y1 y2
        have q0 := cell_at (i := 0) m9 rfl
        have q1 := cell_at (i := 1) m9 rfl
        have q2 := cell_at (i := 2) m9 rfl
        refine bodyPost_ret (v := .tuple #[.agg #[.string zk, .int .i64 zg, .slice zA zL.length zc], .int .i64 0]) ?_ rfl ?_
        · simp [results, Try.results25, go_sem, q0, q1, q2]
        · rw [HGP.out]
          exact ⟨⟨zk, zg, zL, zA, zc⟩, rfl, rfl, B9.out.2, B9.out.1⟩
    · have e0 : (F == 0) = false := by simp; exact hF0
      have HRR := Lib.hid (HRES.out hF0)
      have HS8 := Lib.hid (show _ ∧ _ ∧ _ ∧ _ from ⟨cell_at (i := 0) HY3.out rfl, cell_at (i := 1) HY3.out rfl, cell_at (i := 2) HY3.out rfl, c2⟩)
      clear hF0 HRES HRES0
      go_wp2_with fail
      clear c2
      refine wp_region_held_drew (S := fun w' => w'.cell? ⟨w.heap.size + 1, 0, none⟩ = some (.string ⟨#[]⟩) ∧ w'.cell? ⟨w.heap.size + 1, 1, none⟩ = some (.int .i64 0) ∧ w'.cell? ⟨w.heap.size + 1, 2, none⟩ = some (.slice none 0 0) ∧ w'.cell? ⟨w.heap.size + 1 + 1, 2, none⟩ = some (.int .i64 F)) (by kernel_rfl) ?_ (fun hHeld => ?_)
      · exact HS8.out
      refine takesH [0, 1, 2] ?_
      repeat
        refine takesH_one (v := ?_) ?_ ?_
        rotate_left
        · first | (refine Or.inr ⟨by rfl, ?_⟩; with_reducible rfl) | (refine Or.inl ⟨by rfl, ?_⟩; intro wx hSw; (try dsimp only at hSw); first | (go_simp; first | done | with_reducible rfl) | (obtain ⟨_, _, _, _⟩ := hSw; go_simp; first | done | with_reducible rfl))
        try simp only [Act.put, List.getElem_toArray, List.getElem_cons_succ, List.getElem_cons_zero, List.setIfInBounds_toArray, List.set_cons_zero, List.set_cons_succ]
      refine takesH_nil ?_
      refine wpAnyH_ready (rs := [3]) (by kernel_rfl) (by simp) (AllReadyH.cons rfl (fun K hK => ?_) AllReadyH.nil)
      obtain ⟨U, hU⟩ : ∃ U, U = w3.drew := ⟨_, rfl⟩
      rw [← hU]
      have HZ : Hid (U.heap[w.heap.size]? = some (.cells #[.string ⟨#[]⟩, .int .i64 0, .slice none 0 0] 24)) := Lib.hid (by rw [hU]; exact HZ3.out)
      have hz4 : U.heap[w.heap.size + 1]? = some (.cells #[.string ⟨#[]⟩, .int .i64 0, .slice none 0 0] 24) := by rw [hU]; exact HY3.out
      have hr4 : RY U (w.heap.size + 1 + 1) A n c l j F := by rw [hU]; exact R3.out.drew
      have hbU : Below w.heap.size w U := by rw [hU]; exact B3.out.drew
      clear hU
      have z0 := cell_at (i := 0) HZ.out rfl
      have z1 := cell_at (i := 1) HZ.out rfl
      have z2 := cell_at (i := 2) HZ.out rfl
      have y0 := thawed_at (i := 0) HZ.out
      have y1 := thawed_at (i := 1) HZ.out
      have y2 := thawed_at (i := 2) HZ.out
      have m9 := set3Q_block HZ.out (.string ⟨#[]⟩) (.int .i64 0) (.slice none 0 0)
      have b9 := (kept_set3Q (w := U) w.heap.size (.string ⟨#[]⟩) (.int .i64 0) (.slice none 0 0))
      have B9 := Lib.hid (hbU.trans (b9.below (fun k hk => by subst hk; exact Nat.le_refl _) hbU.size))
      have hy9 := Kept.atQ b9 hz4 (by omega)
      have hb9 := Kept.atQ b9 hr4.blk (by omega)
      have S9 := Lib.hid (show _ ∧ _ ∧ _ ∧ _ from ⟨cell_at (i := 0) hy9 rfl, cell_at (i := 1) hy9 rfl, cell_at (i := 2) hy9 rfl, cell_at (i := 2) hb9 rfl⟩)
      clear hz4 hr4 hbU b9 hy9 hb9
      go_simp
      refine hK.out _ _ ?_ (fun hHeld => ?_)
      · exact S9.out
      clear hK K
      try simp only [Act.put, List.getElem_toArray, List.getElem_cons_succ, List.getElem_cons_zero, List.setIfInBounds_toArray, List.set_cons_zero, List.set_cons_succ]
      clear z0 z1 z2 y0 y1 y2
      refine takesH [4] ?_
      repeat
        refine takesH_one (v := ?_) ?_ ?_
        rotate_left
        · first | (refine Or.inr ⟨by rfl, ?_⟩; with_reducible rfl) | (refine Or.inl ⟨by rfl, ?_⟩; intro wx hSw; (try dsimp only at hSw); first | (go_simp; first | done | with_reducible rfl))
        try simp only [Act.put, List.getElem_toArray, List.getElem_cons_succ, List.getElem_cons_zero, List.setIfInBounds_toArray, List.set_cons_zero, List.set_cons_succ]
      refine takesH_nil ?_
      refine wpAnyH_done (by kernel_rfl) ?_ _
      generalize World.setCell (World.setCell (World.setCell U ⟨w.heap.size, 0, none⟩ (.string ⟨#[]⟩)) ⟨w.heap.size, 1, none⟩ (.int .i64 0)) ⟨w.heap.size, 2, none⟩ (.slice none 0 0) = w9 at m9 B9 S9 hHeld ⊢
      go_wp2
      have q0 := cell_at (i := 0) m9 rfl
      have q1 := cell_at (i := 1) m9 rfl
      have q2 := cell_at (i := 2) m9 rfl
      refine bodyPost_ret (v := .tuple #[.agg #[.string ⟨#[]⟩, .int .i64 0, .slice none 0 0], .int .i64 F]) ?_ rfl ?_
      · simp [results, Try.results25, go_sem, q0, q1, q2]
      · rw [HRR.out]
        exact ⟨rfl, B9.out⟩
end Go.Proofs.Ytbfkbfbcaileoaa
set_option linter.unusedVariables false
set_option linter.unusedSimpArgs false
namespace Go.Proofs.Ytbfkbfbcaileoaa
open Go Go.RowKit

/-- The numbers left, at block q. -/
def LAt (w : World) (q : Nat) (A : Option Addr) (n c : Nat) : Prop := w.heap[q]? = some (.cells #[.slice A n c] 81 (0, 0))
theorem RdZ.cut {w : World} {B n c : Nat} {A : Option Addr} {l : List Int} (h : RdZ w B A n l) {k : Nat} (hk : k ≤ n) (hn : n ≤ c) : RdZ w B (if c = k then A else A.map (·.add k)) (n - k) (l.drop k) := by
  refine ⟨by rw [List.length_drop, h.1], fun h0 => ?_⟩
  obtain ⟨g, o, rfl, hb, hc⟩ := h.2 (by omega)
  rw [if_neg (by omega)]
  refine ⟨g, o + k, by rw [Option.map_some, Addr.add_lit], hb, fun j hj => ?_⟩
  rw [List.length_drop] at hj
  rw [Nat.add_assoc, hc (k + j) (by omega), List.getElem_drop]
theorem infoZ : (Try.prog.info? 3).map (fun i => (i.zero, i.size, i.bytes)) = some (some (.int .i64 0), 1, 8) := by kernel_rfl
theorem elemZ : Try.prog.elem 27 = 3 := by kernel_rfl
theorem slZ_l {w : World} {B n : Nat} {A : Option Addr} {l : List Int} (h : RdZ w B A n l) {c : Nat} (hn : n ≤ c) (x : Int) (lo : Nat) (ex : x = (lo : Nat)) (h1 : lo ≤ n) :
    ∃ A', (∀ wx : World, (Instr.slice 27 (.slice A n c) (some (.int .i64 x)) none none).run Try.prog wx = .ok (.slice A' (n - lo) (c - lo)) wx) ∧ RdZ w B A' (n - lo) (l.drop lo) := by
  refine ⟨if c = lo then A else A.map (·.add lo), fun wx => ?_, h.cut h1 hn⟩
  obtain ⟨i, hi', hz0, hz1, hz2⟩ := info_parts infoZ
  subst ex
  rw [run_slice_l (P := Try.prog) (t := 27) (ht := by rw [elemZ]; exact Try.underlying27) (h0 := by omega) (h1 := by omega), elemZ]
  simp [sizeOf, typeInfo, hi', hz1, sliced, Result.andThen]

set_option maxHeartbeats 2000000 in
theorem next_num (q n c B : Nat) (A : Option Addr) (x k : Int) (l : List Int) (w : World) (h : LAt w q A n c) (hr : RdZ w B A n (x :: l)) (hnc : n ≤ c) (hc : c ≤ maxLen) (hk1 : 1 ≤ k) (hk2 : k ≤ 4611686018427387904) (hx : -9223372036854775808 ≤ x ∧ x ≤ 9223372036854775807) :
    Calls Try.prog 64 #[.pointer (some ⟨q, 0, none⟩), .int .i64 k] w fun e w' => e = .returned (.int .i64 (x % k)) ∧ ∃ A', w' = w.setCell ⟨q, 0, none⟩ (.slice A' (n - 1) (c - 1)) ∧ RdZ w B A' (n - 1) l := by
  have hn : 0 < n := by have := hr.1; simp at this; omega
  obtain ⟨A', hsl, hr'⟩ := slZ_l hr hnc 1 1 rfl hn
  rw [List.drop_one, List.tail_cons] at hr'
  obtain ⟨g, o, rfl, _, hcl⟩ := hr.2 hn
  have c0 := hcl 0 (by simp)
  rw [Nat.add_zero, List.getElem_cons_zero] at c0
  have b0 : w.cell? ⟨q, 0, none⟩ = some (.slice (some ⟨g, o, none⟩) n c) := cell_at h rfl
  have f0 : w.frozen? ⟨q, 0, none⟩ = false := thawed_at h
  have n0 : ((n : Int) == 0) = false := by simp; omega
  have n1 : (0 : Int) < n := by omega
  have HR := Lib.hid hr'
  have HX := Lib.hid hx
  clear hr hr' hcl h hx
  go_enter Try.func64, Try.ntmps64
  go_wp2_with fail
  refine (place_any x k _ hk1 hk2 HX.out).mono ?_
  rintro e w1 ⟨rfl, rfl⟩
  go_wp2
  go_ret
  exact ⟨rfl, A', rfl, HR.out⟩
end Go.Proofs.Ytbfkbfbcaileoaa
set_option linter.unusedVariables false
set_option linter.unusedSimpArgs false
namespace Go.Proofs.Ytbfkbfbcaileoaa
open Go Go.RowKit Go.Joins

theorem at_new {W : World} {r : Nat} {cs : Array Value} {t : TypeId} (h : W.heap[r]? = some (.cells cs t (0, 0))) (o : Obj) : (W.alloc o).heap[r]? = some (.cells cs t (0, 0)) :=
  (((Below.refl W.heap.size W).alloc (Nat.le_refl _) o).block r (Array.getElem?_eq_some_iff.1 h).1).trans h

theorem nx_end {w w1 w5 : World} {q n c n' c' B : Nat} {A A' : Option Addr} {l : List Int} {Z : Obj} (hq : q < w.heap.size) (hB : B ≤ q) (h1 : LAt (w.alloc Z) q A n c) (hw1 : w1 = (w.alloc Z).setCell ⟨q, 0, none⟩ (.slice A' n' c')) (hr : RdZ (w.alloc Z) B A' n' l)
    (hk : Kept (fun k => k = w.heap.size) w1 w5) : LAt w5 q A' n' c' ∧ RdZ w5 B A' n' l ∧ Kept (fun k => k = q) w w5 := by
  have hl : LAt w1 q A' n' c' := by rw [hw1]; exact block_setCell (i := 0) h1 _
  have k1 : Kept (fun k => k = q) (w.alloc Z) w1 := by rw [hw1]; exact Kept.setCell _ _ _ _ rfl
  have hs1 : w1.heap.size = w.heap.size + 1 := by rw [hw1]; simp [World.setCell]
  refine ⟨(hk.block q (by omega) (by omega)).trans hl, (hr.below (k1.below (fun k hk => by omega) (by simp; omega))).below (hk.below (fun k hk => by omega) (by omega)), ?_⟩
  exact ((Kept.alloc _ w Z).trans k1 fun k hk => Or.inl hk).trans hk fun k hk => Or.inr (by omega)
theorem kept4 (w : World) (r : Nat) (v0 v1 v2 v3 : Value) (o : Obj) : Kept (fun k => k = r) w (((((w.setCell ⟨r, 0, none⟩ v0).setCell ⟨r, 1, none⟩ v1).setCell ⟨r, 2, none⟩ v2).setCell ⟨r, 3, none⟩ v3).alloc o) :=
  ((((Kept.setCell (fun k => k = r) w ⟨r, 0, none⟩ v0 rfl).trans (Kept.setCell (fun k => k = r) _ ⟨r, 1, none⟩ v1 rfl) fun _ h => Or.inl h).trans (Kept.setCell (fun k => k = r) _ ⟨r, 2, none⟩ v2 rfl) fun _ h => Or.inl h).trans (Kept.setCell (fun k => k = r) _ ⟨r, 3, none⟩ v3 rfl) fun _ h => Or.inl h).trans (Kept.alloc (fun k => k = r) _ o) fun _ h => Or.inl h

set_option maxHeartbeats 4000000 in
theorem cell_dead (q n c B : Nat) (A : Option Addr) (x v m a p : Int) (l : List Int) (w : World) (h : LAt w q A n c) (hr : RdZ w B A n (x :: l)) (hnc : n ≤ c) (hc : c ≤ maxLen) (hBq : B ≤ q) (hx : -9223372036854775808 ≤ x ∧ x ≤ 9223372036854775807)
    (hv : x % 1048576 = v) (v0 : 0 ≤ v) (v1 : v < 1048576) (ha : v.tmod 7 = a) (a0 : 0 ≤ a) (a1 : a < 7) (hp : v.tdiv 7 = p) (hm : p.tmod 4 = m) (hm0 : m = 0) (p0 : 0 ≤ p) (p1 : p < 1048576) :
    Calls Try.prog 83 #[.pointer (some ⟨q, 0, none⟩)] w fun e w' => e = .returned (.agg #[.string ⟨#[]⟩, .bool true, .int .i64 (1 + a), .int .i64 0]) ∧ ∃ A', LAt w' q A' (n - 1) (c - 1) ∧ RdZ w' B A' (n - 1) l ∧ Kept (fun k => k = q) w w' := by
  have hq : q < w.heap.size := (Array.getElem?_eq_some_iff.1 h).1
  subst hm0
  have h1 : LAt (w.alloc (.cells #[.string ⟨#[]⟩, .bool false, .int .i64 0, .int .i64 0] 58)) q A n c := by unfold LAt; rw [((Below.refl w.heap.size w).alloc (Nat.le_refl _) _).block q hq]; exact h
  have hr1 : RdZ (w.alloc (.cells #[.string ⟨#[]⟩, .bool false, .int .i64 0, .int .i64 0] 58)) B A n (x :: l) := hr.below ((Below.refl B w).alloc (by omega) _)
  have hz := heap_alloc_new w (.cells #[.string ⟨#[]⟩, .bool false, .int .i64 0, .int .i64 0] 58)
  have wp : wrap64 p = p := by unfold wrap64; omega
  have wr : IntKind.i64.wrap (1 + a) = 1 + a := by rw [IntKind.wrap_i64]; omega
  have HX := Lib.hid hx; have H1 := Lib.hid h1; have HR1 := Lib.hid hr1; have HV := Lib.hid hv; have HZ := Lib.hid hz
  clear h hr h1 hr1 hx hv hz
  go_enter Try.func83, Try.ntmps83
  go_wp2_with fail
  refine (next_num q n c B A x 1048576 l _ H1.out HR1.out hnc hc (by omega) (by omega) HX.out).mono ?_
  rintro e w1 ⟨rfl, A', hw1, hr2⟩
  rw [HV.out]
  have hs1 : w1.heap.size = w.heap.size + 1 := by rw [hw1]; simp [World.setCell]
  have hkz : w1.heap[w.heap.size]? = some (.cells #[.string ⟨#[]⟩, .bool false, .int .i64 0, .int .i64 0] 58) := by rw [hw1, Below.heap_setCell _ _ _ _ (show w.heap.size ≠ (⟨q, 0, none⟩ : Addr).block from by show w.heap.size ≠ q; omega)]; exact HZ.out
  have HK := Lib.hid hkz
  have HW := Lib.hid hw1
  have HR2 := Lib.hid hr2
  have m0 := block_setCell (i := 0) hkz (.string ⟨#[]⟩)
  have m1 := block_setCell (i := 1) m0 (.bool true)
  have m2 := block_setCell (i := 2) m1 (.int .i64 (1 + a))
  have m3 := block_setCell (i := 3) m2 (.int .i64 0)
  have M3 := Lib.hid m3
  have k0 := fun o => cell_at (i := 0) (at_new hkz o) rfl
  have k1 := fun o => cell_at (i := 1) (at_new m0 o) rfl
  have k2 := fun o => cell_at (i := 2) (at_new m1 o) rfl
  have k3 := fun o => cell_at (i := 3) (at_new m2 o) rfl
  have f0 := fun o => thawed_at (i := 0) (at_new hkz o)
  have f1 := fun o => thawed_at (i := 1) (at_new m0 o)
  have f2 := fun o => thawed_at (i := 2) (at_new m1 o)
  have f3 := fun o => thawed_at (i := 3) (at_new m2 o)
  clear m0 m1 m2 m3
  clear hkz hw1 hr2
  go_wp2
  refine bodyPost_ret (v := .agg #[.string ⟨#[]⟩, .bool true, .int .i64 (1 + a), .int .i64 0]) (by simp [results, Try.results83, go_sem, cell_at (i := 0) (at_new M3.out _) rfl, cell_at (i := 1) (at_new M3.out _) rfl, cell_at (i := 2) (at_new M3.out _) rfl, cell_at (i := 3) (at_new M3.out _) rfl]) rfl ⟨rfl, A', ?_⟩
  exact nx_end hq hBq H1.out HW.out HR2.out (kept4 _ _ _ _ _ _ _)
set_option maxHeartbeats 4000000 in
theorem cell_alive (q n c B : Nat) (A : Option Addr) (x v m a p y i z e u : Int) (s : ByteArray) (l : List Int) (w : World) (h : LAt w q A n c) (hr : RdZ w B A n (x :: l)) (hnc : n ≤ c) (hc : c ≤ maxLen) (hBq : B ≤ q) (hx : -9223372036854775808 ≤ x ∧ x ≤ 9223372036854775807)
    (hv : x % 1048576 = v) (v0 : 0 ≤ v) (v1 : v < 1048576) (ha : v.tmod 7 = a) (a0 : 0 ≤ a) (a1 : a < 7) (hp : v.tdiv 7 = p) (hm : p.tmod 4 = m) (hm0 : (m == 0) = false) (p0 : 0 ≤ p) (p1 : p < 1048576) (hy : v.tdiv 28 = y) (y0 : 0 ≤ y) (y1 : y < 1048576) (hi : y.tmod 3 = i) (i0 : 0 ≤ i) (i1 : i < 3) (hz : v.tdiv 84 = z) (z0 : 0 ≤ z) (z1 : z < 1048576) (he : z.tmod 4 = e) (hu : v.tdiv 336 = u) (u0 : 0 ≤ u) (u1 : u < 1048576) (b f : Int) (hb : u.tmod 10 = b) (b0 : 0 ≤ b) (b1 : b < 10) (heb : ∃ t, (e == 0) = t ∧ f = if t = true then 1 + b else 0)
    (hs : ∀ wx : World, (Instr.slice 9 (.string ⟨#[120, 121, 122]⟩) (some (.int .i64 i)) (some (.int .i64 (i + 1))) none).run Try.prog wx = .ok (.string s) wx) :
    Calls Try.prog 83 #[.pointer (some ⟨q, 0, none⟩)] w fun e w' => e = .returned (.agg #[.string s, .bool false, .int .i64 (1 + a), .int .i64 f]) ∧ ∃ A', LAt w' q A' (n - 1) (c - 1) ∧ RdZ w' B A' (n - 1) l ∧ Kept (fun k => k = q) w w' := by
  have hq : q < w.heap.size := (Array.getElem?_eq_some_iff.1 h).1
  obtain ⟨t, het, hf⟩ := heb
  have wy : wrap64 y = y := by unfold wrap64; omega
  have wz : wrap64 z = z := by unfold wrap64; omega
  have wu : wrap64 u = u := by unfold wrap64; omega
  have wi : IntKind.i64.wrap (i + 1) = i + 1 := by rw [IntKind.wrap_i64]; omega
  have wb : IntKind.i64.wrap (1 + b) = 1 + b := by rw [IntKind.wrap_i64]; omega
  have h1 : LAt (w.alloc (.cells #[.string ⟨#[]⟩, .bool false, .int .i64 0, .int .i64 0] 58)) q A n c := by unfold LAt; rw [((Below.refl w.heap.size w).alloc (Nat.le_refl _) _).block q hq]; exact h
  have hr1 : RdZ (w.alloc (.cells #[.string ⟨#[]⟩, .bool false, .int .i64 0, .int .i64 0] 58)) B A n (x :: l) := hr.below ((Below.refl B w).alloc (by omega) _)
  have hz := heap_alloc_new w (.cells #[.string ⟨#[]⟩, .bool false, .int .i64 0, .int .i64 0] 58)
  have wp : wrap64 p = p := by unfold wrap64; omega
  have wr : IntKind.i64.wrap (1 + a) = 1 + a := by rw [IntKind.wrap_i64]; omega
  have HX := Lib.hid hx; have H1 := Lib.hid h1; have HR1 := Lib.hid hr1; have HV := Lib.hid hv; have HZ := Lib.hid hz
  clear h hr h1 hr1 hx hv hz
  cases t
  · rw [if_neg (by decide)] at hf
    subst hf
    go_enter Try.func83, Try.ntmps83
    go_wp2_with fail
    refine (next_num q n c B A x 1048576 l _ H1.out HR1.out hnc hc (by omega) (by omega) HX.out).mono ?_
    rintro e w1 ⟨rfl, A', hw1, hr2⟩
    rw [HV.out]
    have hs1 : w1.heap.size = w.heap.size + 1 := by rw [hw1]; simp [World.setCell]
    have hkz : w1.heap[w.heap.size]? = some (.cells #[.string ⟨#[]⟩, .bool false, .int .i64 0, .int .i64 0] 58) := by rw [hw1, Below.heap_setCell _ _ _ _ (show w.heap.size ≠ (⟨q, 0, none⟩ : Addr).block from by show w.heap.size ≠ q; omega)]; exact HZ.out
    have HK := Lib.hid hkz
    have HW := Lib.hid hw1
    have HR2 := Lib.hid hr2
    have m0 := block_setCell (i := 0) hkz (.string s)
    have m1 := block_setCell (i := 1) m0 (.bool false)
    have m2 := block_setCell (i := 2) m1 (.int .i64 (1 + a))
    have m3 := block_setCell (i := 3) m2 (.int .i64 0)
    have M3 := Lib.hid m3
    have k0 := fun o => cell_at (i := 0) (at_new hkz o) rfl
    have k1 := fun o => cell_at (i := 1) (at_new m0 o) rfl
    have k2 := fun o => cell_at (i := 2) (at_new m1 o) rfl
    have k3 := fun o => cell_at (i := 3) (at_new m2 o) rfl
    have f0 := fun o => thawed_at (i := 0) (at_new hkz o)
    have f1 := fun o => thawed_at (i := 1) (at_new m0 o)
    have f2 := fun o => thawed_at (i := 2) (at_new m1 o)
    have f3 := fun o => thawed_at (i := 3) (at_new m2 o)
    clear m0 m1 m2 m3
    clear hkz hw1 hr2
    go_wp2
    refine bodyPost_ret (v := .agg #[.string s, .bool false, .int .i64 (1 + a), .int .i64 0]) (by simp [results, Try.results83, go_sem, cell_at (i := 0) (at_new M3.out _) rfl, cell_at (i := 1) (at_new M3.out _) rfl, cell_at (i := 2) (at_new M3.out _) rfl, cell_at (i := 3) (at_new M3.out _) rfl]) rfl ⟨rfl, A', ?_⟩
    exact nx_end hq hBq H1.out HW.out HR2.out (kept4 _ _ _ _ _ _ _)
  · rw [if_pos rfl] at hf
    subst hf
    go_enter Try.func83, Try.ntmps83
    go_wp2_with fail
    refine (next_num q n c B A x 1048576 l _ H1.out HR1.out hnc hc (by omega) (by omega) HX.out).mono ?_
    rintro e w1 ⟨rfl, A', hw1, hr2⟩
    rw [HV.out]
    have hs1 : w1.heap.size = w.heap.size + 1 := by rw [hw1]; simp [World.setCell]
    have hkz : w1.heap[w.heap.size]? = some (.cells #[.string ⟨#[]⟩, .bool false, .int .i64 0, .int .i64 0] 58) := by rw [hw1, Below.heap_setCell _ _ _ _ (show w.heap.size ≠ (⟨q, 0, none⟩ : Addr).block from by show w.heap.size ≠ q; omega)]; exact HZ.out
    have HK := Lib.hid hkz
    have HW := Lib.hid hw1
    have HR2 := Lib.hid hr2
    have m0 := block_setCell (i := 0) hkz (.string s)
    have m1 := block_setCell (i := 1) m0 (.bool false)
    have m2 := block_setCell (i := 2) m1 (.int .i64 (1 + a))
    have m3 := block_setCell (i := 3) m2 (.int .i64 (1 + b))
    have M3 := Lib.hid m3
    have k0 := fun o => cell_at (i := 0) (at_new hkz o) rfl
    have k1 := fun o => cell_at (i := 1) (at_new m0 o) rfl
    have k2 := fun o => cell_at (i := 2) (at_new m1 o) rfl
    have k3 := fun o => cell_at (i := 3) (at_new m2 o) rfl
    have f0 := fun o => thawed_at (i := 0) (at_new hkz o)
    have f1 := fun o => thawed_at (i := 1) (at_new m0 o)
    have f2 := fun o => thawed_at (i := 2) (at_new m1 o)
    have f3 := fun o => thawed_at (i := 3) (at_new m2 o)
    clear m0 m1 m2 m3
    clear hkz hw1 hr2
    go_wp2
    refine bodyPost_ret (v := .agg #[.string s, .bool false, .int .i64 (1 + a), .int .i64 (1 + b)]) (by simp [results, Try.results83, go_sem, cell_at (i := 0) (at_new M3.out _) rfl, cell_at (i := 1) (at_new M3.out _) rfl, cell_at (i := 2) (at_new M3.out _) rfl, cell_at (i := 3) (at_new M3.out _) rfl]) rfl ⟨rfl, A', ?_⟩
    exact nx_end hq hBq H1.out HW.out HR2.out (kept4 _ _ _ _ _ _ _)
end Go.Proofs.Ytbfkbfbcaileoaa
set_option linter.unusedVariables false
set_option linter.unusedSimpArgs false
namespace Go.Proofs.Ytbfkbfbcaileoaa
open Go Go.RowKit Go.Joins

theorem xyz_at (i : Int) (i0 : 0 ≤ i) (i1 : i < 3) : ∃ s : ByteArray, s.size = 1 ∧ ∀ wx : World, (Instr.slice 9 (.string ⟨#[120, 121, 122]⟩) (some (.int .i64 i)) (some (.int .i64 (i + 1))) none).run Try.prog wx = .ok (.string s) wx := by
  refine ⟨(⟨#[120, 121, 122]⟩ : ByteArray).extract i.toNat (i + 1).toNat, ?_, fun wx => ?_⟩
  · rw [ByteArray.size_extract]
    show min (i + 1).toNat 3 - i.toNat = 1
    omega
  · rw [run_slice_string_if (P := Try.prog) wx 9 ⟨#[120, 121, 122]⟩ .i64 .i64 i (i + 1) Try.underlying9]
    rw [if_pos ⟨by omega, by show (i + 1) ≤ ((3 : Nat) : Int); omega⟩, if_pos ⟨i0, by omega⟩]

end Go.Proofs.Ytbfkbfbcaileoaa
set_option linter.unusedVariables false
set_option linter.unusedSimpArgs false
namespace Go.Proofs.Ytbfkbfbcaileoaa
open Go Go.RowKit Go.Joins

/-- Some numbers are left at block q, read from below B. -/
structure LQ (w : World) (q B : Nat) : Prop where
  ex : ∃ A n c l, LAt w q A n c ∧ RdZ w B A n l ∧ n ≤ c ∧ c ≤ maxLen ∧ ∀ x ∈ l, -9223372036854775808 ≤ x ∧ x ≤ 9223372036854775807
theorem LQ.lt {w : World} {q B : Nat} (h : LQ w q B) : q < w.heap.size := by
  obtain ⟨A, n, c, l, h, _⟩ := h.ex
  exact (Array.getElem?_eq_some_iff.1 h).1
theorem LQ.below {w w' : World} {q B : Nat} (h : LQ w q B) (hb : Below w.heap.size w w') (hB : B ≤ w.heap.size) : LQ w' q B := by
  have hq := h.lt
  obtain ⟨A, n, c, l, h1, h2, h3⟩ := h.ex
  exact ⟨A, n, c, l, (hb.block q hq).trans h1, h2.below (hb.mono hB), h3⟩
theorem LQ.drew {w : World} {q B : Nat} (h : LQ w q B) (hB : B ≤ w.heap.size) : LQ w.drew q B := h.below ((Below.refl _ _).drew) hB
theorem LQ.kept {w w' : World} {q B : Nat} {F : Nat → Prop} (h : LQ w q B) (hk : Kept F w w') (hF : ∀ k, F k → q < k) (hB : B ≤ q) : LQ w' q B := by
  have hq := h.lt
  obtain ⟨A, n, c, l, h1, h2, h3⟩ := h.ex
  refine ⟨A, n, c, l, (hk.block q hq fun hf => absurd (hF q hf) (by omega)).trans h1, h2.below (hk.below (fun k hf => by have := hF k hf; omega) (by omega)), h3⟩

theorem next_none (q c : Nat) (A : Option Addr) (k : Int) (w : World) (h : LAt w q A 0 c) :
    Calls Try.prog 64 #[.pointer (some ⟨q, 0, none⟩), .int .i64 k] w fun e w' => e = .returned (.int .i64 0) ∧ w' = w := by
  have b0 : w.cell? ⟨q, 0, none⟩ = some (.slice A 0 c) := cell_at h rfl
  clear h
  go_enter Try.func64, Try.ntmps64
  go_wp2
  go_ret
  exact ⟨rfl, rfl⟩
theorem next_gen (q B : Nat) (k : Int) (w : World) (h : LQ w q B) (hBq : B ≤ q) (hk1 : 1 ≤ k) (hk2 : k ≤ 4611686018427387904) :
    Calls Try.prog 64 #[.pointer (some ⟨q, 0, none⟩), .int .i64 k] w fun e w' => ∃ v, e = .returned (.int .i64 v) ∧ 0 ≤ v ∧ v < k ∧ LQ w' q B ∧ Kept (fun k => k = q) w w' := by
  have hq := h.lt
  obtain ⟨A, n, c, l, h1, h2, h3, h4, h5⟩ := h.ex
  cases l with
  | nil =>
    obtain rfl : n = 0 := h2.1.symm
    refine (next_none q c A k w h1).mono ?_
    rintro e w' ⟨rfl, rfl⟩
    exact ⟨0, rfl, Int.le_refl _, by omega, h, Kept.refl _ _⟩
  | cons x l =>
    refine (next_num q n c B A x k l w h1 h2 h3 h4 hk1 hk2 (h5 x (List.mem_cons_self ..))).mono ?_
    rintro e w' ⟨rfl, A', rfl, hr⟩
    have hkp : Kept (fun k => k = q) w (w.setCell ⟨q, 0, none⟩ (.slice A' (n - 1) (c - 1))) := Kept.setCell _ _ _ _ rfl
    exact ⟨x % k, rfl, Int.emod_nonneg _ (by omega), Int.emod_lt_of_pos _ (by omega), ⟨A', n - 1, c - 1, l, block_setCell (i := 0) h1 _, hr.below (hkp.below (fun k hk => by omega) (by omega)), by omega, by omega, fun y hy => h5 y (List.mem_cons_of_mem _ hy)⟩, hkp⟩

set_option maxHeartbeats 4000000 in
theorem cell_none (q c : Nat) (A : Option Addr) (w : World) (h : LAt w q A 0 c) :
    Calls Try.prog 83 #[.pointer (some ⟨q, 0, none⟩)] w fun e w' => e = .returned (.agg #[.string ⟨#[]⟩, .bool true, .int .i64 1, .int .i64 0]) ∧ Below w.heap.size w w' := by
  have hq : q < w.heap.size := (Array.getElem?_eq_some_iff.1 h).1
  have h1 : LAt (w.alloc (.cells #[.string ⟨#[]⟩, .bool false, .int .i64 0, .int .i64 0] 58)) q A 0 c := by unfold LAt; rw [((Below.refl w.heap.size w).alloc (Nat.le_refl _) _).block q hq]; exact h
  have hkz := heap_alloc_new w (.cells #[.string ⟨#[]⟩, .bool false, .int .i64 0, .int .i64 0] 58)
  have hb := (Below.refl w.heap.size w).alloc (Nat.le_refl _) (.cells #[.string ⟨#[]⟩, .bool false, .int .i64 0, .int .i64 0] 58)
  have H1 := Lib.hid h1
  obtain ⟨w1, hw1⟩ : ∃ w1, w1 = w.alloc (.cells #[.string ⟨#[]⟩, .bool false, .int .i64 0, .int .i64 0] 58) := ⟨_, rfl⟩
  rw [← hw1] at H1 hkz hb
  have hs1 : w1.heap.size = w.heap.size + 1 := by rw [hw1]; simp
  have m0 := block_setCell (i := 0) hkz (.string ⟨#[]⟩)
  have m1 := block_setCell (i := 1) m0 (.bool true)
  have m2 := block_setCell (i := 2) m1 (.int .i64 1)
  have m3 := block_setCell (i := 3) m2 (.int .i64 0)
  have M3 := Lib.hid m3
  have k0 := fun o => cell_at (i := 0) (at_new hkz o) rfl
  have k1 := fun o => cell_at (i := 1) (at_new m0 o) rfl
  have k2 := fun o => cell_at (i := 2) (at_new m1 o) rfl
  have k3 := fun o => cell_at (i := 3) (at_new m2 o) rfl
  have f0 := fun o => thawed_at (i := 0) (at_new hkz o)
  have f1 := fun o => thawed_at (i := 1) (at_new m0 o)
  have f2 := fun o => thawed_at (i := 2) (at_new m1 o)
  have f3 := fun o => thawed_at (i := 3) (at_new m2 o)
  have HB := Lib.hid hb
  clear m0 m1 m2 m3 hkz h h1 hb
  go_enter Try.func83, Try.ntmps83
  go_wp2_with fail
  rw [← hw1]
  clear hw1
  refine (next_none q c A 1048576 _ H1.out).mono ?_
  rintro e w2 ⟨rfl, rfl⟩
  go_wp2
  refine bodyPost_ret (v := .agg #[.string ⟨#[]⟩, .bool true, .int .i64 1, .int .i64 0]) (by simp [results, Try.results83, go_sem, cell_at (i := 0) (at_new M3.out _) rfl, cell_at (i := 1) (at_new M3.out _) rfl, cell_at (i := 2) (at_new M3.out _) rfl, cell_at (i := 3) (at_new M3.out _) rfl]) rfl ⟨rfl, ?_⟩
  have hs := hs1
  have hk4 := kept4 w2 w.heap.size (.string ⟨#[]⟩) (.bool true) (.int .i64 1) (.int .i64 0)
  exact HB.out.trans ((hk4 _).below (fun k hk => by omega) (by omega))
theorem cell_a (q n c B : Nat) (A : Option Addr) (x : Int) (l : List Int) (w : World) (h : LAt w q A n c) (hr : RdZ w B A n (x :: l)) (hnc : n ≤ c) (hc : c ≤ maxLen) (hBq : B ≤ q) (hx : -9223372036854775808 ≤ x ∧ x ≤ 9223372036854775807) :
    Calls Try.prog 83 #[.pointer (some ⟨q, 0, none⟩)] w fun e w' => ∃ (s : ByteArray) (d : Bool) (a b : Int), e = .returned (.agg #[.string s, .bool d, .int .i64 a, .int .i64 b]) ∧ (Ce.ok ⟨s, d, a, b⟩ = true ∧ s.size ≤ 1 ∧ 1 ≤ a) ∧ ∃ A', LAt w' q A' (n - 1) (c - 1) ∧ RdZ w' B A' (n - 1) l ∧ Kept (fun k => k = q) w w' := by
  have v0 : 0 ≤ x % 1048576 := Int.emod_nonneg _ (by decide)
  have v1 : x % 1048576 < 1048576 := Int.emod_lt_of_pos _ (by decide)
  obtain ⟨v, hv⟩ : ∃ v, x % 1048576 = v := ⟨_, rfl⟩
  rw [hv] at v0 v1
  have td : ∀ (m k : Int), 0 ≤ m → m < 1048576 → 1 ≤ k → 0 ≤ m.tdiv k ∧ m.tdiv k < 1048576 := fun m k h0 h1 hk => by
    rw [Int.tdiv_eq_ediv_of_nonneg h0]
    exact ⟨Int.ediv_nonneg h0 (by omega), Int.lt_of_le_of_lt (Int.ediv_le_self _ h0) h1⟩
  have tm : ∀ (m k : Int), 0 ≤ m → 1 ≤ k → 0 ≤ m.tmod k ∧ m.tmod k < k := fun m k h0 hk => by
    rw [Int.tmod_eq_emod_of_nonneg h0]
    exact ⟨Int.emod_nonneg _ (by omega), Int.emod_lt_of_pos _ (by omega)⟩
  obtain ⟨a0, a1⟩ := tm v 7 v0 (by omega)
  obtain ⟨p0, p1⟩ := td v 7 v0 v1 (by omega)
  by_cases hm : (v.tdiv 7).tmod 4 = 0
  · refine (cell_dead q n c B A x v _ _ _ l w h hr hnc hc hBq hx hv v0 v1 rfl a0 a1 rfl rfl hm p0 p1).mono ?_
    rintro e w' ⟨rfl, hw⟩
    refine ⟨_, _, _, _, rfl, ⟨?_, by decide, by omega⟩, hw⟩
    unfold Ce.ok stm
    simp only
    rw [if_neg (by omega), if_neg (by simp; omega)]
    exact same_self _
  · obtain ⟨y0, y1⟩ := td v 28 v0 v1 (by omega)
    obtain ⟨i0, i1⟩ := tm (v.tdiv 28) 3 y0 (by omega)
    obtain ⟨z0, z1⟩ := td v 84 v0 v1 (by omega)
    obtain ⟨u0, u1⟩ := td v 336 v0 v1 (by omega)
    obtain ⟨b0, b1⟩ := tm (v.tdiv 336) 10 u0 (by omega)
    obtain ⟨s, hs1, hs⟩ := xyz_at _ i0 i1
    refine (cell_alive q n c B A x v _ _ _ _ _ _ _ _ s l w h hr hnc hc hBq hx hv v0 v1 rfl a0 a1 rfl rfl (by rw [beq_eq_false_iff_ne]; exact hm) p0 p1 rfl y0 y1 rfl i0 i1 rfl z0 z1 rfl rfl u0 u1 _ _ rfl b0 b1 ⟨_, rfl, rfl⟩ hs).mono ?_
    rintro e w' ⟨rfl, hw⟩
    refine ⟨_, _, _, _, rfl, ⟨?_, by omega, by omega⟩, hw⟩
    unfold Ce.ok stm
    simp only
    rw [if_neg (by omega), if_neg (by simp; omega), if_neg (by decide), decide_eq_true (show s.size ≤ 100 by omega)]
    split <;> simp <;> omega
/-- A cell by numbers, however many are left. -/
theorem cell_gen (q B : Nat) (w : World) (h : LQ w q B) (hBq : B ≤ q) :
    Calls Try.prog 83 #[.pointer (some ⟨q, 0, none⟩)] w fun e w' => ∃ (s : ByteArray) (d : Bool) (a b : Int), e = .returned (.agg #[.string s, .bool d, .int .i64 a, .int .i64 b]) ∧ (Ce.ok ⟨s, d, a, b⟩ = true ∧ s.size ≤ 1 ∧ 1 ≤ a) ∧ LQ w' q B ∧ Kept (fun k => k = q) w w' := by
  have hq := h.lt
  obtain ⟨A, n, c, l, h1, h2, h3, h4, h5⟩ := h.ex
  cases l with
  | nil =>
    obtain rfl : n = 0 := h2.1.symm
    refine (cell_none q c A w h1).mono ?_
    rintro e w' ⟨rfl, hb⟩
    refine ⟨_, _, _, _, rfl, ⟨?_, by decide, by decide⟩, h.below hb (by omega), Kept.of_below hb _⟩
    unfold Ce.ok stm
    simp only
    rw [if_neg (by omega), if_neg (by simp)]
    exact same_self _
  | cons x l =>
    refine (cell_a q n c B A x l w h1 h2 h3 h4 hBq (h5 x (List.mem_cons_self ..))).mono ?_
    rintro e w' ⟨s, d, a, b, rfl, hok, A', h6, h7, h8⟩
    exact ⟨s, d, a, b, rfl, hok, ⟨A', _, _, l, h6, h7, by omega, by omega, fun y hy => h5 y (List.mem_cons_of_mem _ hy)⟩, h8⟩
end Go.Proofs.Ytbfkbfbcaileoaa
set_option linter.unusedVariables false
set_option linter.unusedSimpArgs false
namespace Go.Proofs.Ytbfkbfbcaileoaa
open Go Go.RowKit Go.Joins

/-- The name of the column of a number. -/
def nm (t : Nat) : ByteArray := ⟨#[UInt8.ofNat (97 + t)]⟩
/-- Columns by numbers, with names below the one of t. -/
structure ColsTo (t : Nat) (l : Cols) : Prop where
  rise : Rise l
  all : ∀ x ∈ l, colB x = true ∧ x.1.size ≤ 1 ∧ x.2.s.size ≤ 1 ∧ nlt x.1 (nm t)
  len : l.length ≤ t
  nms : ∀ x ∈ l, ∃ i, i < t ∧ x.1 = nm i
theorem rise_snoc : ∀ {l : Cols} {x : ByteArray × Ce}, Rise l → (∀ y ∈ l, nlt y.1 x.1) → Rise (l ++ [x])
  | [], x, _, _ => ⟨fun y hy => (by cases hy), trivial⟩
  | z :: l, x, hr, h => ⟨fun y hy => by
      rcases List.mem_append.1 hy with h1 | h1
      · exact hr.1 y h1
      · rw [List.mem_singleton.1 h1]
        exact h z (List.mem_cons_self ..), rise_snoc hr.2 fun y hy => h y (List.mem_cons_of_mem _ hy)⟩
theorem ColsTo.nil (t : Nat) : ColsTo t [] := ⟨trivial, fun x hx => (by cases hx), Nat.zero_le _, fun x hx => (by cases hx)⟩
theorem ColsTo.next {t : Nat} {l : Cols} (h : ColsTo t l) (hn : nlt (nm t) (nm (t + 1))) : ColsTo (t + 1) l :=
  ⟨h.rise, fun x hx => by
    obtain ⟨h1, h2, h3, h4⟩ := h.all x hx
    exact ⟨h1, h2, h3, nlt_tr h4 hn⟩, Nat.le_succ_of_le h.len, fun x hx => by
    obtain ⟨i, hi, e⟩ := h.nms x hx
    exact ⟨i, by omega, e⟩⟩
theorem ColsTo.snoc {t : Nat} {l : Cols} (h : ColsTo t l) (hn : nlt (nm t) (nm (t + 1))) (hb : nameB (nm t) = true) {c : Ce} (hc : c.ok = true ∧ c.s.size ≤ 1 ∧ 1 ≤ c.a) : ColsTo (t + 1) (l ++ [(nm t, c)]) := by
  refine ⟨rise_snoc h.rise fun y hy => (h.all y hy).2.2.2, fun x hx => ?_, by have := h.len; simp; omega, fun x hx => (List.mem_append.1 hx).elim (fun h1 => (h.next hn).nms x h1) fun h1 => ⟨t, by omega, by rw [List.mem_singleton.1 h1]⟩⟩
  rcases List.mem_append.1 hx with h1 | h1
  · exact (h.next hn).all x h1
  · rw [List.mem_singleton.1 h1]
    refine ⟨?_, by show 1 ≤ 1; omega, hc.2.1, hn⟩
    unfold colB
    simp only
    rw [hb, hc.1, decide_eq_true hc.2.2]
    rfl
theorem nm_facts : (∀ t, t < 4 → nlt (nm t) (nm (t + 1)) ∧ nameB (nm t) = true) := by decide
theorem ColsTo.ok {t : Nat} {l : Cols} (h : ColsTo t l) : colsB l = true := colsB_of h.rise fun x hx => (h.all x hx).1

theorem own_lower {w : World} {b b' n size : Nat} {e : TypeId} {v : Value} {xs : List Value} (h : w.ownsRow b e size v n xs) (hb : b' ≤ b) : w.ownsRow b' e size v n xs := by
  refine ⟨h.1, ?_⟩
  rcases h.2 with ⟨rfl, rfl⟩ | ⟨g, cap, cur, rfl, h2, h3⟩
  · exact Or.inl ⟨rfl, rfl⟩
  · exact Or.inr ⟨g, cap, cur, rfl, by omega, h3⟩
/-- The row under way, at block r. -/
def RB (w : World) (r : Nat) (k : ByteArray) (a e g : Int) (A : Option Addr) (n c : Nat) : Prop := w.heap[r]? = some (.cells #[.string k, .string ⟨#[]⟩, .bool false, .int .i64 a, .int .i64 e, .int .i64 g, .int .i64 0, .slice A n c] 61 (0, 0))
theorem RB.cells {w : World} {r : Nat} {k : ByteArray} {a e g : Int} {A : Option Addr} {n c : Nat} (h : RB w r k a e g A n c) : RoAt w r k ⟨#[]⟩ false a e g 0 A n c :=
  ⟨cell_at h rfl, cell_at h rfl, cell_at h rfl, cell_at h rfl, cell_at h rfl, cell_at h rfl, cell_at h rfl, cell_at h rfl⟩

theorem names_any (w : World) :
    Calls Try.prog 82 #[] w fun x w' => x = .returned (.slice (some ⟨w.heap.size, 0, none⟩) 4 4) ∧ w' = w.alloc (.cells #[.string (nm 0), .string (nm 1), .string (nm 2), .string (nm 3)] 9) := by
  go_enter Try.func82, Try.ntmps82
  go_wp2
  go_ret
  exact ⟨rfl, rfl⟩
set_option maxRecDepth 8000 in
set_option maxHeartbeats 4000000 in
theorem row_gen (q B : Nat) (key : ByteArray) (w : World) (h : LQ w q B) (hBq : B ≤ q) :
    Calls Try.prog 65 #[.pointer (some ⟨q, 0, none⟩), .string key] w fun x w' => ∃ (a e g : Int) (l : Cols) (A : Option Addr) (c : Nat), x = .returned (.agg #[.string key, .string ⟨#[]⟩, .bool false, .int .i64 a, .int .i64 e, .int .i64 g, .int .i64 0, .slice A l.length c]) ∧ (0 ≤ a ∧ a ≤ 8 ∧ 0 ≤ e ∧ e ≤ 11 ∧ 0 ≤ g ∧ g ≤ 8 ∧ (a = 0 → e = 0)) ∧ ColsTo 4 l ∧ w'.ownsRow w.heap.size 90 5 (.slice A l.length c) l.length (kRow l) ∧ LQ w' q B ∧ Kept (fun k => k = q) w w' := by
  have hq := h.lt
  have hz0 := heap_alloc_new w (.cells #[.string ⟨#[]⟩, .string ⟨#[]⟩, .bool false, .int .i64 0, .int .i64 0, .int .i64 0, .int .i64 0, .slice none 0 0] 61)
  have hz1 := heap_alloc_new (w.alloc (.cells #[.string ⟨#[]⟩, .string ⟨#[]⟩, .bool false, .int .i64 0, .int .i64 0, .int .i64 0, .int .i64 0, .slice none 0 0] 61)) (.cells #[.string key, .string ⟨#[]⟩, .bool false, .int .i64 0, .int .i64 0, .int .i64 0, .int .i64 0, .slice none 0 0] 61)
  simp only [World.size_alloc] at hz1
  have hz0' := at_new hz0 (.cells #[.string key, .string ⟨#[]⟩, .bool false, .int .i64 0, .int .i64 0, .int .i64 0, .int .i64 0, .slice none 0 0] 61)
  have bz := ((Below.refl w.heap.size w).alloc (Nat.le_refl _) (.cells #[.string ⟨#[]⟩, .string ⟨#[]⟩, .bool false, .int .i64 0, .int .i64 0, .int .i64 0, .int .i64 0, .slice none 0 0] 61)).alloc (by simp) (.cells #[.string key, .string ⟨#[]⟩, .bool false, .int .i64 0, .int .i64 0, .int .i64 0, .int .i64 0, .slice none 0 0] 61)
  obtain ⟨U, hU⟩ : ∃ U, U = (w.alloc (.cells #[.string ⟨#[]⟩, .string ⟨#[]⟩, .bool false, .int .i64 0, .int .i64 0, .int .i64 0, .int .i64 0, .slice none 0 0] 61)).alloc (.cells #[.string key, .string ⟨#[]⟩, .bool false, .int .i64 0, .int .i64 0, .int .i64 0, .int .i64 0, .slice none 0 0] 61) := ⟨_, rfl⟩
  have hUs : U.heap.size = w.heap.size + 2 := by rw [hU]; simp
  rw [← hU] at hz0' hz1 bz
  have HL := Lib.hid (h.below bz (by omega)); have HZ0 := Lib.hid hz0'; have HZ1 := Lib.hid hz1; have BZ := Lib.hid bz; have HUS := Lib.hid hUs
  clear hz0 hz0' hz1 bz hUs h
  go_enter Try.func65, Try.ntmps65
  go_wp2_with fail
  rw [← hU]
  clear hU
  refine (next_gen q B 1048576 _ HL.out hBq (by omega) (by omega)).mono ?_
  rintro x w1 ⟨v, rfl, v0, v1, hl1, hk1⟩
  have hs1 := hk1.size
  have R1 : Hid (RB w1 (w.heap.size + 1) key 0 0 0 none 0 0) := Lib.hid ((hk1.block (w.heap.size + 1) (by have := HUS.out; omega) (by omega)).trans HZ1.out)
  have Z1 := Lib.hid ((hk1.block w.heap.size (by have := HUS.out; omega) (by omega)).trans HZ0.out)
  have K1 : Hid (Kept (fun k => k = q) w w1) := Lib.hid ((Kept.of_below BZ.out _).trans hk1 fun k hk => Or.inl hk)
  have L1 := Lib.hid hl1
  have td : ∀ (m k : Int), 0 ≤ m → m < 1048576 → 1 ≤ k → 0 ≤ m.tdiv k ∧ m.tdiv k < 1048576 := fun m k h0 h1 hk => by
    rw [Int.tdiv_eq_ediv_of_nonneg h0]
    exact ⟨Int.ediv_nonneg h0 (by omega), Int.lt_of_le_of_lt (Int.ediv_le_self _ h0) h1⟩
  have tm : ∀ (m k : Int), 0 ≤ m → 1 ≤ k → 0 ≤ m.tmod k ∧ m.tmod k < k := fun m k h0 hk => by
    rw [Int.tmod_eq_emod_of_nonneg h0]
    exact ⟨Int.emod_nonneg _ (by omega), Int.emod_lt_of_pos _ (by omega)⟩
  have TD := Lib.hid td; have TM := Lib.hid tm
  have V0 := Lib.hid v0; have V1 := Lib.hid v1
  have HS1 := Lib.hid hs1
  clear hl1 hk1 td tm hs1
  obtain ⟨m3, hm3⟩ : ∃ m, v.tmod 3 = m := ⟨_, rfl⟩
  have HM3 := Lib.hid hm3
  go_upto_if 14 with fail
  go_cut [] from 15 to 30 (fun wx => ∃ a e : Int, (0 ≤ a ∧ a ≤ 8 ∧ 0 ≤ e ∧ e ≤ 11 ∧ (a = 0 → e = 0)) ∧ RB wx (w.heap.size + 1) key a e 0 none 0 0 ∧ Kept (fun k => k = w.heap.size + 1) w1 wx)
  case first =>
    clear hm3
    by_cases h3 : 0 < m3
    · obtain ⟨p0, p1⟩ := TD.out v 3 V0.out V1.out (by omega)
      obtain ⟨a0, a1⟩ := TM.out (v.tdiv 3) 7 p0 (by omega)
      obtain ⟨y0, y1⟩ := TD.out v 21 V0.out V1.out (by omega)
      obtain ⟨z0, z1⟩ := TD.out v 84 V0.out V1.out (by omega)
      obtain ⟨b0, b1⟩ := TM.out (v.tdiv 84) 10 z0 (by omega)
      obtain ⟨p, hp⟩ : ∃ p, v.tdiv 3 = p := ⟨_, rfl⟩
      obtain ⟨y, hy⟩ : ∃ p, v.tdiv 21 = p := ⟨_, rfl⟩
      obtain ⟨z, hz⟩ : ∃ p, v.tdiv 84 = p := ⟨_, rfl⟩
      rw [hp] at p0 p1 a0 a1
      rw [hy] at y0 y1
      rw [hz] at z0 z1 b0 b1
      obtain ⟨a, ha⟩ : ∃ a, p.tmod 7 = a := ⟨_, rfl⟩
      obtain ⟨i, hi⟩ : ∃ i, y.tmod 4 = i := ⟨_, rfl⟩
      obtain ⟨b, hb⟩ : ∃ b, z.tmod 10 = b := ⟨_, rfl⟩
      rw [ha] at a0 a1
      rw [hb] at b0 b1
      have wp : wrap64 p = p := by unfold wrap64; omega
      have wy : wrap64 y = y := by unfold wrap64; omega
      have wz : wrap64 z = z := by unfold wrap64; omega
      have wa : IntKind.i64.wrap (1 + a) = 1 + a := by rw [IntKind.wrap_i64]; omega
      have wb : IntKind.i64.wrap (1 + b) = 1 + b := by rw [IntKind.wrap_i64]; omega
      have m0 := block_setCell (i := 1) R1.out (.string ⟨#[]⟩)
      have m1 := block_setCell (i := 2) m0 (.bool false)
      have m2 := block_setCell (i := 3) m1 (.int .i64 (1 + a))
      have m3' := block_setCell (i := 4) m2 (.int .i64 0)
      have m4 := block_setCell (i := 4) m3' (.int .i64 (1 + b))
      have M3 := Lib.hid m3'; have M4 := Lib.hid m4
      have k0 := cell_at (i := 1) R1.out rfl
      have k1 := cell_at (i := 2) m0 rfl
      have k2 := cell_at (i := 3) m1 rfl
      have k3 := cell_at (i := 4) m2 rfl
      have k4 := cell_at (i := 4) m3' rfl
      have f0 := thawed_at (i := 1) R1.out
      have f1 := thawed_at (i := 2) m0
      have f2 := thawed_at (i := 3) m1
      have f3 := thawed_at (i := 4) m2
      have f4 := thawed_at (i := 4) m3'
      clear m0 m1 m2 m3' m4
      by_cases h4 : i = 0
      · have hi2 : (i == 0) = true := by rw [beq_iff_eq]; exact h4
        clear h4
        go_wp2_with fail
        go_meet
        refine ⟨1 + a, 1 + b, by omega, M4.out, ?_⟩
        exact ((((Kept.setCell (fun k => k = w.heap.size + 1) w1 ⟨w.heap.size + 1, 1, none⟩ _ rfl).trans (Kept.setCell (fun k => k = w.heap.size + 1) _ ⟨w.heap.size + 1, 2, none⟩ _ rfl) fun _ h => Or.inl h).trans (Kept.setCell (fun k => k = w.heap.size + 1) _ ⟨w.heap.size + 1, 3, none⟩ _ rfl) fun _ h => Or.inl h).trans (Kept.setCell (fun k => k = w.heap.size + 1) _ ⟨w.heap.size + 1, 4, none⟩ _ rfl) fun _ h => Or.inl h).trans (Kept.setCell (fun k => k = w.heap.size + 1) _ ⟨w.heap.size + 1, 4, none⟩ _ rfl) fun _ h => Or.inl h
      · have hi2 : (i == 0) = false := by rw [beq_eq_false_iff_ne]; exact h4
        clear h4
        go_wp2_with fail
        go_meet
        refine ⟨1 + a, 0, by omega, M3.out, ?_⟩
        exact (((Kept.setCell (fun k => k = w.heap.size + 1) w1 ⟨w.heap.size + 1, 1, none⟩ _ rfl).trans (Kept.setCell (fun k => k = w.heap.size + 1) _ ⟨w.heap.size + 1, 2, none⟩ _ rfl) fun _ h => Or.inl h).trans (Kept.setCell (fun k => k = w.heap.size + 1) _ ⟨w.heap.size + 1, 3, none⟩ _ rfl) fun _ h => Or.inl h).trans (Kept.setCell (fun k => k = w.heap.size + 1) _ ⟨w.heap.size + 1, 4, none⟩ _ rfl) fun _ h => Or.inl h
    · go_wp2_with fail
      go_meet
      exact ⟨0, 0, by omega, R1.out, Kept.refl _ _⟩
  case rest =>
    obtain ⟨a, e, hae, hr2, hk2⟩ := hcut
    clear hm3 HM3
    generalize wc = w2 at hr2 hk2 ⊢
    have HAE := Lib.hid hae
    have R2 := Lib.hid hr2
    have K2 := Lib.hid hk2
    clear hae hr2 hk2
    obtain ⟨y0, y1⟩ := TD.out v 840 V0.out V1.out (by omega)
    obtain ⟨z0, z1⟩ := TD.out v 3360 V0.out V1.out (by omega)
    obtain ⟨b0, b1⟩ := TM.out (v.tdiv 3360) 8 z0 (by omega)
    obtain ⟨y, hy⟩ : ∃ p, v.tdiv 840 = p := ⟨_, rfl⟩
    obtain ⟨z, hz⟩ : ∃ p, v.tdiv 3360 = p := ⟨_, rfl⟩
    rw [hy] at y0 y1
    rw [hz] at z0 z1 b0 b1
    obtain ⟨i, hi⟩ : ∃ i, y.tmod 4 = i := ⟨_, rfl⟩
    obtain ⟨b, hb⟩ : ∃ b, z.tmod 8 = b := ⟨_, rfl⟩
    rw [hb] at b0 b1
    have wy : wrap64 y = y := by unfold wrap64; omega
    have wz : wrap64 z = z := by unfold wrap64; omega
    go_upto_if 34 with fail
    go_cut [] from 35 to 38 (fun wx => ∃ g : Int, (0 ≤ g ∧ g ≤ 8) ∧ RB wx (w.heap.size + 1) key a e g none 0 0 ∧ Kept (fun k => k = w.heap.size + 1) w2 wx)
    case first =>
      by_cases h4 : i = 0
      · have hi2 : (i == 0) = true := by rw [beq_iff_eq]; exact h4
        clear h4
        have m0 := block_setCell (i := 5) R2.out (.int .i64 b)
        have M0 := Lib.hid m0
        have k0 := cell_at (i := 5) R2.out rfl
        have f0 := thawed_at (i := 5) R2.out
        clear m0
        go_wp2_with fail
        go_meet
        exact ⟨b, by omega, M0.out, Kept.setCell (fun k => k = w.heap.size + 1) w2 ⟨w.heap.size + 1, 5, none⟩ _ rfl⟩
      · have hi2 : (i == 0) = false := by rw [beq_eq_false_iff_ne]; exact h4
        clear h4
        go_wp2_with fail
        go_meet
        exact ⟨0, by omega, R2.out, Kept.refl _ _⟩
    case rest =>
      obtain ⟨g, hg, hr3, hk3⟩ := hcut
      generalize wc = w3 at hr3 hk3 ⊢
      clear hy hz hi hb wy wz y0 y1 z0 z1 b0 b1
      have hk13 := K2.out.trans hk3 fun k hk => Or.inl hk
      have hs3 := hk13.size
      have hl3 : LQ w3 q B := L1.out.kept hk13 (fun k hk => by omega) hBq
      have hz3 := (hk13.block w.heap.size (by have := HUS.out; have := HS1.out; omega) (by omega)).trans Z1.out
      have hk3' : Kept (fun k => k = q) w w3 := K1.out.trans hk13 fun k hk => Or.inr (by omega)
      have HS3 := Lib.hid (show w.heap.size + 2 ≤ w3.heap.size by have := HUS.out; have := HS1.out; omega)
      have HG := Lib.hid hg; have R3 := Lib.hid hr3; have L3 := Lib.hid hl3; have Z3 := Lib.hid hz3; have K3 := Lib.hid hk3'
      clear hg hr3 hk3 hk13 hs3 hl3 hz3 hk3' K1 K2 L1 Z1 R1 R2 HS1 HUS BZ HZ0 HZ1
      go_wp2_with fail
      go_loopw [7] (fun i wr => ∃ (t : Nat) (ti : Int) (l : Cols) (A : Option Addr) (c : Nat), t ≤ 4 ∧ i = .int .i64 ti ∧ ti = (t : Int) ∧ ColsTo t l ∧ RB wr (w.heap.size + 1) key a e g A l.length c ∧ wr.ownsRow (w.heap.size + 2) 90 5 (.slice A l.length c) l.length (kRow l) ∧ LQ wr q B ∧ Kept (fun k => k = q) w wr ∧ w.heap.size + 2 ≤ wr.heap.size ∧ wr.heap[w.heap.size]? = some (.cells #[.string ⟨#[]⟩, .string ⟨#[]⟩, .bool false, .int .i64 0, .int .i64 0, .int .i64 0, .int .i64 0, .slice none 0 0] 61)) (fun i _ => 4 - (intOf i).toNat)
      case atStart => exact ⟨0, 0, [], none, 0, by omega, rfl, rfl, ColsTo.nil 0, R3.out, own_nilK _ _, L3.out, K3.out, HS3.out, Z3.out⟩
      case round =>
        obtain ⟨t, ti, l, A, c, ht, rfl, hti, hct, hrb, how, hlq, hkp, hsz, hz⟩ := hrel
        have CT := Lib.hid hct; have RBl := Lib.hid hrb; have OW := Lib.hid how; have LQ_ := Lib.hid hlq; have KP := Lib.hid hkp; have ZZ := Lib.hid hz; have SZ := Lib.hid hsz
        clear hct hrb how hlq hkp hz hsz
        by_cases h4 : t = 4
        · subst h4
          obtain rfl : ti = 4 := hti
          obtain ⟨p0, p1, p2, p3, p4, p5, p6, p7⟩ := RB.cells RBl.out
          have m0 := block_setCell (i := 0) ZZ.out (.string key)
          simp only [List.setIfInBounds_toArray, List.set_cons_zero, List.set_cons_succ] at m0
          have kc0 := cell_at (i := 0) ZZ.out rfl
          have f0 := thawed_at (i := 0) ZZ.out
          have m1 := block_setCell (i := 1) m0 (.string ⟨#[]⟩)
          simp only [List.setIfInBounds_toArray, List.set_cons_zero, List.set_cons_succ] at m1
          have kc1 := cell_at (i := 1) m0 rfl
          have f1 := thawed_at (i := 1) m0
          have m2 := block_setCell (i := 2) m1 (.bool false)
          simp only [List.setIfInBounds_toArray, List.set_cons_zero, List.set_cons_succ] at m2
          have kc2 := cell_at (i := 2) m1 rfl
          have f2 := thawed_at (i := 2) m1
          have m3 := block_setCell (i := 3) m2 (.int .i64 a)
          simp only [List.setIfInBounds_toArray, List.set_cons_zero, List.set_cons_succ] at m3
          have kc3 := cell_at (i := 3) m2 rfl
          have f3 := thawed_at (i := 3) m2
          have m4 := block_setCell (i := 4) m3 (.int .i64 e)
          simp only [List.setIfInBounds_toArray, List.set_cons_zero, List.set_cons_succ] at m4
          have kc4 := cell_at (i := 4) m3 rfl
          have f4 := thawed_at (i := 4) m3
          have m5 := block_setCell (i := 5) m4 (.int .i64 g)
          simp only [List.setIfInBounds_toArray, List.set_cons_zero, List.set_cons_succ] at m5
          have kc5 := cell_at (i := 5) m4 rfl
          have f5 := thawed_at (i := 5) m4
          have m6 := block_setCell (i := 6) m5 (.int .i64 0)
          simp only [List.setIfInBounds_toArray, List.set_cons_zero, List.set_cons_succ] at m6
          have kc6 := cell_at (i := 6) m5 rfl
          have f6 := thawed_at (i := 6) m5
          have m7 := block_setCell (i := 7) m6 (.slice A l.length c)
          simp only [List.setIfInBounds_toArray, List.set_cons_zero, List.set_cons_succ] at m7
          have kc7 := cell_at (i := 7) m6 rfl
          have f7 := thawed_at (i := 7) m6
          have M7 := Lib.hid m7
          have KF : Hid (Kept (fun k => k = w.heap.size) wr ((((((((wr.setCell ⟨w.heap.size, 0, none⟩ (.string key)).setCell ⟨w.heap.size, 1, none⟩ (.string ⟨#[]⟩)).setCell ⟨w.heap.size, 2, none⟩ (.bool false)).setCell ⟨w.heap.size, 3, none⟩ (.int .i64 a)).setCell ⟨w.heap.size, 4, none⟩ (.int .i64 e)).setCell ⟨w.heap.size, 5, none⟩ (.int .i64 g)).setCell ⟨w.heap.size, 6, none⟩ (.int .i64 0)).setCell ⟨w.heap.size, 7, none⟩ (.slice A l.length c))) := Lib.hid (((((((((Kept.refl (fun k => k = w.heap.size) wr).trans (Kept.setCell (fun k => k = w.heap.size) _ ⟨w.heap.size, 0, none⟩ (.string key) rfl) fun _ h => Or.inl h).trans (Kept.setCell (fun k => k = w.heap.size) _ ⟨w.heap.size, 1, none⟩ (.string ⟨#[]⟩) rfl) fun _ h => Or.inl h).trans (Kept.setCell (fun k => k = w.heap.size) _ ⟨w.heap.size, 2, none⟩ (.bool false) rfl) fun _ h => Or.inl h).trans (Kept.setCell (fun k => k = w.heap.size) _ ⟨w.heap.size, 3, none⟩ (.int .i64 a) rfl) fun _ h => Or.inl h).trans (Kept.setCell (fun k => k = w.heap.size) _ ⟨w.heap.size, 4, none⟩ (.int .i64 e) rfl) fun _ h => Or.inl h).trans (Kept.setCell (fun k => k = w.heap.size) _ ⟨w.heap.size, 5, none⟩ (.int .i64 g) rfl) fun _ h => Or.inl h).trans (Kept.setCell (fun k => k = w.heap.size) _ ⟨w.heap.size, 6, none⟩ (.int .i64 0) rfl) fun _ h => Or.inl h).trans (Kept.setCell (fun k => k = w.heap.size) _ ⟨w.heap.size, 7, none⟩ (.slice A l.length c) rfl) fun _ h => Or.inl h)
          clear m0 m1 m2 m3 m4 m5 m6 m7
          go_wp2
          generalize hw9 : ((((((((wr.setCell ⟨w.heap.size, 0, none⟩ (.string key)).setCell ⟨w.heap.size, 1, none⟩ (.string ⟨#[]⟩)).setCell ⟨w.heap.size, 2, none⟩ (.bool false)).setCell ⟨w.heap.size, 3, none⟩ (.int .i64 a)).setCell ⟨w.heap.size, 4, none⟩ (.int .i64 e)).setCell ⟨w.heap.size, 5, none⟩ (.int .i64 g)).setCell ⟨w.heap.size, 6, none⟩ (.int .i64 0)).setCell ⟨w.heap.size, 7, none⟩ (.slice A l.length c)) = w9 at KF M7 ⊢
          clear hw9 kc0 kc1 kc2 kc3 kc4 kc5 kc6 kc7 f0 f1 f2 f3 f4 f5 f6 f7
          have z0 := cell_at (i := 0) M7.out rfl
          have z1 := cell_at (i := 1) M7.out rfl
          have z2 := cell_at (i := 2) M7.out rfl
          have z3 := cell_at (i := 3) M7.out rfl
          have z4 := cell_at (i := 4) M7.out rfl
          have z5 := cell_at (i := 5) M7.out rfl
          have z6 := cell_at (i := 6) M7.out rfl
          have z7 := cell_at (i := 7) M7.out rfl
          have hown : w9.ownsRow w.heap.size 90 5 (.slice A l.length c) l.length (kRow l) := own_lower (own_kept OW.out fun k hk => KF.out.block k (own_block_lt OW.out k hk) (by have := (OW.out.lt k hk).1; omega)) (by omega)
          have HOWN := Lib.hid hown
          have hlq9 := LQ_.out.kept KF.out (fun k hk => by omega) hBq
          have hkp9 : Kept (fun k => k = q) w w9 := KP.out.trans KF.out fun k hk => Or.inr (by omega)
          have hct := CT.out
          have hae := HAE.out
          have hg9 := HG.out
          refine bodyPost_ret (v := .agg #[.string key, .string ⟨#[]⟩, .bool false, .int .i64 a, .int .i64 e, .int .i64 g, .int .i64 0, .slice A l.length c]) (by simp [results, Try.results65, go_sem, z0, z1, z2, z3, z4, z5, z6, z7]) rfl ⟨a, e, g, l, A, c, rfl, by omega, hct, HOWN.out, hlq9, hkp9⟩
        · have h3 : t = 0 ∨ t = 1 ∨ t = 2 ∨ t = 3 := by omega
          rcases h3 with rfl | rfl | rfl | rfl
          · obtain rfl : ti = 0 := hti
            go_wp2_with fail
            · refine wp_region_z (S := fun w' => RB w' (w.heap.size + 1) key a e g A l.length c) 12 (by kernel_rfl) ?_ (fun hHeld => ?_)
              · exact RBl.out
              refine wpAnyZ_take (i := 0) (v := ?_) rfl (by kernel_rfl) (by kernel_rfl) (by kernel_rfl) (by kernel_rfl) (fun _ _ _ h => h) (Or.inl ⟨by rfl, ?_⟩) (by assumption) ?_
              rotate_left
              · (intro wx hSw; (try dsimp only at hSw); go_simp; try with_reducible rfl)
              try simp only [Act.put, List.getElem_toArray, List.getElem_cons_succ, List.getElem_cons_zero, List.setIfInBounds_toArray, List.set_cons_zero, List.set_cons_succ]
              refine wpAnyZ_take (i := 1) (v := ?_) rfl (by kernel_rfl) (by kernel_rfl) (by kernel_rfl) (by kernel_rfl) (fun _ _ _ h => h) (Or.inl ⟨by rfl, ?_⟩) (by assumption) ?_
              rotate_left
              · (intro wx hSw; (try dsimp only at hSw); obtain ⟨_, _, _, _, _, _, _, _⟩ := RB.cells hSw; go_simp; try with_reducible rfl)
              try simp only [Act.put, List.getElem_toArray, List.getElem_cons_succ, List.getElem_cons_zero, List.setIfInBounds_toArray, List.set_cons_zero, List.set_cons_succ]
              refine wpAnyZ_take (i := 3) (v := ?_) rfl (by kernel_rfl) (by kernel_rfl) (by kernel_rfl) (by kernel_rfl) (fun _ _ _ h => h) (Or.inl ⟨by rfl, ?_⟩) (by assumption) ?_
              rotate_left
              · (intro wx hSw; (try dsimp only at hSw); go_simp; try with_reducible rfl)
              try simp only [Act.put, List.getElem_toArray, List.getElem_cons_succ, List.getElem_cons_zero, List.setIfInBounds_toArray, List.set_cons_zero, List.set_cons_succ]
              refine wpAnyZ_take (i := 6) (v := ?_) rfl (by kernel_rfl) (by kernel_rfl) (by kernel_rfl) (by kernel_rfl) (fun _ _ _ h => h) (Or.inl ⟨by rfl, ?_⟩) (by assumption) ?_
              rotate_left
              · (intro wx hSw; (try dsimp only at hSw); go_simp; try with_reducible rfl)
              try simp only [Act.put, List.getElem_toArray, List.getElem_cons_succ, List.getElem_cons_zero, List.setIfInBounds_toArray, List.set_cons_zero, List.set_cons_succ]
              refine wpAnyZ_one (i := 2) (by kernel_rfl) rfl (fun K hK => ?_)
              go_simp
              refine (names_any _).mono ?_
              rintro x v1 ⟨rfl, hv1⟩
              have hb1 : Below wr.heap.size wr v1 := by rw [hv1]; exact ((Below.refl _ _).drew).alloc (Nat.le_refl _) _
              have hn1 : v1.heap[wr.heap.size]? = some (.cells #[.string (nm 0), .string (nm 1), .string (nm 2), .string (nm 3)] 9 (0, 0)) := by rw [hv1]; exact heap_alloc_new wr.drew _
              have hs1 : v1.heap.size = wr.heap.size + 1 := by rw [hv1]; simp
              have HB1 := Lib.hid hb1; have HN1 := Lib.hid hn1; have HV1 := Lib.hid hs1; have LQ1 := Lib.hid (LQ_.out.below hb1 (by have := LQ_.out.lt; omega))
              clear hv1 hb1 hn1 hs1
              try go_wp2_with fail
              refine hK.out _ _ ?_ (fun hHeld => ?_)
              · first | exact (HB1.out.block (w.heap.size + 1) (by have := SZ.out; omega)).trans RBl.out | exact ⟨(KP2.out.block (w.heap.size + 1) (by have := SZ.out; have := HV1.out; omega) (by omega)).trans hHeld.1, (KP2.out.block wr.heap.size (by have := HV1.out; omega) (by have := SZ.out; omega)).trans hHeld.2⟩
              clear hK K
              try simp only [Act.put, List.getElem_toArray, List.getElem_cons_succ, List.getElem_cons_zero, List.setIfInBounds_toArray, List.set_cons_zero, List.set_cons_succ]
              refine held_upz (S' := fun w' => RB w' (w.heap.size + 1) key a e g A l.length c ∧ w'.heap[wr.heap.size]? = some (.cells #[.string (nm 0), .string (nm 1), .string (nm 2), .string (nm 3)] 9 (0, 0))) (fun _ h => h.1) _ _ _ _ ?_
              replace hHeld := And.intro hHeld HN1.out
              refine wpAnyZ_take (i := 4) (v := ?_) rfl (by kernel_rfl) (by kernel_rfl) (by kernel_rfl) (by kernel_rfl) (fun _ _ _ h => h) (Or.inl ⟨by rfl, ?_⟩) (by assumption) ?_
              rotate_left
              · (intro wx hSw; (try dsimp only at hSw); go_simp; try with_reducible rfl)
              try simp only [Act.put, List.getElem_toArray, List.getElem_cons_succ, List.getElem_cons_zero, List.setIfInBounds_toArray, List.set_cons_zero, List.set_cons_succ]
              refine wpAnyZ_take (i := 5) (v := ?_) rfl (by kernel_rfl) (by kernel_rfl) (by kernel_rfl) (by kernel_rfl) (fun _ _ _ h => h) (Or.inl ⟨by rfl, ?_⟩) (by assumption) ?_
              rotate_left
              · (intro wx hSw; (try dsimp only at hSw); have hn0 := cell_at (i := 0) hSw.2 rfl; have hn1 := cell_at (i := 1) hSw.2 rfl; have hn2 := cell_at (i := 2) hSw.2 rfl; have hn3 := cell_at (i := 3) hSw.2 rfl; go_simp; try with_reducible rfl)
              try simp only [Act.put, List.getElem_toArray, List.getElem_cons_succ, List.getElem_cons_zero, List.setIfInBounds_toArray, List.set_cons_zero, List.set_cons_succ]
              refine wpAnyZ_one (i := 7) (by kernel_rfl) rfl (fun K hK => ?_)
              go_simp
              refine (cell_gen q B _ LQ1.out hBq).mono ?_
              rintro x v2 ⟨s, d, ca, cb, rfl, hok, hlq2, hkp2⟩
              have HOK := Lib.hid hok; have LQ2 := Lib.hid hlq2; have KP2 := Lib.hid hkp2
              clear hok hlq2 hkp2
              try go_wp2_with fail
              refine hK.out _ _ ?_ (fun hHeld => ?_)
              · first | exact (HB1.out.block (w.heap.size + 1) (by have := SZ.out; omega)).trans RBl.out | exact ⟨(KP2.out.block (w.heap.size + 1) (by have := SZ.out; have := HV1.out; omega) (by omega)).trans hHeld.1, (KP2.out.block wr.heap.size (by have := HV1.out; omega) (by have := SZ.out; omega)).trans hHeld.2⟩
              clear hK K
              try simp only [Act.put, List.getElem_toArray, List.getElem_cons_succ, List.getElem_cons_zero, List.setIfInBounds_toArray, List.set_cons_zero, List.set_cons_succ]
              have hown2 := own_kept (own_below OW.out (HB1.out)) fun k hk => KP2.out.block k (own_block_lt (own_below OW.out (HB1.out)) k hk) (by have := (OW.out.lt k hk).1; omega)
              have OWN := Lib.hid (own_below hown2 ((Below.refl v2.heap.size v2).alloc (Nat.le_refl _) (.cells #[.string (nm 0), .string s, .bool d, .int .i64 ca, .int .i64 cb] 90)))
              have RD := Lib.hid (RdK.one v2 ((nm 0), ⟨s, d, ca, cb⟩) v2.heap.size rfl)
              clear hown2
              refine wpAnyZ_take (i := 8) (v := ?_) rfl (by kernel_rfl) (by kernel_rfl) (by kernel_rfl) (by kernel_rfl) (fun _ _ _ h => h) (Or.inl ⟨by rfl, ?_⟩) (by assumption) ?_
              rotate_left
              · (intro wx hSw; (try dsimp only at hSw); go_simp; try with_reducible rfl)
              try simp only [Act.put, List.getElem_toArray, List.getElem_cons_succ, List.getElem_cons_zero, List.setIfInBounds_toArray, List.set_cons_zero, List.set_cons_succ]
              refine wpAnyZ_one (i := 9) (by kernel_rfl) rfl (fun K hK => ?_)
              go_simp
              refine hK.out _ _ ?_ (fun hHeld => ?_)
              · exact ⟨at_new hHeld.1 _, at_new hHeld.2 _⟩
              clear hK K
              try simp only [Act.put, List.getElem_toArray, List.getElem_cons_succ, List.getElem_cons_zero, List.setIfInBounds_toArray, List.set_cons_zero, List.set_cons_succ]
              refine wpAnyZ_one (i := 10) (by kernel_rfl) rfl (fun K hK => ?_)
              refine step_ex rfl (.tmp 51) (.tmp 59) _ _ rfl (.slice A l.length c) (.slice (some ⟨v2.heap.size, 0, none⟩) 1 1) (by simp [Act.eval]) (by simp [Act.eval]) (run_appK (w.heap.size + 2) OWN.out RD.out ?s1 ?s2) ?_
              case s1 => have := CT.out.len; omega
              case s2 => have := SZ.out; have := HV1.out; have := KP2.out.size; simp; omega
              intro v3 w3 ho3 hg3
              obtain ⟨hg3, _⟩ := hg3
              obtain ⟨A3, c3, rfl, _⟩ := own_slice ho3
              have HO3 := Lib.hid ho3; have HG3 := Lib.hid hg3
              clear ho3 hg3
              refine hK.out _ _ ?_ (fun hHeld => ?_)
              · exact ⟨(HG3.out.block (w.heap.size + 1) (by have := SZ.out; have := HV1.out; have := KP2.out.size; simp; omega) (fun e => by have := (OWN.out.lt _ e.symm).1; omega)).trans hHeld.1, (HG3.out.block wr.heap.size (by have := HV1.out; have := KP2.out.size; simp; omega) (fun e => by have := (OW.out.lt _ e.symm).2; omega)).trans hHeld.2⟩
              clear hK K
              try simp only [Act.put, List.getElem_toArray, List.getElem_cons_succ, List.getElem_cons_zero, List.setIfInBounds_toArray, List.set_cons_zero, List.set_cons_succ]
              have k7 := cell_at (i := 7) hHeld.1 rfl
              have f7 := thawed_at (i := 7) hHeld.1
              have RB3 := Lib.hid hHeld.1
              refine wpAnyZ_take (i := 11) (v := ?_) rfl (by kernel_rfl) (by kernel_rfl) (by kernel_rfl) (by kernel_rfl) (fun _ _ _ h => h) (Or.inl ⟨by rfl, ?_⟩) (by assumption) ?_
              rotate_left
              · (intro wx hSw; (try dsimp only at hSw); go_simp; try with_reducible rfl)
              try simp only [Act.put, List.getElem_toArray, List.getElem_cons_succ, List.getElem_cons_zero, List.setIfInBounds_toArray, List.set_cons_zero, List.set_cons_succ]
              refine wpAnyZ_last (by kernel_rfl) rfl (fun K hK => ?_)
              go_simp
              refine hK.out _ _ ?_
              clear hK K
              try simp only [Act.put, List.getElem_toArray, List.getElem_cons_succ, List.getElem_cons_zero, List.setIfInBounds_toArray, List.set_cons_zero, List.set_cons_succ]
              refine wpAnyZ_done (by kernel_rfl) ?_ _
              have kA : Kept (fun k => w.heap.size + 1 ≤ k) v2 (w3.setCell ⟨w.heap.size + 1, 7, none⟩ (.slice A3 (l.length + 1) c3)) := ((Kept.alloc (fun k => w.heap.size + 1 ≤ k) v2 _).trans (Kept.of_grown (F := fun k => w.heap.size + 1 ≤ k) HG3.out (fun k hk => by have := (OWN.out.lt k hk).1; omega)) (fun k hk => Or.inl hk)).trans (Kept.setCell (fun k => w.heap.size + 1 ≤ k) w3 ⟨w.heap.size + 1, 7, none⟩ _ (Nat.le_refl _)) fun k hk => Or.inl hk
              have kB : Kept (fun k => k = q ∨ w.heap.size + 1 ≤ k) wr _ := ((Kept.of_below HB1.out (fun k => k = q ∨ w.heap.size + 1 ≤ k)).trans KP2.out (fun k hk => Or.inl (Or.inl hk))).trans kA (fun k hk => Or.inl (Or.inr hk))
              have hm7 := block_setCell (i := 7) RB3.out (.slice A3 (l.length + 1) c3)
              simp only [List.setIfInBounds_toArray, List.set_cons_zero, List.set_cons_succ] at hm7
              have hl9 : LQ _ q B := LQ2.out.kept kA (fun k hk => by omega) hBq
              have hz9 := (kB.block w.heap.size (by have := SZ.out; omega) (by omega)).trans ZZ.out
              have hk9 : Kept (fun k => k = q) w _ := KP.out.trans kB fun k hk => by omega
              have ho9 := own_kept HO3.out (w' := w3.setCell ⟨w.heap.size + 1, 7, none⟩ (.slice A3 (l.length + 1) c3)) fun g hg => Below.heap_setCell _ _ _ _ (by have := (HO3.out.lt g hg).1; show g ≠ w.heap.size + 1; omega)
              have hs9 := kB.size
              generalize w3.setCell ⟨w.heap.size + 1, 7, none⟩ (.slice A3 (l.length + 1) c3) = w9 at *
              have HM7 := Lib.hid hm7; have HL9 := Lib.hid hl9; have HZ9 := Lib.hid hz9; have HK9 := Lib.hid hk9; have HO9 := Lib.hid ho9
              clear kA kB hm7 hl9 hz9 hk9 ho9 k7 f7 hHeld
              go_wp2
              go_roundw
              case rel => exact ⟨0 + 1, 0 + 1, l ++ [(nm 0, ⟨s, d, ca, cb⟩)], A3, c3, by omega, rfl, rfl, CT.out.snoc (nm_facts 0 (by omega)).1 (nm_facts 0 (by omega)).2 HOK.out, by rw [List.length_append]; exact HM7.out, by rw [List.length_append]; exact HO9.out, HL9.out, HK9.out, by have := SZ.out; omega, HZ9.out⟩
              case measure => simp [intOf]
            · go_wp2
              go_roundw
              case rel => exact ⟨1, 1, l, A, c, by omega, rfl, rfl, CT.out.next (nm_facts 0 (by omega)).1, RBl.out, OW.out, LQ_.out, KP.out, SZ.out, ZZ.out⟩
              case measure => simp [intOf]
          · obtain rfl : ti = 1 := hti
            go_wp2_with fail
            · refine wp_region_z (S := fun w' => RB w' (w.heap.size + 1) key a e g A l.length c) 12 (by kernel_rfl) ?_ (fun hHeld => ?_)
              · exact RBl.out
              refine wpAnyZ_take (i := 0) (v := ?_) rfl (by kernel_rfl) (by kernel_rfl) (by kernel_rfl) (by kernel_rfl) (fun _ _ _ h => h) (Or.inl ⟨by rfl, ?_⟩) (by assumption) ?_
              rotate_left
              · (intro wx hSw; (try dsimp only at hSw); go_simp; try with_reducible rfl)
              try simp only [Act.put, List.getElem_toArray, List.getElem_cons_succ, List.getElem_cons_zero, List.setIfInBounds_toArray, List.set_cons_zero, List.set_cons_succ]
              refine wpAnyZ_take (i := 1) (v := ?_) rfl (by kernel_rfl) (by kernel_rfl) (by kernel_rfl) (by kernel_rfl) (fun _ _ _ h => h) (Or.inl ⟨by rfl, ?_⟩) (by assumption) ?_
              rotate_left
              · (intro wx hSw; (try dsimp only at hSw); obtain ⟨_, _, _, _, _, _, _, _⟩ := RB.cells hSw; go_simp; try with_reducible rfl)
              try simp only [Act.put, List.getElem_toArray, List.getElem_cons_succ, List.getElem_cons_zero, List.setIfInBounds_toArray, List.set_cons_zero, List.set_cons_succ]
              refine wpAnyZ_take (i := 3) (v := ?_) rfl (by kernel_rfl) (by kernel_rfl) (by kernel_rfl) (by kernel_rfl) (fun _ _ _ h => h) (Or.inl ⟨by rfl, ?_⟩) (by assumption) ?_
              rotate_left
              · (intro wx hSw; (try dsimp only at hSw); go_simp; try with_reducible rfl)
              try simp only [Act.put, List.getElem_toArray, List.getElem_cons_succ, List.getElem_cons_zero, List.setIfInBounds_toArray, List.set_cons_zero, List.set_cons_succ]
              refine wpAnyZ_take (i := 6) (v := ?_) rfl (by kernel_rfl) (by kernel_rfl) (by kernel_rfl) (by kernel_rfl) (fun _ _ _ h => h) (Or.inl ⟨by rfl, ?_⟩) (by assumption) ?_
              rotate_left
              · (intro wx hSw; (try dsimp only at hSw); go_simp; try with_reducible rfl)
              try simp only [Act.put, List.getElem_toArray, List.getElem_cons_succ, List.getElem_cons_zero, List.setIfInBounds_toArray, List.set_cons_zero, List.set_cons_succ]
              refine wpAnyZ_one (i := 2) (by kernel_rfl) rfl (fun K hK => ?_)
              go_simp
              refine (names_any _).mono ?_
              rintro x v1 ⟨rfl, hv1⟩
              have hb1 : Below wr.heap.size wr v1 := by rw [hv1]; exact ((Below.refl _ _).drew).alloc (Nat.le_refl _) _
              have hn1 : v1.heap[wr.heap.size]? = some (.cells #[.string (nm 0), .string (nm 1), .string (nm 2), .string (nm 3)] 9 (0, 0)) := by rw [hv1]; exact heap_alloc_new wr.drew _
              have hs1 : v1.heap.size = wr.heap.size + 1 := by rw [hv1]; simp
              have HB1 := Lib.hid hb1; have HN1 := Lib.hid hn1; have HV1 := Lib.hid hs1; have LQ1 := Lib.hid (LQ_.out.below hb1 (by have := LQ_.out.lt; omega))
              clear hv1 hb1 hn1 hs1
              try go_wp2_with fail
              refine hK.out _ _ ?_ (fun hHeld => ?_)
              · first | exact (HB1.out.block (w.heap.size + 1) (by have := SZ.out; omega)).trans RBl.out | exact ⟨(KP2.out.block (w.heap.size + 1) (by have := SZ.out; have := HV1.out; omega) (by omega)).trans hHeld.1, (KP2.out.block wr.heap.size (by have := HV1.out; omega) (by have := SZ.out; omega)).trans hHeld.2⟩
              clear hK K
              try simp only [Act.put, List.getElem_toArray, List.getElem_cons_succ, List.getElem_cons_zero, List.setIfInBounds_toArray, List.set_cons_zero, List.set_cons_succ]
              refine held_upz (S' := fun w' => RB w' (w.heap.size + 1) key a e g A l.length c ∧ w'.heap[wr.heap.size]? = some (.cells #[.string (nm 0), .string (nm 1), .string (nm 2), .string (nm 3)] 9 (0, 0))) (fun _ h => h.1) _ _ _ _ ?_
              replace hHeld := And.intro hHeld HN1.out
              refine wpAnyZ_take (i := 4) (v := ?_) rfl (by kernel_rfl) (by kernel_rfl) (by kernel_rfl) (by kernel_rfl) (fun _ _ _ h => h) (Or.inl ⟨by rfl, ?_⟩) (by assumption) ?_
              rotate_left
              · (intro wx hSw; (try dsimp only at hSw); go_simp; try with_reducible rfl)
              try simp only [Act.put, List.getElem_toArray, List.getElem_cons_succ, List.getElem_cons_zero, List.setIfInBounds_toArray, List.set_cons_zero, List.set_cons_succ]
              refine wpAnyZ_take (i := 5) (v := ?_) rfl (by kernel_rfl) (by kernel_rfl) (by kernel_rfl) (by kernel_rfl) (fun _ _ _ h => h) (Or.inl ⟨by rfl, ?_⟩) (by assumption) ?_
              rotate_left
              · (intro wx hSw; (try dsimp only at hSw); have hn0 := cell_at (i := 0) hSw.2 rfl; have hn1 := cell_at (i := 1) hSw.2 rfl; have hn2 := cell_at (i := 2) hSw.2 rfl; have hn3 := cell_at (i := 3) hSw.2 rfl; go_simp; try with_reducible rfl)
              try simp only [Act.put, List.getElem_toArray, List.getElem_cons_succ, List.getElem_cons_zero, List.setIfInBounds_toArray, List.set_cons_zero, List.set_cons_succ]
              refine wpAnyZ_one (i := 7) (by kernel_rfl) rfl (fun K hK => ?_)
              go_simp
              refine (cell_gen q B _ LQ1.out hBq).mono ?_
              rintro x v2 ⟨s, d, ca, cb, rfl, hok, hlq2, hkp2⟩
              have HOK := Lib.hid hok; have LQ2 := Lib.hid hlq2; have KP2 := Lib.hid hkp2
              clear hok hlq2 hkp2
              try go_wp2_with fail
              refine hK.out _ _ ?_ (fun hHeld => ?_)
              · first | exact (HB1.out.block (w.heap.size + 1) (by have := SZ.out; omega)).trans RBl.out | exact ⟨(KP2.out.block (w.heap.size + 1) (by have := SZ.out; have := HV1.out; omega) (by omega)).trans hHeld.1, (KP2.out.block wr.heap.size (by have := HV1.out; omega) (by have := SZ.out; omega)).trans hHeld.2⟩
              clear hK K
              try simp only [Act.put, List.getElem_toArray, List.getElem_cons_succ, List.getElem_cons_zero, List.setIfInBounds_toArray, List.set_cons_zero, List.set_cons_succ]
              have hown2 := own_kept (own_below OW.out (HB1.out)) fun k hk => KP2.out.block k (own_block_lt (own_below OW.out (HB1.out)) k hk) (by have := (OW.out.lt k hk).1; omega)
              have OWN := Lib.hid (own_below hown2 ((Below.refl v2.heap.size v2).alloc (Nat.le_refl _) (.cells #[.string (nm 1), .string s, .bool d, .int .i64 ca, .int .i64 cb] 90)))
              have RD := Lib.hid (RdK.one v2 ((nm 1), ⟨s, d, ca, cb⟩) v2.heap.size rfl)
              clear hown2
              refine wpAnyZ_take (i := 8) (v := ?_) rfl (by kernel_rfl) (by kernel_rfl) (by kernel_rfl) (by kernel_rfl) (fun _ _ _ h => h) (Or.inl ⟨by rfl, ?_⟩) (by assumption) ?_
              rotate_left
              · (intro wx hSw; (try dsimp only at hSw); go_simp; try with_reducible rfl)
              try simp only [Act.put, List.getElem_toArray, List.getElem_cons_succ, List.getElem_cons_zero, List.setIfInBounds_toArray, List.set_cons_zero, List.set_cons_succ]
              refine wpAnyZ_one (i := 9) (by kernel_rfl) rfl (fun K hK => ?_)
              go_simp
              refine hK.out _ _ ?_ (fun hHeld => ?_)
              · exact ⟨at_new hHeld.1 _, at_new hHeld.2 _⟩
              clear hK K
              try simp only [Act.put, List.getElem_toArray, List.getElem_cons_succ, List.getElem_cons_zero, List.setIfInBounds_toArray, List.set_cons_zero, List.set_cons_succ]
              refine wpAnyZ_one (i := 10) (by kernel_rfl) rfl (fun K hK => ?_)
              refine step_ex rfl (.tmp 51) (.tmp 59) _ _ rfl (.slice A l.length c) (.slice (some ⟨v2.heap.size, 0, none⟩) 1 1) (by simp [Act.eval]) (by simp [Act.eval]) (run_appK (w.heap.size + 2) OWN.out RD.out ?s1 ?s2) ?_
              case s1 => have := CT.out.len; omega
              case s2 => have := SZ.out; have := HV1.out; have := KP2.out.size; simp; omega
              intro v3 w3 ho3 hg3
              obtain ⟨hg3, _⟩ := hg3
              obtain ⟨A3, c3, rfl, _⟩ := own_slice ho3
              have HO3 := Lib.hid ho3; have HG3 := Lib.hid hg3
              clear ho3 hg3
              refine hK.out _ _ ?_ (fun hHeld => ?_)
              · exact ⟨(HG3.out.block (w.heap.size + 1) (by have := SZ.out; have := HV1.out; have := KP2.out.size; simp; omega) (fun e => by have := (OWN.out.lt _ e.symm).1; omega)).trans hHeld.1, (HG3.out.block wr.heap.size (by have := HV1.out; have := KP2.out.size; simp; omega) (fun e => by have := (OW.out.lt _ e.symm).2; omega)).trans hHeld.2⟩
              clear hK K
              try simp only [Act.put, List.getElem_toArray, List.getElem_cons_succ, List.getElem_cons_zero, List.setIfInBounds_toArray, List.set_cons_zero, List.set_cons_succ]
              have k7 := cell_at (i := 7) hHeld.1 rfl
              have f7 := thawed_at (i := 7) hHeld.1
              have RB3 := Lib.hid hHeld.1
              refine wpAnyZ_take (i := 11) (v := ?_) rfl (by kernel_rfl) (by kernel_rfl) (by kernel_rfl) (by kernel_rfl) (fun _ _ _ h => h) (Or.inl ⟨by rfl, ?_⟩) (by assumption) ?_
              rotate_left
              · (intro wx hSw; (try dsimp only at hSw); go_simp; try with_reducible rfl)
              try simp only [Act.put, List.getElem_toArray, List.getElem_cons_succ, List.getElem_cons_zero, List.setIfInBounds_toArray, List.set_cons_zero, List.set_cons_succ]
              refine wpAnyZ_last (by kernel_rfl) rfl (fun K hK => ?_)
              go_simp
              refine hK.out _ _ ?_
              clear hK K
              try simp only [Act.put, List.getElem_toArray, List.getElem_cons_succ, List.getElem_cons_zero, List.setIfInBounds_toArray, List.set_cons_zero, List.set_cons_succ]
              refine wpAnyZ_done (by kernel_rfl) ?_ _
              have kA : Kept (fun k => w.heap.size + 1 ≤ k) v2 (w3.setCell ⟨w.heap.size + 1, 7, none⟩ (.slice A3 (l.length + 1) c3)) := ((Kept.alloc (fun k => w.heap.size + 1 ≤ k) v2 _).trans (Kept.of_grown (F := fun k => w.heap.size + 1 ≤ k) HG3.out (fun k hk => by have := (OWN.out.lt k hk).1; omega)) (fun k hk => Or.inl hk)).trans (Kept.setCell (fun k => w.heap.size + 1 ≤ k) w3 ⟨w.heap.size + 1, 7, none⟩ _ (Nat.le_refl _)) fun k hk => Or.inl hk
              have kB : Kept (fun k => k = q ∨ w.heap.size + 1 ≤ k) wr _ := ((Kept.of_below HB1.out (fun k => k = q ∨ w.heap.size + 1 ≤ k)).trans KP2.out (fun k hk => Or.inl (Or.inl hk))).trans kA (fun k hk => Or.inl (Or.inr hk))
              have hm7 := block_setCell (i := 7) RB3.out (.slice A3 (l.length + 1) c3)
              simp only [List.setIfInBounds_toArray, List.set_cons_zero, List.set_cons_succ] at hm7
              have hl9 : LQ _ q B := LQ2.out.kept kA (fun k hk => by omega) hBq
              have hz9 := (kB.block w.heap.size (by have := SZ.out; omega) (by omega)).trans ZZ.out
              have hk9 : Kept (fun k => k = q) w _ := KP.out.trans kB fun k hk => by omega
              have ho9 := own_kept HO3.out (w' := w3.setCell ⟨w.heap.size + 1, 7, none⟩ (.slice A3 (l.length + 1) c3)) fun g hg => Below.heap_setCell _ _ _ _ (by have := (HO3.out.lt g hg).1; show g ≠ w.heap.size + 1; omega)
              have hs9 := kB.size
              generalize w3.setCell ⟨w.heap.size + 1, 7, none⟩ (.slice A3 (l.length + 1) c3) = w9 at *
              have HM7 := Lib.hid hm7; have HL9 := Lib.hid hl9; have HZ9 := Lib.hid hz9; have HK9 := Lib.hid hk9; have HO9 := Lib.hid ho9
              clear kA kB hm7 hl9 hz9 hk9 ho9 k7 f7 hHeld
              go_wp2
              go_roundw
              case rel => exact ⟨1 + 1, 1 + 1, l ++ [(nm 1, ⟨s, d, ca, cb⟩)], A3, c3, by omega, rfl, rfl, CT.out.snoc (nm_facts 1 (by omega)).1 (nm_facts 1 (by omega)).2 HOK.out, by rw [List.length_append]; exact HM7.out, by rw [List.length_append]; exact HO9.out, HL9.out, HK9.out, by have := SZ.out; omega, HZ9.out⟩
              case measure => simp [intOf]
            · go_wp2
              go_roundw
              case rel => exact ⟨2, 2, l, A, c, by omega, rfl, rfl, CT.out.next (nm_facts 1 (by omega)).1, RBl.out, OW.out, LQ_.out, KP.out, SZ.out, ZZ.out⟩
              case measure => simp [intOf]
          · obtain rfl : ti = 2 := hti
            go_wp2_with fail
            · refine wp_region_z (S := fun w' => RB w' (w.heap.size + 1) key a e g A l.length c) 12 (by kernel_rfl) ?_ (fun hHeld => ?_)
              · exact RBl.out
              refine wpAnyZ_take (i := 0) (v := ?_) rfl (by kernel_rfl) (by kernel_rfl) (by kernel_rfl) (by kernel_rfl) (fun _ _ _ h => h) (Or.inl ⟨by rfl, ?_⟩) (by assumption) ?_
              rotate_left
              · (intro wx hSw; (try dsimp only at hSw); go_simp; try with_reducible rfl)
              try simp only [Act.put, List.getElem_toArray, List.getElem_cons_succ, List.getElem_cons_zero, List.setIfInBounds_toArray, List.set_cons_zero, List.set_cons_succ]
              refine wpAnyZ_take (i := 1) (v := ?_) rfl (by kernel_rfl) (by kernel_rfl) (by kernel_rfl) (by kernel_rfl) (fun _ _ _ h => h) (Or.inl ⟨by rfl, ?_⟩) (by assumption) ?_
              rotate_left
              · (intro wx hSw; (try dsimp only at hSw); obtain ⟨_, _, _, _, _, _, _, _⟩ := RB.cells hSw; go_simp; try with_reducible rfl)
              try simp only [Act.put, List.getElem_toArray, List.getElem_cons_succ, List.getElem_cons_zero, List.setIfInBounds_toArray, List.set_cons_zero, List.set_cons_succ]
              refine wpAnyZ_take (i := 3) (v := ?_) rfl (by kernel_rfl) (by kernel_rfl) (by kernel_rfl) (by kernel_rfl) (fun _ _ _ h => h) (Or.inl ⟨by rfl, ?_⟩) (by assumption) ?_
              rotate_left
              · (intro wx hSw; (try dsimp only at hSw); go_simp; try with_reducible rfl)
              try simp only [Act.put, List.getElem_toArray, List.getElem_cons_succ, List.getElem_cons_zero, List.setIfInBounds_toArray, List.set_cons_zero, List.set_cons_succ]
              refine wpAnyZ_take (i := 6) (v := ?_) rfl (by kernel_rfl) (by kernel_rfl) (by kernel_rfl) (by kernel_rfl) (fun _ _ _ h => h) (Or.inl ⟨by rfl, ?_⟩) (by assumption) ?_
              rotate_left
              · (intro wx hSw; (try dsimp only at hSw); go_simp; try with_reducible rfl)
              try simp only [Act.put, List.getElem_toArray, List.getElem_cons_succ, List.getElem_cons_zero, List.setIfInBounds_toArray, List.set_cons_zero, List.set_cons_succ]
              refine wpAnyZ_one (i := 2) (by kernel_rfl) rfl (fun K hK => ?_)
              go_simp
              refine (names_any _).mono ?_
              rintro x v1 ⟨rfl, hv1⟩
              have hb1 : Below wr.heap.size wr v1 := by rw [hv1]; exact ((Below.refl _ _).drew).alloc (Nat.le_refl _) _
              have hn1 : v1.heap[wr.heap.size]? = some (.cells #[.string (nm 0), .string (nm 1), .string (nm 2), .string (nm 3)] 9 (0, 0)) := by rw [hv1]; exact heap_alloc_new wr.drew _
              have hs1 : v1.heap.size = wr.heap.size + 1 := by rw [hv1]; simp
              have HB1 := Lib.hid hb1; have HN1 := Lib.hid hn1; have HV1 := Lib.hid hs1; have LQ1 := Lib.hid (LQ_.out.below hb1 (by have := LQ_.out.lt; omega))
              clear hv1 hb1 hn1 hs1
              try go_wp2_with fail
              refine hK.out _ _ ?_ (fun hHeld => ?_)
              · first | exact (HB1.out.block (w.heap.size + 1) (by have := SZ.out; omega)).trans RBl.out | exact ⟨(KP2.out.block (w.heap.size + 1) (by have := SZ.out; have := HV1.out; omega) (by omega)).trans hHeld.1, (KP2.out.block wr.heap.size (by have := HV1.out; omega) (by have := SZ.out; omega)).trans hHeld.2⟩
              clear hK K
              try simp only [Act.put, List.getElem_toArray, List.getElem_cons_succ, List.getElem_cons_zero, List.setIfInBounds_toArray, List.set_cons_zero, List.set_cons_succ]
              refine held_upz (S' := fun w' => RB w' (w.heap.size + 1) key a e g A l.length c ∧ w'.heap[wr.heap.size]? = some (.cells #[.string (nm 0), .string (nm 1), .string (nm 2), .string (nm 3)] 9 (0, 0))) (fun _ h => h.1) _ _ _ _ ?_
              replace hHeld := And.intro hHeld HN1.out
              refine wpAnyZ_take (i := 4) (v := ?_) rfl (by kernel_rfl) (by kernel_rfl) (by kernel_rfl) (by kernel_rfl) (fun _ _ _ h => h) (Or.inl ⟨by rfl, ?_⟩) (by assumption) ?_
              rotate_left
              · (intro wx hSw; (try dsimp only at hSw); go_simp; try with_reducible rfl)
              try simp only [Act.put, List.getElem_toArray, List.getElem_cons_succ, List.getElem_cons_zero, List.setIfInBounds_toArray, List.set_cons_zero, List.set_cons_succ]
              refine wpAnyZ_take (i := 5) (v := ?_) rfl (by kernel_rfl) (by kernel_rfl) (by kernel_rfl) (by kernel_rfl) (fun _ _ _ h => h) (Or.inl ⟨by rfl, ?_⟩) (by assumption) ?_
              rotate_left
              · (intro wx hSw; (try dsimp only at hSw); have hn0 := cell_at (i := 0) hSw.2 rfl; have hn1 := cell_at (i := 1) hSw.2 rfl; have hn2 := cell_at (i := 2) hSw.2 rfl; have hn3 := cell_at (i := 3) hSw.2 rfl; go_simp; try with_reducible rfl)
              try simp only [Act.put, List.getElem_toArray, List.getElem_cons_succ, List.getElem_cons_zero, List.setIfInBounds_toArray, List.set_cons_zero, List.set_cons_succ]
              refine wpAnyZ_one (i := 7) (by kernel_rfl) rfl (fun K hK => ?_)
              go_simp
              refine (cell_gen q B _ LQ1.out hBq).mono ?_
              rintro x v2 ⟨s, d, ca, cb, rfl, hok, hlq2, hkp2⟩
              have HOK := Lib.hid hok; have LQ2 := Lib.hid hlq2; have KP2 := Lib.hid hkp2
              clear hok hlq2 hkp2
              try go_wp2_with fail
              refine hK.out _ _ ?_ (fun hHeld => ?_)
              · first | exact (HB1.out.block (w.heap.size + 1) (by have := SZ.out; omega)).trans RBl.out | exact ⟨(KP2.out.block (w.heap.size + 1) (by have := SZ.out; have := HV1.out; omega) (by omega)).trans hHeld.1, (KP2.out.block wr.heap.size (by have := HV1.out; omega) (by have := SZ.out; omega)).trans hHeld.2⟩
              clear hK K
              try simp only [Act.put, List.getElem_toArray, List.getElem_cons_succ, List.getElem_cons_zero, List.setIfInBounds_toArray, List.set_cons_zero, List.set_cons_succ]
              have hown2 := own_kept (own_below OW.out (HB1.out)) fun k hk => KP2.out.block k (own_block_lt (own_below OW.out (HB1.out)) k hk) (by have := (OW.out.lt k hk).1; omega)
              have OWN := Lib.hid (own_below hown2 ((Below.refl v2.heap.size v2).alloc (Nat.le_refl _) (.cells #[.string (nm 2), .string s, .bool d, .int .i64 ca, .int .i64 cb] 90)))
              have RD := Lib.hid (RdK.one v2 ((nm 2), ⟨s, d, ca, cb⟩) v2.heap.size rfl)
              clear hown2
              refine wpAnyZ_take (i := 8) (v := ?_) rfl (by kernel_rfl) (by kernel_rfl) (by kernel_rfl) (by kernel_rfl) (fun _ _ _ h => h) (Or.inl ⟨by rfl, ?_⟩) (by assumption) ?_
              rotate_left
              · (intro wx hSw; (try dsimp only at hSw); go_simp; try with_reducible rfl)
              try simp only [Act.put, List.getElem_toArray, List.getElem_cons_succ, List.getElem_cons_zero, List.setIfInBounds_toArray, List.set_cons_zero, List.set_cons_succ]
              refine wpAnyZ_one (i := 9) (by kernel_rfl) rfl (fun K hK => ?_)
              go_simp
              refine hK.out _ _ ?_ (fun hHeld => ?_)
              · exact ⟨at_new hHeld.1 _, at_new hHeld.2 _⟩
              clear hK K
              try simp only [Act.put, List.getElem_toArray, List.getElem_cons_succ, List.getElem_cons_zero, List.setIfInBounds_toArray, List.set_cons_zero, List.set_cons_succ]
              refine wpAnyZ_one (i := 10) (by kernel_rfl) rfl (fun K hK => ?_)
              refine step_ex rfl (.tmp 51) (.tmp 59) _ _ rfl (.slice A l.length c) (.slice (some ⟨v2.heap.size, 0, none⟩) 1 1) (by simp [Act.eval]) (by simp [Act.eval]) (run_appK (w.heap.size + 2) OWN.out RD.out ?s1 ?s2) ?_
              case s1 => have := CT.out.len; omega
              case s2 => have := SZ.out; have := HV1.out; have := KP2.out.size; simp; omega
              intro v3 w3 ho3 hg3
              obtain ⟨hg3, _⟩ := hg3
              obtain ⟨A3, c3, rfl, _⟩ := own_slice ho3
              have HO3 := Lib.hid ho3; have HG3 := Lib.hid hg3
              clear ho3 hg3
              refine hK.out _ _ ?_ (fun hHeld => ?_)
              · exact ⟨(HG3.out.block (w.heap.size + 1) (by have := SZ.out; have := HV1.out; have := KP2.out.size; simp; omega) (fun e => by have := (OWN.out.lt _ e.symm).1; omega)).trans hHeld.1, (HG3.out.block wr.heap.size (by have := HV1.out; have := KP2.out.size; simp; omega) (fun e => by have := (OW.out.lt _ e.symm).2; omega)).trans hHeld.2⟩
              clear hK K
              try simp only [Act.put, List.getElem_toArray, List.getElem_cons_succ, List.getElem_cons_zero, List.setIfInBounds_toArray, List.set_cons_zero, List.set_cons_succ]
              have k7 := cell_at (i := 7) hHeld.1 rfl
              have f7 := thawed_at (i := 7) hHeld.1
              have RB3 := Lib.hid hHeld.1
              refine wpAnyZ_take (i := 11) (v := ?_) rfl (by kernel_rfl) (by kernel_rfl) (by kernel_rfl) (by kernel_rfl) (fun _ _ _ h => h) (Or.inl ⟨by rfl, ?_⟩) (by assumption) ?_
              rotate_left
              · (intro wx hSw; (try dsimp only at hSw); go_simp; try with_reducible rfl)
              try simp only [Act.put, List.getElem_toArray, List.getElem_cons_succ, List.getElem_cons_zero, List.setIfInBounds_toArray, List.set_cons_zero, List.set_cons_succ]
              refine wpAnyZ_last (by kernel_rfl) rfl (fun K hK => ?_)
              go_simp
              refine hK.out _ _ ?_
              clear hK K
              try simp only [Act.put, List.getElem_toArray, List.getElem_cons_succ, List.getElem_cons_zero, List.setIfInBounds_toArray, List.set_cons_zero, List.set_cons_succ]
              refine wpAnyZ_done (by kernel_rfl) ?_ _
              have kA : Kept (fun k => w.heap.size + 1 ≤ k) v2 (w3.setCell ⟨w.heap.size + 1, 7, none⟩ (.slice A3 (l.length + 1) c3)) := ((Kept.alloc (fun k => w.heap.size + 1 ≤ k) v2 _).trans (Kept.of_grown (F := fun k => w.heap.size + 1 ≤ k) HG3.out (fun k hk => by have := (OWN.out.lt k hk).1; omega)) (fun k hk => Or.inl hk)).trans (Kept.setCell (fun k => w.heap.size + 1 ≤ k) w3 ⟨w.heap.size + 1, 7, none⟩ _ (Nat.le_refl _)) fun k hk => Or.inl hk
              have kB : Kept (fun k => k = q ∨ w.heap.size + 1 ≤ k) wr _ := ((Kept.of_below HB1.out (fun k => k = q ∨ w.heap.size + 1 ≤ k)).trans KP2.out (fun k hk => Or.inl (Or.inl hk))).trans kA (fun k hk => Or.inl (Or.inr hk))
              have hm7 := block_setCell (i := 7) RB3.out (.slice A3 (l.length + 1) c3)
              simp only [List.setIfInBounds_toArray, List.set_cons_zero, List.set_cons_succ] at hm7
              have hl9 : LQ _ q B := LQ2.out.kept kA (fun k hk => by omega) hBq
              have hz9 := (kB.block w.heap.size (by have := SZ.out; omega) (by omega)).trans ZZ.out
              have hk9 : Kept (fun k => k = q) w _ := KP.out.trans kB fun k hk => by omega
              have ho9 := own_kept HO3.out (w' := w3.setCell ⟨w.heap.size + 1, 7, none⟩ (.slice A3 (l.length + 1) c3)) fun g hg => Below.heap_setCell _ _ _ _ (by have := (HO3.out.lt g hg).1; show g ≠ w.heap.size + 1; omega)
              have hs9 := kB.size
              generalize w3.setCell ⟨w.heap.size + 1, 7, none⟩ (.slice A3 (l.length + 1) c3) = w9 at *
              have HM7 := Lib.hid hm7; have HL9 := Lib.hid hl9; have HZ9 := Lib.hid hz9; have HK9 := Lib.hid hk9; have HO9 := Lib.hid ho9
              clear kA kB hm7 hl9 hz9 hk9 ho9 k7 f7 hHeld
              go_wp2
              go_roundw
              case rel => exact ⟨2 + 1, 2 + 1, l ++ [(nm 2, ⟨s, d, ca, cb⟩)], A3, c3, by omega, rfl, rfl, CT.out.snoc (nm_facts 2 (by omega)).1 (nm_facts 2 (by omega)).2 HOK.out, by rw [List.length_append]; exact HM7.out, by rw [List.length_append]; exact HO9.out, HL9.out, HK9.out, by have := SZ.out; omega, HZ9.out⟩
              case measure => simp [intOf]
            · go_wp2
              go_roundw
              case rel => exact ⟨3, 3, l, A, c, by omega, rfl, rfl, CT.out.next (nm_facts 2 (by omega)).1, RBl.out, OW.out, LQ_.out, KP.out, SZ.out, ZZ.out⟩
              case measure => simp [intOf]
          · obtain rfl : ti = 3 := hti
            go_wp2_with fail
            · refine wp_region_z (S := fun w' => RB w' (w.heap.size + 1) key a e g A l.length c) 12 (by kernel_rfl) ?_ (fun hHeld => ?_)
              · exact RBl.out
              refine wpAnyZ_take (i := 0) (v := ?_) rfl (by kernel_rfl) (by kernel_rfl) (by kernel_rfl) (by kernel_rfl) (fun _ _ _ h => h) (Or.inl ⟨by rfl, ?_⟩) (by assumption) ?_
              rotate_left
              · (intro wx hSw; (try dsimp only at hSw); go_simp; try with_reducible rfl)
              try simp only [Act.put, List.getElem_toArray, List.getElem_cons_succ, List.getElem_cons_zero, List.setIfInBounds_toArray, List.set_cons_zero, List.set_cons_succ]
              refine wpAnyZ_take (i := 1) (v := ?_) rfl (by kernel_rfl) (by kernel_rfl) (by kernel_rfl) (by kernel_rfl) (fun _ _ _ h => h) (Or.inl ⟨by rfl, ?_⟩) (by assumption) ?_
              rotate_left
              · (intro wx hSw; (try dsimp only at hSw); obtain ⟨_, _, _, _, _, _, _, _⟩ := RB.cells hSw; go_simp; try with_reducible rfl)
              try simp only [Act.put, List.getElem_toArray, List.getElem_cons_succ, List.getElem_cons_zero, List.setIfInBounds_toArray, List.set_cons_zero, List.set_cons_succ]
              refine wpAnyZ_take (i := 3) (v := ?_) rfl (by kernel_rfl) (by kernel_rfl) (by kernel_rfl) (by kernel_rfl) (fun _ _ _ h => h) (Or.inl ⟨by rfl, ?_⟩) (by assumption) ?_
              rotate_left
              · (intro wx hSw; (try dsimp only at hSw); go_simp; try with_reducible rfl)
              try simp only [Act.put, List.getElem_toArray, List.getElem_cons_succ, List.getElem_cons_zero, List.setIfInBounds_toArray, List.set_cons_zero, List.set_cons_succ]
              refine wpAnyZ_take (i := 6) (v := ?_) rfl (by kernel_rfl) (by kernel_rfl) (by kernel_rfl) (by kernel_rfl) (fun _ _ _ h => h) (Or.inl ⟨by rfl, ?_⟩) (by assumption) ?_
              rotate_left
              · (intro wx hSw; (try dsimp only at hSw); go_simp; try with_reducible rfl)
              try simp only [Act.put, List.getElem_toArray, List.getElem_cons_succ, List.getElem_cons_zero, List.setIfInBounds_toArray, List.set_cons_zero, List.set_cons_succ]
              refine wpAnyZ_one (i := 2) (by kernel_rfl) rfl (fun K hK => ?_)
              go_simp
              refine (names_any _).mono ?_
              rintro x v1 ⟨rfl, hv1⟩
              have hb1 : Below wr.heap.size wr v1 := by rw [hv1]; exact ((Below.refl _ _).drew).alloc (Nat.le_refl _) _
              have hn1 : v1.heap[wr.heap.size]? = some (.cells #[.string (nm 0), .string (nm 1), .string (nm 2), .string (nm 3)] 9 (0, 0)) := by rw [hv1]; exact heap_alloc_new wr.drew _
              have hs1 : v1.heap.size = wr.heap.size + 1 := by rw [hv1]; simp
              have HB1 := Lib.hid hb1; have HN1 := Lib.hid hn1; have HV1 := Lib.hid hs1; have LQ1 := Lib.hid (LQ_.out.below hb1 (by have := LQ_.out.lt; omega))
              clear hv1 hb1 hn1 hs1
              try go_wp2_with fail
              refine hK.out _ _ ?_ (fun hHeld => ?_)
              · first | exact (HB1.out.block (w.heap.size + 1) (by have := SZ.out; omega)).trans RBl.out | exact ⟨(KP2.out.block (w.heap.size + 1) (by have := SZ.out; have := HV1.out; omega) (by omega)).trans hHeld.1, (KP2.out.block wr.heap.size (by have := HV1.out; omega) (by have := SZ.out; omega)).trans hHeld.2⟩
              clear hK K
              try simp only [Act.put, List.getElem_toArray, List.getElem_cons_succ, List.getElem_cons_zero, List.setIfInBounds_toArray, List.set_cons_zero, List.set_cons_succ]
              refine held_upz (S' := fun w' => RB w' (w.heap.size + 1) key a e g A l.length c ∧ w'.heap[wr.heap.size]? = some (.cells #[.string (nm 0), .string (nm 1), .string (nm 2), .string (nm 3)] 9 (0, 0))) (fun _ h => h.1) _ _ _ _ ?_
              replace hHeld := And.intro hHeld HN1.out
              refine wpAnyZ_take (i := 4) (v := ?_) rfl (by kernel_rfl) (by kernel_rfl) (by kernel_rfl) (by kernel_rfl) (fun _ _ _ h => h) (Or.inl ⟨by rfl, ?_⟩) (by assumption) ?_
              rotate_left
              · (intro wx hSw; (try dsimp only at hSw); go_simp; try with_reducible rfl)
              try simp only [Act.put, List.getElem_toArray, List.getElem_cons_succ, List.getElem_cons_zero, List.setIfInBounds_toArray, List.set_cons_zero, List.set_cons_succ]
              refine wpAnyZ_take (i := 5) (v := ?_) rfl (by kernel_rfl) (by kernel_rfl) (by kernel_rfl) (by kernel_rfl) (fun _ _ _ h => h) (Or.inl ⟨by rfl, ?_⟩) (by assumption) ?_
              rotate_left
              · (intro wx hSw; (try dsimp only at hSw); have hn0 := cell_at (i := 0) hSw.2 rfl; have hn1 := cell_at (i := 1) hSw.2 rfl; have hn2 := cell_at (i := 2) hSw.2 rfl; have hn3 := cell_at (i := 3) hSw.2 rfl; go_simp; try with_reducible rfl)
              try simp only [Act.put, List.getElem_toArray, List.getElem_cons_succ, List.getElem_cons_zero, List.setIfInBounds_toArray, List.set_cons_zero, List.set_cons_succ]
              refine wpAnyZ_one (i := 7) (by kernel_rfl) rfl (fun K hK => ?_)
              go_simp
              refine (cell_gen q B _ LQ1.out hBq).mono ?_
              rintro x v2 ⟨s, d, ca, cb, rfl, hok, hlq2, hkp2⟩
              have HOK := Lib.hid hok; have LQ2 := Lib.hid hlq2; have KP2 := Lib.hid hkp2
              clear hok hlq2 hkp2
              try go_wp2_with fail
              refine hK.out _ _ ?_ (fun hHeld => ?_)
              · first | exact (HB1.out.block (w.heap.size + 1) (by have := SZ.out; omega)).trans RBl.out | exact ⟨(KP2.out.block (w.heap.size + 1) (by have := SZ.out; have := HV1.out; omega) (by omega)).trans hHeld.1, (KP2.out.block wr.heap.size (by have := HV1.out; omega) (by have := SZ.out; omega)).trans hHeld.2⟩
              clear hK K
              try simp only [Act.put, List.getElem_toArray, List.getElem_cons_succ, List.getElem_cons_zero, List.setIfInBounds_toArray, List.set_cons_zero, List.set_cons_succ]
              have hown2 := own_kept (own_below OW.out (HB1.out)) fun k hk => KP2.out.block k (own_block_lt (own_below OW.out (HB1.out)) k hk) (by have := (OW.out.lt k hk).1; omega)
              have OWN := Lib.hid (own_below hown2 ((Below.refl v2.heap.size v2).alloc (Nat.le_refl _) (.cells #[.string (nm 3), .string s, .bool d, .int .i64 ca, .int .i64 cb] 90)))
              have RD := Lib.hid (RdK.one v2 ((nm 3), ⟨s, d, ca, cb⟩) v2.heap.size rfl)
              clear hown2
              refine wpAnyZ_take (i := 8) (v := ?_) rfl (by kernel_rfl) (by kernel_rfl) (by kernel_rfl) (by kernel_rfl) (fun _ _ _ h => h) (Or.inl ⟨by rfl, ?_⟩) (by assumption) ?_
              rotate_left
              · (intro wx hSw; (try dsimp only at hSw); go_simp; try with_reducible rfl)
              try simp only [Act.put, List.getElem_toArray, List.getElem_cons_succ, List.getElem_cons_zero, List.setIfInBounds_toArray, List.set_cons_zero, List.set_cons_succ]
              refine wpAnyZ_one (i := 9) (by kernel_rfl) rfl (fun K hK => ?_)
              go_simp
              refine hK.out _ _ ?_ (fun hHeld => ?_)
              · exact ⟨at_new hHeld.1 _, at_new hHeld.2 _⟩
              clear hK K
              try simp only [Act.put, List.getElem_toArray, List.getElem_cons_succ, List.getElem_cons_zero, List.setIfInBounds_toArray, List.set_cons_zero, List.set_cons_succ]
              refine wpAnyZ_one (i := 10) (by kernel_rfl) rfl (fun K hK => ?_)
              refine step_ex rfl (.tmp 51) (.tmp 59) _ _ rfl (.slice A l.length c) (.slice (some ⟨v2.heap.size, 0, none⟩) 1 1) (by simp [Act.eval]) (by simp [Act.eval]) (run_appK (w.heap.size + 2) OWN.out RD.out ?s1 ?s2) ?_
              case s1 => have := CT.out.len; omega
              case s2 => have := SZ.out; have := HV1.out; have := KP2.out.size; simp; omega
              intro v3 w3 ho3 hg3
              obtain ⟨hg3, _⟩ := hg3
              obtain ⟨A3, c3, rfl, _⟩ := own_slice ho3
              have HO3 := Lib.hid ho3; have HG3 := Lib.hid hg3
              clear ho3 hg3
              refine hK.out _ _ ?_ (fun hHeld => ?_)
              · exact ⟨(HG3.out.block (w.heap.size + 1) (by have := SZ.out; have := HV1.out; have := KP2.out.size; simp; omega) (fun e => by have := (OWN.out.lt _ e.symm).1; omega)).trans hHeld.1, (HG3.out.block wr.heap.size (by have := HV1.out; have := KP2.out.size; simp; omega) (fun e => by have := (OW.out.lt _ e.symm).2; omega)).trans hHeld.2⟩
              clear hK K
              try simp only [Act.put, List.getElem_toArray, List.getElem_cons_succ, List.getElem_cons_zero, List.setIfInBounds_toArray, List.set_cons_zero, List.set_cons_succ]
              have k7 := cell_at (i := 7) hHeld.1 rfl
              have f7 := thawed_at (i := 7) hHeld.1
              have RB3 := Lib.hid hHeld.1
              refine wpAnyZ_take (i := 11) (v := ?_) rfl (by kernel_rfl) (by kernel_rfl) (by kernel_rfl) (by kernel_rfl) (fun _ _ _ h => h) (Or.inl ⟨by rfl, ?_⟩) (by assumption) ?_
              rotate_left
              · (intro wx hSw; (try dsimp only at hSw); go_simp; try with_reducible rfl)
              try simp only [Act.put, List.getElem_toArray, List.getElem_cons_succ, List.getElem_cons_zero, List.setIfInBounds_toArray, List.set_cons_zero, List.set_cons_succ]
              refine wpAnyZ_last (by kernel_rfl) rfl (fun K hK => ?_)
              go_simp
              refine hK.out _ _ ?_
              clear hK K
              try simp only [Act.put, List.getElem_toArray, List.getElem_cons_succ, List.getElem_cons_zero, List.setIfInBounds_toArray, List.set_cons_zero, List.set_cons_succ]
              refine wpAnyZ_done (by kernel_rfl) ?_ _
              have kA : Kept (fun k => w.heap.size + 1 ≤ k) v2 (w3.setCell ⟨w.heap.size + 1, 7, none⟩ (.slice A3 (l.length + 1) c3)) := ((Kept.alloc (fun k => w.heap.size + 1 ≤ k) v2 _).trans (Kept.of_grown (F := fun k => w.heap.size + 1 ≤ k) HG3.out (fun k hk => by have := (OWN.out.lt k hk).1; omega)) (fun k hk => Or.inl hk)).trans (Kept.setCell (fun k => w.heap.size + 1 ≤ k) w3 ⟨w.heap.size + 1, 7, none⟩ _ (Nat.le_refl _)) fun k hk => Or.inl hk
              have kB : Kept (fun k => k = q ∨ w.heap.size + 1 ≤ k) wr _ := ((Kept.of_below HB1.out (fun k => k = q ∨ w.heap.size + 1 ≤ k)).trans KP2.out (fun k hk => Or.inl (Or.inl hk))).trans kA (fun k hk => Or.inl (Or.inr hk))
              have hm7 := block_setCell (i := 7) RB3.out (.slice A3 (l.length + 1) c3)
              simp only [List.setIfInBounds_toArray, List.set_cons_zero, List.set_cons_succ] at hm7
              have hl9 : LQ _ q B := LQ2.out.kept kA (fun k hk => by omega) hBq
              have hz9 := (kB.block w.heap.size (by have := SZ.out; omega) (by omega)).trans ZZ.out
              have hk9 : Kept (fun k => k = q) w _ := KP.out.trans kB fun k hk => by omega
              have ho9 := own_kept HO3.out (w' := w3.setCell ⟨w.heap.size + 1, 7, none⟩ (.slice A3 (l.length + 1) c3)) fun g hg => Below.heap_setCell _ _ _ _ (by have := (HO3.out.lt g hg).1; show g ≠ w.heap.size + 1; omega)
              have hs9 := kB.size
              generalize w3.setCell ⟨w.heap.size + 1, 7, none⟩ (.slice A3 (l.length + 1) c3) = w9 at *
              have HM7 := Lib.hid hm7; have HL9 := Lib.hid hl9; have HZ9 := Lib.hid hz9; have HK9 := Lib.hid hk9; have HO9 := Lib.hid ho9
              clear kA kB hm7 hl9 hz9 hk9 ho9 k7 f7 hHeld
              go_wp2
              go_roundw
              case rel => exact ⟨3 + 1, 3 + 1, l ++ [(nm 3, ⟨s, d, ca, cb⟩)], A3, c3, by omega, rfl, rfl, CT.out.snoc (nm_facts 3 (by omega)).1 (nm_facts 3 (by omega)).2 HOK.out, by rw [List.length_append]; exact HM7.out, by rw [List.length_append]; exact HO9.out, HL9.out, HK9.out, by have := SZ.out; omega, HZ9.out⟩
              case measure => simp [intOf]
            · go_wp2
              go_roundw
              case rel => exact ⟨4, 4, l, A, c, by omega, rfl, rfl, CT.out.next (nm_facts 3 (by omega)).1, RBl.out, OW.out, LQ_.out, KP.out, SZ.out, ZZ.out⟩
              case measure => simp [intOf]
end Go.Proofs.Ytbfkbfbcaileoaa
set_option linter.unusedVariables false
namespace Go.Proofs.Ytbfkbfbcaileoaa
open Go Go.RowKit

def intE (v : Int) : List UInt8 := be (v + 9223372036854775808).toNat 8
theorem cv_asE {w : World} {B n : Nat} {A : Option Addr} {l : List UInt8} (h : Rd w B A n l) (c : Nat) (q : ByteArray) (hq : q.data.toList = l) :
    (convert 33 9 (.slice A n c)).run Try.prog w = .ok (.string q) w := by
  rw [cv_string h c, mk_eq l q hq]
theorem shr_byteE (v m : Nat) : (v : Int) / 2 ^ (8 * m) % 256 = ((UInt8.ofNat (v / 256 ^ m)).toNat : Nat) := by
  have e : (2 : Int) ^ (8 * m) = ((256 ^ m : Nat) : Int) := by rw [Int.pow_mul]; simp
  rw [e, UInt8.toNat_ofNat']
  simp

theorem xor63E (a : Nat) (h : a < 18446744073709551616) : a ^^^ 9223372036854775808 = (a + 9223372036854775808) % 18446744073709551616 := by
  have small : ∀ b : Nat, b < 2 ^ 63 → b ^^^ 2 ^ 63 = 2 ^ 63 + b := by
    intro b hb
    apply Nat.eq_of_testBit_eq
    intro i
    rw [Nat.testBit_xor, Nat.testBit_two_pow]
    rcases Nat.lt_trichotomy i 63 with hi | hi | hi
    · rw [Nat.testBit_two_pow_add_gt hi, decide_eq_false (by omega), Bool.xor_false]
    · subst hi
      rw [Nat.testBit_two_pow_add_eq]
      simp
    · rw [Nat.testBit_lt_two_pow (Nat.lt_of_lt_of_le hb (Nat.pow_le_pow_right (by omega) (by omega))), Nat.testBit_lt_two_pow (x := 2 ^ 63 + b) (Nat.lt_of_lt_of_le (show 2 ^ 63 + b < 2 ^ 64 by omega) (Nat.pow_le_pow_right (by omega) (by omega))), decide_eq_false (by omega)]
      rfl
  rw [show (9223372036854775808 : Nat) = 2 ^ 63 from rfl]
  by_cases hs : a < 2 ^ 63
  · rw [small a hs]; omega
  · obtain ⟨b, rfl⟩ : ∃ b, a = 2 ^ 63 + b := ⟨a - 2 ^ 63, by omega⟩
    rw [← small b (by omega), Nat.xor_assoc, Nat.xor_self, Nat.xor_zero, small b (by omega)]
    omega

set_option maxRecDepth 8000 in
set_option maxHeartbeats 2000000 in
theorem rint_anyE (v : Int) (w : World) (h1 : -9223372036854775808 ≤ v) (h2 : v ≤ 9223372036854775807) :
    Calls Try.prog 66 #[.int .i64 v] w (GivesS w (intE v)) := by
  obtain ⟨u, hu⟩ : ∃ u : Nat, (v + 9223372036854775808).toNat = u := ⟨_, rfl⟩
  have hul : u < 18446744073709551616 := by omega
  have e : bits BinOp.xor IntKind.u64 (IntKind.u64.wrap v) 9223372036854775808 = (u : Int) := by
    rw [IntKind.wrap_u64]
    have h3 : v % 18446744073709551616 = (((v % 18446744073709551616).toNat : Nat) : Int) := by omega
    rw [h3, show (9223372036854775808 : Int) = ((9223372036854775808 : Nat) : Int) from rfl, bits_xor_u64_nat _ _ (by omega) (by omega), xor63E _ (by omega)]
    omega
  have HE := Lib.hid e
  have HU := Lib.hid hu
  clear e hu
  go_enter Try.func66, Try.ntmps66
  go_wp2
  rw [HE.out]
  go_loopw [4, 5] (fun t i wr => ∃ (k : Nat) (q : ByteArray), i = .int .i64 k ∧ k ≤ 8 ∧ t = .string q ∧ q.data.toList = be u k ∧ q.size = k ∧ Below w.heap.size w wr) (fun _ i _ => 8 - (intOf i).toNat)
  case atStart => exact ⟨0, ⟨#[]⟩, rfl, Nat.zero_le _, rfl, rfl, rfl, Below.refl _ _⟩
  case round =>
    obtain ⟨k, q, rfl, hk, rfl, hq, hqs, hb⟩ := hrel
    have hz := hb.size
    by_cases hlt : k < 8
    · have hcv := cv_asE (Rd.one wr ((u : Int) / 2 ^ (8 * k) % 256) (UInt8.ofNat (u / 256 ^ k)) (shr_byteE u k)) 1 ⟨#[UInt8.ofNat (u / 256 ^ k)]⟩ rfl
      obtain ⟨q2, hq2e⟩ : ∃ x : ByteArray, (⟨#[UInt8.ofNat (u / 256 ^ k)]⟩ : ByteArray) ++ q = x := ⟨_, rfl⟩
      have hadd : ∀ wx : World, (Op.stringOp .add ⟨#[UInt8.ofNat (u / 256 ^ k)]⟩ q).run Try.prog wx = .ok (.string q2) wx := by
        intro wx; rw [run_string_add_sum wx _ q (by rw [show (⟨#[UInt8.ofNat (u / 256 ^ k)]⟩ : ByteArray).size = 1 from rfl]; omega), hq2e]
      have hq2 : q2.data.toList = be u (k + 1) := by rw [← hq2e, be, ← hq]; simp
      have hq2s : q2.size = k + 1 := by rw [← hq2e, ByteArray.size_append, hqs]; exact Nat.add_comm _ _
      have HQ := Lib.hid hq2
      have HS := Lib.hid hq2s
      clear hq hqs hq2e hq2 hq2s
      go_wp2
      go_roundw
      case rel => exact ⟨k + 1, q2, by go_num, by omega, rfl, HQ.out, HS.out, hb.alloc hz _⟩
      case measure => simp [intOf]; omega
    · obtain rfl : k = 8 := by omega
      have HQ := Lib.hid hq
      clear hq hqs
      go_wp2
      go_ret
      exact ⟨q, rfl, by rw [HQ.out, intE, HU.out], hb⟩

/-- The keys of the rows of numbers: whole numbers, encoded. -/
def dg (i : Nat) : ByteArray := ⟨(intE (i : Int)).toArray⟩
theorem dg_facts : (∀ i, i < 4 → (dg i).size = 8) ∧ ∀ i, i < 4 → ∀ j, j < i → (dg j).data.toList < (dg i).data.toList := by decide
end Go.Proofs.Ytbfkbfbcaileoaa
set_option linter.unusedVariables false
set_option linter.unusedSimpArgs false
namespace Go.Proofs.Ytbfkbfbcaileoaa
open Go Go.RowKit

theorem riseK_of_rise : ∀ {l : Cols}, Rise l → RiseK Prod.fst l
  | [], _ => trivial
  | (m, c) :: l, h => ⟨h.1, riseK_of_rise h.2⟩
/-- Columns of the four names. -/
structure ColsIn (l : Cols) : Prop where
  rise : Rise l
  all : ∀ x ∈ l, colB x = true ∧ x.1.size ≤ 1 ∧ x.2.s.size ≤ 1 ∧ x.1 ∈ [nm 0, nm 1, nm 2, nm 3]
theorem ColsTo.in4 {l : Cols} (h : ColsTo 4 l) : ColsIn l := ⟨h.rise, fun x hx => by
  obtain ⟨h1, h2, h3, _⟩ := h.all x hx
  obtain ⟨i, hi, e⟩ := h.nms x hx
  refine ⟨h1, h2, h3, ?_⟩
  rw [e]
  have : i = 0 ∨ i = 1 ∨ i = 2 ∨ i = 3 := by omega
  rcases this with rfl | rfl | rfl | rfl <;> simp⟩
theorem ColsIn.nil : ColsIn [] := ⟨trivial, fun x hx => by cases hx⟩
theorem ColsIn.len {l : Cols} (h : ColsIn l) : l.length ≤ 4 := riseK_few (riseK_of_rise h.rise) fun x hx => (h.all x hx).2.2.2
theorem ColsIn.mrg {l k : Cols} (hl : ColsIn l) (hk : ColsIn k) : ColsIn (mrg l k) :=
  ⟨mrg_rise hl.rise, mrg_all (p := fun x => colB x = true ∧ x.1.size ≤ 1 ∧ x.2.s.size ≤ 1 ∧ x.1 ∈ [nm 0, nm 1, nm 2, nm 3]) (fun n c d hc hd => by
    rcases join_or d c with e | e <;> rw [e] <;> assumption) hl.all hk.all⟩
theorem stm_max {x y : Int} (hx : stm x = true) (hy : stm y = true) : stm (max x y) = true := by
  rcases Int.le_total x y with h | h
  · rwa [Int.max_eq_right h]
  · rwa [Int.max_eq_left h]
theorem colsB_mrg {l k : Cols} (hl : colsB l = true) (hk : colsB k = true) : colsB (mrg l k) = true := by
  refine colsB_of (mrg_rise (colsB_rise hl)) (mrg_all (p := fun x => colB x = true) (fun n c d hc hd => ?_) (fun x hx => ?_) fun x hx => ?_)
  · rcases join_or d c with e | e <;> rw [e] <;> assumption
  · obtain ⟨j, hj, rfl⟩ := List.mem_iff_getElem.1 hx
    exact colsB_each hl hj
  · obtain ⟨j, hj, rfl⟩ := List.mem_iff_getElem.1 hx
    exact colsB_each hk hj
/-- Two that may be, joined, may be, where there is room for the columns. -/
theorem ok_join {R R' : Ro} (h : R.ok = true) (h' : R'.ok = true) (hl : (R.join R').cols.length ≤ 8) : (R.join R').ok = true := by
  unfold Ro.ok at h h' ⊢
  simp only [Bool.and_eq_true, decide_eq_true_iff] at h h' ⊢
  obtain ⟨k1, k2, k3, k4, k5, k6⟩ := h
  obtain ⟨k1', k2', k3', k4', k5', k6'⟩ := h'
  refine ⟨k1, ?_, stm_max k3 k3', stm_max k4 k4', hl, colsB_mrg k6 k6'⟩
  show liveB (R.live.join R'.live) = true
  rcases join_or R.live R'.live with e | e <;> rw [e] <;> assumption
/-- A row by numbers, or joins of such. -/
structure RowIn (r : Ro) : Prop where
  ok : r.ok = true
  cols : ColsIn r.cols
theorem RowIn.join {a b : Ro} (ha : RowIn a) (hb : RowIn b) : RowIn (a.join b) := by
  have hc := ha.cols.mrg hb.cols
  exact ⟨ok_join ha.ok hb.ok (Nat.le_trans hc.len (by omega)), hc⟩
theorem RowIn.up {a : Ro} (h : RowIn a) : a.Up := up_of_ok h.ok
/-- A partition by numbers, or joins of such. -/
structure PartIn (p : Pa) : Prop where
  key : p.key.size ≤ 100
  gone : stm p.gone = true
  rise : RiseR p.rows
  rows : ∀ r ∈ p.rows, RowIn r ∧ r.key ∈ [dg 0, dg 1, dg 2, dg 3]
theorem PartIn.up {p : Pa} (h : PartIn p) : p.Up := ⟨h.rise, fun r hr => (h.rows r hr).1.up⟩
theorem PartIn.len {p : Pa} (h : PartIn p) : p.rows.length ≤ 4 := riseK_few h.rise fun r hr => (h.rows r hr).2
theorem PartIn.join {a b : Pa} (ha : PartIn a) (hb : PartIn b) : PartIn (a.join b) :=
  ⟨ha.key, stm_max ha.gone hb.gone, mrgK_rise JR.key_ ha.rise, mrgK_all (p := fun r => RowIn r ∧ r.key ∈ [dg 0, dg 1, dg 2, dg 3]) (fun x y e hx hy => ⟨hx.1.join hy.1, hx.2⟩) ha.rows hb.rows⟩
theorem PartIn.ok {p : Pa} (h : PartIn p) : p.ok = true := by
  unfold Pa.ok
  rw [decide_eq_true h.key, h.gone, decide_eq_true (show p.rows.length ≤ 100 from Nat.le_trans h.len (by omega)), rowsB_of h.rise fun r hr => (h.rows r hr).1.ok]
  rfl
end Go.Proofs.Ytbfkbfbcaileoaa
set_option linter.unusedVariables false
set_option linter.unusedSimpArgs false
namespace Go.Proofs.Ytbfkbfbcaileoaa
open Go Go.RowKit Go.Joins

theorem stm_ofP {n : Int} (h0 : 0 ≤ n) (h1 : n ≤ 1099511627776) : stm n = true := by unfold stm; rw [decide_eq_true h0, decide_eq_true h1]; rfl
/-- The row that was made by numbers may be. -/
theorem rowIn_gen {key : ByteArray} (hk : key.size ≤ 400) {a e g : Int} (h : 0 ≤ a ∧ a ≤ 8 ∧ 0 ≤ e ∧ e ≤ 11 ∧ 0 ≤ g ∧ g ≤ 8 ∧ (a = 0 → e = 0)) {l : Cols} (hc : ColsTo 4 l) : RowIn ⟨key, ⟨⟨#[]⟩, false, a, e⟩, g, 0, l⟩ := by
  obtain ⟨h0, h1, h2, h3, h4, h5, h6⟩ := h
  refine ⟨?_, hc.in4⟩
  have hok : Ce.ok ⟨⟨#[]⟩, false, a, e⟩ = true := by
    unfold Ce.ok
    simp only
    by_cases h7 : a = 0
    · rw [if_pos h7]
      have h8 := h6 h7
      subst h7; subst h8
      unfold Ce.same
      simp
    · rw [if_neg h7, stm_ofP h0 (by omega), if_neg (by decide), if_neg (by decide), stm_ofP h2 (by omega)]
      rfl
  have hlive : liveB ⟨⟨#[]⟩, false, a, e⟩ = true := by
    unfold liveB
    rw [hok, Lib.toList_data]
    rfl
  unfold Ro.ok
  simp only
  rw [hlive, stm_ofP h4 (by omega), stm_ofP (Int.le_refl 0) (by omega), hc.ok, decide_eq_true hk, decide_eq_true (show l.length ≤ 8 by have := hc.len; omega)]
  rfl
/-- Each of the rows has columns of its own. -/
def OwnR (w : World) (b : Nat) (L : List RA) : Prop := ∀ x ∈ L, w.ownsRow b 90 5 (.slice x.A x.ro.cols.length x.c) x.ro.cols.length (kRow x.ro.cols)
theorem OwnR.kept {w w' : World} {b : Nat} {L : List RA} (h : OwnR w b L) (hk : ∀ x ∈ L, ∀ g, (Value.slice x.A x.ro.cols.length x.c).ownBlock = some g → w'.heap[g]? = w.heap[g]?) : OwnR w' b L := fun x hx => own_kept (h x hx) (hk x hx)
theorem OwnR.below {w w' : World} {b : Nat} {L : List RA} (h : OwnR w b L) (hb : Below w.heap.size w w') : OwnR w' b L := fun x hx => own_below (h x hx) hb
/-- What rows own and what columns own lies apart. -/
theorem own_apartRC {w : World} {b b' n m s s' : Nat} {v v' : Value} {xs ys : List Value} (h : w.ownsRow b 61 s v n xs) (h' : w.ownsRow b' 90 s' v' m ys) : ∀ g, v'.ownBlock = some g → v.ownBlock ≠ some g := fun g hg e => by
  obtain ⟨cs, h1⟩ := own_tag h g e
  obtain ⟨cs', h2⟩ := own_tag h' g hg
  rw [h1] at h2
  injection h2 with h2
  injection h2 with _ h3 _
  exact absurd h3 (by decide)
/-- Rows whose keys are those of the numbers below t. -/
structure RowsTo (t : Nat) (L : List RA) : Prop where
  rise : RiseR (L.map RA.ro)
  all : ∀ x ∈ L, RowIn x.ro ∧ ∃ i, i < t ∧ x.ro.key = dg i
  len : L.length ≤ t
theorem RowsTo.nil (t : Nat) : RowsTo t [] := ⟨trivial, fun x hx => (by cases hx), Nat.zero_le _⟩
theorem RowsTo.next {t : Nat} {L : List RA} (h : RowsTo t L) : RowsTo (t + 1) L := ⟨h.rise, fun x hx => by
  obtain ⟨h1, i, hi, e⟩ := h.all x hx
  exact ⟨h1, i, by omega, e⟩, Nat.le_succ_of_le h.len⟩
theorem RowsTo.snoc {t : Nat} {L : List RA} (h : RowsTo t L) (ht : t < 4) {x : RA} (hx : RowIn x.ro) (hk : x.ro.key = dg t) : RowsTo (t + 1) (L ++ [x]) := by
  refine ⟨?_, fun y hy => ?_, by have := h.len; simp; omega⟩
  · rw [List.map_append]
    refine riseK_snoc h.rise fun y hy => ?_
    obtain ⟨z, hz, rfl⟩ := List.mem_map.1 hy
    obtain ⟨_, i, hi, e⟩ := h.all z hz
    rw [e, hk]
    exact dg_facts.2 t ht i hi
  · rcases List.mem_append.1 hy with h1 | h1
    · exact h.next.all y h1
    · rw [List.mem_singleton.1 h1]
      exact ⟨hx, t, by omega, hk⟩
theorem RowsTo.part {L : List RA} (h : RowsTo 4 L) {k : ByteArray} {g : Int} (hk : k.size ≤ 100) (hg : 0 ≤ g ∧ g ≤ 8) : PartIn ⟨k, g, L.map RA.ro⟩ :=
  ⟨hk, stm_ofP hg.1 (Int.le_trans hg.2 (by omega)), h.rise, fun r hr => by
    obtain ⟨x, hx, rfl⟩ := List.mem_map.1 hr
    obtain ⟨h1, i, hi, e⟩ := h.all x hx
    refine ⟨h1, ?_⟩
    rw [e]
    have : i = 0 ∨ i = 1 ∨ i = 2 ∨ i = 3 := by omega
    rcases this with rfl | rfl | rfl | rfl <;> simp⟩
/-- The partition under way, at block r. -/
def PB (w : World) (r : Nat) (k : ByteArray) (g : Int) (A : Option Addr) (n c : Nat) : Prop := w.heap[r]? = some (.cells #[.string k, .int .i64 g, .slice A n c] 24 (0, 0))
theorem PB.cells {w : World} {r : Nat} {k : ByteArray} {g : Int} {A : Option Addr} {n c : Nat} (h : PB w r k g A n c) : w.cell? ⟨r, 0, none⟩ = some (.string k) ∧ w.cell? ⟨r, 1, none⟩ = some (.int .i64 g) ∧ w.cell? ⟨r, 2, none⟩ = some (.slice A n c) :=
  ⟨cell_at (i := 0) h rfl, cell_at (i := 1) h rfl, cell_at (i := 2) h rfl⟩
set_option maxRecDepth 8000 in
set_option maxHeartbeats 4000000 in
theorem part_gen (q B : Nat) (key : ByteArray) (w : World) (h : LQ w q B) (hBq : B ≤ q) :
    Calls Try.prog 35 #[.pointer (some ⟨q, 0, none⟩), .string key] w fun x w' => ∃ (g : Int) (L : List RA) (A : Option Addr) (c : Nat), x = .returned (.agg #[.string key, .int .i64 g, .slice A L.length c]) ∧ (0 ≤ g ∧ g ≤ 8) ∧ RowsTo 4 L ∧ w'.ownsRow w.heap.size 61 8 (.slice A L.length c) L.length (rRow L) ∧ OwnR w' w.heap.size L ∧ LQ w' q B ∧ Kept (fun k => k = q) w w' := by
  have hq := h.lt
  have hz0 := heap_alloc_new w (.cells #[.string ⟨#[]⟩, .int .i64 0, .slice none 0 0] 24)
  have hz1 := heap_alloc_new (w.alloc (.cells #[.string ⟨#[]⟩, .int .i64 0, .slice none 0 0] 24)) (.cells #[.string key, .int .i64 0, .slice none 0 0] 24)
  simp only [World.size_alloc] at hz1
  have hz0' := at_new hz0 (.cells #[.string key, .int .i64 0, .slice none 0 0] 24)
  have bz := ((Below.refl w.heap.size w).alloc (Nat.le_refl _) (.cells #[.string ⟨#[]⟩, .int .i64 0, .slice none 0 0] 24)).alloc (by simp) (.cells #[.string key, .int .i64 0, .slice none 0 0] 24)
  obtain ⟨U, hU⟩ : ∃ U, U = (w.alloc (.cells #[.string ⟨#[]⟩, .int .i64 0, .slice none 0 0] 24)).alloc (.cells #[.string key, .int .i64 0, .slice none 0 0] 24) := ⟨_, rfl⟩
  have hUs : U.heap.size = w.heap.size + 2 := by rw [hU]; simp
  rw [← hU] at hz0' hz1 bz
  have HL := Lib.hid (h.below bz (by omega)); have HZ0 := Lib.hid hz0'; have HZ1 := Lib.hid hz1; have BZ := Lib.hid bz; have HUS := Lib.hid hUs
  clear hz0 hz0' hz1 bz hUs h
  go_enter Try.func35, Try.ntmps35
  go_wp2_with fail
  rw [← hU]
  clear hU
  refine (next_gen q B 1048576 _ HL.out hBq (by omega) (by omega)).mono ?_
  rintro x w1 ⟨v, rfl, v0, v1, hl1, hk1⟩
  have hs1 := hk1.size
  have R1 : Hid (PB w1 (w.heap.size + 1) key 0 none 0 0) := Lib.hid ((hk1.block (w.heap.size + 1) (by have := HUS.out; omega) (by omega)).trans HZ1.out)
  have Z1 := Lib.hid ((hk1.block w.heap.size (by have := HUS.out; omega) (by omega)).trans HZ0.out)
  have K1 : Hid (Kept (fun k => k = q) w w1) := Lib.hid ((Kept.of_below BZ.out _).trans hk1 fun k hk => Or.inl hk)
  have L1 := Lib.hid hl1
  have V0 := Lib.hid v0; have V1 := Lib.hid v1
  have HS1 := Lib.hid hs1
  have y0 : 0 ≤ v.tdiv 5 := by rw [Int.tdiv_eq_ediv_of_nonneg v0]; exact Int.ediv_nonneg v0 (by omega)
  have y1 : v.tdiv 5 < 1048576 := by rw [Int.tdiv_eq_ediv_of_nonneg v0]; exact Int.lt_of_le_of_lt (Int.ediv_le_self _ v0) v1
  obtain ⟨y, hy⟩ : ∃ p, v.tdiv 5 = p := ⟨_, rfl⟩
  rw [hy] at y0 y1
  have b0 : 0 ≤ y.tmod 8 := by rw [Int.tmod_eq_emod_of_nonneg y0]; exact Int.emod_nonneg _ (by omega)
  have b1 : y.tmod 8 < 8 := by rw [Int.tmod_eq_emod_of_nonneg y0]; exact Int.emod_lt_of_pos _ (by omega)
  obtain ⟨b, hb⟩ : ∃ b, y.tmod 8 = b := ⟨_, rfl⟩
  rw [hb] at b0 b1
  have wy : wrap64 y = y := by unfold wrap64; omega
  obtain ⟨i, hi⟩ : ∃ i, v.tmod 5 = i := ⟨_, rfl⟩
  clear hl1 hk1 hs1 v0 v1
  go_upto_if 14 with fail
  go_cut [] from 15 to 18 (fun wx => ∃ g : Int, (0 ≤ g ∧ g ≤ 8) ∧ PB wx (w.heap.size + 1) key g none 0 0 ∧ Kept (fun k => k = w.heap.size + 1) w1 wx)
  case first =>
    by_cases h4 : i = 0
    · have hi2 : (i == 0) = true := by rw [beq_iff_eq]; exact h4
      clear h4
      have m0 := block_setCell (i := 1) R1.out (.int .i64 b)
      have M0 := Lib.hid m0
      have k0 := cell_at (i := 1) R1.out rfl
      have f0 := thawed_at (i := 1) R1.out
      clear m0
      go_wp2_with fail
      go_meet
      exact ⟨b, by omega, M0.out, Kept.setCell (fun k => k = w.heap.size + 1) w1 ⟨w.heap.size + 1, 1, none⟩ _ rfl⟩
    · have hi2 : (i == 0) = false := by rw [beq_eq_false_iff_ne]; exact h4
      clear h4
      go_wp2_with fail
      go_meet
      exact ⟨0, by omega, R1.out, Kept.refl _ _⟩
  case rest =>
    obtain ⟨g, hg, hr3, hk3⟩ := hcut
    generalize wc = w3 at hr3 hk3 ⊢
    clear hb b0 b1 wy hy y0 y1 hi
    have hs3 := hk3.size
    have hl3 : LQ w3 q B := L1.out.kept hk3 (fun k hk => by omega) hBq
    have hz3 := (hk3.block w.heap.size (by have := HUS.out; have := HS1.out; omega) (by omega)).trans Z1.out
    have hk3' : Kept (fun k => k = q) w w3 := K1.out.trans hk3 fun k hk => Or.inr (by omega)
    have HS3 := Lib.hid (show w.heap.size + 2 ≤ w3.heap.size by have := HUS.out; have := HS1.out; omega)
    have HG := Lib.hid hg; have R3 := Lib.hid hr3; have L3 := Lib.hid hl3; have Z3 := Lib.hid hz3; have K3 := Lib.hid hk3'
    clear hg hr3 hk3 hs3 hl3 hz3 hk3' K1 L1 Z1 R1 HS1 HUS BZ HZ0 HZ1
    go_wp2_with fail
    go_loopw [7] (fun i wr => ∃ (t : Nat) (ti : Int) (L : List RA) (A : Option Addr) (c : Nat), t ≤ 4 ∧ i = .int .i64 ti ∧ ti = (t : Int) ∧ RowsTo t L ∧ PB wr (w.heap.size + 1) key g A L.length c ∧ wr.ownsRow (w.heap.size + 2) 61 8 (.slice A L.length c) L.length (rRow L) ∧ OwnR wr (w.heap.size + 2) L ∧ LQ wr q B ∧ Kept (fun k => k = q) w wr ∧ w.heap.size + 2 ≤ wr.heap.size ∧ wr.heap[w.heap.size]? = some (.cells #[.string ⟨#[]⟩, .int .i64 0, .slice none 0 0] 24 (0, 0))) (fun i _ => 4 - (intOf i).toNat)
    case atStart => exact ⟨0, 0, [], none, 0, by omega, rfl, rfl, RowsTo.nil 0, R3.out, own_nilR _ _, (fun x hx => by cases hx), L3.out, K3.out, HS3.out, Z3.out⟩
    case round =>
      obtain ⟨t, ti, L, A, c, ht, rfl, hti, hct, hrb, how, hor, hlq, hkp, hsz, hz⟩ := hrel
      have CT := Lib.hid hct; have RBl := Lib.hid hrb; have OW := Lib.hid how; have OR := Lib.hid hor; have LQ_ := Lib.hid hlq; have KP := Lib.hid hkp; have ZZ := Lib.hid hz; have SZ := Lib.hid hsz
      clear hct hrb how hor hlq hkp hz hsz
      by_cases h4 : t = 4
      · subst h4
        obtain rfl : ti = 4 := hti
        obtain ⟨p0, p1, p2⟩ := PB.cells RBl.out
        have m0 := block_setCell (i := 0) ZZ.out (.string key)
        simp only [List.setIfInBounds_toArray, List.set_cons_zero, List.set_cons_succ] at m0
        have kc0 := cell_at (i := 0) ZZ.out rfl
        have f0 := thawed_at (i := 0) ZZ.out
        have m1 := block_setCell (i := 1) m0 (.int .i64 g)
        simp only [List.setIfInBounds_toArray, List.set_cons_zero, List.set_cons_succ] at m1
        have kc1 := cell_at (i := 1) m0 rfl
        have f1 := thawed_at (i := 1) m0
        have m2 := block_setCell (i := 2) m1 (.slice A L.length c)
        simp only [List.setIfInBounds_toArray, List.set_cons_zero, List.set_cons_succ] at m2
        have kc2 := cell_at (i := 2) m1 rfl
        have f2 := thawed_at (i := 2) m1
        have M2 := Lib.hid m2
        have KF : Hid (Kept (fun k => k = w.heap.size) wr (((wr.setCell ⟨w.heap.size, 0, none⟩ (.string key)).setCell ⟨w.heap.size, 1, none⟩ (.int .i64 g)).setCell ⟨w.heap.size, 2, none⟩ (.slice A L.length c))) := Lib.hid ((((Kept.refl (fun k => k = w.heap.size) wr).trans (Kept.setCell (fun k => k = w.heap.size) _ ⟨w.heap.size, 0, none⟩ (.string key) rfl) fun _ h => Or.inl h).trans (Kept.setCell (fun k => k = w.heap.size) _ ⟨w.heap.size, 1, none⟩ (.int .i64 g) rfl) fun _ h => Or.inl h).trans (Kept.setCell (fun k => k = w.heap.size) _ ⟨w.heap.size, 2, none⟩ (.slice A L.length c) rfl) fun _ h => Or.inl h)
        clear m0 m1 m2
        go_wp2
        generalize hw9 : (((wr.setCell ⟨w.heap.size, 0, none⟩ (.string key)).setCell ⟨w.heap.size, 1, none⟩ (.int .i64 g)).setCell ⟨w.heap.size, 2, none⟩ (.slice A L.length c)) = w9 at KF M2 ⊢
        clear hw9 kc0 kc1 kc2 f0 f1 f2
        have z0 := cell_at (i := 0) M2.out rfl
        have z1 := cell_at (i := 1) M2.out rfl
        have z2 := cell_at (i := 2) M2.out rfl
        have hown : w9.ownsRow w.heap.size 61 8 (.slice A L.length c) L.length (rRow L) := own_lower (own_kept OW.out fun k hk => KF.out.block k (own_block_lt OW.out k hk) (by have := (OW.out.lt k hk).1; omega)) (by omega)
        have hor9 : OwnR w9 w.heap.size L := fun x hx => own_lower (own_kept (OR.out x hx) fun k hk => KF.out.block k (own_block_lt (OR.out x hx) k hk) (by have := ((OR.out x hx).lt k hk).1; omega)) (by omega)
        have hlq9 := LQ_.out.kept KF.out (fun k hk => by omega) hBq
        have hkp9 : Kept (fun k => k = q) w w9 := KP.out.trans KF.out fun k hk => Or.inr (by omega)
        have hct := CT.out
        have hg9 := HG.out
        exact bodyPost_ret (v := .agg #[.string key, .int .i64 g, .slice A L.length c]) (by simp [results, Try.results35, go_sem, z0, z1, z2]) rfl ⟨g, L, A, c, rfl, hg9, hct, hown, hor9, hlq9, hkp9⟩
      have ht4 : t < 4 := by omega
      have e8 : wrap64 (8 + ti) = 8 + ti := by unfold wrap64; omega
      go_wp2_with fail
      · refine wp_region_z (S := fun w' => PB w' (w.heap.size + 1) key g A L.length c) 9 (by kernel_rfl) ?_ (fun hHeld => ?_)
        · exact RBl.out
        refine wpAnyZ_take (i := 0) (v := ?_) rfl (by kernel_rfl) (by kernel_rfl) (by kernel_rfl) (by kernel_rfl) (fun _ _ _ h => h) (Or.inl ⟨by rfl, ?_⟩) (by assumption) ?_
        rotate_left
        · (intro wx hSw; (try dsimp only at hSw); go_simp; try with_reducible rfl)
        try simp only [Act.put, List.getElem_toArray, List.getElem_cons_succ, List.getElem_cons_zero, List.setIfInBounds_toArray, List.set_cons_zero, List.set_cons_succ]
        refine wpAnyZ_take (i := 1) (v := ?_) rfl (by kernel_rfl) (by kernel_rfl) (by kernel_rfl) (by kernel_rfl) (fun _ _ _ h => h) (Or.inl ⟨by rfl, ?_⟩) (by assumption) ?_
        rotate_left
        · (intro wx hSw; (try dsimp only at hSw); obtain ⟨_, _, _⟩ := PB.cells hSw; go_simp; try with_reducible rfl)
        try simp only [Act.put, List.getElem_toArray, List.getElem_cons_succ, List.getElem_cons_zero, List.setIfInBounds_toArray, List.set_cons_zero, List.set_cons_succ]
        refine wpAnyZ_take (i := 2) (v := ?_) rfl (by kernel_rfl) (by kernel_rfl) (by kernel_rfl) (by kernel_rfl) (fun _ _ _ h => h) (Or.inl ⟨by rfl, ?_⟩) (by assumption) ?_
        rotate_left
        · (intro wx hSw; (try dsimp only at hSw); go_simp; try with_reducible rfl)
        try simp only [Act.put, List.getElem_toArray, List.getElem_cons_succ, List.getElem_cons_zero, List.setIfInBounds_toArray, List.set_cons_zero, List.set_cons_succ]
        refine wpAnyZ_take (i := 3) (v := ?_) rfl (by kernel_rfl) (by kernel_rfl) (by kernel_rfl) (by kernel_rfl) (fun _ _ _ h => h) (Or.inl ⟨by rfl, ?_⟩) (by assumption) ?_
        rotate_left
        · (intro wx hSw; (try dsimp only at hSw); go_simp; try with_reducible rfl)
        try simp only [Act.put, List.getElem_toArray, List.getElem_cons_succ, List.getElem_cons_zero, List.setIfInBounds_toArray, List.set_cons_zero, List.set_cons_succ]
        refine wpAnyZ_one (i := 4) (by kernel_rfl) rfl (fun K hK => ?_)
        go_simp
        refine (rint_anyE _ _ (by omega) (by omega)).mono ?_
        rintro x v1 ⟨s, rfl, hs, hb1⟩
        have es : s = dg t := ba_ext (by rw [hs]; rfl)
        subst es
        replace hb1 : Below wr.heap.size wr v1 := next ((Below.refl wr.heap.size wr).drew) hb1
        have HB1 := Lib.hid hb1; have LQ1 := Lib.hid (LQ_.out.below hb1 (by have := LQ_.out.lt; omega)); have HV1 := Lib.hid hb1.size
        clear hs hb1
        try go_wp2_with fail
        refine hK.out _ _ ?_ (fun hHeld => ?_)
        · exact (HB1.out.block (w.heap.size + 1) (by have := SZ.out; have := (Array.getElem?_eq_some_iff.1 RBl.out).1; omega)).trans RBl.out
        clear hK K
        try simp only [Act.put, List.getElem_toArray, List.getElem_cons_succ, List.getElem_cons_zero, List.setIfInBounds_toArray, List.set_cons_zero, List.set_cons_succ]
        refine wpAnyZ_one (i := 5) (by kernel_rfl) rfl (fun K hK => ?_)
        go_simp
        refine (row_gen q B (dg t) _ LQ1.out hBq).mono ?_
        rintro x v2 ⟨a2, e2, g2, l2, A2, c2, rfl, hae2, hc2, ho2, hlq2, hkp2⟩
        have HAE := Lib.hid hae2; have HC2 := Lib.hid hc2; have HO2 := Lib.hid ho2; have LQ2 := Lib.hid hlq2; have KP2 := Lib.hid hkp2
        clear hae2 hc2 ho2 hlq2 hkp2
        try go_wp2_with fail
        refine hK.out _ _ ?_ (fun hHeld => ?_)
        · exact (KP2.out.block (w.heap.size + 1) (by have := (Array.getElem?_eq_some_iff.1 hHeld).1; omega) (by omega)).trans hHeld
        clear hK K
        try simp only [Act.put, List.getElem_toArray, List.getElem_cons_succ, List.getElem_cons_zero, List.setIfInBounds_toArray, List.set_cons_zero, List.set_cons_succ]
        have hs2 : wr.heap.size ≤ v1.heap.size ∧ v1.heap.size ≤ v2.heap.size := ⟨HV1.out, KP2.out.size⟩
        have HS2 := Lib.hid hs2
        have kC : Kept (fun k => k = q) wr v2 := (Kept.of_below HB1.out _).trans KP2.out fun k hk => Or.inl hk
        have hown2 := own_kept OW.out fun k hk => kC.block k (own_block_lt OW.out k hk) (by have := (OW.out.lt k hk).1; omega)
        have hor2 : OwnR v2 (w.heap.size + 2) L := OR.out.kept fun x hx k hk => kC.block k (own_block_lt (OR.out x hx) k hk) (by have := ((OR.out x hx).lt k hk).1; omega)
        have hb3 := (Below.refl v2.heap.size v2).alloc (Nat.le_refl _) (.cells #[.string (dg t), .string ⟨#[]⟩, .bool false, .int .i64 a2, .int .i64 e2, .int .i64 g2, .int .i64 0, .slice A2 l2.length c2] 61)
        have OWN := Lib.hid (own_below hown2 hb3)
        have OR2 := Lib.hid (hor2.below hb3)
        have HO3' := Lib.hid (own_below HO2.out hb3)
        have RD : Hid (RdR (v2.alloc (.cells #[.string (dg t), .string ⟨#[]⟩, .bool false, .int .i64 a2, .int .i64 e2, .int .i64 g2, .int .i64 0, .slice A2 l2.length c2] 61)) (v2.heap.size + 1) (some ⟨v2.heap.size, 0, none⟩) 1 [⟨⟨dg t, ⟨⟨#[]⟩, false, a2, e2⟩, g2, 0, l2⟩, A2, c2⟩]) := Lib.hid (RdR.one v2 ⟨⟨dg t, ⟨⟨#[]⟩, false, a2, e2⟩, g2, 0, l2⟩, A2, c2⟩ v2.heap.size rfl)
        clear hown2 hor2 hb3 hs2 kC
        refine wpAnyZ_one (i := 6) (by kernel_rfl) rfl (fun K hK => ?_)
        go_simp
        refine hK.out _ _ ?_ (fun hHeld => ?_)
        · exact at_new hHeld _
        clear hK K
        try simp only [Act.put, List.getElem_toArray, List.getElem_cons_succ, List.getElem_cons_zero, List.setIfInBounds_toArray, List.set_cons_zero, List.set_cons_succ]
        refine wpAnyZ_one (i := 7) (by kernel_rfl) rfl (fun K hK => ?_)
        refine step_ex rfl (.tmp 31) (.tmp 36) _ _ rfl (.slice A L.length c) (.slice (some ⟨v2.heap.size, 0, none⟩) 1 1) (by simp [Act.eval]) (by simp [Act.eval]) (run_appR (w.heap.size + 2) OWN.out RD.out ?s1 ?s2) ?_
        case s1 => have := CT.out.len; omega
        case s2 => have := SZ.out; have := HS2.out; simp; omega
        intro v3 w3 ho3 hg3
        obtain ⟨hg3, _⟩ := hg3
        obtain ⟨A3, c3, rfl, _⟩ := own_slice ho3
        have HO3 := Lib.hid ho3; have HG3 := Lib.hid hg3
        clear ho3 hg3
        refine hK.out _ _ ?_ (fun hHeld => ?_)
        · exact (HG3.out.block (w.heap.size + 1) (by have := SZ.out; have := HS2.out; simp; omega) (fun e => by have := (OWN.out.lt _ e.symm).1; omega)).trans hHeld
        clear hK K
        try simp only [Act.put, List.getElem_toArray, List.getElem_cons_succ, List.getElem_cons_zero, List.setIfInBounds_toArray, List.set_cons_zero, List.set_cons_succ]
        have k2 := cell_at (i := 2) hHeld rfl
        have f2 := thawed_at (i := 2) hHeld
        have RB3 := Lib.hid hHeld
        refine wpAnyZ_take (i := 8) (v := ?_) rfl (by kernel_rfl) (by kernel_rfl) (by kernel_rfl) (by kernel_rfl) (fun _ _ _ h => h) (Or.inl ⟨by rfl, ?_⟩) (by assumption) ?_
        rotate_left
        · (intro wx hSw; (try dsimp only at hSw); go_simp; try with_reducible rfl)
        try simp only [Act.put, List.getElem_toArray, List.getElem_cons_succ, List.getElem_cons_zero, List.setIfInBounds_toArray, List.set_cons_zero, List.set_cons_succ]
        refine wpAnyZ_last (by kernel_rfl) rfl (fun K hK => ?_)
        go_simp
        refine hK.out _ _ ?_
        clear hK K
        try simp only [Act.put, List.getElem_toArray, List.getElem_cons_succ, List.getElem_cons_zero, List.setIfInBounds_toArray, List.set_cons_zero, List.set_cons_succ]
        refine wpAnyZ_done (by kernel_rfl) ?_ _
        have kA : Kept (fun k => w.heap.size + 1 ≤ k) v2 (w3.setCell ⟨w.heap.size + 1, 2, none⟩ (.slice A3 (L.length + 1) c3)) := ((Kept.alloc (fun k => w.heap.size + 1 ≤ k) v2 _).trans (Kept.of_grown (F := fun k => w.heap.size + 1 ≤ k) HG3.out (fun k hk => by have := (OWN.out.lt k hk).1; omega)) (fun k hk => Or.inl hk)).trans (Kept.setCell (fun k => w.heap.size + 1 ≤ k) w3 ⟨w.heap.size + 1, 2, none⟩ _ (Nat.le_refl _)) fun k hk => Or.inl hk
        have kB : Kept (fun k => k = q ∨ w.heap.size + 1 ≤ k) wr _ := ((Kept.of_below HB1.out (fun k => k = q ∨ w.heap.size + 1 ≤ k)).trans KP2.out (fun k hk => Or.inl (Or.inl hk))).trans kA (fun k hk => Or.inl (Or.inr hk))
        have hm2 := block_setCell (i := 2) RB3.out (.slice A3 (L.length + 1) c3)
        simp only [List.setIfInBounds_toArray, List.set_cons_zero, List.set_cons_succ] at hm2
        have hl9 : LQ _ q B := LQ2.out.kept kA (fun k hk => by omega) hBq
        have hz9 := (kB.block w.heap.size (by have := SZ.out; omega) (by omega)).trans ZZ.out
        have hk9 : Kept (fun k => k = q) w _ := KP.out.trans kB fun k hk => by omega
        have ho9 := own_kept HO3.out (w' := w3.setCell ⟨w.heap.size + 1, 2, none⟩ (.slice A3 (L.length + 1) c3)) fun g hg => Below.heap_setCell _ _ _ _ (by have := (HO3.out.lt g hg).1; show g ≠ w.heap.size + 1; omega)
        have hgo : ∀ {m : Nat} {vv : Value} {ys : List Value}, ((v2.alloc (.cells #[.string (dg t), .string ⟨#[]⟩, .bool false, .int .i64 a2, .int .i64 e2, .int .i64 g2, .int .i64 0, .slice A2 l2.length c2] 61))).ownsRow (w.heap.size + 2) 90 5 vv m ys → (w3.setCell ⟨w.heap.size + 1, 2, none⟩ (.slice A3 (L.length + 1) c3)).ownsRow (w.heap.size + 2) 90 5 vv m ys := fun {m vv ys} ho =>
          own_kept (own_kept ho fun g hg => HG3.out.block g (own_block_lt ho g hg) fun e => own_apartRC OWN.out ho g hg e.symm) fun g hg => Below.heap_setCell _ _ _ _ (by have := (ho.lt g hg).1; show g ≠ w.heap.size + 1; omega)
        have hor9 : OwnR (w3.setCell ⟨w.heap.size + 1, 2, none⟩ (.slice A3 (L.length + 1) c3)) (w.heap.size + 2) (L ++ [⟨⟨dg t, ⟨⟨#[]⟩, false, a2, e2⟩, g2, 0, l2⟩, A2, c2⟩]) := fun x hx => by
          rcases List.mem_append.1 hx with h1 | h1
          · exact hgo (OR2.out x h1)
          · rw [List.mem_singleton.1 h1]
            exact hgo (own_lower HO3'.out (by have := SZ.out; have := HS2.out; omega))
        have hs9 := kB.size
        generalize w3.setCell ⟨w.heap.size + 1, 2, none⟩ (.slice A3 (L.length + 1) c3) = w9 at *
        have HM2 := Lib.hid hm2; have HL9 := Lib.hid hl9; have HZ9 := Lib.hid hz9; have HK9 := Lib.hid hk9; have HO9 := Lib.hid ho9; have HOR9 := Lib.hid hor9
        clear kA kB hm2 hl9 hz9 hk9 ho9 hor9 hgo k2 f2 hHeld
        go_wp2
        go_roundw
        case rel => exact ⟨t + 1, (t : Int) + 1, L ++ [⟨⟨dg t, ⟨⟨#[]⟩, false, a2, e2⟩, g2, 0, l2⟩, A2, c2⟩], A3, c3, by omega, rfl, by omega, CT.out.snoc ht4 (rowIn_gen (by rw [dg_facts.1 t ht4]; omega) HAE.out HC2.out) rfl, by rw [List.length_append]; exact HM2.out, by rw [List.length_append]; exact HO9.out, HOR9.out, HL9.out, HK9.out, by have := SZ.out; omega, HZ9.out⟩
        case measure => simp [intOf]; omega
      · go_roundw
        case rel => exact ⟨t + 1, (t : Int) + 1, L, A, c, by omega, rfl, by omega, CT.out.next, RBl.out, OW.out, OR.out, LQ_.out, KP.out, SZ.out, ZZ.out⟩
        case measure => simp [intOf]; omega
end Go.Proofs.Ytbfkbfbcaileoaa
