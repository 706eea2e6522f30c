/-
  RowJoins, its arguments one by one.
-/
import Derived.Test.YtnoblhacgmeddaaLwRJoins
import Derived.Test.YtnoblhacgmeddaaOpnR
import Derived.Test.YtnoblhacgmeddaaRows
import Derived.WalkKit
import Derived.ProofKit
import Derived.OpenShut
import Derived.ShutString
import Derived.ChangeOld
import Derived.Below
set_option linter.unusedVariables false
namespace Go.Proofs.Ytnoblhacgmeddaa
open Go Go.RowKit

theorem roIn_of {w : World} {k : ByteArray} {ce : Ce} {g x : Int} {A : Option Addr} {n c : Nat} {l : Cols} (hr : RdK w w.heap.size A n l) (hn : n ≤ c) : RoIn w w.heap.size ⟨k, ce, g, x, l⟩ A c := by
  have e : l.length = n := hr.1
  subst e
  exact ⟨hr, hn⟩
theorem call_rjoinsB (k0 : ByteArray) (ce0 : Ce) (g0 x0 : Int) (A0 : Option Addr) (n0 c0 : Nat) (l0 : Cols) (k1 : ByteArray) (ce1 : Ce) (g1 x1 : Int) (A1 : Option Addr) (n1 c1 : Nat) (l1 : Cols) (k2 : ByteArray) (ce2 : Ce) (g2 x2 : Int) (A2 : Option Addr) (n2 c2 : Nat) (l2 : Cols) (w : World)
    (wr0 : RdK w w.heap.size A0 n0 l0) (wn0 : n0 ≤ c0) (wc0 : c0 ≤ maxLen) (we0 : A0 = none → c0 = 0) (wl0 : ∀ x ∈ l0, ColOk x) (wk0 : k0.size ≤ maxLen) (wv0 : ce0.s.size ≤ maxLen) (wa0 : (Lit.int .i64 ce0.a).wf = true) (wb0 : (Lit.int .i64 ce0.e).wf = true) (wg0 : (Lit.int .i64 g0).wf = true) (wx0 : (Lit.int .i64 x0).wf = true)
    (wr1 : RdK w w.heap.size A1 n1 l1) (wn1 : n1 ≤ c1) (wc1 : c1 ≤ maxLen) (we1 : A1 = none → c1 = 0) (wl1 : ∀ x ∈ l1, ColOk x) (wk1 : k1.size ≤ maxLen) (wv1 : ce1.s.size ≤ maxLen) (wa1 : (Lit.int .i64 ce1.a).wf = true) (wb1 : (Lit.int .i64 ce1.e).wf = true) (wg1 : (Lit.int .i64 g1).wf = true) (wx1 : (Lit.int .i64 x1).wf = true)
    (wr2 : RdK w w.heap.size A2 n2 l2) (wn2 : n2 ≤ c2) (wc2 : c2 ≤ maxLen) (we2 : A2 = none → c2 = 0) (wl2 : ∀ x ∈ l2, ColOk x) (wk2 : k2.size ≤ maxLen) (wv2 : ce2.s.size ≤ maxLen) (wa2 : (Lit.int .i64 ce2.a).wf = true) (wb2 : (Lit.int .i64 ce2.e).wf = true) (wg2 : (Lit.int .i64 g2).wf = true) (wx2 : (Lit.int .i64 x2).wf = true) :
    Calls Try.prog 4 #[.agg #[.string k0, .string ce0.s, .bool ce0.d, .int .i64 ce0.a, .int .i64 ce0.e, .int .i64 g0, .int .i64 x0, .slice A0 n0 c0], .agg #[.string k1, .string ce1.s, .bool ce1.d, .int .i64 ce1.a, .int .i64 ce1.e, .int .i64 g1, .int .i64 x1, .slice A1 n1 c1], .agg #[.string k2, .string ce2.s, .bool ce2.d, .int .i64 ce2.a, .int .i64 ce2.e, .int .i64 g2, .int .i64 x2, .slice A2 n2 c2]] w fun e w' => e = .returned (.bool true) ∧ Below w.heap.size w w' := by
  have e0 : l0.length = n0 := wr0.1
  have e1 : l1.length = n1 := wr1.1
  have e2 : l2.length = n2 := wr2.1
  subst e0; subst e1; subst e2
  exact call_rjoins ⟨k0, ce0, g0, x0, l0⟩ ⟨k1, ce1, g1, x1, l1⟩ ⟨k2, ce2, g2, x2, l2⟩ A0 A1 A2 c0 c1 c2 w (roIn_of wr0 wn0) (roIn_of wr1 wn1) (roIn_of wr2 wn2)
end Go.Proofs.Ytnoblhacgmeddaa
/-
  RowJoins: for every input the law returns true, and each argument reads as it read. No condition.
-/
set_option linter.unusedVariables false
namespace Go.Proofs.Ytnoblhacgmeddaa.lawRowJoins
open Go Go.ChangeShapes Go.WideShapes Go.ChangeAt Go.RowKit
open Go.ChangeMaps (open_string shut_string)

theorem own : ownKnob Try.prog.godebug = none := by kernel_rfl
theorem laidOut : laidOutB Try.prog = true := by kernel_rfl

set_option maxRecDepth 100000 in
theorem lifted (os : Os) (started : os.Started) (H : Type) (enc : TypeId × Value → H) :
    ReturnsInHanded {} Try.checked os 4 .any (Rows.rowJoinsSpec.pre6 enc Try.prog Try.f4 Rows.rowJoinsRow.domain false) (Rows.rowJoinsSpec.post enc Try.prog Try.f4 false true false false) := by
  refine returnsInHanded_of_change (C := Try.checked) own started (by kernel_rfl) Try.func4
    (ChangeSpec.witness6 (enc := enc) (C := Try.checked) false ⟨#[], #[.agg #[.string ⟨#[]⟩, .string ⟨#[]⟩, .bool false, .int .i64 0, .int .i64 0, .int .i64 0, .int .i64 0, .slice none 0 0], .agg #[.string ⟨#[]⟩, .string ⟨#[]⟩, .bool false, .int .i64 0, .int .i64 0, .int .i64 0, .int .i64 0, .slice none 0 0], .agg #[.string ⟨#[]⟩, .string ⟨#[]⟩, .bool false, .int .i64 0, .int .i64 0, .int .i64 0, .int .i64 0, .slice none 0 0]], []⟩ 8 (by kernel_rfl) (by kernel_rfl) (by kernel_rfl) (by kernel_rfl)) ?_
  intro W base args ds gs before hval0 hW hcnd _
  have hval : ∀ (j : Nat) t v, Try.f4.params[j]? = some t → args[j]? = some v → Value.okWide Try.prog W .any base t v := hval0
  have hW' := hW
  obtain ⟨p, q, hA0, hV, rfl, hfz, hnd⟩ := hW
  have hA : DataW.TrodAll enc Try.prog W 0 (fun _ => true) true Try.f4.params.toList args.toList ds p := hA0
  rw [Try.params4] at hA hval
  obtain ⟨v0, vs0, d0, ds0, p0, q0, hargs, rfl, rfl, h0, r0⟩ := trodAll_cons hA
  obtain ⟨v1, vs1, d1, ds1, p1, q1, rfl, rfl, rfl, h1, r1⟩ := trodAll_cons r0
  obtain ⟨v2, vs2, d2, ds2, p2, q2, rfl, rfl, rfl, h2, r2⟩ := trodAll_cons r1
  obtain ⟨rfl, rfl, rfl⟩ := trodAll_nil r2
  obtain rfl : args = #[v0, v1, v2] := by cases args; simp_all
  obtain ⟨rfl, rfl⟩ := trodVars_none hV
  have t0 := h0
  obtain ⟨k0, ce0, g0, x0, A0, n0, c0, l0, rfl, wr0, wn0, wc0, we0, wl0, wk0, wv0, wa0, wb0, wg0, wx0⟩ := open_ro (hval 0 26 v0 rfl rfl) h0
  have t1 := h1
  obtain ⟨k1, ce1, g1, x1, A1, n1, c1, l1, rfl, wr1, wn1, wc1, we1, wl1, wk1, wv1, wa1, wb1, wg1, wx1⟩ := open_ro (hval 1 26 v1 rfl rfl) h1
  have t2 := h2
  obtain ⟨k2, ce2, g2, x2, A2, n2, c2, l2, rfl, wr2, wn2, wc2, we2, wl2, wk2, wv2, wa2, wb2, wg2, wx2⟩ := open_ro (hval 2 26 v2 rfl rfl) h2
  clear hA0 hval0
  refine (call_rjoinsB k0 ce0 g0 x0 A0 n0 c0 l0 k1 ce1 g1 x1 A1 n1 c1 l1 k2 ce2 g2 x2 A2 n2 c2 l2 W wr0 wn0 wc0 we0 wl0 wk0 wv0 wa0 wb0 wg0 wx0 wr1 wn1 wc1 we1 wl1 wk1 wv1 wa1 wb1 wg1 wx1 wr2 wn2 wc2 we2 wl2 wk2 wv2 wa2 wb2 wg2 wx2).mono fun e W' ⟨he, bel⟩ => ?_
  subst he
  exact ⟨_, rfl, _, _, _, [], _, [], hW', trodAll_mk1 (shut_bool Try.underlying4 _), (trodAll_cons_mk (Below.trod laidOut (by kernel_rfl) (of_decide_eq_true (by kernel_rfl)) t0 bel (trod_lt1 t0)) (trodAll_cons_mk (Below.trod laidOut (by kernel_rfl) (of_decide_eq_true (by kernel_rfl)) t1 bel (trod_lt1 t1)) (trodAll_cons_mk (Below.trod laidOut (by kernel_rfl) (of_decide_eq_true (by kernel_rfl)) t2 bel (trod_lt1 t2)) trodAll_mk0))), rfl, bel.frame _, fun h => by cases h⟩

theorem over : Rows.rowJoinsRow.holds Try.pinned (OpenSpec.ofChange Rows.rowJoinsSpec) :=
  OpenClaim.holds_of_wide 4 Try.f4 rfl rfl rfl rfl rfl rfl rfl ⟨rfl, rfl, rfl, rfl, rfl⟩ rfl rfl rfl rfl rfl (by kernel_rfl) Try.func4 (by kernel_rfl)
    (of_decide_eq_true (by kernel_rfl)) (by unfold Func.isWrapper; first | (rw [if_pos (by decide +kernel)]; kernel_rfl) | (rw [if_neg (by decide +kernel)]; exact ⟨rfl, rfl⟩))
    (fun os started H enc _ => lifted os started H enc)

theorem proved : Rows.RowJoinsSaid := over
end Go.Proofs.Ytnoblhacgmeddaa.lawRowJoins
