/-
  A slice of operations that came in: what it reads as.
-/
import Derived.Test.YtjfkfiaheohhcaaOpn
import Derived.Deep.Slices
import Derived.Deep.Strs
set_option linter.unusedVariables false
namespace Go.Proofs.Ytjfkfiaheohhcaa
open Go Go.ChangeShapes Go.WideShapes Go.ChangeAt Go.RowKit

abbrev Ops := List (Int × Int × ByteArray)
/-- The slice at A holds the operations l. -/
def RdO (w : World) (B : Nat) (A : Option Addr) (n : Nat) (l : Ops) : Prop :=
  l.length = n ∧ (0 < n → ∃ g o, A = some ⟨g, o, none⟩ ∧ g < B ∧ ∀ j (hj : j < l.length), w.cell? ⟨g, o + j * 3, none⟩ = some (.int .i64 l[j].1) ∧ w.cell? ⟨g, o + j * 3 + 1, none⟩ = some (.int .i64 l[j].2.1) ∧ w.cell? ⟨g, o + j * 3 + 2, none⟩ = some (.string l[j].2.2))
theorem RdO.below {w w' : World} {B n : Nat} {A : Option Addr} {l : Ops} (h : RdO w B A n l) (hb : Below B w w') : RdO w' B A n l :=
  ⟨h.1, fun hn => by
    obtain ⟨g, o, e, hg, hc⟩ := h.2 hn
    refine ⟨g, o, e, hg, fun j hj => ?_⟩
    obtain ⟨h0, h1, h2⟩ := hc j hj
    exact ⟨(hb.cell (p := ⟨g, o + j * 3, none⟩) hg).trans h0, (hb.cell (p := ⟨g, o + j * 3 + 1, none⟩) hg).trans h1, (hb.cell (p := ⟨g, o + j * 3 + 2, none⟩) hg).trans h2⟩⟩
theorem cells3 {w : World} {base : Nat} {a : Addr} {cs : List Value} (h : w.cells? base a 3 = some cs) : ∃ x0 x1 x2, cs = [x0, x1, x2] ∧ w.cell? (a.add 0) = some x0 ∧ w.cell? (a.add 1) = some x1 ∧ w.cell? (a.add 2) = some x2 := by
  unfold World.cells? at h
  split at h
  · have e : List.range 3 = [0, 1, 2] := rfl
    rw [e] at h
    cases h0 : w.cell? (a.add 0) with
    | none => simp [List.mapM_cons, h0] at h
    | some x0 =>
      cases h1 : w.cell? (a.add 1) with
      | none => simp [List.mapM_cons, h0, h1] at h
      | some x1 =>
        cases h2 : w.cell? (a.add 2) with
        | none => simp [List.mapM_cons, h0, h1, h2] at h
        | some x2 =>
          simp [List.mapM_cons, h0, h1, h2] at h
          exact ⟨x0, x1, x2, h.symm, rfl, rfl, rfl⟩
  · cases h
theorem cellsO : Try.prog.cellsOf 31 = 3 := by kernel_rfl
theorem cellsI : Try.prog.cellsOf 3 = 1 := by kernel_rfl
theorem cellsT : Try.prog.cellsOf 9 = 1 := by kernel_rfl
theorem open_rdo {H : Type} {enc : TypeId × Value → H} {W : World} {base : Nat} {v : Value} {d : DataW H} {p : List MemPlace} (hval : Value.okWide Try.prog W .any base 22 v) (h : DataW.Trod enc Try.prog W 0 (fun _ => true) true 22 v d p) :
    ∃ A n c l, v = .slice A n c ∧ RdO W W.heap.size A n l ∧ n ≤ c ∧ c ≤ maxLen ∧ ∀ x ∈ l, (Lit.int .i64 x.1).wf = true ∧ (Lit.int .i64 x.2.1).wf = true ∧ x.2.2.size ≤ maxLen := by
  obtain ⟨a1, len, cap, rfl⟩ := okWide_slice Try.underlying22 hval
  obtain ⟨fuel, hf⟩ := h
  rcases Go.Deep.open_slice Try.underlying22 hf with ⟨hcs, hx⟩ | ⟨a, len', cap', m, n, D, Pl, hcs, _, hl, hm, hmm, hx, hel⟩
  · simp [Value.cells] at hcs
    obtain ⟨rfl, rfl, rfl⟩ := hcs
    exact ⟨none, 0, 0, [], rfl, ⟨rfl, fun h => absurd h (by omega)⟩, Nat.le_refl _, Nat.zero_le _, fun x hx => by cases hx⟩
  · simp [Value.cells] at hcs
    obtain ⟨rfl, rfl, rfl⟩ := hcs
    simp only [if_true] at hmm
    have hmc : m = cap := hmm
    have hone : ∀ i, i < len → ∃ (k x : Int) (s : ByteArray), W.cell? (a.add (i * 3)) = some (.int .i64 k) ∧ W.cell? (a.add (i * 3 + 1)) = some (.int .i64 x) ∧ W.cell? (a.add (i * 3 + 2)) = some (.string s) ∧ (Lit.int .i64 k).wf = true ∧ (Lit.int .i64 x).wf = true ∧ s.size ≤ maxLen := by
      intro i hi
      obtain ⟨cs', hc, ht⟩ := hel i (by omega)
      rw [cellsO] at hc
      obtain ⟨x0, x1, x2, rfl, h0, h1, h2⟩ := cells3 hc
      obtain ⟨y0, y1, y2, n', _, _, t0, t1, t2⟩ := Go.Deep.trod_struct3 Try.underlying31 ht
      simp only [cellsI, cellsT] at t0 t1 t2
      obtain ⟨k, e0, _, w0⟩ := DataW.trod_int Try.underlying3 t0
      obtain ⟨x, e1, _, w1⟩ := DataW.trod_int Try.underlying3 t1
      obtain ⟨s, e2, _, w2⟩ := DataW.trod_string Try.underlying9 t2
      simp at e0 e1 e2
      subst e0
      subst e1
      subst e2
      rw [addr_add] at h0 h1 h2
      exact ⟨k, x, s, h0, h1, h2, w0, w1, w2⟩
    let f : Nat → Int × Int × ByteArray := fun i => if h : i < len then ((hone i h).choose, (hone i h).choose_spec.choose, (hone i h).choose_spec.choose_spec.choose) else (0, 0, ⟨#[]⟩)
    have hf' : ∀ i, i < len → W.cell? (a.add (i * 3)) = some (.int .i64 (f i).1) ∧ W.cell? (a.add (i * 3 + 1)) = some (.int .i64 (f i).2.1) ∧ W.cell? (a.add (i * 3 + 2)) = some (.string (f i).2.2) ∧ (Lit.int .i64 (f i).1).wf = true ∧ (Lit.int .i64 (f i).2.1).wf = true ∧ (f i).2.2.size ≤ maxLen := by
      intro i hi
      have := (hone i hi).choose_spec.choose_spec.choose_spec
      simp only [f, dif_pos hi]
      exact this
    refine ⟨some a, len, cap, (List.range len).map f, rfl, ⟨by simp, fun hn => ?_⟩, hl, hm, fun x hx => ?_⟩
    · have h0 := (hf' 0 hn).1
      have hs : a.spot = none := by simpa [Addr.add] using World.cell?_spot h0
      obtain ⟨g, o, sp⟩ := a
      simp only at hs
      subst hs
      refine ⟨g, o, rfl, World.block_lt_of_cell? W ⟨g, o, none⟩ (by simpa [Addr.add] using h0), fun j hj => ?_⟩
      have hj2 : j < len := by simpa using hj
      obtain ⟨q0, q1, q2, _⟩ := hf' j hj2
      simp only [Addr.add_lit] at q0 q1 q2
      simp only [List.getElem_map, List.getElem_range]
      exact ⟨q0, by rw [Nat.add_assoc]; exact q1, by rw [Nat.add_assoc]; exact q2⟩
    · obtain ⟨i, hi, rfl⟩ := List.mem_map.1 hx
      obtain ⟨_, _, _, r⟩ := hf' i (List.mem_range.1 hi)
      exact r
end Go.Proofs.Ytjfkfiaheohhcaa
