/-
  A row by value that came in: its columns are a slice of structs.
-/
import Derived.Test.YtnoblhacgmeddaaOpnL
import Derived.Test.YtnoblhacgmeddaaRoK
import Derived.Lib.SmallJoins
import Derived.Deep.Slices
import Derived.ChangeSame
set_option linter.unusedVariables false
set_option linter.unusedSimpArgs false
namespace Go.Proofs.Ytnoblhacgmeddaa
open Go Go.ChangeShapes Go.WideShapes Go.ChangeAt Go.RowKit Go.Joins

theorem cellsRow : Try.prog.cellsOf 26 = 8 := by kernel_rfl
theorem cellsCol : Try.prog.cellsOf 51 = 5 := by kernel_rfl
theorem cellsCe : Try.prog.cellsOf 23 = 4 := by kernel_rfl
theorem cellsInt : Try.prog.cellsOf 3 = 1 := by kernel_rfl
theorem cellsBool : Try.prog.cellsOf 4 = 1 := by kernel_rfl
theorem cellsStr : Try.prog.cellsOf 9 = 1 := by kernel_rfl
theorem cellsSl : Try.prog.cellsOf 24 = 1 := by kernel_rfl
section
variable {H : Type} {enc : TypeId × Value → H} {W : World}
/-- A cell's four values. -/
theorem trod_ce {fuel : Nat} {x0 x1 x2 x3 : Value} {x : DataW H × List MemPlace} (h : DataW.trod enc Try.prog W 0 (fun _ => true) true fuel 23 [x0, x1, x2, x3] = some x) :
    ∃ c : Ce, x0 = .string c.s ∧ x1 = .bool c.d ∧ x2 = .int .i64 c.a ∧ x3 = .int .i64 c.e ∧ c.s.size ≤ maxLen ∧ (Lit.int .i64 c.a).wf = true ∧ (Lit.int .i64 c.e).wf = true := by
  obtain ⟨y0, y1, y2, y3, n, _, _, t0, t1, t2, t3⟩ := trod_struct4 Try.underlying23 h
  simp only [cellsInt, cellsBool, cellsStr] at t0 t1 t2 t3
  obtain ⟨s, e0, _, w0⟩ := DataW.trod_string Try.underlying9 t0
  obtain ⟨b, e1, _⟩ := DataW.trod_bool Try.underlying4 t1
  obtain ⟨a, e2, _, w2⟩ := DataW.trod_int Try.underlying3 t2
  obtain ⟨e, e3, _, w3⟩ := DataW.trod_int Try.underlying3 t3
  simp at e0 e1 e2 e3
  exact ⟨⟨s, b, a, e⟩, e0, e1, e2, e3, w0, w2, w3⟩
def ColOk (x : ByteArray × Ce) : Prop := x.1.size ≤ maxLen ∧ x.2.s.size ≤ maxLen ∧ (Lit.int .i64 x.2.a).wf = true ∧ (Lit.int .i64 x.2.e).wf = true
theorem trod_cols {fuel : Nat} {v : Value} {x : DataW H × List MemPlace} (h : DataW.trod enc Try.prog W 0 (fun _ => true) true fuel 24 [v] = some x) :
    ∃ A n c l, v = .slice A n c ∧ RdK W W.heap.size A n l ∧ n ≤ c ∧ c ≤ maxLen ∧ (A = none → c = 0) ∧ ∀ x ∈ l, ColOk x := by
  rcases Go.Deep.open_slice Try.underlying24 h with ⟨hcs, hx⟩ | ⟨a, len, cap, m, n, D, Pl, hcs, _, hl, hm, hmm, hx, hel⟩
  · simp at hcs
    subst hcs
    exact ⟨none, 0, 0, [], rfl, RdK.nil _ _ _, Nat.le_refl _, Nat.zero_le _, fun _ => rfl, fun x hx => by cases hx⟩
  · simp at hcs
    subst hcs
    simp only [if_true] at hmm
    have hmc : m = cap := hmm
    have hone : ∀ i, i < len → ∃ x : ByteArray × Ce, (∀ j u, (kcs x)[j]? = some u → W.cell? (a.add (i * 5 + j)) = some u) ∧ ColOk x := by
      intro i hi
      obtain ⟨cs', hc, ht⟩ := hel i (by omega)
      rw [cellsCol] at hc
      obtain ⟨_, hcl, hat⟩ := World.cells?_some hc
      match cs', hcl with
      | [x0, x1, x2, x3, x4], _ =>
        obtain ⟨y0, y1, n', _, _, t0, t1⟩ := trod_struct2 Try.underlying51 ht
        simp only [cellsCe, cellsStr] at t0 t1
        obtain ⟨s, e0, _, w0⟩ := DataW.trod_string Try.underlying9 t0
        simp at e0
        obtain ⟨c, e1, e2, e3, e4, w1, w2, w3⟩ := trod_ce (enc := enc) (W := W) t1
        refine ⟨(s, c), fun j u hu => ?_, w0, w1, w2, w3⟩
        have hj : j < 5 := by
          rcases Nat.lt_or_ge j 5 with h1 | h1
          · exact h1
          · rw [List.getElem?_eq_none (by simpa [kcs] using h1)] at hu; cases hu
        have := hat j hj
        rw [← Go.Deep.add_add, this, ← hu]
        unfold kcs
        rw [e0, e1, e2, e3, e4]
    let f : Nat → ByteArray × Ce := fun i => if h : i < len then (hone i h).choose else (⟨#[]⟩, noC)
    have hf' : ∀ i, i < len → (∀ j u, (kcs (f i))[j]? = some u → W.cell? (a.add (i * 5 + j)) = some u) ∧ ColOk (f i) := by
      intro i hi
      have := (hone i hi).choose_spec
      simp only [f, dif_pos hi]
      exact this
    refine ⟨some a, len, cap, (List.range len).map f, rfl, ⟨by simp, fun hn => ?_⟩, hl, hm, (fun h => by cases h), fun x hx => ?_⟩
    · have h0 := (hf' 0 hn).1 0 _ rfl
      have hs : a.spot = none := by simpa [Addr.add] using World.cell?_spot h0
      obtain ⟨g, o, sp⟩ := a
      simp only at hs
      subst hs
      refine ⟨g, o, rfl, World.block_lt_of_cell? W ⟨g, o, none⟩ (by simpa [Addr.add] using h0), fun j hj => ?_⟩
      have hj2 : j < len := by simpa using hj
      have q := (hf' j hj2).1
      have q0 := q 0 _ rfl
      have q1 := q 1 _ rfl
      have q2 := q 2 _ rfl
      have q3 := q 3 _ rfl
      have q4 := q 4 _ rfl
      simp only [Addr.add_lit, Nat.add_zero] at q0 q1 q2 q3 q4
      simp only [List.getElem_map, List.getElem_range]
      exact ⟨q0, by rw [Nat.add_assoc]; exact q1, by rw [Nat.add_assoc]; exact q2, by rw [Nat.add_assoc]; exact q3, by rw [Nat.add_assoc]; exact q4⟩
    · obtain ⟨i, hi, rfl⟩ := List.mem_map.1 hx
      exact (hf' i (List.mem_range.1 hi)).2
theorem open_ro {base : Nat} {v : Value} {d : DataW H} {p : List MemPlace} (hval : Value.okWide Try.prog W .any base 26 v) (h : DataW.Trod enc Try.prog W 0 (fun _ => true) true 26 v d p) :
    ∃ (k : ByteArray) (c : Ce) (g hs : Int) (A : Option Addr) (n cap : Nat) (l : Cols), v = .agg #[.string k, .string c.s, .bool c.d, .int .i64 c.a, .int .i64 c.e, .int .i64 g, .int .i64 hs, .slice A n cap] ∧ RdK W W.heap.size A n l ∧ n ≤ cap ∧ cap ≤ maxLen ∧ (A = none → cap = 0) ∧ (∀ x ∈ l, ColOk x) ∧
      k.size ≤ maxLen ∧ c.s.size ≤ maxLen ∧ (Lit.int .i64 c.a).wf = true ∧ (Lit.int .i64 c.e).wf = true ∧ (Lit.int .i64 g).wf = true ∧ (Lit.int .i64 hs).wf = true := by
  obtain ⟨cs, rfl, hsz⟩ := okWide_struct Try.underlying26 hval
  rw [cellsRow] at hsz
  obtain ⟨l⟩ := cs
  match l, hsz with
  | [x0, x1, x2, x3, x4, x5, x6, x7], _ =>
    obtain ⟨fuel, hf⟩ := h
    obtain ⟨ys, n', _, _, _, hyl, hfs⟩ := DataW.trod_struct Try.underlying26 hf
    match ys, hyl with
    | [y0, y1, y2, y3, y4], _ =>
      have t0 := hfs 0 _ rfl
      have t1 := hfs 1 _ rfl
      have t2 := hfs 2 _ rfl
      have t3 := hfs 3 _ rfl
      have t4 := hfs 4 _ rfl
      obtain ⟨k, e0, _, w0⟩ := DataW.trod_string Try.underlying9 (x := y0) (by simpa [cellsStr, Value.cells] using t0)
      obtain ⟨c, e1, e2, e3, e4, w1, w2, w3⟩ := trod_ce (enc := enc) (W := W) (x := y1) (by simpa [cellsCe, Value.cells] using t1)
      obtain ⟨g, e5, _, w5⟩ := DataW.trod_int Try.underlying3 (x := y2) (by simpa [cellsInt, Value.cells] using t2)
      obtain ⟨hs, e6, _, w6⟩ := DataW.trod_int Try.underlying3 (x := y3) (by simpa [cellsInt, Value.cells] using t3)
      obtain ⟨A, n, cap, l, e7, hr, hn, hc, hA, hok⟩ := trod_cols (enc := enc) (W := W) (x := y4) (by simpa [cellsSl, Value.cells] using t4)
      simp at e0 e5 e6
      subst e0; subst e1; subst e2; subst e3; subst e4; subst e5; subst e6; subst e7
      exact ⟨k, c, g, hs, A, n, cap, l, rfl, hr, hn, hc, hA, hok, w0, w1, w2, w3, w5, w6⟩
end
end Go.Proofs.Ytnoblhacgmeddaa
