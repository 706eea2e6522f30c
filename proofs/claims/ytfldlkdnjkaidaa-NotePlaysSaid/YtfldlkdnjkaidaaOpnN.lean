/-
  The calls of law 11 that came in: a slice of structs with a struct and two slices.
-/
import Derived.Test.YtfldlkdnjkaidaaNt4
import Derived.Test.YtfldlkdnjkaidaaOpnL
import Derived.Deep.Slices
import Derived.Deep.Strs
import Derived.Lib.SmallJoins
set_option linter.unusedVariables false
set_option linter.unusedSimpArgs false
namespace Go.Proofs.Ytfldlkdnjkaidaa
open Go Go.ChangeShapes Go.WideShapes Go.ChangeAt Go.RowKit Go.Joins

theorem RdT.of_cells {w : World} {B n g o : Nat} {l : Fl} (hl : l.length = n) (hg : g < B) (h : ∀ k (hk : k < l.length), w.cell? ⟨g, o + k * 2, none⟩ = some (.int .i64 l[k].1) ∧ w.cell? ⟨g, o + k * 2 + 1, none⟩ = some (.string l[k].2)) : RdT w B (some ⟨g, o, none⟩) n l := by
  refine ⟨hl, fun _ => ⟨g, o, rfl, hg, fun j u hu => ?_⟩⟩
  have hj : j < l.length * 2 := by
    rcases Nat.lt_or_ge j (l.length * 2) with h1 | h1
    · exact h1
    · rw [List.getElem?_eq_none (by rw [tRow_length]; exact h1)] at hu; cases hu
  obtain ⟨k, hk⟩ : ∃ k, j = k * 2 ∨ j = k * 2 + 1 := ⟨j / 2, by omega⟩
  have hkl : k < l.length := by omega
  rcases hk with rfl | rfl
  · rw [tRow_get0 l k hkl] at hu
    injection hu with hu
    rw [← hu]
    exact (h k hkl).1
  · rw [tRow_get1 l k hkl] at hu
    injection hu with hu
    rw [← hu, ← Nat.add_assoc]
    exact (h k hkl).2
/-- A call: its kind, its note, what Fits is asked of. -/
structure OA where
  kind : Int
  id : Int
  body : ByteArray
  L : Fl
  AL : Option Addr
  cL : Nat
  D : List Int
  AD : Option Addr
  cD : Nat
def ocs (x : OA) : List Value := [.int .i64 x.kind, .int .i64 x.id, .string x.body, .slice x.AL x.L.length x.cL, .slice x.AD x.D.length x.cD]
/-- The calls that lie at A. -/
structure LiesO (w : World) (B : Nat) (A : Option Addr) (n : Nat) (l : List OA) : Prop where
  len : l.length = n
  at_ : 0 < n → ∃ g o, A = some ⟨g, o, none⟩ ∧ g < B ∧ ∀ j (hj : j < l.length) i u, (ocs l[j])[i]? = some u → w.cell? ⟨g, o + j * 5 + i, none⟩ = some u
  adds : ∀ x ∈ l, RdT w B x.AL x.L.length x.L
  drops : ∀ x ∈ l, RdI w B x.AD x.D.length x.D
theorem LiesO.below {w w' : World} {B n : Nat} {A : Option Addr} {l : List OA} (h : LiesO w B A n l) (hb : Below B w w') : LiesO w' B A n l :=
  ⟨h.len, fun hn => by
    obtain ⟨g, o, e, hg, hc⟩ := h.at_ hn
    exact ⟨g, o, e, hg, fun j hj i u hu => (hb.cell (p := ⟨g, _, none⟩) hg).trans (hc j hj i u hu)⟩, fun x hx => (h.adds x hx).below hb, fun x hx => (h.drops x hx).below' hb⟩
theorem LiesO.cells {w : World} {B n g o : Nat} {l : List OA} (h : LiesO w B (some ⟨g, o, none⟩) n l) {j : Nat} (hj : j < l.length) :
    w.cell? ⟨g, o + j * 5, none⟩ = some (.int .i64 l[j].kind) ∧ w.cell? ⟨g, o + j * 5 + 1, none⟩ = some (.int .i64 l[j].id) ∧ w.cell? ⟨g, o + j * 5 + 2, none⟩ = some (.string l[j].body) ∧ w.cell? ⟨g, o + j * 5 + 3, none⟩ = some (.slice l[j].AL l[j].L.length l[j].cL) ∧ w.cell? ⟨g, o + j * 5 + 4, none⟩ = some (.slice l[j].AD l[j].D.length l[j].cD) := by
  obtain ⟨g', o', e, _, hc⟩ := h.at_ (by have := h.len; omega)
  injection e with e
  injection e with e1 e2 _
  subst e1; subst e2
  exact ⟨hc j hj 0 _ rfl, hc j hj 1 _ rfl, hc j hj 2 _ rfl, hc j hj 3 _ rfl, hc j hj 4 _ rfl⟩
/-- What is known of each call. -/
structure OpF (x : OA) : Prop where
  kind : (Lit.int .i64 x.kind).wf = true
  id : (Lit.int .i64 x.id).wf = true
  body : x.body.size ≤ maxLen
  adds : ∀ y ∈ x.L, (Lit.int .i64 y.1).wf = true ∧ y.2.size ≤ maxLen
  drops : ∀ y ∈ x.D, (Lit.int .i64 y).wf = true
  capL : x.L.length ≤ x.cL
  capD : x.D.length ≤ x.cD
theorem cellsOp11 : Try.prog.cellsOf 33 = 5 := by kernel_rfl
theorem cellsNt11 : Try.prog.cellsOf 30 = 2 := by kernel_rfl
theorem cellsSN11 : Try.prog.cellsOf 26 = 1 := by kernel_rfl
theorem cellsSI11 : Try.prog.cellsOf 31 = 1 := by kernel_rfl
theorem cellsI11 : Try.prog.cellsOf 3 = 1 := by kernel_rfl
theorem cellsT11 : Try.prog.cellsOf 9 = 1 := by kernel_rfl
section
variable {H : Type} {enc : TypeId × Value → H} {W : World}
theorem trod_note11 {fuel : Nat} {x0 x1 : Value} {x : DataW H × List MemPlace} (h : DataW.trod enc Try.prog W 0 (fun _ => true) true fuel 30 [x0, x1] = some x) :
    ∃ (n : Int) (b : ByteArray), x0 = .int .i64 n ∧ x1 = .string b ∧ (Lit.int .i64 n).wf = true ∧ b.size ≤ maxLen := by
  obtain ⟨ys, n', _, _, _, hyl, hfs⟩ := DataW.trod_struct Try.underlying30 h
  match ys, hyl with
  | [y0, y1], _ =>
    have t0 := hfs 0 _ rfl
    have t1 := hfs 1 _ rfl
    obtain ⟨g, e0, _, w0⟩ := DataW.trod_int Try.underlying3 (x := y0) (by simpa [cellsI11] using t0)
    obtain ⟨k, e1, _, w1⟩ := DataW.trod_string Try.underlying9 (x := y1) (by simpa [cellsT11] using t1)
    simp at e0 e1
    exact ⟨g, k, e0, e1, w0, w1⟩
theorem trod_notes11 {fuel : Nat} {v : Value} {x : DataW H × List MemPlace} (h : DataW.trod enc Try.prog W 0 (fun _ => true) true fuel 26 [v] = some x) :
    ∃ A n c L, v = .slice A n c ∧ RdT W W.heap.size A n L ∧ n ≤ c ∧ ∀ y ∈ L, (Lit.int .i64 y.1).wf = true ∧ y.2.size ≤ maxLen := by
  rcases Go.Deep.open_slice Try.underlying26 h with ⟨hcs, hx⟩ | ⟨a, len, cap, m, n, D, Pl, hcs, _, hl, hm, hmm, hx, hel⟩
  · simp at hcs
    subst hcs
    exact ⟨none, 0, 0, [], rfl, ⟨rfl, fun h => absurd h (by omega)⟩, Nat.le_refl _, fun x hx => by cases hx⟩
  · simp at hcs
    subst hcs
    simp only [if_true] at hmm
    have hmc : m = cap := hmm
    have hone : ∀ i, i < len → ∃ z : Int × ByteArray, (W.cell? (a.add (i * 2)) = some (.int .i64 z.1) ∧ W.cell? (a.add (i * 2 + 1)) = some (.string z.2)) ∧ ((Lit.int .i64 z.1).wf = true ∧ z.2.size ≤ maxLen) := by
      intro i hi
      obtain ⟨cs', hc, ht⟩ := hel i (by omega)
      rw [cellsNt11] at hc
      obtain ⟨_, hcl, hat⟩ := World.cells?_some hc
      match cs', hcl with
      | [x0, x1], _ =>
        obtain ⟨n, b, rfl, rfl, h1, h2⟩ := trod_note11 (enc := enc) (W := W) ht
        have q0 := hat 0 (by omega)
        have q1 := hat 1 (by omega)
        rw [Go.Deep.add_add] at q0 q1
        exact ⟨(n, b), ⟨q0, q1⟩, h1, h2⟩
    let f : Nat → Int × ByteArray := fun i => if h : i < len then (hone i h).choose else (0, ⟨#[]⟩)
    have hf' : ∀ i, i < len → (W.cell? (a.add (i * 2)) = some (.int .i64 (f i).1) ∧ W.cell? (a.add (i * 2 + 1)) = some (.string (f i).2)) ∧ ((Lit.int .i64 (f i).1).wf = true ∧ (f i).2.size ≤ maxLen) := by
      intro i hi
      have := (hone i hi).choose_spec
      simp only [f, dif_pos hi]
      exact this
    refine ⟨some a, len, cap, (List.range len).map f, rfl, ?_, hl, fun x hx => ?_⟩
    · rcases Nat.eq_zero_or_pos len with h0 | h0
      · subst h0
        exact ⟨rfl, fun h => absurd h (by omega)⟩
      · have h1 := (hf' 0 h0).1.1
        have hs : a.spot = none := by simpa [Addr.add] using World.cell?_spot h1
        obtain ⟨g, o, sp⟩ := a
        simp only at hs
        subst hs
        refine RdT.of_cells (by simp) (World.block_lt_of_cell? W ⟨g, o, none⟩ (by simpa [Addr.add] using h1)) fun k hk => ?_
        have hk2 : k < len := by simpa using hk
        obtain ⟨⟨q0, q1⟩, _⟩ := hf' k hk2
        simp only [Addr.add_lit] at q0 q1
        simp only [List.getElem_map, List.getElem_range]
        exact ⟨q0, by rw [Nat.add_assoc]; exact q1⟩
    · obtain ⟨i, hi, rfl⟩ := List.mem_map.1 hx
      exact (hf' i (List.mem_range.1 hi)).2
theorem trod_ints11 {fuel : Nat} {v : Value} {x : DataW H × List MemPlace} (h : DataW.trod enc Try.prog W 0 (fun _ => true) true fuel 31 [v] = some x) :
    ∃ A n c l, v = .slice A n c ∧ RdI W W.heap.size A n l ∧ n ≤ c ∧ ∀ y ∈ l, (Lit.int .i64 y).wf = true := by
  rcases open_ints Try.underlying31 Try.underlying3 cellsI11 h with ⟨hcs, hx⟩ | ⟨a, len, cap, zs, hcs, _, hl, hm, hz, hx, hcell, hwz⟩
  · simp at hcs
    subst hcs
    exact ⟨none, 0, 0, [], rfl, ⟨rfl, fun h => absurd h (by omega)⟩, Nat.le_refl _, fun x hx => by cases hx⟩
  · simp at hcs
    subst hcs
    simp only [if_true] at hz
    refine ⟨some a, len, cap, zs.take len, rfl, ⟨by simp; omega, fun hn => ?_⟩, hl, fun x hx => hwz x (List.mem_of_mem_take hx)⟩
    have h0 := hcell 0 (by omega)
    have hs : a.spot = none := by simpa [Addr.add] using World.cell?_spot h0
    obtain ⟨g, o, sp⟩ := a
    simp only at hs
    subst hs
    refine ⟨g, o, rfl, World.block_lt_of_cell? W ⟨g, o, none⟩ (by simpa [Addr.add] using h0), fun j hj => ?_⟩
    have hj2 : j < zs.length := by simp at hj; omega
    have e : zs.getD j 0 = zs[j] := by simp [List.getD, hj2]
    have := hcell j hj2
    rw [e] at this
    simp only [Addr.add_lit] at this
    rw [this, List.getElem_take]
theorem trod_op11 {fuel : Nat} {x0 x1 x2 x3 x4 : Value} {x : DataW H × List MemPlace} (h : DataW.trod enc Try.prog W 0 (fun _ => true) true fuel 33 [x0, x1, x2, x3, x4] = some x) :
    ∃ z : OA, ocs z = [x0, x1, x2, x3, x4] ∧ RdT W W.heap.size z.AL z.L.length z.L ∧ RdI W W.heap.size z.AD z.D.length z.D ∧ OpF z := by
  obtain ⟨ys, n', _, _, _, hyl, hfs⟩ := DataW.trod_struct Try.underlying33 h
  match ys, hyl with
  | [y0, y1, y2, y3], _ =>
    have t0 := hfs 0 _ rfl
    have t1 := hfs 1 _ rfl
    have t2 := hfs 2 _ rfl
    have t3 := hfs 3 _ rfl
    obtain ⟨k, e0, _, w0⟩ := DataW.trod_int Try.underlying3 (x := y0) (by simpa [cellsI11] using t0)
    obtain ⟨n, b, e1, e2, w1, w2⟩ := trod_note11 (enc := enc) (W := W) (x := y1) (by simpa [cellsNt11, cellsI11] using t1)
    obtain ⟨A, m, c, L, e3, hr, hc3, hw⟩ := trod_notes11 (enc := enc) (W := W) (x := y2) (by simpa [cellsSN11, cellsNt11, cellsI11] using t2)
    obtain ⟨A', m', c', D, e4, hr', hc4, hw'⟩ := trod_ints11 (enc := enc) (W := W) (x := y3) (by simpa [cellsSI11, cellsSN11, cellsNt11, cellsI11] using t3)
    simp at e0
    have l1 : L.length = m := hr.1
    have l2 : D.length = m' := hr'.1
    subst l1; subst l2
    refine ⟨⟨k, n, b, L, A, c, D, A', c'⟩, ?_, hr, hr', ⟨w0, w1, w2, hw, hw', hc3, hc4⟩⟩
    unfold ocs
    rw [e0, e1, e2, e3, e4]
/-- A slice of calls that came in. -/
theorem open_ops {base : Nat} {v : Value} {d : DataW H} {p : List MemPlace} (hval : Value.okWide Try.prog W .any base 22 v) (h : DataW.Trod enc Try.prog W 0 (fun _ => true) true 22 v d p) :
    ∃ A n c l, v = .slice A n c ∧ LiesO W W.heap.size A n l ∧ n ≤ c ∧ c ≤ maxLen ∧ ∀ x ∈ l, OpF x := by
  obtain ⟨a1, len, cap, rfl⟩ := okWide_slice Try.underlying22 hval
  obtain ⟨fuel, hf⟩ := h
  rcases Go.Deep.open_slice Try.underlying22 hf with ⟨hcs, hx⟩ | ⟨a, len', cap', m, n, D, Pl, hcs, _, hl, hm, hmm, hx, hel⟩
  · simp [Value.cells] at hcs
    obtain ⟨rfl, rfl, rfl⟩ := hcs
    exact ⟨none, 0, 0, [], rfl, ⟨rfl, fun h => absurd h (by omega), fun x hx => (by cases hx), fun x hx => (by cases hx)⟩, Nat.le_refl _, Nat.zero_le _, fun x hx => by cases hx⟩
  · simp [Value.cells] at hcs
    obtain ⟨rfl, rfl, rfl⟩ := hcs
    simp only [if_true] at hmm
    have hmc : m = cap := hmm
    have hone : ∀ i, i < len → ∃ z : OA, (∀ j u, (ocs z)[j]? = some u → W.cell? (a.add (i * 5 + j)) = some u) ∧ (RdT W W.heap.size z.AL z.L.length z.L ∧ RdI W W.heap.size z.AD z.D.length z.D ∧ OpF z) := by
      intro i hi
      obtain ⟨cs', hc, ht⟩ := hel i (by omega)
      rw [cellsOp11] at hc
      obtain ⟨_, hcl, hat⟩ := World.cells?_some hc
      match cs', hcl with
      | [x0, x1, x2, x3, x4], _ =>
        obtain ⟨z, hz, h1, h2, h3⟩ := trod_op11 (enc := enc) (W := W) ht
        refine ⟨z, fun j u hu => ?_, h1, h2, h3⟩
        have hj : j < 5 := by
          rcases Nat.lt_or_ge j 5 with h1 | h1
          · exact h1
          · rw [List.getElem?_eq_none (by simpa [ocs] using h1)] at hu; cases hu
        have := hat j hj
        rw [← Go.Deep.add_add, this, ← hu, hz]
    let f : Nat → OA := fun i => if h : i < len then (hone i h).choose else ⟨0, 0, ⟨#[]⟩, [], none, 0, [], none, 0⟩
    have hf' : ∀ i, i < len → (∀ j u, (ocs (f i))[j]? = some u → W.cell? (a.add (i * 5 + j)) = some u) ∧ (RdT W W.heap.size (f i).AL (f i).L.length (f i).L ∧ RdI W W.heap.size (f i).AD (f i).D.length (f i).D ∧ OpF (f i)) := by
      intro i hi
      have := (hone i hi).choose_spec
      simp only [f, dif_pos hi]
      exact this
    refine ⟨some a, len, cap, (List.range len).map f, rfl, ⟨by simp, fun hn => ?_, fun x hx => ?_, fun x hx => ?_⟩, hl, hm, fun x hx => ?_⟩
    · have h0 := (hf' 0 hn).1 0 _ rfl
      have hs : a.spot = none := by simpa [Addr.add] using World.cell?_spot h0
      obtain ⟨g, o, sp⟩ := a
      simp only at hs
      subst hs
      refine ⟨g, o, rfl, World.block_lt_of_cell? W ⟨g, o, none⟩ (by simpa [Addr.add] using h0), fun j hj i u hu => ?_⟩
      have hj2 : j < len := by simpa using hj
      simp only [List.getElem_map, List.getElem_range] at hu
      have q := (hf' j hj2).1 i u hu
      simp only [Addr.add_lit] at q
      rw [Nat.add_assoc]
      exact q
    · obtain ⟨i, hi, rfl⟩ := List.mem_map.1 hx
      exact (hf' i (List.mem_range.1 hi)).2.1
    · obtain ⟨i, hi, rfl⟩ := List.mem_map.1 hx
      exact (hf' i (List.mem_range.1 hi)).2.2.1
    · obtain ⟨i, hi, rfl⟩ := List.mem_map.1 hx
      exact (hf' i (List.mem_range.1 hi)).2.2.2
end
end Go.Proofs.Ytfldlkdnjkaidaa
