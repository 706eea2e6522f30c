/-
  The document's own shelf as it lies in memory; rows of files.
-/
import Derived.Test.YtjfkfiaheohhcaaMy
import Derived.Laws.IdiomStrings
import Derived.WalkSpells
set_option linter.unusedVariables false
set_option linter.unusedSimpArgs false
namespace Go.Proofs.Ytjfkfiaheohhcaa
open Go Go.RowKit

def fRow (l : Fl) : List Value := l.flatMap fun x => [.int .i64 x.1, .string x.2]
theorem fRow_length (l : Fl) : (fRow l).length = l.length * 2 := by
  unfold fRow
  induction l with
  | nil => rfl
  | cons x r ih => rw [List.flatMap_cons, List.length_append, ih]; simp; omega
theorem fRow_append (l k : Fl) : fRow (l ++ k) = fRow l ++ fRow k := by unfold fRow; rw [List.flatMap_append]
theorem fRow_take (l : Fl) (k : Nat) : (fRow l).take (k * 2) = fRow (l.take k) := by
  rcases Nat.lt_or_ge l.length k with h | h
  · rw [List.take_of_length_le (by rw [fRow_length]; omega), List.take_of_length_le (by omega)]
  · have e : fRow l = fRow (l.take k) ++ fRow (l.drop k) := by rw [← fRow_append, List.take_append_drop]
    rw [e]
    have hl : (fRow (l.take k)).length = k * 2 := by rw [fRow_length, List.length_take]; omega
    rw [← hl, List.take_left]
theorem fRow_drop (l : Fl) (k : Nat) : (fRow l).drop (k * 2) = fRow (l.drop k) := by
  rcases Nat.lt_or_ge l.length k with h | h
  · rw [List.drop_eq_nil_of_le (by rw [fRow_length]; omega), List.drop_eq_nil_of_le (by omega)]
    rfl
  · have e : fRow l = fRow (l.take k) ++ fRow (l.drop k) := by rw [← fRow_append, List.take_append_drop]
    rw [e]
    have hl : (fRow (l.take k)).length = k * 2 := by rw [fRow_length, List.length_take]; omega
    rw [← hl, List.drop_left]
theorem fRow_get0 (l : Fl) (j : Nat) (h : j < l.length) : (fRow l)[j * 2]? = some (.int .i64 l[j].1) := by
  have := congrArg (·[0]?) (fRow_drop l j)
  simp only [List.getElem?_drop, Nat.add_zero] at this
  rw [this, ← List.getElem_cons_drop (h := h)]
  rfl
theorem fRow_get1 (l : Fl) (j : Nat) (h : j < l.length) : (fRow l)[j * 2 + 1]? = some (.string l[j].2) := by
  have := congrArg (·[1]?) (fRow_drop l j)
  simp only [List.getElem?_drop] at this
  rw [this, ← List.getElem_cons_drop (h := h)]
  rfl
theorem fRow_one (l : Fl) : ∀ u ∈ fRow l, u.oneCell' = true := by
  intro u hu
  unfold fRow at hu
  rw [List.mem_flatMap] at hu
  obtain ⟨x, _, hx⟩ := hu
  simp at hx
  rcases hx with rfl | rfl <;> rfl

/-- The slice at A holds the files l. -/
def RdF (w : World) (B : Nat) (A : Option Addr) (n : Nat) (l : Fl) : Prop :=
  l.length = n ∧ (0 < n → ∃ g o, A = some ⟨g, o, none⟩ ∧ g < B ∧ ∀ j u, (fRow l)[j]? = some u → w.cell? ⟨g, o + j, none⟩ = some u)
section
variable {w w' : World} {B B' n : Nat} {A : Option Addr} {l : Fl}
theorem RdF.below (h : RdF w B A n l) (hb : Below B w w') : RdF w' B A n l :=
  ⟨h.1, fun hn => by
    obtain ⟨g, o, e, hg, hc⟩ := h.2 hn
    exact ⟨g, o, e, hg, fun j u hu => (hb.cell (p := ⟨g, o + j, none⟩) hg).trans (hc j u hu)⟩⟩
theorem RdF.up (h : RdF w B A n l) (hB : B ≤ B') : RdF w B' A n l :=
  ⟨h.1, fun hn => by
    obtain ⟨g, o, e, hg, hc⟩ := h.2 hn
    exact ⟨g, o, e, by omega, hc⟩⟩
theorem RdF.drew (h : RdF w B A n l) : RdF w.drew B A n l := h
theorem RdF.of_own {base n : Nat} {A : Option Addr} {c : Nat} (h : w.ownsRow base 61 2 (.slice A n c) n (fRow l)) : RdF w w.heap.size A n l := by
  have hl : l.length = n := by have := h.1; rw [fRow_length] at this; omega
  rcases h.2 with ⟨e, rfl⟩ | ⟨g, cap, cur, e, hb, hh, hn, hm, hs, ht⟩
  · exact ⟨hl, fun h => absurd h (by omega)⟩
  · injection e with e1 e2 e3
    subst e1
    refine ⟨hl, fun hn => ⟨g, 0, rfl, (Array.getElem?_eq_some_iff.1 hh).1, fun j u hu => ?_⟩⟩
    have := h.cells (g := g) rfl j u hu
    rw [Addr.add_lit] at this
    exact this
theorem RdF.pre (h : RdF w B A n l) {m : Nat} (hm : m ≤ n) : RdF w B A m (l.take m) := by
  refine ⟨by rw [List.length_take, h.1]; omega, fun h0 => ?_⟩
  obtain ⟨g, o, e, hb, hc⟩ := h.2 (by omega)
  refine ⟨g, o, e, hb, fun j u hu => ?_⟩
  rw [← fRow_take, List.getElem?_take] at hu
  split at hu
  · exact hc j u hu
  · cases hu
theorem RdF.cut (h : RdF w B A n l) {k c : Nat} (hk : k ≤ n) (hn : n ≤ c) : RdF w B (if c = k then A else A.map (·.add (k * 2))) (n - k) (l.drop k) := by
  refine ⟨by rw [List.length_drop, h.1], fun h0 => ?_⟩
  obtain ⟨g, o, rfl, hb, hc⟩ := h.2 (by omega)
  rw [if_neg (by omega)]
  refine ⟨g, o + k * 2, by rw [Option.map_some, Addr.add_lit], hb, fun j u hu => ?_⟩
  rw [← fRow_drop, List.getElem?_drop] at hu
  rw [Nat.add_assoc]
  exact hc _ u hu
end
theorem infoF : (Try.prog.info? 61).map (fun i => (i.zero, i.size, i.bytes)) = some (some (.agg #[.int .i64 0, .string ⟨#[]⟩]), 2, 24) := by kernel_rfl
theorem elemFl : Try.prog.elem 26 = 61 := by kernel_rfl
/-- append(own, files...). -/
theorem run_appF {w : World} (base : Nat) {v : Value} {n : Nat} {l : Fl} (hown : w.ownsRow base 61 2 v n (fRow l)) {B m c : Nat} {A : Option Addr} {k : Fl} (hr : RdF w B A m k)
    (hsz : n + m ≤ 1000000) (hbase : base ≤ w.heap.size) (ty : TypeId) :
    ∃ v' w', (Builtin.append_ #[26, 26] ty #[v, .slice A m c]).run Try.prog w = .ok v' w' ∧ (w'.ownsRow base 61 2 v' (n + m) (fRow (l ++ k)) ∧ (w.grownBy w' v.ownBlock ∧ (v'.ownBlock = v.ownBlock ∨ v'.ownBlock = some w.heap.size))) := by
  obtain ⟨i, hi, hz0, hz1, hz2⟩ := info_parts infoF
  cases A with
  | none =>
    have h0 : m = 0 := by
      rcases Nat.eq_zero_or_pos m with h1 | h1
      · exact h1
      · obtain ⟨g, o, e, _⟩ := hr.2 h1; cases e
    subst h0
    obtain rfl : k = [] := List.eq_nil_of_length_eq_zero hr.1
    refine ⟨v, w, ?_, by simpa using hown, ⟨rfl, rfl, rfl, Nat.le_refl _, fun _ _ _ => rfl⟩, Or.inl rfl⟩
    rcases hown.2 with ⟨rfl, rfl⟩ | ⟨g, cap, cur, rfl, _, _, hnc, _⟩
    · simp [Builtin.append_, run_underlying Try.underlying26, sizeOf, typeInfo, hi, Builtin.lenOf, Builtin.firstCells]
    · simp [Builtin.append_, run_underlying Try.underlying26, sizeOf, typeInfo, hi, Builtin.lenOf, Builtin.firstCells, hnc, storeCells]
  | some ad =>
    have hcells : ∀ j u, (fRow k)[j]? = some u → w.cell? (ad.add j) = some u := by
      intro j u hu
      have hj : j < (fRow k).length := by
        rcases Nat.lt_or_ge j (fRow k).length with h1 | h1
        · exact h1
        · rw [List.getElem?_eq_none h1] at hu; cases hu
      rw [fRow_length, hr.1] at hj
      obtain ⟨g, o, e, _, hc⟩ := hr.2 (by omega)
      injection e with e
      subst e
      rw [Addr.add_lit]
      exact hc j u hu
    obtain ⟨v', w', h1, h2, h3, _, h5⟩ := run_append_own_at (P := Try.prog) w base 26 ty 61 i (.agg #[.int .i64 0, .string ⟨#[]⟩]) 2 24 Try.underlying26 hi hz0 hz1 hz2 rfl (by decide) v n (fRow l) hown ad m c (fRow k)
      (by rw [fRow_length, hr.1]) hcells (fRow_one k) (by unfold maxLen; omega) (by omega) hbase
    exact ⟨v', w', h1, by rw [fRow_append]; exact h2, h3, h5⟩
theorem own_nilF (w : World) (b : Nat) : w.ownsRow b 61 2 (.slice none 0 0) 0 (fRow []) := World.ownsRow_nil w b _ _
theorem slF_h {w : World} {B n : Nat} {A : Option Addr} {l : Fl} (h : RdF w B A n l) {c : Nat} (hn : n ≤ c) (hA : A = none → c = 0) (hi : Nat) (h2 : hi ≤ n) :
    (∀ wx : World, (Instr.slice 26 (.slice A n c) none (some (.int .i64 (hi : Nat))) none).run Try.prog wx = .ok (.slice A hi c) wx) ∧ RdF w B A hi (l.take hi) := by
  refine ⟨fun wx => ?_, h.pre h2⟩
  obtain ⟨i, hi', hz0, hz1, hz2⟩ := info_parts infoF
  rw [run_slice_h (P := Try.prog) (t := 26) (ht := by rw [elemFl]; exact Try.underlying26) (h0 := by omega) (h2 := by omega), elemFl]
  cases A with
  | none => simp [sizeOf, typeInfo, hi', hz1, sliced, Result.andThen]
  | some a =>
    have e : a.add 0 = a := by unfold Addr.add; rw [if_pos rfl]
    simp [sizeOf, typeInfo, hi', hz1, sliced, Result.andThen, e]
theorem slF_l {w : World} {B n : Nat} {A : Option Addr} {l : Fl} (h : RdF w B A n l) {c : Nat} (hn : n ≤ c) (lo : Nat) (h1 : lo ≤ n) :
    ∃ A', (∀ wx : World, (Instr.slice 26 (.slice A n c) (some (.int .i64 (lo : Nat))) none none).run Try.prog wx = .ok (.slice A' (n - lo) (c - lo)) wx) ∧ RdF w B A' (n - lo) (l.drop lo) := by
  refine ⟨if c = lo then A else A.map (·.add (lo * 2)), fun wx => ?_, h.cut h1 hn⟩
  obtain ⟨i, hi', hz0, hz1, hz2⟩ := info_parts infoF
  rw [run_slice_l (P := Try.prog) (t := 26) (ht := by rw [elemFl]; exact Try.underlying26) (h0 := by omega) (h1 := by omega), elemFl]
  simp [sizeOf, typeInfo, hi', hz1, sliced, Result.andThen]

/-- The document's own shelf: its block, its row of files. -/
def RfAt (w : World) (F : Nat → Prop) (q : Nat) (v : Value) (T : ByteArray) (S : Sh) : Prop :=
  w.heap[q]? = some (.cells #[.string T, .int .i64 (S.syn : Nat), v, .string S.man] 28 (0, 0)) ∧ T.data.toList = S.log ∧
  w.ownsRow 0 61 2 v S.fs.length (fRow S.fs) ∧ F q ∧ (∀ g, v.ownBlock = some g → F g) ∧ S.Ok
def RfIs (w : World) (F : Nat → Prop) (q : Nat) (S : Sh) : Prop := ∃ v T, RfAt w F q v T S
section
variable {w w' : World} {F G : Nat → Prop} {q : Nat} {v : Value} {T : ByteArray} {S : Sh}
theorem RfAt.kept (h : RfAt w G q v T S) (hk : Kept F w w') (ho : Off F G) (hG : In G w) : RfAt w' G q v T S := by
  obtain ⟨h1, h2, h3, h4, h5, h6⟩ := h
  exact ⟨by rw [hk.get ho hG h4]; exact h1, h2, own_kept h3 (fun g hg => hk.get ho hG (h5 g hg)), h4, h5, h6⟩
theorem RfIs.kept (h : RfIs w G q S) (hk : Kept F w w') (ho : Off F G) (hG : In G w) : RfIs w' G q S := by
  obtain ⟨v, T, h⟩ := h
  exact ⟨v, T, h.kept hk ho hG⟩
theorem RfAt.below (h : RfAt w G q v T S) (hb : Below w.heap.size w w') : RfAt w' G q v T S := by
  obtain ⟨h1, h2, h3, h4, h5, h6⟩ := h
  exact ⟨by rw [hb.block q (Array.getElem?_eq_some_iff.1 h1).1]; exact h1, h2, own_kept h3 (fun g hg => hb.block g (own_block_lt h3 g hg)), h4, h5, h6⟩
theorem RfIs.below (h : RfIs w G q S) (hb : Below w.heap.size w w') : RfIs w' G q S := by
  obtain ⟨v, T, h⟩ := h
  exact ⟨v, T, h.below hb⟩
theorem RfAt.drew (h : RfAt w F q v T S) : RfAt w.drew F q v T S := h
theorem RfAt.ok (h : RfAt w F q v T S) : S.Ok := h.2.2.2.2.2
theorem RfIs.ok (h : RfIs w F q S) : S.Ok := by
  obtain ⟨v, T, h⟩ := h
  exact h.ok
theorem RfAt.size (h : RfAt w F q v T S) : T.size = S.log.length := by rw [Lib.size_eq, h.2.1]
theorem RfAt.ne (h : RfAt w F q v T S) : v.ownBlock ≠ some q := by
  obtain ⟨h1, _, h3, _⟩ := h
  intro hc
  obtain ⟨cs, hcs⟩ := own_tag h3 _ hc
  rw [hcs] at h1
  injection h1 with h1
  injection h1 with _ h1
  exact absurd h1 (by decide)
theorem RfAt.cells (h : RfAt w F q v T S) :
    w.cell? ⟨q, 0, none⟩ = some (.string T) ∧ w.cell? ⟨q, 1, none⟩ = some (.int .i64 (S.syn : Nat)) ∧ w.cell? ⟨q, 2, none⟩ = some v ∧ w.cell? ⟨q, 3, none⟩ = some (.string S.man) ∧ ∀ i, w.frozen? ⟨q, i, none⟩ = false :=
  ⟨cell_at h.1 rfl, cell_at h.1 rfl, cell_at h.1 rfl, cell_at h.1 rfl, fun i => thawed_at h.1⟩
/-- The block written over; the files stay. -/
theorem RfAt.put (h : RfAt w F q v T S) {w1 : World} {T' : ByteArray} {S' : Sh} (hq : w1.heap[q]? = some (.cells #[.string T', .int .i64 (S'.syn : Nat), v, .string S'.man] 28 (0, 0)))
    (hT : T'.data.toList = S'.log) (hf : S'.fs = S.fs) (ho : ∀ j, j ≠ q → w1.heap[j]? = w.heap[j]?) (hok : S'.Ok) : RfAt w1 F q v T' S' := by
  have hne := h.ne
  obtain ⟨h1, h2, h3, h4, h5, h6⟩ := h
  exact ⟨hq, hT, by rw [hf]; exact own_kept h3 (fun g hg => ho g fun e => hne (by rw [hg, e])), h4, h5, hok⟩
end
end Go.Proofs.Ytjfkfiaheohhcaa
