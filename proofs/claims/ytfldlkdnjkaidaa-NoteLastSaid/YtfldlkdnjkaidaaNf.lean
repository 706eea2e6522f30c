/-
  Rows of notes (stage 11).
-/
import Derived.Test.YtfldlkdnjkaidaaFs
import Derived.Laws.IdiomStrings
import Derived.WalkSpells
set_option linter.unusedVariables false
set_option linter.unusedSimpArgs false
namespace Go.Proofs.Ytfldlkdnjkaidaa
open Go Go.RowKit

def tRow (l : Fl) : List Value := l.flatMap fun x => [.int .i64 x.1, .string x.2]
theorem tRow_length (l : Fl) : (tRow l).length = l.length * 2 := by
  unfold tRow
  induction l with
  | nil => rfl
  | cons x r ih => rw [List.flatMap_cons, List.length_append, ih]; simp; omega
theorem tRow_append (l k : Fl) : tRow (l ++ k) = tRow l ++ tRow k := by unfold tRow; rw [List.flatMap_append]
theorem tRow_take (l : Fl) (k : Nat) : (tRow l).take (k * 2) = tRow (l.take k) := by
  rcases Nat.lt_or_ge l.length k with h | h
  · rw [List.take_of_length_le (by rw [tRow_length]; omega), List.take_of_length_le (by omega)]
  · have e : tRow l = tRow (l.take k) ++ tRow (l.drop k) := by rw [← tRow_append, List.take_append_drop]
    rw [e]
    have hl : (tRow (l.take k)).length = k * 2 := by rw [tRow_length, List.length_take]; omega
    rw [← hl, List.take_left]
theorem tRow_drop (l : Fl) (k : Nat) : (tRow l).drop (k * 2) = tRow (l.drop k) := by
  rcases Nat.lt_or_ge l.length k with h | h
  · rw [List.drop_eq_nil_of_le (by rw [tRow_length]; omega), List.drop_eq_nil_of_le (by omega)]
    rfl
  · have e : tRow l = tRow (l.take k) ++ tRow (l.drop k) := by rw [← tRow_append, List.take_append_drop]
    rw [e]
    have hl : (tRow (l.take k)).length = k * 2 := by rw [tRow_length, List.length_take]; omega
    rw [← hl, List.drop_left]
theorem tRow_get0 (l : Fl) (j : Nat) (h : j < l.length) : (tRow l)[j * 2]? = some (.int .i64 l[j].1) := by
  have := congrArg (·[0]?) (tRow_drop l j)
  simp only [List.getElem?_drop, Nat.add_zero] at this
  rw [this, ← List.getElem_cons_drop (h := h)]
  rfl
theorem tRow_get1 (l : Fl) (j : Nat) (h : j < l.length) : (tRow l)[j * 2 + 1]? = some (.string l[j].2) := by
  have := congrArg (·[1]?) (tRow_drop l j)
  simp only [List.getElem?_drop] at this
  rw [this, ← List.getElem_cons_drop (h := h)]
  rfl
theorem tRow_one (l : Fl) : ∀ u ∈ tRow l, u.oneCell' = true := by
  intro u hu
  unfold tRow at hu
  rw [List.mem_flatMap] at hu
  obtain ⟨x, _, hx⟩ := hu
  simp at hx
  rcases hx with rfl | rfl <;> rfl

/-- The slice at A holds the files l. -/
def RdT (w : World) (B : Nat) (A : Option Addr) (n : Nat) (l : Fl) : Prop :=
  l.length = n ∧ (0 < n → ∃ g o, A = some ⟨g, o, none⟩ ∧ g < B ∧ ∀ j u, (tRow l)[j]? = some u → w.cell? ⟨g, o + j, none⟩ = some u)
section
variable {w w' : World} {B B' n : Nat} {A : Option Addr} {l : Fl}
theorem RdT.below (h : RdT w B A n l) (hb : Below B w w') : RdT w' B A n l :=
  ⟨h.1, fun hn => by
    obtain ⟨g, o, e, hg, hc⟩ := h.2 hn
    exact ⟨g, o, e, hg, fun j u hu => (hb.cell (p := ⟨g, o + j, none⟩) hg).trans (hc j u hu)⟩⟩
theorem RdT.up (h : RdT w B A n l) (hB : B ≤ B') : RdT w B' A n l :=
  ⟨h.1, fun hn => by
    obtain ⟨g, o, e, hg, hc⟩ := h.2 hn
    exact ⟨g, o, e, by omega, hc⟩⟩
theorem RdT.drew (h : RdT w B A n l) : RdT w.drew B A n l := h
theorem RdT.of_own {base n : Nat} {A : Option Addr} {c : Nat} (h : w.ownsRow base 30 2 (.slice A n c) n (tRow l)) : RdT w w.heap.size A n l := by
  have hl : l.length = n := by have := h.1; rw [tRow_length] at this; omega
  rcases h.2 with ⟨e, rfl⟩ | ⟨g, cap, cur, e, hb, hh, hn, hm, hs, ht⟩
  · exact ⟨hl, fun h => absurd h (by omega)⟩
  · injection e with e1 e2 e3
    subst e1
    refine ⟨hl, fun hn => ⟨g, 0, rfl, (Array.getElem?_eq_some_iff.1 hh).1, fun j u hu => ?_⟩⟩
    have := h.cells (g := g) rfl j u hu
    rw [Addr.add_lit] at this
    exact this
theorem RdT.pre (h : RdT w B A n l) {m : Nat} (hm : m ≤ n) : RdT w B A m (l.take m) := by
  refine ⟨by rw [List.length_take, h.1]; omega, fun h0 => ?_⟩
  obtain ⟨g, o, e, hb, hc⟩ := h.2 (by omega)
  refine ⟨g, o, e, hb, fun j u hu => ?_⟩
  rw [← tRow_take, List.getElem?_take] at hu
  split at hu
  · exact hc j u hu
  · cases hu
theorem RdT.cut (h : RdT w B A n l) {k c : Nat} (hk : k ≤ n) (hn : n ≤ c) : RdT w B (if c = k then A else A.map (·.add (k * 2))) (n - k) (l.drop k) := by
  refine ⟨by rw [List.length_drop, h.1], fun h0 => ?_⟩
  obtain ⟨g, o, rfl, hb, hc⟩ := h.2 (by omega)
  rw [if_neg (by omega)]
  refine ⟨g, o + k * 2, by rw [Option.map_some, Addr.add_lit], hb, fun j u hu => ?_⟩
  rw [← tRow_drop, List.getElem?_drop] at hu
  rw [Nat.add_assoc]
  exact hc _ u hu
end
theorem infoT : (Try.prog.info? 30).map (fun i => (i.zero, i.size, i.bytes)) = some (some (.agg #[.int .i64 0, .string ⟨#[]⟩]), 2, 24) := by kernel_rfl
theorem elemT : Try.prog.elem 26 = 30 := by kernel_rfl
/-- append(own, files...). -/
theorem run_appT {w : World} (base : Nat) {v : Value} {n : Nat} {l : Fl} (hown : w.ownsRow base 30 2 v n (tRow l)) {B m c : Nat} {A : Option Addr} {k : Fl} (hr : RdT w B A m k)
    (hsz : n + m ≤ 1000000) (hbase : base ≤ w.heap.size) (ty : TypeId) :
    ∃ v' w', (Builtin.append_ #[26, 26] ty #[v, .slice A m c]).run Try.prog w = .ok v' w' ∧ (w'.ownsRow base 30 2 v' (n + m) (tRow (l ++ k)) ∧ (w.grownBy w' v.ownBlock ∧ (v'.ownBlock = v.ownBlock ∨ v'.ownBlock = some w.heap.size))) := by
  obtain ⟨i, hi, hz0, hz1, hz2⟩ := info_parts infoT
  cases A with
  | none =>
    have h0 : m = 0 := by
      rcases Nat.eq_zero_or_pos m with h1 | h1
      · exact h1
      · obtain ⟨g, o, e, _⟩ := hr.2 h1; cases e
    subst h0
    obtain rfl : k = [] := List.eq_nil_of_length_eq_zero hr.1
    refine ⟨v, w, ?_, by simpa using hown, ⟨rfl, rfl, rfl, Nat.le_refl _, fun _ _ _ => rfl⟩, Or.inl rfl⟩
    rcases hown.2 with ⟨rfl, rfl⟩ | ⟨g, cap, cur, rfl, _, _, hnc, _⟩
    · simp [Builtin.append_, run_underlying Try.underlying26, sizeOf, typeInfo, hi, Builtin.lenOf, Builtin.firstCells]
    · simp [Builtin.append_, run_underlying Try.underlying26, sizeOf, typeInfo, hi, Builtin.lenOf, Builtin.firstCells, hnc, storeCells]
  | some ad =>
    have hcells : ∀ j u, (tRow k)[j]? = some u → w.cell? (ad.add j) = some u := by
      intro j u hu
      have hj : j < (tRow k).length := by
        rcases Nat.lt_or_ge j (tRow k).length with h1 | h1
        · exact h1
        · rw [List.getElem?_eq_none h1] at hu; cases hu
      rw [tRow_length, hr.1] at hj
      obtain ⟨g, o, e, _, hc⟩ := hr.2 (by omega)
      injection e with e
      subst e
      rw [Addr.add_lit]
      exact hc j u hu
    obtain ⟨v', w', h1, h2, h3, _, h5⟩ := run_append_own_at (P := Try.prog) w base 26 ty 30 i (.agg #[.int .i64 0, .string ⟨#[]⟩]) 2 24 Try.underlying26 hi hz0 hz1 hz2 rfl (by decide) v n (tRow l) hown ad m c (tRow k)
      (by rw [tRow_length, hr.1]) hcells (tRow_one k) (by unfold maxLen; omega) (by omega) hbase
    exact ⟨v', w', h1, by rw [tRow_append]; exact h2, h3, h5⟩
theorem own_nilT (w : World) (b : Nat) : w.ownsRow b 30 2 (.slice none 0 0) 0 (tRow []) := World.ownsRow_nil w b _ _
theorem slT_h {w : World} {B n : Nat} {A : Option Addr} {l : Fl} (h : RdT w B A n l) {c : Nat} (hn : n ≤ c) (hA : A = none → c = 0) (hi : Nat) (h2 : hi ≤ n) :
    (∀ wx : World, (Instr.slice 26 (.slice A n c) none (some (.int .i64 (hi : Nat))) none).run Try.prog wx = .ok (.slice A hi c) wx) ∧ RdT w B A hi (l.take hi) := by
  refine ⟨fun wx => ?_, h.pre h2⟩
  obtain ⟨i, hi', hz0, hz1, hz2⟩ := info_parts infoT
  rw [run_slice_h (P := Try.prog) (t := 26) (ht := by rw [elemT]; exact Try.underlying26) (h0 := by omega) (h2 := by omega), elemT]
  cases A with
  | none => simp [sizeOf, typeInfo, hi', hz1, sliced, Result.andThen]
  | some a =>
    have e : a.add 0 = a := by unfold Addr.add; rw [if_pos rfl]
    simp [sizeOf, typeInfo, hi', hz1, sliced, Result.andThen, e]
theorem slT_l {w : World} {B n : Nat} {A : Option Addr} {l : Fl} (h : RdT w B A n l) {c : Nat} (hn : n ≤ c) (lo : Nat) (h1 : lo ≤ n) :
    ∃ A', (∀ wx : World, (Instr.slice 26 (.slice A n c) (some (.int .i64 (lo : Nat))) none none).run Try.prog wx = .ok (.slice A' (n - lo) (c - lo)) wx) ∧ RdT w B A' (n - lo) (l.drop lo) := by
  refine ⟨if c = lo then A else A.map (·.add (lo * 2)), fun wx => ?_, h.cut h1 hn⟩
  obtain ⟨i, hi', hz0, hz1, hz2⟩ := info_parts infoT
  rw [run_slice_l (P := Try.prog) (t := 26) (ht := by rw [elemT]; exact Try.underlying26) (h0 := by omega) (h1 := by omega), elemT]
  simp [sizeOf, typeInfo, hi', hz1, sliced, Result.andThen]

theorem one_rdT (w : World) (n : Int) (s : ByteArray) : RdT (w.alloc (.cells #[.int .i64 n, .string s] 30)) (w.heap.size + 1) (some ⟨w.heap.size, 0, none⟩) 1 [(n, s)] := by
  refine ⟨rfl, fun _ => ⟨_, 0, rfl, Nat.lt_succ_self _, fun j u hu => ?_⟩⟩
  rw [Nat.zero_add]
  have hb := heap_alloc_new w (.cells #[.int .i64 n, .string s] 30)
  refine cell_at hb ?_
  rw [← Array.getElem?_toList]
  exact hu
/-- append(nil, notes...). -/
theorem run_appT0 {w : World} (base : Nat) {B m c : Nat} {A : Option Addr} {k : Fl} (hr : RdT w B A m k) (hsz : m ≤ 1000000) (hbase : base ≤ w.heap.size) (ty : TypeId) :
    ∃ v' w', (Builtin.append_ #[26, 26] ty #[.slice none 0 0, .slice A m c]).run Try.prog w = .ok v' w' ∧ (w'.ownsRow base 30 2 v' m (tRow k) ∧ w.grownBy w' none) := by
  obtain ⟨v', w', h1, h2, h3, _⟩ := run_appT (w := w) (c := c) base (own_nilT w base) hr (by omega) hbase ty
  rw [Nat.zero_add, List.nil_append] at h2
  exact ⟨v', w', h1, h2, h3⟩

end Go.Proofs.Ytfldlkdnjkaidaa
