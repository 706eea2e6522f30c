/-
  Partitions in slices: a partition of cells; append. GENERAL for what holds partitions.
-/
import Derived.Test.YthfanonjokpflaaPo
set_option linter.unusedVariables false
set_option linter.unusedSimpArgs false
namespace Go.Proofs.Ythfanonjokpflaa
open Go Go.RowKit

/-- A partition in memory: its rows lie at A. -/
structure PA where
  k : ByteArray
  g : Int
  L : List RA
  A : Option Addr
  c : Nat
def pcs (x : PA) : List Value := [.string x.k, .int .i64 x.g, .slice x.A x.L.length x.c]
def pRow (l : List PA) : List Value := l.flatMap pcs
theorem pRow_length (l : List PA) : (pRow l).length = l.length * 3 := by
  unfold pRow
  induction l with
  | nil => rfl
  | cons c l ih => rw [List.flatMap_cons, List.length_append, ih, List.length_cons]; simp [pcs]; omega
theorem pRow_at : ∀ (l : List PA) (j i : Nat) (hj : j < l.length) (hi : i < 3), (pRow l)[j * 3 + i]? = (pcs l[j])[i]?
  | [], j, i, hj, hi => by cases hj
  | c :: l, 0, i, hj, hi => by
    simp only [pRow, List.flatMap_cons, Nat.zero_mul, Nat.zero_add, List.getElem_cons_zero]
    exact List.getElem?_append_left (by simpa [pcs] using hi)
  | c :: l, j + 1, i, hj, hi => by
    have ih := pRow_at l j i (by simpa using hj) hi
    simp only [pRow, List.flatMap_cons, List.getElem_cons_succ] at ih ⊢
    rw [List.getElem?_append_right (by simp [pcs]; omega), ← ih]
    congr 1
    simp [pcs]
    omega
/-- A slice of partitions. -/
def RdP (w : World) (B : Nat) (A : Option Addr) (n : Nat) (l : List PA) : Prop :=
  l.length = n ∧ (0 < n → ∃ g o, A = some ⟨g, o, none⟩ ∧ g < B ∧ ∀ j (hj : j < l.length) i u, (pcs l[j])[i]? = some u → w.cell? ⟨g, o + j * 3 + i, none⟩ = some u)
theorem RdP.below {w w' : World} {B n : Nat} {A : Option Addr} {l : List PA} (h : RdP w B A n l) (hb : Below B w w') : RdP w' B A n l :=
  ⟨h.1, fun hn => by
    obtain ⟨g, o, e, hg, hc⟩ := h.2 hn
    exact ⟨g, o, e, hg, fun j hj i u hu => (hb.cell (p := ⟨g, _, none⟩) hg).trans (hc j hj i u hu)⟩⟩
theorem RdP.up {w : World} {B B' n : Nat} {A : Option Addr} {l : List PA} (h : RdP w B A n l) (hB : B ≤ B') : RdP w B' A n l :=
  ⟨h.1, fun hn => by
    obtain ⟨g, o, e, hg, hc⟩ := h.2 hn
    exact ⟨g, o, e, by omega, hc⟩⟩
theorem RdP.all {w : World} {B n : Nat} {ad : Addr} {l : List PA} (h : RdP w B (some ad) n l) : ∀ j u, (pRow l)[j]? = some u → w.cell? (ad.add j) = some u := by
  intro j u hu
  have hj : j < (pRow l).length := by
    rcases Nat.lt_or_ge j (pRow l).length with h1 | h1
    · exact h1
    · rw [List.getElem?_eq_none h1] at hu; cases hu
  rw [pRow_length] at hj
  have hq : j / 3 < l.length := by omega
  obtain ⟨g, o, e, _, hc⟩ := h.2 (by have := h.1; omega)
  injection e with e
  subst e
  have hm : j = j / 3 * 3 + j % 3 := by omega
  rw [hm, pRow_at l (j / 3) (j % 3) hq (by omega)] at hu
  rw [Addr.add_lit, hm, ← Nat.add_assoc]
  exact hc (j / 3) hq (j % 3) u hu
theorem RdP.of_all {w : World} {B n g o : Nat} {l : List PA} (hl : l.length = n) (hg : g < B) (h : ∀ j u, (pRow l)[j]? = some u → w.cell? ⟨g, o + j, none⟩ = some u) : RdP w B (some ⟨g, o, none⟩) n l := by
  refine ⟨hl, fun _ => ⟨g, o, rfl, hg, fun j hj i u hu => ?_⟩⟩
  have hi : i < 3 := by
    rcases Nat.lt_or_ge i 3 with h1 | h1
    · exact h1
    · rw [List.getElem?_eq_none (by simpa [pcs] using h1)] at hu; cases hu
  rw [Nat.add_assoc]
  exact h _ u ((pRow_at l j i hj hi).trans hu)
theorem RdP.of_own {w : World} {base n : Nat} {A : Option Addr} {c : Nat} {l : List PA} (h : w.ownsRow base 24 3 (.slice A n c) n (pRow l)) : RdP w w.heap.size A n l := by
  have hl : l.length = n := by have := h.1; rw [pRow_length] at this; omega
  rcases h.2 with ⟨e, rfl⟩ | ⟨g, cap, cur, e, hb, hh, hn, hm, hs, ht⟩
  · exact ⟨hl, fun h => absurd h (by omega)⟩
  · injection e with e1 e2 e3
    subst e1
    refine RdP.of_all hl (Array.getElem?_eq_some_iff.1 hh).1 fun j u hu => ?_
    have := h.cells (g := g) rfl j u hu
    rw [Addr.add_lit] at this
    exact this
/-- One in a slice that was just laid. -/
theorem RdP.laid (w : World) (x : PA) : RdP (w.alloc (.cells #[.string x.k, .int .i64 x.g, .slice x.A x.L.length x.c] 24)) (w.heap.size + 1) (some ⟨w.heap.size, 0, none⟩) 1 [x] := by
  refine RdP.of_all rfl (by omega) fun j u hu => ?_
  have : (pRow [x]) = pcs x := by simp [pRow]
  rw [this] at hu
  rw [Nat.zero_add]
  simpa [pcs] using hu
/-- The three cells of one of them. -/
theorem RdP.part {w : World} {B n : Nat} {g o : Nat} {l : List PA} (h : RdP w B (some ⟨g, o, none⟩) n l) {j : Nat} (hj : j < l.length) :
    w.cell? ⟨g, o + j * 3, none⟩ = some (.string l[j].k) ∧ w.cell? ⟨g, o + j * 3 + 1, none⟩ = some (.int .i64 l[j].g) ∧ w.cell? ⟨g, o + j * 3 + 2, none⟩ = some (.slice l[j].A l[j].L.length l[j].c) := by
  obtain ⟨g', o', e, _, hc⟩ := h.2 (by have := h.1; omega)
  injection e with e
  injection e with e1 e2 _
  subst e1; subst e2
  exact ⟨hc j hj 0 _ rfl, hc j hj 1 _ rfl, hc j hj 2 _ rfl⟩
theorem RdP.ex {w : World} {B n : Nat} {A : Option Addr} {l : List PA} (h : RdP w B A n l) (hn : 0 < n) : ∃ g o, A = some ⟨g, o, none⟩ ∧ g < B := by
  obtain ⟨g, o, e, hg, _⟩ := h.2 hn
  exact ⟨g, o, e, hg⟩
end Go.Proofs.Ythfanonjokpflaa
