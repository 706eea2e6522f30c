/-
  What is joined to partitions, and notes, in slices. GENERAL for what holds them.
-/
import Derived.Test.YthfanonjokpflaaPp
set_option linter.unusedVariables false
set_option linter.unusedSimpArgs false
namespace Go.Proofs.Ythfanonjokpflaa
open Go Go.RowKit

/-- What is joined to a table's partition, in memory. -/
structure MA where
  tb : ByteArray
  p : PA
abbrev NA := Int × ByteArray
def mcs (x : MA) : List Value := [.string x.tb, .string x.p.k, .int .i64 x.p.g, .slice x.p.A x.p.L.length x.p.c]
def mRow (l : List MA) : List Value := l.flatMap mcs
theorem mRow_length (l : List MA) : (mRow l).length = l.length * 4 := by
  unfold mRow
  induction l with
  | nil => rfl
  | cons c l ih => rw [List.flatMap_cons, List.length_append, ih, List.length_cons]; simp [mcs]; omega
theorem mRow_append (l k : List MA) : mRow (l ++ k) = mRow l ++ mRow k := by unfold mRow; rw [List.flatMap_append]
theorem mRow_at : ∀ (l : List MA) (j i : Nat) (hj : j < l.length) (hi : i < 4), (mRow l)[j * 4 + i]? = (mcs l[j])[i]?
  | [], j, i, hj, hi => by cases hj
  | c :: l, 0, i, hj, hi => by
    simp only [mRow, List.flatMap_cons, Nat.zero_mul, Nat.zero_add, List.getElem_cons_zero]
    exact List.getElem?_append_left (by simpa [mcs] using hi)
  | c :: l, j + 1, i, hj, hi => by
    have ih := mRow_at l j i (by simpa using hj) hi
    simp only [mRow, List.flatMap_cons, List.getElem_cons_succ] at ih ⊢
    rw [List.getElem?_append_right (by simp [mcs]; omega), ← ih]
    congr 1
    simp [mcs]
    omega
theorem mRow_one (l : List MA) : ∀ u ∈ mRow l, u.oneCell' = true := by
  intro u hu
  obtain ⟨c, _, hc⟩ := List.mem_flatMap.1 hu
  unfold mcs at hc
  simp only [List.mem_cons, List.not_mem_nil, or_false] at hc
  rcases hc with rfl | rfl | rfl | rfl <;> rfl
/-- A slice of what is joined to partitions. -/
def RdM (w : World) (B : Nat) (A : Option Addr) (n : Nat) (l : List MA) : Prop :=
  l.length = n ∧ (0 < n → ∃ g o, A = some ⟨g, o, none⟩ ∧ g < B ∧ ∀ j (hj : j < l.length) i u, (mcs l[j])[i]? = some u → w.cell? ⟨g, o + j * 4 + i, none⟩ = some u)
theorem RdM.below {w w' : World} {B n : Nat} {A : Option Addr} {l : List MA} (h : RdM w B A n l) (hb : Below B w w') : RdM w' B A n l :=
  ⟨h.1, fun hn => by
    obtain ⟨g, o, e, hg, hc⟩ := h.2 hn
    exact ⟨g, o, e, hg, fun j hj i u hu => (hb.cell (p := ⟨g, _, none⟩) hg).trans (hc j hj i u hu)⟩⟩
theorem RdM.up {w : World} {B B' n : Nat} {A : Option Addr} {l : List MA} (h : RdM w B A n l) (hB : B ≤ B') : RdM w B' A n l :=
  ⟨h.1, fun hn => by
    obtain ⟨g, o, e, hg, hc⟩ := h.2 hn
    exact ⟨g, o, e, by omega, hc⟩⟩
theorem RdM.all {w : World} {B n : Nat} {ad : Addr} {l : List MA} (h : RdM w B (some ad) n l) : ∀ j u, (mRow l)[j]? = some u → w.cell? (ad.add j) = some u := by
  intro j u hu
  have hj : j < (mRow l).length := by
    rcases Nat.lt_or_ge j (mRow l).length with h1 | h1
    · exact h1
    · rw [List.getElem?_eq_none h1] at hu; cases hu
  rw [mRow_length] at hj
  have hq : j / 4 < l.length := by omega
  obtain ⟨g, o, e, _, hc⟩ := h.2 (by have := h.1; omega)
  injection e with e
  subst e
  have hm : j = j / 4 * 4 + j % 4 := by omega
  rw [hm, mRow_at l (j / 4) (j % 4) hq (by omega)] at hu
  rw [Addr.add_lit, hm, ← Nat.add_assoc]
  exact hc (j / 4) hq (j % 4) u hu
theorem RdM.of_all {w : World} {B n g o : Nat} {l : List MA} (hl : l.length = n) (hg : g < B) (h : ∀ j u, (mRow l)[j]? = some u → w.cell? ⟨g, o + j, none⟩ = some u) : RdM w B (some ⟨g, o, none⟩) n l := by
  refine ⟨hl, fun _ => ⟨g, o, rfl, hg, fun j hj i u hu => ?_⟩⟩
  have hi : i < 4 := by
    rcases Nat.lt_or_ge i 4 with h1 | h1
    · exact h1
    · rw [List.getElem?_eq_none (by simpa [mcs] using h1)] at hu; cases hu
  rw [Nat.add_assoc]
  exact h _ u ((mRow_at l j i hj hi).trans hu)
theorem RdM.of_own {w : World} {base n : Nat} {A : Option Addr} {c : Nat} {l : List MA} (h : w.ownsRow base 49 4 (.slice A n c) n (mRow l)) : RdM w w.heap.size A n l := by
  have hl : l.length = n := by have := h.1; rw [mRow_length] at this; omega
  rcases h.2 with ⟨e, rfl⟩ | ⟨g, cap, cur, e, hb, hh, hn, hm, hs, ht⟩
  · exact ⟨hl, fun h => absurd h (by omega)⟩
  · injection e with e1 e2 e3
    subst e1
    refine RdM.of_all hl (Array.getElem?_eq_some_iff.1 hh).1 fun j u hu => ?_
    have := h.cells (g := g) rfl j u hu
    rw [Addr.add_lit] at this
    exact this
theorem infoM : (Try.prog.info? 49).map (fun i => (i.zero, i.size, i.bytes)) = some (some (.agg #[.string ⟨#[]⟩, .string ⟨#[]⟩, .int .i64 0, .slice none 0 0]), 4, 64) := by kernel_rfl
/-- append(own, muts...). -/
theorem run_appM {w : World} (base : Nat) {v : Value} {n : Nat} {l : List MA} (hown : w.ownsRow base 49 4 v n (mRow l)) {B m c : Nat} {A : Option Addr} {k : List MA} (hr : RdM w B A m k)
    (hsz : n + m ≤ 1000000) (hbase : base ≤ w.heap.size) (ty : TypeId) :
    ∃ v' w', (Builtin.append_ #[25, 25] ty #[v, .slice A m c]).run Try.prog w = .ok v' w' ∧ (w'.ownsRow base 49 4 v' (n + m) (mRow (l ++ k)) ∧ (w.grownBy w' v.ownBlock ∧ (v'.ownBlock = v.ownBlock ∨ v'.ownBlock = some w.heap.size))) := by
  obtain ⟨i, hi, hz0, hz1, hz2⟩ := info_parts infoM
  cases A with
  | none =>
    have h0 : m = 0 := by
      rcases Nat.eq_zero_or_pos m with h1 | h1
      · exact h1
      · obtain ⟨g, o, e, _⟩ := hr.2 h1; cases e
    subst h0
    obtain rfl : k = [] := List.eq_nil_of_length_eq_zero hr.1
    refine ⟨v, w, ?_, by simpa using hown, ⟨rfl, rfl, rfl, Nat.le_refl _, fun _ _ _ => rfl⟩, Or.inl rfl⟩
    rcases hown.2 with ⟨rfl, rfl⟩ | ⟨g, cap, cur, rfl, _, _, hnc, _⟩
    · simp [Builtin.append_, run_underlying Try.underlying25, sizeOf, typeInfo, hi, Builtin.lenOf, Builtin.firstCells]
    · simp [Builtin.append_, run_underlying Try.underlying25, sizeOf, typeInfo, hi, Builtin.lenOf, Builtin.firstCells, hnc, storeCells]
  | some ad =>
    obtain ⟨v', w', h1, h2, h3, _, h5⟩ := run_append_own_at (P := Try.prog) w base 25 ty 49 i (.agg #[.string ⟨#[]⟩, .string ⟨#[]⟩, .int .i64 0, .slice none 0 0]) 4 64 Try.underlying25 hi hz0 hz1 hz2 rfl (by decide) v n (mRow l) hown ad m c (mRow k)
      (by rw [mRow_length, hr.1]) hr.all (mRow_one k) (by unfold maxLen; omega) (by omega) hbase
    exact ⟨v', w', h1, by rw [mRow_append]; exact h2, h3, h5⟩
theorem own_nilM (w : World) (b : Nat) : w.ownsRow b 49 4 (.slice none 0 0) 0 (mRow []) := World.ownsRow_nil w b _ _
/-- One in a slice that was just laid. -/
theorem RdM.laid (w : World) (x : MA) : RdM (w.alloc (.cells #[.string x.tb, .string x.p.k, .int .i64 x.p.g, .slice x.p.A x.p.L.length x.p.c] 49)) (w.heap.size + 1) (some ⟨w.heap.size, 0, none⟩) 1 [x] := by
  refine RdM.of_all rfl (by omega) fun j u hu => ?_
  have : (mRow [x]) = mcs x := by simp [mRow]
  rw [this] at hu
  rw [Nat.zero_add]
  simpa [mcs] using hu
/-- The cells of one of them. -/
theorem RdM.part {w : World} {B n : Nat} {g o : Nat} {l : List MA} (h : RdM w B (some ⟨g, o, none⟩) n l) {j : Nat} (hj : j < l.length) :
    w.cell? ⟨g, o + j * 4, none⟩ = some (.string l[j].tb) ∧ w.cell? ⟨g, o + j * 4 + 1, none⟩ = some (.string l[j].p.k) ∧ w.cell? ⟨g, o + j * 4 + 2, none⟩ = some (.int .i64 l[j].p.g) ∧ w.cell? ⟨g, o + j * 4 + 3, none⟩ = some (.slice l[j].p.A l[j].p.L.length l[j].p.c) := by
  obtain ⟨g', o', e, _, hc⟩ := h.2 (by have := h.1; omega)
  injection e with e
  injection e with e1 e2 _
  subst e1; subst e2
  exact ⟨hc j hj 0 _ rfl, hc j hj 1 _ rfl, hc j hj 2 _ rfl, hc j hj 3 _ rfl⟩
theorem RdM.ex {w : World} {B n : Nat} {A : Option Addr} {l : List MA} (h : RdM w B A n l) (hn : 0 < n) : ∃ g o, A = some ⟨g, o, none⟩ ∧ g < B := by
  obtain ⟨g, o, e, hg, _⟩ := h.2 hn
  exact ⟨g, o, e, hg⟩
def ncs (x : NA) : List Value := [.int .i64 x.1, .string x.2]
def nRow (l : List NA) : List Value := l.flatMap ncs
theorem nRow_length (l : List NA) : (nRow l).length = l.length * 2 := by
  unfold nRow
  induction l with
  | nil => rfl
  | cons c l ih => rw [List.flatMap_cons, List.length_append, ih, List.length_cons]; simp [ncs]; omega
theorem nRow_append (l k : List NA) : nRow (l ++ k) = nRow l ++ nRow k := by unfold nRow; rw [List.flatMap_append]
theorem nRow_at : ∀ (l : List NA) (j i : Nat) (hj : j < l.length) (hi : i < 2), (nRow l)[j * 2 + i]? = (ncs l[j])[i]?
  | [], j, i, hj, hi => by cases hj
  | c :: l, 0, i, hj, hi => by
    simp only [nRow, List.flatMap_cons, Nat.zero_mul, Nat.zero_add, List.getElem_cons_zero]
    exact List.getElem?_append_left (by simpa [ncs] using hi)
  | c :: l, j + 1, i, hj, hi => by
    have ih := nRow_at l j i (by simpa using hj) hi
    simp only [nRow, List.flatMap_cons, List.getElem_cons_succ] at ih ⊢
    rw [List.getElem?_append_right (by simp [ncs]; omega), ← ih]
    congr 1
    simp [ncs]
    omega
theorem nRow_one (l : List NA) : ∀ u ∈ nRow l, u.oneCell' = true := by
  intro u hu
  obtain ⟨c, _, hc⟩ := List.mem_flatMap.1 hu
  unfold ncs at hc
  simp only [List.mem_cons, List.not_mem_nil, or_false] at hc
  rcases hc with rfl | rfl <;> rfl
/-- A slice of notes. -/
def RdN (w : World) (B : Nat) (A : Option Addr) (n : Nat) (l : List NA) : Prop :=
  l.length = n ∧ (0 < n → ∃ g o, A = some ⟨g, o, none⟩ ∧ g < B ∧ ∀ j (hj : j < l.length) i u, (ncs l[j])[i]? = some u → w.cell? ⟨g, o + j * 2 + i, none⟩ = some u)
theorem RdN.below {w w' : World} {B n : Nat} {A : Option Addr} {l : List NA} (h : RdN w B A n l) (hb : Below B w w') : RdN w' B A n l :=
  ⟨h.1, fun hn => by
    obtain ⟨g, o, e, hg, hc⟩ := h.2 hn
    exact ⟨g, o, e, hg, fun j hj i u hu => (hb.cell (p := ⟨g, _, none⟩) hg).trans (hc j hj i u hu)⟩⟩
theorem RdN.up {w : World} {B B' n : Nat} {A : Option Addr} {l : List NA} (h : RdN w B A n l) (hB : B ≤ B') : RdN w B' A n l :=
  ⟨h.1, fun hn => by
    obtain ⟨g, o, e, hg, hc⟩ := h.2 hn
    exact ⟨g, o, e, by omega, hc⟩⟩
theorem RdN.all {w : World} {B n : Nat} {ad : Addr} {l : List NA} (h : RdN w B (some ad) n l) : ∀ j u, (nRow l)[j]? = some u → w.cell? (ad.add j) = some u := by
  intro j u hu
  have hj : j < (nRow l).length := by
    rcases Nat.lt_or_ge j (nRow l).length with h1 | h1
    · exact h1
    · rw [List.getElem?_eq_none h1] at hu; cases hu
  rw [nRow_length] at hj
  have hq : j / 2 < l.length := by omega
  obtain ⟨g, o, e, _, hc⟩ := h.2 (by have := h.1; omega)
  injection e with e
  subst e
  have hm : j = j / 2 * 2 + j % 2 := by omega
  rw [hm, nRow_at l (j / 2) (j % 2) hq (by omega)] at hu
  rw [Addr.add_lit, hm, ← Nat.add_assoc]
  exact hc (j / 2) hq (j % 2) u hu
theorem RdN.of_all {w : World} {B n g o : Nat} {l : List NA} (hl : l.length = n) (hg : g < B) (h : ∀ j u, (nRow l)[j]? = some u → w.cell? ⟨g, o + j, none⟩ = some u) : RdN w B (some ⟨g, o, none⟩) n l := by
  refine ⟨hl, fun _ => ⟨g, o, rfl, hg, fun j hj i u hu => ?_⟩⟩
  have hi : i < 2 := by
    rcases Nat.lt_or_ge i 2 with h1 | h1
    · exact h1
    · rw [List.getElem?_eq_none (by simpa [ncs] using h1)] at hu; cases hu
  rw [Nat.add_assoc]
  exact h _ u ((nRow_at l j i hj hi).trans hu)
theorem RdN.of_own {w : World} {base n : Nat} {A : Option Addr} {c : Nat} {l : List NA} (h : w.ownsRow base 51 2 (.slice A n c) n (nRow l)) : RdN w w.heap.size A n l := by
  have hl : l.length = n := by have := h.1; rw [nRow_length] at this; omega
  rcases h.2 with ⟨e, rfl⟩ | ⟨g, cap, cur, e, hb, hh, hn, hm, hs, ht⟩
  · exact ⟨hl, fun h => absurd h (by omega)⟩
  · injection e with e1 e2 e3
    subst e1
    refine RdN.of_all hl (Array.getElem?_eq_some_iff.1 hh).1 fun j u hu => ?_
    have := h.cells (g := g) rfl j u hu
    rw [Addr.add_lit] at this
    exact this
theorem infoN : (Try.prog.info? 51).map (fun i => (i.zero, i.size, i.bytes)) = some (some (.agg #[.int .i64 0, .string ⟨#[]⟩]), 2, 24) := by kernel_rfl
/-- append(own, notes...). -/
theorem run_appN {w : World} (base : Nat) {v : Value} {n : Nat} {l : List NA} (hown : w.ownsRow base 51 2 v n (nRow l)) {B m c : Nat} {A : Option Addr} {k : List NA} (hr : RdN w B A m k)
    (hsz : n + m ≤ 1000000) (hbase : base ≤ w.heap.size) (ty : TypeId) :
    ∃ v' w', (Builtin.append_ #[26, 26] ty #[v, .slice A m c]).run Try.prog w = .ok v' w' ∧ (w'.ownsRow base 51 2 v' (n + m) (nRow (l ++ k)) ∧ (w.grownBy w' v.ownBlock ∧ (v'.ownBlock = v.ownBlock ∨ v'.ownBlock = some w.heap.size))) := by
  obtain ⟨i, hi, hz0, hz1, hz2⟩ := info_parts infoN
  cases A with
  | none =>
    have h0 : m = 0 := by
      rcases Nat.eq_zero_or_pos m with h1 | h1
      · exact h1
      · obtain ⟨g, o, e, _⟩ := hr.2 h1; cases e
    subst h0
    obtain rfl : k = [] := List.eq_nil_of_length_eq_zero hr.1
    refine ⟨v, w, ?_, by simpa using hown, ⟨rfl, rfl, rfl, Nat.le_refl _, fun _ _ _ => rfl⟩, Or.inl rfl⟩
    rcases hown.2 with ⟨rfl, rfl⟩ | ⟨g, cap, cur, rfl, _, _, hnc, _⟩
    · simp [Builtin.append_, run_underlying Try.underlying26, sizeOf, typeInfo, hi, Builtin.lenOf, Builtin.firstCells]
    · simp [Builtin.append_, run_underlying Try.underlying26, sizeOf, typeInfo, hi, Builtin.lenOf, Builtin.firstCells, hnc, storeCells]
  | some ad =>
    obtain ⟨v', w', h1, h2, h3, _, h5⟩ := run_append_own_at (P := Try.prog) w base 26 ty 51 i (.agg #[.int .i64 0, .string ⟨#[]⟩]) 2 24 Try.underlying26 hi hz0 hz1 hz2 rfl (by decide) v n (nRow l) hown ad m c (nRow k)
      (by rw [nRow_length, hr.1]) hr.all (nRow_one k) (by unfold maxLen; omega) (by omega) hbase
    exact ⟨v', w', h1, by rw [nRow_append]; exact h2, h3, h5⟩
theorem own_nilN (w : World) (b : Nat) : w.ownsRow b 51 2 (.slice none 0 0) 0 (nRow []) := World.ownsRow_nil w b _ _
/-- One in a slice that was just laid. -/
theorem RdN.laid (w : World) (x : NA) : RdN (w.alloc (.cells #[.int .i64 x.1, .string x.2] 51)) (w.heap.size + 1) (some ⟨w.heap.size, 0, none⟩) 1 [x] := by
  refine RdN.of_all rfl (by omega) fun j u hu => ?_
  have : (nRow [x]) = ncs x := by simp [nRow]
  rw [this] at hu
  rw [Nat.zero_add]
  simpa [ncs] using hu
/-- The cells of one of them. -/
theorem RdN.part {w : World} {B n : Nat} {g o : Nat} {l : List NA} (h : RdN w B (some ⟨g, o, none⟩) n l) {j : Nat} (hj : j < l.length) :
    w.cell? ⟨g, o + j * 2, none⟩ = some (.int .i64 l[j].1) ∧ w.cell? ⟨g, o + j * 2 + 1, none⟩ = some (.string l[j].2) := by
  obtain ⟨g', o', e, _, hc⟩ := h.2 (by have := h.1; omega)
  injection e with e
  injection e with e1 e2 _
  subst e1; subst e2
  exact ⟨hc j hj 0 _ rfl, hc j hj 1 _ rfl⟩
theorem RdN.ex {w : World} {B n : Nat} {A : Option Addr} {l : List NA} (h : RdN w B A n l) (hn : 0 < n) : ∃ g o, A = some ⟨g, o, none⟩ ∧ g < B := by
  obtain ⟨g, o, e, hg, _⟩ := h.2 hn
  exact ⟨g, o, e, hg⟩
end Go.Proofs.Ythfanonjokpflaa
