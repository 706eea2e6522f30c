/-
  Columns in slices: a row of cells; append; slices. GENERAL for what holds columns.
-/
import Derived.Test.YthfanonjokpflaaGreatRo1
set_option linter.unusedVariables false
set_option linter.unusedSimpArgs false
namespace Go.Proofs.YthfanonjokpflaaGreat
open Go Go.RowKit

def kcs (x : ByteArray × Ce) : List Value := [.string x.1, .string x.2.s, .bool x.2.d, .int .i64 x.2.a, .int .i64 x.2.e]
def kRow (l : Cols) : List Value := l.flatMap kcs
theorem kRow_length (l : Cols) : (kRow l).length = l.length * 5 := by
  unfold kRow
  induction l with
  | nil => rfl
  | cons c l ih => rw [List.flatMap_cons, List.length_append, ih, List.length_cons]; simp [kcs]; omega
theorem kRow_append (l k : Cols) : kRow (l ++ k) = kRow l ++ kRow k := by unfold kRow; rw [List.flatMap_append]
theorem kRow_at : ∀ (l : Cols) (j i : Nat) (hj : j < l.length) (hi : i < 5), (kRow l)[j * 5 + i]? = (kcs l[j])[i]?
  | [], j, i, hj, hi => by cases hj
  | c :: l, 0, i, hj, hi => by
    simp only [kRow, List.flatMap_cons, Nat.zero_mul, Nat.zero_add, List.getElem_cons_zero]
    exact List.getElem?_append_left (by simpa [kcs] using hi)
  | c :: l, j + 1, i, hj, hi => by
    have ih := kRow_at l j i (by simpa using hj) hi
    simp only [kRow, List.flatMap_cons, List.getElem_cons_succ] at ih ⊢
    rw [List.getElem?_append_right (by simp [kcs]; omega), ← ih]
    congr 1
    simp [kcs]
    omega
theorem kRow_one (l : Cols) : ∀ u ∈ kRow l, u.oneCell' = true := by
  intro u hu
  obtain ⟨c, _, hc⟩ := List.mem_flatMap.1 hu
  unfold kcs at hc
  simp only [List.mem_cons, List.not_mem_nil, or_false] at hc
  rcases hc with rfl | rfl | rfl | rfl | rfl <;> rfl
theorem RdK.all {w : World} {B n : Nat} {ad : Addr} {l : Cols} (h : RdK w B (some ad) n l) : ∀ j u, (kRow l)[j]? = some u → w.cell? (ad.add j) = some u := by
  intro j u hu
  have hj : j < (kRow l).length := by
    rcases Nat.lt_or_ge j (kRow l).length with h1 | h1
    · exact h1
    · rw [List.getElem?_eq_none h1] at hu; cases hu
  rw [kRow_length] at hj
  have hq : j / 5 < l.length := by omega
  obtain ⟨g, o, e, _, hc⟩ := h.2 (by have := h.1; omega)
  injection e with e
  subst e
  obtain ⟨c0, c1, c2, c3, c4⟩ := hc (j / 5) hq
  have hm : j = j / 5 * 5 + j % 5 := by omega
  rw [hm, kRow_at l (j / 5) (j % 5) hq (by omega)] at hu
  rw [Addr.add_lit, hm]
  have hr : j % 5 < 5 := by omega
  obtain ⟨r, hr'⟩ : ∃ r, j % 5 = r := ⟨_, rfl⟩
  rw [hr'] at hu hr ⊢
  match r, hr with
  | 0, _ => injection hu with hu; rw [← hu]; exact c0
  | 1, _ => injection hu with hu; rw [← hu, ← Nat.add_assoc]; exact c1
  | 2, _ => injection hu with hu; rw [← hu, ← Nat.add_assoc]; exact c2
  | 3, _ => injection hu with hu; rw [← hu, ← Nat.add_assoc]; exact c3
  | 4, _ => injection hu with hu; rw [← hu, ← Nat.add_assoc]; exact c4
theorem RdK.of_all {w : World} {B n g o : Nat} {l : Cols} (hl : l.length = n) (hg : g < B) (h : ∀ j u, (kRow l)[j]? = some u → w.cell? ⟨g, o + j, none⟩ = some u) : RdK w B (some ⟨g, o, none⟩) n l := by
  refine ⟨hl, fun _ => ⟨g, o, rfl, hg, fun j hj => ?_⟩⟩
  have key : ∀ i (hi : i < 5) u, (kcs l[j])[i]? = some u → w.cell? ⟨g, o + (j * 5 + i), none⟩ = some u := fun i hi u hu => h _ u ((kRow_at l j i hj hi).trans hu)
  refine ⟨key 0 (by omega) _ rfl, ?_, ?_, ?_, ?_⟩
  · rw [Nat.add_assoc]; exact key 1 (by omega) _ rfl
  · rw [Nat.add_assoc]; exact key 2 (by omega) _ rfl
  · rw [Nat.add_assoc]; exact key 3 (by omega) _ rfl
  · rw [Nat.add_assoc]; exact key 4 (by omega) _ rfl
theorem RdK.nil (w : World) (B : Nat) (A : Option Addr) : RdK w B A 0 [] := ⟨rfl, fun h => absurd h (by omega)⟩
theorem RdK.up {w : World} {B B' n : Nat} {A : Option Addr} {l : Cols} (h : RdK w B A n l) (hB : B ≤ B') : RdK w B' A n l :=
  ⟨h.1, fun hn => by
    obtain ⟨g, o, e, hg, hc⟩ := h.2 hn
    exact ⟨g, o, e, by omega, hc⟩⟩
theorem RdK.cut {w : World} {B n : Nat} {A : Option Addr} {l : Cols} (h : RdK w B A n l) {k c : Nat} (hk : k ≤ n) (hn : n ≤ c) : RdK w B (if c = k then A else A.map (·.add (k * 5))) (n - k) (l.drop k) := by
  refine ⟨by rw [List.length_drop, h.1], fun h0 => ?_⟩
  obtain ⟨g, o, rfl, hb, hc⟩ := h.2 (by omega)
  rw [if_neg (by omega)]
  refine ⟨g, o + k * 5, by rw [Option.map_some, Addr.add_lit], hb, fun j hj => ?_⟩
  rw [List.length_drop] at hj
  have := hc (k + j) (by omega)
  rw [show o + (k + j) * 5 = o + k * 5 + j * 5 by omega] at this
  simpa [List.getElem_drop] using this
theorem RdK.of_own {w : World} {base n : Nat} {A : Option Addr} {c : Nat} {l : Cols} (h : w.ownsRow base 99 5 (.slice A n c) n (kRow l)) : RdK w w.heap.size A n l := by
  have hl : l.length = n := by have := h.1; rw [kRow_length] at this; omega
  rcases h.2 with ⟨e, rfl⟩ | ⟨g, cap, cur, e, hb, hh, hn, hm, hs, ht⟩
  · exact ⟨hl, fun h => absurd h (by omega)⟩
  · injection e with e1 e2 e3
    subst e1
    refine RdK.of_all hl (Array.getElem?_eq_some_iff.1 hh).1 fun j u hu => ?_
    have := h.cells (g := g) rfl j u hu
    rw [Addr.add_lit] at this
    exact this
theorem infoK : (Tryz.prog.info? 99).map (fun i => (i.zero, i.size, i.bytes)) = some (some (.agg #[.string ⟨#[]⟩, .string ⟨#[]⟩, .bool false, .int .i64 0, .int .i64 0]), 5, 56) := by kernel_rfl
/-- append(own, columns...). -/
theorem run_appK {w : World} (base : Nat) {v : Value} {n : Nat} {l : Cols} (hown : w.ownsRow base 99 5 v n (kRow l)) {B m c : Nat} {A : Option Addr} {k : Cols} (hr : RdK w B A m k)
    (hsz : n + m ≤ 1000000) (hbase : base ≤ w.heap.size) (ty : TypeId) :
    ∃ v' w', (Builtin.append_ #[55, 55] ty #[v, .slice A m c]).run Tryz.prog w = .ok v' w' ∧ (w'.ownsRow base 99 5 v' (n + m) (kRow (l ++ k)) ∧ (w.grownBy w' v.ownBlock ∧ (v'.ownBlock = v.ownBlock ∨ v'.ownBlock = some w.heap.size))) := by
  obtain ⟨i, hi, hz0, hz1, hz2⟩ := info_parts infoK
  cases A with
  | none =>
    have h0 : m = 0 := by
      rcases Nat.eq_zero_or_pos m with h1 | h1
      · exact h1
      · obtain ⟨g, o, e, _⟩ := hr.2 h1; cases e
    subst h0
    obtain rfl : k = [] := List.eq_nil_of_length_eq_zero hr.1
    refine ⟨v, w, ?_, by simpa using hown, ⟨rfl, rfl, rfl, Nat.le_refl _, fun _ _ _ => rfl⟩, Or.inl rfl⟩
    rcases hown.2 with ⟨rfl, rfl⟩ | ⟨g, cap, cur, rfl, _, _, hnc, _⟩
    · simp [Builtin.append_, run_underlying Tryz.underlying55, sizeOf, typeInfo, hi, Builtin.lenOf, Builtin.firstCells]
    · simp [Builtin.append_, run_underlying Tryz.underlying55, sizeOf, typeInfo, hi, Builtin.lenOf, Builtin.firstCells, hnc, storeCells]
  | some ad =>
    obtain ⟨v', w', h1, h2, h3, _, h5⟩ := run_append_own_at (P := Tryz.prog) w base 55 ty 99 i (.agg #[.string ⟨#[]⟩, .string ⟨#[]⟩, .bool false, .int .i64 0, .int .i64 0]) 5 56 Tryz.underlying55 hi hz0 hz1 hz2 rfl (by decide) v n (kRow l) hown ad m c (kRow k)
      (by rw [kRow_length, hr.1]) hr.all (kRow_one k) (by unfold maxLen; omega) (by omega) hbase
    exact ⟨v', w', h1, by rw [kRow_append]; exact h2, h3, h5⟩
theorem own_nilK (w : World) (b : Nat) : w.ownsRow b 99 5 (.slice none 0 0) 0 (kRow []) := World.ownsRow_nil w b _ _
/-- One column in a slice that was just laid. -/
theorem RdK.one (w : World) (x : ByteArray × Ce) (g : Nat) (hg : g = w.heap.size) : RdK (w.alloc (.cells #[.string x.1, .string x.2.s, .bool x.2.d, .int .i64 x.2.a, .int .i64 x.2.e] 99)) (g + 1) (some ⟨g, 0, none⟩) 1 [x] := by
  subst hg
  refine RdK.of_all rfl (by omega) fun j u hu => ?_
  have : (kRow [x]) = kcs x := by simp [kRow]
  rw [this] at hu
  rw [Nat.zero_add]
  simpa [kcs] using hu
end Go.Proofs.YthfanonjokpflaaGreat
