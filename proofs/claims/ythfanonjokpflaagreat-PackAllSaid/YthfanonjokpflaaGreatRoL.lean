/-
  Rows in slices: a row of cells; append; slices. GENERAL for what holds rows.
-/
import Derived.Test.YthfanonjokpflaaGreatRoV
import Derived.Test.YthfanonjokpflaaGreatRoK
set_option linter.unusedVariables false
set_option linter.unusedSimpArgs false
namespace Go.Proofs.YthfanonjokpflaaGreat
open Go Go.RowKit

/-- A row in memory: its columns lie at A. -/
structure RA where
  ro : Ro
  A : Option Addr
  c : Nat
def RA.v (x : RA) : Value := x.ro.val x.A x.c
def racs (x : RA) : List Value := [.string x.ro.key, .string x.ro.live.s, .bool x.ro.live.d, .int .i64 x.ro.live.a, .int .i64 x.ro.live.e, .int .i64 x.ro.gone, .int .i64 x.ro.shade, .slice x.A x.ro.cols.length x.c]
def rRow (l : List RA) : List Value := l.flatMap racs
theorem rRow_length (l : List RA) : (rRow l).length = l.length * 8 := by
  unfold rRow
  induction l with
  | nil => rfl
  | cons c l ih => rw [List.flatMap_cons, List.length_append, ih, List.length_cons]; simp [racs]; omega
theorem rRow_append (l k : List RA) : rRow (l ++ k) = rRow l ++ rRow k := by unfold rRow; rw [List.flatMap_append]
theorem rRow_at : ∀ (l : List RA) (j i : Nat) (hj : j < l.length) (hi : i < 8), (rRow l)[j * 8 + i]? = (racs l[j])[i]?
  | [], j, i, hj, hi => by cases hj
  | c :: l, 0, i, hj, hi => by
    simp only [rRow, List.flatMap_cons, Nat.zero_mul, Nat.zero_add, List.getElem_cons_zero]
    exact List.getElem?_append_left (by simpa [racs] using hi)
  | c :: l, j + 1, i, hj, hi => by
    have ih := rRow_at l j i (by simpa using hj) hi
    simp only [rRow, List.flatMap_cons, List.getElem_cons_succ] at ih ⊢
    rw [List.getElem?_append_right (by simp [racs]; omega), ← ih]
    congr 1
    simp [racs]
    omega
theorem rRow_one (l : List RA) : ∀ u ∈ rRow l, u.oneCell' = true := by
  intro u hu
  obtain ⟨c, _, hc⟩ := List.mem_flatMap.1 hu
  unfold racs at hc
  simp only [List.mem_cons, List.not_mem_nil, or_false] at hc
  rcases hc with rfl | rfl | rfl | rfl | rfl | rfl | rfl | rfl <;> rfl
/-- A slice of rows. -/
def RdR (w : World) (B : Nat) (A : Option Addr) (n : Nat) (l : List RA) : Prop :=
  l.length = n ∧ (0 < n → ∃ g o, A = some ⟨g, o, none⟩ ∧ g < B ∧ ∀ j (hj : j < l.length) i u, (racs l[j])[i]? = some u → w.cell? ⟨g, o + j * 8 + i, none⟩ = some u)
/-- .. whose rows' columns can be read. -/
def HeldR (w : World) (B : Nat) (l : List RA) : Prop := ∀ x ∈ l, RoIn w B x.ro x.A x.c
theorem HeldR.below {w w' : World} {B : Nat} {l : List RA} (h : HeldR w B l) (hb : Below B w w') : HeldR w' B l := fun x hx => (h x hx).below hb
theorem HeldR.up {w : World} {B B' : Nat} {l : List RA} (h : HeldR w B l) (hB : B ≤ B') : HeldR w B' l := fun x hx => (h x hx).up hB
theorem RdR.below {w w' : World} {B n : Nat} {A : Option Addr} {l : List RA} (h : RdR w B A n l) (hb : Below B w w') : RdR w' B A n l :=
  ⟨h.1, fun hn => by
    obtain ⟨g, o, e, hg, hc⟩ := h.2 hn
    exact ⟨g, o, e, hg, fun j hj i u hu => (hb.cell (p := ⟨g, _, none⟩) hg).trans (hc j hj i u hu)⟩⟩
theorem RdR.up {w : World} {B B' n : Nat} {A : Option Addr} {l : List RA} (h : RdR w B A n l) (hB : B ≤ B') : RdR w B' A n l :=
  ⟨h.1, fun hn => by
    obtain ⟨g, o, e, hg, hc⟩ := h.2 hn
    exact ⟨g, o, e, by omega, hc⟩⟩
theorem RdR.nil (w : World) (B : Nat) (A : Option Addr) : RdR w B A 0 [] := ⟨rfl, fun h => absurd h (by omega)⟩
theorem RdR.all {w : World} {B n : Nat} {ad : Addr} {l : List RA} (h : RdR w B (some ad) n l) : ∀ j u, (rRow l)[j]? = some u → w.cell? (ad.add j) = some u := by
  intro j u hu
  have hj : j < (rRow l).length := by
    rcases Nat.lt_or_ge j (rRow l).length with h1 | h1
    · exact h1
    · rw [List.getElem?_eq_none h1] at hu; cases hu
  rw [rRow_length] at hj
  have hq : j / 8 < l.length := by omega
  obtain ⟨g, o, e, _, hc⟩ := h.2 (by have := h.1; omega)
  injection e with e
  subst e
  have hm : j = j / 8 * 8 + j % 8 := by omega
  rw [hm, rRow_at l (j / 8) (j % 8) hq (by omega)] at hu
  rw [Addr.add_lit, hm, ← Nat.add_assoc]
  exact hc (j / 8) hq (j % 8) u hu
theorem RdR.of_all {w : World} {B n g o : Nat} {l : List RA} (hl : l.length = n) (hg : g < B) (h : ∀ j u, (rRow l)[j]? = some u → w.cell? ⟨g, o + j, none⟩ = some u) : RdR w B (some ⟨g, o, none⟩) n l := by
  refine ⟨hl, fun _ => ⟨g, o, rfl, hg, fun j hj i u hu => ?_⟩⟩
  have hi : i < 8 := by
    rcases Nat.lt_or_ge i 8 with h1 | h1
    · exact h1
    · rw [List.getElem?_eq_none (by simpa [racs] using h1)] at hu; cases hu
  rw [Nat.add_assoc]
  exact h _ u ((rRow_at l j i hj hi).trans hu)
theorem RdR.cut {w : World} {B n : Nat} {A : Option Addr} {l : List RA} (h : RdR w B A n l) {k c : Nat} (hk : k ≤ n) (hn : n ≤ c) : RdR w B (if c = k then A else A.map (·.add (k * 8))) (n - k) (l.drop k) := by
  refine ⟨by rw [List.length_drop, h.1], fun h0 => ?_⟩
  obtain ⟨g, o, rfl, hb, hc⟩ := h.2 (by omega)
  rw [if_neg (by omega)]
  refine ⟨g, o + k * 8, by rw [Option.map_some, Addr.add_lit], hb, fun j hj i u hu => ?_⟩
  rw [List.length_drop] at hj
  rw [List.getElem_drop] at hu
  have := hc (k + j) (by omega) i u hu
  rwa [show o + (k + j) * 8 + i = o + k * 8 + j * 8 + i by omega] at this
theorem RdR.of_own {w : World} {base n : Nat} {A : Option Addr} {c : Nat} {l : List RA} (h : w.ownsRow base 57 8 (.slice A n c) n (rRow l)) : RdR w w.heap.size A n l := by
  have hl : l.length = n := by have := h.1; rw [rRow_length] at this; omega
  rcases h.2 with ⟨e, rfl⟩ | ⟨g, cap, cur, e, hb, hh, hn, hm, hs, ht⟩
  · exact ⟨hl, fun h => absurd h (by omega)⟩
  · injection e with e1 e2 e3
    subst e1
    refine RdR.of_all hl (Array.getElem?_eq_some_iff.1 hh).1 fun j u hu => ?_
    have := h.cells (g := g) rfl j u hu
    rw [Addr.add_lit] at this
    exact this
theorem infoR : (Tryz.prog.info? 57).map (fun i => (i.zero, i.size, i.bytes)) = some (some (.agg #[.string ⟨#[]⟩, .string ⟨#[]⟩, .bool false, .int .i64 0, .int .i64 0, .int .i64 0, .int .i64 0, .slice none 0 0]), 8, 96) := by kernel_rfl
theorem elemR : Tryz.prog.elem 22 = 57 := by kernel_rfl
/-- append(own, rows...). -/
theorem run_appR {w : World} (base : Nat) {v : Value} {n : Nat} {l : List RA} (hown : w.ownsRow base 57 8 v n (rRow l)) {B m c : Nat} {A : Option Addr} {k : List RA} (hr : RdR w B A m k)
    (hsz : n + m ≤ 1000000) (hbase : base ≤ w.heap.size) (ty : TypeId) :
    ∃ v' w', (Builtin.append_ #[22, 22] ty #[v, .slice A m c]).run Tryz.prog w = .ok v' w' ∧ (w'.ownsRow base 57 8 v' (n + m) (rRow (l ++ k)) ∧ (w.grownBy w' v.ownBlock ∧ (v'.ownBlock = v.ownBlock ∨ v'.ownBlock = some w.heap.size))) := by
  obtain ⟨i, hi, hz0, hz1, hz2⟩ := info_parts infoR
  cases A with
  | none =>
    have h0 : m = 0 := by
      rcases Nat.eq_zero_or_pos m with h1 | h1
      · exact h1
      · obtain ⟨g, o, e, _⟩ := hr.2 h1; cases e
    subst h0
    obtain rfl : k = [] := List.eq_nil_of_length_eq_zero hr.1
    refine ⟨v, w, ?_, by simpa using hown, ⟨rfl, rfl, rfl, Nat.le_refl _, fun _ _ _ => rfl⟩, Or.inl rfl⟩
    rcases hown.2 with ⟨rfl, rfl⟩ | ⟨g, cap, cur, rfl, _, _, hnc, _⟩
    · simp [Builtin.append_, run_underlying Tryz.underlying22, sizeOf, typeInfo, hi, Builtin.lenOf, Builtin.firstCells]
    · simp [Builtin.append_, run_underlying Tryz.underlying22, sizeOf, typeInfo, hi, Builtin.lenOf, Builtin.firstCells, hnc, storeCells]
  | some ad =>
    obtain ⟨v', w', h1, h2, h3, _, h5⟩ := run_append_own_at (P := Tryz.prog) w base 22 ty 57 i (.agg #[.string ⟨#[]⟩, .string ⟨#[]⟩, .bool false, .int .i64 0, .int .i64 0, .int .i64 0, .int .i64 0, .slice none 0 0]) 8 96 Tryz.underlying22 hi hz0 hz1 hz2 rfl (by decide) v n (rRow l) hown ad m c (rRow k)
      (by rw [rRow_length, hr.1]) hr.all (rRow_one k) (by unfold maxLen; omega) (by omega) hbase
    exact ⟨v', w', h1, by rw [rRow_append]; exact h2, h3, h5⟩
theorem own_nilR (w : World) (b : Nat) : w.ownsRow b 57 8 (.slice none 0 0) 0 (rRow []) := World.ownsRow_nil w b _ _
theorem slR_l {w : World} {B n : Nat} {A : Option Addr} {l : List RA} (h : RdR w B A n l) {c : Nat} (hn : n ≤ c) (x : Int) (lo : Nat) (ex : x = (lo : Nat)) (h1 : lo ≤ n) :
    ∃ A', (∀ wx : World, (Instr.slice 22 (.slice A n c) (some (.int .i64 x)) none none).run Tryz.prog wx = .ok (.slice A' (n - lo) (c - lo)) wx) ∧ RdR w B A' (n - lo) (l.drop lo) := by
  refine ⟨if c = lo then A else A.map (·.add (lo * 8)), fun wx => ?_, h.cut h1 hn⟩
  obtain ⟨i, hi', hz0, hz1, hz2⟩ := info_parts infoR
  subst ex
  rw [run_slice_l (P := Tryz.prog) (t := 22) (ht := by rw [elemR]; exact Tryz.underlying22) (h0 := by omega) (h1 := by omega), elemR]
  simp [sizeOf, typeInfo, hi', hz1, sliced, Result.andThen]
/-- One row in a slice that was just laid. -/
theorem RdR.one (w : World) (x : RA) (g : Nat) (hg : g = w.heap.size) : RdR (w.alloc (.cells #[.string x.ro.key, .string x.ro.live.s, .bool x.ro.live.d, .int .i64 x.ro.live.a, .int .i64 x.ro.live.e, .int .i64 x.ro.gone, .int .i64 x.ro.shade, .slice x.A x.ro.cols.length x.c] 57)) (g + 1) (some ⟨g, 0, none⟩) 1 [x] := by
  subst hg
  refine RdR.of_all rfl (by omega) fun j u hu => ?_
  have : (rRow [x]) = racs x := by simp [rRow]
  rw [this] at hu
  rw [Nat.zero_add]
  simpa [racs] using hu
/-- The eight cells of one of them. -/
theorem RdR.at_ {w : World} {B n : Nat} {g o : Nat} {l : List RA} (h : RdR w B (some ⟨g, o, none⟩) n l) {j : Nat} (hj : j < l.length) :
    w.cell? ⟨g, o + j * 8, none⟩ = some (.string l[j].ro.key) ∧ w.cell? ⟨g, o + j * 8 + 1, none⟩ = some (.string l[j].ro.live.s) ∧ w.cell? ⟨g, o + j * 8 + 2, none⟩ = some (.bool l[j].ro.live.d) ∧ w.cell? ⟨g, o + j * 8 + 3, none⟩ = some (.int .i64 l[j].ro.live.a) ∧ w.cell? ⟨g, o + j * 8 + 4, none⟩ = some (.int .i64 l[j].ro.live.e) ∧ w.cell? ⟨g, o + j * 8 + 5, none⟩ = some (.int .i64 l[j].ro.gone) ∧ w.cell? ⟨g, o + j * 8 + 6, none⟩ = some (.int .i64 l[j].ro.shade) ∧ w.cell? ⟨g, o + j * 8 + 7, none⟩ = some (.slice l[j].A l[j].ro.cols.length l[j].c) := by
  obtain ⟨g', o', e, _, hc⟩ := h.2 (by have := h.1; omega)
  injection e with e
  injection e with e1 e2 _
  subst e1; subst e2
  exact ⟨hc j hj 0 _ rfl, hc j hj 1 _ rfl, hc j hj 2 _ rfl, hc j hj 3 _ rfl, hc j hj 4 _ rfl, hc j hj 5 _ rfl, hc j hj 6 _ rfl, hc j hj 7 _ rfl⟩
/-- Rows of the call's own, behind all that was there in w0. -/
structure CurR (w0 w : World) (v : Value) (L : List RA) : Prop where
  own : w.ownsRow w0.heap.size 57 8 v L.length (rRow L)
  below : Below w0.heap.size w0 w
theorem CurR.on {w0 w w' : World} {v : Value} {L : List RA} (h : CurR w0 w v L) (hb : Below w.heap.size w w') : CurR w0 w' v L := ⟨own_below h.own hb, next h.below hb⟩
theorem CurR.slice {w0 w : World} {v : Value} {L : List RA} (h : CurR w0 w v L) : ∃ A c, v = .slice A L.length c ∧ L.length ≤ c ∧ c ≤ maxLen ∧ (A = none → c = 0) ∧ RdR w w.heap.size A L.length L := by
  obtain ⟨A, c, rfl, h1, h2, h3⟩ := own_slice h.own
  exact ⟨A, c, rfl, h1, h2, h3, RdR.of_own h.own⟩
theorem CurR.appN {w0 w w' : World} {v v' : Value} {C k : List RA} {N : Nat} (h : CurR w0 w v C) (ho : w'.ownsRow w0.heap.size 57 8 v' N (rRow (C ++ k))) (hg : w.grownBy w' v.ownBlock) : ∃ A m c, v' = .slice A m c ∧ CurR w0 w' (.slice A m c) (C ++ k) := by
  have hN : N = (C ++ k).length := by have := ho.1; rw [rRow_length] at this; omega
  subst hN
  obtain ⟨A, c, rfl, _⟩ := own_slice ho
  exact ⟨A, _, c, rfl, ho, grown_ownN h.below (Nat.le_refl _) h.own hg⟩
theorem CurR.lower {w V w9 : World} {v : Value} {C : List RA} (h : CurR V w9 v C) (hV : Below w.heap.size w V) : CurR w w9 v C := ⟨own_base h.own hV.size, next hV h.below⟩
end Go.Proofs.YthfanonjokpflaaGreat
