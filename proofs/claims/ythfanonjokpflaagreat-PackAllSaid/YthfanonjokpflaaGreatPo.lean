/-
  Rows of a partition in memory, a row as one thing; what calls hand on.
-/
import Derived.Test.YthfanonjokpflaaGreatRoL
import Derived.Test.YthfanonjokpflaaGreatMg
import Derived.Test.YthfanonjokpflaaGreatRoU
import Derived.Lib.SmallJoins
set_option linter.unusedVariables false
set_option linter.unusedSimpArgs false
namespace Go.Proofs.YthfanonjokpflaaGreat
open Go Go.RowKit

/-- A row's eight cells, in a slice. -/
def RowAt (w : World) (g o : Nat) (x : RA) : Prop := w.cell? ⟨g, o, none⟩ = some (.string x.ro.key) ∧ w.cell? ⟨g, o + 1, none⟩ = some (.string x.ro.live.s) ∧ w.cell? ⟨g, o + 2, none⟩ = some (.bool x.ro.live.d) ∧ w.cell? ⟨g, o + 3, none⟩ = some (.int .i64 x.ro.live.a) ∧ w.cell? ⟨g, o + 4, none⟩ = some (.int .i64 x.ro.live.e) ∧ w.cell? ⟨g, o + 5, none⟩ = some (.int .i64 x.ro.gone) ∧ w.cell? ⟨g, o + 6, none⟩ = some (.int .i64 x.ro.shade) ∧ w.cell? ⟨g, o + 7, none⟩ = some (.slice x.A x.ro.cols.length x.c)
/-- .. and alone in block q. -/
def BlkAt (w : World) (q : Nat) (x : RA) : Prop := w.cell? ⟨q, 0, none⟩ = some (.string x.ro.key) ∧ w.cell? ⟨q, 1, none⟩ = some (.string x.ro.live.s) ∧ w.cell? ⟨q, 2, none⟩ = some (.bool x.ro.live.d) ∧ w.cell? ⟨q, 3, none⟩ = some (.int .i64 x.ro.live.a) ∧ w.cell? ⟨q, 4, none⟩ = some (.int .i64 x.ro.live.e) ∧ w.cell? ⟨q, 5, none⟩ = some (.int .i64 x.ro.gone) ∧ w.cell? ⟨q, 6, none⟩ = some (.int .i64 x.ro.shade) ∧ w.cell? ⟨q, 7, none⟩ = some (.slice x.A x.ro.cols.length x.c)
theorem RowAt.below {w w' : World} {g o B : Nat} {x : RA} (r : RowAt w g o x) (hb : Below B w w') (hg : g < B) : RowAt w' g o x := by
  obtain ⟨c0, c1, c2, c3, c4, c5, c6, c7⟩ := r
  exact ⟨(hb.cell (p := ⟨g, _, none⟩) hg).trans c0, (hb.cell (p := ⟨g, _, none⟩) hg).trans c1, (hb.cell (p := ⟨g, _, none⟩) hg).trans c2, (hb.cell (p := ⟨g, _, none⟩) hg).trans c3, (hb.cell (p := ⟨g, _, none⟩) hg).trans c4, (hb.cell (p := ⟨g, _, none⟩) hg).trans c5, (hb.cell (p := ⟨g, _, none⟩) hg).trans c6, (hb.cell (p := ⟨g, _, none⟩) hg).trans c7⟩
theorem BlkAt.of {w : World} {q : Nat} {x : RA} (h : w.heap[q]? = some (.cells #[.string x.ro.key, .string x.ro.live.s, .bool x.ro.live.d, .int .i64 x.ro.live.a, .int .i64 x.ro.live.e, .int .i64 x.ro.gone, .int .i64 x.ro.shade, .slice x.A x.ro.cols.length x.c] 57 (0, 0))) : BlkAt w q x :=
  ⟨cell_at h rfl, cell_at h rfl, cell_at h rfl, cell_at h rfl, cell_at h rfl, cell_at h rfl, cell_at h rfl, cell_at h rfl⟩
theorem BlkAt.below {w w' : World} {q B : Nat} {x : RA} (r : BlkAt w q x) (hb : Below B w w') (hg : q < B) : BlkAt w' q x := by
  obtain ⟨c0, c1, c2, c3, c4, c5, c6, c7⟩ := r
  exact ⟨(hb.cell (p := ⟨q, _, none⟩) hg).trans c0, (hb.cell (p := ⟨q, _, none⟩) hg).trans c1, (hb.cell (p := ⟨q, _, none⟩) hg).trans c2, (hb.cell (p := ⟨q, _, none⟩) hg).trans c3, (hb.cell (p := ⟨q, _, none⟩) hg).trans c4, (hb.cell (p := ⟨q, _, none⟩) hg).trans c5, (hb.cell (p := ⟨q, _, none⟩) hg).trans c6, (hb.cell (p := ⟨q, _, none⟩) hg).trans c7⟩
theorem RdR.row {w : World} {B n : Nat} {g o : Nat} {l : List RA} (h : RdR w B (some ⟨g, o, none⟩) n l) {j : Nat} (hj : j < l.length) : RowAt w g (o + j * 8) l[j] := h.at_ hj
/-- Where they lie. -/
theorem RdR.ex {w : World} {B n : Nat} {A : Option Addr} {l : List RA} (h : RdR w B A n l) (hn : 0 < n) : ∃ g o, A = some ⟨g, o, none⟩ ∧ g < B := by
  obtain ⟨g, o, e, hg, _⟩ := h.2 hn
  exact ⟨g, o, e, hg⟩

abbrev RaIn (w : World) (B : Nat) (x : RA) : Prop := RoIn w B x.ro x.A x.c
abbrev ros (L : List RA) : List Ro := L.map RA.ro
/-- Rows that can be read, down to their columns. -/
structure Lies (w : World) (B : Nat) (A : Option Addr) (n c : Nat) (L : List RA) : Prop where
  rd : RdR w B A n L
  held : HeldR w B L
  cap : n ≤ c
theorem Lies.below {w w' : World} {B n c : Nat} {A : Option Addr} {L : List RA} (h : Lies w B A n c L) (hb : Below B w w') : Lies w' B A n c L := ⟨h.rd.below hb, h.held.below hb, h.cap⟩
theorem Lies.up {w : World} {B B' n c : Nat} {A : Option Addr} {L : List RA} (h : Lies w B A n c L) (hB : B ≤ B') : Lies w B' A n c L := ⟨h.rd.up hB, h.held.up hB, h.cap⟩
theorem Lies.len {w : World} {B n c : Nat} {A : Option Addr} {L : List RA} (h : Lies w B A n c L) : L.length = n := h.rd.1
/-- A row's columns lie where they lay at the call, or they are the call's own. -/
def Safe (w0 w : World) (x : RA) : Prop := RaIn w0 w0.heap.size x ∨ (w.ownsRow w0.heap.size 99 5 (.slice x.A x.ro.cols.length x.c) x.ro.cols.length (kRow x.ro.cols))
theorem Safe.ra {w0 w : World} {x : RA} (h : Safe w0 w x) (hb : Below w0.heap.size w0 w) : RaIn w w.heap.size x := by
  rcases h with h | h
  · exact (h.below hb).up hb.size
  · obtain ⟨A, c, e, h1, _⟩ := own_slice h
    injection e with e1 e2 e3
    subst e3
    exact ⟨RdK.of_own h, h1⟩
theorem Safe.on {w0 w w' : World} {x : RA} (h : Safe w0 w x) (hb : Below w.heap.size w w') : Safe w0 w' x := h.imp id fun h => own_below h hb
theorem Safe.kept {w0 w w' : World} {x : RA} {F : Nat → Prop} (h : Safe w0 w x) (hk : Kept F w w') (hF : ∀ k, F k → ∃ cs, w.heap[k]? = some (.cells cs 57 (0, 0))) : Safe w0 w' x :=
  h.imp id fun h => own_kept h fun g hg => hk.block g (own_block_lt h g hg) fun hf => by
    obtain ⟨cs, h1⟩ := hF g hf
    obtain ⟨cs', h2⟩ := own_tag h g hg
    rw [h1] at h2
    injection h2 with h2
    injection h2 with _ h3 _
    exact absurd h3 (by decide)
theorem Safe.grown {w0 w w' : World} {x : RA} {b n : Nat} {v : Value} {xs : List Value} (h : Safe w0 w x) (ho : w.ownsRow b 57 8 v n xs) (hg : w.grownBy w' v.ownBlock) : Safe w0 w' x :=
  h.kept (F := fun k => v.ownBlock = some k) (Kept.of_grown hg fun k hk => hk) fun k hk => own_tag ho k hk
/-- Rows of the call's own, that can be read down to their columns. -/
structure Own (w0 w : World) (v : Value) (L : List RA) : Prop where
  cur : CurR w0 w v L
  safe : ∀ x ∈ L, Safe w0 w x
theorem Own.below {w0 w : World} {v : Value} {L : List RA} (h : Own w0 w v L) : Below w0.heap.size w0 w := h.cur.below
theorem Own.on {w0 w w' : World} {v : Value} {L : List RA} (h : Own w0 w v L) (hb : Below w.heap.size w w') : Own w0 w' v L := ⟨h.cur.on hb, fun x hx => (h.safe x hx).on hb⟩
theorem Own.held {w0 w : World} {v : Value} {L : List RA} (h : Own w0 w v L) : HeldR w w.heap.size L := fun x hx => (h.safe x hx).ra h.below
theorem Own.slice {w0 w : World} {v : Value} {L : List RA} (h : Own w0 w v L) : ∃ A c, v = .slice A L.length c ∧ L.length ≤ c ∧ c ≤ maxLen ∧ (A = none → c = 0) ∧ Lies w w.heap.size A L.length c L := by
  obtain ⟨A, c, rfl, h1, h2, h3, h4⟩ := h.cur.slice
  exact ⟨A, c, rfl, h1, h2, h3, h4, h.held, h1⟩
theorem Own.nil {w V : World} (hb : Below w.heap.size w V) : Own w V (.slice none 0 0) [] := ⟨⟨own_nilR _ _, hb⟩, fun x hx => by cases hx⟩
/-- More at the end. -/
theorem Own.app {w0 w w' : World} {v v' : Value} {L k : List RA} {N : Nat} (h : Own w0 w v L) (hk : ∀ x ∈ k, Safe w0 w x) (ho : w'.ownsRow w0.heap.size 57 8 v' N (rRow (L ++ k))) (hg : w.grownBy w' v.ownBlock) : ∃ A m c, v' = .slice A m c ∧ m = (L ++ k).length ∧ Own w0 w' (.slice A m c) (L ++ k) := by
  obtain ⟨A, m, c, rfl, h1⟩ := h.cur.appN ho hg
  refine ⟨A, m, c, rfl, ?_, h1, fun x hx => ?_⟩
  · obtain ⟨A', c', e, _⟩ := own_slice h1.own
    injection e
  · rcases List.mem_append.1 hx with h2 | h2
    · exact (h.safe x h2).grown h.cur.own hg
    · exact (hk x h2).grown h.cur.own hg

/-! Eight cells stored in an own row. -/
theorem rRow_put : ∀ (L : List RA) (j : Nat) (hj : j < L.length) (x : RA),
    ((((((((rRow L).set (j * 8) (.string x.ro.key)).set (j * 8 + 1) (.string x.ro.live.s)).set (j * 8 + 2) (.bool x.ro.live.d)).set (j * 8 + 3) (.int .i64 x.ro.live.a)).set (j * 8 + 4) (.int .i64 x.ro.live.e)).set (j * 8 + 5) (.int .i64 x.ro.gone)).set (j * 8 + 6) (.int .i64 x.ro.shade)).set (j * 8 + 7) (.slice x.A x.ro.cols.length x.c) = rRow (L.set j x)
  | [], j, hj, x => by cases hj
  | y :: L, 0, _, x => by simp [rRow, racs]
  | y :: L, j + 1, hj, x => by
    have ih := rRow_put L j (by simpa using hj) x
    have e : ∀ (k : List Value) (i : Nat) (v : Value), (racs y ++ k).set ((j + 1) * 8 + i) v = racs y ++ k.set (j * 8 + i) v := fun k i v => by
      rw [List.set_append_right _ _ (by simp [racs]; omega)]
      congr 2
      simp [racs]
      omega
    have e0 := fun k v => e k 0 v
    simp only [Nat.add_zero] at e0
    have hc : rRow (y :: L) = racs y ++ rRow L := by simp [rRow]
    rw [hc, e0, e, e, e, e, e, e, e, ih, List.set_cons_succ]
    simp [rRow]
theorem CurR.put {w0 w : World} {g m cap : Nat} {M : List RA} (h : CurR w0 w (.slice (some ⟨g, 0, none⟩) m cap) M) {j : Nat} (hj : j < M.length) (x : RA) :
    CurR w0 (World.setCell (World.setCell (World.setCell (World.setCell (World.setCell (World.setCell (World.setCell (World.setCell w ⟨g, j * 8, none⟩ (.string x.ro.key)) ⟨g, j * 8 + 1, none⟩ (.string x.ro.live.s)) ⟨g, j * 8 + 2, none⟩ (.bool x.ro.live.d)) ⟨g, j * 8 + 3, none⟩ (.int .i64 x.ro.live.a)) ⟨g, j * 8 + 4, none⟩ (.int .i64 x.ro.live.e)) ⟨g, j * 8 + 5, none⟩ (.int .i64 x.ro.gone)) ⟨g, j * 8 + 6, none⟩ (.int .i64 x.ro.shade)) ⟨g, j * 8 + 7, none⟩ (.slice x.A x.ro.cols.length x.c)) (.slice (some ⟨g, 0, none⟩) m cap) (M.set j x) := by
  have hm : m = M.length := by
    obtain ⟨A, c, e, _⟩ := own_slice h.own
    injection e
  subst hm
  have h0 := h.own
  have h1 := (h0.stored (j * 8) (.string x.ro.key)).1
  have h2 := (h1.stored (j * 8 + 1) (.string x.ro.live.s)).1
  have h3 := (h2.stored (j * 8 + 2) (.bool x.ro.live.d)).1
  have h4 := (h3.stored (j * 8 + 3) (.int .i64 x.ro.live.a)).1
  have h5 := (h4.stored (j * 8 + 4) (.int .i64 x.ro.live.e)).1
  have h6 := (h5.stored (j * 8 + 5) (.int .i64 x.ro.gone)).1
  have h7 := (h6.stored (j * 8 + 6) (.int .i64 x.ro.shade)).1
  have h8 := (h7.stored (j * 8 + 7) (.slice x.A x.ro.cols.length x.c)).1
  rw [show _ = _ from rRow_put M j hj x] at h8
  have hg := (h0.lt g rfl).1
  refine ⟨?_, (((((((h.below.setCell hg _).setCell hg _).setCell hg _).setCell hg _).setCell hg _).setCell hg _).setCell hg _).setCell hg _⟩
  rw [List.length_set]
  exact h8
theorem kept_set8 {w : World} (g o : Nat) (x : RA) : Kept (fun k => k = g) w (World.setCell (World.setCell (World.setCell (World.setCell (World.setCell (World.setCell (World.setCell (World.setCell w ⟨g, o, none⟩ (.string x.ro.key)) ⟨g, o + 1, none⟩ (.string x.ro.live.s)) ⟨g, o + 2, none⟩ (.bool x.ro.live.d)) ⟨g, o + 3, none⟩ (.int .i64 x.ro.live.a)) ⟨g, o + 4, none⟩ (.int .i64 x.ro.live.e)) ⟨g, o + 5, none⟩ (.int .i64 x.ro.gone)) ⟨g, o + 6, none⟩ (.int .i64 x.ro.shade)) ⟨g, o + 7, none⟩ (.slice x.A x.ro.cols.length x.c)) :=
  (((((((((Kept.refl (fun k => k = g) w).trans (Kept.setCell (fun k => k = g) _ ⟨g, o, none⟩ _ rfl) fun _ h => Or.inl h).trans (Kept.setCell (fun k => k = g) _ ⟨g, o + 1, none⟩ _ rfl) fun _ h => Or.inl h).trans (Kept.setCell (fun k => k = g) _ ⟨g, o + 2, none⟩ _ rfl) fun _ h => Or.inl h).trans (Kept.setCell (fun k => k = g) _ ⟨g, o + 3, none⟩ _ rfl) fun _ h => Or.inl h).trans (Kept.setCell (fun k => k = g) _ ⟨g, o + 4, none⟩ _ rfl) fun _ h => Or.inl h).trans (Kept.setCell (fun k => k = g) _ ⟨g, o + 5, none⟩ _ rfl) fun _ h => Or.inl h).trans (Kept.setCell (fun k => k = g) _ ⟨g, o + 6, none⟩ _ rfl) fun _ h => Or.inl h).trans (Kept.setCell (fun k => k = g) _ ⟨g, o + 7, none⟩ _ rfl) fun _ h => Or.inl h)
theorem mem_set_or {α : Type} {L : List α} {j : Nat} {x y : α} (h : y ∈ L.set j x) : y ∈ L ∨ y = x := List.mem_or_eq_of_mem_set h
theorem Own.put {w0 w : World} {g m cap : Nat} {M : List RA} (h : Own w0 w (.slice (some ⟨g, 0, none⟩) m cap) M) {j : Nat} (hj : j < M.length) (x : RA) (hx : Safe w0 w x) :
    Own w0 (World.setCell (World.setCell (World.setCell (World.setCell (World.setCell (World.setCell (World.setCell (World.setCell w ⟨g, j * 8, none⟩ (.string x.ro.key)) ⟨g, j * 8 + 1, none⟩ (.string x.ro.live.s)) ⟨g, j * 8 + 2, none⟩ (.bool x.ro.live.d)) ⟨g, j * 8 + 3, none⟩ (.int .i64 x.ro.live.a)) ⟨g, j * 8 + 4, none⟩ (.int .i64 x.ro.live.e)) ⟨g, j * 8 + 5, none⟩ (.int .i64 x.ro.gone)) ⟨g, j * 8 + 6, none⟩ (.int .i64 x.ro.shade)) ⟨g, j * 8 + 7, none⟩ (.slice x.A x.ro.cols.length x.c)) (.slice (some ⟨g, 0, none⟩) m cap) (M.set j x) := by
  refine ⟨h.cur.put hj x, fun y hy => ?_⟩
  have hF : ∀ k, k = g → ∃ cs, w.heap[k]? = some (.cells cs 57 (0, 0)) := fun k e => by subst e; exact own_tag h.cur.own k rfl
  rcases mem_set_or hy with h1 | rfl
  · exact (h.safe y h1).kept (kept_set8 g (j * 8) x) hF
  · exact hx.kept (kept_set8 g (j * 8) y) hF
/-- The cell that is there, and that it may be written. -/
theorem Own.row {w0 w : World} {A : Option Addr} {m c : Nat} {M : List RA} (h : Own w0 w (.slice A m c) M) {j : Nat} (hj : j < M.length) : ∃ g, A = some ⟨g, 0, none⟩ ∧ w0.heap.size ≤ g ∧ g < w.heap.size ∧ RowAt w g (j * 8) M[j] ∧ ∀ i, w.frozen? ⟨g, i, none⟩ = false := by
  have hown := h.cur.own
  rcases hown.2 with ⟨_, e⟩ | ⟨g, cap, cur, e, hb, hh, hn, hm, hs, ht⟩
  · omega
  · have hown := h.cur.own
    injection e with e1 e2 e3
    subst e1; subst e2; subst e3
    have key : ∀ i (hi : i < 8) u, (racs M[j])[i]? = some u → w.cell? ⟨g, j * 8 + i, none⟩ = some u := fun i hi u hu => by
      have := hown.cells (g := g) rfl (j * 8 + i) u (by rw [rRow_at _ _ _ hj hi]; exact hu)
      rw [Addr.add_lit, Nat.zero_add] at this
      exact this
    exact ⟨g, rfl, hb, (Array.getElem?_eq_some_iff.1 hh).1, ⟨key 0 (by omega) _ rfl, key 1 (by omega) _ rfl, key 2 (by omega) _ rfl, key 3 (by omega) _ rfl, key 4 (by omega) _ rfl, key 5 (by omega) _ rfl, key 6 (by omega) _ rfl, key 7 (by omega) _ rfl⟩, fun i => hown.frozenAt i⟩

theorem set8_block {w : World} {q : Nat} {v0 v1 v2 v3 v4 v5 v6 v7 : Value} (h : w.heap[q]? = some (.cells #[v0, v1, v2, v3, v4, v5, v6, v7] 57 (0, 0))) (x : RA) :
    ((World.setCell (World.setCell (World.setCell (World.setCell (World.setCell (World.setCell (World.setCell (World.setCell w ⟨q, 0, none⟩ (.string x.ro.key)) ⟨q, 1, none⟩ (.string x.ro.live.s)) ⟨q, 2, none⟩ (.bool x.ro.live.d)) ⟨q, 3, none⟩ (.int .i64 x.ro.live.a)) ⟨q, 4, none⟩ (.int .i64 x.ro.live.e)) ⟨q, 5, none⟩ (.int .i64 x.ro.gone)) ⟨q, 6, none⟩ (.int .i64 x.ro.shade)) ⟨q, 7, none⟩ (.slice x.A x.ro.cols.length x.c))).heap[q]? = some (.cells #[.string x.ro.key, .string x.ro.live.s, .bool x.ro.live.d, .int .i64 x.ro.live.a, .int .i64 x.ro.live.e, .int .i64 x.ro.gone, .int .i64 x.ro.shade, .slice x.A x.ro.cols.length x.c] 57 (0, 0)) := by
  have h0 := Joins.block_setCell (i := 0) h (.string x.ro.key)
  simp only [List.setIfInBounds_toArray, List.set_cons_zero, List.set_cons_succ] at h0
  have h1 := Joins.block_setCell (i := 1) h0 (.string x.ro.live.s)
  simp only [List.setIfInBounds_toArray, List.set_cons_zero, List.set_cons_succ] at h1
  have h2 := Joins.block_setCell (i := 2) h1 (.bool x.ro.live.d)
  simp only [List.setIfInBounds_toArray, List.set_cons_zero, List.set_cons_succ] at h2
  have h3 := Joins.block_setCell (i := 3) h2 (.int .i64 x.ro.live.a)
  simp only [List.setIfInBounds_toArray, List.set_cons_zero, List.set_cons_succ] at h3
  have h4 := Joins.block_setCell (i := 4) h3 (.int .i64 x.ro.live.e)
  simp only [List.setIfInBounds_toArray, List.set_cons_zero, List.set_cons_succ] at h4
  have h5 := Joins.block_setCell (i := 5) h4 (.int .i64 x.ro.gone)
  simp only [List.setIfInBounds_toArray, List.set_cons_zero, List.set_cons_succ] at h5
  have h6 := Joins.block_setCell (i := 6) h5 (.int .i64 x.ro.shade)
  simp only [List.setIfInBounds_toArray, List.set_cons_zero, List.set_cons_succ] at h6
  have h7 := Joins.block_setCell (i := 7) h6 (.slice x.A x.ro.cols.length x.c)
  simpa only [List.setIfInBounds_toArray, List.set_cons_zero, List.set_cons_succ] using h7
theorem Lies.head {w : World} {B n c g o : Nat} {x : RA} {l : List RA} (h : Lies w B (some ⟨g, o, none⟩) n c (x :: l)) : RowAt w g o x := by
  have h1 := h.rd.row (j := 0) (by simp)
  rwa [Nat.zero_mul, Nat.add_zero] at h1
theorem Lies.tail {w : World} {B n c : Nat} {A : Option Addr} {x : RA} {l : List RA} (h : Lies w B A n c (x :: l)) :
    ∃ A', (∀ wx : World, (Instr.slice 22 (.slice A n c) (some (.int .i64 1)) none none).run Tryz.prog wx = .ok (.slice A' (n - 1) (c - 1)) wx) ∧ Lies w B A' (n - 1) (c - 1) l := by
  have hn : 1 ≤ n := by have := h.len; simp at this; omega
  obtain ⟨A', h1, h2⟩ := slR_l h.rd h.cap 1 1 rfl hn
  exact ⟨A', h1, h2, fun y hy => h.held y (List.mem_cons_of_mem _ hy), by have := h.cap; omega⟩

/-! make. -/
def zeroR : RA := ⟨⟨⟨#[]⟩, ⟨⟨#[]⟩, false, 0, 0⟩, 0, 0, []⟩, none, 0⟩
/-- A row that was just laid in a slice. -/
theorem RdR.laid (w : World) (x : RA) : RdR (w.alloc (.cells #[.string x.ro.key, .string x.ro.live.s, .bool x.ro.live.d, .int .i64 x.ro.live.a, .int .i64 x.ro.live.e, .int .i64 x.ro.gone, .int .i64 x.ro.shade, .slice x.A x.ro.cols.length x.c] 57)) (w.heap.size + 1) (some ⟨w.heap.size, 0, none⟩) 1 [x] := RdR.one w x w.heap.size rfl
end Go.Proofs.YthfanonjokpflaaGreat
