/-
  copy, of columns; the developers' copyRow.
-/
import Derived.Test.YtafbbojfifcncaaPm0
import Derived.Test.YtafbbojfifcncaaRw7
import Derived.Laws.CopyOwn
set_option linter.unusedVariables false
set_option linter.unusedSimpArgs false
namespace Go.Proofs.Ytafbbojfifcncaa
open Go Go.RowKit

theorem setRow_kept (w : World) (g : Nat) (cs : Array Value) : Kept (fun k => k = g) w (w.setRow g cs) :=
  ⟨rfl, rfl, rfl, by simp [World.setRow], fun k _ hk => setRow_other w g k cs (fun e => hk e)⟩
theorem run_copyK {w : World} {g n c B : Nat} {A : Option Addr} {l : Cols} {cur : Array Value} (h : RdK w B A n l) (hg : w.heap[g]? = some (.cells cur 66 (0, 0))) (hs : cur.size = n * 5) (ty : TypeId) :
    ∃ w', (Builtin.copy_ #[34, 34] ty #[.slice (some ⟨g, 0, none⟩) n n, .slice A n c]).run Try.prog w = .ok (goInt n) w' ∧ (w'.heap[g]? = some (.cells (kRow l).toArray 66 (0, 0)) ∧ Kept (fun k => k = g) w w') := by
  obtain ⟨i, hi, hz0, hz1, hz2⟩ := info_parts infoK
  have hl : (kRow l).length = n * 5 := by rw [kRow_length, h.1]
  cases A with
  | none =>
    have h0 : n = 0 := by
      rcases Nat.eq_zero_or_pos n with h1 | h1
      · exact h1
      · obtain ⟨g, o, e, _⟩ := h.2 h1; cases e
    subst h0
    obtain rfl : l = [] := List.eq_nil_of_length_eq_zero h.1
    refine ⟨w, ?_, ?_, Kept.refl _ _⟩
    · simp [Builtin.copy_, run_underlying Try.underlying34, Builtin.lenOf, Builtin.firstCells, sizeOf, typeInfo, hi, hz1, storeCells]
    · have : cur = #[] := Array.eq_empty_of_size_eq_zero (by omega)
      rw [hg, this]
      rfl
  | some ad =>
    have h1 := run_loadCells_list (P := Try.prog) w ad (kRow l) h.all
    rw [hl] at h1
    have h2 := run_storeCells_at Try.prog g 0 66 (kRow l) 0 cur w hg (by omega) (kRow_one l)
    have e : (cur.toList.take (0 + 0) ++ kRow l ++ cur.toList.drop (0 + 0 + (kRow l).length)).toArray = (kRow l).toArray := by
      rw [List.take_zero, List.nil_append, List.drop_of_length_le (by rw [hl]; simp; omega), List.append_nil]
    rw [e] at h2
    refine ⟨w.setRow g (kRow l).toArray, ?_, setRow_heap w g cur _ _ _ hg, setRow_kept w g _⟩
    simp [Builtin.copy_, run_underlying Try.underlying34, Builtin.lenOf, Builtin.firstCells, sizeOf, typeInfo, hi, hz1, h1, h2]
/-- copy, in a plain region. -/
theorem list_copy {w : World} {ops : Array Oper} {rest : List Oper} {o : Oper} {a : Act} {Q : Exit → Act → World → Prop} (hgd : o.guard = none) (s x : Operand) (t u : TypeId)
    (ho : o.op = .call { callee := .builtin .copy, args := #[s, x], argTypes := #[t, u] }) (va vb v : Value) (hs : a.eval s = va) (hx : a.eval x = vb) {R1 R2 : World → Prop}
    (hr : ∀ ty, ∃ w', (Builtin.copy_ #[t, u] ty #[va, vb]).run Try.prog w = .ok v w' ∧ (R1 w' ∧ R2 w'))
    (h : ∀ w', R1 w' → R2 w' → wpList Try.prog ops Q rest (a.put o.dst v) w') : wpList Try.prog ops Q (o :: rest) a w := by
  refine wpList_plain hgd fun K hK => ?_
  obtain ⟨w', hrun, h2, h3⟩ := hr o.type
  unfold Oper.wp execOp
  simp only [ho, resolve, invoke, builtin, Sem.run_bind, Sem.run_pure, Result.andThen_ok, List.map_toArray, List.map_cons, List.map_nil, hs, hx, hrun]
  exact hK _ _ (h w' h2 h3)
theorem run_makeKn (w : World) (n : Nat) (hn : n ≤ 1000000) :
    (Instr.makeSlice 34 (.int .i64 (n : Nat)) (.int .i64 (n : Nat))).run Try.prog w = .ok (.slice (some ⟨w.heap.size, 0, none⟩) n n) (w.alloc (.cells (madeCells #[.string ⟨#[]⟩, .string ⟨#[]⟩, .bool false, .int .i64 0, .int .i64 0] (n * 5)) 66)) := by
  obtain ⟨i, hi, hz0, hz1, hz2⟩ := info_parts infoK
  have h := run_make (P := Try.prog) w 34 66 i _ Try.underlying34 hi hz0 .i64 .i64 (n : Int) (n : Int) (by omega) (by omega) (by rw [hz2]; omega) (by omega)
  rw [hz1, Int.toNat_natCast] at h
  exact h
theorem kept_set80 {w : World} (g : Nat) (x : RA) : Kept (fun k => k = g) w (World.setCell (World.setCell (World.setCell (World.setCell (World.setCell (World.setCell (World.setCell (World.setCell w ⟨g, 0, none⟩ (.string x.ro.key)) ⟨g, 1, none⟩ (.string x.ro.live.s)) ⟨g, 2, none⟩ (.bool x.ro.live.d)) ⟨g, 3, none⟩ (.int .i64 x.ro.live.a)) ⟨g, 4, none⟩ (.int .i64 x.ro.live.e)) ⟨g, 5, none⟩ (.int .i64 x.ro.gone)) ⟨g, 6, none⟩ (.int .i64 x.ro.shade)) ⟨g, 7, none⟩ (.slice x.A x.ro.cols.length x.c)) :=
  (((((((((Kept.refl (fun k => k = g) w).trans (Kept.setCell (fun k => k = g) _ ⟨g, 0, none⟩ _ rfl) fun _ h => Or.inl h).trans (Kept.setCell (fun k => k = g) _ ⟨g, 1, none⟩ _ rfl) fun _ h => Or.inl h).trans (Kept.setCell (fun k => k = g) _ ⟨g, 2, none⟩ _ rfl) fun _ h => Or.inl h).trans (Kept.setCell (fun k => k = g) _ ⟨g, 3, none⟩ _ rfl) fun _ h => Or.inl h).trans (Kept.setCell (fun k => k = g) _ ⟨g, 4, none⟩ _ rfl) fun _ h => Or.inl h).trans (Kept.setCell (fun k => k = g) _ ⟨g, 5, none⟩ _ rfl) fun _ h => Or.inl h).trans (Kept.setCell (fun k => k = g) _ ⟨g, 6, none⟩ _ rfl) fun _ h => Or.inl h).trans (Kept.setCell (fun k => k = g) _ ⟨g, 7, none⟩ _ rfl) fun _ h => Or.inl h)
/-- A row's block, whose last cell is set. -/
theorem block_set7 {w : World} {r : Nat} {v0 v1 v2 v3 v4 v5 v6 v7 : Value} (hr : w.heap[r]? = some (.cells #[v0, v1, v2, v3, v4, v5, v6, v7] 36 (0, 0))) (u : Value) : (w.setCell ⟨r, 7, none⟩ u).heap[r]? = some (.cells #[v0, v1, v2, v3, v4, v5, v6, u] 36 (0, 0)) := by
  have m := Joins.block_setCell (i := 7) hr u
  simp only [List.setIfInBounds_toArray, List.set_cons_zero, List.set_cons_succ] at m
  exact m
set_option maxRecDepth 8000 in
set_option maxHeartbeats 4000000 in
theorem copyrow_ra (x : RA) (B : Nat) (w : World) (h : RaIn w B x) (hB : B ≤ w.heap.size) (hn : x.ro.cols.length ≤ 1000) :
    Calls Try.prog 40 #[.agg #[.string x.ro.key, .string x.ro.live.s, .bool x.ro.live.d, .int .i64 x.ro.live.a, .int .i64 x.ro.live.e, .int .i64 x.ro.gone, .int .i64 x.ro.shade, .slice x.A x.ro.cols.length x.c]] w fun e w' => ∃ z : RA, e = .returned z.v ∧ z.ro = x.ro ∧ Cur w w' (.slice z.A z.ro.cols.length z.c) z.ro.cols := by
  obtain ⟨n, hn'⟩ : ∃ n, x.ro.cols.length = n := ⟨_, rfl⟩
  have bz := ((Below.refl w.heap.size w).alloc (Nat.le_refl _) (.cells #[.string x.ro.key, .string x.ro.live.s, .bool x.ro.live.d, .int .i64 x.ro.live.a, .int .i64 x.ro.live.e, .int .i64 x.ro.gone, .int .i64 x.ro.shade, .slice x.A x.ro.cols.length x.c] 36)).alloc (by simp) (.cells #[.string ⟨#[]⟩, .string ⟨#[]⟩, .bool false, .int .i64 0, .int .i64 0, .int .i64 0, .int .i64 0, .slice none 0 0] 36)
  have hz0 := new_at (heap_alloc_new w (.cells #[.string x.ro.key, .string x.ro.live.s, .bool x.ro.live.d, .int .i64 x.ro.live.a, .int .i64 x.ro.live.e, .int .i64 x.ro.gone, .int .i64 x.ro.shade, .slice x.A x.ro.cols.length x.c] 36)) (.cells #[.string ⟨#[]⟩, .string ⟨#[]⟩, .bool false, .int .i64 0, .int .i64 0, .int .i64 0, .int .i64 0, .slice none 0 0] 36)
  have hz1 := heap_alloc_new (w.alloc (.cells #[.string x.ro.key, .string x.ro.live.s, .bool x.ro.live.d, .int .i64 x.ro.live.a, .int .i64 x.ro.live.e, .int .i64 x.ro.gone, .int .i64 x.ro.shade, .slice x.A x.ro.cols.length x.c] 36)) (.cells #[.string ⟨#[]⟩, .string ⟨#[]⟩, .bool false, .int .i64 0, .int .i64 0, .int .i64 0, .int .i64 0, .slice none 0 0] 36)
  simp only [World.size_alloc] at hz1
  have hrd := (h.below (bz.mono hB)).rd
  have hrl := hrd.1
  rw [hn'] at hn hz0 hz1 bz hrd
  rw [hn']
  obtain ⟨U, hU⟩ : ∃ U, U = (w.alloc (.cells #[.string x.ro.key, .string x.ro.live.s, .bool x.ro.live.d, .int .i64 x.ro.live.a, .int .i64 x.ro.live.e, .int .i64 x.ro.gone, .int .i64 x.ro.shade, .slice x.A n x.c] 36)).alloc (.cells #[.string ⟨#[]⟩, .string ⟨#[]⟩, .bool false, .int .i64 0, .int .i64 0, .int .i64 0, .int .i64 0, .slice none 0 0] 36) := ⟨_, rfl⟩
  have hUs : U.heap.size = w.heap.size + 2 := by rw [hU]; simp
  rw [← hU] at hz0 hz1 bz hrd
  have k7 : U.cell? ⟨w.heap.size, 7, none⟩ = some (.slice x.A n x.c) := cell_at (i := 7) hz0 rfl
  have hmk := run_makeKn U n (by omega)
  obtain ⟨V, hV⟩ : ∃ V, V = U.alloc (.cells (madeCells #[.string ⟨#[]⟩, .string ⟨#[]⟩, .bool false, .int .i64 0, .int .i64 0] (n * 5)) 66) := ⟨_, rfl⟩
  have hv := heap_alloc_new U (.cells (madeCells #[.string ⟨#[]⟩, .string ⟨#[]⟩, .bool false, .int .i64 0, .int .i64 0] (n * 5)) 66)
  have bv := (Below.refl U.heap.size U).alloc (Nat.le_refl _) (.cells (madeCells #[.string ⟨#[]⟩, .string ⟨#[]⟩, .bool false, .int .i64 0, .int .i64 0] (n * 5)) 66)
  rw [← hV] at hmk hv bv
  rw [hUs] at hmk hv
  have kv7 := (bv.cell (p := ⟨w.heap.size, 7, none⟩) (show w.heap.size < U.heap.size by omega)).trans k7
  have HZ0 := Lib.hid ((bv.block w.heap.size (by omega)).trans hz0); have HZ1 := Lib.hid ((bv.block (w.heap.size + 1) (by omega)).trans hz1)
  have HV := Lib.hid hv; have BV := Lib.hid (next bz bv); have HRD := Lib.hid (hrd.below (bv.mono (by omega))); have HUS := Lib.hid hUs; have HN := Lib.hid hn'
  clear hz0 hz1 hv bv bz hrd hUs h hn'
  go_enter Try.func40, Try.ntmps40
  go_wp2_with fail
  rw [← hU]
  clear hU
  go_wp2_with fail
  rw [hmk]
  simp only [Result.andThen]
  rw [Oper.upon_value]
  clear hmk k7 hV
  go_wp2_with (refine list_copy rfl (.tmp 8) (.tmp 10) _ _ rfl (.slice (some ⟨w.heap.size + 2, 0, none⟩) n n) (.slice x.A n x.c) (goInt n) rfl rfl (run_copyK HRD.out HV.out (size_madeCells _ _)) ?_)
  intro w2 h2 hk2
  have hs2 := hk2.size
  have hvs := BV.out.size
  have hlt : w.heap.size + 2 < V.heap.size := (Array.getElem?_eq_some_iff.1 HV.out).1
  have HY0 := Lib.hid ((hk2.block w.heap.size (by omega) (by omega)).trans HZ0.out); have HY1 := Lib.hid ((hk2.block (w.heap.size + 1) (by omega) (by omega)).trans HZ1.out)
  have B2 := Lib.hid (BV.out.trans (hk2.below (B := w.heap.size) (fun k e => by omega) (by omega))); have HC2 := Lib.hid h2
  have k7 : w2.cell? ⟨w.heap.size, 7, none⟩ = some (.slice x.A n x.c) := cell_at (i := 7) HY0.out rfl
  have f7 := thawed_at (i := 7) HY0.out
  clear h2 hk2 hs2 hvs hlt
  have m3 := block_set7 HY0.out (.slice (some ⟨w.heap.size + 2, 0, none⟩) n n)
  have n3 := (Below.heap_setCell w2 ⟨w.heap.size, 7, none⟩ (.slice (some ⟨w.heap.size + 2, 0, none⟩) n n) (w.heap.size + 1) (by simp)).trans HY1.out
  have r0 := cell_at (i := 0) m3 rfl
  have r1 := cell_at (i := 1) m3 rfl
  have r2 := cell_at (i := 2) m3 rfl
  have r3 := cell_at (i := 3) m3 rfl
  have r4 := cell_at (i := 4) m3 rfl
  have r5 := cell_at (i := 5) m3 rfl
  have r6 := cell_at (i := 6) m3 rfl
  have r7 := cell_at (i := 7) m3 rfl
  have z0 := cell_at (i := 0) n3 rfl
  have z1 := cell_at (i := 1) n3 rfl
  have z2 := cell_at (i := 2) n3 rfl
  have z3 := cell_at (i := 3) n3 rfl
  have z4 := cell_at (i := 4) n3 rfl
  have z5 := cell_at (i := 5) n3 rfl
  have z6 := cell_at (i := 6) n3 rfl
  have z7 := cell_at (i := 7) n3 rfl
  have y0 := thawed_at (i := 0) n3
  have y1 := thawed_at (i := 1) n3
  have y2 := thawed_at (i := 2) n3
  have y3 := thawed_at (i := 3) n3
  have y4 := thawed_at (i := 4) n3
  have y5 := thawed_at (i := 5) n3
  have y6 := thawed_at (i := 6) n3
  have y7 := thawed_at (i := 7) n3
  have N3 := Lib.hid n3
  clear m3 n3
  go_wp2
  have hn' := HN.out
  subst hn'
  have m9 := set8_block N3.out (⟨x.ro, some ⟨w.heap.size + 2, 0, none⟩, x.ro.cols.length⟩ : RA)
  have k9 := (Kept.setCell (fun k => k = w.heap.size ∨ k = w.heap.size + 1) w2 ⟨w.heap.size, 7, none⟩ (.slice (some ⟨w.heap.size + 2, 0, none⟩) x.ro.cols.length x.ro.cols.length) (Or.inl rfl)).trans (kept_set80 (w.heap.size + 1) (⟨x.ro, some ⟨w.heap.size + 2, 0, none⟩, x.ro.cols.length⟩ : RA)) fun k hk => Or.inl (Or.inr hk)
  dsimp only at m9 k9
  generalize hw9 : (World.setCell (World.setCell (World.setCell (World.setCell (World.setCell (World.setCell (World.setCell (World.setCell (w2.setCell ⟨w.heap.size, 7, none⟩ (.slice (some ⟨w.heap.size + 2, 0, none⟩) x.ro.cols.length x.ro.cols.length)) ⟨w.heap.size + 1, 0, none⟩ (.string x.ro.key)) ⟨w.heap.size + 1, 1, none⟩ (.string x.ro.live.s)) ⟨w.heap.size + 1, 2, none⟩ (.bool x.ro.live.d)) ⟨w.heap.size + 1, 3, none⟩ (.int .i64 x.ro.live.a)) ⟨w.heap.size + 1, 4, none⟩ (.int .i64 x.ro.live.e)) ⟨w.heap.size + 1, 5, none⟩ (.int .i64 x.ro.gone)) ⟨w.heap.size + 1, 6, none⟩ (.int .i64 x.ro.shade)) ⟨w.heap.size + 1, 7, none⟩ (.slice (some ⟨w.heap.size + 2, 0, none⟩) x.ro.cols.length x.ro.cols.length)) = w9 at m9 k9 ⊢
  clear hw9 r0 r1 r2 r3 r4 r5 r6 r7 z0 z1 z2 z3 z4 z5 z6 z7 y0 y1 y2 y3 y4 y5 y6 y7
  have q0 := cell_at (i := 0) m9 rfl
  have q1 := cell_at (i := 1) m9 rfl
  have q2 := cell_at (i := 2) m9 rfl
  have q3 := cell_at (i := 3) m9 rfl
  have q4 := cell_at (i := 4) m9 rfl
  have q5 := cell_at (i := 5) m9 rfl
  have q6 := cell_at (i := 6) m9 rfl
  have q7 := cell_at (i := 7) m9 rfl
  refine bodyPost_ret (v := .agg #[.string x.ro.key, .string x.ro.live.s, .bool x.ro.live.d, .int .i64 x.ro.live.a, .int .i64 x.ro.live.e, .int .i64 x.ro.gone, .int .i64 x.ro.shade, .slice (some ⟨w.heap.size + 2, 0, none⟩) x.ro.cols.length x.ro.cols.length]) (by simp [results, Try.results40, go_sem, q0, q1, q2, q3, q4, q5, q6, q7]) rfl ⟨⟨x.ro, some ⟨w.heap.size + 2, 0, none⟩, x.ro.cols.length⟩, rfl, rfl, ?_, ?_⟩
  · have hc9 : w9.heap[w.heap.size + 2]? = some (.cells (kRow x.ro.cols).toArray 66 (0, 0)) := (k9.block (w.heap.size + 2) (Array.getElem?_eq_some_iff.1 HC2.out).1 (by omega)).trans HC2.out
    exact ⟨kRow_length _, Or.inr ⟨w.heap.size + 2, x.ro.cols.length, _, rfl, by omega, hc9, Nat.le_refl _, by unfold maxLen; omega, by simp [kRow_length], by rw [List.take_of_length_le (by rw [List.toList_toArray, kRow_length]; exact Nat.le_refl _)]⟩⟩
  · exact B2.out.trans (k9.below (B := w.heap.size) (fun k e => by omega) B2.out.size)
end Go.Proofs.Ytafbbojfifcncaa
