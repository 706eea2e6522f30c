import Derived.Test.YtmpcnhpdobdmcaaGreatDoorLawNotesBD
import Derived.Laws.CopyOwn
open Go.Lib (hid)
open List renaming getElem_toArray -> zq1,getElem_cons_succ -> zq2,getElem_cons_zero -> zq3,setIfInBounds_toArray -> zq4,set_cons_zero -> zq5,set_cons_succ -> zq6
set_option linter.unusedVariables false
set_option linter.unusedSimpArgs false
set_option maxHeartbeats 8000000
set_option maxRecDepth 8000
namespace Go.Proofs.YtmpcnhpdobdmcaaGreatDoor
open Go Go.RowKit
theorem setRow_kept (w : World) (g : Nat) (cs : Array Value) : Kept (fun k => k = g) w (w.setRow g cs) :=
 ⟨rfl,rfl,rfl,by simp [World.setRow],fun k _ hk => setRow_other w g k cs (fun e => hk e)⟩
theorem run_copyK {w : World} {g n c B : Nat} {A : Option Addr} {l : Cols} {cur : Array Value} (h : RdK w B A n l) (hg : w.heap[g]? = some (.cells cur 282 (0,0))) (hs : cur.size = n * 5) (ty : TypeId) :
    ∃ w',(Builtin.copy_ #[43,43] ty #[.slice (some ⟨g,0,none⟩) n n,.slice A n c]).run Tryz.prog w = .ok (goInt n) w' /\ (w'.heap[g]? = some (.cells (kRow l).toArray 282 (0,0)) /\ Kept (fun k => k = g) w w') := by
 obtain ⟨i,hi,hz0,hz1,hz2⟩ := info_parts infoK
 have hl : (kRow l).length = n * 5 := by rw [kRow_length,h.1]
 cases A with
 | none =>
   have h0 : n = 0 := by
    rcases Nat.eq_zero_or_pos n with h1 | h1
    ·exact h1
    ·obtain ⟨g,o,e,_⟩ := h.2 h1; cases e
   subst h0
   obtain rfl : l = [] := List.eq_nil_of_length_eq_zero h.1
   refine ⟨w,?_,?_,Kept.refl _ _⟩
   ·simp [Builtin.copy_,run_underlying Tryz.underlying43,Builtin.lenOf,Builtin.firstCells,sizeOf,typeInfo,hi,hz1,storeCells]
   ·have : cur = #[] := Array.eq_empty_of_size_eq_zero (by omega)
    rw [hg,this]
    rfl
 | some ad =>
   have h1 := run_loadCells_list (P := Tryz.prog) w ad (kRow l) h.all
   rw [hl] at h1
   have h2 := run_storeCells_at Tryz.prog g 0 282 (kRow l) 0 cur w hg (by omega) (kRow_one l)
   have e : (cur.toList.take (0 + 0) ++ kRow l ++ cur.toList.drop (0 + 0 + (kRow l).length)).toArray = (kRow l).toArray := by
    rw [List.take_zero,List.nil_append,List.drop_of_length_le (by rw [hl]; simp; omega),List.append_nil]
   rw [e] at h2
   refine ⟨w.setRow g (kRow l).toArray,?_,setRow_heap w g cur _ _ _ hg,setRow_kept w g _⟩
   simp [Builtin.copy_,run_underlying Tryz.underlying43,Builtin.lenOf,Builtin.firstCells,sizeOf,typeInfo,hi,hz1,h1,h2]
theorem list_copy {w : World} {ops : Array Oper} {rest : List Oper} {o : Oper} {a : Act} {Q : Exit -> Act -> World -> Prop} (hgd : o.guard = none) (s x : Operand) (t u : TypeId)
    (ho : o.op = .call { callee := .builtin .copy,args := #[s,x],argTypes := #[t,u] }) (va vb v : Value) (hs : a.eval s = va) (hx : a.eval x = vb) {R1 R2 : World -> Prop}
    (hr : ∀ ty,∃ w',(Builtin.copy_ #[t,u] ty #[va,vb]).run Tryz.prog w = .ok v w' /\ (R1 w' /\ R2 w'))
    (h : ∀ w',R1 w' -> R2 w' -> wpList Tryz.prog ops Q rest (a.put o.dst v) w') : wpList Tryz.prog ops Q (o :: rest) a w := by
 refine wpList_plain hgd fun K hK => ?_
 obtain ⟨w',hrun,h2,h3⟩ := hr o.type
 unfold Oper.wp execOp
 simp only [ho,resolve,invoke,builtin,Sem.run_bind,Sem.run_pure,Result.andThen_ok,List.map_toArray,List.map_cons,List.map_nil,hs,hx,hrun]
 exact hK _ _ (h w' h2 h3)
theorem run_makeKn (w : World) (n : Nat) (hn : n <= 1000000) :
    (Instr.makeSlice 43 (.int .i64 (n : Nat)) (.int .i64 (n : Nat))).run Tryz.prog w = .ok (.slice (some ⟨w.heap.size,0,none⟩) n n) (w.alloc (.cells (madeCells #[.string ⟨#[]⟩,.string ⟨#[]⟩,.bool false,.int .i64 0,.int .i64 0] (n * 5)) 282)) := by
 obtain ⟨i,hi,hz0,hz1,hz2⟩ := info_parts infoK
 have h := run_make (P := Tryz.prog) w 43 282 i _ Tryz.underlying43 hi hz0 .i64 .i64 (n : Int) (n : Int) (by omega) (by omega) (by rw [hz2]; omega) (by omega)
 rw [hz1,Int.toNat_natCast] at h
 exact h
theorem kept_set80 {w : World} (g : Nat) (x : RA) : Kept (fun k => k = g) w (World.setCell (World.setCell (World.setCell (World.setCell (World.setCell (World.setCell (World.setCell (World.setCell w ⟨g,0,none⟩ (.string x.ro.key)) ⟨g,1,none⟩ (.string x.ro.live.s)) ⟨g,2,none⟩ (.bool x.ro.live.d)) ⟨g,3,none⟩ (.int .i64 x.ro.live.a)) ⟨g,4,none⟩ (.int .i64 x.ro.live.e)) ⟨g,5,none⟩ (.int .i64 x.ro.gone)) ⟨g,6,none⟩ (.int .i64 x.ro.shade)) ⟨g,7,none⟩ (.slice x.A x.ro.cols.length x.c)) :=
 (((((((((Kept.refl (fun k => k = g) w).trans (Kept.setCell (fun k => k = g) _ ⟨g,0,none⟩ _ rfl) fun _ h => Or.inl h).trans (Kept.setCell (fun k => k = g) _ ⟨g,1,none⟩ _ rfl) fun _ h => Or.inl h).trans (Kept.setCell (fun k => k = g) _ ⟨g,2,none⟩ _ rfl) fun _ h => Or.inl h).trans (Kept.setCell (fun k => k = g) _ ⟨g,3,none⟩ _ rfl) fun _ h => Or.inl h).trans (Kept.setCell (fun k => k = g) _ ⟨g,4,none⟩ _ rfl) fun _ h => Or.inl h).trans (Kept.setCell (fun k => k = g) _ ⟨g,5,none⟩ _ rfl) fun _ h => Or.inl h).trans (Kept.setCell (fun k => k = g) _ ⟨g,6,none⟩ _ rfl) fun _ h => Or.inl h).trans (Kept.setCell (fun k => k = g) _ ⟨g,7,none⟩ _ rfl) fun _ h => Or.inl h)
theorem block_set7 {w : World} {r : Nat} {v0 v1 v2 v3 v4 v5 v6 v7 : Value} (hr : w.heap[r]? = some (.cells #[v0,v1,v2,v3,v4,v5,v6,v7] 45 (0,0))) (u : Value) : (w.setCell ⟨r,7,none⟩ u).heap[r]? = some (.cells #[v0,v1,v2,v3,v4,v5,v6,u] 45 (0,0)) := by
 have m := Joins.block_setCell (i := 7) hr u
 simp only [zq4,zq5,zq6] at m
 exact m
theorem copyrow_ra (x : RA) (B : Nat) (w : World) (h : RaIn w B x) (hB : B <= w.heap.size) (hn : x.ro.cols.length <= 1000000) :
    Calls Tryz.prog 92 #[.agg #[.string x.ro.key,.string x.ro.live.s,.bool x.ro.live.d,.int .i64 x.ro.live.a,.int .i64 x.ro.live.e,.int .i64 x.ro.gone,.int .i64 x.ro.shade,.slice x.A x.ro.cols.length x.c]] w fun e w' => ∃ z : RA,e = .returned z.v /\ z.ro = x.ro /\ Cur w w' (.slice z.A z.ro.cols.length z.c) z.ro.cols := by
 obtain ⟨n,hn'⟩ : ∃ n,x.ro.cols.length = n := ⟨_,rfl⟩
 have bz := ((Below.refl w.heap.size w).alloc (Nat.le_refl _) (.cells #[.string x.ro.key,.string x.ro.live.s,.bool x.ro.live.d,.int .i64 x.ro.live.a,.int .i64 x.ro.live.e,.int .i64 x.ro.gone,.int .i64 x.ro.shade,.slice x.A x.ro.cols.length x.c] 45)).alloc (by simp) (.cells #[.string ⟨#[]⟩,.string ⟨#[]⟩,.bool false,.int .i64 0,.int .i64 0,.int .i64 0,.int .i64 0,.slice none 0 0] 45)
 have hz0 := new_at (heap_alloc_new w (.cells #[.string x.ro.key,.string x.ro.live.s,.bool x.ro.live.d,.int .i64 x.ro.live.a,.int .i64 x.ro.live.e,.int .i64 x.ro.gone,.int .i64 x.ro.shade,.slice x.A x.ro.cols.length x.c] 45)) (.cells #[.string ⟨#[]⟩,.string ⟨#[]⟩,.bool false,.int .i64 0,.int .i64 0,.int .i64 0,.int .i64 0,.slice none 0 0] 45)
 have hz1 := heap_alloc_new (w.alloc (.cells #[.string x.ro.key,.string x.ro.live.s,.bool x.ro.live.d,.int .i64 x.ro.live.a,.int .i64 x.ro.live.e,.int .i64 x.ro.gone,.int .i64 x.ro.shade,.slice x.A x.ro.cols.length x.c] 45)) (.cells #[.string ⟨#[]⟩,.string ⟨#[]⟩,.bool false,.int .i64 0,.int .i64 0,.int .i64 0,.int .i64 0,.slice none 0 0] 45)
 simp only [World.size_alloc] at hz1
 have hrd := (h.below (bz.mono hB)).rd
 have hrl := hrd.1
 rw [hn'] at hn hz0 hz1 bz hrd
 rw [hn']
 obtain ⟨U,hU⟩ : ∃ U,U = (w.alloc (.cells #[.string x.ro.key,.string x.ro.live.s,.bool x.ro.live.d,.int .i64 x.ro.live.a,.int .i64 x.ro.live.e,.int .i64 x.ro.gone,.int .i64 x.ro.shade,.slice x.A n x.c] 45)).alloc (.cells #[.string ⟨#[]⟩,.string ⟨#[]⟩,.bool false,.int .i64 0,.int .i64 0,.int .i64 0,.int .i64 0,.slice none 0 0] 45) := ⟨_,rfl⟩
 have hUs : U.heap.size = w.heap.size + 2 := by rw [hU]; simp
 rw [<- hU] at hz0 hz1 bz hrd
 have k7 : U.cell? ⟨w.heap.size,7,none⟩ = some (.slice x.A n x.c) := cell_at (i := 7) hz0 rfl
 have hmk := run_makeKn U n (by omega)
 obtain ⟨V,hV⟩ : ∃ V,V = U.alloc (.cells (madeCells #[.string ⟨#[]⟩,.string ⟨#[]⟩,.bool false,.int .i64 0,.int .i64 0] (n * 5)) 282) := ⟨_,rfl⟩
 have hv := heap_alloc_new U (.cells (madeCells #[.string ⟨#[]⟩,.string ⟨#[]⟩,.bool false,.int .i64 0,.int .i64 0] (n * 5)) 282)
 have bv := (Below.refl U.heap.size U).alloc (Nat.le_refl _) (.cells (madeCells #[.string ⟨#[]⟩,.string ⟨#[]⟩,.bool false,.int .i64 0,.int .i64 0] (n * 5)) 282)
 rw [<- hV] at hmk hv bv
 rw [hUs] at hmk hv
 have kv7 := (bv.cell (p := ⟨w.heap.size,7,none⟩) (show w.heap.size < U.heap.size by omega)).trans k7
 have HZ0 := hid ((bv.block w.heap.size (by omega)).trans hz0); have HZ1 := hid ((bv.block (w.heap.size + 1) (by omega)).trans hz1)
 have HV := hid hv; have BV := hid (next bz bv); have HRD := hid (hrd.below (bv.mono (by omega))); have HUS := hid hUs; have HN := hid hn'
 clear hz0 hz1 hv bv bz hrd hUs h hn'
 go_enter Tryz.func92,Tryz.ntmps92
 go_wp2_with fail
 rw [<- hU]
 clear hU
 go_wp2_with fail
 rw [hmk]
 simp only [Result.andThen]
 rw [Oper.upon_value]
 clear hmk k7 hV
 go_wp2_with (refine list_copy rfl (.tmp 8) (.tmp 10) _ _ rfl (.slice (some ⟨w.heap.size + 2,0,none⟩) n n) (.slice x.A n x.c) (goInt n) rfl rfl (run_copyK HRD.out HV.out (size_madeCells _ _)) ?_)
 intro w2 h2 hk2
 have hs2 := hk2.size
 have hvs := BV.out.size
 have hlt : w.heap.size + 2 < V.heap.size := (Array.getElem?_eq_some_iff.1 HV.out).1
 have HY0 := hid ((hk2.block w.heap.size (by omega) (by omega)).trans HZ0.out); have HY1 := hid ((hk2.block (w.heap.size + 1) (by omega) (by omega)).trans HZ1.out)
 have B2 := hid (BV.out.trans (hk2.below (B := w.heap.size) (fun k e => by omega) (by omega))); have HC2 := hid h2
 have k7 : w2.cell? ⟨w.heap.size,7,none⟩ = some (.slice x.A n x.c) := cell_at (i := 7) HY0.out rfl
 have f7 := thawed_at (i := 7) HY0.out
 clear h2 hk2 hs2 hvs hlt
 have m3 := block_set7 HY0.out (.slice (some ⟨w.heap.size + 2,0,none⟩) n n)
 have n3 := (Below.heap_setCell w2 ⟨w.heap.size,7,none⟩ (.slice (some ⟨w.heap.size + 2,0,none⟩) n n) (w.heap.size + 1) (by simp)).trans HY1.out
 have r0 := cell_at (i := 0) m3 rfl
 have r1 := cell_at (i := 1) m3 rfl
 have r2 := cell_at (i := 2) m3 rfl
 have r3 := cell_at (i := 3) m3 rfl
 have r4 := cell_at (i := 4) m3 rfl
 have r5 := cell_at (i := 5) m3 rfl
 have r6 := cell_at (i := 6) m3 rfl
 have r7 := cell_at (i := 7) m3 rfl
 have z0 := cell_at (i := 0) n3 rfl
 have z1 := cell_at (i := 1) n3 rfl
 have z2 := cell_at (i := 2) n3 rfl
 have z3 := cell_at (i := 3) n3 rfl
 have z4 := cell_at (i := 4) n3 rfl
 have z5 := cell_at (i := 5) n3 rfl
 have z6 := cell_at (i := 6) n3 rfl
 have z7 := cell_at (i := 7) n3 rfl
 have y0 := thawed_at (i := 0) n3
 have y1 := thawed_at (i := 1) n3
 have y2 := thawed_at (i := 2) n3
 have y3 := thawed_at (i := 3) n3
 have y4 := thawed_at (i := 4) n3
 have y5 := thawed_at (i := 5) n3
 have y6 := thawed_at (i := 6) n3
 have y7 := thawed_at (i := 7) n3
 have N3 := hid n3
 clear m3 n3
 go_wp2
 have hn' := HN.out
 subst hn'
 have m9 := set8_block N3.out (⟨x.ro,some ⟨w.heap.size + 2,0,none⟩,x.ro.cols.length⟩ : RA)
 have k9 := (Kept.setCell (fun k => k = w.heap.size \/ k = w.heap.size + 1) w2 ⟨w.heap.size,7,none⟩ (.slice (some ⟨w.heap.size + 2,0,none⟩) x.ro.cols.length x.ro.cols.length) (Or.inl rfl)).trans (kept_set80 (w.heap.size + 1) (⟨x.ro,some ⟨w.heap.size + 2,0,none⟩,x.ro.cols.length⟩ : RA)) fun k hk => Or.inl (Or.inr hk)
 dsimp only at m9 k9
 generalize hw9 : (World.setCell (World.setCell (World.setCell (World.setCell (World.setCell (World.setCell (World.setCell (World.setCell (w2.setCell ⟨w.heap.size,7,none⟩ (.slice (some ⟨w.heap.size + 2,0,none⟩) x.ro.cols.length x.ro.cols.length)) ⟨w.heap.size + 1,0,none⟩ (.string x.ro.key)) ⟨w.heap.size + 1,1,none⟩ (.string x.ro.live.s)) ⟨w.heap.size + 1,2,none⟩ (.bool x.ro.live.d)) ⟨w.heap.size + 1,3,none⟩ (.int .i64 x.ro.live.a)) ⟨w.heap.size + 1,4,none⟩ (.int .i64 x.ro.live.e)) ⟨w.heap.size + 1,5,none⟩ (.int .i64 x.ro.gone)) ⟨w.heap.size + 1,6,none⟩ (.int .i64 x.ro.shade)) ⟨w.heap.size + 1,7,none⟩ (.slice (some ⟨w.heap.size + 2,0,none⟩) x.ro.cols.length x.ro.cols.length)) = w9 at m9 k9 ⊢
 clear hw9 r0 r1 r2 r3 r4 r5 r6 r7 z0 z1 z2 z3 z4 z5 z6 z7 y0 y1 y2 y3 y4 y5 y6 y7
 have q0 := cell_at (i := 0) m9 rfl
 have q1 := cell_at (i := 1) m9 rfl
 have q2 := cell_at (i := 2) m9 rfl
 have q3 := cell_at (i := 3) m9 rfl
 have q4 := cell_at (i := 4) m9 rfl
 have q5 := cell_at (i := 5) m9 rfl
 have q6 := cell_at (i := 6) m9 rfl
 have q7 := cell_at (i := 7) m9 rfl
 refine bodyPost_ret (v := .agg #[.string x.ro.key,.string x.ro.live.s,.bool x.ro.live.d,.int .i64 x.ro.live.a,.int .i64 x.ro.live.e,.int .i64 x.ro.gone,.int .i64 x.ro.shade,.slice (some ⟨w.heap.size + 2,0,none⟩) x.ro.cols.length x.ro.cols.length]) (by simp [results,Tryz.results92,go_sem,q0,q1,q2,q3,q4,q5,q6,q7]) rfl ⟨⟨x.ro,some ⟨w.heap.size + 2,0,none⟩,x.ro.cols.length⟩,rfl,rfl,?_,?_⟩
 ·have hc9 : w9.heap[w.heap.size + 2]? = some (.cells (kRow x.ro.cols).toArray 282 (0,0)) := (k9.block (w.heap.size + 2) (Array.getElem?_eq_some_iff.1 HC2.out).1 (by omega)).trans HC2.out
  exact ⟨kRow_length _,Or.inr ⟨w.heap.size + 2,x.ro.cols.length,_,rfl,by omega,hc9,Nat.le_refl _,by unfold maxLen; omega,by simp [kRow_length],by rw [List.take_of_length_le (by rw [List.toList_toArray,kRow_length]; exact Nat.le_refl _)]⟩⟩
 ·exact B2.out.trans (k9.below (B := w.heap.size) (fun k e => by omega) B2.out.size)
def OwnC (w0 w : World) (x : RA) : Prop := w.ownsRow w0.heap.size 282 5 (.slice x.A x.ro.cols.length x.c) x.ro.cols.length (kRow x.ro.cols)
theorem OwnC.on {w0 w w' : World} {x : RA} (h : OwnC w0 w x) (hb : Below w.heap.size w w') : OwnC w0 w' x := own_below h hb
theorem OwnC.kept {w0 w w' : World} {x : RA} {F : Nat -> Prop} {e : TypeId} (h : OwnC w0 w x) (hk : Kept F w w') (hF : ∀ k,F k -> ∃ cs,w.heap[k]? = some (.cells cs e (0,0))) (he : 282 ≠ e) : OwnC w0 w' x :=
 own_kept h fun g hg => hk.block g (own_block_lt h g hg) fun hf => by
  obtain ⟨cs,h1⟩ := hF g hf
  obtain ⟨cs',h2⟩ := own_tag h g hg
  rw [h1] at h2
  injection h2 with h2
  injection h2 with _ h3 _
  exact he h3.symm
structure Fresh (w0 w : World) (v : Value) (L : List RA) : Prop where
 cur : CurR w0 w v L
 cols : ∀ x ∈ L,OwnC w0 w x
theorem Fresh.own {w0 w : World} {v : Value} {L : List RA} (h : Fresh w0 w v L) : Own w0 w v L := ⟨h.cur,fun x hx => Or.inr (h.cols x hx)⟩
theorem Fresh.below {w0 w : World} {v : Value} {L : List RA} (h : Fresh w0 w v L) : Below w0.heap.size w0 w := h.cur.below
theorem Fresh.on {w0 w w' : World} {v : Value} {L : List RA} (h : Fresh w0 w v L) (hb : Below w.heap.size w w') : Fresh w0 w' v L := ⟨h.cur.on hb,fun x hx => (h.cols x hx).on hb⟩
theorem Fresh.lower {w V w9 : World} {v : Value} {L : List RA} (h : Fresh V w9 v L) (hV : Below w.heap.size w V) : Fresh w w9 v L := ⟨h.cur.lower hV,fun x hx => own_base (h.cols x hx) hV.size⟩
theorem Fresh.kept {w0 w w' : World} {v : Value} {L : List RA} {F : Nat -> Prop} {e : TypeId} (h : Fresh w0 w v L) (hk : Kept F w w') (hF : ∀ k,F k -> w0.heap.size <= k /\ ∃ cs,w.heap[k]? = some (.cells cs e (0,0))) (he : 282 ≠ e) (he' : 45 ≠ e) : Fresh w0 w' v L := by
 refine ⟨⟨own_kept h.cur.own fun g hg => hk.block g (own_block_lt h.cur.own g hg) fun hf => ?_,h.below.trans (hk.below (fun k hk => (hF k hk).1) h.below.size)⟩,fun x hx => (h.cols x hx).kept hk (fun k hk => (hF k hk).2) he⟩
 obtain ⟨cs,h1⟩ := (hF g hf).2
 obtain ⟨cs',h2⟩ := own_tag h.cur.own g hg
 rw [h1] at h2
 injection h2 with h2
 injection h2 with _ h3 _
 exact he' h3.symm
theorem Fresh.lies {w0 w : World} {A : Option Addr} {n c : Nat} {L : List RA} (h : Fresh w0 w (.slice A n c) L) : n = L.length /\ Lies w w.heap.size A n c L /\ (A = none -> c = 0) := by
 obtain ⟨A',c',e,h1,_,h3,h4⟩ := h.own.slice
 injection e with e1 e2 e3
 subst e1; subst e2; subst e3
 exact ⟨rfl,h4,h3⟩
theorem copyrows_any (A : Option Addr) (n c B : Nat) (L : List RA) (w : World) (h : Lies w B A n c L) (hB : B <= w.heap.size) (hn : n <= 1000000) (hf : ∀ x ∈ L,x.ro.cols.length <= 1000000) :
    Calls Tryz.prog 58 #[.slice A n c] w fun e w' => ∃ v M,e = .returned v /\ ros M = ros L /\ Fresh w w' v M := by
 have hl := h.len
 have hmk := run_makeR w n n (Nat.le_refl _) hn
 have ho := own_fullR w n hn
 have HL := hid hl; have HH := hid h; have HO := hid ho; have HF := hid hf
 clear hl h ho hf
 go_enter Tryz.func58,Tryz.ntmps58
 go_wp2_with fail
 obtain ⟨W1,hW1⟩ : ∃ W1,W1 = w.alloc (.cells (madeCells #[.string ⟨#[]⟩,.string ⟨#[]⟩,.bool false,.int .i64 0,.int .i64 0,.int .i64 0,.int .i64 0,.slice none 0 0] (n * 8)) 45) := ⟨_,rfl⟩
 rw [<- hW1] at HO ⊢
 clear hW1 hmk
 go_loopw [11] (fun i wr => ∃ (t : Nat) (K : List RA),t <= n /\ i = .int .i64 t /\ K.length = t /\ ros K = (ros L).take t /\ Own w wr (.slice (some ⟨w.heap.size,0,none⟩) n n) (K ++ List.replicate (n - t) zeroR) /\ ∀ x ∈ K,OwnC w wr x) (fun i _ => n - (intOf i).toNat)
 case atStart => exact ⟨0,[],Nat.zero_le _,rfl,rfl,rfl,HO.out,fun x hx => by cases hx⟩
 case round =>
  obtain ⟨t,K,ht,rfl,hkt,hkl,hown,hcols⟩ := hrel
  have HCO := hid hcols
  have HK := hid hkt; have HKL := hid hkl; have HW := hid hown
  clear hkt hkl hown hcols
  by_cases hlt : t < n
  ·have i1 : (t : Int) < n := by omega
   have i0 : (0 : Int) <= t := by omega
   have htl : t < L.length := by rw [HL.out]; exact hlt
   obtain ⟨g0,o0,rfl,hgB⟩ := HH.out.rd.ex (by omega)
   have hlies := HH.out.below (HW.out.below.mono hB)
   obtain ⟨x,hx⟩ : ∃ x,L[t] = x := ⟨_,rfl⟩
   have hrow := hlies.rd.row htl
   have hin := hlies.held L[t] (List.getElem_mem htl)
   have hcl := HF.out L[t] (List.getElem_mem htl)
   rw [hx] at hrow hin hcl
   have ha := (Below.refl wr.heap.size wr).alloc (Nat.le_refl _) (.cells #[.string x.ro.key,.string x.ro.live.s,.bool x.ro.live.d,.int .i64 x.ro.live.a,.int .i64 x.ro.live.e,.int .i64 x.ro.gone,.int .i64 x.ro.shade,.slice x.A x.ro.cols.length x.c] 45)
   have hws := HW.out.below.size
   have hb := BlkAt.of (heap_alloc_new wr (.cells #[.string x.ro.key,.string x.ro.live.s,.bool x.ro.live.d,.int .i64 x.ro.live.a,.int .i64 x.ro.live.e,.int .i64 x.ro.gone,.int .i64 x.ro.shade,.slice x.A x.ro.cols.length x.c] 45))
   have hin2 := hin.below (ha.mono (by omega))
   have hown2 := HW.out.on ha
   have HCO2 := hid (fun y hy => (HCO.out y hy).on ha)
   obtain ⟨_,_,_,_,_,_,_,_⟩ := hrow
   obtain ⟨U,hU⟩ : ∃ U,U = wr.alloc (.cells #[.string x.ro.key,.string x.ro.live.s,.bool x.ro.live.d,.int .i64 x.ro.live.a,.int .i64 x.ro.live.e,.int .i64 x.ro.gone,.int .i64 x.ro.shade,.slice x.A x.ro.cols.length x.c] 45) := ⟨_,rfl⟩
   have hUs : U.heap.size = wr.heap.size + 1 := by rw [hU]; simp
   rw [<- hU] at hb hin2 hown2 HCO2
   obtain ⟨_,_,_,_,_,_,_,_⟩ := hb
   have HX := hid hx; have HIN := hid hin2; have HW2 := hid hown2; have HCL := hid hcl; have HUS := hid hUs
   clear hx hin hlies hcl ha hin2 hown2 hUs
   go_wp2_with fail
   rw [<- hU]
   clear hU
   go_wp2_with fail
   refine (copyrow_ra x B _ HIN.out (by have := HUS.out; omega) HCL.out).mono ?_
   rintro e w1 ⟨z,rfl,hz,hcz⟩
   unfold RA.v Ro.val
   have HW3 := hid (HW2.out.on hcz.below)
   have HSZ := hid (Safe.of_cur HW2.out.below hcz)
   have HOZ : Hid (OwnC w w1 z) := hid (own_base hcz.own HW2.out.below.size)
   have HCO3 := hid (fun y hy => (HCO2.out y hy).on hcz.below)
   have hlen : t < (K ++ List.replicate (n - t) zeroR).length := by rw [List.length_append,List.length_replicate,HK.out]; omega
   obtain ⟨g6,e6,_,_,hro,hfz⟩ := HW3.out.row hlen
   injection e6 with e6
   injection e6 with e6 _ _
   subst e6
   obtain ⟨y,hy⟩ : ∃ y,(K ++ List.replicate (n - t) zeroR)[t] = y := ⟨_,rfl⟩
   rw [hy] at hro
   obtain ⟨_,_,_,_,_,_,_,_⟩ := hro
   have f0 := hfz (t * 8)
   have f1 := hfz (t * 8 + 1)
   have f2 := hfz (t * 8 + 2)
   have f3 := hfz (t * 8 + 3)
   have f4 := hfz (t * 8 + 4)
   have f5 := hfz (t * 8 + 5)
   have f6 := hfz (t * 8 + 6)
   have f7 := hfz (t * 8 + 7)
   have HZ := hid hz; have HLEN := hid hlen
   clear hfz hz hcz hy hlen
   go_wp2_with fail
   have hput := HW3.out.put HLEN.out z HSZ.out
   have hF : ∀ k,k = w.heap.size -> ∃ cs,w1.heap[k]? = some (.cells cs 45 (0,0)) := fun k e => by subst e; exact own_tag HW3.out.cur.own _ rfl
   have hco : ∀ y ∈ K ++ [z],OwnC w (World.setCell (World.setCell (World.setCell (World.setCell (World.setCell (World.setCell (World.setCell (World.setCell w1 ⟨w.heap.size,t * 8,none⟩ (.string z.ro.key)) ⟨w.heap.size,t * 8 + 1,none⟩ (.string z.ro.live.s)) ⟨w.heap.size,t * 8 + 2,none⟩ (.bool z.ro.live.d)) ⟨w.heap.size,t * 8 + 3,none⟩ (.int .i64 z.ro.live.a)) ⟨w.heap.size,t * 8 + 4,none⟩ (.int .i64 z.ro.live.e)) ⟨w.heap.size,t * 8 + 5,none⟩ (.int .i64 z.ro.gone)) ⟨w.heap.size,t * 8 + 6,none⟩ (.int .i64 z.ro.shade)) ⟨w.heap.size,t * 8 + 7,none⟩ (.slice z.A z.ro.cols.length z.c)) y := fun y hy => by
    rcases List.mem_append.1 hy with h1 | h1
    ·exact (HCO3.out y h1).kept (kept_set8 w.heap.size (t * 8) z) hF (by decide)
    ·rw [List.mem_singleton.1 h1]
     exact HOZ.out.kept (kept_set8 w.heap.size (t * 8) z) hF (by decide)
   generalize hw6 : (World.setCell (World.setCell (World.setCell (World.setCell (World.setCell (World.setCell (World.setCell (World.setCell w1 ⟨w.heap.size,t * 8,none⟩ (.string z.ro.key)) ⟨w.heap.size,t * 8 + 1,none⟩ (.string z.ro.live.s)) ⟨w.heap.size,t * 8 + 2,none⟩ (.bool z.ro.live.d)) ⟨w.heap.size,t * 8 + 3,none⟩ (.int .i64 z.ro.live.a)) ⟨w.heap.size,t * 8 + 4,none⟩ (.int .i64 z.ro.live.e)) ⟨w.heap.size,t * 8 + 5,none⟩ (.int .i64 z.ro.gone)) ⟨w.heap.size,t * 8 + 6,none⟩ (.int .i64 z.ro.shade)) ⟨w.heap.size,t * 8 + 7,none⟩ (.slice z.A z.ro.cols.length z.c)) = w6 at hput hco ⊢
   have hset : (K ++ List.replicate (n - t) zeroR).set t z = (K ++ [z]) ++ List.replicate (n - (t + 1)) zeroR := by
    rw [show n - t = (n - (t + 1)) + 1 by omega,List.replicate_succ,List.set_append_right _ _ (by rw [HK.out]; exact Nat.le_refl _),HK.out,Nat.sub_self,zq5,List.append_assoc]
    rfl
   rw [hset] at hput
   have HPUT := hid hput; have HCO4 := hid hco
   clear hput hset hco hF hw6 f0 f1 f2 f3 f4 f5 f6 f7
   go_wp2
   go_roundw
   case rel =>
    refine ⟨t + 1,K ++ [z],by omega,by go_num,by rw [List.length_append,HK.out]; rfl,?_,HPUT.out,HCO4.out⟩
    have htr : t < (ros L).length := by rw [List.length_map]; exact htl
    rw [List.take_succ_eq_append_getElem htr,<- HKL.out,List.getElem_map,HX.out,<- HZ.out]
    simp [ros]
   case measure => simp [intOf]; omega
  ·obtain rfl : t = n := by omega
   go_wp2
   go_ret
   refine ⟨_,K,rfl,?_,?_⟩
   ·rw [HKL.out,List.take_of_length_le (by rw [List.length_map,HL.out]; exact Nat.le_refl _)]
   ·have := HW.out
    rw [Nat.sub_self,List.replicate_zero,List.append_nil] at this
    exact ⟨this.cur,HCO.out⟩
theorem set3_block {w : World} {q : Nat} {v0 v1 v2 : Value} (h : w.heap[q]? = some (.cells #[v0,v1,v2] 33 (0,0))) (u0 u1 u2 : Value) :
    (((w.setCell ⟨q,0,none⟩ u0).setCell ⟨q,1,none⟩ u1).setCell ⟨q,2,none⟩ u2).heap[q]? = some (.cells #[u0,u1,u2] 33 (0,0)) := by
 have h0 := Joins.block_setCell (i := 0) h u0
 simp only [zq4,zq5,zq6] at h0
 have h1 := Joins.block_setCell (i := 1) h0 u1
 simp only [zq4,zq5,zq6] at h1
 have h2 := Joins.block_setCell (i := 2) h1 u2
 simpa only [zq4,zq5,zq6] using h2
theorem kept_set3 {w : World} (q : Nat) (u0 u1 u2 : Value) : Kept (fun k => k = q) w (((w.setCell ⟨q,0,none⟩ u0).setCell ⟨q,1,none⟩ u1).setCell ⟨q,2,none⟩ u2) :=
 (((Kept.refl (fun k => k = q) w).trans (Kept.setCell (fun k => k = q) _ ⟨q,0,none⟩ u0 rfl) fun _ h => Or.inl h).trans (Kept.setCell (fun k => k = q) _ ⟨q,1,none⟩ u1 rfl) fun _ h => Or.inl h).trans (Kept.setCell (fun k => k = q) _ ⟨q,2,none⟩ u2 rfl) fun _ h => Or.inl h
theorem part_setrows {w : World} {r : Nat} {v0 v1 v2 : Value} (hr : w.heap[r]? = some (.cells #[v0,v1,v2] 33 (0,0))) (u : Value) : (w.setCell ⟨r,2,none⟩ u).heap[r]? = some (.cells #[v0,v1,u] 33 (0,0)) := by
 have m := Joins.block_setCell (i := 2) hr u
 simp only [zq4,zq5,zq6] at m
 exact m
theorem pcopy_any (k : ByteArray) (g : Int) (A : Option Addr) (n c B : Nat) (L : List RA) (w : World) (h : Lies w B A n c L) (hB : B <= w.heap.size) (hn : n <= 1000000) (hf : ∀ x ∈ L,x.ro.cols.length <= 1000000) :
    Calls Tryz.prog 30 #[.agg #[.string k,.int .i64 g,.slice A n c]] w fun e w' => ∃ M A' n' c',e = .returned (.agg #[.string k,.int .i64 g,.slice A' n' c']) /\ ros M = ros L /\ Fresh w w' (.slice A' n' c') M := by
 have bz := ((Below.refl w.heap.size w).alloc (Nat.le_refl _) (.cells #[.string k,.int .i64 g,.slice A n c] 33)).alloc (by simp) (.cells #[.string ⟨#[]⟩,.int .i64 0,.slice none 0 0] 33)
 have hz0 := new_at (heap_alloc_new w (.cells #[.string k,.int .i64 g,.slice A n c] 33)) (.cells #[.string ⟨#[]⟩,.int .i64 0,.slice none 0 0] 33)
 have hz1 := heap_alloc_new (w.alloc (.cells #[.string k,.int .i64 g,.slice A n c] 33)) (.cells #[.string ⟨#[]⟩,.int .i64 0,.slice none 0 0] 33)
 simp only [World.size_alloc] at hz1
 obtain ⟨V,hV⟩ : ∃ V,V = (w.alloc (.cells #[.string k,.int .i64 g,.slice A n c] 33)).alloc (.cells #[.string ⟨#[]⟩,.int .i64 0,.slice none 0 0] 33) := ⟨_,rfl⟩
 have hVs : V.heap.size = w.heap.size + 2 := by rw [hV]; simp
 rw [<- hV] at bz hz0 hz1
 have HH := hid (h.below (bz.mono hB)); have HF := hid hf; have BZ := hid bz; have HZ0 := hid hz0; have HZ1 := hid hz1; have HVS := hid hVs
 obtain ⟨_,_,_⟩ := PtAt.of hz0
 clear h hf bz hz0 hz1 hVs
 go_enter Tryz.func30,Tryz.ntmps30
 go_wp2_with fail
 rw [<- hV]
 clear hV
 go_wp2_with fail
 refine (copyrows_any A n c B L _ HH.out (by have := HVS.out; omega) hn HF.out).mono ?_
 rintro e w1 ⟨v,M,rfl,hM,hfr⟩
 obtain ⟨A',n',c',rfl⟩ : ∃ A' n' c',v = .slice A' n' c' := by
  obtain ⟨A',c',e,_⟩ := own_slice hfr.cur.own
  exact ⟨A',_,c',e⟩
 have hm0 := (hfr.below.block w.heap.size (by have := HVS.out; omega)).trans HZ0.out
 have hm1 := (hfr.below.block (w.heap.size + 1) (by have := HVS.out; omega)).trans HZ1.out
 have k2 := cell_at (i := 2) hm0 rfl
 have f2 := thawed_at (i := 2) hm0
 have m3 := part_setrows hm0 (.slice A' n' c')
 have n3 := (Below.heap_setCell w1 ⟨w.heap.size,2,none⟩ (.slice A' n' c') (w.heap.size + 1) (by simp)).trans hm1
 have r0 := cell_at (i := 0) m3 rfl
 have r1 := cell_at (i := 1) m3 rfl
 have r2 := cell_at (i := 2) m3 rfl
 have z0 := cell_at (i := 0) n3 rfl
 have z1 := cell_at (i := 1) n3 rfl
 have z2 := cell_at (i := 2) n3 rfl
 have y0 := thawed_at (i := 0) n3
 have y1 := thawed_at (i := 1) n3
 have y2 := thawed_at (i := 2) n3
 have m9 := set3_block n3 (.string k) (.int .i64 g) (.slice A' n' c')
 have k9 := (Kept.setCell (fun k => k = w.heap.size \/ k = w.heap.size + 1) w1 ⟨w.heap.size,2,none⟩ (.slice A' n' c') (Or.inl rfl)).trans (kept_set3 (w.heap.size + 1) (.string k) (.int .i64 g) (.slice A' n' c')) fun k hk => Or.inl (Or.inr hk)
 have hfr9 := (hfr.lower BZ.out).kept k9 (e := 33) (fun k hk => by
  rcases hk with rfl | rfl
  ·exact ⟨Nat.le_refl _,_,hm0⟩
  ·exact ⟨by omega,_,hm1⟩) (by decide) (by decide)
 have HFR := hid hfr9; have HM := hid hM
 clear hfr hfr9 hM k9 m3 n3 hm0 hm1
 go_wp2
 generalize hw9 : ((((w1.setCell ⟨w.heap.size,2,none⟩ (.slice A' n' c')).setCell ⟨w.heap.size + 1,0,none⟩ (.string k)).setCell ⟨w.heap.size + 1,1,none⟩ (.int .i64 g)).setCell ⟨w.heap.size + 1,2,none⟩ (.slice A' n' c')) = w9 at m9 HFR ⊢
 clear hw9 r0 r1 r2 z0 z1 z2 y0 y1 y2 k2 f2
 have q0 := cell_at (i := 0) m9 rfl
 have q1 := cell_at (i := 1) m9 rfl
 have q2 := cell_at (i := 2) m9 rfl
 refine bodyPost_ret (v := .agg #[.string k,.int .i64 g,.slice A' n' c']) (by simp [results,Tryz.results30,go_sem,q0,q1,q2]) rfl ⟨M,A',n',c',rfl,HM.out,HFR.out⟩
theorem mrg_cols {l k : List Ro} (hr : RiseR l) (hr' : RiseR k) {T : Nat} (h0 : ∀ a ∈ l,a.cols.length <= T) (h1 : ∀ b ∈ k,b.cols.length <= T) (h : ∀ a ∈ l,∀ b ∈ k,a.cols.length + b.cols.length <= T) : ∀ x ∈ mrgR l k,x.cols.length <= T := fun x hx => by
 have e := getK_mem (mrgK_rise JR.key_ (k := k) hr) hx
 rw [getK_mrg JR.key_ hr hr'] at e
 cases e1 : getK Ro.key l x.key with
 | none =>
   rw [e1] at e
   exact h1 x (getK_some e).1
 | some a =>
   cases e2 : getK Ro.key k x.key with
   | none =>
     rw [e1,e2] at e
     injection e with e
     rw [<- e]
     exact h0 a (getK_some e1).1
   | some b =>
     rw [e1,e2] at e
     injection e with e
     rw [<- e]
     exact Nat.le_trans (len_join a b) (h a (getK_some e1).1 b (getK_some e2).1)
theorem mem_ros {L : List RA} {r : Ro} (h : r ∈ ros L) : ∃ x ∈ L,x.ro = r := List.mem_map.1 h
theorem pjoin_fits (k k' : ByteArray) (g g' : Int) (A A' : Option Addr) (n n' c c' B B' : Nat) (L K : List RA) (w : World) (h : Lies w B A n c L) (h' : Lies w B' A' n' c' K) (hB : B <= w.heap.size) (hB' : B' <= w.heap.size) (hn : n + n' <= 1000000)
    (hu : (Pa.mk k g (ros L)).Up) (hu' : (Pa.mk k' g' (ros K)).Up) (ht : tot L + tot K <= 1000000) (X : List Ro) (hX : mrgR (ros L) (ros K) = X) (hif : X.length <= 100) :
    Calls Tryz.prog 122 #[.agg #[.string k,.int .i64 g,.slice A n c],.agg #[.string k',.int .i64 g',.slice A' n' c']] w fun e w' => ∃ M A2 n2 c2,e = .returned (.tuple #[.agg #[.string k,.int .i64 (max g g'),.slice A2 n2 c2],.bool true]) /\ ros M = X /\ Fresh w w' (.slice A2 n2 c2) M := by
 have bz := (((Below.refl w.heap.size w).alloc (Nat.le_refl _) (.cells #[.string k,.int .i64 g,.slice A n c] 33)).alloc (by simp) (.cells #[.string k',.int .i64 g',.slice A' n' c'] 33)).alloc (by simp; omega) (.cells #[.string ⟨#[]⟩,.int .i64 0,.slice none 0 0] 33)
 have hz0 := new_at (new_at (heap_alloc_new w (.cells #[.string k,.int .i64 g,.slice A n c] 33)) (.cells #[.string k',.int .i64 g',.slice A' n' c'] 33)) (.cells #[.string ⟨#[]⟩,.int .i64 0,.slice none 0 0] 33)
 have hz1 := new_at (heap_alloc_new (w.alloc (.cells #[.string k,.int .i64 g,.slice A n c] 33)) (.cells #[.string k',.int .i64 g',.slice A' n' c'] 33)) (.cells #[.string ⟨#[]⟩,.int .i64 0,.slice none 0 0] 33)
 have hz2 := heap_alloc_new ((w.alloc (.cells #[.string k,.int .i64 g,.slice A n c] 33)).alloc (.cells #[.string k',.int .i64 g',.slice A' n' c'] 33)) (.cells #[.string ⟨#[]⟩,.int .i64 0,.slice none 0 0] 33)
 simp only [World.size_alloc] at hz1 hz2
 obtain ⟨V,hV⟩ : ∃ V,V = ((w.alloc (.cells #[.string k,.int .i64 g,.slice A n c] 33)).alloc (.cells #[.string k',.int .i64 g',.slice A' n' c'] 33)).alloc (.cells #[.string ⟨#[]⟩,.int .i64 0,.slice none 0 0] 33) := ⟨_,rfl⟩
 have hVs : V.heap.size = w.heap.size + 3 := by rw [hV]; simp
 rw [<- hV] at bz hz0 hz1 hz2
 have hua : ∀ x ∈ L,x.ro.Up := fun x hx => hu.up x.ro (List.mem_map.2 ⟨x,hx,rfl⟩)
 have hub : ∀ x ∈ K,x.ro.Up := fun x hx => hu'.up x.ro (List.mem_map.2 ⟨x,hx,rfl⟩)
 have hXr : runK Ro.key Ro.join [] (ros L) (ros K) = X := by rw [<- hX]; exact runK_mrg JR hu.rise hu.up hu'.rise hu'.up
 have hmf : ∀ r ∈ X,r.cols.length <= 1000000 := by
  rw [<- hX]
  refine mrg_cols hu.rise hu'.rise (fun a ha => ?_) (fun b hb => ?_) fun a ha b hb => ?_
  ·obtain ⟨x,hx,rfl⟩ := mem_ros ha
   have := tot_mem hx; omega
  ·obtain ⟨x,hx,rfl⟩ := mem_ros hb
   have := tot_mem hx; omega
  ·obtain ⟨x,hx,rfl⟩ := mem_ros ha
   obtain ⟨y,hy,rfl⟩ := mem_ros hb
   have := tot_mem hx; have := tot_mem hy; omega
 have HMF0 := hid hmf
 clear hmf
 have hXl : X.length <= 1000000 := by
  have h1 := mrgK_length (key := Ro.key) (jn := Ro.join) (ros K) (ros L)
  have h2 : X.length <= (ros L).length + (ros K).length := by rw [<- hX]; exact h1
  have h3 := h.len; have h4 := h'.len
  rw [List.length_map,List.length_map] at h2
  omega
 have HH := hid (h.below (bz.mono hB)); have HH' := hid (h'.below (bz.mono hB')); have BZ := hid bz; have HZ0 := hid hz0; have HZ1 := hid hz1; have HZ2 := hid hz2; have HVS := hid hVs
 have HU := hid hua; have HU' := hid hub; have HT := hid ht; have HX := hid hXr; have HXL := hid hXl
 obtain ⟨_,_,_⟩ := PtAt.of hz0
 obtain ⟨_,_,_⟩ := PtAt.of hz1
 clear h h' bz hz0 hz1 hz2 hVs hu hu' hua hub ht hX hXr hXl
 go_enter Tryz.func122,Tryz.ntmps122
 go_wp2_with fail
 rw [<- hV]
 clear hV
 go_wp2_with fail
 refine (mergeR_any A A' n n' c c' B B' L K _ HH.out HH'.out (by have := HVS.out; omega) (by have := HVS.out; omega) hn HU.out HU'.out HT.out).mono ?_
 rintro e w1 ⟨v,M,rfl,hM,hown⟩
 rw [HX.out] at hM
 obtain ⟨A1,c1,rfl,_,_,_,hlm⟩ := hown.slice
 have hlx : M.length = X.length := by rw [<- hM,List.length_map]
 obtain ⟨m,hm⟩ : ∃ m,M.length = m := ⟨_,rfl⟩
 rw [hm] at hown hlm hlx ⊢
 have hp1 := And.intro ((hown.below.block w.heap.size (by have := HVS.out; omega)).trans HZ0.out) ((hown.below.block (w.heap.size + 1) (by have := HVS.out; omega)).trans HZ1.out)
 have hq1 := (hown.below.block (w.heap.size + 2) (by have := HVS.out; omega)).trans HZ2.out
 have HBW := hid (next BZ.out hown.below); have HS1 := hid (show w.heap.size + 3 <= w1.heap.size by have := hown.below.size; have := HVS.out; omega)
 have HM := hid hM; have HLM := hid hlm; have HP1 := hid hp1; have HQ1 := hid hq1; have HLX := hid hlx
 have HM1 := hid (show m <= 1000000 by have := HXL.out; omega)
 have d0 : decide ((100 : Int) < (m : Nat)) = false := by simp; omega
 have d1 : decide (100 < m) = false := by simp; omega
 have HMF : Hid (∀ x ∈ M,x.ro.cols.length <= 1000000) := hid fun x hx => HMF0.out x.ro (by rw [<- hM]; exact List.mem_map.2 ⟨x,hx,rfl⟩)
 clear hif hM hown hlm hlx hm hp1 hq1
 go_wp2_with fail
 refine wp_region_held_drew (S := fun w' => w'.heap[w.heap.size]? = some (.cells #[.string k,.int .i64 g,.slice A n c] 33) /\ w'.heap[w.heap.size + 1]? = some (.cells #[.string k',.int .i64 g',.slice A' n' c'] 33)) (by kernel_rfl) ?_ (fun hHeld => ?_)
 ·exact HP1.out
 refine takesH [0,1,2,3,4,5,6,7] ?_
 repeat
  refine takesH_one (v := ?_) ?_ ?_
  rotate_left
  ·first | (refine Or.inr ⟨by rfl,?_⟩; with_reducible rfl) | (refine Or.inl ⟨by rfl,?_⟩; intro wx hSw; (try dsimp only at hSw); first | (go_simp; first | done | with_reducible rfl) | (obtain ⟨_,_,_⟩ := PtAt.of hSw.1; obtain ⟨_,_,_⟩ := PtAt.of hSw.2; go_simp; first | done | with_reducible rfl))
  try simp only [Act.put,zq1,zq2,zq3,zq4,zq5,zq6]
 refine takesH_nil ?_
 refine wpAnyH_ready (rs := [8]) (by kernel_rfl) (by simp) (AllReadyH.cons rfl (fun K hK => ?_) AllReadyH.nil)
 go_simp
 refine (copyrows_any A1 m c1 w1.heap.size M _ (HLM.out.below (Below.refl _ _).drew) (Nat.le_refl _) HM1.out HMF.out).mono ?_
 rintro e w2 ⟨v,M2,rfl,hM2,hfr⟩
 obtain ⟨A2,m2,c2,rfl⟩ : ∃ A' n' c',v = .slice A' n' c' := by
  obtain ⟨A',c',e,_⟩ := own_slice hfr.cur.own
  exact ⟨A',_,c',e⟩
 have hb2 := next (w := w1) (w1 := w1.drew) ((Below.refl w1.heap.size w1).drew) hfr.below
 have hp2 := And.intro ((hb2.block w.heap.size (by have := HS1.out; omega)).trans HP1.out.1) ((hb2.block (w.heap.size + 1) (by have := HS1.out; omega)).trans HP1.out.2)
 have hq2 := (hb2.block (w.heap.size + 2) (by have := HS1.out; omega)).trans HQ1.out
 have z0 := cell_at (i := 0) hq2 rfl
 have z1 := cell_at (i := 1) hq2 rfl
 have z2 := cell_at (i := 2) hq2 rfl
 have y0 := thawed_at (i := 0) hq2
 have y1 := thawed_at (i := 1) hq2
 have y2 := thawed_at (i := 2) hq2
 have m9 := set3_block (q := w.heap.size + 1 + 1) hq2 (.string k) (.int .i64 (max g g')) (.slice A2 m2 c2)
 have k9 := kept_set3 (w := w2) (w.heap.size + 1 + 1) (.string k) (.int .i64 (max g g')) (.slice A2 m2 c2)
 have hfr9 := (hfr.lower (w := w) (next HBW.out ((Below.refl w1.heap.size w1).drew))).kept k9 (e := 33) (fun j hj => by subst hj; exact ⟨by omega,_,hq2⟩) (by decide) (by decide)
 have HP2 := hid hp2
 have HP9 := hid (And.intro ((k9.block w.heap.size (Array.getElem?_eq_some_iff.1 hp2.1).1 (by omega)).trans hp2.1) ((k9.block (w.heap.size + 1) (Array.getElem?_eq_some_iff.1 hp2.2).1 (by omega)).trans hp2.2))
 have HM9 := hid m9
 have HFR := hid hfr9
 have HR2 := hid hM2
 clear hfr hfr9 hM2 hb2 hp2 hq2 m9 k9
 try go_wp2_with fail
 refine hK.out _ _ ?_ (fun hHeld => ?_)
 ·exact HP2.out
 clear hK K
 try simp only [Act.put,zq1,zq2,zq3,zq4,zq5,zq6]
 refine takesH [9] ?_
 repeat
  refine takesH_one (v := ?_) ?_ ?_
  rotate_left
  ·first | (refine Or.inr ⟨by rfl,?_⟩; with_reducible rfl) | (refine Or.inl ⟨by rfl,?_⟩; intro wx hSw; (try dsimp only at hSw); first | (go_simp; first | done | with_reducible rfl))
  try simp only [Act.put,zq1,zq2,zq3,zq4,zq5,zq6]
 refine takesH_nil ?_
 refine wpAnyH_ready (rs := [10]) (by kernel_rfl) (by simp) (AllReadyH.cons rfl (fun K hK => ?_) AllReadyH.nil)
 go_simp
 refine hK.out _ _ ?_ (fun hHeld => ?_)
 ·exact HP9.out
 clear hK K
 try simp only [Act.put,zq1,zq2,zq3,zq4,zq5,zq6]
 refine takesH [11] ?_
 repeat
  refine takesH_one (v := ?_) ?_ ?_
  rotate_left
  ·first | (refine Or.inr ⟨by rfl,?_⟩; with_reducible rfl) | (refine Or.inl ⟨by rfl,?_⟩; intro wx hSw; (try dsimp only at hSw); first | (go_simp; first | done | with_reducible rfl))
  try simp only [Act.put,zq1,zq2,zq3,zq4,zq5,zq6]
 refine takesH_nil ?_
 refine wpAnyH_done (by kernel_rfl) ?_ _
 generalize hw9 : (((w2.setCell ⟨w.heap.size + 1 + 1,0,none⟩ (.string k)).setCell ⟨w.heap.size + 1 + 1,1,none⟩ (.int .i64 (max g g'))).setCell ⟨w.heap.size + 1 + 1,2,none⟩ (.slice A2 m2 c2)) = w9 at HM9 HFR HP9 hHeld ⊢
 clear hw9 z0 z1 z2 y0 y1 y2
 go_wp2
 have q0 := cell_at (i := 0) HM9.out rfl
 have q1 := cell_at (i := 1) HM9.out rfl
 have q2 := cell_at (i := 2) HM9.out rfl
 refine bodyPost_ret (v := .tuple #[.agg #[.string k,.int .i64 (max g g'),.slice A2 m2 c2],.bool true]) ?_ rfl ?_
 ·simp [results,Tryz.results122,go_sem,q0,q1,q2]
 ·exact ⟨M2,A2,m2,c2,rfl,HR2.out.trans HM.out,HFR.out⟩
theorem pjoin_over (k k' : ByteArray) (g g' : Int) (A A' : Option Addr) (n n' c c' B B' : Nat) (L K : List RA) (w : World) (h : Lies w B A n c L) (h' : Lies w B' A' n' c' K) (hB : B <= w.heap.size) (hB' : B' <= w.heap.size) (hn : n + n' <= 1000000)
    (hu : (Pa.mk k g (ros L)).Up) (hu' : (Pa.mk k' g' (ros K)).Up) (ht : tot L + tot K <= 1000000) (X : List Ro) (hX : mrgR (ros L) (ros K) = X) (hif : 100 < X.length) :
    Calls Tryz.prog 122 #[.agg #[.string k,.int .i64 g,.slice A n c],.agg #[.string k',.int .i64 g',.slice A' n' c']] w fun e w' => e = .returned (.tuple #[.agg #[.string ⟨#[]⟩,.int .i64 0,.slice none 0 0],.bool false]) /\ Below w.heap.size w w' := by
 have bz := (((Below.refl w.heap.size w).alloc (Nat.le_refl _) (.cells #[.string k,.int .i64 g,.slice A n c] 33)).alloc (by simp) (.cells #[.string k',.int .i64 g',.slice A' n' c'] 33)).alloc (by simp; omega) (.cells #[.string ⟨#[]⟩,.int .i64 0,.slice none 0 0] 33)
 have hz0 := new_at (new_at (heap_alloc_new w (.cells #[.string k,.int .i64 g,.slice A n c] 33)) (.cells #[.string k',.int .i64 g',.slice A' n' c'] 33)) (.cells #[.string ⟨#[]⟩,.int .i64 0,.slice none 0 0] 33)
 have hz1 := new_at (heap_alloc_new (w.alloc (.cells #[.string k,.int .i64 g,.slice A n c] 33)) (.cells #[.string k',.int .i64 g',.slice A' n' c'] 33)) (.cells #[.string ⟨#[]⟩,.int .i64 0,.slice none 0 0] 33)
 have hz2 := heap_alloc_new ((w.alloc (.cells #[.string k,.int .i64 g,.slice A n c] 33)).alloc (.cells #[.string k',.int .i64 g',.slice A' n' c'] 33)) (.cells #[.string ⟨#[]⟩,.int .i64 0,.slice none 0 0] 33)
 simp only [World.size_alloc] at hz1 hz2
 obtain ⟨V,hV⟩ : ∃ V,V = ((w.alloc (.cells #[.string k,.int .i64 g,.slice A n c] 33)).alloc (.cells #[.string k',.int .i64 g',.slice A' n' c'] 33)).alloc (.cells #[.string ⟨#[]⟩,.int .i64 0,.slice none 0 0] 33) := ⟨_,rfl⟩
 have hVs : V.heap.size = w.heap.size + 3 := by rw [hV]; simp
 rw [<- hV] at bz hz0 hz1 hz2
 have hua : ∀ x ∈ L,x.ro.Up := fun x hx => hu.up x.ro (List.mem_map.2 ⟨x,hx,rfl⟩)
 have hub : ∀ x ∈ K,x.ro.Up := fun x hx => hu'.up x.ro (List.mem_map.2 ⟨x,hx,rfl⟩)
 have hXr : runK Ro.key Ro.join [] (ros L) (ros K) = X := by rw [<- hX]; exact runK_mrg JR hu.rise hu.up hu'.rise hu'.up
 have hXl : X.length <= 1000000 := by
  have h1 := mrgK_length (key := Ro.key) (jn := Ro.join) (ros K) (ros L)
  have h2 : X.length <= (ros L).length + (ros K).length := by rw [<- hX]; exact h1
  have h3 := h.len; have h4 := h'.len
  rw [List.length_map,List.length_map] at h2
  omega
 have HH := hid (h.below (bz.mono hB)); have HH' := hid (h'.below (bz.mono hB')); have BZ := hid bz; have HZ0 := hid hz0; have HZ1 := hid hz1; have HZ2 := hid hz2; have HVS := hid hVs
 have HU := hid hua; have HU' := hid hub; have HT := hid ht; have HX := hid hXr; have HXL := hid hXl
 obtain ⟨_,_,_⟩ := PtAt.of hz0
 obtain ⟨_,_,_⟩ := PtAt.of hz1
 clear h h' bz hz0 hz1 hz2 hVs hu hu' hua hub ht hX hXr hXl
 go_enter Tryz.func122,Tryz.ntmps122
 go_wp2_with fail
 rw [<- hV]
 clear hV
 go_wp2_with fail
 refine (mergeR_any A A' n n' c c' B B' L K _ HH.out HH'.out (by have := HVS.out; omega) (by have := HVS.out; omega) hn HU.out HU'.out HT.out).mono ?_
 rintro e w1 ⟨v,M,rfl,hM,hown⟩
 rw [HX.out] at hM
 obtain ⟨A1,c1,rfl,_,_,_,hlm⟩ := hown.slice
 have hlx : M.length = X.length := by rw [<- hM,List.length_map]
 obtain ⟨m,hm⟩ : ∃ m,M.length = m := ⟨_,rfl⟩
 rw [hm] at hown hlm hlx ⊢
 have hp1 := And.intro ((hown.below.block w.heap.size (by have := HVS.out; omega)).trans HZ0.out) ((hown.below.block (w.heap.size + 1) (by have := HVS.out; omega)).trans HZ1.out)
 have hq1 := (hown.below.block (w.heap.size + 2) (by have := HVS.out; omega)).trans HZ2.out
 have HBW := hid (next BZ.out hown.below); have HS1 := hid (show w.heap.size + 3 <= w1.heap.size by have := hown.below.size; have := HVS.out; omega)
 have HM := hid hM; have HLM := hid hlm; have HP1 := hid hp1; have HQ1 := hid hq1; have HLX := hid hlx
 have HM1 := hid (show m <= 1000000 by have := HXL.out; omega)
 have d0 : decide ((100 : Int) < (m : Nat)) = true := by simp; omega
 have d1 : decide (100 < m) = true := by simp; omega
 have z0 := cell_at (i := 0) hq1 rfl
 have z1 := cell_at (i := 1) hq1 rfl
 have z2 := cell_at (i := 2) hq1 rfl
 have y0 := thawed_at (i := 0) hq1
 have y1 := thawed_at (i := 1) hq1
 have y2 := thawed_at (i := 2) hq1
 have m9 := set3_block (q := w.heap.size + 1 + 1) hq1 (.string ⟨#[]⟩) (.int .i64 0) (.slice none 0 0)
 have k9 := kept_set3 (w := w1) (w.heap.size + 1 + 1) (.string ⟨#[]⟩) (.int .i64 0) (.slice none 0 0)
 have HB9 := hid (HBW.out.trans (k9.below (B := w.heap.size) (fun k hk => by omega) (by have := HBW.out.size; omega)))
 clear hif hM hown hlm hlx hm hp1 hq1 k9
 go_wp2
 generalize hw9 : (((w1.setCell ⟨w.heap.size + 1 + 1,0,none⟩ (.string ⟨#[]⟩)).setCell ⟨w.heap.size + 1 + 1,1,none⟩ (.int .i64 0)).setCell ⟨w.heap.size + 1 + 1,2,none⟩ (.slice none 0 0)) = w9 at m9 HB9 ⊢
 clear hw9 z0 z1 z2 y0 y1 y2
 have q0 := cell_at (i := 0) m9 rfl
 have q1 := cell_at (i := 1) m9 rfl
 have q2 := cell_at (i := 2) m9 rfl
 refine bodyPost_ret (v := .tuple #[.agg #[.string ⟨#[]⟩,.int .i64 0,.slice none 0 0],.bool false]) ?_ rfl ?_
 ·simp [results,Tryz.results122,go_sem,q0,q1,q2]
 ·exact ⟨rfl,HB9.out⟩
end Go.Proofs.YtmpcnhpdobdmcaaGreatDoor
