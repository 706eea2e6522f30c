/-
  The developers' notes, as they lie in memory: New, room, Drop, Get.
-/
import Derived.Test.YtfldlkdnjkaidaaNd
import Derived.Maps.RangeWalk
set_option linter.unusedVariables false
set_option linter.unusedSimpArgs false
namespace Go.Proofs.Ytfldlkdnjkaidaa
open Go Go.RowKit

/-- Block p has the map at block m, which reads as S. -/
structure NoAt (w : World) (F : Nat → Prop) (p m : Nat) (S : Fl) : Prop where
  blk : w.heap[p]? = some (.cells #[.map (some m)] 50 (0, 0))
  own : w.ownsMap Try.prog 3 elemD m S.length (mapD S)
  fp : F p
  fm : F m
def NoIs (w : World) (F : Nat → Prop) (p : Nat) (S : Fl) : Prop := ∃ m, NoAt w F p m S
section
variable {w w' : World} {F G : Nat → Prop} {p m : Nat} {S : Fl}
theorem map_tightD {H : Type} {P : Program} {k : TypeId} {R : Value → Option (DataW H × List MemPlace)} {b n : Nat} {D : DataW H} (h : w.ownsMap P k R b n D) : w.ownsMap P k R b (Maps.size D) D := by
  obtain ⟨es, clock, hb, F, hs, hD⟩ := h
  refine ⟨es, clock, hb, F, ?_, hD⟩
  rw [hD]
  simp [Maps.size, length_sorted]
theorem NoAt.kept (h : NoAt w G p m S) (hk : Kept F w w') (ho : Off F G) (hG : In G w) : NoAt w' G p m S :=
  ⟨by rw [hk.get ho hG h.fp]; exact h.blk, map_kept h.own (hk.get ho hG h.fm), h.fp, h.fm⟩
theorem NoIs.kept (h : NoIs w G p S) (hk : Kept F w w') (ho : Off F G) (hG : In G w) : NoIs w' G p S := by
  obtain ⟨m, h⟩ := h
  exact ⟨m, h.kept hk ho hG⟩
theorem NoAt.below (h : NoAt w G p m S) (hb : Below w.heap.size w w') : NoAt w' G p m S :=
  ⟨by rw [hb.block p (Array.getElem?_eq_some_iff.1 h.blk).1]; exact h.blk, map_kept h.own (hb.block m h.own.lt), h.fp, h.fm⟩
theorem NoAt.cell (h : NoAt w F p m S) : w.cell? ⟨p, 0, none⟩ = some (.map (some m)) := cell_at h.blk rfl
theorem NoAt.ne (h : NoAt w F p m S) : m ≠ p := by
  rintro rfl
  obtain ⟨es, c, hb, _⟩ := h.own
  have h1 := h.blk
  rw [hb] at h1
  cases h1
/-- The map has been turned. -/
theorem NoAt.set_map (h : NoAt w F p m S) {fs : Fl} {n : Nat} (hg : w.grownBy w' (some m)) (ho : w'.ownsMap Try.prog 3 elemD m n (mapD fs)) : NoAt w' F p m fs := by
  have h1 := h.ne
  refine ⟨?_, ?_, h.fp, h.fm⟩
  · rw [hg.block p (Array.getElem?_eq_some_iff.1 h.blk).1 (fun e => h1 (by injection e with e; exact e.symm))]
    exact h.blk
  · have := map_tightD ho
    rw [size_mapD] at this
    exact this
end

theorem dnew_any (w : World) : Calls Try.prog 6 #[] w fun e w' => ∃ (p : Nat) (F : Nat → Prop), e = .returned (.pointer (some ⟨p, 0, none⟩)) ∧ NoIs w' F p [] ∧ (∀ k, F k → w.heap.size ≤ k) ∧ In F w' ∧ Below w.heap.size w w' := by
  have hmm := @run_makeMap Try.prog
  go_enter Try.func6, Try.ntmps6
  go_wp2
  go_ret
  have hB := ((Below.refl w.heap.size w).alloc (Nat.le_refl _) (.map #[] 0)).alloc (by simp) (.cells #[.map (some w.heap.size)] 50)
  refine ⟨w.heap.size + 1, fun k => w.heap.size ≤ k ∧ k < w.heap.size + 2, rfl, ⟨w.heap.size, ⟨?_, ?_, by omega, by omega⟩⟩, fun k hk => hk.1, fun k hk => by simpa using hk.2, hB⟩
  · have := heap_alloc_new (w.alloc (.map #[] 0)) (.cells #[.map (some w.heap.size)] 50)
    rw [show (w.alloc (.map #[] 0)).heap.size = w.heap.size + 1 by simp] at this
    exact this
  · exact (World.ownsMap_made w _ _ _).alloc _

theorem keyI : Maps.Keyed Try.prog 3 := Maps.int_keyed Try.underlying3
theorem zeroNote (w : World) : (zeroValue 30).run Try.prog w = .ok (.agg #[.int .i64 0, .string ⟨#[]⟩]) w := by kernel_rfl
/-- 'x, there := kept[n]', for the walk. -/
theorem lookD (w : World) {ops : Array Oper} {rest : List Oper} {o : Oper} {a : Act} {Q : Exit → Act → World → Prop} (hg : o.guard = none) (m x : Operand) (hop : o.op = Op.lookup 48 m x true)
    (b n : Nat) (fs : Fl) (hm : a.eval m = .map (some b)) (hown : w.ownsMap Try.prog 3 elemD b n (mapD fs)) (k : Int) (hx : a.eval x = .int .i64 k) (hk : (Lit.int .i64 k).wf = true) (i : Int) (hi : numF fs k = i) (s : ByteArray) (hs : getF fs k = s) (c : Bool) (hc : hasF fs k = c)
    (hK : wpList Try.prog ops Q rest (a.put o.dst (.tuple #[.agg #[.int .i64 i, .string s], .bool c])) w) : wpList Try.prog ops Q (o :: rest) a w :=
  wpList_lookup_own_ok w hg m x _ hop 3 30 keyI Try.underlying48 elemD (zeroNote w) (encD (0, ⟨#[]⟩)) [] (elemD_mk (0, ⟨#[]⟩)) b n (mapD fs) hm hown _ (.int .i64 k) hx (Maps.keyOf_int_mk Try.underlying3 hk) fun v ps hv => by
    rw [atKey_mapD] at hv
    obtain ⟨x', rfl, he⟩ := elemD_inv hv
    injection he with he _
    have he2 := encD_inj he
    subst hi
    subst hs
    subst hc
    rw [has_mapD]
    rw [← he2]
    exact hK

set_option maxHeartbeats 1000000 in
theorem dget_any (F : Nat → Prop) (p : Nat) (S : Fl) (n : Int) (w : World) (h : NoIs w F p S) (hn : (Lit.int .i64 n).wf = true) :
    Calls Try.prog 15 #[.pointer (some ⟨p, 0, none⟩), .int .i64 n] w fun e w' => e = .returned (.tuple #[.string (getF S n), .bool (hasF S n)]) ∧ Below w.heap.size w w' := by
  obtain ⟨m, h⟩ := h
  have c0 := h.cell
  obtain ⟨b, hb⟩ : ∃ b, hasF S n = b := ⟨_, rfl⟩
  obtain ⟨s, hs⟩ : ∃ s, getF S n = s := ⟨_, rfl⟩
  obtain ⟨i, hi⟩ : ∃ i, numF S n = i := ⟨_, rfl⟩
  have H := Lib.hid h; have HN := Lib.hid hn; have HS := Lib.hid hs; have HB := Lib.hid hb; have HI := Lib.hid hi
  rw [hs, hb]
  clear h hn hs hb hi
  go_enter Try.func15, Try.ntmps15
  go_wp2_with (at_lookup; refine lookD _ rfl _ _ rfl m _ S rfl H.out.own n rfl HN.out i HI.out s HS.out b HB.out ?_)
  go_ret2
  exact ⟨rfl, (Below.refl _ _).alloc (Nat.le_refl _) _⟩

set_option maxHeartbeats 1000000 in
theorem ddrop_any (F : Nat → Prop) (p : Nat) (S : Fl) (n : Int) (w : World) (h : NoIs w F p S) (hF : In F w) (hn : (Lit.int .i64 n).wf = true) :
    Calls Try.prog 9 #[.pointer (some ⟨p, 0, none⟩), .int .i64 n] w fun e w' => e = .returned (.bool (hasF S n)) ∧ NoIs w' F p (delF S n) ∧ Step F w F w' := by
  obtain ⟨m, h⟩ := h
  have c0 := h.cell
  obtain ⟨b, hb⟩ : ∃ b, hasF S n = b := ⟨_, rfl⟩
  obtain ⟨s, hs⟩ : ∃ s, getF S n = s := ⟨_, rfl⟩
  obtain ⟨i, hi⟩ : ∃ i, numF S n = i := ⟨_, rfl⟩
  have hb0 := (Below.refl w.heap.size w).alloc (Nat.le_refl _) (.cells #[.int .i64 i, .string s] 30)
  have h1 := h.below hb0
  have d0 := h1.cell
  have H := Lib.hid h; have H1 := Lib.hid h1; have HN := Lib.hid hn; have HS := Lib.hid hs; have HB := Lib.hid hb; have HI := Lib.hid hi
  rw [hb]
  clear h h1 hn hs hb hi
  go_enter Try.func9, Try.ntmps9
  go_wp2_with (first
    | (at_lookup; refine lookD _ rfl _ _ rfl m _ S rfl H.out.own n rfl HN.out i HI.out s HS.out b HB.out ?_)
    | (at_delete; refine wpList_delete_own _ rfl _ _ 48 3 rfl 30 keyI Try.underlying48 _ m _ _ rfl H1.out.own _ (.int .i64 n) rfl (Maps.keyOf_int_mk Try.underlying3 HN.out) ?_; intro w1 hown1 hturn1))
  go_ret
  rw [del_mapD] at hown1
  have hk : Kept F w w1 := (Kept.of_below hb0 F).trans (Kept.of_grown hturn1.grown fun k hk => (by injection hk with hk; subst hk; exact H.out.fm)) fun k hk => Or.inl hk
  exact ⟨rfl, ⟨_, H1.out.set_map (fs := delF S n) hturn1.grown hown1⟩, hk, fun k hk2 => Or.inl hk2⟩

set_option maxRecDepth 8000 in
set_option maxHeartbeats 1000000 in
theorem droom_any (F : Nat → Prop) (p : Nat) (S : Fl) (n : Int) (w : World) (h : NoIs w F p S) (hn : (Lit.int .i64 n).wf = true) (hl : S.length ≤ 300) :
    Calls Try.prog 21 #[.pointer (some ⟨p, 0, none⟩), .int .i64 n] w fun e w' => e = .returned (.bool (!decide (hasF S n = false ∧ 300 ≤ S.length))) ∧ Below w.heap.size w w' := by
  obtain ⟨m, h⟩ := h
  have c0 := h.cell
  obtain ⟨b, hb⟩ : ∃ b, hasF S n = b := ⟨_, rfl⟩
  obtain ⟨s, hs⟩ : ∃ s, getF S n = s := ⟨_, rfl⟩
  obtain ⟨i, hi⟩ : ∃ i, numF S n = i := ⟨_, rfl⟩
  have hb0 := (Below.refl w.heap.size w).alloc (Nat.le_refl _) (.cells #[.int .i64 i, .string s] 30)
  have h1 := h.below hb0
  have d0 := h1.cell
  have hlen := h1.own.len Try.underlying48 3
  rw [size_mapD] at hlen
  obtain ⟨R, hR⟩ : ∃ R, (!decide (hasF S n = false ∧ 300 ≤ S.length)) = R := ⟨_, rfl⟩
  rw [hR]
  have H := Lib.hid h; have HN := Lib.hid hn; have HS := Lib.hid hs; have HB := Lib.hid hb; have HI := Lib.hid hi; have HB0 := Lib.hid hb0; have HR := Lib.hid hR
  rw [hb] at hR
  clear h h1 hn hs hb hi hb0
  cases b with
  | true =>
    have hr : R = true := by rw [← hR]; simp
    subst hr
    clear hR
    go_enter Try.func21, Try.ntmps21
    go_wp2_with (at_lookup; refine lookD _ rfl _ _ rfl m _ S rfl H.out.own n rfl HN.out i HI.out s HS.out true HB.out ?_)
    go_ret
    exact ⟨rfl, HB0.out⟩
  | false =>
    have hr : R = decide ((S.length : Int) < 300) := by
      rw [← hR]
      by_cases h3 : 300 ≤ S.length
      · simp [h3]; try omega
      · simp [h3]; try omega
    obtain ⟨L, hL⟩ : ∃ L, S.length = L := ⟨_, rfl⟩
    rw [hL] at hlen hr hl
    subst hr
    have HL := Lib.hid hL
    clear hR hL
    go_enter Try.func21, Try.ntmps21
    go_wp2_with (at_lookup; refine lookD _ rfl _ _ rfl m _ S rfl H.out.own n rfl HN.out i HI.out s HS.out false HB.out ?_)
    go_ret
    exact ⟨rfl, HB0.out⟩
end Go.Proofs.Ytfldlkdnjkaidaa
