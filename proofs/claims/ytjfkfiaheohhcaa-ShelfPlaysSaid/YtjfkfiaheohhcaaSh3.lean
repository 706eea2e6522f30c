/-
  The calls of a shelf: Wipe, Put, Get, Drop.
-/
import Derived.Test.YtjfkfiaheohhcaaSh2
set_option linter.unusedVariables false
set_option linter.unusedSimpArgs false
namespace Go.Proofs.Ytjfkfiaheohhcaa
open Go Go.RowKit

set_option maxHeartbeats 1000000 in
theorem wipe_any (F : Nat → Prop) (p : Nat) (S : Sh) (w : World) (h : ShIs w F p S) (hi : In F w) :
    Calls Try.prog 26 #[.pointer (some ⟨p, 0, none⟩)] w fun e w' => e = .returned (.tuple #[]) ∧ ∃ F', ShIs w' F' p Sh.new ∧ Step F w F' w' := by
  obtain ⟨v, m, h⟩ := h
  obtain ⟨c0, c1, c2, c3, fz⟩ := h.cells
  have H := Lib.hid h
  have hp := h.2.2.2.1
  have hpl := hi _ hp
  go_enter Try.func26, Try.ntmps26
  go_wp2_with fail
  refine (new_any _).mono ?_
  rintro e w1 ⟨q, G, rfl, ⟨v1, m1, hq⟩, hb, hG⟩
  obtain ⟨d0, d1, d2, d3, gz⟩ := hq.cells
  have h1 := H.out.below hb
  have hqp : q ≠ p := by have := (hG q hq.2.2.2.1).1; omega
  obtain ⟨e0, e1, e2, e3, ez⟩ := h1.cells
  have e0z := ez 0
  have e1z := ez 1
  have e2z := ez 2
  have e3z := ez 3
  obtain ⟨A1, n1, rfl, _⟩ := own_slice hq.2.1
  have H1 := Lib.hid h1
  have HQ := Lib.hid hq
  clear h1 hq h fz gz ez
  go_wp2
  go_end0
  have hset : ∀ j, j ≠ p → ((((w1.setCell ⟨p, 0, none⟩ (.slice A1 Sh.new.log.length n1)).setCell ⟨p, 1, none⟩ (.int .i64 (Sh.new.syn : Nat))).setCell ⟨p, 2, none⟩ (.map (some m1))).setCell ⟨p, 3, none⟩ (.string Sh.new.man)).heap[j]? = w1.heap[j]? := fun j hj =>
    (set_other (a := ⟨p, 3, none⟩) _ hj).trans ((set_other (a := ⟨p, 2, none⟩) _ hj).trans ((set_other (a := ⟨p, 1, none⟩) _ hj).trans (set_other (a := ⟨p, 0, none⟩) _ hj)))
  obtain ⟨a1, a2, a3, a4, a5, a6, a7⟩ := HQ.out
  have hne : ∀ j, G j → j ≠ p := fun j hj => by have := (hG j hj).1; omega
  refine ⟨rfl, fun k => F k ∨ G k, ⟨_, m1, ?_, own_kept a2 (fun g hg => hset g (hne g (a6 g hg))), map_kept a3 (hset m1 (hne m1 a5)), Or.inl hp, Or.inr a5, fun g hg => Or.inr (a6 g hg), a7⟩, ?_, fun k hk => ?_⟩
  · rw [heap_setCell_same _ p 3 _ _ _ (heap_setCell_same _ p 2 _ _ _ (heap_setCell_same _ p 1 _ _ _ (heap_setCell_same _ p 0 _ _ _ H1.out.1)))]
    rfl
  · exact (Kept.of_below hb F).trans (((Kept.setCell F _ _ _ hp).trans (Kept.setCell F _ _ _ hp) fun k hk => Or.inl hk).trans ((Kept.setCell F _ _ _ hp).trans (Kept.setCell F _ _ _ hp) fun k hk => Or.inl hk) fun k hk => Or.inl hk) fun k hk => Or.inl hk
  · refine hk.imp id fun hk => ⟨(hG k hk).1, ?_⟩
    have := (hG k hk).2
    simpa [World.setCell] using this

theorem keyI : Maps.Keyed Try.prog 3 := Maps.int_keyed Try.underlying3
theorem zeroFile (w : World) : (zeroValue 56).run Try.prog w = .ok (.agg #[.string ⟨#[]⟩]) w := by kernel_rfl
/-- 'f, there := files[n]', for the walk. -/
theorem lookF (w : World) {ops : Array Oper} {rest : List Oper} {o : Oper} {a : Act} {Q : Exit → Act → World → Prop} (hg : o.guard = none) (m x : Operand) (hop : o.op = Op.lookup 52 m x true)
    (b n : Nat) (fs : Fl) (hm : a.eval m = .map (some b)) (hown : w.ownsMap Try.prog 3 elemF b n (mapF fs)) (k : Int) (hx : a.eval x = .int .i64 k) (hk : (Lit.int .i64 k).wf = true) (s : ByteArray) (hs : getF fs k = s) (c : Bool) (hc : hasF fs k = c)
    (hK : wpList Try.prog ops Q rest (a.put o.dst (.tuple #[.agg #[.string s], .bool c])) w) : wpList Try.prog ops Q (o :: rest) a w :=
  wpList_lookup_own_ok w hg m x _ hop 3 56 keyI Try.underlying52 elemF (zeroFile w) (encF ⟨#[]⟩) [] (elemF_mk _) b n (mapF fs) hm hown _ (.int .i64 k) hx (Maps.keyOf_int_mk Try.underlying3 hk) fun v ps hv => by
    rw [atKey_mapF] at hv
    obtain ⟨s', rfl, he⟩ := elemF_inv hv
    injection he with he _
    obtain rfl := encF_inj he
    subst hs
    subst hc
    rw [has_mapF]
    exact hK

set_option maxHeartbeats 1000000 in
theorem get_any (F : Nat → Prop) (p : Nat) (S : Sh) (n : Int) (w : World) (h : ShIs w F p S) (hn : (Lit.int .i64 n).wf = true) :
    Calls Try.prog 10 #[.pointer (some ⟨p, 0, none⟩), .int .i64 n] w fun e w' => e = .returned (.tuple #[.string (getF S.fs n), .int .i64 (if hasF S.fs n = true then 0 else 9)]) ∧ Below w.heap.size w w' := by
  obtain ⟨v, m, h⟩ := h
  obtain ⟨c0, c1, c2, c3, fz⟩ := h.cells
  have H := Lib.hid h
  have HN := Lib.hid hn
  obtain ⟨b, hb⟩ : ∃ b, hasF S.fs n = b := ⟨_, rfl⟩
  obtain ⟨s, hs⟩ : ∃ s, getF S.fs n = s := ⟨_, rfl⟩
  have HS := Lib.hid hs
  have HB := Lib.hid hb
  rw [hb, hs]
  clear h fz hn hs
  cases b
  · have h0 : s = ⟨#[]⟩ := by rw [← HS.out]; exact getF_none hb
    clear hb
    go_enter Try.func10, Try.ntmps10
    go_wp2_with (at_lookup; refine lookF _ rfl _ _ rfl m _ S.fs rfl H.out.2.2.1 n rfl HN.out s HS.out false HB.out ?_)
    go_ret2
    exact ⟨rfl, (Below.refl _ _).alloc (Nat.le_refl _) _⟩
  · clear hb
    go_enter Try.func10, Try.ntmps10
    go_wp2_with (at_lookup; refine lookF _ rfl _ _ rfl m _ S.fs rfl H.out.2.2.1 n rfl HN.out s HS.out true HB.out ?_)
    go_ret2
    exact ⟨rfl, (Below.refl _ _).alloc (Nat.le_refl _) _⟩

set_option maxHeartbeats 1000000 in
theorem drop_any (F : Nat → Prop) (p : Nat) (S : Sh) (n : Int) (w : World) (h : ShIs w F p S) (hn : (Lit.int .i64 n).wf = true) :
    Calls Try.prog 25 #[.pointer (some ⟨p, 0, none⟩), .int .i64 n] w fun e w' => e = .returned (.bool (hasF S.fs n)) ∧ ShIs w' F p (S.drop n) ∧ Kept F w w' := by
  obtain ⟨v, m, h⟩ := h
  have hb0 := (Below.refl w.heap.size w).alloc (Nat.le_refl _) (.cells #[.string (getF S.fs n)] 56)
  have h1 := h.below hb0
  obtain ⟨c0, c1, c2, c3, fz⟩ := h.cells
  obtain ⟨d0, d1, d2, d3, gz⟩ := h1.cells
  obtain ⟨b, hb⟩ : ∃ b, hasF S.fs n = b := ⟨_, rfl⟩
  obtain ⟨s, hs⟩ : ∃ s, getF S.fs n = s := ⟨_, rfl⟩
  rw [hs] at h1 d0 d1 d2 d3 hb0
  have H := Lib.hid h
  have H1 := Lib.hid h1
  have HN := Lib.hid hn
  have HS := Lib.hid hs
  have HB := Lib.hid hb
  rw [hb]
  clear h h1 fz gz hn hs hb
  go_enter Try.func25, Try.ntmps25
  go_wp2_with (first
    | (at_lookup; refine lookF _ rfl _ _ rfl m _ S.fs rfl H.out.2.2.1 n rfl HN.out s HS.out b HB.out ?_)
    | (at_delete; refine wpList_delete_own _ rfl _ _ 52 3 rfl 56 keyI Try.underlying52 _ m _ _ rfl H1.out.2.2.1 _ (.int .i64 n) rfl (Maps.keyOf_int_mk Try.underlying3 HN.out) ?_; intro w1 hown1 hturn1))
  go_ret
  rw [del_mapF] at hown1
  have hok := H.out.ok.drop n
  exact ⟨rfl, ⟨_, m, H1.out.set_map (fs := delF S.fs n) hturn1.grown hown1 hok⟩, (Kept.of_below hb0 F).trans (Kept.of_grown hturn1.grown fun k hk => (by injection hk with hk; subst hk; exact H.out.2.2.2.2.1)) fun k hk => Or.inl hk⟩

set_option maxHeartbeats 1000000 in
theorem put_arg (F : Nat → Prop) (p : Nat) (S : Sh) (n : Int) (s : ByteArray) (w : World) (h : ShIs w F p S) (hn : (Lit.int .i64 n).wf = true) (hc : n < 1 ∨ 1099511627776 < n ∨ hasF S.fs n = true) :
    Calls Try.prog 18 #[.pointer (some ⟨p, 0, none⟩), .int .i64 n, .string s] w fun e w' => e = .returned (.int .i64 1) ∧ ShIs w' F p S ∧ Kept F w w' := by
  obtain ⟨v, m, h⟩ := h
  obtain ⟨c0, c1, c2, c3, fz⟩ := h.cells
  obtain ⟨b, hb⟩ : ∃ b, hasF S.fs n = b := ⟨_, rfl⟩
  obtain ⟨g, hg⟩ : ∃ g, getF S.fs n = g := ⟨_, rfl⟩
  have hb0 := (Below.refl w.heap.size w).alloc (Nat.le_refl _) (.cells #[.string g] 56)
  have h1 := h.below hb0
  have H := Lib.hid h
  have H1 := Lib.hid h1
  have HN := Lib.hid hn
  have HG := Lib.hid hg
  have HB := Lib.hid hb
  rw [hb] at hc
  clear h h1 fz hn hg hb
  by_cases k1 : n < 1
  · have d1 : decide (n < 1) = true := by simpa using k1
    clear hc k1
    go_enter Try.func18, Try.ntmps18
    go_wp2_with (at_lookup; refine lookF _ rfl _ _ rfl m _ S.fs rfl H.out.2.2.1 n rfl HN.out g HG.out b HB.out ?_)
    go_ret
    exact ⟨rfl, ⟨_, m, H1.out⟩, Kept.of_below hb0 F⟩
  have d1 : decide (n < 1) = false := by simpa using k1
  by_cases k2 : 1099511627776 < n
  · have d2 : decide (1099511627776 < n) = true := by simpa using k2
    clear hc k1 k2
    go_enter Try.func18, Try.ntmps18
    go_wp2_with (at_lookup; refine lookF _ rfl _ _ rfl m _ S.fs rfl H.out.2.2.1 n rfl HN.out g HG.out b HB.out ?_)
    go_ret
    exact ⟨rfl, ⟨_, m, H1.out⟩, Kept.of_below hb0 F⟩
  have d2 : decide (1099511627776 < n) = false := by simpa using k2
  obtain rfl : b = true := by
    rcases hc with hc | hc | hc
    · exact absurd hc k1
    · exact absurd hc k2
    · exact hc
  clear hc k1 k2
  go_enter Try.func18, Try.ntmps18
  go_wp2_with (at_lookup; refine lookF _ rfl _ _ rfl m _ S.fs rfl H.out.2.2.1 n rfl HN.out g HG.out true HB.out ?_)
  go_ret
  exact ⟨rfl, ⟨_, m, H1.out⟩, Kept.of_below hb0 F⟩

set_option maxHeartbeats 1000000 in
theorem put_big (F : Nat → Prop) (p : Nat) (S : Sh) (n : Int) (s : ByteArray) (w : World) (h : ShIs w F p S) (hn : (Lit.int .i64 n).wf = true) (hc : ¬ (n < 1 ∨ 1099511627776 < n ∨ hasF S.fs n = true)) (hs : s.size ≤ 1099511627776)
    (hbig : 262144 < s.size ∨ 40 ≤ S.fs.length) :
    Calls Try.prog 18 #[.pointer (some ⟨p, 0, none⟩), .int .i64 n, .string s] w fun e w' => e = .returned (.int .i64 2) ∧ ShIs w' F p S ∧ Kept F w w' := by
  obtain ⟨v, m, h⟩ := h
  obtain ⟨c0, c1, c2, c3, fz⟩ := h.cells
  obtain ⟨g, hg⟩ : ∃ g, getF S.fs n = g := ⟨_, rfl⟩
  have hb0 := (Below.refl w.heap.size w).alloc (Nat.le_refl _) (.cells #[.string g] 56)
  have h1 := h.below hb0
  have hb : hasF S.fs n = false := by
    cases hh : hasF S.fs n
    · rfl
    · exact absurd (Or.inr (Or.inr hh)) hc
  have d1 : decide (n < 1) = false := by simp; omega
  have d2 : decide (1099511627776 < n) = false := by simp; omega
  obtain ⟨e0, e1, e2, e3, _⟩ := h1.cells
  have hlen := h1.2.2.1.len Try.underlying52 3
  rw [size_mapF] at hlen
  have H := Lib.hid h
  have H1 := Lib.hid h1
  have HN := Lib.hid hn
  have HG := Lib.hid hg
  have HB := Lib.hid hb
  by_cases k1 : 262144 < s.size
  · have d3 : decide ((262144 : Int) < (s.size : Nat)) = true := by simp; omega
    clear h h1 fz hn hg hb hc hbig k1 hlen
    go_enter Try.func18, Try.ntmps18
    go_wp2_with (at_lookup; refine lookF _ rfl _ _ rfl m _ S.fs rfl H.out.2.2.1 n rfl HN.out g HG.out false HB.out ?_)
    go_ret
    exact ⟨rfl, ⟨_, m, H1.out⟩, Kept.of_below hb0 F⟩
  · have d3 : decide ((262144 : Int) < (s.size : Nat)) = false := by simp; omega
    have d4 : decide ((40 : Int) ≤ (S.fs.length : Nat)) = true := by simp; omega
    clear h h1 fz hn hg hb hc hbig k1
    go_enter Try.func18, Try.ntmps18
    go_wp2_with (at_lookup; refine lookF _ rfl _ _ rfl m _ S.fs rfl H.out.2.2.1 n rfl HN.out g HG.out false HB.out ?_)
    go_ret
    exact ⟨rfl, ⟨_, m, H1.out⟩, Kept.of_below hb0 F⟩

set_option maxHeartbeats 1000000 in
theorem put_ok (F : Nat → Prop) (p : Nat) (S : Sh) (n : Int) (s : ByteArray) (w : World) (h : ShIs w F p S) (hn : (Lit.int .i64 n).wf = true) (hc : ¬ (n < 1 ∨ 1099511627776 < n ∨ hasF S.fs n = true)) (hs : ¬ (262144 < s.size ∨ 40 ≤ S.fs.length)) :
    Calls Try.prog 18 #[.pointer (some ⟨p, 0, none⟩), .int .i64 n, .string s] w fun e w' => e = .returned (.int .i64 0) ∧ ShIs w' F p { S with fs := insF S.fs n s } ∧ Kept F w w' := by
  have hok := h.ok.put n s
  unfold Sh.put at hok
  rw [if_neg hc, if_neg hs] at hok
  obtain ⟨v, m, h⟩ := h
  obtain ⟨c0, c1, c2, c3, fz⟩ := h.cells
  obtain ⟨g, hg⟩ : ∃ g, getF S.fs n = g := ⟨_, rfl⟩
  have hb0 := (Below.refl w.heap.size w).alloc (Nat.le_refl _) (.cells #[.string g] 56)
  have h1 := h.below hb0
  have hb : hasF S.fs n = false := by
    cases hh : hasF S.fs n
    · rfl
    · exact absurd (Or.inr (Or.inr hh)) hc
  have d1 : decide (n < 1) = false := by simp; omega
  have d2 : decide (1099511627776 < n) = false := by simp; omega
  have d3 : decide ((262144 : Int) < (s.size : Nat)) = false := by simp; omega
  have d4 : decide ((40 : Int) ≤ (S.fs.length : Nat)) = false := by simp; omega
  obtain ⟨e0, e1, e2, e3, _⟩ := h1.cells
  have hlen := h1.2.2.1.len Try.underlying52 3
  rw [size_mapF] at hlen
  have hfl : S.fs.length < maxLen := by unfold maxLen; omega
  have hput := put_mapF S.fs h.ok.up n hb s
  have H := Lib.hid h
  have H1 := Lib.hid h1
  have HN := Lib.hid hn
  have HG := Lib.hid hg
  have HB := Lib.hid hb
  have HFL := Lib.hid hfl
  have HP := Lib.hid hput
  have HO := Lib.hid hok
  clear h h1 fz hn hg hb hc hs hfl hput hok
  go_enter Try.func18, Try.ntmps18
  go_wp2_with (first
    | (at_lookup; refine lookF _ rfl _ _ rfl m _ S.fs rfl H.out.2.2.1 n rfl HN.out g HG.out false HB.out ?_)
    | (at_mapUpdate; refine wpList_mapUpdate_in _ rfl _ _ _ 52 rfl 3 56 keyI Try.underlying52 _ m _ _ rfl H1.out.2.2.1 HFL.out _ _ (.int .i64 n) rfl rfl (Maps.keyOf_int_mk Try.underlying3 HN.out) _ _ (elemF_mk s) ?_; intro w1 hown1 hturn1))
  go_ret
  rw [HP.out] at hown1
  exact ⟨rfl, ⟨_, m, H1.out.set_map (fs := insF S.fs n s) hturn1.grown hown1 HO.out⟩, (Kept.of_below hb0 F).trans (Kept.of_grown hturn1.grown fun k hk => (by injection hk with hk; subst hk; exact H.out.2.2.2.2.1)) fun k hk => Or.inl hk⟩

theorem put_any (F : Nat → Prop) (p : Nat) (S : Sh) (n : Int) (s : ByteArray) (w : World) (h : ShIs w F p S) (hn : (Lit.int .i64 n).wf = true) (hs : s.size ≤ 1099511627776) :
    Calls Try.prog 18 #[.pointer (some ⟨p, 0, none⟩), .int .i64 n, .string s] w fun e w' => e = .returned (.int .i64 (S.put n s).2) ∧ ShIs w' F p (S.put n s).1 ∧ Kept F w w' := by
  unfold Sh.put
  by_cases h1 : n < 1 ∨ 1099511627776 < n ∨ hasF S.fs n = true
  · rw [if_pos h1]
    exact put_arg F p S n s w h hn h1
  · rw [if_neg h1]
    by_cases h2 : 262144 < s.size ∨ 40 ≤ S.fs.length
    · rw [if_pos h2]
      exact put_big F p S n s w h hn h1 hs h2
    · rw [if_neg h2]
      exact put_ok F p S n s w h hn h1 h2
end Go.Proofs.Ytjfkfiaheohhcaa
