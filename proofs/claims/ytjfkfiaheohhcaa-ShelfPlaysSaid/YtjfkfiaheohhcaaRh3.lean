/-
  The document's own calls of a shelf: Get, Put.
-/
import Derived.Test.YtjfkfiaheohhcaaRh2
set_option linter.unusedVariables false
set_option linter.unusedSimpArgs false
namespace Go.Proofs.Ytjfkfiaheohhcaa
open Go Go.RowKit

theorem one_rdF (w : World) (n : Int) (s : ByteArray) : RdF (w.alloc (.cells #[.int .i64 n, .string s] 61)) (w.heap.size + 1) (some ⟨w.heap.size, 0, none⟩) 1 [(n, s)] := by
  refine ⟨rfl, fun _ => ⟨_, 0, rfl, Nat.lt_succ_self _, fun j u hu => ?_⟩⟩
  rw [Nat.zero_add]
  have hb := heap_alloc_new w (.cells #[.int .i64 n, .string s] 61)
  refine cell_at hb ?_
  rw [← Array.getElem?_toList]
  exact hu
/-- Other files. -/
theorem RfAt.set_files {w : World} {F : Nat → Prop} {q : Nat} {v v' : Value} {T : ByteArray} {S : Sh} {fs : Fl} {m : Nat} (h1 : w.heap[q]? = some (.cells #[.string T, .int .i64 (S.syn : Nat), v, .string S.man] 28 (0, 0))) (h2 : T.data.toList = S.log)
    (ho : w.ownsRow 0 61 2 v' m (fRow fs)) (hm : fs.length = m) (hF : F q) (hv : ∀ g, v'.ownBlock = some g → F g) (hok : Sh.Ok { S with fs := fs }) : RfAt (w.setCell ⟨q, 2, none⟩ v') F q v' T { S with fs := fs } := by
  subst hm
  have hne : v'.ownBlock ≠ some q := by
    intro hc
    obtain ⟨cs, hcs⟩ := own_tag ho _ hc
    rw [hcs] at h1
    injection h1 with h1
    injection h1 with _ h1
    exact absurd h1 (by decide)
  refine ⟨?_, h2, own_kept ho (fun g hg => set_other (a := ⟨q, 2, none⟩) w fun e => hne (by rw [hg, e])), hF, hv, hok⟩
  rw [heap_setCell_same w q 2 _ _ _ h1]
  rfl

set_option maxHeartbeats 2000000 in
theorem rget_any (F : Nat → Prop) (q : Nat) (S : Sh) (n : Int) (w : World) (h : RfIs w F q S) (hn : (Lit.int .i64 n).wf = true) :
    Calls Try.prog 11 #[.pointer (some ⟨q, 0, none⟩), .int .i64 n] w fun e w' => e = .returned (.tuple #[.string (getF S.fs n), .int .i64 (if hasF S.fs n = true then 0 else 9)]) ∧ Below w.heap.size w w' := by
  have hR := h
  have hup := h.ok.up
  obtain ⟨b, hb⟩ : ∃ b, hasF S.fs n = b := ⟨_, rfl⟩
  obtain ⟨s, hs⟩ : ∃ s, getF S.fs n = s := ⟨_, rfl⟩
  have hat := rat_any F q S n w hR hn
  rw [hb] at hat
  obtain ⟨i, hi⟩ : ∃ i, idxF S.fs n = i := ⟨_, rfl⟩
  rw [hi] at hat
  rw [hb, hs]
  cases b
  · have h0 : s = ⟨#[]⟩ := by rw [← hs]; exact getF_none hb
    clear h hR hb hs hi hup
    go_enter Try.func11, Try.ntmps11
    go_wp2_with (go_at_call 27; refine hat.mono ?_; rintro e w1 ⟨rfl, b1⟩)
    go_ret2
    exact ⟨by first | rfl | (rw [h0]; rfl), b1⟩
  · obtain ⟨v, T, h⟩ := h
    obtain ⟨hlt, hgs⟩ : ∃ h : i < S.fs.length, s = (S.fs[i]'h).2 := by
      obtain ⟨hlt, he⟩ := (hasF_iff hup n).1 hb
      subst hi
      exact ⟨hlt, by rw [← hs]; exact getF_at hlt he⟩
    obtain ⟨A, c, rfl, hnc, hc, hA⟩ := own_slice h.2.2.1
    have H := Lib.hid h
    have HGS := Lib.hid hgs
    have hlen := h.ok.len
    have i1 : (i : Int) < (S.fs.length : Nat) := by omega
    clear h hR hb hs hup hgs hi
    go_enter Try.func11, Try.ntmps11
    go_wp2_with fail
    refine hat.mono ?_
    rintro e w1 ⟨rfl, b1⟩
    have h1 := H.out.below b1
    obtain ⟨c0, c1, c2, c3, _⟩ := h1.cells
    obtain ⟨g, o, rfl, hg, hcell⟩ := (RdF.of_own h1.2.2.1).2 (by omega)
    have hc1 := hcell _ _ (fRow_get1 S.fs i hlt)
    rw [← HGS.out] at hc1
    rw [← Nat.add_assoc] at hc1
    clear hcell h1
    go_wp2
    go_ret2
    exact ⟨rfl, b1⟩

set_option maxHeartbeats 2000000 in
theorem rput_arg (F : Nat → Prop) (q : Nat) (S : Sh) (n : Int) (s : ByteArray) (w : World) (h : RfIs w F q S) (hn : (Lit.int .i64 n).wf = true) (hc : n < 1 ∨ 1099511627776 < n ∨ hasF S.fs n = true) :
    Calls Try.prog 30 #[.pointer (some ⟨q, 0, none⟩), .int .i64 n, .string s] w fun e w' => e = .returned (.int .i64 1) ∧ Below w.heap.size w w' := by
  obtain ⟨b, hb⟩ : ∃ b, hasF S.fs n = b := ⟨_, rfl⟩
  have hat := rat_any F q S n w h hn
  rw [hb] at hat hc
  by_cases k1 : n < 1
  · have d1 : decide (n < 1) = true := by simpa using k1
    clear hc k1
    go_enter Try.func30, Try.ntmps30
    go_wp2_with (go_at_call 27; refine hat.mono ?_; rintro e w1 ⟨rfl, b1⟩)
    go_ret
    exact ⟨rfl, b1⟩
  have d1 : decide (n < 1) = false := by simpa using k1
  by_cases k2 : 1099511627776 < n
  · have d2 : decide (1099511627776 < n) = true := by simpa using k2
    clear hc k1 k2
    go_enter Try.func30, Try.ntmps30
    go_wp2_with (go_at_call 27; refine hat.mono ?_; rintro e w1 ⟨rfl, b1⟩)
    go_ret
    exact ⟨rfl, b1⟩
  have d2 : decide (1099511627776 < n) = false := by simpa using k2
  obtain rfl : b = true := by
    rcases hc with hc | hc | hc
    · exact absurd hc k1
    · exact absurd hc k2
    · exact hc
  clear hc k1 k2
  go_enter Try.func30, Try.ntmps30
  go_wp2_with (go_at_call 27; refine hat.mono ?_; rintro e w1 ⟨rfl, b1⟩)
  go_ret
  exact ⟨rfl, b1⟩

set_option maxHeartbeats 2000000 in
theorem rput_big (F : Nat → Prop) (q : Nat) (S : Sh) (n : Int) (s : ByteArray) (w : World) (h : RfIs w F q S) (hn : (Lit.int .i64 n).wf = true) (hc : ¬ (n < 1 ∨ 1099511627776 < n ∨ hasF S.fs n = true)) (hs : s.size ≤ 1099511627776)
    (hbig : 262144 < s.size ∨ 40 ≤ S.fs.length) :
    Calls Try.prog 30 #[.pointer (some ⟨q, 0, none⟩), .int .i64 n, .string s] w fun e w' => e = .returned (.int .i64 2) ∧ Below w.heap.size w w' := by
  have hb : hasF S.fs n = false := by
    cases hh : hasF S.fs n
    · rfl
    · exact absurd (Or.inr (Or.inr hh)) hc
  have hat := rat_any F q S n w h hn
  rw [hb] at hat
  have d1 : decide (n < 1) = false := by simp; omega
  have d2 : decide (1099511627776 < n) = false := by simp; omega
  obtain ⟨v, T, h⟩ := h
  obtain ⟨A, c, rfl, hnc, hcc, hA⟩ := own_slice h.2.2.1
  have H := Lib.hid h
  by_cases k1 : 262144 < s.size
  · have d3 : decide ((262144 : Int) < (s.size : Nat)) = true := by simp; omega
    clear h hn hb hc hbig k1
    go_enter Try.func30, Try.ntmps30
    go_wp2_with (go_at_call 27; refine hat.mono ?_; rintro e w1 ⟨rfl, b1⟩)
    go_ret
    exact ⟨rfl, b1⟩
  · have d3 : decide ((262144 : Int) < (s.size : Nat)) = false := by simp; omega
    have d4 : decide ((40 : Int) ≤ (S.fs.length : Nat)) = true := by simp; omega
    clear h hn hb hc hbig k1
    go_enter Try.func30, Try.ntmps30
    go_wp2_with fail
    refine hat.mono ?_
    rintro e w1 ⟨rfl, b1⟩
    obtain ⟨c0, c1, c2, c3, _⟩ := (H.out.below b1).cells
    go_wp2
    go_ret
    exact ⟨rfl, b1⟩

set_option maxHeartbeats 4000000 in
theorem rput_ok (F : Nat → Prop) (q : Nat) (S : Sh) (n : Int) (s : ByteArray) (w : World) (h : RfIs w F q S) (hn : (Lit.int .i64 n).wf = true) (hc : ¬ (n < 1 ∨ 1099511627776 < n ∨ hasF S.fs n = true)) (hs : ¬ (262144 < s.size ∨ 40 ≤ S.fs.length)) :
    Calls Try.prog 30 #[.pointer (some ⟨q, 0, none⟩), .int .i64 n, .string s] w fun e w' => e = .returned (.int .i64 0) ∧ ∃ F', RfIs w' F' q { S with fs := insF S.fs n s } ∧ Step F w F' w' := by
  have hok := h.ok.put n s
  unfold Sh.put at hok
  rw [if_neg hc, if_neg hs] at hok
  have hb : hasF S.fs n = false := by
    cases hh : hasF S.fs n
    · rfl
    · exact absurd (Or.inr (Or.inr hh)) hc
  have hat := rat_any F q S n w h hn
  rw [hb] at hat
  have d1 : decide (n < 1) = false := by simp; omega
  have d2 : decide (1099511627776 < n) = false := by simp; omega
  have d3 : decide ((262144 : Int) < (s.size : Nat)) = false := by simp; omega
  have d4 : decide ((40 : Int) ≤ (S.fs.length : Nat)) = false := by simp; omega
  have hlen := h.ok.len
  obtain ⟨i, hi⟩ : ∃ i, idxF S.fs n = i := ⟨_, rfl⟩
  have hil : i ≤ S.fs.length := by rw [← hi]; exact idxF_le _ _
  have hins : insF S.fs n s = (S.fs.take i ++ [(n, s)]) ++ S.fs.drop i := by unfold insF; rw [hi, List.append_assoc]; rfl
  rw [hi] at hat
  obtain ⟨v, T, h⟩ := h
  obtain ⟨A, c, rfl, hnc, hcc, hA⟩ := own_slice h.2.2.1
  have H := Lib.hid h
  have HI := Lib.hid hins
  have HO := Lib.hid hok
  clear h hn hb hc hs hi hins hok
  go_enter Try.func30, Try.ntmps30
  go_wp2_with fail
  refine hat.mono ?_
  rintro e w1 ⟨rfl, b1⟩
  have h1 := H.out.below b1
  obtain ⟨c0, c1, c2, c3, _⟩ := h1.cells
  have r1 := RdF.of_own h1.2.2.1
  obtain ⟨sh1, rh1⟩ := slF_h r1 hnc hA i hil
  obtain ⟨A', sl1, rl1⟩ := slF_l r1 hnc i hil
  have H1 := Lib.hid h1
  have RH := Lib.hid rh1
  have RL := Lib.hid rl1
  clear h1 r1 rh1 rl1
  go_wp2_with (at_builtin; refine list_ex rfl (.const (.slice none 0 0)) (.tmp 43) _ _ rfl (.slice none 0 0) (.slice A i c) rfl rfl (run_appF w1.heap.size (own_nilF _ _) RH.out ?s1 (Nat.le_refl _)) ?_)
  case s1 => omega
  intro v2 w2 ho2 hg2 hloc2
  obtain ⟨A2, k2, rfl, _⟩ := own_slice ho2
  have bz2 : Below w1.heap.size w1 w2 := (Below.refl _ _).grown hg2 (Nat.le_refl _) (fun j hj => by cases hj)
  have hq1 := (Array.getElem?_eq_some_iff.1 H1.out.1).1
  have g2 : w2.cell? ⟨q, 2, none⟩ = some (.slice A S.fs.length c) := (bz2.cell (p := ⟨q, 2, none⟩) hq1).trans c2
  have bz2a := (bz2.alloc bz2.size (.cells #[.int .i64 n, .string s] 61)).drew
  have g2a : (w2.alloc (.cells #[.int .i64 n, .string s] 61)).drew.cell? ⟨q, 2, none⟩ = some (.slice A S.fs.length c) := (bz2a.cell (p := ⟨q, 2, none⟩) hq1).trans c2
  have HO2 := Lib.hid ho2
  have hsz1 := bz2.size
  clear ho2 hloc2
  go_wp2_with fail
  go_region_law (first
    | (refine step_ex rfl (.tmp 46) (.tmp 50) _ _ rfl (.slice A2 i k2) (.slice (some ⟨w2.heap.size, 0, none⟩) 1 1) (by simp [Act.eval, Act.put]) (by simp [Act.eval, Act.put]) (run_appF (w := (w2.alloc (.cells #[.int .i64 n, .string s] 61)).drew) w1.heap.size (HO2.out.alloc _) (one_rdF w2 n s) ?s2 ?s3) ?_
       case s2 => omega
       case s3 => exact bz2a.size
       intro v3 w3 ho3 hr3
       obtain ⟨A3, k3, rfl, _⟩ := own_slice ho3
       have bz3 : Below w1.heap.size w1 w3 := bz2a.grown hr3.1 bz2a.size (fun g hg => (HO2.out.lt g hg).1)
       have g3 : w3.cell? ⟨q, 2, none⟩ = some (.slice A S.fs.length c) := (bz3.cell (p := ⟨q, 2, none⟩) hq1).trans c2
       have HO3 := Lib.hid ho3
       have hsz3 := bz3.size
       clear ho3 hr3)
    | (refine step_ex rfl (.tmp 51) (.tmp 57) _ _ rfl (.slice A3 (i + 1) k3) (.slice A' (S.fs.length - i) (c - i)) (by simp [Act.eval, Act.put]) (by simp [Act.eval, Act.put]) (run_appF (w := w3) w1.heap.size HO3.out (RL.out.below bz3) ?s4 hsz3) ?_
       case s4 => omega
       intro v4 w4 ho4 hr4
       obtain ⟨A4, k4, rfl, _⟩ := own_slice ho4
       have bz4 : Below w1.heap.size w1 w4 := bz3.grown hr4.1 hsz3 (fun g hg => (HO3.out.lt g hg).1)
       have cq4 : w4.heap[q]? = w1.heap[q]? := bz4.block q hq1
       have f4 : w4.frozen? ⟨q, 2, none⟩ = false := thawed_at (cq4.trans H1.out.1)
       have g4 : w4.cell? ⟨q, 2, none⟩ = some (.slice A S.fs.length c) := (bz4.cell (p := ⟨q, 2, none⟩) hq1).trans c2
       have HO4 := Lib.hid ho4
       have hsz4 := bz4.size
       clear ho4 hr4))
  all_goals go_wp2
  all_goals go_ret
  all_goals
    have hown4 := HO4.out
    rw [← HI.out] at hown4
    have hbase := fun g hg => (hown4.lt g hg).1
    have hlt4 := own_block_lt hown4
    have hz1 := b1.size
    have e0 : (w4.setCell ⟨q, 2, none⟩ (.slice A4 (i + 1 + (S.fs.length - i)) k4)).heap.size = w4.heap.size := by simp [World.setCell]
    have bb : Below w.heap.size w w4 := b1.trans (bz4.mono hz1)
    refine ⟨rfl, Plus F w w4, ⟨_, T, RfAt.set_files (S := S) (cq4.trans H1.out.1) H1.out.2.1 (own_down hown4 (Nat.zero_le _)) (by rw [insF_length]; omega) (Or.inl H1.out.2.2.2.1) (fun g hg => Or.inr ⟨by have := hbase g hg; omega, hlt4 g hg⟩) HO.out⟩,
      (Kept.of_below bb F).trans (Kept.setCell F w4 _ _ H1.out.2.2.2.1) fun k hk => Or.inl hk, fun k hk => by rw [e0]; exact hk⟩

theorem rput_any (F : Nat → Prop) (q : Nat) (S : Sh) (n : Int) (s : ByteArray) (w : World) (h : RfIs w F q S) (hn : (Lit.int .i64 n).wf = true) (hs : s.size ≤ 1099511627776) :
    Calls Try.prog 30 #[.pointer (some ⟨q, 0, none⟩), .int .i64 n, .string s] w fun e w' => e = .returned (.int .i64 (S.put n s).2) ∧ ∃ F', RfIs w' F' q (S.put n s).1 ∧ Step F w F' w' := by
  unfold Sh.put
  by_cases h1 : n < 1 ∨ 1099511627776 < n ∨ hasF S.fs n = true
  · rw [if_pos h1]
    exact (rput_arg F q S n s w h hn h1).mono fun e w' ⟨he, hb⟩ => ⟨he, F, h.below hb, Step.same (Kept.of_below hb F)⟩
  · rw [if_neg h1]
    by_cases h2 : 262144 < s.size ∨ 40 ≤ S.fs.length
    · rw [if_pos h2]
      exact (rput_big F q S n s w h hn h1 hs h2).mono fun e w' ⟨he, hb⟩ => ⟨he, F, h.below hb, Step.same (Kept.of_below hb F)⟩
    · rw [if_neg h2]
      exact rput_ok F q S n s w h hn h1 h2
end Go.Proofs.Ytjfkfiaheohhcaa
