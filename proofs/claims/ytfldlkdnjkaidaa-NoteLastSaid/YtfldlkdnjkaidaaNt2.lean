/-
  The document's own notes (chapter 11): Drop.
-/
import Derived.Test.YtfldlkdnjkaidaaNt1
set_option linter.unusedVariables false
set_option linter.unusedSimpArgs false
namespace Go.Proofs.Ytfldlkdnjkaidaa
open Go Go.RowKit

set_option maxHeartbeats 4000000 in
theorem ndrop_has (F : Nat → Prop) (q : Nat) (S : Fl) (n : Int) (w : World) (h : NtIs w F q S) (hn : (Lit.int .i64 n).wf = true) (hb : hasF S n = true) :
    Calls Try.prog 10 #[.pointer (some ⟨q, 0, none⟩), .int .i64 n] w fun e w' => e = .returned (.bool true) ∧ ∃ F', NtIs w' F' q (delF S n) ∧ Step F w F' w' := by
  have hok := h.ok.del n
  have hat := nat_any F q S n w h hn
  rw [hb] at hat
  have hlen := h.ok.len
  obtain ⟨i, hi⟩ : ∃ i, idxF S n = i := ⟨_, rfl⟩
  have hil : i < S.length := by
    obtain ⟨hlt, _⟩ := (hasF_iff h.ok.up n).1 hb
    rw [← hi]
    exact hlt
  have hdel : delF S n = S.take i ++ S.drop (i + 1) := by
    obtain ⟨hlt, he⟩ := (hasF_iff h.ok.up n).1 hb
    have := delF_at h.ok.up hlt he
    rw [hi] at this
    exact this
  have hdl : (delF S n).length = i + (S.length - (i + 1)) := by
    rw [hdel, List.length_append, List.length_take, List.length_drop]
    omega
  have hwr : IntKind.i64.wrap ((i : Int) + 1) = (i : Int) + 1 := by
    rw [IntKind.wrap_i64]
    omega
  rw [hi] at hat
  obtain ⟨v, h⟩ := h
  obtain ⟨A, c, rfl, hnc, hcc, hA⟩ := own_slice h.2.1
  have H := Lib.hid h
  have HD := Lib.hid hdel
  have HDL := Lib.hid hdl
  have HO := Lib.hid hok
  clear h hn hb hi hdel hok hdl
  go_enter Try.func10, Try.ntmps10
  go_wp2_with fail
  refine hat.mono ?_
  rintro e w1 ⟨rfl, b1⟩
  have h1 := H.out.below b1
  obtain ⟨c2, _⟩ := h1.cells
  have r1 := RdT.of_own h1.2.1
  obtain ⟨sh1, rh1⟩ := slT_h r1 hnc hA i (Nat.le_of_lt hil)
  obtain ⟨A', sl1, rl1⟩ := slT_l r1 hnc (i + 1) hil
  rw [show ((i + 1 : Nat) : Int) = (i : Int) + 1 by omega] at sl1
  have hq1 := (Array.getElem?_eq_some_iff.1 h1.1).1
  have H1 := Lib.hid h1
  have RH := Lib.hid rh1
  have RL := Lib.hid rl1
  clear h1 r1 rh1 rl1
  have bz1 : Below w1.heap.size w1 w1.drew := (Below.refl _ _).drew
  go_wp2_with fail
  go_region_law (first
    | (refine step_ex rfl (.const (.slice none 0 0)) (.tmp 20) _ _ rfl (.slice none 0 0) (.slice A i c) (by simp [Act.eval, Act.put]) (by simp [Act.eval, Act.put]) (run_appT0 (w := w1.drew) w1.heap.size (RH.out.below bz1) ?s2 (Nat.le_refl _)) ?_
       case s2 => omega
       intro v3 w3 ho3 hr3
       obtain ⟨A3, k3, rfl, _⟩ := own_slice ho3
       have bz3 : Below w1.heap.size w1 w3 := bz1.grown hr3 bz1.size (fun g hg => by cases hg)
       have g3 : w3.cell? ⟨q, 0, none⟩ = some (.slice A S.length c) := (bz3.cell (p := ⟨q, 0, none⟩) hq1).trans c2
       have HO3 := Lib.hid ho3
       have hsz3 := bz3.size
       clear ho3 hr3)
    | (refine step_ex rfl (.tmp 21) (.tmp 28) _ _ rfl (.slice A3 i k3) (.slice A' (S.length - (i + 1)) (c - (i + 1))) (by simp [Act.eval, Act.put]) (by simp [Act.eval, Act.put]) (run_appT (w := w3) w1.heap.size HO3.out (RL.out.below bz3) ?s4 hsz3) ?_
       case s4 => omega
       intro v4 w4 ho4 hr4
       obtain ⟨A4, k4, rfl, _⟩ := own_slice ho4
       have bz4 : Below w1.heap.size w1 w4 := bz3.grown hr4.1 hsz3 (fun g hg => (HO3.out.lt g hg).1)
       have cq4 : w4.heap[q]? = w1.heap[q]? := bz4.block q hq1
       have f4 : w4.frozen? ⟨q, 0, none⟩ = false := thawed_at (cq4.trans H1.out.1)
       have g4 : w4.cell? ⟨q, 0, none⟩ = some (.slice A S.length c) := (bz4.cell (p := ⟨q, 0, none⟩) hq1).trans c2
       have HO4 := Lib.hid ho4
       have hsz4 := bz4.size
       clear ho4 hr4))
  all_goals go_wp2
  all_goals go_ret
  all_goals
    have hown4 := HO4.out
    rw [← HD.out] at hown4
    have hbase := fun g hg => (hown4.lt g hg).1
    have hlt4 := own_block_lt hown4
    have hz1 := b1.size
    have e0 : (w4.setCell ⟨q, 0, none⟩ (.slice A4 (i + (S.length - (i + 1))) k4)).heap.size = w4.heap.size := by simp [World.setCell]
    have bb : Below w.heap.size w w4 := b1.trans (bz4.mono hz1)
    refine ⟨rfl, Plus F w w4, ⟨_, NtAt.set_notes (cq4.trans H1.out.1) (own_down hown4 (Nat.zero_le _)) HDL.out (Or.inl H1.out.2.2.1) (fun g hg => Or.inr ⟨by have := hbase g hg; omega, hlt4 g hg⟩) HO.out⟩,
      (Kept.of_below bb F).trans (Kept.setCell F w4 _ _ H1.out.2.2.1) fun k hk => Or.inl hk, fun k hk => by rw [e0]; exact hk⟩

set_option maxHeartbeats 2000000 in
theorem ndrop_any (F : Nat → Prop) (q : Nat) (S : Fl) (n : Int) (w : World) (h : NtIs w F q S) (hn : (Lit.int .i64 n).wf = true) :
    Calls Try.prog 10 #[.pointer (some ⟨q, 0, none⟩), .int .i64 n] w fun e w' => e = .returned (.bool (hasF S n)) ∧ ∃ F', NtIs w' F' q (delF S n) ∧ Step F w F' w' := by
  cases hb : hasF S n
  · have hat := nat_any F q S n w h hn
    rw [hb] at hat
    have hd : delF S n = S := delF_none hb
    have HR := Lib.hid h
    have HD := Lib.hid hd
    clear h hd hb hn
    go_enter Try.func10, Try.ntmps10
    go_wp2_with (go_at_call 19; refine hat.mono ?_; rintro e w1 ⟨rfl, b1⟩)
    go_ret
    rw [HD.out]
    exact ⟨rfl, F, HR.out.below b1, Step.same (Kept.of_below b1 F)⟩
  · exact ndrop_has F q S n w h hn hb
end Go.Proofs.Ytfldlkdnjkaidaa
