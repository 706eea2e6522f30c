/-
  The calls of a shelf: those that read alone, and Sync, within, New.
-/
import Derived.Test.YtjfkfiaheohhcaaSh
import Derived.Deep.QuietTactic
import Derived.BigQuiet
set_option linter.unusedVariables false
set_option linter.unusedSimpArgs false
namespace Go.Proofs.Ytjfkfiaheohhcaa
open Go Go.RowKit

theorem within_any (n m : Int) (w : World) (hm : 0 ≤ m) (hm2 : m ≤ 4611686018427387904) (hn : -9223372036854775808 ≤ n ∧ n ≤ 9223372036854775807) :
    Calls Try.prog 37 #[.int .i64 n, .int .i64 m] w fun e w' => e = .returned (.int .i64 (clip n m.toNat : Nat)) ∧ w = w' := by
  obtain ⟨h1, h2⟩ := hn
  have e : ((clip n m.toNat : Nat) : Int) = max 0 (min n m) := by unfold clip; omega
  rw [e]
  go_enter Try.func37, Try.ntmps37
  go_wp2
  go_ret
  exact ⟨rfl, rfl⟩

theorem new_any (w : World) :
    Calls Try.prog 7 #[] w fun e w' => ∃ p F, e = .returned (.pointer (some ⟨p, 0, none⟩)) ∧ ShIs w' F p Sh.new ∧ Below w.heap.size w w' ∧ ∀ k, F k → w.heap.size ≤ k ∧ k < w'.heap.size := by
  have hmm := @run_makeMap Try.prog
  go_enter Try.func7, Try.ntmps7
  go_wp2
  go_ret
  have hB := ((Below.refl w.heap.size w).alloc (Nat.le_refl _) (.map #[] 0)).alloc (by simp) (.cells #[.slice none 0 0, .int .i64 0, .map (some w.heap.size), .string ⟨#[]⟩] 54)
  refine ⟨w.heap.size + 1, fun k => w.heap.size ≤ k ∧ k < w.heap.size + 2, rfl, ⟨.slice none 0 0, w.heap.size, ?_, ⟨rfl, Or.inl ⟨rfl, rfl⟩⟩, ?_, by omega, by omega, fun g hg => (by cases hg), Sh.Ok.new⟩, hB, fun k hk => by simpa using hk⟩
  · have := heap_alloc_new (w.alloc (.map #[] 0)) (.cells #[.slice none 0 0, .int .i64 0, .map (some w.heap.size), .string ⟨#[]⟩] 54)
    rw [show (w.alloc (.map #[] 0)).heap.size = w.heap.size + 1 by simp] at this
    exact this
  · exact (World.ownsMap_made w _ _ _).alloc _

theorem log_any (F : Nat → Prop) (p : Nat) (S : Sh) (w : World) (h : ShIs w F p S) :
    Calls Try.prog 21 #[.pointer (some ⟨p, 0, none⟩)] w fun e w' => e = .returned (.string ⟨S.log.toArray⟩) ∧ w = w' := by
  obtain ⟨v, m, h⟩ := h
  obtain ⟨c0, c1, c2, c3, fz⟩ := h.cells
  obtain ⟨A, c, rfl, hn, hc, hA, hr⟩ := Rd.of_own h.2.1
  have hcv := cv_string hr c
  clear h
  go_enter Try.func21, Try.ntmps21
  go_wp2
  go_ret
  exact ⟨rfl, rfl⟩
theorem unsynced_any (F : Nat → Prop) (p : Nat) (S : Sh) (w : World) (h : ShIs w F p S) :
    Calls Try.prog 19 #[.pointer (some ⟨p, 0, none⟩)] w fun e w' => e = .returned (.int .i64 ((S.log.length - S.syn : Nat) : Int)) ∧ Kept (fun _ => False) w w' ∧ w'.heap = w.heap := by
  have hok := h.ok
  have h1 := hok.syn
  have h2 := hok.log
  obtain ⟨v, m, h⟩ := h
  obtain ⟨c0, c1, c2, c3, fz⟩ := h.cells
  obtain ⟨A, c, rfl, hn, hc, hA, hr⟩ := Rd.of_own h.2.1
  have e : (((S.log.length - S.syn : Nat) : Nat) : Int) = (S.log.length : Int) - (S.syn : Nat) := by omega
  rw [e]
  clear h hr hok
  go_enter Try.func19, Try.ntmps19
  go_wp2_with fail
  go_quiet (fail)
  go_wp2
  go_ret
  exact ⟨rfl, ⟨rfl, rfl, rfl, Nat.le_refl _, fun _ _ _ => rfl⟩, rfl⟩

/-- A shelf with another number of synced bytes, or another log, or another man: the one block written. -/
theorem sync_any (F : Nat → Prop) (p : Nat) (S : Sh) (w : World) (h : ShIs w F p S) :
    Calls Try.prog 17 #[.pointer (some ⟨p, 0, none⟩)] w fun e w' => e = .returned (.tuple #[]) ∧ ShIs w' F p S.sync ∧ Kept F w w' := by
  obtain ⟨v, m, h⟩ := h
  obtain ⟨c0, c1, c2, c3, fz⟩ := h.cells
  obtain ⟨A, c, rfl, hn, hc, hA, hr⟩ := Rd.of_own h.2.1
  have f1 := fz 1
  have H := Lib.hid h
  clear h hr fz
  go_enter Try.func17, Try.ntmps17
  go_wp2
  go_end0
  exact ⟨rfl, ⟨_, m, H.out.set_syn (Nat.le_refl _)⟩, Kept.setCell F w _ _ H.out.2.2.2.1⟩
theorem man_any (F : Nat → Prop) (p : Nat) (S : Sh) (w : World) (h : ShIs w F p S) :
    Calls Try.prog 23 #[.pointer (some ⟨p, 0, none⟩)] w fun e w' => e = .returned (.string S.man) ∧ w = w' := by
  obtain ⟨v, m, h⟩ := h
  obtain ⟨c0, c1, c2, c3, fz⟩ := h.cells
  clear h
  go_enter Try.func23, Try.ntmps23
  go_wp2
  go_ret
  exact ⟨rfl, rfl⟩
end Go.Proofs.Ytjfkfiaheohhcaa
