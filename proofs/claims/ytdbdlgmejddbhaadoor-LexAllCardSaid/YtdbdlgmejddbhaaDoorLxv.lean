/-
  The document's own reader: words.
-/
import Derived.Test.YtdbdlgmejddbhaaDoorLxu
import Derived.Test.YtdbdlgmejddbhaaDoorRf6
set_option linter.unusedVariables false
namespace Go.Proofs.YtdbdlgmejddbhaaDoor
open Go Go.RowKit Go.Proofs

set_option maxHeartbeats 4000000 in
set_option maxRecDepth 100000 in
theorem pfrom_any {B q I0 p0 I p : Nat} {s : ByteArray} {v : Value} (w : World) (h : PSt B w q s v I p) (hs : s.size ≤ 1000) (h0 : Pos s I0 p0) (hp0 : p0 < s.size) (hpp : p0 ≤ p) :
    Calls Tryd.prog 49 #[.pointer (some ⟨q, 0, none⟩), .int .i64 (I0 : Nat)] w fun e w' => e = .returned (.string (s.extract p0 p)) ∧ ∃ n, w' = w.drewN n := by
  have hlen := cps_length s
  obtain ⟨A, cap, rfl, hcap, hmax, hform⟩ := h.all.form
  unfold maxLen at hmax
  have c0 := cell_at (i := 0) h.blk rfl
  have c1 := cell_at (i := 1) h.blk rfl
  have c2 := cell_at (i := 2) h.blk rfl
  have hI : I ≤ 1000 := by have := h.pos.2.1; omega
  have hps : p ≤ s.size := h.pos.1
  obtain ⟨a1, a2, _⟩ := h0.get hp0
  obtain ⟨g, rfl, hcell⟩ : ∃ g, A = some ⟨g, 0, none⟩ ∧ _ := hform.resolve_left (fun h => by rw [h] at a1; simp at a1)
  obtain ⟨_, x1, _, _⟩ := hcell _ _ a2
  have hI0 : I0 ≤ 1000 := by omega
  have i0 : (0 : Int) ≤ (I0 : Int) := by omega
  have i1 : (I0 : Int) < ((cps s).length : Int) := by omega
  have d0 : decide (((cps s).length : Int) ≤ (I0 : Int)) = false := by simp; omega
  have hsl : ∀ wx : World, (Instr.slice 9 (.string s) (some (.int .i64 (p0 : Int))) (some (.int .i64 (p : Int))) none).run Tryd.prog wx = .ok (.string (s.extract p0 p)) wx := by
    intro wx
    rw [run_slice_string (P := Tryd.prog) wx 9 s .i64 .i64 p0 (p : Int) Tryd.underlying9 (by omega) (by omega) (by omega)]
    rfl
  by_cases hp : p < s.size
  · obtain ⟨b1, b2, _⟩ := h.pos.get hp
    obtain ⟨_, y1, _, _⟩ := hcell _ _ b2
    have j0 : (0 : Int) ≤ (I : Int) := by omega
    have j1 : (I : Int) < ((cps s).length : Int) := by omega
    have d1 : decide ((I : Int) < ((cps s).length : Int)) = true := by simp; omega
    have d2 : decide (((cps s).length : Int) ≤ (I : Int)) = false := by simp; omega
    clear hform hcell h h0 a2 b2
    go_enter Tryd.func49, Tryd.ntmps49
    go_wp2_with fail
    go_quiet (fail)
    go_wp2_with fail
    go_quiet (fail)
    go_wp2_with fail
    go_quiet (fail)
    go_wp2
    go_ret
    exact ⟨rfl, _, by rw [World.drewN_drewN, World.drewN_drewN]⟩
  · obtain ⟨b1, b2⟩ := h.pos.fin hp
    have d1 : decide ((I : Int) < ((cps s).length : Int)) = false := by simp; omega
    have d2 : ¬ (I : Int) < ((cps s).length : Int) := by omega
    have hzz : (s.size : Int) = (p : Int) := by omega
    clear hform hcell h h0 a2 b2
    go_enter Tryd.func49, Tryd.ntmps49
    go_wp2_with fail
    go_quiet (fail)
    go_wp2_with fail
    go_quiet (fail)
    go_wp2
    go_ret
    exact ⟨rfl, _, by rw [World.drewN_drewN]⟩

end Go.Proofs.YtdbdlgmejddbhaaDoor
