/-
  The document's own copy of a shelf.
-/
import Derived.Test.YtjfkfiaheohhcaaRh4
set_option linter.unusedVariables false
set_option linter.unusedSimpArgs false
namespace Go.Proofs.Ytjfkfiaheohhcaa
open Go Go.RowKit

set_option maxHeartbeats 4000000 in
theorem rcopy_any (F : Nat → Prop) (q : Nat) (S : Sh) (w : World) (h : RfIs w F q S) :
    Calls Try.prog 15 #[.pointer (some ⟨q, 0, none⟩)] w fun e w' => ∃ x F', e = .returned (.pointer (some ⟨x, 0, none⟩)) ∧ RfIs w' F' x S ∧ Below w.heap.size w w' ∧ ∀ k, F' k → w.heap.size ≤ k ∧ k < w'.heap.size := by
  have hlen := h.ok.len
  obtain ⟨v, T, h⟩ := h
  obtain ⟨c0, c1, c2, c3, _⟩ := h.cells
  obtain ⟨A, c, rfl, hnc, hcc, hA⟩ := own_slice h.2.2.1
  have r1 := RdF.of_own h.2.2.1
  have H := Lib.hid h
  have R1 := Lib.hid r1
  have bz1 : Below w.heap.size w w.drew := (Below.refl _ _).drew
  have hq1 := (Array.getElem?_eq_some_iff.1 h.1).1
  clear h r1
  go_enter Try.func15, Try.ntmps15
  go_wp2_with fail
  go_region_held3 (fun w' => w'.cell? ⟨q, 0, none⟩ = some (.string T) ∧ w'.cell? ⟨q, 1, none⟩ = some (.int .i64 (S.syn : Nat)) ∧ w'.cell? ⟨q, 2, none⟩ = some (.slice A S.fs.length c) ∧ w'.cell? ⟨q, 3, none⟩ = some (.string S.man)) (refine ⟨?_, ?_, ?_, ?_⟩ <;> first | assumption | exact ka0 _ | exact ka1 _ | exact ka2 _ | exact ka3 _) (first
    | (refine step_ex rfl (.const (.slice none 0 0)) (.tmp 14) _ _ rfl (.slice none 0 0) (.slice A S.fs.length c) (by simp [Act.eval, Act.put]) (by simp [Act.eval, Act.put]) (run_appF0 (w := w.drew) w.heap.size (R1.out.below bz1) ?s2 (Nat.le_refl _)) ?_
       case s2 => omega
       intro v3 w3 ho3 hr3
       obtain ⟨A3, k3, rfl, _⟩ := own_slice ho3
       have bz3 : Below w.heap.size w w3 := bz1.grown hr3 bz1.size (fun g hg => by cases hg)
       have g0 : w3.cell? ⟨q, 0, none⟩ = some (.string T) := (bz3.cell (p := ⟨q, 0, none⟩) hq1).trans c0
       have g1 : w3.cell? ⟨q, 1, none⟩ = some (.int .i64 (S.syn : Nat)) := (bz3.cell (p := ⟨q, 1, none⟩) hq1).trans c1
       have g2 : w3.cell? ⟨q, 2, none⟩ = some (.slice A S.fs.length c) := (bz3.cell (p := ⟨q, 2, none⟩) hq1).trans c2
       have g3 : w3.cell? ⟨q, 3, none⟩ = some (.string S.man) := (bz3.cell (p := ⟨q, 3, none⟩) hq1).trans c3
       have kp : q < w3.heap.size := Nat.lt_of_lt_of_le hq1 bz3.size
       have ka0 := fun o => (World.cell?_alloc_lt w3 o ⟨q, 0, none⟩ kp).trans g0
       have ka1 := fun o => (World.cell?_alloc_lt w3 o ⟨q, 1, none⟩ kp).trans g1
       have ka2 := fun o => (World.cell?_alloc_lt w3 o ⟨q, 2, none⟩ kp).trans g2
       have ka3 := fun o => (World.cell?_alloc_lt w3 o ⟨q, 3, none⟩ kp).trans g3
       have HO3 := Lib.hid ho3
       have hsz3 := bz3.size
       clear ho3 hr3))
  all_goals go_wp2
  all_goals go_ret
  all_goals
    have hown := HO3.out
    have hbase := fun g hg => (hown.lt g hg).1
    have hlt := own_block_lt hown
    have hnew := heap_alloc_new w3 (.cells #[.string T, .int .i64 (S.syn : Nat), .slice A3 S.fs.length k3, .string S.man] 28)
    have b3 := bz3.alloc hsz3 (.cells #[.string T, .int .i64 (S.syn : Nat), .slice A3 S.fs.length k3, .string S.man] 28)
    refine ⟨w3.heap.size, fun k => w.heap.size ≤ k ∧ k < w3.heap.size + 1, rfl, ⟨_, T, hnew, H.out.2.1, own_down (hown.alloc _) (Nat.zero_le _), ⟨hsz3, by omega⟩, fun g hg => ⟨hbase g hg, by have := hlt g hg; omega⟩, H.out.ok⟩, ⟨b3.os, b3.tape, b3.output, b3.size, b3.block⟩, fun k hk => by simpa using hk⟩
end Go.Proofs.Ytjfkfiaheohhcaa
