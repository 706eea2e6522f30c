import Derived.Test.YtmpcnhpdobdmcaaGreatDoorLawNotesBI
import Derived.BigQuiet
set_option linter.unusedVariables false
set_option linter.unusedSimpArgs false
namespace Go.Proofs.YtmpcnhpdobdmcaaGreatDoor
open Go Go.RowKit
theorem err_ne {p : Pz Pa} {e : Pa -> Bs} {G T : Pa -> Prop} (h : Codec p e G T) {ok : Pa -> Bool} {b : Bs} {c : Int} (hg : getP p ok b = .error c) : c ≠ 0 := by
 unfold getP at hg
 split at hg
 ·injection hg with hg; rw [<- hg]; decide
 ·cases hp : p b with
  | error c' =>
    rw [hp] at hg
    injection hg with hg
    rcases h.errs hp with h | h <;> omega
  | ok y =>
    rw [hp] at hg
    dsimp only at hg
    split at hg
    ·split at hg
     ·cases hg
     ·injection hg with hg; omega
    ·injection hg with hg; omega
theorem err_neB {b : Bs} {c : Int} (hg : getBatch b = .error c) : c ≠ 0 := by
 unfold getBatch getP at hg
 split at hg
 ·injection hg with hg; rw [<- hg]; decide
 ·cases hp : batchP b with
  | error c' =>
    rw [hp] at hg
    injection hg with hg
    rcases batch_codecT.errs hp with h | h <;> omega
  | ok y =>
    rw [hp] at hg
    dsimp only at hg
    split at hg
    ·split at hg
     ·cases hg
     ·injection hg with hg; omega
    ·injection hg with hg; omega
end Go.Proofs.YtmpcnhpdobdmcaaGreatDoor
