/-
  Contracts of the document's own answers of layer 1 that read what All made: Count, Valid, At, Letter, Name.
-/
import Derived.Test.YtdbdlgmejddbhaaDoorRfL
import Derived.Test.YtdbdlgmejddbhaaDoorRn1
import Derived.Test.YtdbdlgmejddbhaaDoorRn4
import Derived.Test.YtdbdlgmejddbhaaDoorPlc
import Derived.Test.YtdbdlgmejddbhaaDoorTx
import Derived.Deep.QuietTactic
import Derived.BigQuiet
set_option linter.unusedVariables false
namespace Go.Proofs.YtdbdlgmejddbhaaDoor
open Go Go.RowKit

set_option maxHeartbeats 1600000 in
set_option maxRecDepth 100000 in
theorem rvalid_any (s : ByteArray) (w : World) (hs : s.size ≤ 1099511627776) :
    Calls Tryd.prog 52 #[.string s] w fun e w' => e = .returned (.bool (validB s)) ∧ Below w.heap.size w w' := by
  have hlen := cps_length s
  go_enter Tryd.func52, Tryd.ntmps52
  go_wp2_with fail
  refine (all_any s _ hs).mono ?_
  rintro e w1 ⟨v, rfl, ha, b1⟩
  obtain ⟨A, cap, rfl, hcap, hmax, hform⟩ := ha.form
  clear ha
  unfold maxLen at hmax
  go_wp2
  go_loop [4] (fun i => ∃ k : Nat, k ≤ (cps s).length ∧ i = .int .i64 k ∧ ((cps s).take k).all rightB = true) (fun i => (cps s).length - (intOf i).toNat)
  case atStart => exact ⟨0, Nat.zero_le _, rfl, by simp⟩
  case round =>
    obtain ⟨k, hk, rfl, hall⟩ := hrel
    have HA := Lib.hid hall
    clear hall
    by_cases hlt : k < (cps s).length
    · obtain ⟨g, hA, hcell⟩ : ∃ g, A = some ⟨g, 0, none⟩ ∧ ∀ k c, (cps s)[k]? = some c → w1.cell? ⟨g, k * 4, none⟩ = some (.int .i32 (c.1 : Nat)) ∧ w1.cell? ⟨g, k * 4 + 1, none⟩ = some (.int .i64 (c.2.1 : Nat)) ∧ w1.cell? ⟨g, k * 4 + 2, none⟩ = some (.int .i64 (c.2.2 : Nat)) ∧ w1.cell? ⟨g, k * 4 + 3, none⟩ = some (.bool (rightB c)) := by
        rcases hform with h | h
        · rw [h] at hlt; simp at hlt
        · exact h
      clear hform
      subst hA
      obtain ⟨c, hc⟩ : ∃ c, (cps s)[k]? = some c := ⟨_, List.getElem?_eq_getElem hlt⟩
      obtain ⟨_, _, _, hc3⟩ := hcell k c hc
      have hst : ((cps s).take (k + 1)).all rightB = rightB c := by
        rw [List.take_succ_eq_append_getElem hlt, List.all_append, HA.out, Bool.true_and]
        rw [List.getElem?_eq_getElem hlt] at hc
        injection hc with hc
        simp [hc]
      have HC := Lib.hid hc
      have HS := Lib.hid hst
      clear hcell hc hst
      obtain ⟨rb, hrb⟩ : ∃ b, rightB c = b := ⟨_, rfl⟩
      rw [hrb] at hc3
      have HR := Lib.hid hrb
      clear hrb
      cases rb with
      | true =>
        go_wp2
        go_round
        case rel => exact ⟨k + 1, by omega, by go_num, by rw [HS.out, HR.out]⟩
        case measure => simp [intOf]; omega
      | false =>
        have hv : validB s = false := by
          unfold validB
          rw [List.all_eq_false]
          exact ⟨c, List.mem_of_getElem? HC.out, by rw [HR.out]; decide⟩
        have HV := Lib.hid hv
        clear hv
        go_wp2
        go_ret
        exact ⟨ret_bool HV.out.symm, b1⟩
    · obtain rfl : k = (cps s).length := by omega
      have hv : validB s = true := by
        have := HA.out
        rw [List.take_length] at this
        exact this
      have HV := Lib.hid hv
      clear hv
      go_wp2
      go_ret
      exact ⟨ret_bool HV.out.symm, b1⟩

end Go.Proofs.YtdbdlgmejddbhaaDoor
