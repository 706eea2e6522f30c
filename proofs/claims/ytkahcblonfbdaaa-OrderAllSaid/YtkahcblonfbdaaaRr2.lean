/-
  Contracts of the document's own answers, chapter 2, second part: Text, GetNum, GetText.
-/
import Derived.Test.YtkahcblonfbdaaaRr1
set_option linter.unusedVariables false
namespace Go.Proofs.Ytkahcblonfbdaaa
open Go Go.RowKit

theorem take_one (s : ByteArray) (k : Nat) (h : k < s.size) : (s.extract k (k + 1)).data.toList = [s[k]] := by
  rw [Lib.extract_data, Nat.add_sub_cancel_left, List.drop_eq_getElem_cons (by rw [← Lib.size_eq]; exact h)]
  rfl

set_option maxHeartbeats 2000000 in
theorem rtext_any (s : ByteArray) (w : World) (hs : s.size ≤ 17592186044416) :
    Calls Try.prog 12 #[.string s] w fun e w' => (∃ q : ByteArray, e = .returned (.string q) ∧ q.data.toList = txtL s.data.toList) ∧ w = w' := by
  have hl : s.data.toList.length = s.size := (Lib.size_eq s).symm
  have HL := Lib.hid hl
  clear hl
  go_enter Try.func12, Try.ntmps12
  go_wp2
  go_loop [3, 4] (fun t i => ∃ (k : Nat) (q : ByteArray), i = .int .i64 k ∧ k ≤ s.size ∧ t = .string q ∧ q.data.toList = esc (s.data.toList.take k) ∧ q.size ≤ 2 * k) (fun _ i => s.size - (intOf i).toNat)
  case atStart => exact ⟨0, ⟨#[]⟩, rfl, Nat.zero_le _, rfl, rfl, Nat.le_refl _⟩
  case round =>
    obtain ⟨k, q, rfl, hk, rfl, hq, hqs⟩ := hrel
    have HQ := Lib.hid hq
    clear hq
    by_cases hlt : k < s.size
    · have hkl : k < s.data.toList.length := by rw [HL.out]; exact hlt
      have ek : s.data.toList[k] = s[k] := rfl
      have h1 := take_one s k hlt
      have hpz : (s.extract k (k + 1)).size = 1 := by rw [Lib.size_eq, h1]; rfl
      obtain ⟨p, hp⟩ : ∃ p, s.extract k (k + 1) = p := ⟨_, rfl⟩
      rw [hp] at h1 hpz
      have hsl : ∀ wx : World, (Instr.slice 9 (.string s) (some (.int .i64 (k : Int))) (some (.int .i64 ((k : Int) + 1))) none).run Try.prog wx = .ok (.string p) wx := by
        intro wx
        rw [run_slice_string (P := Try.prog) wx 9 s .i64 .i64 k ((k : Int) + 1) Try.underlying9 (by omega) (by omega) (by omega), ← hp]
        rfl
      obtain ⟨q1, hq1⟩ : ∃ x : ByteArray, q ++ p = x := ⟨_, rfl⟩
      have hq1s : q1.size = q.size + 1 := by rw [← hq1, ByteArray.size_append, hpz]
      have hadd1 : ∀ wx : World, (Op.stringOp .add q p).run Try.prog wx = .ok (.string q1) wx := by
        intro wx; rw [run_string_add_sum wx q p (by omega), hq1]
      have hq1l : q1.data.toList = esc (s.data.toList.take k) ++ [s[k]] := by rw [← hq1, ← HQ.out, ← h1]; simp
      by_cases h0 : s[k] = 0
      · have hb : ((s[k].toNat : Int) == 0) = true := by rw [h0]; rfl
        obtain ⟨q2, hq2⟩ : ∃ x : ByteArray, q1 ++ ⟨#[255]⟩ = x := ⟨_, rfl⟩
        have hq2s : q2.size = q1.size + 1 := by rw [← hq2, ByteArray.size_append]; rfl
        have hadd2 : ∀ wx : World, (Op.stringOp .add q1 ⟨#[255]⟩).run Try.prog wx = .ok (.string q2) wx := by
          intro wx; rw [run_string_add_sum wx q1 ⟨#[255]⟩ (by rw [show (⟨#[255]⟩ : ByteArray).size = 1 from rfl]; omega), hq2]
        have hq2l : q2.data.toList = esc (s.data.toList.take (k + 1)) := by
          rw [← hq2, esc_snoc0 _ k hkl (by rw [ek]; exact h0), show [(0 : UInt8)] = [s[k]] from by rw [h0], ← hq1l]; simp
        have hq2z : q2.size ≤ 2 * (k + 1) := by omega
        have HR := Lib.hid hq2l
        have H0 := Lib.hid h0
        clear hq1 hq1s hq1l hq2 hq2s hq2l h0 h1 hpz hp ek
        go_wp2
        go_round
        case rel => exact ⟨k + 1, q2, by go_num, by omega, rfl, HR.out, hq2z⟩
        case measure => simp [intOf]; omega
      · have hb : ((s[k].toNat : Int) == 0) = false := by
          rw [beq_eq_false_iff_ne]
          intro h1
          exact h0 (UInt8.toNat_inj.1 (by rw [show s[k].toNat = 0 from by omega]; rfl))
        have hq1z : q1.size ≤ 2 * (k + 1) := by omega
        have hq2l : q1.data.toList = esc (s.data.toList.take (k + 1)) := by rw [hq1l, esc_snoc _ k hkl (by rw [ek]; exact h0), ek]
        have HR := Lib.hid hq2l
        have H0 := Lib.hid h0
        clear hq1 hq1s hq1l hq2l h0 h1 hpz hp ek
        go_wp2
        go_round
        case rel => exact ⟨k + 1, q1, by go_num, by omega, rfl, HR.out, hq1z⟩
        case measure => simp [intOf]; omega
    · obtain rfl : k = s.size := by omega
      obtain ⟨q2, hq2⟩ : ∃ x : ByteArray, q ++ ⟨#[0, 1]⟩ = x := ⟨_, rfl⟩
      have hadd2 : ∀ wx : World, (Op.stringOp .add q ⟨#[0, 1]⟩).run Try.prog wx = .ok (.string q2) wx := by
        intro wx; rw [run_string_add_sum wx q ⟨#[0, 1]⟩ (by rw [show (⟨#[0, 1]⟩ : ByteArray).size = 2 from rfl]; omega), hq2]
      have hr : q2.data.toList = txtL s.data.toList := by
        rw [← hq2, txtL]
        have := HQ.out
        rw [List.take_of_length_le (by rw [HL.out]; exact Nat.le_refl _)] at this
        rw [← this]; simp
      have HR := Lib.hid hr
      clear hq2 hr
      go_wp2
      go_ret
      exact ⟨⟨q2, rfl, HR.out⟩, rfl⟩
end Go.Proofs.Ytkahcblonfbdaaa
