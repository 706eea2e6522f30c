/-
  Contracts of the document's own answers, chapter 4, last part: Scan.
-/
import Derived.Test.YtcihgnkmikhboaaRs3
set_option linter.unusedVariables false
set_option linter.unusedSimpArgs false
namespace Go.Proofs.Ytcihgnkmikhboaa
open Go Go.RowKit
attribute [local go_sem ↓] Go.wp_at_zero Go.wp_at_succ

set_option maxHeartbeats 2000000 in
set_option maxRecDepth 100000 in
theorem rscan_any (s : ByteArray) (w : World) (hs : s.size ≤ 1000000) :
    Calls Try.prog 10 #[.string s] w (ScanR s.data.toList w) := by
  have hsl : s.data.toList.length = s.size := (Lib.size_eq s).symm
  have HSL := Lib.hid hsl
  clear hsl
  go_enter Try.func10, Try.ntmps10
  go_wp2
  go_loopw [4, 5] (fun v4 v5 wr => ∃ (T : List ByteArray) (nT q : Nat), v5 = .int .i64 q ∧ q ≤ s.size ∧ wr.ownsRow w.heap.size 9 1 v4 nT (strRow T) ∧ Below w.heap.size w wr ∧ q = (puts 0 (lists T)).length ∧ puts 0 (lists T) <+: s.data.toList) (fun _ v5 _ => s.size - (intOf v5).toNat)
  case atStart => exact ⟨[], 0, 0, rfl, Nat.zero_le _, World.ownsRow_nil _ _ _ _, Below.refl _ _, rfl, List.nil_prefix⟩
  case round =>
    obtain ⟨T, nT, q, rfl, hqs, ho, hb, hq, hT⟩ := hrel
    have hz := hb.size
    have hnT : nT ≤ 1000000 := by
      have h5 := puts_count (lists T) 0
      have h7 := ho.1
      unfold strRow at h7
      rw [List.length_map] at h7
      rw [lists_length, ← hq] at h5
      omega
    have HQ := Lib.hid hq
    have HT := Lib.hid hT
    clear hq hT
    go_wp2_with fail
    refine (rone_any s q _ hqs hs).mono ?_
    rintro e w1 ⟨⟨x, ⟨rfl, hx⟩ | ⟨rfl, hno⟩⟩, b1⟩
    · have hb1 := hb.trans (b1.mono hz)
      have ho1 := own_below ho b1
      obtain ⟨nx, hnx⟩ : ∃ nx, q + (put q x.data.toList).length = nx := ⟨_, rfl⟩
      rw [hnx]
      have hlt : q < nx := by
        have := frm_length_ge q true x.data.toList
        unfold put at hnx
        omega
      have hnxs : nx ≤ s.size := by
        have := hx.length_le
        rw [List.length_drop, HSL.out] at this
        omega
      have hcell : (w1.alloc (.cells #[.string x] 9)).cell? ⟨w1.heap.size, 0, none⟩ = some (.string x) := cell_of_one (heap_alloc_new w1 _)
      have hpre : puts 0 (lists (T ++ [x])) <+: s.data.toList := by
        rw [lists_snoc]
        refine puts_more HT.out ?_
        rw [← HQ.out]
        exact hx
      have hnew : nx = (puts 0 (lists (T ++ [x]))).length := by
        rw [lists_snoc, puts_snoc_length, ← HQ.out, hnx]
      have HC := Lib.hid hcell
      have HP := Lib.hid hpre
      have HN := Lib.hid hnew
      have hz1 := hb1.size
      have d1 : decide ((nx : Int) < 0) = false := by simp
      clear hcell hpre hnew hx hnx ho
      go_wp2_with (at_builtin; refine list_ex rfl (.tmp 18) (.tmp 20) _ _ rfl _ _ rfl rfl (run_appText w.heap.size (ho1.alloc _) x HC.out ?s3 ?s4) ?_)
      case s3 => omega
      case s4 => simp; omega
      intro v6 w3 ho6 hg6
      have hb5 := grown_own (hb1.alloc hz1 (.cells #[.string x] 9)) (ho1.alloc _) hg6
      go_wp2
      go_roundw
      case rel => exact ⟨T ++ [x], nT + 1, nx, rfl, hnxs, ho6, hb5, HN.out, HP.out⟩
      case measure => simp [intOf]; omega
    · have hb1 := hb.trans (b1.mono hz)
      have ho1 := own_below ho b1
      have HNO := Lib.hid hno
      clear hno
      go_wp2
      go_ret2
      exact scanR_of ho1 hb1 HQ.out HT.out HNO.out
end Go.Proofs.Ytcihgnkmikhboaa
