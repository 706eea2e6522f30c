/-
  pack's CheckBatch.
-/
import Derived.Test.YtbfkbfbcaileoaaTkl
import Derived.Test.YtbfkbfbcaileoaaPt7
import Derived.Test.YtbfkbfbcaileoaaPt5
import Derived.Test.YtbfkbfbcaileoaaRnN
set_option linter.unusedVariables false
set_option linter.unusedSimpArgs false
namespace Go.Proofs.Ytbfkbfbcaileoaa
open Go Go.RowKit

theorem id_any (x : Int) (w : World) : Calls Try.prog 41 #[.int .i64 x] w fun e w' => e = .returned (.bool (dropB x)) ∧ Below w.heap.size w w' := by
  by_cases h1 : 1 ≤ x
  · have e1 : decide (1 ≤ x) = true := decide_eq_true h1
    by_cases h2 : x ≤ 1099511627776
    · have e2 : decide (x ≤ 1099511627776) = true := decide_eq_true h2
      have hv : dropB x = true := by unfold dropB; rw [e1, e2]; rfl
      rw [hv]
      clear hv
      go_enter Try.func41, Try.ntmps41
      go_wp2
      go_ret
      exact ⟨rfl, Below.refl _ _⟩
    · have e2 : decide (x ≤ 1099511627776) = false := decide_eq_false h2
      have hv : dropB x = false := by unfold dropB; rw [e1, e2]; rfl
      rw [hv]
      clear hv
      go_enter Try.func41, Try.ntmps41
      go_wp2
      go_ret
      exact ⟨rfl, Below.refl _ _⟩
  · have e1 : decide (1 ≤ x) = false := decide_eq_false h1
    have hv : dropB x = false := by unfold dropB; rw [e1]; rfl
    rw [hv]
    clear hv
    go_enter Try.func41, Try.ntmps41
    go_wp2
    go_ret
    exact ⟨rfl, Below.refl _ _⟩
theorem note_any (i : Int) (s : ByteArray) (w : World) (hs : s.size ≤ maxLen) : Calls Try.prog 39 #[.agg #[.int .i64 i, .string s]] w fun e w' => e = .returned (.bool (addB (i, s))) ∧ Below w.heap.size w w' := by
  have hv : addB (i, s) = (dropB i && decide (s.size ≤ 4096)) := by unfold addB dropB; rw [Bool.and_assoc]
  rw [hv]
  have bz := (Below.refl w.heap.size w).alloc (Nat.le_refl _) (.cells #[.int .i64 i, .string s] 51)
  have hz := heap_alloc_new w (.cells #[.int .i64 i, .string s] 51)
  obtain ⟨V, hV⟩ : ∃ V, V = w.alloc (.cells #[.int .i64 i, .string s] 51) := ⟨_, rfl⟩
  rw [← hV] at bz hz
  have hc0 := cell_at (i := 0) hz rfl
  have HZ := Lib.hid hz; have BZ := Lib.hid bz
  obtain ⟨u, hu⟩ : ∃ u, dropB i = u := ⟨_, rfl⟩
  have HU := Lib.hid hu
  rw [hu]
  clear hz bz hv hu
  go_enter Try.func39, Try.ntmps39
  go_wp2_with fail
  rw [← hV]
  clear hV
  refine (id_any i V).mono ?_
  rintro e w1 ⟨rfl, b1⟩
  rw [HU.out]
  have hz1 := (b1.block _ (Array.getElem?_eq_some_iff.1 HZ.out).1).trans HZ.out
  have B1 := Lib.hid (next BZ.out b1)
  have hc1 := cell_at (i := 1) hz1 rfl
  clear hz1 b1 hc0
  cases u with
  | false =>
    go_wp2
    go_ret
    exact ⟨rfl, B1.out⟩
  | true =>
    by_cases h4 : s.size ≤ 4096
    · have e1 : decide (s.size ≤ 4096) = true := decide_eq_true h4
      have e2 : decide ((s.size : Int) ≤ 4096) = true := decide_eq_true (by omega)
      go_wp2
      go_ret
      exact ⟨by rw [e1]; rfl, B1.out⟩
    · have e1 : decide (s.size ≤ 4096) = false := decide_eq_false h4
      have e2 : decide ((s.size : Int) ≤ 4096) = false := decide_eq_false (by omega)
      go_wp2
      go_ret
      exact ⟨by rw [e1]; rfl, B1.out⟩
set_option maxHeartbeats 600000 in
theorem mut_any (tb k : ByteArray) (g : Int) (A : Option Addr) (n c B : Nat) (L : List RA) (w : World) (hr : Lies w B A n c L) (hB : B ≤ w.heap.size) (htb : tb.size ≤ 1099511627776) (hn : n ≤ 1000000000) (hf : FewR L) :
    Calls Try.prog 37 #[.agg #[.string tb, .string k, .int .i64 g, .slice A n c]] w fun e w' => e = .returned (.bool (mutB (tb, ⟨k, g, ros L⟩))) ∧ Below w.heap.size w w' := by
  have bz := (Below.refl w.heap.size w).alloc (Nat.le_refl _) (.cells #[.string tb, .string k, .int .i64 g, .slice A n c] 49)
  have hz := heap_alloc_new w (.cells #[.string tb, .string k, .int .i64 g, .slice A n c] 49)
  obtain ⟨V, hV⟩ : ∃ V, V = w.alloc (.cells #[.string tb, .string k, .int .i64 g, .slice A n c] 49) := ⟨_, rfl⟩
  rw [← hV] at bz hz
  have hc0 := cell_at (i := 0) hz rfl
  have HZ := Lib.hid hz; have BZ := Lib.hid bz; have HR := Lib.hid hr; have HF := Lib.hid hf; have HB := Lib.hid hB; have HN := Lib.hid hn
  obtain ⟨u, hu⟩ : ∃ u, nameB tb = u := ⟨_, rfl⟩
  obtain ⟨u2, hu2⟩ : ∃ u, Pa.ok ⟨k, g, ros L⟩ = u := ⟨_, rfl⟩
  have hv : mutB (tb, ⟨k, g, ros L⟩) = (u && u2) := by unfold mutB; rw [hu, hu2]
  have HU := Lib.hid hu; have HU2 := Lib.hid hu2
  rw [hv]
  clear hz bz hv hu hu2 hr hf hB hn
  go_enter Try.func37, Try.ntmps37
  go_wp2_with fail
  rw [← hV]
  clear hV
  refine (name_any tb V htb).mono ?_
  rintro e w1 ⟨rfl, b1⟩
  rw [HU.out]
  have hz1 := (b1.block _ (Array.getElem?_eq_some_iff.1 HZ.out).1).trans HZ.out
  have B1 := Lib.hid (next BZ.out b1)
  have hc1 := cell_at (i := 1) hz1 rfl
  have hc2 := cell_at (i := 2) hz1 rfl
  have hc3 := cell_at (i := 3) hz1 rfl
  clear hz1 b1 hc0
  cases u with
  | false =>
    go_wp2
    go_ret
    exact ⟨rfl, B1.out⟩
  | true =>
    go_wp2_with fail
    refine (pcheck_any k g A n c B L w1 (HR.out.below (B1.out.mono HB.out)) (Nat.le_trans HB.out B1.out.size) HN.out HF.out).mono ?_
    rintro e w2 ⟨rfl, b2⟩
    rw [HU2.out]
    have B2 := Lib.hid (next B1.out b2)
    clear b2
    go_wp2
    go_ret
    exact ⟨rfl, B2.out⟩
end Go.Proofs.Ytbfkbfbcaileoaa
